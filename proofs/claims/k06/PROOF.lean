import PyProof.Rows.All
import Wide.All
import OpenK.AllK
import Wide.FinOn
import HandS.Base
import HandS.Call
import HandS.List
import HandS.Comp
import HandS.Ends
import HandS.Iter
import HandS.Text
import HandS.Words
import HandS.WordsList
import HandS.More
import HandS.Codes
import HandS.IsInst
import HandS.Zip
import HandS.Walk
import HandS.Style
import HandS.Defaults
import HandS.MakeKwOnly
import KE.KExcSuper
import HandS.Exc
import HandS.ExcInit
import HandS.ExcField
import HandS.Lambda
import HandS.Star
import HandS.WordsExc
import HandS.FStr
import HandS.Deep
import HandS.EndTab
import PySem.Challenge.RW_fivefault_k06_texts_that_are_no_terms
set_option Elab.async false
set_option linter.all false
set_option maxRecDepth 100000

namespace Fv
open PySem PySem.Spec PyProof.Rows L2
/-! ### heaps -/
theorem same_upd {H : Hp} {p : Addr} {o : HO} (h : H p = none) : Same H (upd H p o) := fun b x e => by
  rw [upd_ne (ne_of_none e h)]
  exact e
/-- all but what stands at M is as it was -/
def SmX (M : List Addr) (H H' : Hp) : Prop := ∀ b o, b ∉ M → H b = some o → H' b = some o
theorem SmX.refl (M : List Addr) (H : Hp) : SmX M H H := fun _ _ _ h => h
theorem SmX.trans {M : List Addr} {H H1 H2 : Hp} (a : SmX M H H1) (b : SmX M H1 H2) : SmX M H H2 := fun c o m h => b c o m (a c o m h)
theorem SmX.of_same {M : List Addr} {H H1 : Hp} (a : Same H H1) : SmX M H H1 := fun c o _ h => a c o h
theorem SmX.new {M : List Addr} {H : Hp} {p : Addr} {o : HO} (h : H p = none) : SmX M H (upd H p o) := .of_same (same_upd h)
theorem SmX.sub {M M' : List Addr} {H H1 : Hp} (a : SmX M H H1) (h : ∀ b, b ∈ M → b ∈ M' ∨ H b = none) : SmX M' H H1 := fun c o m e => by
  refine a c o (fun hc => ?_) e
  rcases h c hc with q | q
  · exact m q
  · rw [q] at e; cases e
theorem SmX.at {M : List Addr} {H H1 : Hp} {a : Addr} (h : ∀ b, b ≠ a → H1 b = H b) (m : a ∈ M) : SmX M H H1 := fun c o n e => by
  rw [h c (fun z => n (z ▸ m))]; exact e
theorem SmX.put {M : List Addr} {H H1 : Hp} {p : Addr} {o : HO} (a : SmX M H H1) (m : p ∈ M) : SmX M H (L2.upd H1 p o) := fun c x n e => by
  have ne : c ≠ p := fun z => n (z ▸ m)
  rw [upd_ne ne]; exact a c x n e
/-- what does not stand at M -/
def hide (M : List Addr) (H : Hp) : Hp := fun b => if b ∈ M then none else H b
theorem hide_ne {M : List Addr} {H : Hp} {b : Addr} (h : b ∉ M) : hide M H b = H b := by unfold hide; rw [if_neg h]
theorem hide_some {M : List Addr} {H : Hp} {b : Addr} {o : HO} (h : hide M H b = some o) : b ∉ M ∧ H b = some o := by
  unfold hide at h
  by_cases m : b ∈ M
  · rw [if_pos m] at h; cases h
  · rw [if_neg m] at h; exact ⟨m, h⟩
theorem hide_same {M : List Addr} {H : Hp} : Same (hide M H) H := fun b o h => (hide_some h).2
theorem SmX.hid {M : List Addr} {H H' : Hp} (h : SmX M H H') : Same (hide M H) (hide M H') := fun b o e => by
  obtain ⟨m, e⟩ := hide_some e
  rw [hide_ne m]
  exact h b o m e
theorem hide_sub {M M' : List Addr} {H : Hp} (h : ∀ b, b ∈ M' → b ∈ M) : Same (hide M H) (hide M' H) := fun b o e => by
  obtain ⟨m, e⟩ := hide_some e
  rw [hide_ne (fun z => m (h b z))]
  exact e
theorem same_seqT {K : PySem.W.Frag} {H H' : Hp} {a : Addr} {xs : List V} (e : Same H H') (h : SqT K H a xs) : SqT K H' a xs := by
  rcases h with (h | ⟨o, h⟩) | h
  · exact .inl (.inl (e _ _ h))
  · exact .inl (.inr ⟨o, e _ _ h⟩)
  · exact .inr h
mutual
theorem dp_same {K : PySem.W.Frag} {H H' : Hp} (e : Same H H') : ∀ (d : PyData) (v : V), Dp K H v d → Dp K H' v d
  | .none, _, h => by cases h; exact .non
  | .bool b, _, h => by cases h; exact .bl b
  | .int i, _, h => by cases h; exact .int i
  | .str x, _, h => by cases h; exact .str x
  | .list ds, _, h => by cases h with | lst hs ha => exact .lst (e.seq hs) (dpAll_same e ds _ ha)
  | .tuple ds, _, h => by cases h with | tup hs ha => exact .tup (same_seqT e hs) (dpAll_same e ds _ ha)
  | .dict kvs, _, h => by cases h
theorem dpAll_same {K : PySem.W.Frag} {H H' : Hp} (e : Same H H') : ∀ (ds : List PyData) (vs : List V), DpAll K H vs ds → DpAll K H' vs ds
  | [], _, h => by cases h; exact .nil
  | d :: ds, _, h => by cases h with | cons h1 h2 => exact .cons (dp_same e d _ h1) (dpAll_same e ds _ h2)
end
theorem dpAll_len {K : PySem.W.Frag} {H : Hp} : ∀ {vs : List V} {ds : List PyData}, DpAll K H vs ds → vs.length = ds.length
  | _, _, .nil => rfl
  | _, _, .cons _ h => by rw [List.length_cons, List.length_cons, dpAll_len h]
theorem dpAll_get {K : PySem.W.Frag} {H : Hp} : ∀ {vs : List V} {ds : List PyData} {i : Nat} {v : V}, DpAll K H vs ds → vs[i]? = some v → ∃ d, ds[i]? = some d ∧ Dp K H v d
  | _, _, _, _, .nil, e => by simp at e
  | _, _, 0, _, .cons h _, e => by simp at e; subst e; exact ⟨_, rfl, h⟩
  | _ :: vs, _ :: ds, i + 1, _, .cons _ h, e => by
    have e' : vs[i]? = some _ := e
    exact dpAll_get (ds := ds) h e'
theorem dpAll_app {K : PySem.W.Frag} {H : Hp} : ∀ {vs ws : List V} {ds es : List PyData}, DpAll K H vs ds → DpAll K H ws es → DpAll K H (vs ++ ws) (ds ++ es)
  | _, _, _, _, .nil, h => h
  | _, _, _, _, .cons h1 h2, h => .cons h1 (dpAll_app h2 h)
theorem dpAll_drop {K : PySem.W.Frag} {H : Hp} : ∀ (n : Nat) {vs : List V} {ds : List PyData}, DpAll K H vs ds → DpAll K H (vs.drop n) (ds.drop n)
  | 0, _, _, h => h
  | n + 1, _, _, .nil => .nil
  | n + 1, _, _, .cons _ h => dpAll_drop n h
/-! ### data -/
mutual
/-- plain data, nested at most n deep -/
def gd : Nat → PyData → Bool
  | _, .none => true
  | _, .bool _ => true
  | _, .int _ => true
  | _, .str x => PyData.strOk x && decide (x.length ≤ 100000)
  | 0, _ => false
  | n + 1, .list ds => gdAll n ds && decide (ds.length ≤ 1000)
  | n + 1, .tuple ds => gdAll n ds && decide (ds.length ≤ 1000)
  | _, .dict _ => false
def gdAll : Nat → List PyData → Bool
  | _, [] => true
  | n, d :: ds => gd n d && gdAll n ds
end
theorem gdAll_iff {n : Nat} : ∀ {ds : List PyData}, gdAll n ds = true ↔ ∀ d ∈ ds, gd n d = true
  | [] => by simp [gdAll]
  | d :: ds => by simp [gdAll, gdAll_iff (n := n) (ds := ds)]
mutual
theorem gd_up : ∀ (n : Nat) (d : PyData), gd n d = true → gd (n + 1) d = true
  | _, .none, _ => rfl
  | _, .bool _, _ => rfl
  | _, .int _, _ => rfl
  | 0, .str x, h => h
  | n + 1, .str x, h => h
  | 0, .list _, h => by cases h
  | 0, .tuple _, h => by cases h
  | 0, .dict _, h => by cases h
  | n + 1, .list ds, h => by
    simp only [gd, Bool.and_eq_true] at h ⊢
    exact ⟨gdAll_up n ds h.1, h.2⟩
  | n + 1, .tuple ds, h => by
    simp only [gd, Bool.and_eq_true] at h ⊢
    exact ⟨gdAll_up n ds h.1, h.2⟩
  | n + 1, .dict _, h => by cases h
theorem gdAll_up : ∀ (n : Nat) (ds : List PyData), gdAll n ds = true → gdAll (n + 1) ds = true
  | _, [], _ => rfl
  | n, d :: ds, h => by
    simp only [gdAll, Bool.and_eq_true] at h ⊢
    exact ⟨gd_up n d h.1, gdAll_up n ds h.2⟩
end
theorem gd_le {n m : Nat} {d : PyData} (h : gd n d = true) (hm : n ≤ m) : gd m d = true := by
  induction hm with
  | refl => exact h
  | step _ ih => exact gd_up _ _ ih
mutual
theorem gd_lay : ∀ (n : Nat) (d : PyData), gd n d = true → d.canLay0 = true ∧ d.depth ≤ n
  | _, .none, _ => ⟨rfl, by simp [PyData.depth]⟩
  | _, .bool _, _ => ⟨rfl, by simp [PyData.depth]⟩
  | _, .int _, _ => ⟨rfl, by simp [PyData.depth]⟩
  | 0, .str x, h => ⟨by simp only [gd, Bool.and_eq_true] at h; simpa [PyData.canLay0] using h.1, by simp [PyData.depth]⟩
  | n + 1, .str x, h => ⟨by simp only [gd, Bool.and_eq_true] at h; simpa [PyData.canLay0] using h.1, by simp [PyData.depth]⟩
  | 0, .list _, h => by cases h
  | 0, .tuple _, h => by cases h
  | 0, .dict _, h => by cases h
  | n + 1, .list ds, h => by
    have q := gdAll_lay n ds (by simp only [gd, Bool.and_eq_true] at h; exact h.1)
    exact ⟨by simpa [PyData.canLay0] using q.1, by simp only [PyData.depth]; omega⟩
  | n + 1, .tuple ds, h => by
    have q := gdAll_lay n ds (by simp only [gd, Bool.and_eq_true] at h; exact h.1)
    exact ⟨by simpa [PyData.canLay0] using q.1, by simp only [PyData.depth]; omega⟩
  | n + 1, .dict _, h => by cases h
theorem gdAll_lay : ∀ (n : Nat) (ds : List PyData), gdAll n ds = true → PyData.canLayAll0 ds = true ∧ PyData.depthAll ds ≤ n
  | _, [], _ => ⟨rfl, by simp [PyData.depthAll]⟩
  | n, d :: ds, h => by
    simp only [gdAll, Bool.and_eq_true] at h
    have a := gd_lay n d h.1
    have b := gdAll_lay n ds h.2
    exact ⟨by simp [PyData.canLayAll0, a.1, b.1], by simp only [PyData.depthAll]; omega⟩
end
theorem gd_list {n : Nat} {ds : List PyData} (h : gd (n + 1) (.list ds) = true) : ds.length ≤ 1000 ∧ ∀ d ∈ ds, gd n d = true := by
  simp only [gd, Bool.and_eq_true, decide_eq_true_eq] at h
  exact ⟨h.2, gdAll_iff.mp h.1⟩
theorem gd_tuple {n : Nat} {ds : List PyData} (h : gd (n + 1) (.tuple ds) = true) : ds.length ≤ 1000 ∧ ∀ d ∈ ds, gd n d = true := by
  simp only [gd, Bool.and_eq_true, decide_eq_true_eq] at h
  exact ⟨h.2, gdAll_iff.mp h.1⟩
theorem gd_tup {n : Nat} {ds : List PyData} (h : ∀ d ∈ ds, gd n d = true) (hl : ds.length ≤ 1000) : gd (n + 1) (.tuple ds) = true := by
  simp only [gd, Bool.and_eq_true, decide_eq_true_eq]
  exact ⟨gdAll_iff.mpr h, hl⟩
theorem gd_lst {n : Nat} {ds : List PyData} (h : ∀ d ∈ ds, gd n d = true) (hl : ds.length ≤ 1000) : gd (n + 1) (.list ds) = true := by
  simp only [gd, Bool.and_eq_true, decide_eq_true_eq]
  exact ⟨gdAll_iff.mpr h, hl⟩
theorem gd_shaped {n : Nat} {d : PyData} (h : gd n d = true) (hn : n ≤ 64) : SeqAt.shaped d = true := by
  have q := gd_lay n d h
  show (d.canLay0 && decide (d.depth ≤ 64)) = true
  rw [q.1, decide_eq_true (Nat.le_trans q.2 hn)]
  rfl
end Fv


namespace Fv
open PySem PySem.Spec PyProof.Rows L2
/-! ### an own def as its callers see it -/
structure Own (P : Program) (w : World) (K : PySem.W.Frag) (mg : Str → Option Value) (base : Heap) (k : Nat) (x : Str) (ps : List Str) (sp : Sp) : Prop where
  ex : ∃ (f : Addr) (fd : FuncData), mg x = some (.ref f) ∧ PySem.W.keepIn K (.ref f) = true ∧ Binds K fd ps [] ∧ FnOk P w K mg base CX0 k f fd ps sp
section
variable {X : Cx} {k : Nat} {x : Str} {ps : List Str} {sp : Sp} {e : Expr} {es : List Expr} {t : TA} {p pos : Pos}
theorem pe_own (C : Own X.prog X.w X.K X.mg X.base k x ps sp) (hr : Room k X.A) (hg : Gl X x) (ha : PA X (e :: es) t) (hdb : (x == ("__debug__" : Str)) = false := by decide)
    (he : starEach (e :: es) X.env = (false, eval e X.env) :: starEach es X.env := by rfl) (hpl : (backTo pos (starEach es X.env)).any (·.1) = false := by rfl) : PE X (.Call (.Name x p) (e :: es) [] pos) (tCall sp [] E0 t) := by
  obtain ⟨f, fd, h1, h2, h3, h4⟩ := C.ex
  exact pe_call h4 hr hg h1 h2 h3 .nil pass0 ha hdb he hpl
end
/-! ### isinstance of data -/
def tyN : PyData → String
  | .none => "NoneType"
  | .bool _ => "bool"
  | .int _ => "int"
  | .str _ => "str"
  | .list _ => "list"
  | .tuple _ => "tuple"
  | .dict _ => "dict"
/-- isinstance of data, by the names of the types -/
def isB : String → String → Bool
  | a, b => a == b || (a == "bool" && b == "int")
def tyOk (T : String) : Bool := T == "str" || T == "int" || T == "bool" || T == "list" || T == "tuple" || T == "dict"
theorem kitB_all {d : PyData} {T : String} (h : tyOk T = true) : kitB (tyN d) T = some (isB (tyN d) T) := by
  simp only [tyOk, Bool.or_eq_true, beq_iff_eq] at h
  rcases h with ((((h | h) | h) | h) | h) | h <;> subst h <;> cases d <;> (simp only [tyN]; decide +kernel)
theorem dp_ty {K : PySem.W.Frag} {H : Hp} {v : V} {d : PyData} (h : Dp K H v d) : TyX K H v (.type (tyN d)) := by
  cases h with
  | non => exact .base .non
  | bl b => exact .base (.bl b)
  | int i => exact .base (.int i)
  | str x => exact .base (.str x)
  | lst hs ha =>
    rcases hs with (h | ⟨o, h⟩) | ⟨o, its, n, h1, h2, _⟩
    · exact .base (.lst h)
    · exact .base (.frz h)
    · exact .kList h1 h2
  | tup hs ha =>
    rcases hs with (h | ⟨o, h⟩) | ⟨o, its, n, h1, h2, _⟩
    · exact .base (.tup h)
    · exact .fTuple h
    · exact .kTuple h1 h2
def rIsD (K : PySem.W.Frag) : List V → Hp → VK → Prop := fun xs H Q => ∃ (x : V) (T : String) (d : PyData), xs = [x, .ty T] ∧ tyOk T = true ∧ Dp K H x d ∧ Q (.bl (isB (tyN d) T)) H
theorem call_isD {X : Cx} : CallR X (.builtin "isinstance") (rIsD X.K) := by
  intro pins s σ H xs us Q I r h
  obtain ⟨x, T, d, rfl, hT, hd, q⟩ := h
  exact call_isi pins s σ H _ us Q I r ⟨x, .ty T, _, _, _, rfl, .ty T, dp_ty hd, kit_ty (kitB_all hT), q⟩
section
variable {X : Cx} {e : Expr} {te : TE} {T : String} {y : Str} {p p2 pos : Pos}
theorem pe_isD (hg : Gl X "isinstance") (hm : X.mg "isinstance" = none) (hg2 : Gl X y) (hm2 : X.mg y = none) (ha : PE X e te)
    (hv : bootBuiltins y = some (.type T) := by decide +kernel) (hn : y ≠ "__name__" := by decide) (hd2 : (y == ("__debug__" : Str)) = false := by decide)
    (he : starEach (e :: [.Name y p2]) X.env = (false, eval e X.env) :: starEach [.Name y p2] X.env := by rfl) (hpl : (backTo pos (starEach [.Name y p2] X.env)).any (·.1) = false := by rfl) :
    PE X (.Call (.Name "isinstance" p) [e, .Name y p2] [] pos) (tCB (rIsD X.K) (tCons te (tCons (tC (.ty T)) tNil))) :=
  pe_callB (x := "isinstance") call_isD hg hm (by decide +kernel) (pa_cons ha (pa_cons (pe_bltn (v := .ty T) (pos := p2) hg2 hm2 hv rfl hn hd2) pa_nil) (hs := he)) (by decide) (by decide) he hpl
/-! ### in, not in: a tuple of data -/
def rInT (K : PySem.W.Frag) : R2 := fun x y H Q => ∃ d ds, Dp K H x d ∧ Dp K H y (.tuple ds) ∧ SeqAt.shaped d = true ∧ SeqAt.shaped (.tuple ds) = true ∧ Q (.bl (ds.any fun z => PyData.eqv z d)) H
def rNotInT (K : PySem.W.Frag) : R2 := fun x y H Q => ∃ d ds, Dp K H x d ∧ Dp K H y (.tuple ds) ∧ SeqAt.shaped d = true ∧ SeqAt.shaped (.tuple ds) = true ∧ Q (.bl (!ds.any fun z => PyData.eqv z d)) H
theorem room_shaped {n : Nat} {ds : List PyData} {d : PyData} (h : SeqAt.shaped d = true) (hu : n + 65 < cLine) : n + 1 + min (PyData.depthAll ds) d.depth < cLine := by
  have := SeqAt.depth_of_shaped h
  have := Nat.min_le_right (PyData.depthAll ds) d.depth
  omega
theorem op_inT (hu : X.A.units + 65 < cLine) : OpR X (compareOp .In) (rInT X.K) := by
  intro pins s σ H x y v u Q I rx ry h
  obtain ⟨d, ds, hd, he, sd, se, q⟩ := h
  obtain ⟨as, r1⟩ := Dp.reads I d x v hd rx
  obtain ⟨bs, r2⟩ := Dp.reads I (.tuple ds) y u he ry
  exact SeqAt.in_tuple_reads r2 r1 (SeqAt.canLay_of_shaped se) (SeqAt.canLay_of_shaped sd) (room_shaped sd hu) ⟨.bl _, H, I, rfl, q⟩
theorem op_notInT (hu : X.A.units + 65 < cLine) : OpR X (compareOp .NotIn) (rNotInT X.K) := by
  intro pins s σ H x y v u Q I rx ry h
  obtain ⟨d, ds, hd, he, sd, se, q⟩ := h
  obtain ⟨as, r1⟩ := Dp.reads I d x v hd rx
  obtain ⟨bs, r2⟩ := Dp.reads I (.tuple ds) y u he ry
  exact SeqAt.notIn_tuple_reads r2 r1 (SeqAt.canLay_of_shaped se) (SeqAt.canLay_of_shaped sd) (room_shaped sd hu) ⟨.bl _, H, I, rfl, q⟩
end
theorem hu65 {A : Around} {k : Nat} (hr : Room k A) : A.units + 65 < cLine := by have := hr.un; omega
/-! ### the source of draws -/
/-- the source at a: its script at L, ns -/
def Src (H : Hp) (a L : Addr) (ns : List Int) : Prop := ∃ i p st c : Int, H a = some (.lst [.ref L, .int i, .int p, .int st, .int c]) ∧ H L = some (.lst (ns.map V.int)) ∧ 0 ≤ i ∧ 0 ≤ st ∧ st < 2147483629
theorem Src.off {H H' : Hp} {a L b : Addr} {ns : List Int} (h : Src H a L ns) (hb : H b = none) (e : ∀ c, c ≠ b → H' c = H c) : Src H' a L ns := by
  obtain ⟨i, p, st, c, h1, h2, h3⟩ := h
  exact ⟨i, p, st, c, by rw [e a (ne_of_none h1 hb)]; exact h1, by rw [e L (ne_of_none h2 hb)]; exact h2, h3⟩
theorem Src.same {H H' : Hp} {a L : Addr} {ns : List Int} (h : Src H a L ns) (e : Same H H') : Src H' a L ns := by
  obtain ⟨i, p, st, c, h1, h2, h3⟩ := h
  exact ⟨i, p, st, c, e _ _ h1, e _ _ h2, h3⟩
def spSource (K : PySem.W.Frag) : Sp := fun vs H Q _ => ∃ (a : Addr) (ns : List Int), vs = [.ref a] ∧ SqL K H a (ns.map V.int) ∧ ns.length ≤ 63 ∧
  ∀ (H' : Hp) (p L : Addr), Same H H' → H p = none → H L = none → Src H' p L ns → Q (.ref p) H'
def spTake : Sp := fun vs H Q _ => ∃ (a L : Addr) (ns : List Int) (n : Int), vs = [.ref a, .int n] ∧ Src H a L ns ∧ 1 ≤ n ∧ n ≤ 1000000 ∧
  ∀ (H' : Hp) (d : Int), 0 ≤ d → d < n → Src H' a L ns → (∀ b, b ≠ a → H' b = H b) → Q (.int d) H'
def spPick : Sp := fun vs H Q _ => ∃ (a L r : Addr) (ns : List Int) (xs : List V), vs = [.ref a, .ref r] ∧ Src H a L ns ∧ r ≠ a ∧ H r = some (.lst xs) ∧ 0 < xs.length ∧ xs.length ≤ 1000 ∧
  ∀ (H' : Hp) (v : V), v ∈ xs → Src H' a L ns → (∀ b, b ≠ a → H' b = H b) → Q v H'
def spMixed : Sp := fun vs H Q _ => ∃ (a L r : Addr) (ns : List Int) (xs : List V), vs = [.ref a, .ref r] ∧ Src H a L ns ∧ r ≠ a ∧ H r = some (.lst xs) ∧ xs.length ≤ 1000 ∧
  ∀ (H' : Hp) (p : Addr) (ys : List V), ys.Perm xs → H p = none → H' p = some (.lst ys) → Src H' a L ns → (∀ b, b ≠ a → b ≠ p → H' b = H b) → Q (.ref p) H'
end Fv


namespace Fv
open PySem PySem.Spec PyProof.Rows L2
/-! ### list(text) -/
def signs (x : Str) : List V := x.cps.toList.map fun c => V.str ⟨#[c]⟩
theorem vals_signs {x : Str} {acc : Array Value} (h : ItemsOf (SignAt x) acc x.cps.size) : Vals (signs x) acc.toList := by
  have hs : acc.toList.length = x.cps.toList.length := by simpa using h.1
  have hi : ∀ (j : Nat) (v : Value), acc.toList[j]? = some v → ∃ c u, x.cps.toList[j]? = some c ∧ v = .str ⟨#[c]⟩ u := fun j v e => by
    obtain ⟨c, u, e1, e2⟩ := h.2 j v (by simpa using e)
    exact ⟨c, u, by simpa using e1, e2⟩
  unfold signs
  generalize acc.toList = us at hs hi
  generalize x.cps.toList = cs at hs hi
  induction cs generalizing us with
  | nil =>
    cases us with
    | nil => exact .nil
    | cons u us => simp at hs
  | cons c cs ih =>
    cases us with
    | nil => simp at hs
    | cons u us =>
      obtain ⟨c', t, e1, e2⟩ := hi 0 u rfl
      simp at e1
      subst e1
      refine .cons ⟨t, e2⟩ (ih us (by simpa using hs) fun j v e => ?_)
      obtain ⟨c', t, e1, e2⟩ := hi (j + 1) v (by simpa using e)
      exact ⟨c', t, by simpa using e1, e2⟩
section
variable {X : Cx}
theorem call_listStr (hh : X.A.handled = none) : CallR X (.type "list") (fun xs H Q => ∃ x : Str, xs = [.str x] ∧ x.cps.size ≤ sizeLine ∧ ∀ l, H l = none → Q (.ref l) (upd H l (.lst (signs x)))) := by
  intro pins s σ H xs us Q I r h
  obtain ⟨x, rfl, hz, q⟩ := h
  obtain ⟨u, rfl, rx⟩ := vals1 r
  obtain ⟨t, rfl⟩ := rx
  refine call_list_str hh x t (fun h' tk acc' c' kp e it => ?_) hz
  have rv := vals_signs it
  refine ⟨.ref s.heap.objs.size, _, I.laid (t' := tk) kp (Nat.le_refl _) (show ObjOk X.prog X.w _ h' _ (.lst (signs x)) from ⟨?_, acc'.toList, c', rv, ?_⟩), rfl, q _ (I.hok.fresh (Nat.le_refl _))⟩
  · unfold signs; rw [List.length_map, Array.length_toList]; exact hz
  · simpa using e
end
theorem atI_mem {xs : List V} {i : Int} (h0 : 0 ≤ i) (h : i < (xs.length : Nat)) : ∃ v, atI xs i = some v ∧ v ∈ xs := by
  have hk : i.toNat < xs.length := by omega
  have q : atI xs ((i.toNat : Nat) : Int) = some xs[i.toNat] := atI_nat (List.getElem?_eq_getElem hk)
  rw [show ((i.toNat : Nat) : Int) = i by omega] at q
  exact ⟨_, q, List.getElem_mem hk⟩
theorem le1000 {n : Nat} (h : n ≤ 1000) : n ≤ sizeLine := Nat.le_of_lt (small1000 h)
/-- the letters of a list of signs are texts of one sign of a to h -/
def lett (v : V) : Prop := v ∈ signs "abcdefgh"
theorem lett_data {v : V} (h : lett v) : ∃ x : Str, v = .str x ∧ x ∈ (["a", "b", "c", "d", "e", "f", "g", "h"] : List Str) := by
  have e : signs "abcdefgh" = (["a", "b", "c", "d", "e", "f", "g", "h"] : List Str).map V.str := by decide +kernel
  unfold lett at h
  rw [e] at h
  obtain ⟨x, hx, rfl⟩ := List.mem_map.mp h
  exact ⟨x, rfl, hx⟩
def spSigns : Sp := fun vs H Q _ => ∃ (a L : Addr) (ns : List Int) (n : Int), vs = [.ref a, .int n] ∧ Src H a L ns ∧ 1 ≤ n ∧ n ≤ 8 ∧
  ∀ (H' : Hp) (p : Addr) (ys : List V), 0 < ys.length → ys.length ≤ n → (∀ y ∈ ys, lett y) → ys.Nodup → H p = none → H' p = some (.lst ys) → Src H' a L ns → SmX [a] H H' → Q (.ref p) H'
theorem cut_take (xs : List V) {n : Int} (h : 0 ≤ n) : cutV xs none (some n) = xs.take n.toNat := by
  unfold cutV
  rw [HT.sIx_none, show HT.sIx xs.length xs.length (some n) = min n.toNat xs.length by
    have := HT.sIx_nat xs.length xs.length n.toNat
    rw [show ((n.toNat : Nat) : Int) = n by omega] at this
    exact this]
  rw [List.drop_zero, Nat.sub_zero]
  rcases Nat.le_total n.toNat xs.length with q | q
  · rw [Nat.min_eq_left q]
  · rw [Nat.min_eq_right q, List.take_of_length_le (Nat.le_refl _), List.take_of_length_le q]
theorem cut_drop1 (xs : List V) : cutV xs (some 1) none = xs.drop 1 := by
  unfold cutV
  rw [show HT.sIx xs.length 0 (some 1) = min 1 xs.length from HT.sIx_nat xs.length 0 1, HT.sIx_none]
  cases xs with
  | nil => rfl
  | cons x r =>
    rw [show min 1 (x :: r).length = 1 by
      rw [List.length_cons]
      omega]
    show (List.take ((x :: r).length - 1) r) = r
    rw [List.length_cons, Nat.add_sub_cancel]
    exact List.take_length
end Fv


namespace Fv
open PySem PySem.Spec PyProof.Rows L2
/-! ### measures of data -/
def isL (s : Str) : Bool := decide (V.int (s.length : Nat) = V.int 1) && !(Builtin.Str.occurrences "abcdefgh" s 0 (Str.length "abcdefgh") 1).isEmpty
def isLd : PyData → Bool
  | .str s => isL s
  | _ => false
def isOp (o : PyData) : Bool := ([PyData.str "&", .str "|"] : List PyData).any fun z => PyData.eqv z o
def isCd : PyData → Bool
  | .tuple (o :: ds) => decide (2 ≤ ds.length) && isOp o
  | _ => false
def parts : PyData → List PyData
  | .tuple (_ :: ds) => ds
  | _ => []
def measL (f : PyData → Int → Option (Int × Int)) : List PyData → Int → Int → Int → Option (Int × Int)
  | [], _, dp, tot => some (dp + 1, tot)
  | d :: ds, ms, dp, tot => match f d (ms - tot) with
    | none => none
    | some (a, b) => measL f ds ms (if a > dp then a else dp) (tot + b)
def meas : Nat → PyData → Int → Option (Int × Int)
  | 0, _, _ => none
  | n + 1, d, ms => if ms < 1 then none else if isLd d = true then some (1, 1) else if isCd d = true then measL (meas n) (parts d) ms 0 0 else none
def lmeas : Nat → PyData → Int
  | 0, _ => 0
  | n + 1, d => if isLd d = true then 1 else if isCd d = true then (if (0 : Int) ∈ (parts d).map (lmeas n) then 0 else ((parts d).map (lmeas n)).sum) else 0
theorem sum_nonneg : ∀ {l : List Int}, (∀ x ∈ l, 0 ≤ x) → 0 ≤ l.sum
  | [], _ => by simp
  | x :: l, h => by
    rw [List.sum_cons]
    have := h x (List.mem_cons_self ..)
    have := sum_nonneg (l := l) fun y hy => h y (List.mem_cons_of_mem _ hy)
    omega
theorem lmeas_nonneg : ∀ (n : Nat) (d : PyData), 0 ≤ lmeas n d
  | 0, _ => by simp [lmeas]
  | n + 1, d => by
    unfold lmeas
    split
    · decide
    · split
      · split
        · decide
        · exact sum_nonneg fun x hx => by
            obtain ⟨d', _, rfl⟩ := List.mem_map.mp hx
            exact lmeas_nonneg n d'
      · decide
theorem measL_iff {f : PyData → Int → Option (Int × Int)} {g : PyData → Int} (hg : ∀ d, 0 ≤ g d)
    (hf : ∀ d ms, (f d ms = none ∧ ¬ (1 ≤ g d ∧ g d ≤ ms)) ∨ (∃ dp, f d ms = some (dp, g d) ∧ 1 ≤ g d ∧ g d ≤ ms)) :
    ∀ (ds : List PyData) (ms dp tot : Int), tot ≤ ms →
      (measL f ds ms dp tot = none ∧ ¬ ((∀ d ∈ ds, 1 ≤ g d) ∧ tot + (ds.map g).sum ≤ ms)) ∨ (∃ dp', measL f ds ms dp tot = some (dp', tot + (ds.map g).sum) ∧ (∀ d ∈ ds, 1 ≤ g d) ∧ tot + (ds.map g).sum ≤ ms)
  | [], ms, dp, tot, h => by
    refine .inr ⟨dp + 1, ?_, by simp, by simpa using h⟩
    simp [measL]
  | d :: ds, ms, dp, tot, h => by
    have hs : 0 ≤ (ds.map g).sum := sum_nonneg fun x hx => by
      obtain ⟨d', _, rfl⟩ := List.mem_map.mp hx
      exact hg d'
    rw [List.map_cons, List.sum_cons]
    rcases hf d (ms - tot) with ⟨e, ne⟩ | ⟨a, e, e1, e2⟩
    · refine .inl ⟨by simp only [measL, e], fun ⟨q1, q2⟩ => ne ⟨q1 d (List.mem_cons_self ..), by omega⟩⟩
    · have st : measL f (d :: ds) ms dp tot = measL f ds ms (if a > dp then a else dp) (tot + g d) := by simp only [measL, e]
      rw [st]
      rcases measL_iff hg hf ds ms (if a > dp then a else dp) (tot + g d) (by omega) with ⟨e', ne⟩ | ⟨dp', e', q1, q2⟩
      · refine .inl ⟨e', fun ⟨q1, q2⟩ => ne ⟨fun x hx => q1 x (List.mem_cons_of_mem _ hx), by omega⟩⟩
      · refine .inr ⟨dp', by rw [e', Int.add_assoc], fun x hx => ?_, by omega⟩
        rcases List.mem_cons.mp hx with e | hx
        · rw [e]; exact e1
        · exact q1 x hx
theorem meas_iff : ∀ (n : Nat) (d : PyData) (ms : Int), (meas n d ms = none ∧ ¬ (1 ≤ lmeas n d ∧ lmeas n d ≤ ms)) ∨ (∃ dp, meas n d ms = some (dp, lmeas n d) ∧ 1 ≤ lmeas n d ∧ lmeas n d ≤ ms)
  | 0, d, ms => .inl ⟨rfl, fun h => by simp only [lmeas] at h; omega⟩
  | n + 1, d, ms => by
    have hn := lmeas_nonneg (n + 1) d
    unfold meas
    by_cases h1 : ms < 1
    · rw [if_pos h1]
      exact .inl ⟨rfl, fun h => by omega⟩
    · rw [if_neg h1]
      unfold lmeas
      by_cases h2 : isLd d = true
      · rw [if_pos h2, if_pos h2]
        exact .inr ⟨1, rfl, by decide, by omega⟩
      · rw [if_neg h2, if_neg h2]
        by_cases h3 : isCd d = true
        · rw [if_pos h3, if_pos h3]
          have q := measL_iff (g := lmeas n) (lmeas_nonneg n) (meas_iff n) (parts d) ms 0 0 (by omega)
          rw [Int.zero_add] at q
          by_cases h4 : (0 : Int) ∈ (parts d).map (lmeas n)
          · rw [if_pos h4]
            rcases q with ⟨e, _⟩ | ⟨dp, e, q1, _⟩
            · exact .inl ⟨e, fun h => by omega⟩
            · obtain ⟨x, hx, e0⟩ := List.mem_map.mp h4
              have := q1 x hx
              omega
          · rw [if_neg h4]
            have all1 : ∀ x ∈ parts d, 1 ≤ lmeas n x := fun x hx => by
              have z := lmeas_nonneg n x
              rcases Int.lt_or_eq_of_le z with z | z
              · omega
              · exact absurd (List.mem_map.mpr ⟨x, hx, z.symm⟩) h4
            rcases q with ⟨e, ne⟩ | ⟨dp, e, q1, q2⟩
            · exact .inl ⟨e, fun h => ne ⟨all1, h.2⟩⟩
            · refine .inr ⟨dp, e, ?_, q2⟩
              have hp : parts d ≠ [] := by
                cases d with
                | tuple ds =>
                  cases ds with
                  | nil => cases h3
                  | cons o ds =>
                    intro e0
                    simp only [parts] at e0
                    rw [e0] at h3
                    simp [isCd] at h3
                | _ => cases h3
              cases hd : parts d with
              | nil => exact absurd hd hp
              | cons x r =>
                rw [hd] at all1
                rw [List.map_cons, List.sum_cons]
                have := all1 x (List.mem_cons_self ..)
                have := sum_nonneg (l := r.map (lmeas n)) fun y hy => by
                  obtain ⟨d', _, rfl⟩ := List.mem_map.mp hy
                  exact lmeas_nonneg n d'
                omega
        · rw [if_neg h3, if_neg h3]
          exact .inl ⟨rfl, fun h => by omega⟩
/-- the two measures agree -/
theorem meas_some (n : Nat) (d : PyData) (ms : Int) : (meas n d ms).isSome = (decide (1 ≤ lmeas n d) && decide (lmeas n d ≤ ms)) := by
  rcases meas_iff n d ms with ⟨e, ne⟩ | ⟨dp, e, h1, h2⟩
  · rw [e]
    by_cases a : 1 ≤ lmeas n d
    · have b : ¬ lmeas n d ≤ ms := fun z => ne ⟨a, z⟩
      simp [b]
    · simp [a]
  · rw [e]; simp [h1, h2]
/-! ### contracts -/
/-- plain data at v: nested at most 20 deep -/
def spIsLetter (K : PySem.W.Frag) : Sp := fun vs H Q _ => ∃ (v : V) (d : PyData), vs = [v] ∧ Dp K H v d ∧ gd 20 d = true ∧ Q (.bl (isLd d)) H
def spIsCompound (K : PySem.W.Frag) : Sp := fun vs H Q _ => ∃ (v : V) (d : PyData), vs = [v] ∧ Dp K H v d ∧ gd 20 d = true ∧ Q (.bl (isCd d)) H
def spMeas (K : PySem.W.Frag) (n : Nat) : Sp := fun vs H Q _ => ∃ (v : V) (d : PyData) (md ms : Int), vs = [v, .int md, .int ms] ∧ Dp K H v d ∧ gd 20 d = true ∧ 0 ≤ md ∧ md < n ∧
  (meas md.toNat d ms = none → ∀ H', Same H H' → Q .non H') ∧ (∀ dp sz, meas md.toNat d ms = some (dp, sz) → ∀ (H' : Hp) (p : Addr), Same H H' → H' p = some (.tup [.int dp, .int sz]) → Q (.ref p) H')
def spIsTerm (K : PySem.W.Frag) : Sp := fun vs H Q _ => ∃ (v : V) (d : PyData) (md ms : Int), vs = [v, .int md, .int ms] ∧ Dp K H v d ∧ gd 20 d = true ∧ 0 ≤ md ∧ md < 20 ∧
  ∀ H', Same H H' → Q (.bl (meas md.toNat d ms).isSome) H'
def spMeasure (K : PySem.W.Frag) (n : Nat) : Sp := fun vs H Q _ => ∃ (v : V) (d : PyData) (md : Int), vs = [v, .int md] ∧ Dp K H v d ∧ gd 20 d = true ∧ 0 ≤ md ∧ md < n ∧
  ∀ H', Same H H' → Q (.int (lmeas md.toNat d)) H'
def spFits (K : PySem.W.Frag) : Sp := fun vs H Q _ => ∃ (v : V) (d : PyData), vs = [v] ∧ Dp K H v d ∧ gd 20 d = true ∧
  ∀ H', Same H H' → Q (.bl (decide (1 ≤ lmeas 5 d) && decide (lmeas 5 d ≤ 24))) H'
theorem gd_parts {n : Nat} {o : PyData} {ds : List PyData} (h : gd (n + 1) (.tuple (o :: ds)) = true) : gd n o = true ∧ ∀ d ∈ ds, gd n d = true := by
  have q := (gd_tuple h).2
  exact ⟨q o (List.mem_cons_self ..), fun d hd => q d (List.mem_cons_of_mem _ hd)⟩
theorem drop_cons_get {α : Type} {l : List α} {i : Nat} {x : α} (h : l[i]? = some x) : l.drop i = x :: l.drop (i + 1) := by
  obtain ⟨hi, e⟩ := List.getElem?_eq_some_iff.mp h
  rw [List.drop_eq_getElem_cons hi, e]
theorem dropHead {vs : List V} {ds : List PyData} {K : PySem.W.Frag} {H : Hp} (h : DpAll K H vs ds) : DpAll K H (vs.drop 1) (ds.drop 1) := dpAll_drop 1 h
theorem isOp_str : isOp (.str "&") = true ∧ isOp (.str "|") = true := by decide +kernel
end Fv


namespace Fv
open PySem PySem.Spec PyProof.Rows L2
/-! ### own defs with defaults, called with and without keywords -/
structure OwnD (P : Program) (w : World) (K : PySem.W.Frag) (mg : Str → Option Value) (base : Heap) (k : Nat) (x : Str) (ps : List Str) (dvs : List V) (sp : Sp) : Prop where
  ex : ∃ (f : Addr) (fd : FuncData) (ds : List Value), mg x = some (.ref f) ∧ PySem.W.keepIn K (.ref f) = true ∧ Binds K fd ps ds ∧ Vals dvs ds ∧ FnOk P w K mg base CX0 k f fd ps sp
structure OwnK (P : Program) (w : World) (K : PySem.W.Frag) (mg : Str → Option Value) (base : Heap) (k : Nat) (x : Str) (ps : List Str) (n : Nat) (ks : List Str) (gV : List V → List V → List V) (sp : Sp) : Prop where
  ex : ∃ (f : Addr) (fd : FuncData) (g : List Value → List Value → List Value), mg x = some (.ref f) ∧ PySem.W.keepIn K (.ref f) = true ∧ KBn K fd ps n ks g gV ∧ FnOk P w K mg base CX0 k f fd ps sp
section
variable {X : Cx} {k n : Nat} {x : Str} {ps ks : List Str} {dvs : List V} {gV : List V → List V → List V} {sp : Sp} {e : Expr} {es : List Expr} {t tk : TA} {p pos : Pos} {kws : List Keyword}
theorem pe_ownD (C : OwnD X.prog X.w X.K X.mg X.base k x ps dvs sp) (hr : Room k X.A) (hg : Gl X x) (ha : PA X (e :: es) t) (hdb : (x == ("__debug__" : Str)) = false := by decide)
    (he : starEach (e :: es) X.env = (false, eval e X.env) :: starEach es X.env := by rfl) (hpl : (backTo pos (starEach es X.env)).any (·.1) = false := by rfl) : PE X (.Call (.Name x p) (e :: es) [] pos) (tCall sp dvs E0 t) := by
  obtain ⟨f, fd, ds, h1, h2, h3, h4, h5⟩ := C.ex
  exact pe_call h5 hr hg h1 h2 h3 h4 pass0 ha hdb he hpl
theorem pe_ownK (C : OwnK X.prog X.w X.K X.mg X.base k x ps n ks gV sp) (hr : Room k X.A) (hg : Gl X x) (ha : PA X (e :: es) t) (hkw : PK X kws tk)
    (hall : (backToKw pos (keywordEach kws X.env)).all (·.1.isSome) = true := by rfl) (hks : (backToKw pos (keywordEach kws X.env)).filterMap (·.1) = ks := by rfl)
    (hdb : (x == ("__debug__" : Str)) = false := by decide) (he : starEach (e :: es) X.env = (false, eval e X.env) :: starEach es X.env := by rfl)
    (hpl : ((backTo pos (starEach (e :: es) X.env)).any (·.1) || (backToKw pos (keywordEach kws X.env)).any (·.1.isNone)) = false := by rfl) :
    PE X (.Call (.Name x p) (e :: es) kws pos) (tCallN n ks.length sp gV E0 t tk) := by
  obtain ⟨f, fd, g, h1, h2, h3, h4⟩ := C.ex
  exact pe_callN h4 hr hg h1 h2 h3 pass0 ha hkw hall hks hdb he hpl
/-- no positional value -/
theorem pe_ownK0 (C : OwnK X.prog X.w X.K X.mg X.base k x ps 0 ks gV sp) (hr : Room k X.A) (hg : Gl X x) (hkw : PK X kws tk)
    (hall : (backToKw pos (keywordEach kws X.env)).all (·.1.isSome) = true := by rfl) (hks : (backToKw pos (keywordEach kws X.env)).filterMap (·.1) = ks := by rfl)
    (hdb : (x == ("__debug__" : Str)) = false := by decide)
    (hpl : ((backTo pos (starEach [] X.env)).any (·.1) || (backToKw pos (keywordEach kws X.env)).any (·.1.isNone)) = false := by rfl) :
    PE X (.Call (.Name x p) [] kws pos) (tCallN 0 ks.length sp gV E0 tNil tk) := by
  obtain ⟨f, fd, g, h1, h2, h3, h4⟩ := C.ex
  refine ⟨fun pins s σ H Q I h => ?_⟩
  refine wpAny_Call_Name_kw (ld_glob I hg h1 ?_ hdb)
  refine PySem.W.callWith_KW0 (h₀ := X.base) I.ok.mod.kin h2 hall ?_ hpl
  refine thn (hkw.run pos pins s σ H _ I h) fun ws s2 ⟨zs, H2, I2, rz, l1, l2, q2⟩ => ⟨I2.kIn, ?_⟩
  rw [hks]
  exact run_fnN h4 hr h3 pass0 I2 .nil rz l1 l2 q2
end
end Fv


namespace Fv
open PySem PySem.Spec PyProof.Rows L2
/-! ### what is tracked; values that are plain data apart from M -/
def Trk (M : List Addr) (H : Hp) : Prop := ∀ b ∈ M, ∃ o, H b = some o
theorem Trk.same {M : List Addr} {H H' : Hp} (h : Trk M H) (s : Same H H') : Trk M H' := fun b hb => by
  obtain ⟨o, e⟩ := h b hb
  exact ⟨o, s _ _ e⟩
theorem Trk.smx {M N : List Addr} {H H' : Hp} (h : Trk M H) (s : SmX N H H') (hN : Trk N H') : Trk M H' := fun b hb => by
  by_cases m : b ∈ N
  · exact hN b m
  · obtain ⟨o, e⟩ := h b hb
    exact ⟨o, s _ _ m e⟩
theorem Trk.ne {M : List Addr} {H : Hp} (h : Trk M H) {p : Addr} (np : H p = none) : p ∉ M := fun hp => by
  obtain ⟨o, e⟩ := h p hp
  rw [np] at e
  cases e
theorem hid_new {M : List Addr} {H : Hp} {p : Addr} {o : HO} (np : H p = none) : Same (hide M H) (hide M (upd H p o)) := (SmX.new np).hid
theorem hid_at {M : List Addr} {H : Hp} (h : Trk M H) {p : Addr} {o : HO} (np : H p = none) : hide M (upd H p o) p = some o := by
  rw [hide_ne (h.ne np), upd_same]
def GV (K : PySem.W.Frag) (n : Nat) (M : List Addr) (H : Hp) (v : V) : Prop := ∃ d, Dp K (hide M H) v d ∧ gd n d = true
theorem GV.same {K : PySem.W.Frag} {n : Nat} {M : List Addr} {H H' : Hp} {v : V} (g : GV K n M H v) (s : Same H H') : GV K n M H' v := by
  obtain ⟨d, h1, h2⟩ := g
  exact ⟨d, dp_same (SmX.of_same s).hid d v h1, h2⟩
theorem GV.up {K : PySem.W.Frag} {n m : Nat} {M : List Addr} {H : Hp} {v : V} (g : GV K n M H v) (h : n ≤ m) : GV K m M H v := by
  obtain ⟨d, h1, h2⟩ := g
  exact ⟨d, h1, gd_le h2 h⟩
theorem GV.str {K : PySem.W.Frag} {n : Nat} {M : List Addr} {H : Hp} {x : Str} (h : gd 0 (.str x) = true) : GV K n M H (.str x) := ⟨_, .str x, gd_le h (Nat.zero_le _)⟩
theorem GV.int {K : PySem.W.Frag} {n : Nat} {M : List Addr} {H : Hp} (i : Int) : GV K n M H (.int i) := ⟨_, .int i, gd_le (n := 0) rfl (Nat.zero_le _)⟩
theorem GV.bl {K : PySem.W.Frag} {n : Nat} {M : List Addr} {H : Hp} (b : Bool) : GV K n M H (.bl b) := ⟨_, .bl b, gd_le (n := 0) rfl (Nat.zero_le _)⟩
theorem GV.non {K : PySem.W.Frag} {n : Nat} {M : List Addr} {H : Hp} : GV K n M H .non := ⟨_, .non, gd_le (n := 0) rfl (Nat.zero_le _)⟩
theorem gv_all {K : PySem.W.Frag} {n : Nat} {M : List Addr} {H : Hp} : ∀ {xs : List V}, (∀ x ∈ xs, GV K n M H x) → ∃ ds, DpAll K (hide M H) xs ds ∧ ∀ d ∈ ds, gd n d = true
  | [], _ => ⟨[], .nil, fun d h => nomatch h⟩
  | x :: xs, h => by
    obtain ⟨d, h1, h2⟩ := h x (List.mem_cons_self ..)
    obtain ⟨ds, h3, h4⟩ := gv_all (xs := xs) fun y hy => h y (List.mem_cons_of_mem _ hy)
    refine ⟨d :: ds, .cons h1 h3, fun e he => ?_⟩
    rcases List.mem_cons.mp he with z | z
    · rw [z]; exact h2
    · exact h4 e z
theorem GV.tup {K : PySem.W.Frag} {n : Nat} {M : List Addr} {H : Hp} {p : Addr} {xs : List V} (hM : Trk M H) (np : H p = none) (h : ∀ x ∈ xs, GV K n M H x) (hl : xs.length ≤ 1000 := by decide) : GV K (n + 1) M (upd H p (.tup xs)) (.ref p) := by
  obtain ⟨ds, h1, h2⟩ := gv_all h
  exact ⟨.tuple ds, .tup (SqT.of (hid_at hM np)) (dpAll_same (hid_new np) _ _ h1), gd_tup h2 (by rw [← dpAll_len h1]; exact hl)⟩
theorem GV.lst {K : PySem.W.Frag} {n : Nat} {M : List Addr} {H : Hp} {p : Addr} {xs : List V} (hM : Trk M H) (np : H p = none) (h : ∀ x ∈ xs, GV K n M H x) (hl : xs.length ≤ 1000 := by decide) : GV K (n + 1) M (upd H p (.lst xs)) (.ref p) := by
  obtain ⟨ds, h1, h2⟩ := gv_all h
  exact ⟨.list ds, .lst (SqL.of (hid_at hM np)) (dpAll_same (hid_new np) _ _ h1), gd_lst h2 (by rw [← dpAll_len h1]; exact hl)⟩
theorem Src.trk {H : Hp} {a L : Addr} {ns : List Int} (h : Src H a L ns) : Trk [a] H := fun b hb => by
  obtain ⟨_, _, _, _, e, _⟩ := h
  rw [List.mem_singleton.mp hb]
  exact ⟨_, e⟩
theorem Src.ne {H : Hp} {a L p : Addr} {ns : List Int} (h : Src H a L ns) (np : H p = none) : a ≠ p := by
  obtain ⟨_, _, _, _, e, _⟩ := h
  exact ne_of_none e np
theorem Src.put {H : Hp} {a L p : Addr} {ns : List Int} {o : HO} (h : Src H a L ns) (pa : p ≠ a) (pL : p ≠ L) : Src (upd H p o) a L ns := by
  obtain ⟨i, q, st, c, h1, h2, h3⟩ := h
  exact ⟨i, q, st, c, by rw [upd_ne pa.symm]; exact h1, by rw [upd_ne pL.symm]; exact h2, h3⟩
theorem Src.new {H : Hp} {a L p : Addr} {ns : List Int} {o : HO} (h : Src H a L ns) (np : H p = none) : Src (upd H p o) a L ns := h.same (same_upd np)
/-- the term that is drawn: its data d, its depth at most n, its size by the room that was used -/
def spTerm (K : PySem.W.Frag) (n : Nat) : Sp := fun vs H Q _ => ∃ (a L sg r : Addr) (ns : List Int) (deep m : Int) (ys : List V) (M : List Addr), vs = [.ref a, .ref sg, .int deep, .ref r] ∧ Src H a L ns ∧
  H sg = some (.lst ys) ∧ 0 < ys.length ∧ ys.length ≤ 8 ∧ (∀ y ∈ ys, lett y) ∧ H r = some (.lst [.int m]) ∧ sg ≠ a ∧ sg ≠ r ∧ r ≠ a ∧ r ≠ L ∧ 0 ≤ m ∧ m ≤ 1000 ∧ 1 ≤ deep ∧ deep ≤ n ∧ a ∈ M ∧ r ∈ M ∧ Trk M H ∧
  ∀ (H' : Hp) (v : V) (d : PyData) (m' : Int), Dp K (hide M H') v d → lmeas deep.toNat d = m - m' + 1 → 0 ≤ m' → m' ≤ m → gd deep.toNat d = true → Src H' a L ns → H' r = some (.lst [.int m']) → SmX [a, r] H H' → Q v H'
def spAnyTerm (K : PySem.W.Frag) : Sp := fun vs H Q _ => ∃ (a L : Addr) (ns : List Int) (M : List Addr), vs = [.ref a] ∧ Src H a L ns ∧ a ∈ M ∧ Trk M H ∧
  ∀ (H' : Hp) (v : V) (d : PyData) (n : Nat), Dp K (hide M H') v d → 1 ≤ n → n ≤ 5 → 1 ≤ lmeas n d → lmeas n d ≤ 24 → gd n d = true → Src H' a L ns → SmX [a] H H' → Q v H'
def nestD : Nat → PyData
  | 0 => .str "a"
  | n + 1 => .tuple [.str (if n % 2 = 0 then "&" else "|"), nestD n, .str "b"]
def spNest (K : PySem.W.Frag) : Sp := fun vs H Q _ => ∃ (n : Nat) (M : List Addr), vs = [.int (n : Nat)] ∧ n ≤ 12 ∧ Trk M H ∧
  ∀ (H' : Hp) (v : V), Dp K (hide M H') v (nestD n) → Same H H' → Q v H'
def spOdd (K : PySem.W.Frag) : Sp := fun vs H Q _ => ∃ (a L : Addr) (ns : List Int) (v : V) (M : List Addr), vs = [.ref a, v] ∧ Src H a L ns ∧ GV K 5 M H v ∧ a ∈ M ∧ Trk M H ∧
  ∀ (H' : Hp) (v' : V), GV K 12 M H' v' → Src H' a L ns → SmX [a] H H' → Q v' H'
theorem isL_lett {x : Str} (h : x ∈ (["a", "b", "c", "d", "e", "f", "g", "h"] : List Str)) : isL x = true ∧ gd 0 (.str x) = true := by
  have q : ∀ x ∈ (["a", "b", "c", "d", "e", "f", "g", "h"] : List Str), isL x = true ∧ gd 0 (.str x) = true := by decide +kernel
  exact q x h
theorem nest_gd : ∀ n : Nat, gd n (nestD n) = true
  | 0 => by decide +kernel
  | n + 1 => gd_tup (fun d hd => by
      rcases List.mem_cons.mp hd with e | hd
      · rw [e]
        refine gd_le (n := 0) ?_ (Nat.zero_le _)
        split <;> decide +kernel
      · rcases List.mem_cons.mp hd with e | hd
        · rw [e]; exact nest_gd n
        · rw [List.mem_singleton.mp hd]
          exact gd_le (n := 0) (by decide +kernel) (Nat.zero_le _)) (by show 3 ≤ 1000; decide)
/-- a term made of parts -/
theorem lmeas_tup {n : Nat} {op : Str} {ds : List PyData} {t : Int} (ho : isOp (.str op) = true) (h2 : 2 ≤ ds.length) (h1 : ∀ d ∈ ds, 1 ≤ lmeas n d) (hs : (ds.map (lmeas n)).sum = t) : lmeas (n + 1) (.tuple (.str op :: ds)) = t := by
  have e : lmeas (n + 1) (.tuple (.str op :: ds)) = if (decide (2 ≤ ds.length) && isOp (.str op)) = true then (if (0 : Int) ∈ ds.map (lmeas n) then 0 else (ds.map (lmeas n)).sum) else 0 := by
    show (if false = true then _ else _) = _
    rw [if_neg (fun z => by cases z)]
    rfl
  rw [e, ho, decide_eq_true h2, Bool.and_self, if_pos rfl, if_neg, hs]
  intro z
  obtain ⟨d, hd, e⟩ := List.mem_map.mp z
  have := h1 d hd
  omega
end Fv


set_option maxHeartbeats 2000000
namespace FvX
open PySem PySem.W PySem.Calls PyProof.Rows
/-! ### an own error whose __init__ says super().__init__(text) and self.code = text -/
abbrev errScope : Scope := { kind := .function, names := [("self", .local), ("__class__", .free), ("super", .globalImplicit)], isGenerator := false, isCoroutine := false, more := [] }
abbrev errParams (pp : Pos) : Arguments := { posonlyargs := [], args := [{ arg := "self", annotation := none, pos := pp : Arg }], vararg := none, kwonlyargs := [], kw_defaults := [], kwarg := none, defaults := [] }
/-- the places of such a body's parts -/
structure ErrPos where
  (p0 p1 p2 p3 p4 p5 p6 p7 p8 p9 pp : Pos)
abbrev errBody (q : ErrPos) (msg cod : Str) (j1 j2 : Nat) : List Stmt :=
  [.Expr (.Call (.Attribute (.Call (.Name "super" q.p0) [] [] q.p1) "__init__" q.p2) [.Constant (.str msg) j1 q.p3] [] q.p4) q.p5, .Assign [.Attribute (.Name "self" q.p6) "code" q.p7] (.Constant (.str cod) j2 q.p8) q.p9]
/-- the call stands on one line -/
def LineOk (q : ErrPos) (msg : Str) (j1 : Nat) : Prop := ∀ env : Env, ∃ pl : Sem Bool, eval (.Call (.Attribute (.Call (.Name "super" q.p0) [] [] q.p1) "__init__" q.p2) [.Constant (.str msg) j1 q.p3] [] q.p4) env = (do
  let ov ← attributeBase (.Call (.Name "super" q.p0) [] [] q.p1) "__init__" env (eval (.Call (.Name "super" q.p0) [] [] q.p1) env)
  standAt q.p2.atName
  let (f, first) ← holding [ov] (getMethod ov "__init__" pl)
  callWith q.p4 f first (backTo q.p4 (starEach [.Constant (.str msg) j1 q.p3] env)) [])
abbrev veTail4 : List Value := [.type "ValueError", .type "Exception", .type "BaseException", .type "object"]
/-- what the written part says of the class at C and of its __init__ at f -/
structure ErrC (file0 : Str) (K : Frag) (C f : Addr) (qual : Str) (q : ErrPos) (msg cod : Str) (j1 j2 : Nat) : Prop where
  oex : L2.OexC K C
  fn : ∃ (oc : Value) (od an : Option Addr) (osl : Array (Option Value)) (kV doc pm ct : Value) (cda cc : Addr) (ccl cl : Value) (cdd cld : Option Addr) (vs : Array Value) (ccs csl : Array (Option Value)) (file : Str) (tf : Tok),
    K.lookup f = some ⟨oc, od, .func (ksFn "__init__" qual (errParams q.pp) (errBody q msg cod j1 j2) errScope .none kV doc pm an (.ref cda) ct cc), osl⟩ ∧ codeIn K (.ref cda) qual = true ∧ K.lookup cda = some ⟨ccl, cdd, .fields vs, ccs⟩ ∧ vs[2]? = some (.str file tf) ∧
      (file0 == file) = true ∧ K.lookup cc = some ⟨cl, cld, .cell (some (.ref C)), csl⟩
  sup : ks_superIn K C C "__init__" = some (some (.builtin "ValueError.__init__"))
  self : mroIn K C (.ref C) = some true
  isV : subIn K (.ref C) (.type "ValueError") = some true
  init : excInitIn K C veTail4 "ValueError.__new__" = true
  third : nsIn K cStatics "thirdparty.any" = some none
  code : findIn K (.ref C) "code" = some none
  find : findIn K (.ref C) "__init__" = some (some (.ref f))
  typ : typeIn K (.ref f) = some (.type "function")
section
variable {prog : Program} {w : World} {A : Around} {K : Frag} {h : Heap} {g : Array GenState} {d : Drawn} {t : Nat} {os : OsState} {R : Result → Shared → Prop} {mg mb : Str → Option Value}
  {C f a t0 : Addr} {qual msg cod : Str} {q : ErrPos} {j1 j2 : Nat}
theorem init_run (T : ErrC prog.main.file K C f qual q msg cod j1 j2) (hline : LineOk q msg j1) (htop : (prog.main.scope.names.lookup ("super" : Str)).isSome = false)
    (X : K.In h) (hg : h.Ns mainGlobals mg) (hms : mg "super" = none) (hb : h.Ns builtinsNs mb) (hmb : mb "super" = some (.type "super")) (hlim : h.NoLimit) (hroom : A.depth < recursionLimit) (ha : h.get? a = some (excObj C t0 none .none)) (haK : K.lookup a = none)
    (hq : ∀ h' t1 tk' dx tk, (∀ b o, b ≠ a → h.get? b = some o → h'.get? b = some o) → h.objs.size ≤ dx → dx ≠ a → h'.get? a = some { cls := .ref C, dict := some dx, data := .fields #[.ref t1, .none, .none, .none, .bool false, .none] } →
      h'.Ns1 dx (fun y => if y = ("code" : Str) then some (.str cod tk) else none) → R (.ok (.ret .none)) ⟨h', g, d, tk', os⟩) :
    codeAny (model prog w) A (.call (.ref f) ⟨[.ref a], []⟩) R ⟨h, g, d, t, os⟩ := by
  obtain ⟨oc, od, an, osl, kV, doc, pm, ct, cda, cc, ccl, cl, cdd, cld, vs, ccs, csl, file, tf, hf, hcd, hcode, hvs, hfile, hcell⟩ := T.fn
  refine ks_codeAny_call_defAt (binds := [("self", .ref a)]) hroom (X _ _ hf) rfl hlim (codeRec_of X hcd) rfl (.of_eq rfl) (show ∀ x ∈ errScope.names, x.2 ≠ .cell by decide) (fun y hy => ?_) (fun h1 hns hk1 => ?_)
  · rw [List.mem_singleton.mp hy]; rfl
  have X1 : K.In h1 := fun b o e => hk1 b o (X b o e)
  have ha1 : h1.get? a = some (excObj C t0 none .none) := hk1 _ _ ha
  have haL : a ≠ h.objs.size := Nat.ne_of_lt (Heap.lt_size ha)
  obtain ⟨cd, hc⟩ : ∃ cd, clsIn K C = some cd := by
    have z := T.sup
    unfold ks_superIn at z
    cases hc : clsIn K C with
    | none => rw [hc] at z; cases z
    | some cd => exact ⟨cd, rfl⟩
  obtain ⟨oD, hD0, hD2⟩ : ∃ oD, K.lookup C = some oD ∧ oD.data = .cls cd := by
    unfold clsIn at hc
    split at hc
    · rename_i c d' cd' sl ho
      cases hc
      exact ⟨_, ho, rfl⟩
    · cases hc
  have hD1 := X1 _ _ hD0
  have hsup : alongIn K "__init__" ((cd.mro.dropWhile (· != .ref C)).drop 1) = some (some (.builtin "ValueError.__init__")) := by
    have z := T.sup
    unfold ks_superIn at z
    rw [hc] at z
    exact z
  have hv : (fun x => ([("self", Value.ref a)] : List (Str × Value)).reverse.lookup x) ("self" : Str) = some (.ref a) := rfl
  -- super().__init__(text)
  obtain ⟨pl, hline⟩ := hline (callEnv (ksFn "__init__" qual (errParams q.pp) (errBody q msg cod j1 j2) errScope .none kV doc pm an (.ref cda) ct cc) h.objs.size f)
  refine ks_wpAt_execs_cons (ks_wpAt_Expr_any (ks_wpAt_MethodCall ?_ hline))
  refine ks_wpAt_super_base rfl rfl (by decide) rfl (X1 _ _ hf) rfl rfl rfl (X1 _ _ hcode) rfl hvs hfile htop ?_
  refine ks_loadName_global rfl rfl (loadGlobal_builtin (hg.keeps hk1) hms (hb.keeps hk1) hmb ⟨rfl, ?_⟩)
  refine wpAny_loadName_free rfl rfl rfl ⟨_, X1 _ _ hcell, rfl⟩ ?_
  refine wpAny_loadName_local rfl rfl hns hv ?_
  refine ks_wpAny_isType_cls hD1 hD2 ⟨rfl, ?_⟩
  refine ks_wpAny_call_super hD1 hD2 ha1 rfl (fun c e => by cases e) (looks_mroIn X1 T.self) (fun h2 hso hk2 => ?_)
  have X2 : K.In h2 := fun b o e => hk2 b o (X1 b o e)
  have ha2 := hk2 _ _ ha1
  have haC : a ≠ C := fun e => by rw [e, hD0] at haK; cases haK
  have I2 : InstAt h2 a (excObj C t0 none .none) C none := ⟨ha2, rfl, rfl, trivial⟩
  refine kxs_getMethod kxs_ValueError hso (looks_opaque X2 T.third) (l₀ := cd.mro) (fun A Q E s k z => wpAny_bind ((looks_clsIn X2 hc) A _ E s k (wpAny_pure z))) rfl X2 hsup (I2.type.andThen (looks_subIn X2 T.isV)) haC (by decide) ?_
  have nsK : ∀ {h h' : Heap} {L : Addr} {m : Str → Option Value}, h.Ns L m → (∀ b o, h.get? b = some o → h'.get? b = some o) → h'.Ns L m := fun {h h' L m} ⟨o, es, ep, e, r⟩ k => ⟨o, es, ep, k _ _ e, r⟩
  have hns2 := nsK hns hk2
  have hk3 : ∀ b o, h2.get? b = some o → (h2.push (kxs_mw "ValueError.__init__" a)).get? b = some o := fun b o e => Heap.get?_push_of_some _ e
  have hLt : h.objs.size < h2.objs.size := by
    obtain ⟨o, _, _, e, _⟩ := hns2
    exact Heap.lt_size e
  have FR : Fr (hideAll h [a]) h.objs.size (h2.push (kxs_mw "ValueError.__init__" a)) (fun x => ([("self", Value.ref a)] : List (Str × Value)).reverse.lookup x) :=
    ⟨nsK hns2 hk3, fun b o e => hk3 _ _ (hk2 _ _ (hk1 _ _ (of_hideAll _ e))), Nat.le_of_eq (hideAll_size _ _)⟩
  have NW : News (hideAll h [a]) h.objs.size (h2.push (kxs_mw "ValueError.__init__" a)) [(h2.objs.size, kxs_mw "ValueError.__init__" a), (a, excObj C t0 none .none)] := fun p hp => by
    rcases List.mem_cons.mp hp with e | hp
    · subst e
      refine ⟨Heap.get?_push_size _ rfl, Nat.ne_of_gt hLt, ?_⟩
      cases z : (hideAll h [a]).get? h2.objs.size with
      | none => rfl
      | some o => exact absurd (Heap.lt_size (of_hideAll _ z)) (Nat.lt_asymm hLt)
    · rw [List.mem_singleton.mp hp]
      exact ⟨hk3 _ _ ha2, haL, hideAll_none _ (List.mem_singleton.mpr rfl)⟩
  have X0 : K.In (hideAll h [a]) := fun b o e => hideAll_get _ (X b o e) (fun z => by
    rw [List.mem_singleton.mp z, haK] at e
    cases e)
  refine kxs_callWith1 NW (List.mem_cons_self ..) ?_
  refine Calls.spliced_cons (wpAny_Constant_str (k := j1) (pos := q.p3) (Calls.spliced_nil ⟨kxs_at NW (List.mem_cons_self ..), ?_⟩))
  refine kxs_call FR X0 NW PySem.F.excBase_ValueError T.init (List.mem_cons_self ..) (.tail (Nat.ne_of_gt (Heap.lt_size ha2)) (.head fun p hp => nomatch hp)) (by show 1 ≤ sizeLine; decide) (fun t' h4 F4 N4 _ => ?_)
  have ha4 : h4.get? a = some (excObj C t' none .none) := (N4 (a, excObj C t' none .none) (List.mem_cons_of_mem _ (List.mem_cons_of_mem _ (List.mem_cons_self ..)))).1
  have X4 : K.In h4 := fun b o e => F4.keep b o (X0 b o e)
  obtain ⟨nm, qn, N, bs, bm, sn, sub, ab, col, dd, k0, k1, k2, k3, k5, hC, hbm⟩ := T.oex.cls
  have hcl : clsIn K C = some { name := nm, bases := bs, mro := .ref C :: bm, ns := N, qualname := qn, hasDict := true, slotNames := sn, subclasses := sub, abstract := ab, collection := col, hasDel := false } := by
    unfold clsIn
    rw [hC] <;> rfl
  -- self.code = text
  refine wpAt_of_wpAny (wpAny_execs_cons (plainObj_wpAny_Assign_Attribute (wpAny_Constant_str (k := j2) (pos := q.p8) (wpAny_Name (wpAny_loadName_local rfl rfl F4.ns hv ?_) (by decide))) rfl))
  refine set_plain X4 (ox := excObj C t' none .none) (od := none) ⟨ha4, rfl, rfl, trivial⟩ T.oex.sa ?_
  refine PySem.HandSPX.exc_osa X4 ha4 hcl (show PySem.HandSPX.refsVE (.ref C :: bm) = true from hbm) rfl T.code (fun h5 tk' dx hk5 dn dne hx hn => ?_)
  have hL4 : h.objs.size ≤ h4.objs.size := by
    obtain ⟨o, _, _, e, _⟩ := F4.ns
    exact Nat.le_of_lt (Heap.lt_size e)
  refine wpAny_execs_nil (hq h5 t' tk' dx _ (fun b o hb e => hk5 b o hb (F4.keep b o (hideAll_get _ e fun z => hb (List.mem_singleton.mp z)))) (Nat.le_trans hL4 dn) dne hx hn)
end
end FvX


set_option maxHeartbeats 2000000
namespace FvX
open PySem PySem.Spec PyProof.Rows L2
section
variable {X : Cx} {C f : Addr} {qual msg cod x : Str} {q : ErrPos} {j1 j2 k : Nat} {p pos : Pos}
/-- x(): the new error, its dict at d -/
def tErr0 (C : Addr) (cod : Str) : L2.St → Hp → XK → Prop := fun _ H Q => ∀ d, H d = none → Q (.ref C) (some d) (upd H d (.xd [("code", .str cod)]))
theorem pmk_err0 (T : ErrC X.prog.main.file X.K C f qual q msg cod j1 j2) (hline : LineOk q msg j1) (htop : (X.prog.main.scope.names.lookup ("super" : Str)).isSome = false) (hms : X.mg "super" = none) (hr : Room (k + 1) X.A) (hg : Gl X x) (hm : X.mg x = some (.ref C))
    (hdb : (x == ("__debug__" : Str)) = false := by decide) : PMk X (.Call (.Name x p) [] [] pos) (tErr0 C cod) := by
  intro pins s σ H Q I h
  obtain ⟨nm, qn, N, bs, bm, sn, sub, ab, col, dd, k0, k1, k2, k3, k5, hC, hbm⟩ := T.oex.cls
  refine wpAny_Call_Name_kw (ld_glob I hg hm ?_ hdb)
  refine PySem.W.callWith_K0 I.kIn T.oex.kC ?_
  show wpAny _ _ (call (.ref C) []) _ _ _
  obtain ⟨hp, g, dr, tk, os⟩ := s
  have nK : X.K.lookup (hp.objs.size + 1) = none := by
    cases e : X.K.lookup (hp.objs.size + 1) with
    | none => rfl
    | some o => exact absurd (Nat.lt_of_succ_lt (Heap.lt_size (I.kIn _ _ e))) (Nat.lt_irrefl _)
  have fresh : H (hp.objs.size + 1) = none := I.hok.fresh (Nat.le_succ _)
  have kk : ∀ b o, hp.get? b = some o → ((hp.push (PySem.W.kdv_tup [])).push (PySem.HandSPX.excO C hp.objs.size)).get? b = some o := fun b o e => Heap.get?_push_of_some _ (Heap.get?_push_of_some _ e)
  have at1 : ((hp.push (PySem.W.kdv_tup [])).push (PySem.HandSPX.excO C hp.objs.size)).get? (hp.objs.size + 1) = some (PySem.HandSPX.excO C hp.objs.size) := by heap_get
  have I2 := I.laid (t' := tk) (a := hp.objs.size + 1) (o := exo (hp.objs.size + 1) C none) (h' := (hp.push (PySem.W.kdv_tup [])).push (PySem.HandSPX.excO C hp.objs.size)) kk (Nat.le_succ _) (exo_ok at1)
  obtain ⟨mb, hb, hbb⟩ := I.mod.blt
  refine wpAny_call (PySem.HandSPX.call_own PySem.F.excBase_ValueError (fun Y => PySem.HandSPX.refsVE_contains Y bm hbm) (I.kIn _ _ hC) (PySem.W.looks_findIn I.kIn T.find) (fun self => PySem.W.bind_fn I.kIn self T.typ) (Nat.zero_le _) ?_)
  refine init_run (mg := X.mg) (mb := mb) (t0 := hp.objs.size) T hline htop (fun b o e => kk b o (I.kIn b o e)) ((I.mod.glob.keeps I.bk).keeps kk) hms ((hb.keeps I.bk).keeps kk) ((hbb _ (by decide)).trans (by decide +kernel)) ?lim (hr.make C [] []).depth at1 nK (fun h' t1 tk' dx tk0 hk dn dne hx hn => ?_)
  case lim => exact (I.mod.nolimit.keeps I.bk).keeps kk
  have nd : H dx = none := I.hok.fresh (Nat.le_trans (by simp; omega) dn)
  have na : ∀ {b : Addr} {u : Option HO}, upd H (hp.objs.size + 1) (exo (hp.objs.size + 1) C none) b = none → b ≠ hp.objs.size + 1 := fun {b u} e z => by
    rw [z, upd_same] at e
    cases e
  have lt2 : ∀ {b : Addr} {o : Obj}, ((hp.push (PySem.W.kdv_tup [])).push (PySem.HandSPX.excO C hp.objs.size)).get? b = some o → b ≠ dx := fun {b o} e => Nat.ne_of_lt (Nat.lt_of_lt_of_le (Heap.lt_size e) dn)
  have same : ∀ {b : Addr} {o : HO}, upd H (hp.objs.size + 1) (exo (hp.objs.size + 1) C none) b = some o → o ≠ exo (hp.objs.size + 1) C none → upd (upd H dx (exd dx [("code", .str cod)])) (hp.objs.size + 1) (exo (hp.objs.size + 1) C (some dx)) b = some o := fun {b o} e ne => by
    have b1 : b ≠ hp.objs.size + 1 := fun z => by
      rw [z, upd_same] at e
      exact ne (Option.some.inj e).symm
    rw [upd_ne b1] at e
    rw [upd_ne b1, upd_ne (ne_of_none e nd)]
    exact e
  have un : Un (frs X.stack) [] (upd H (hp.objs.size + 1) (exo (hp.objs.size + 1) C none)) (upd (upd H dx (exd dx [("code", .str cod)])) (hp.objs.size + 1) (exo (hp.objs.size + 1) C (some dx))) ((hp.push (PySem.W.kdv_tup [])).push (PySem.HandSPX.excO C hp.objs.size)) h' := by
    refine ⟨fun b o e n _ _ => hk b o (na (u := none) n) e, fun b o e n _ _ => ⟨o.slots, hk b o (na (u := none) n) e⟩, fun b o e n _ => ?_, fun b o e _ => ?_, fun b xs e => same e fun z => exo_tup z.symm, fun b o u e => same e fun z => exo_frz z.symm, fun b ps e => ⟨#[], ?_⟩⟩
    · have b1 := na (u := none) n
      rw [upd_ne b1, upd_ne (lt2 e)]
      rw [upd_ne b1] at n
      exact n
    · by_cases b1 : b = hp.objs.size + 1
      · exact ⟨_, by rw [b1]; exact hx⟩
      · exact ⟨o, hk b o b1 e⟩
    · rw [Array.append_empty]
      exact same e fun z => exo_tbl z.symm
  have hok : HOk X.prog X.w (upd (upd H dx (exd dx [("code", .str cod)])) (hp.objs.size + 1) (exo (hp.objs.size + 1) C (some dx))) h' := fun b o e => by
    by_cases b1 : b = hp.objs.size + 1
    · rw [b1, upd_same] at e
      cases e
      rw [b1]
      exact exo_ok hx
    · rw [upd_ne b1] at e
      by_cases b2 : b = dx
      · rw [b2, upd_same] at e
        cases e
        rw [b2]
        exact exd_ok hn (relO_put (fs := []) ⟨_, rfl⟩ fun g => True.intro)
      · rw [upd_ne b2] at e
        have e2 : upd H (hp.objs.size + 1) (exo (hp.objs.size + 1) C none) b = some o := by rw [upd_ne b1]; exact e
        refine (I2.hok b o e2).stay (fun c v hc z => hk c v (fun c1 => ?_) z) (fun c hc => same hc fun z => exo_own z.symm) (fun c xs hc => same hc fun z => exo_tup z.symm)
        rcases hc with hc | hc
        · exact b1 (hc.symm.trans c1)
        · rw [c1, upd_same] at hc
          exact exo_own (Option.some.inj hc)
  refine ⟨rfl, mk_end (a := hp.objs.size + 1) (C := C) (d := dx) (fs := [("code", .str cod)]) (raises_own T.oex.exC T.oex.tyC) I (Nat.le_succ _) kk un hok rfl I.bare upd_same ?_ nd ?_⟩
  · rw [upd_ne dne, upd_same]
  · have e : upd (del (upd (upd H dx (exd dx [("code", .str cod)])) (hp.objs.size + 1) (exo (hp.objs.size + 1) C (some dx))) (hp.objs.size + 1)) dx (.xd [("code", .str cod)]) = upd H dx (.xd [("code", .str cod)]) := by
      funext b
      by_cases b2 : b = dx
      · rw [b2, upd_same, upd_same]
      · rw [upd_ne b2, upd_ne b2]
        by_cases b1 : b = hp.objs.size + 1
        · rw [b1, del_same, fresh]
        · rw [del_ne b1, upd_ne b1, upd_ne b2]
    rw [e]
    exact h dx nd
end
end FvX


set_option maxHeartbeats 2000000
namespace FvX
open PySem PySem.Spec PyProof.Rows L2
/-! ### try: .. except x as n: .. except ..: ..; the first clause takes what comes -/
/-- what the first clause wishes -/
def wFst (K : PySem.W.Frag) (c : Value) (i : Nat) (ts : Addr → Value → Option Addr → TS) (D : Ends) : WX := fun cls dd σ H => PySem.W.exmOne K cls c = some true ∧
  ∀ a, H a = none → ts a cls dd { nx := fun σ' H' => D.nx (σ'.set i none) H', rt := D.rt, bk := fun σ' H' => D.bk (σ'.set i none) H', ct := fun σ' H' => D.ct (σ'.set i none) H' } (σ.set i (some (.ref a))) H
section
variable {X : Cx} {x n : Str} {c : Value} {i : Nat} {bd su : List Stmt} {b1 : Stmt} {np tp hp' : Pos} {more : List ExceptHandler} {tb : WX → TS} {ts : Addr → Value → Option Addr → TS}
theorem ps_try_first (hstk : X.stack = X.env :: X.outer) (hfrm : X.env.frame = some X.env.locals) (nd : X.N.Nodup) (hix : X.N[i]? = some n) (hlc : X.env.kindOf n = some .local) (hcl : Names X x c)
    (hbd : ∀ (W : WX) (pn : List (Addr × Obj)) (xe : Value → Shared → Prop), Takes (X.tr pn xe) W → PassesOwn (model X.prog X.w) X.A X.env xe → PSs (X.tr pn xe) bd (tb W))
    (hsu : ∀ (a : Addr) (oe : Obj) (cls : Value) (dd : Option Addr) (pn : List (Addr × Obj)), Zc cls dd oe → (∃ vs, oe.data = .fields vs) → PSs (X.suite a ((a, oe) :: pn)) (b1 :: su) (ts a cls dd)) :
    PS X (.Try bd (.ExceptHandler (some (.Name x np)) (some n) (b1 :: su) hp' :: more) [] [] tp) (fun D σ H => tb (wFst X.K c i ts D) D σ H) := by
  refine ⟨fun pins s σ H D I hW => wpAny_Try_except ?_⟩
  have fr : X.A.frames = some (X.env :: X.outer) := I.ok.frames.trans (congrArg some hstk)
  let land : Value → Shared → Prop := fun e s1 => wpAny (model X.prog X.w) X.A (noteFrame e X.env) (fun _ s2 => wpAny (model X.prog X.w) X.A (setFlight e none) (fun _ s3 => wpAny (model X.prog X.w) X.A (handleBy e X.env (.ExceptHandler (some (.Name x np)) (some n) (b1 :: su) hp' :: more)) (SP X pins D) X.xe s3) X.xe s2) X.xe s1
  have caught : Takes (X.tr (X.pn ++ pins) land) (wFst X.K c i ts D) := by
    rintro u s' ⟨a, B, sI, pins', σ', H', cls, dd, rfl, J', nb, up, sky, na, os, ag, hm, hyes⟩
    have J : Inv X pins σ' H' sI := J'.ofTry I.ok
    show wpAny (model X.prog X.w) X.A (noteFrame (.ref a) X.env) _ _ _
    refine Sky.land Zc.steady fr hfrm (show Sky B (X.env :: X.outer) a (Zc cls dd) X.env.locals s'.heap from hstk ▸ sky) fun h3 fl up3 => ?_
    have J3 : Inv X pins σ' H' { s' with heap := h3 } := J.landed nb fl.1 (up.trans up3) os ag
    obtain ⟨o3, v3, g3, z3, d3⟩ := fl.there
    have apart : a ∉ frs (X.env :: X.outer) := fun hin => by
      obtain ⟨_, o', g', no⟩ := fl.2.2.1.mem hin
      rw [g3] at g'
      cases g'
      exact no _ d3
    have aL : a ≠ X.env.locals := fun z => apart (List.mem_filterMap.mpr ⟨X.env, List.mem_cons_self, hfrm.trans (congrArg some z.symm)⟩)
    have aF : a ∉ X.fs := fun hin => by
      obtain ⟨e, he, z⟩ := List.mem_filterMap.mp hin
      exact apart (List.mem_filterMap.mpr ⟨e, List.mem_cons_of_mem _ he, z⟩)
    have S3 := J3.suite g3 d3 na aL aF
    have tyIs : PySem.W.Looks (model X.prog X.w) h3 (typeOf (.ref a)) cls := fun A Q E s k z => wpAny_typeOf_ref (k _ _ g3) (z3.1.symm ▸ z)
    have meets := PySem.W.exm_one (M := model X.prog X.w) J3.kIn tyIs hm
    refine wpAny_handleBy_cons (codeAny_handlers_test ?_) (fun z => by cases z)
    have ask : ∀ {Q : Value → Shared → Prop} {E : Value → Shared → Prop}, Q c { s' with heap := h3 } → wpAny (model X.prog X.w) (X.A.mark (some (.ref a))) (eval (.Name x np) X.env) Q E { s' with heap := h3 } := fun {Q E} z => by
      rcases hcl with ⟨gl, nd', m | ⟨m, bv, nn⟩⟩
      · exact ld_glob (X := X.suite a ((a, o3) :: (X.pn ++ pins))) S3 gl m z nd'
      · exact ld_blt (X := X.suite a ((a, o3) :: (X.pn ++ pins))) S3 gl m bv z nn nd'
    refine ask (meets.here (codeAny_handlers_suite_as (HandSPX.lands_againZ fl fun h4 fl4 up4 => ?_)))
    have J4 : Inv X pins σ' H' { s' with heap := h4 } := J.landed nb fl4.1 ((up.trans up3).trans up4) os ag
    obtain ⟨o4, v4, g4, z4, d4⟩ := fl4.there
    refine store_ok (X := X.suite a ((a, o4) :: (X.pn ++ pins))) (v := .ref a) (J4.suite g4 d4 na aL aF) nd hix (.inl hlc) rfl (fun s5 S5 => ?_) (.inr hlc)
    refine wpAny_mono ((hsu a o4 cls dd (X.pn ++ pins) z4 ⟨_, d4⟩).run [] s5 _ H' _ S5 (hyes a na)) (fun fl6 s6 q6 => ?_) (fun _ _ z => z.elim)
    have gone : ∀ {σ6 : L2.St} {H6 : Hp} {Q : Shared → Prop}, Inv (X.suite a ((a, o4) :: (X.pn ++ pins))) [] σ6 H6 s6 → (∀ s7, Inv X pins (σ6.set i none) H6 s7 → Q s7) →
        wpAny (model X.prog X.w) X.A (do bindName X.env n .none; unbindBehindTheSuite X.env n hp') (fun _ s7 => Q s7) X.xe s6 := fun {σ6 H6 Q} S6 z => gone_ok (S6.unsuite I.ok) nd hix hlc z
    cases fl6 with
    | ret u => obtain ⟨v6, σ6, H6, S6, r6, z6⟩ := q6; exact gone S6 fun s7 J7 => ⟨_, _, _, J7, r6, z6⟩
    | next => obtain ⟨σ6, H6, S6, z6⟩ := q6; exact gone S6 fun s7 J7 => ⟨_, _, J7, z6⟩
    | brk => obtain ⟨σ6, H6, S6, z6⟩ := q6; exact gone S6 fun s7 J7 => ⟨_, _, J7, z6⟩
    | cont => obtain ⟨σ6, H6, S6, z6⟩ := q6; exact gone S6 fun s7 J7 => ⟨_, _, J7, z6⟩
  refine wpAny_mono ((hbd (wFst X.K c i ts D) (X.pn ++ pins) land caught PassesOwn.looking).run [] s σ H D (I.toTry _) hW) (fun fl s1 z => ?_) (fun e s1 z => z)
  cases fl with
  | ret u => obtain ⟨v, σ', H', J', r, z⟩ := z; exact ⟨v, σ', H', J'.ofTry I.ok, r, z⟩
  | next => obtain ⟨σ', H', J', z⟩ := z; exact wpAny_execs_nil ⟨σ', H', J'.ofTry I.ok, z⟩
  | brk => obtain ⟨σ', H', J', z⟩ := z; exact ⟨σ', H', J'.ofTry I.ok, z⟩
  | cont => obtain ⟨σ', H', J', z⟩ := z; exact ⟨σ', H', J'.ofTry I.ok, z⟩
end
/-! ### e.f of the caught error -/
section
variable {X : Cx} {a : Addr} {oe : Obj} {cls : Value} {d : Option Addr} {pn : List (Addr × Obj)} {i : Nat} {n f : Str} {p pos : Pos}
theorem pe_errf (hz : Zc cls d oe) (hf : ∃ vs, oe.data = .fields vs) (hv : PE (X.suite a ((a, oe) :: pn)) (.Name n p) (tVar i)) (hb : attributeBase (.Name n p) f X.env (eval (.Name n p) X.env) = eval (.Name n p) X.env := by rfl) :
    PE (X.suite a ((a, oe) :: pn)) (.Attribute (.Name n p) f pos) (fun σ H Q => σ[i]? = some (some (.ref a)) ∧ ∃ (C dd : Addr) (fs : List (Str × V)) (v : V), cls = .ref C ∧ XfC X.K C ∧ PySem.W.findIn X.K (.ref C) f = some none ∧ d = some dd ∧ H dd = some (.xd fs) ∧ fs.lookup f = some v ∧ Q v H) := by
  refine ⟨fun pins s σ H Q I h => ?_⟩
  obtain ⟨h1, C, dd, fs, v, h2, T, h3, h4, h5, h6, q⟩ := h
  exact (pe_xf T h3 hz hf hv hb).run pins s σ H Q I ⟨_, h1, rfl, h2, dd, fs, v, h4, h5, h6, q⟩
end
end FvX


set_option maxHeartbeats 2000000
namespace FvX
open PySem PySem.Spec PyProof.Rows L2 LamX
/-! ### x(lambda: body), where x calls what it got within a try and goes on behind it -/
section
variable {X : Cx} {pins : List (Addr × Obj)} {σ : L2.St} {H : Hp} {s : Shared}
/-- the call of the lambda; what it raises is told of the very slots -/
theorem pe_actS {Eg : XK} {Ng : List Str} {qg : Str} {sg : Scope} {gf lf lc : Addr} {cdg pm ctv : Value} {pr : Arguments} {bd : Expr} {sc : Scope} {k i : Nat} {nm : Str} {pn : List (Addr × Obj)} {xe : Value → Shared → Prop} {W : WX} {E : XK} {tb : TE} {p1 p2 : Pos}
    (I : Inv X pins σ H s) (L : LamS X.env.scope sc) (hobj : s.heap.get? lf = some (PySem.W.kla_obj "<lambda>" (X.env.qual ++ "<lambda>") pr bd sc (cloFrom X.env.cells sc.names []) pm lc ctv)) (hn : H lf = none) (hnf : lf ∉ frs X.stack)
    (hbnd : bindArgs (PySem.W.kla_fn "<lambda>" (X.env.qual ++ "<lambda>") pr bd sc (cloFrom X.env.cells sc.names []) pm (.ref lc) ctv) ⟨[], []⟩ = pure [])
    (tk : Takes ((cxOf C8.CX0 X.prog X.w X.K X.mg X.base Ng qg sg gf cdg X.A X.stack s H Eg).tr pn xe) W) (hr : Room (k + 1) (X.A.deeper (envOfC qg sg s.heap.objs.size gf cdg)))
    (hbd : ∀ (A : Around) (outer : List Env) (s : Shared) (H : Hp), Room k (A.deeper (lamEnv X sc s.heap.objs.size lf lc)) → PE (lamCx X A outer s H E sc lf lc) bd tb)
    (hN : Ng[i]? = some nm) (hv : Vis sg nm) (hd : (nm == ("__debug__" : Str)) = false) (hcd : (nm == ("__classdict__" : Str)) = false) :
    PE ((cxOf C8.CX0 X.prog X.w X.K X.mg X.base Ng qg sg gf cdg X.A X.stack s H Eg).tr pn xe) (.Call (.Name nm p1) [] [] p2)
      (fun σZ HZ Q => σZ[i]? = some (some (.ref lf)) ∧ HZ lc = some (CodeO lc (X.env.qual ++ "<lambda>")) ∧ (∀ cls d H', E cls d H' → W cls d σZ H') ∧ tb σ HZ Q) := by
  refine ⟨fun pZ sZ σZ HZ Q IZ hh => ?_⟩
  obtain ⟨h1, h2, hW, h3⟩ := hh
  have var := (pe_var (X := (cxOf C8.CX0 X.prog X.w X.K X.mg X.base Ng qg sg gf cdg X.A X.stack s H Eg).tr pn xe) (pos := p1) (i := i) hN hv hd hcd).run pZ sZ σZ HZ (fun v H1 => v = .ref lf ∧ H1 = HZ) IZ ⟨.ref lf, h1, rfl, rfl⟩
  refine wpAny_Call_Name_kw (thn var fun u s1 z => ?_)
  obtain ⟨v, H1, I1, r1, e1, e2⟩ := z
  subst e1
  subst e2
  have eu : u = Value.ref lf := r1
  subst eu
  have here := I1.base.keep lf _ hobj hn hnf (fun z => nomatch (show lf ∈ ([] : List Addr) from z))
  have un : Un (frs X.stack) [] H H1 s.heap s1.heap := I1.base
  obtain ⟨⟨oc, vs, t, g1, g2, g3⟩, _, _⟩ := I1.hok lc _ h2
  have body : codeAny (model X.prog X.w) (X.A.deeper (envOfC qg sg s.heap.objs.size gf cdg)) (.call (.ref lf) ⟨[], []⟩) (CR (L2.CX X.prog X.w) (envOfC qg sg s.heap.objs.size gf cdg :: X.stack) X.prog X.w H1 s1 Q E) s1 := by
    refine PySem.W.kla_callFunE hr.depth here rfl L.co L.gen rfl ⟨lc, oc, vs, t, rfl, g1, g2, g3⟩ ?_
    rw [hbnd]
    refine wpAny_pure (wpAny_newFunctionEnv (fun y hy => (L.own y hy).2) (fun y hy => absurd hy List.not_mem_nil) (fun h₁ hns hsb => ⟨I1.nolimit.fresh _ hsb, ?_⟩) L.kind)
    show codeAny _ _ (.expr bd (lamEnv X sc s1.heap.objs.size lf lc)) _ _
    have kp : ∀ b o, s1.heap.get? b = some o → h₁.get? b = some o := fun b o e => hsb.extBut b o (Nat.ne_of_lt (Heap.lt_size e)) (Heap.get?_push_of_some _ e)
    have J := lam_start2 (A := X.A.deeper (envOfC qg sg s.heap.objs.size gf cdg)) (outer := envOfC qg sg s.heap.objs.size gf cdg :: X.stack) (E := E) (scope := sc) (f := lf) (c' := lc) (tk := s1.toks + ([] : List (Str × Value)).length) I L I1.env0 hr.hd un hns kp
    refine PySem.W.kla_codeExpr (wpAny_mono ((hbd _ _ s1 H1 (hr.deeper _)).run [] _ _ H1 Q J h3) (fun v s' z => ?_) fun e s' z => z)
    obtain ⟨v', H', J', rv, z⟩ := z
    exact ⟨v', H', J'.os, J'.bare, J'.base, J'.hok, rv, z⟩
  refine PySem.W.callWith_F0 ⟨_, _, _, _, here⟩ (wpAny_call (codeAny_mono body fun r s' z => ?_))
  cases r with
  | ok fl =>
    cases fl with
    | ret u => exact I1.after z
    | next => exact z.elim
    | brk => exact z.elim
    | cont => exact z.elim
  | error e => exact tk e s' (XE.of_call I1 (fun cls d H' hE => hW cls d H' hE) z)
end
/-- the def at gf, called with one value, makes of the lambda's reading what TT says -/
def GivesS (X : Cx) (Ng : List Str) (x : Str) (sg : Scope) (gf : Addr) (cdg : Value) (bg : List Stmt) (nm q : Str) (TT : (XK → Hp → VK → Prop) → Hp → VK → Prop) : Prop :=
  ∀ (lf lc : Addr) (s : Shared) (H : Hp) (Q : VK) (tl : XK → Hp → VK → Prop),
    (∀ (W : WX) (pn : List (Addr × Obj)) (xe : Value → Shared → Prop) (E : XK) (p1 p2 : Pos), Takes ((cxOf C8.CX0 X.prog X.w X.K X.mg X.base Ng x sg gf cdg X.A X.stack s H C8.E0).tr pn xe) W →
      PE ((cxOf C8.CX0 X.prog X.w X.K X.mg X.base Ng x sg gf cdg X.A X.stack s H C8.E0).tr pn xe) (.Call (.Name nm p1) [] [] p2)
        (fun σZ HZ Q => σZ[0]? = some (some (.ref lf)) ∧ HZ lc = some (CodeO lc q) ∧ (∀ cls d H', E cls d H' → W cls d σZ H') ∧ tl E HZ Q)) →
    H lc = some (CodeO lc q) → TT tl H Q →
    ∃ t, PSs (cxOf C8.CX0 X.prog X.w X.K X.mg X.base Ng x sg gf cdg X.A X.stack s H C8.E0).nox bg t ∧ t { nx := fun _ H' => Q .non H', rt := Q } (L2.start Ng [.ref lf]) H
section
variable {X : Cx}
theorem pe_lamS {T : List (Addr × Str)} {TT : (XK → Hp → VK → Prop) → Hp → VK → Prop} {x nm : Str} {gf c P : Addr} {k : Nat} {pg : Arguments} {bg : List Stmt} {sg : Scope} {dV kV doc pm cdv ct oc : Value} {an od : Option Addr} {osl : Array (Option Value)} {Ng : List Str}
    {pr : Arguments} {bd : Expr} {sc : Scope} {t : XK → TE} {p lpos pos : Pos} (hg : Gl X x) (hm : X.mg x = some (.ref gf)) (hk : PySem.W.keepIn X.K (.ref gf) = true)
    (lk : X.K.lookup gf = some ⟨oc, od, .func (PySem.W.fnOf x x pg bg sg dV kV doc pm an cdv ct), osl⟩) (hcg : PySem.W.codeIn X.K cdv x = true) (hb : L2.Binds X.K (PySem.W.fnOf x x pg bg sg dV kV doc pm an cdv ct) [nm] []) (Sg : FnScope Ng [nm] sg) (hNg : Ng[0]? = some nm) (hva : Vis sg nm)
    (hG : GivesS X Ng x sg gf cdv bg nm (X.env.qual ++ "<lambda>") TT)
    (TB : TabB X.base X.mg c P) (hcode : X.env.code = .ref c) (hmT : (P, X.env.qual ++ "<lambda>") ∈ T) (hu : ∀ p ∈ T, p.1 = P → p.2 = X.env.qual ++ "<lambda>") (hr : Room (k + 2) X.A) (L : LamS X.env.scope sc) (hdef : defaultsOf pr X.env = ([], []))
    (hbind : ∀ (q : Str) (cl : List (Str × Addr)) (pm cv ctv : Value), bindArgs (PySem.W.kla_fn "<lambda>" q pr bd sc cl pm cv ctv) ⟨[], []⟩ = pure [])
    (hbd : ∀ (A : Around) (outer : List Env) (s : Shared) (H : Hp) (E : XK) (lf lc : Addr), Room k (A.deeper (lamEnv X sc s.heap.objs.size lf lc)) → PE (lamCx X A outer s H E sc lf lc) bd (t E))
    (hdb : (x == ("__debug__" : Str)) = false := by decide) (hd : (nm == ("__debug__" : Str)) = false := by decide) (hcd : (nm == ("__classdict__" : Str)) = false := by decide) :
    PE X (.Call (.Name x p) [.Lambda pr bd sc lpos] [] pos) (tLam T TT t) := by
  refine ⟨fun pins s σ H Q I hh => wpAny_Call_Name_kw (ld_glob I hg hm (PySem.W.callWith_K (h₀ := X.base) I.ok.mod.kin hk ?_ (by rfl) (by rfl)) hdb)⟩
  show wpAny _ _ (spliced ((false, eval (.Lambda pr bd sc lpos) X.env) :: backTo pos (starEach [] X.env))) _ _ s
  refine Calls.spliced_cons (lam_make2 I TB hcode hmT hu hh.1 hdef (L.has I.ok) fun lf lc pm' ctv H1 s' I1 eN T1 g1 g2 g3 g4 => Calls.spliced_nil ⟨I1.kIn, ?_⟩)
  refine wpAny_call (codeAny_mono (R := CR C8.CX0 X.stack X.prog X.w H1 s' Q C8.E0) ?_ fun r s2 z => ?_)
  · refine run_ofS (N := Ng) (ps := [nm]) (us := [.ref lf]) (vs := [.ref lf]) lk hcg Sg hr I1.env0 (hb s' [.ref lf] I1.kIn rfl) (.cons rfl .nil) rfl fun hr' => ?_
    obtain ⟨t', q1, q2⟩ := hG lf lc s' H1 Q (fun E H' Q' => t E σ H' Q') (fun W pn xe E p1 p2 tk => pe_actS (i := 0) I1 L g1 g2 g3 (hbind _ _ _ _ _) tk hr' (fun A outer s H hr2 => hbd A outer s H E lf lc hr2) hNg hva hd hcd) g4 (hh.2 H1 eN T1)
    exact ⟨t', q1.nox, q2⟩
  · cases r with
    | error e => exact (show False from z).elim
    | ok fl =>
      cases fl with
      | ret u => exact I1.after z
      | next => exact z.elim
      | brk => exact z.elim
      | cont => exact z.elim
end
end FvX


namespace Fv
open PySem PySem.Spec PyProof.Rows L2 FvX
/-! ### own defs that may raise -/
structure OwnR (P : Program) (w : World) (K : PySem.W.Frag) (mg : Str → Option Value) (base : Heap) (k : Nat) (x : Str) (sp : Sp) : Prop where
  ex : ∃ f : Addr, mg x = some (.ref f) ∧ PySem.W.keepIn K (.ref f) = true ∧ FnR P w K mg base (L2.CX P w) k f sp
section
variable {X : Cx} {k : Nat} {x : Str} {sp : Sp} {E : XK} {e : Expr} {es : List Expr} {t : TA} {p pos : Pos}
theorem pe_ownR (C : OwnR X.prog X.w X.K X.mg X.base k x sp) (hr : Room k X.A) (hg : Gl X x) (hx : Passes (L2.CX X.prog X.w) X E) (ha : PA X (e :: es) t) (hdb : (x == ("__debug__" : Str)) = false := by decide)
    (he : starEach (e :: es) X.env = (false, eval e X.env) :: starEach es X.env := by rfl) (hpl : (backTo pos (starEach es X.env)).any (·.1) = false := by rfl) : PE X (.Call (.Name x p) (e :: es) [] pos) (fun σ H Q => t σ H fun vs H1 => sp vs H1 Q E) := by
  obtain ⟨f, h1, h2, h3⟩ := C.ex
  refine ⟨fun pins s σ H Q I h => wpAny_Call_Name_kw (ld_glob I hg h1 (PySem.W.callWith_K (h₀ := X.base) I.ok.mod.kin h2 (thn (ha.run pos pins s σ H _ I h) fun us s1 z => ?_) he hpl) hdb)⟩
  obtain ⟨vs, H1, I1, r, q⟩ := z
  exact ⟨I1.kIn, wpAny_call (run_fnR h3 hr hx I1 r q)⟩
theorem pe_ownR0 (C : OwnR X.prog X.w X.K X.mg X.base k x sp) (hr : Room k X.A) (hg : Gl X x) (hx : Passes (L2.CX X.prog X.w) X E) (hdb : (x == ("__debug__" : Str)) = false := by decide) : PE X (.Call (.Name x p) [] [] pos) (fun σ H Q => sp [] H Q E) := by
  obtain ⟨f, h1, h2, h3⟩ := C.ex
  exact ⟨fun pins s σ H Q I h => wpAny_Call_Name_kw (ld_glob I hg h1 (PySem.W.callWith_K0 I.kIn h2 (wpAny_call (run_fnR h3 hr hx I .nil h))) hdb)⟩
end
theorem passX {P : Program} {w : World} {K : PySem.W.Frag} {mg : Str → Option Value} {base : Heap} {N : List Str} {qual : Str} {scope : Scope} {f : Addr} {cd : Value} {A : Around} {outer : List Env} {s : Shared} {H : Hp} {E : XK} :
    Passes (L2.CX P w) (cxOf (L2.CX P w) P w K mg base N qual scope f cd A outer s H E) E := passes_call (takes_of rfl rfl rfl rfl) (fun _ _ _ _ h => h)
theorem passL {X : Cx} {A : Around} {outer : List Env} {s : Shared} {H : Hp} {E : XK} {sc : Scope} {lf lc : Addr} : Passes (L2.CX X.prog X.w) (LamX.lamCx X A outer s H E sc lf lc) E := passes_call (takes_of rfl rfl rfl rfl) (fun _ _ _ _ h => h)
/-- the error of the class at CT leaves, its code told -/
def errAt (CT : Addr) (cod : Str) (H : Hp) (E : XK) : Prop := ∀ (H' : Hp) (dd : Addr), Same H H' → H' dd = some (.xd [("code", .str cod)]) → E (.ref CT) (some dd) H'
theorem errAt.mono {CT : Addr} {cod : Str} {H H1 : Hp} {E : XK} (h : errAt CT cod H E) (s : Same H H1) : errAt CT cod H1 E := fun H' dd s' e => h H' dd (s.trans s') e
/-- a term by is_term's default bounds -/
def tmB (d : PyData) : Bool := (meas 5 d 24).isSome
def spChecked (K : PySem.W.Frag) (CT : Addr) : Sp := fun vs H Q E => ∃ (v : V) (d : PyData), vs = [v] ∧ Dp K H v d ∧ gd 20 d = true ∧ (tmB d = true → ∀ H', Same H H' → Q v H') ∧ (tmB d = false → errAt CT "InvalidTerm" H E)
/-- the term of an operator and its parts, or the only part -/
def madeD (op : Str) : List PyData → PyData
  | [d] => d
  | ds => .tuple (.str op :: ds)
def spJoined (K : PySem.W.Frag) (CT : Addr) : Sp := fun vs H Q E => ∃ (op : Str) (tp : Addr) (xs : List V) (ds : List PyData), vs = [.str op, .ref tp] ∧ SqT K H tp xs ∧ DpAll K H xs ds ∧ xs.length ≤ 100 ∧ gd 0 (.str op) = true ∧ (∀ d ∈ ds, gd 15 d = true) ∧
  (tmB (madeD op ds) = true → ∀ H' v, Same H H' → Dp K H' v (madeD op ds) → Q v H') ∧ (tmB (madeD op ds) = false → errAt CT "InvalidTerm" H E)
def spLower (K : PySem.W.Frag) (CT : Addr) (op : Str) : Sp := fun vs H Q E => ∃ (tp : Addr) (xs : List V) (ds : List PyData), vs = [.ref tp] ∧ SqT K H tp xs ∧ DpAll K H xs ds ∧ xs.length ≤ 100 ∧ (∀ d ∈ ds, gd 15 d = true) ∧
  (tmB (madeD op ds) = true → ∀ H' v, Same H H' → Dp K H' v (madeD op ds) → Q v H') ∧ (tmB (madeD op ds) = false → errAt CT "InvalidTerm" H E)
def spLowerR (K : PySem.W.Frag) (CT : Addr) (op : Str) : Sp := fun xs H Q E => ∃ ds : List PyData, DpAll K H xs ds ∧ xs.length ≤ 100 ∧ (∀ d ∈ ds, gd 15 d = true) ∧
  (tmB (madeD op ds) = true → ∀ H' v, Same H H' → Dp K H' v (madeD op ds) → Q v H') ∧ (tmB (madeD op ds) = false → errAt CT "InvalidTerm" H E)
theorem madeD_gd {op : Str} {ds : List PyData} (ho : gd 0 (.str op) = true) (h : ∀ d ∈ ds, gd 15 d = true) (hl : ds.length ≤ 100) : gd 20 (madeD op ds) = true := by
  have z : gd 16 (.tuple (.str op :: ds)) = true := gd_tup (fun d hd => by
    rcases List.mem_cons.mp hd with e | e
    · rw [e]; exact gd_le ho (by decide)
    · exact h d e) (by rw [List.length_cons]; omega)
  unfold madeD
  split
  · rename_i d
    exact gd_le (h d (List.mem_singleton.mpr rfl)) (by decide)
  · exact gd_le z (by decide)
theorem madeD_ne {op : Str} {ds : List PyData} (h : ds.length ≠ 1) : madeD op ds = .tuple (.str op :: ds) := by
  match ds, h with
  | [], _ => rfl
  | [d], h => exact absurd rfl h
  | a :: b :: r, _ => rfl
end Fv


namespace Fv
open PySem PySem.Spec PyProof.Rows L2 FvX
theorem lmeas_up : ∀ (n : Nat) (d : PyData), 1 ≤ lmeas n d → lmeas (n + 1) d = lmeas n d
  | 0, d, h => by simp only [lmeas] at h; omega
  | n + 1, d, h => by
    by_cases a : isLd d = true
    · unfold lmeas
      rw [if_pos a, if_pos a]
    · by_cases b : isCd d = true
      · have e : ∀ m, lmeas (m + 1) d = if (0 : Int) ∈ (parts d).map (lmeas m) then 0 else ((parts d).map (lmeas m)).sum := fun m => by
          show (if isLd d = true then (1 : Int) else if isCd d = true then _ else 0) = _
          rw [if_neg a, if_pos b]
        rw [e] at h
        by_cases c : (0 : Int) ∈ (parts d).map (lmeas n)
        · rw [if_pos c] at h; omega
        · have em : (parts d).map (lmeas (n + 1)) = (parts d).map (lmeas n) := List.map_congr_left fun x hx => lmeas_up n x (by
            have z := lmeas_nonneg n x
            rcases Int.lt_or_eq_of_le z with z | z
            · omega
            · exact absurd (List.mem_map.mpr ⟨x, hx, z.symm⟩) c)
          rw [e (n + 1), e n, em]
      · have e : ∀ m, lmeas (m + 1) d = 0 := fun m => by
          show (if isLd d = true then (1 : Int) else if isCd d = true then _ else 0) = _
          rw [if_neg a, if_neg b]
        rw [e] at h; omega
theorem mem_le_sum : ∀ {l : List Int} {x : Int}, (∀ y ∈ l, 0 ≤ y) → x ∈ l → x ≤ l.sum
  | y :: l, x, h, hx => by
    rw [List.sum_cons]
    have h0 := sum_nonneg (l := l) fun z hz => h z (List.mem_cons_of_mem _ hz)
    have h1 := h y (List.mem_cons_self ..)
    rcases List.mem_cons.mp hx with e | e
    · omega
    · have := mem_le_sum (l := l) (fun z hz => h z (List.mem_cons_of_mem _ hz)) e
      omega
theorem tmB_iff (d : PyData) : tmB d = true ↔ 1 ≤ lmeas 5 d ∧ lmeas 5 d ≤ 24 := by
  unfold tmB
  rw [meas_some, Bool.and_eq_true, decide_eq_true_eq, decide_eq_true_eq]
theorem tmB_fits (d : PyData) : (decide (1 ≤ lmeas 5 d) && decide (lmeas 5 d ≤ 24)) = tmB d := (meas_some 5 d 24).symm
/-- what makes a term is made of terms -/
theorem made_parts {op : Str} {ds : List PyData} (h : tmB (madeD op ds) = true) : ds ≠ [] ∧ ∀ d ∈ ds, tmB d = true := by
  match ds, h with
  | [], h => cases (show false = true from h)
  | [d], h => exact ⟨fun z => (by cases z), fun x hx => by rw [List.mem_singleton.mp hx]; exact h⟩
  | a :: b :: r, h =>
    refine ⟨fun z => (by cases z), fun x hx => ?_⟩
    obtain ⟨h1, h2⟩ := (tmB_iff _).mp h
    have e : lmeas 5 (madeD op (a :: b :: r)) = if isCd (.tuple (.str op :: a :: b :: r)) = true then (if (0 : Int) ∈ (a :: b :: r).map (lmeas 4) then 0 else ((a :: b :: r).map (lmeas 4)).sum) else 0 := rfl
    rw [e] at h1 h2
    by_cases c : isCd (.tuple (.str op :: a :: b :: r)) = true
    · rw [if_pos c] at h1 h2
      by_cases c0 : (0 : Int) ∈ (a :: b :: r).map (lmeas 4)
      · rw [if_pos c0] at h1; omega
      · rw [if_neg c0] at h1 h2
        have z := lmeas_nonneg 4 x
        have x1 : 1 ≤ lmeas 4 x := by
          rcases Int.lt_or_eq_of_le z with z | z
          · omega
          · exact absurd (List.mem_map.mpr ⟨x, hx, z.symm⟩) c0
        have xs : lmeas 4 x ≤ ((a :: b :: r).map (lmeas 4)).sum := mem_le_sum (fun y hy => by
          obtain ⟨d', _, rfl⟩ := List.mem_map.mp hy
          exact lmeas_nonneg 4 d') (List.mem_map.mpr ⟨x, hx, rfl⟩)
        exact (tmB_iff x).mpr (by rw [lmeas_up 4 x x1]; omega)
    · rw [if_neg c] at h1; omega
def badD : PyData := .tuple [.none, .str "InvalidTerm"]
def outD (op : Str) (ds : List PyData) : PyData := if tmB (madeD op ds) = true then .tuple [madeD op ds, .str ""] else badD
def opOf (low : Bool) : Str := if low = true then "&" else "|"
def spMade (K : PySem.W.Frag) (CT : Addr) : Sp := fun vs H Q E => ∃ (pl : Addr) (xs : List V) (ds : List PyData) (low : Bool), vs = [.ref pl, .bl low] ∧ H pl = some (.lst xs) ∧ DpAll K H xs ds ∧ xs.length ≤ 4 ∧ (∀ d ∈ ds, gd 13 d = true) ∧
  (tmB (madeD (opOf low) ds) = true → ∀ H' v, Same H H' → Dp K H' v (madeD (opOf low) ds) → Q v H') ∧ (tmB (madeD (opOf low) ds) = false → errAt CT "InvalidTerm" H E)
def spDue (K : PySem.W.Frag) : Sp := fun vs H Q _ => ∃ (pl : Addr) (xs : List V) (ds : List PyData) (low : Bool), vs = [.ref pl, .bl low] ∧ H pl = some (.lst xs) ∧ DpAll K H xs ds ∧ xs.length ≤ 4 ∧ (∀ d ∈ ds, gd 13 d = true) ∧
  ∀ H' v, Same H H' → Dp K H' v (outD (opOf low) ds) → Q v H'
theorem eqv_nil (ds : List PyData) : PyData.eqv (.list ds) (.list []) = decide (ds = []) := by
  cases ds with
  | nil => rfl
  | cons d ds => simp [PyData.eqv, PyData.eqvAll]
/-- what _law_call makes of the lambda's reading -/
def TCall (K : PySem.W.Frag) (CF : Addr) : (XK → Hp → VK → Prop) → Hp → VK → Prop := fun tl H Q => ∀ (R : VK) (E : XK),
  (∀ v H', (∀ p, H' p = none → Q (.ref p) (upd H' p (.tup [v, .str ""]))) → R v H') →
  (∀ (C dd : Addr) (H' : Hp) (fs : List (Str × V)) (v : V), PySem.W.exmOne K (.ref C) (.ref CF) = some true → XfC K C → PySem.W.findIn K (.ref C) "code" = some none → H' dd = some (.xd fs) → fs.lookup ("code" : Str) = some v →
      (∀ p, H' p = none → Q (.ref p) (upd H' p (.tup [.non, v]))) → E (.ref C) (some dd) H') → tl E H R
end Fv


namespace Fv
open PySem PySem.Spec PyProof.Rows L2 FvX
/-! ### what stays when a lambda is made -/
theorem sq_ext {K : PySem.W.Frag} {H H' : Hp} {a : Addr} {xs : List V} (e : LamX.ExtN H H') (h : SqL K H a xs) : SqL K H' a xs := by
  rcases h with (h | ⟨o, h⟩) | h
  · exact .inl (.inl (e _ _ h fun ps z => by cases z))
  · exact .inl (.inr ⟨o, e _ _ h fun ps z => by cases z⟩)
  · exact .inr h
theorem sqT_ext {K : PySem.W.Frag} {H H' : Hp} {a : Addr} {xs : List V} (e : LamX.ExtN H H') (h : SqT K H a xs) : SqT K H' a xs := by
  rcases h with (h | ⟨o, h⟩) | h
  · exact .inl (.inl (e _ _ h fun ps z => by cases z))
  · exact .inl (.inr ⟨o, e _ _ h fun ps z => by cases z⟩)
  · exact .inr h
mutual
theorem dp_ext {K : PySem.W.Frag} {H H' : Hp} (e : LamX.ExtN H H') : ∀ (d : PyData) (v : V), Dp K H v d → Dp K H' v d
  | .none, _, h => by cases h; exact .non
  | .bool b, _, h => by cases h; exact .bl b
  | .int i, _, h => by cases h; exact .int i
  | .str x, _, h => by cases h; exact .str x
  | .list ds, _, h => by cases h with | lst hs ha => exact .lst (sq_ext e hs) (dpAll_ext e ds _ ha)
  | .tuple ds, _, h => by cases h with | tup hs ha => exact .tup (sqT_ext e hs) (dpAll_ext e ds _ ha)
  | .dict kvs, _, h => by cases h
theorem dpAll_ext {K : PySem.W.Frag} {H H' : Hp} (e : LamX.ExtN H H') : ∀ (ds : List PyData) (vs : List V), DpAll K H vs ds → DpAll K H' vs ds
  | [], _, h => by cases h; exact .nil
  | d :: ds, _, h => by cases h with | cons h1 h2 => exact .cons (dp_ext e d _ h1) (dpAll_ext e ds _ h2)
end
theorem ext_hide {M : List Addr} {H H' : Hp} (e : LamX.ExtN H H') : LamX.ExtN (hide M H) (hide M H') := fun b o z n => by
  obtain ⟨m, z⟩ := hide_some z
  rw [hide_ne m]
  exact e b o z n
theorem Src.ext {H H' : Hp} {a L : Addr} {ns : List Int} (h : Src H a L ns) (e : LamX.ExtN H H') : Src H' a L ns := by
  obtain ⟨i, p, st, c, h1, h2, h3⟩ := h
  exact ⟨i, p, st, c, e _ _ h1 (fun ps z => by cases z), e _ _ h2 (fun ps z => by cases z), h3⟩
theorem GV.ext {K : PySem.W.Frag} {n : Nat} {M : List Addr} {H H' : Hp} {v : V} (g : GV K n M H v) (e : LamX.ExtN H H') : GV K n M H' v := by
  obtain ⟨d, h1, h2⟩ := g
  exact ⟨d, dp_ext (ext_hide e) d v h1, h2⟩
theorem GV.smx {K : PySem.W.Frag} {n : Nat} {M : List Addr} {H H' : Hp} {v : V} (g : GV K n M H v) (s : SmX M H H') : GV K n M H' v := by
  obtain ⟨d, h1, h2⟩ := g
  exact ⟨d, dp_same s.hid d v h1, h2⟩
/-- tables stay where lists alone are changed -/
theorem tabs_smx {T : List (Addr × Str)} {M : List Addr} {H H' : Hp} (t : LamX.Tabs T H) (s : SmX M H H') (hM : ∀ b ∈ M, ∃ xs, H b = some (.lst xs)) : LamX.Tabs T H' := fun p hp => by
  obtain ⟨ps, h1, h2, h3⟩ := t p hp
  have nm : ∀ {b : Addr} {o : HO}, H b = some o → (∀ xs, o ≠ .lst xs) → b ∉ M := fun {b o} e n hb => by
    obtain ⟨xs, e'⟩ := hM b hb
    rw [e] at e'
    exact n xs (Option.some.inj e')
  refine ⟨ps, s _ _ (nm h1 fun xs z => by cases z) h1, h2, fun pos cv hc => ?_⟩
  obtain ⟨c, e1, e2⟩ := h3 pos cv hc
  exact ⟨c, e1, s _ _ (nm e2 fun xs z => by unfold LamX.CodeO at z; cases z) e2⟩
theorem tabs_same {T : List (Addr × Str)} {H H' : Hp} (t : LamX.Tabs T H) (s : Same H H') : LamX.Tabs T H' := t.ext s
theorem Src.lst {H : Hp} {a L : Addr} {ns : List Int} (h : Src H a L ns) : ∀ b ∈ [a], ∃ xs, H b = some (.lst xs) := fun b hb => by
  obtain ⟨_, _, _, _, e, _⟩ := h
  rw [List.mem_singleton.mp hb]
  exact ⟨_, e⟩
/-- the table of the law's own code -/
def TT0 (Pt : Addr) : List (Addr × Str) := [(Pt, ("law" : Str) ++ ".<locals>." ++ "<lambda>")]
section
variable {P : Program} {w : World} {K : PySem.W.Frag} {mg : Str → Option Value} {base : Heap}
/-- a def whose code object is told -/
theorem okC {x qual : Str} {st : Stmt} {f c : Addr} {oc : Value} {od an : Option Addr} {osl : Array (Option Value)} {kV doc pm ct : Value} {N ps : List Str} {k : Nat} {sp : Sp} (lk : K.lookup f = some ⟨oc, od, .func (PySem.W.fnOf x qual (defArgs st) (defBody st) (defScope st) .none kV doc pm an (.ref c) ct), osl⟩)
    (hcd : PySem.W.codeIn K (.ref c) qual = true) (S : FnScope N ps (defScope st)) (len : ∀ vs H Q E, sp vs H Q E → vs.length = ps.length)
    (hbody : ∀ (A : Around) (outer : List Env) (s : Shared) (H : Hp) (vs : List V) (Q : VK) (E : XK), Room k (A.deeper (envOfC qual (defScope st) s.heap.objs.size f (.ref c))) → sp vs H Q E →
      ∃ t, PSs (cxOf CX0 P w K mg base N qual (defScope st) f (.ref c) A outer s H E).nox (defBody st) t ∧ t { nx := fun _ H' => Q .non H', rt := Q } (start N vs) H) :
    FnOk P w K mg base CX0 (k + 1) f (PySem.W.fnOf x qual (defArgs st) (defBody st) (defScope st) .none kV doc pm an (.ref c) ct) ps sp :=
  fn_of lk hcd S len fun A outer s H vs Q E hr h => by
    obtain ⟨t, h1, h2⟩ := hbody A outer s H vs Q E hr h
    exact ⟨t, h1.nox, h2⟩
end
def spLawT (K : PySem.W.Frag) (Pt : Addr) : Sp := fun vs H Q _ => ∃ (a : Addr) (ns : List Int), vs = [.ref a] ∧ SqL K H a (ns.map V.int) ∧ ns.length ≤ 63 ∧ H Pt = some (.tbl #[]) ∧ ∀ H', Q (.bl true) H'
theorem outD_gd {op : Str} {ds : List PyData} (h : gd 20 (madeD op ds) = true) : gd 21 (outD op ds) = true := by
  unfold outD
  split
  · refine gd_tup (fun d hd => ?_) (Nat.le_of_ble_eq_true rfl)
    rcases List.mem_cons.mp hd with e | e
    · rw [e]; exact h
    · rw [List.mem_singleton.mp e]; exact gd_le (n := 0) (by decide +kernel) (Nat.zero_le _)
  · exact gd_le (n := 1) (by decide +kernel) (by decide)
end Fv


namespace Fv
open PySem PySem.Spec PyProof.Rows L2
def topS (i : Nat) : Stmt := PySem.Challenge.pw_fivefault_k06_texts_that_are_no_terms.main.body.getD i (.Pass ⟨0, 0, 0, 0⟩)
-- top 21  slots: 0:_law_source_here 1:_law_many 2:_law_cell 3:_law_digit 4:_law_mixed_here
abbrev s_law_take : Stmt := topS 21
abbrev N_law_take : List Str := ["_law_source_here", "_law_many", "_law_cell", "_law_digit", "_law_mixed_here"]
theorem sc_law_take : FnScope N_law_take ["_law_source_here", "_law_many"] (defScope s_law_take) := ⟨rfl, rfl, rfl, by decide +kernel, rfl, by decide +kernel, by decide +kernel⟩

theorem at_int {ns : List Int} {i : Int} (h0 : 0 ≤ i) (h : i < ((ns.map V.int).length : Nat)) : ∃ v : Int, atI (ns.map V.int) i = some (.int v) := by
  rw [List.length_map] at h
  have hk : i.toNat < ns.length := by omega
  have q : atI (ns.map V.int) ((i.toNat : Nat) : Int) = some (.int ns[i.toNat]) := atI_nat (by rw [List.getElem?_map, List.getElem?_eq_getElem hk] <;> rfl)
  rw [show ((i.toNat : Nat) : Int) = i by omega] at q
  exact ⟨_, q⟩
def zz (st c : Int) : Int := (((st * st) % 2147483629 + 40507 * (c + 1)) * 48271 + st + 17) % 2147483629
theorem pos1 : (0 : Int) < 2147483587 := by decide
theorem pos2 : (0 : Int) < 2147483629 := by decide
theorem pos3 : (0 : Int) < 8191 := by decide
section
variable {P : Program} {w : World} {K : PySem.W.Frag} {mg : Str → Option Value} {base : Heap}
theorem ok_take {f : Addr} {fd : FuncData} {k : Nat} (F : Fun K "_law_take" "_law_take" s_law_take f fd) (m_len : mg "len" = none) (m_int : mg "int" = none) :
    FnOk P w K mg base CX0 (k + 1) f fd ["_law_source_here", "_law_many"] spTake := by
  refine F.ok sc_law_take (fun vs H Q E h => ?_) (fun cdv A outer s H vs Q E hr h => ?_)
  · obtain ⟨a, L, ns, n, rfl, _⟩ := h
    rfl
  · obtain ⟨a, L, ns, n, rfl, ⟨i, p, st, c, hA, hL, h0, h1, h2⟩, n1, n2, q⟩ := h
    have aL : L ≠ a := fun e => by
      rw [e, hA] at hL
      cases ns with
      | nil => cases hL
      | cons x r => cases hL
    refine ⟨_, (C8.pss_cut (ps_if (PW.pt (pw_and (pt_cmpR op_eq (pe_ix ix_list (pv 0) pe_int (fun _ _ => rfl)) pe_int (nomark _)) (pw_and1 (pt_cmpR op_lt (pe_ix ix_list (pv 0) pe_int (fun _ _ => rfl)) (pe_callB call_len_seq (by rfl) m_len (by decide +kernel) (pa_cons (pe_ix ix_list (pv 0) pe_int (fun _ _ => rfl)) pa_nil)) (nomark _)))))
        (pss_cons (ps_set (i := 2) sc_law_take.nd rfl (by first | exact .inl rfl | exact .inr rfl) (pe_ix ix_list (pe_ix ix_list (pv 0) pe_int (fun _ _ => rfl)) (pe_ix ix_list (pv 0) pe_int (fun _ _ => rfl)) (fun _ _ => rfl)))
        (pss_cons (ps_asg (pe_op op_add (pe_ix ix_list (pv 0) pe_int (fun _ _ => rfl)) pe_int) (pg_sub (pv 0) pe_int set_list))
        (pss_one (ps_if (pt_cmpR op_ge (pv 2) (pe_op op_pow pe_int pe_int) (nomark _))
          (pss_one (ps_asg (pv 2) (pg_sub (pv 0) pe_int set_list)))
          (pss_one (ps_asg (pe_op op_mod (pe_callTy call_int1 (by rfl) m_int (by decide +kernel) (pa_cons (pe_op op_add (pe_op op_add (pe_op op_mul (pe_ix ix_list (pv 0) pe_int (fun _ _ => rfl)) pe_int) (pe_op op_mul (pe_op op_mod (pe_callTy call_int1 (by rfl) m_int (by decide +kernel) (pa_cons (pv 2) pa_nil)) pe_int) pe_int)) pe_int) pa_nil)) pe_int) (pg_sub (pv 0) pe_int set_list)))))))
        pss_nil)
      (pss_cons (ps_if (pt_cmpR op_gt (pe_ix ix_list (pv 0) pe_int (fun _ _ => rfl)) pe_int (nomark _))
        (pss_cons (ps_set (i := 3) sc_law_take.nd rfl (by first | exact .inl rfl | exact .inr rfl) (pe_op op_mod (pe_callTy call_int1 (by rfl) m_int (by decide +kernel) (pa_cons (pe_ix ix_list (pv 0) pe_int (fun _ _ => rfl)) pa_nil)) (pv 1)))
        (pss_cons (ps_asg (pe_op op_fdiv (pe_ix ix_list (pv 0) pe_int (fun _ _ => rfl)) (pv 1)) (pg_sub (pv 0) pe_int set_list))
        (pss_one (ps_ret (pv 3)))))
        pss_nil)
      (pss_cons (ps_asg (pe_op op_add (pe_ix ix_list (pv 0) pe_int (fun _ _ => rfl)) pe_int) (pg_sub (pv 0) pe_int set_list))
      (pss_cons (ps_set (i := 4) sc_law_take.nd rfl (by first | exact .inl rfl | exact .inr rfl) (pe_op op_add (pe_op op_mod (pe_callTy call_int1 (by rfl) m_int (by decide +kernel) (pa_cons (pe_op op_mul (pe_ix ix_list (pv 0) pe_int (fun _ _ => rfl)) (pe_ix ix_list (pv 0) pe_int (fun _ _ => rfl))) pa_nil)) pe_int) (pe_op op_mul pe_int (pe_ix ix_list (pv 0) pe_int (fun _ _ => rfl)))))
      (pss_cons (ps_asg (pe_op op_mod (pe_callTy call_int1 (by rfl) m_int (by decide +kernel) (pa_cons (pe_op op_add (pe_op op_add (pe_op op_mul (pv 4) pe_int) (pe_ix ix_list (pv 0) pe_int (fun _ _ => rfl))) pe_int) pa_nil)) pe_int) (pg_sub (pv 0) pe_int set_list))
      (pss_one (ps_ret (pe_op op_mod (pe_callTy call_int1 (by rfl) m_int (by decide +kernel) (pa_cons (pe_op op_add (pe_op op_fdiv (pe_ix ix_list (pv 0) pe_int (fun _ _ => rfl)) pe_int) (pe_op op_mul (pe_op op_mod (pe_callTy call_int1 (by rfl) m_int (by decide +kernel) (pa_cons (pe_ix ix_list (pv 0) pe_int (fun _ _ => rfl)) pa_nil)) pe_int) pe_int)) pa_nil)) (pv 1))))))))), ?_⟩
    refine ⟨fun σ' H' => ∃ (y2 : Option V) (i p st c : Int), σ' = [some (.ref a), some (.int n), y2, none, none] ∧ H' a = some (.lst [.ref L, .int i, .int p, .int st, .int c]) ∧ H' L = some (.lst (ns.map V.int)) ∧ 0 ≤ i ∧ 0 ≤ st ∧ st < 2147483629 ∧ (∀ b, b ≠ a → H' b = H b), ?_, ?_⟩
    · -- the first if
      refine ⟨_, rfl, a, _, _, _, rfl, rfl, SqL.of hA, rfl, rfl, _, rfl, ?_⟩
      refine ite2 (fun c0 => ?_) (fun c0 => ?_)
      · refine ⟨_, rfl, a, _, _, _, rfl, rfl, SqL.of hA, rfl, _, rfl, a, _, _, _, rfl, rfl, SqL.of hA, rfl, L, _, rfl, .inl (SqL.of hL), _, _, rfl, rfl, _, rfl, ?_⟩
        refine ite2 (fun c1 => ?_) (fun c1 => ?_)
        · obtain ⟨v, hv⟩ := at_int h0 (of_decide_eq_true c1)
          refine ⟨_, rfl, a, _, _, _, rfl, rfl, SqL.of hA, rfl, _, rfl, a, _, _, _, rfl, rfl, SqL.of hA, rfl, L, _, _, _, rfl, rfl, SqL.of hL, hv, ?_⟩
          refine ⟨_, rfl, a, _, _, _, rfl, rfl, SqL.of hA, rfl, _, _, rfl, rfl, _, rfl, a, _, _, _, rfl, rfl, hA, rfl, ?_⟩
          have hA2 : (upd H a (.lst [.ref L, .int (i + 1), .int p, .int st, .int c])) a = some (.lst [.ref L, .int (i + 1), .int p, .int st, .int c]) := upd_same
          refine ⟨_, rfl, _, _, rfl, rfl, ⟨by decide, by decide, by decide⟩, _, _, rfl, rfl, _, rfl, ?_⟩
          refine ite2 (fun c2 => ?_) (fun c2 => ?_)
          · refine ⟨_, rfl, _, rfl, a, _, _, _, rfl, rfl, hA2, rfl, ?_⟩
            refine ⟨some (.int v), i + 1, v, st, c, rfl, upd_same, ?_, by omega, h1, h2, fun b nb => ?_⟩
            · rw [upd_ne aL, upd_ne aL]; exact hL
            · rw [upd_ne nb, upd_ne nb]
          · refine ⟨_, rfl, a, _, _, _, rfl, rfl, SqL.of hA2, rfl, _, _, rfl, rfl, .inr ⟨by decide, by decide⟩, _, rfl, .inl ⟨_, rfl, _, _, rfl, rfl, pos1, _, _, rfl, rfl, .inr ⟨by decide, by decide⟩, _, _, rfl, rfl, _, _, rfl, rfl, .inl ⟨_, rfl, _, _, rfl, rfl, pos2, ?_⟩⟩⟩
            refine ⟨_, rfl, a, _, _, _, rfl, rfl, hA2, rfl, ?_⟩
            refine ⟨some (.int v), i + 1, p, _, c, rfl, upd_same, ?_, by omega, ?_, ?_, fun b nb => ?_⟩
            · rw [upd_ne aL, upd_ne aL]; exact hL
            · exact Int.emod_nonneg _ (by decide)
            · exact Int.emod_lt_of_pos _ (by decide)
            · rw [upd_ne nb, upd_ne nb]
        · exact ⟨none, i, p, st, c, rfl, hA, hL, h0, h1, h2, fun b nb => rfl⟩
      · exact iteF ⟨none, i, p, st, c, rfl, hA, hL, h0, h1, h2, fun b nb => rfl⟩
    · rintro σ' H' ⟨y2, i, p, st, c, rfl, hA, hL, h0, h1, h2, off⟩
      refine ⟨_, rfl, a, _, _, _, rfl, rfl, SqL.of hA, rfl, _, _, rfl, rfl, _, rfl, ?_⟩
      refine ite2 (fun c0 => ?_) (fun c0 => ?_)
      · have cp : p > 0 := of_decide_eq_true c0
        refine ⟨_, rfl, a, _, _, _, rfl, rfl, SqL.of hA, rfl, .inl ⟨_, rfl, _, rfl, _, _, rfl, rfl, by omega, ?_⟩⟩
        refine ⟨_, rfl, a, _, _, _, rfl, rfl, SqL.of hA, rfl, _, rfl, _, _, rfl, rfl, ⟨by omega, by omega⟩, _, rfl, a, _, _, _, rfl, rfl, hA, rfl, ?_⟩
        refine ⟨_, rfl, q _ _ (Int.emod_nonneg _ (by omega)) (Int.emod_lt_of_pos _ (by omega)) ⟨i, _, st, c, upd_same, ?_, h0, h1, h2⟩ fun b nb => ?_⟩
        · rw [upd_ne aL]; exact hL
        · rw [upd_ne nb]; exact off b nb
      · refine ⟨_, rfl, a, _, _, _, rfl, rfl, SqL.of hA, rfl, _, _, rfl, rfl, _, rfl, a, _, _, _, rfl, rfl, hA, rfl, ?_⟩
        have hA2 : (upd H' a (.lst [.ref L, .int i, .int p, .int st, .int (c + 1)])) a = some (.lst [.ref L, .int i, .int p, .int st, .int (c + 1)]) := upd_same
        refine ⟨_, rfl, a, _, _, _, rfl, rfl, SqL.of hA2, rfl, _, rfl, a, _, _, _, rfl, rfl, SqL.of hA2, rfl, _, _, rfl, rfl, .inl ⟨by omega, by omega⟩, .inl ⟨_, rfl, _, _, rfl, rfl, pos2, ?_⟩⟩
        refine ⟨_, rfl, a, _, _, _, rfl, rfl, SqL.of hA2, rfl, _, _, rfl, rfl, .inl ⟨by decide, by decide⟩, _, _, rfl, rfl, ?_⟩
        refine ⟨_, rfl, _, _, rfl, rfl, .inr ⟨by decide, by decide⟩, _, rfl, a, _, _, _, rfl, rfl, SqL.of hA2, rfl, _, _, rfl, rfl, _, _, rfl, rfl, .inl ⟨_, rfl, _, _, rfl, rfl, pos2, ?_⟩⟩
        refine ⟨_, rfl, a, _, _, _, rfl, rfl, hA2, rfl, ?_⟩
        have z0 : 0 ≤ zz st c := Int.emod_nonneg _ (by decide)
        have z1 : zz st c < 2147483629 := Int.emod_lt_of_pos _ (by decide)
        have hA3 : (upd (upd H' a (.lst [.ref L, .int i, .int p, .int st, .int (c + 1)])) a (.lst [.ref L, .int i, .int p, .int (zz st c), .int (c + 1)])) a = some (.lst [.ref L, .int i, .int p, .int (zz st c), .int (c + 1)]) := upd_same
        refine ⟨_, rfl, a, _, _, _, rfl, rfl, SqL.of hA3, rfl, _, _, rfl, rfl, ⟨by decide, by decide⟩, ?_⟩
        refine ⟨_, rfl, a, _, _, _, rfl, rfl, SqL.of hA3, rfl, .inl ⟨_, rfl, _, _, rfl, rfl, pos3, _, _, rfl, rfl, .inr ⟨by decide, by decide⟩, _, _, rfl, rfl, .inl ⟨_, rfl, _, rfl, _, _, rfl, rfl, by omega, ?_⟩⟩⟩
        refine q _ _ (Int.emod_nonneg _ (by omega)) (Int.emod_lt_of_pos _ (by omega)) ⟨i, p, zz st c, c + 1, upd_same, ?_, h0, z0, z1⟩ fun b nb => ?_
        · rw [upd_ne aL, upd_ne aL]; exact hL
        · rw [upd_ne nb, upd_ne nb]; exact off b nb
end
end Fv


namespace Fv
open PySem PySem.Spec PyProof.Rows L2
-- top 20  slots: 0:_law_script
abbrev s_law_source : Stmt := topS 20
abbrev N_law_source : List Str := ["_law_script"]
theorem sc_law_source : FnScope N_law_source ["_law_script"] (defScope s_law_source) := ⟨rfl, rfl, rfl, by decide +kernel, rfl, by decide +kernel, by decide +kernel⟩

-- top 22  slots: 0:_law_source_here 1:_law_row
abbrev s_law_pick : Stmt := topS 22
abbrev N_law_pick : List Str := ["_law_source_here", "_law_row"]
theorem sc_law_pick : FnScope N_law_pick ["_law_source_here", "_law_row"] (defScope s_law_pick) := ⟨rfl, rfl, rfl, by decide +kernel, rfl, by decide +kernel, by decide +kernel⟩

-- top 23  slots: 0:_law_source_here 1:_law_row 2:_law_found 3:_law_one
abbrev s_law_mixed : Stmt := topS 23
abbrev N_law_mixed : List Str := ["_law_source_here", "_law_row", "_law_found", "_law_one"]
theorem sc_law_mixed : FnScope N_law_mixed ["_law_source_here", "_law_row"] (defScope s_law_mixed) := ⟨rfl, rfl, rfl, by decide +kernel, rfl, by decide +kernel, by decide +kernel⟩

-- top 30  slots: 0:_law_source_here 1:_law_most 2:_law_every
abbrev s_law_signs : Stmt := topS 30
abbrev N_law_signs : List Str := ["_law_source_here", "_law_most", "_law_every"]
theorem sc_law_signs : FnScope N_law_signs ["_law_source_here", "_law_most"] (defScope s_law_signs) := ⟨rfl, rfl, rfl, by decide +kernel, rfl, by decide +kernel, by decide +kernel⟩

section
variable {P : Program} {w : World} {K : PySem.W.Frag} {mg : Str → Option Value} {base : Heap}
theorem ok_source {f : Addr} {fd : FuncData} {k : Nat} (F : Fun K "_law_source" "_law_source" s_law_source f fd) (m_list : mg "list" = none) :
    FnOk P w K mg base CX0 (k + 1) f fd ["_law_script"] (spSource K) := by
  refine F.ok sc_law_source (fun vs H Q E h => ?_) (fun cdv A outer s H vs Q E hr h => ?_)
  · obtain ⟨a, ns, rfl, _⟩ := h
    rfl
  · obtain ⟨a, ns, rfl, hS, hl, q⟩ := h
    refine ⟨_, (pss_one (ps_ret (pe_lst (pa_cons (pe_callTy call_list_of (by rfl) m_list (by decide +kernel) (pa_cons (pe_slice sl_list (pv 0) po_none (po_some pe_int)) pa_nil)) (pa_cons pe_int (pa_cons pe_int (pa_cons pe_int (pa_cons pe_int pa_nil)))))))), ?_⟩
    refine ⟨_, rfl, _, rfl, a, _, rfl, hS, fun c nc => ?_⟩
    have e1 : cutV (ns.map V.int) none (some 63) = ns.map V.int := by
      rw [cut_take _ (by decide)]
      exact List.take_of_length_le (by rw [List.length_map]; exact hl)
    refine ⟨c, _, rfl, .inl (SqL.of upd_same), fun L nL => ?_⟩
    refine ⟨(by show 5 ≤ sizeLine; decide), fun p np => ?_⟩
    have s1 := same_upd (o := .lst (cutV (ns.map V.int) none (some 63))) nc
    have s2 := same_upd (o := .lst (cutV (ns.map V.int) none (some 63))) nL
    have s3 := same_upd (o := .lst [.ref L, .int 0, .int 0, .int 3818, .int 0]) np
    refine q _ p L (s1.trans (s2.trans s3)) (s1.free (s2.free np)) (s1.free nL) ⟨0, 0, 3818, 0, upd_same, ?_, by decide, by decide, by decide⟩
    refine s3 _ _ ?_
    rw [upd_same, e1]
theorem ok_pick {f : Addr} {fd : FuncData} {k : Nat} (F : Fun K "_law_pick" "_law_pick" s_law_pick f fd) (m_len : mg "len" = none)
    (C_law_take : Own P w K mg base k "_law_take" ["_law_source_here", "_law_many"] spTake) :
    FnOk P w K mg base CX0 (k + 1) f fd ["_law_source_here", "_law_row"] spPick := by
  refine F.ok sc_law_pick (fun vs H Q E h => ?_) (fun cdv A outer s H vs Q E hr h => ?_)
  · obtain ⟨a, L, r, ns, xs, rfl, _⟩ := h
    rfl
  · obtain ⟨a, L, r, ns, xs, rfl, hs, ra, hr', hp, hl, q⟩ := h
    refine ⟨_, (pss_one (ps_ret (pe_ix ix_list (pv 1) (pe_own C_law_take (hr.mono (by omega)) (by rfl) (pa_cons (pv 0) (pa_cons (pe_callB call_len_seq (by rfl) m_len (by decide +kernel) (pa_cons (pv 1) pa_nil)) pa_nil))) (fun _ _ => rfl)))), ?_⟩
    refine ⟨_, rfl, _, rfl, _, rfl, r, _, rfl, .inl (SqL.of hr'), a, L, ns, _, rfl, hs, by omega, by omega, fun H' d d0 d1 hs' off => ?_⟩
    obtain ⟨v, hv, mv⟩ := atI_mem d0 d1
    exact ⟨r, _, _, _, rfl, rfl, SqL.of ((off r ra).trans hr'), hv, q H' v mv hs' off⟩
theorem ok_mixed {f : Addr} {fd : FuncData} {k : Nat} (F : Fun K "_law_mixed" "_law_mixed" s_law_mixed f fd) (m_len : mg "len" = none)
    (C_law_take : Own P w K mg base k "_law_take" ["_law_source_here", "_law_many"] spTake) :
    FnOk P w K mg base CX0 (k + 1) f fd ["_law_source_here", "_law_row"] spMixed := by
  refine F.ok sc_law_mixed (fun vs H Q E h => ?_) (fun cdv A outer s H vs Q E hr h => ?_)
  · obtain ⟨a, L, r, ns, xs, rfl, _⟩ := h
    rfl
  · obtain ⟨a, L, r, ns, xs, rfl, hs, ra, hR, hl, q⟩ := h
    refine ⟨_, (pss_cons (ps_set (i := 2) sc_law_mixed.nd rfl (by first | exact .inl rfl | exact .inr rfl) (pe_lst pa_nil))
      (pss_cons (ps_for PassesOwn.never rfl (pi_list (pv 1)) (pg_name (i := 3) sc_law_mixed.nd rfl (by first | exact .inl rfl | exact .inr rfl))
        (pss_one (ps_expr (pe_bm PySem.F.plainAttrs_list PySem.F.slot_list_insert PySem.F.type_list_insert mt_insert (pv 2) (pa_cons (pe_own C_law_take (hr.mono (by omega)) (by rfl) (pa_cons (pv 0) (pa_cons (pe_op op_add (pe_callB call_len_seq (by rfl) m_len (by decide +kernel) (pa_cons (pv 2) pa_nil)) pe_int) pa_nil))) (pa_cons (pv 3) pa_nil))))))
      (pss_one (ps_ret (pv 2))))), ?_⟩
    refine ⟨Nat.zero_le _, fun p np => ?_⟩
    have ap : a ≠ p := by
      obtain ⟨_, _, _, _, e, _⟩ := hs
      exact ne_of_none e np
    have rp : r ≠ p := ne_of_none hR np
    refine ⟨_, rfl, r, rfl, ⟨_, SqL.of (by rw [upd_ne rp]; exact hR)⟩, for_list (xs := xs) (fun i σ H1 => ∃ (y : Option V) (ys : List V), σ = [some (.ref a), some (.ref r), some (.ref p), y] ∧ ys.Perm (xs.take i) ∧ H1 p = some (.lst ys) ∧ Src H1 a L ns ∧ (∀ b, b ≠ a → b ≠ p → H1 b = H b)) ?_ ?_ ?_ ?_⟩
    · exact ⟨none, [], rfl, .nil, upd_same, hs.off np fun c hc => upd_ne hc, fun b _ hb => upd_ne hb⟩
    · rintro i σ H1 hi ⟨y, ys, rfl, pm, hp, hs1, off⟩
      exact SqL.of ((off r ra rp).trans hR)
    · rintro i x σ H1 hx ⟨y, ys, rfl, pm, hp, hs1, off⟩
      obtain ⟨hi, hxi⟩ := List.getElem?_eq_some_iff.mp hx
      have ly : ys.length = i := by
        rw [pm.length_eq, List.length_take]
        omega
      refine ⟨_, rfl, .inl ⟨rfl, _, SqL.of hp⟩, _, rfl, _, rfl, p, _, rfl, .inl (SqL.of hp), _, _, rfl, rfl, a, L, ns, _, rfl, hs1, by omega, by omega, fun H' d d0 d1 hs' off' => ?_⟩
      have hp' : H' p = some (.lst ys) := (off' p ap.symm).trans hp
      refine ⟨_, rfl, p, _, _, _, rfl, rfl, hp', small1000 (by omega), d0, by omega, ?_⟩
      refine ⟨_, _, rfl, ?_, upd_same, ?_, fun b ba bp => ?_⟩
      · rw [List.take_add_one, hx]
        refine List.Perm.trans ?_ (List.Perm.append_right _ pm)
        show (ys.take d.toNat ++ [x] ++ ys.drop d.toNat).Perm (ys ++ [x])
        refine List.Perm.trans (?_ : List.Perm _ (ys.take d.toNat ++ (ys.drop d.toNat ++ [x]))) ?_
        · rw [List.append_assoc]
          exact List.Perm.append_left _ List.perm_append_comm
        · rw [← List.append_assoc, List.take_append_drop]
      · obtain ⟨i', p', st, c, h1, h2, h3⟩ := hs'
        have Lp : L ≠ p := fun e => by
          obtain ⟨_, _, _, _, _, e2, _⟩ := hs
          rw [e, np] at e2
          cases e2
        exact ⟨i', p', st, c, by rw [upd_ne ap]; exact h1, by rw [upd_ne Lp]; exact h2, h3⟩
      · rw [upd_ne bp, off' b ba]
        exact off b ba bp
    · rintro σ H1 ⟨y, ys, rfl, pm, hp, hs1, off⟩
      rw [List.take_length] at pm
      exact ⟨_, rfl, q H1 p ys pm np hp hs1 off⟩
theorem ok_signs {f : Addr} {fd : FuncData} {k : Nat} (F : Fun K "_law_signs" "_law_signs" s_law_signs f fd) (m_list : mg "list" = none)
    (C_law_take : Own P w K mg base k "_law_take" ["_law_source_here", "_law_many"] spTake)
    (C_law_mixed : Own P w K mg base k "_law_mixed" ["_law_source_here", "_law_row"] spMixed) :
    FnOk P w K mg base CX0 (k + 1) f fd ["_law_source_here", "_law_most"] spSigns := by
  refine F.ok sc_law_signs (fun vs H Q E h => ?_) (fun cdv A outer s H vs Q E hr h => ?_)
  · obtain ⟨a, L, ns, n, rfl, _⟩ := h
    rfl
  · obtain ⟨a, L, ns, n, rfl, hs, n1, n8, q⟩ := h
    refine ⟨_, (pss_cons (ps_set (i := 2) sc_law_signs.nd rfl (by first | exact .inl rfl | exact .inr rfl) (pe_own C_law_mixed (hr.mono (by omega)) (by rfl) (pa_cons (pv 0) (pa_cons (pe_callTy (call_listStr hr.hd) (by rfl) m_list (by decide +kernel) (pa_cons pe_str pa_nil)) pa_nil))))
      (pss_one (ps_ret (pe_slice sl_list (pv 2) po_none (po_some (pe_op op_add pe_int (pe_own C_law_take (hr.mono (by omega)) (by rfl) (pa_cons (pv 0) (pa_cons (pv 1) pa_nil))))))))), ?_⟩
    refine ⟨_, rfl, _, rfl, by decide +kernel, fun r nr => ?_⟩
    have ar : a ≠ r := by
      obtain ⟨_, _, _, _, e, _⟩ := hs
      exact ne_of_none e nr
    refine ⟨a, L, r, ns, _, rfl, hs.off nr fun c hc => upd_ne hc, ar.symm, upd_same, by decide +kernel, fun H1 p ys pm np hp hs1 off1 => ?_⟩
    have s1 := same_upd (o := .lst (signs "abcdefgh")) nr
    have ap : a ≠ p := by
      obtain ⟨_, _, _, _, e, _⟩ := hs
      exact ne_of_none e (s1.free np)
    refine ⟨_, rfl, _, rfl, _, rfl, a, L, ns, n, rfl, hs1, n1, by omega, fun H2 d d0 d1 hs2 off2 => ?_⟩
    have hp2 : H2 p = some (.lst ys) := (off2 p ap.symm).trans hp
    refine ⟨_, _, rfl, rfl, _, rfl, p, ys, rfl, SqL.of hp2, fun z nz => ?_⟩
    have ly : ys.length = 8 := by
      rw [pm.length_eq]
      decide +kernel
    have ez : cutV ys none (some (1 + d)) = ys.take (1 + d).toNat := cut_take ys (by omega)
    have zn : H z = none := by
      have ap1 : H1 z = none := by
        by_cases e : z = a
        · rw [e] at nz
          obtain ⟨_, _, _, _, e', _⟩ := hs2
          rw [e'] at nz
          cases nz
        · rw [← off2 z e]; exact nz
      have ap2 : (upd H r (.lst (signs "abcdefgh"))) z = none := by
        by_cases e : z = a
        · rw [e] at ap1
          obtain ⟨_, _, _, _, e', _⟩ := hs1
          rw [e'] at ap1
          cases ap1
        · by_cases e2 : z = p
          · rw [e2] at ap1
            rw [hp] at ap1
            cases ap1
          · rw [← off1 z e e2]; exact ap1
      exact s1.free ap2
    refine q _ z _ ?_ ?_ ?_ ?_ zn upd_same (hs2.off nz fun c hc => upd_ne hc) ?_
    · rw [ez, List.length_take]; omega
    · rw [ez, List.length_take]; omega
    · intro y hy
      rw [ez] at hy
      exact pm.mem_iff.mp (List.mem_of_mem_take hy)
    · rw [ez]
      refine List.Sublist.nodup (List.take_sublist _ _) ?_
      exact pm.nodup_iff.mpr (by decide +kernel)
    · intro b o hb e
      have ba : b ≠ a := fun z => hb (by rw [z]; exact List.mem_singleton.mpr rfl)
      have bz : b ≠ z := ne_of_none e zn
      rw [upd_ne bz, off2 b ba, off1 b ba (ne_of_none e (s1.free np))]
      exact s1 b o e
end
end Fv


namespace Fv
open PySem PySem.Spec PyProof.Rows L2
-- top 10  slots: 0:value
abbrev s_is_letter : Stmt := topS 10
abbrev N_is_letter : List Str := ["value"]
theorem sc_is_letter : FnScope N_is_letter ["value"] (defScope s_is_letter) := ⟨rfl, rfl, rfl, by decide +kernel, rfl, by decide +kernel, by decide +kernel⟩

-- top 11  slots: 0:value
abbrev s_is_compound : Stmt := topS 11
abbrev N_is_compound : List Str := ["value"]
theorem sc_is_compound : FnScope N_is_compound ["value"] (defScope s_is_compound) := ⟨rfl, rfl, rfl, by decide +kernel, rfl, by decide +kernel, by decide +kernel⟩

-- top 12  slots: 0:value 1:max_depth 2:max_size 3:deepest 4:total 5:part 6:found
abbrev s_measured : Stmt := topS 12
abbrev N_measured : List Str := ["value", "max_depth", "max_size", "deepest", "total", "part", "found"]
theorem sc_measured : FnScope N_measured ["value", "max_depth", "max_size"] (defScope s_measured) := ⟨rfl, rfl, rfl, by decide +kernel, rfl, by decide +kernel, by decide +kernel⟩

-- top 13  slots: 0:value 1:max_depth 2:max_size
abbrev s_is_term : Stmt := topS 13
abbrev N_is_term : List Str := ["value", "max_depth", "max_size"]
theorem sc_is_term : FnScope N_is_term ["value", "max_depth", "max_size"] (defScope s_is_term) := ⟨rfl, rfl, rfl, by decide +kernel, rfl, by decide +kernel, by decide +kernel⟩

section
variable {P : Program} {w : World} {K : PySem.W.Frag} {mg : Str → Option Value} {base : Heap}
theorem at0 {x : V} {xs : List V} : atI (x :: xs) 0 = some x := atI_nat (xs := x :: xs) (rfl : (x :: xs)[0]? = some x)
theorem len_ok {n : Nat} {s : Str} (h : gd n (.str s) = true) : s.length ≤ sizeLine := by
  have q : s.length ≤ 100000 := by
    cases n <;> (simp only [gd, Bool.and_eq_true, decide_eq_true_eq] at h; exact h.2)
  exact Nat.le_trans q (by decide)
theorem ok_is_letter {f : Addr} {fd : FuncData} {k : Nat} (F : Fun K "is_letter" "is_letter" s_is_letter f fd) (m_isinstance : mg "isinstance" = none) (m_str : mg "str" = none) (m_len : mg "len" = none)
    {t : Tok} (g_LETTERS : mg "LETTERS" = some (.str "abcdefgh" t)) :
    FnOk P w K mg base CX0 (k + 1) f fd ["value"] (spIsLetter K) := by
  refine F.ok sc_is_letter (fun vs H Q E h => ?_) (fun cdv A outer s H vs Q E hr h => ?_)
  · obtain ⟨v, d, rfl, _⟩ := h
    rfl
  · obtain ⟨v, d, rfl, hd, hg, q⟩ := h
    refine ⟨_, (pss_one (ps_ret (pe_and (pe_isD (T := "str") (by rfl) m_isinstance (by rfl) m_str (pv 0)) (pe_and (pe_cmpR op_eq (pe_callB call_len_str (by rfl) m_len (by decide +kernel) (pa_cons (pv 0) pa_nil)) pe_int (nomark _)) (pe_one (pe_cmpR op_in_str (pv 0) (pe_glob (v := .str "abcdefgh") (by rfl) g_LETTERS (⟨_, rfl⟩)) (by rfl))))))), ?_⟩
    refine ⟨_, rfl, _, _, d, rfl, by decide, hd, _, rfl, ?_⟩
    cases d with
    | str z =>
      cases hd
      refine iteT ⟨_, rfl, z, rfl, len_ok hg, rfl, _, rfl, ?_⟩
      have e : isLd (.str z) = isL z := rfl
      rw [e] at q
      unfold isL at q
      refine ite2 (fun c => ?_) (fun c => ?_)
      · refine ⟨_, rfl, z, _, rfl, rfl, ?_⟩
        rw [c, Bool.true_and] at q
        exact q
      · rw [Bool.eq_false_iff.mpr c, Bool.false_and] at q
        exact q
    | _ => exact iteF q
theorem ok_is_compound {f : Addr} {fd : FuncData} {k : Nat} (F : Fun K "is_compound" "is_compound" s_is_compound f fd) (m_isinstance : mg "isinstance" = none) (m_tuple : mg "tuple" = none) (m_len : mg "len" = none)
    {oA : Addr} (g_OPERATORS : mg "OPERATORS" = some (.ref oA)) (hO : ∀ H, SqT K H oA [.str "&", .str "|"]) :
    FnOk P w K mg base CX0 (k + 1) f fd ["value"] (spIsCompound K) := by
  refine F.ok sc_is_compound (fun vs H Q E h => ?_) (fun cdv A outer s H vs Q E hr h => ?_)
  · obtain ⟨v, d, rfl, _⟩ := h
    rfl
  · obtain ⟨v, d, rfl, hd, hg, q⟩ := h
    refine ⟨_, (pss_one (ps_ret (pe_and (pe_isD (T := "tuple") (by rfl) m_isinstance (by rfl) m_tuple (pv 0)) (pe_and (pe_cmpR op_ge (pe_callB call_len_seq (by rfl) m_len (by decide +kernel) (pa_cons (pv 0) pa_nil)) pe_int (nomark _)) (pe_one (pe_cmpR (op_inT (hu65 hr)) (pe_ix ix_tup (pv 0) pe_int (fun _ _ => rfl)) (pe_glob (v := .ref oA) (by rfl) g_OPERATORS (rfl)) (by rfl))))))), ?_⟩
    refine ⟨_, rfl, _, _, d, rfl, by decide, hd, _, rfl, ?_⟩
    cases d with
    | tuple ds =>
      cases hd with
      | @tup a xs _ hs ha =>
        refine iteT ⟨_, rfl, a, xs, rfl, .inr hs, _, _, rfl, rfl, _, rfl, ?_⟩
        have hl := dpAll_len ha
        cases ds with
        | nil =>
          rw [hl]
          exact iteF q
        | cons o ds =>
          cases ha with
          | @cons x0 xr _ _ h1 h2 =>
            have hl' := dpAll_len h2
            have e : isCd (.tuple (o :: ds)) = (decide (2 ≤ ds.length) && isOp o) := rfl
            rw [e] at q
            refine ite2 (fun c => ?_) (fun c => ?_)
            · have c' : (3 : Int) ≤ (((x0 :: xr).length : Nat) : Int) := of_decide_eq_true c
              rw [List.length_cons] at c'
              refine ⟨_, rfl, a, _, _, x0, rfl, rfl, hs, at0, o, [.str "&", .str "|"], h1, .tup (hO _) (.cons (.str _) (.cons (.str _) .nil)), gd_shaped (gd_parts hg).1 (by decide), by decide +kernel, ?_⟩
              rw [decide_eq_true (by omega), Bool.true_and] at q
              exact q
            · have c' : ¬ (3 : Int) ≤ (((x0 :: xr).length : Nat) : Int) := of_decide_eq_false (Bool.eq_false_iff.mpr c)
              rw [List.length_cons] at c'
              rw [decide_eq_false (by omega), Bool.false_and] at q
              exact q
    | _ => exact iteF q
theorem ok_measured {f : Addr} {fd : FuncData} {k n : Nat} (F : Fun K "measured" "measured" s_measured f fd) (m_max : mg "max" = none) (hk : 1 ≤ k)
    (C_is_letter : Own P w K mg base 1 "is_letter" ["value"] (spIsLetter K)) (C_is_compound : Own P w K mg base 1 "is_compound" ["value"] (spIsCompound K))
    (C_measured : Own P w K mg base k "measured" ["value", "max_depth", "max_size"] (spMeas K n)) :
    FnOk P w K mg base CX0 (k + 1) f fd ["value", "max_depth", "max_size"] (spMeas K (n + 1)) := by
  refine F.ok sc_measured (fun vs H Q E h => ?_) (fun cdv A outer s H vs Q E hr h => ?_)
  · obtain ⟨v, d, md, ms, rfl, _⟩ := h
    rfl
  · obtain ⟨v, d, md, ms, rfl, hd, hg, m0, m1, q1, q2⟩ := h
    refine ⟨_, (pss_cons (ps_if (PW.pt (pw_or (pt_cmpR op_lt (pv 1) pe_int (nomark _)) (pw_or1 (pt_cmpR op_lt (pv 2) pe_int (nomark _)))))
        (pss_one (ps_ret pe_non))
        pss_nil)
      (pss_cons (ps_if (pt_val (pe_own C_is_letter (hr.mono (by omega)) (by rfl) (pa_cons (pv 0) pa_nil)))
        (pss_one (ps_ret (pe_tup (pa_cons pe_int (pa_cons pe_int pa_nil)))))
        pss_nil)
      (pss_cons (ps_if (pt_not (pt_val (pe_own C_is_compound (hr.mono (by omega)) (by rfl) (pa_cons (pv 0) pa_nil))))
        (pss_one (ps_ret pe_non))
        pss_nil)
      (pss_cons (ps_set (i := 3) sc_measured.nd rfl (by first | exact .inl rfl | exact .inr rfl) pe_int)
      (pss_cons (ps_set (i := 4) sc_measured.nd rfl (by first | exact .inl rfl | exact .inr rfl) pe_int)
      (pss_cons (ps_for PassesOwn.never rfl (pi_tup (pe_slice sl_tup (pv 0) (po_some pe_int) po_none)) (pg_name (i := 5) sc_measured.nd rfl (by first | exact .inl rfl | exact .inr rfl))
        (pss_cons (ps_set (i := 6) sc_measured.nd rfl (by first | exact .inl rfl | exact .inr rfl) (pe_own C_measured (hr.mono (by omega)) (by rfl) (pa_cons (pv 5) (pa_cons (pe_op op_sub (pv 1) pe_int) (pa_cons (pe_op op_sub (pv 2) (pv 4)) pa_nil)))))
        (pss_cons (ps_if (pt_cmpR op_isN (pv 6) pe_non (nomark _))
          (pss_one (ps_ret pe_non))
          pss_nil)
        (pss_cons (ps_set (i := 3) sc_measured.nd rfl (by first | exact .inl rfl | exact .inr rfl) (pe_callB (call_max2 rfl) (by rfl) m_max (by decide +kernel) (pa_cons (pv 3) (pa_cons (pe_ix ix_tup (pv 6) pe_int (fun _ _ => rfl)) pa_nil))))
        (pss_one (ps_set (i := 4) sc_measured.nd rfl (by first | exact .inl rfl | exact .inr rfl) (pe_op op_add (pv 4) (pe_ix ix_tup (pv 6) pe_int (fun _ _ => rfl)))))))))
      (pss_one (ps_ret (pe_tup (pa_cons (pe_op op_add (pv 3) pe_int) (pa_cons (pv 4) pa_nil))))))))))), ?_⟩
    refine ⟨_, rfl, _, _, rfl, rfl, _, rfl, ?_⟩
    have fin0 : ¬ 1 ≤ md ∨ ms < 1 → Q .non H := fun c => by
      refine q1 ?_ H (Same.refl H)
      rcases c with c | c
      · rw [show md.toNat = 0 by omega]; rfl
      · cases md.toNat with
        | zero => rfl
        | succ m => unfold meas; rw [if_pos c]
    refine ite2 (fun c => iteT (fin0 (.inl (by have := of_decide_eq_true c; omega)))) (fun c => ?_)
    have c1 : ¬ md < 1 := of_decide_eq_false (Bool.eq_false_iff.mpr c)
    refine ⟨_, rfl, _, _, rfl, rfl, _, rfl, ?_⟩
    refine ite2 (fun c => fin0 (.inr (of_decide_eq_true c))) (fun c => ?_)
    have c2 : ¬ ms < 1 := of_decide_eq_false (Bool.eq_false_iff.mpr c)
    obtain ⟨m, em⟩ : ∃ m, md.toNat = m + 1 := ⟨md.toNat - 1, by omega⟩
    have em' : (md - 1).toNat = m := by omega
    rw [em] at q1 q2
    unfold meas at q1 q2
    rw [if_neg c2] at q1 q2
    refine ⟨_, rfl, v, d, rfl, hd, hg, _, rfl, ?_⟩
    refine ite2 (fun c => ?_) (fun c => ?_)
    · refine ⟨(by show 2 ≤ sizeLine; decide), fun p np => ?_⟩
      rw [if_pos c] at q2
      exact q2 1 1 rfl _ p (same_upd np) upd_same
    · rw [if_neg c] at q1 q2
      refine ⟨_, rfl, v, d, rfl, hd, hg, _, rfl, ?_⟩
      cases hc : isCd d with
      | false =>
        rw [if_neg (by rw [hc]; decide)] at q1
        exact iteT (q1 rfl H (Same.refl H))
      | true =>
        rw [if_pos hc] at q1 q2
        refine iteF ?_
        cases d with
        | tuple ds =>
          cases ds with
          | nil => cases hc
          | cons o ds =>
            cases hd with
            | @tup a xs _ hs ha =>
              cases ha with
              | @cons x0 xr _ _ h1 h2 =>
                have hl := dpAll_len h2
                have h2l : 2 ≤ ds.length := by
                  have e : isCd (.tuple (o :: ds)) = (decide (2 ≤ ds.length) && isOp o) := rfl
                  rw [e, Bool.and_eq_true] at hc
                  exact of_decide_eq_true hc.1
                have ep : parts (.tuple (o :: ds)) = ds := rfl
                rw [ep] at q1 q2
                have gp := (gd_parts hg).2
                refine ⟨_, rfl, 1, rfl, a, x0 :: xr, rfl, hs, ?_, fun p np => ?_⟩
                · rw [show HT.sIx (x0 :: xr).length 0 (some 1) = min 1 (x0 :: xr).length from HT.sIx_nat _ 0 1, List.length_cons]
                  omega
                have ec : cutV (x0 :: xr) (some 1) none = xr := by rw [cut_drop1]; rfl
                rw [ec]
                have s0 : Same H (upd H p (.tup xr)) := same_upd np
                refine ⟨p, rfl, ⟨_, SqT.of upd_same⟩, for_tup (xs := xr) (fun i σ H1 => ∃ (dp tot : Int) (y5 y6 : Option V), σ = [some (.ref a), some (.int md), some (.int ms), some (.int dp), some (.int tot), y5, y6] ∧
                  Same (upd H p (.tup xr)) H1 ∧ measL (meas m) (ds.drop i) ms dp tot = measL (meas m) ds ms 0 0) ?_ ?_ ?_ ?_⟩
                · exact ⟨0, 0, none, none, rfl, Same.refl _, rfl⟩
                · rintro i σ H1 hi ⟨dp, tot, y5, y6, rfl, sm, e⟩
                  exact SqT.of (sm _ _ upd_same)
                · rintro i x σ H1 hx ⟨dp, tot, y5, y6, rfl, sm, e⟩
                  obtain ⟨d', hd', hD'⟩ := dpAll_get h2 hx
                  have hDs : Dp K H1 x d' := dp_same (s0.trans sm) d' x hD'
                  rw [drop_cons_get hd'] at e
                  refine ⟨_, rfl, _, rfl, _, _, rfl, rfl, _, rfl, _, rfl, _, _, rfl, rfl, x, d', md - 1, ms - tot, rfl, hDs, gd_le (gp d' (List.mem_of_getElem? hd')) (by decide), by omega, by omega, fun en H2 s2 => ?_, fun dp' sz es H2 p2 s2 hp2 => ?_⟩
                  · refine ⟨_, rfl, rfl, _, rfl, iteT ?_⟩
                    refine q1 ?_ H2 (s0.trans (sm.trans s2))
                    rw [em'] at en
                    rw [← e]
                    simp only [measL, en]
                  · refine ⟨_, rfl, rfl, _, rfl, iteF ?_⟩
                    refine ⟨_, rfl, _, rfl, p2, _, _, _, rfl, rfl, SqT.of hp2, rfl, _, _, rfl, ?_⟩
                    refine ⟨_, rfl, _, rfl, p2, _, _, _, rfl, rfl, SqT.of hp2, rfl, _, _, rfl, rfl, ?_⟩
                    refine ⟨_, _, _, _, rfl, sm.trans s2, ?_⟩
                    rw [← e, em'] at *
                    simp only [measL, es]
                · rintro σ H1 ⟨dp, tot, y5, y6, rfl, sm, e⟩
                  refine ⟨_, rfl, _, _, rfl, rfl, _, rfl, (by show 2 ≤ sizeLine; decide), fun p3 np3 => ?_⟩
                  refine q2 (dp + 1) tot ?_ _ p3 (s0.trans (sm.trans (same_upd np3))) upd_same
                  rw [← e, List.drop_eq_nil_of_le (by omega)]
                  rfl
        | _ => cases hc
theorem meas_zero {f : Addr} {fd : FuncData} {k : Nat} : FnOk P w K mg base CX0 k f fd ["value", "max_depth", "max_size"] (spMeas K 0) := by
  have no : ∀ vs H Q E, ¬ spMeas K 0 vs H Q E := fun vs H Q E h => by
    obtain ⟨v, d, md, ms, _, _, _, m0, m1, _⟩ := h
    omega
  exact ⟨fun vs H Q E h => absurd h (no vs H Q E), fun A outer s H args us vs Q E _ _ _ _ h => absurd h (no vs H Q E)⟩
end
end Fv


namespace Fv
open PySem PySem.Spec PyProof.Rows L2
abbrev PsT : List Str := ["value", "max_depth", "max_size"]
abbrev KwT : List (Str × V) := [("max_depth", .int 5), ("max_size", .int 24)]
abbrev FunT (K : PySem.W.Frag) (f : Addr) (fd : FuncData) : Prop := FunD K "is_term" "is_term" (defArgs s_is_term) (defBody s_is_term) (defScope s_is_term) [] KwT f fd
section
variable {P : Program} {w : World} {K : PySem.W.Frag} {mg : Str → Option Value} {base : Heap}
theorem ok_is_term {f : Addr} {fd : FuncData} {k : Nat} (F : FunT K f fd)
    (C_measured : Own P w K mg base k "measured" ["value", "max_depth", "max_size"] (spMeas K 20)) :
    FnOk P w K mg base CX0 (k + 1) f fd PsT (spIsTerm K) := by
  refine F.ok sc_is_term (fun vs H Q E h => ?_) (fun cdv A outer s H vs Q E hr h => ?_)
  · obtain ⟨v, d, md, ms, rfl, _⟩ := h
    rfl
  · obtain ⟨v, d, md, ms, rfl, hd, hg, m0, m1, q⟩ := h
    refine ⟨_, (pss_one (ps_ret (pe_cmpR op_notN (pe_own C_measured (hr.mono (by omega)) (by rfl) (pa_cons (pv 0) (pa_cons (pv 1) (pa_cons (pv 2) pa_nil)))) pe_non (nomark _)))), ?_⟩
    refine ⟨_, rfl, _, rfl, _, rfl, v, d, md, ms, rfl, hd, hg, m0, m1, fun e H' s' => ⟨rfl, ?_⟩, fun dp sz e H' p s' hp => ⟨rfl, ?_⟩⟩
    · have z := q H' s'
      rw [e] at z
      exact z
    · have z := q H' s'
      rw [e] at z
      exact z
theorem binds_T {f : Addr} {fd : FuncData} (F : FunT K f fd) : ∃ ds, Vals [V.int 5, V.int 24] ds ∧ Binds K fd PsT ds :=
  F.binds0 1 (by decide) rfl fun D doc pm an cdv ct us ks h1 h2 => match us, ks, h1, h2 with
    | [u], [k1, k2], _, _ => ⟨_, _, _, _, _, _, rfl, rfl, _, _, _, _, _, _, rfl, rfl, rfl⟩
theorem kbinds_T1 {f : Addr} {fd : FuncData} (F : FunT K f fd) : ∃ mv : List Value, KBn K fd PsT 1 ["max_size", "max_depth"] (fun us ws => us ++ ws.reverse ++ mv) (fun vs zs => vs ++ zs.reverse ++ []) :=
  F.kbinds0 1 ["max_size", "max_depth"] [] (fun us mv ws => us ++ ws.reverse ++ mv) (by decide) (fun q h => nomatch h) (fun a b c => (a.append c.reverse).append b)
    fun D doc pm an cdv ct us mv ws h1 h2 h3 => match us, mv, ws, h1, h2, h3 with
    | [u], [], [w1, w2], _, _, _ => rfl
theorem kbinds_T2 {f : Addr} {fd : FuncData} (F : FunT K f fd) : ∃ mv : List Value, KBn K fd PsT 0 ["value", "max_depth"] (fun us ws => us ++ ws ++ mv) (fun vs zs => vs ++ zs ++ [V.int 24]) :=
  F.kbinds0 0 ["value", "max_depth"] [("max_size", .int 24)] (fun us mv ws => us ++ ws ++ mv) (by decide) (fun q h => List.mem_cons_of_mem _ h) (fun a b c => (a.append c).append b)
    fun D doc pm an cdv ct us mv ws h1 h2 h3 => match us, mv, ws, h1, h2, h3 with
    | [], [m], [w1, w2], _, _, _ => ⟨_, _, _, _, _, _, rfl, rfl, rfl⟩
theorem kbinds_T3 {f : Addr} {fd : FuncData} (F : FunT K f fd) : ∃ mv : List Value, KBn K fd PsT 1 ["max_depth"] (fun us ws => us ++ ws ++ mv) (fun vs zs => vs ++ zs ++ [V.int 24]) :=
  F.kbinds0 1 ["max_depth"] [("max_size", .int 24)] (fun us mv ws => us ++ ws ++ mv) (by decide) (fun q h => List.mem_cons_of_mem _ h) (fun a b c => (a.append c).append b)
    fun D doc pm an cdv ct us mv ws h1 h2 h3 => match us, mv, ws, h1, h2, h3 with
    | [u], [m], [w1], _, _, _ => ⟨_, _, _, _, _, _, rfl, rfl, rfl⟩
end
end Fv


namespace Fv
open PySem PySem.Spec PyProof.Rows L2
-- top 24  slots: 0:_law_found 1:_law_due 2:_law_key 3:_law_one 4:_law_other
abbrev s_law_same : Stmt := topS 24
abbrev N_law_same : List Str := ["_law_found", "_law_due", "_law_key", "_law_one", "_law_other"]
theorem sc_law_same : FnScope N_law_same ["_law_found", "_law_due"] (defScope s_law_same) := ⟨rfl, rfl, rfl, by decide +kernel, rfl, by decide +kernel, by decide +kernel⟩



theorem walk_zipT {K : PySem.W.Frag} {a b : Addr} {xs ys : List V} {n : Nat} (hn : n = min xs.length ys.length) : Walk (RZ.ItzT K a b) n (fun H => SqT K H a xs ∧ SqT K H b ys) (YPair (fun i => xs[i]?) (fun i => ys[i]?)) := by
  subst hn
  refine ⟨fun i _ hi q => ?_, fun _ q => ⟨xs, ys, q.1, q.2, by omega⟩, fun i H v H' _ q y => ?_⟩
  · have h1 : i < xs.length := by omega
    have h2 : i < ys.length := by omega
    exact ⟨xs, ys, xs[i], ys[i], q.1, q.2, by simp [h1], by simp [h2]⟩
  · obtain ⟨T, x, z, h1, h2, h3, h4, h5⟩ := y
    exact ⟨T, x, z, h1, h2, h3, h4 xs q.1, h5 ys q.2⟩
def spSame (K : PySem.W.Frag) (n : Nat) : Sp := fun vs H Q _ => ∃ (v v' : V) (d : PyData) (m : Nat), vs = [v, v'] ∧ Dp K H v d ∧ Dp K H v' d ∧ m < n ∧ gd m d = true ∧ ∀ H', Same H H' → Q (.bl true) H'
theorem in_ints (ns : List Int) : inV (.int 0) (ns.map V.int) = decide ((0 : Int) ∈ ns) := by
  unfold inV
  induction ns with
  | nil => rfl
  | cons n ns ih =>
    rw [List.map_cons, List.any_cons, ih]
    show ((n == 0) || decide ((0 : Int) ∈ ns)) = decide ((0 : Int) ∈ n :: ns)
    by_cases e : n = 0
    · subst e; simp
    · have e1 : (n == 0) = false := beq_eq_false_iff_ne.mpr e
      rw [e1, Bool.false_or]
      simp [List.mem_cons, show ¬ (0 : Int) = n from fun z => e z.symm]
theorem flat_ints (ns : List Int) : (ns.map V.int).all flatV = true := by
  rw [List.all_map]
  exact List.all_eq_true.mpr fun _ _ => rfl
section
variable {P : Program} {w : World} {K : PySem.W.Frag} {mg : Str → Option Value} {base : Heap}
end
end Fv


namespace Fv
open PySem PySem.Spec PyProof.Rows L2
section
variable {P : Program} {w : World} {K : PySem.W.Frag} {mg : Str → Option Value} {base : Heap}
theorem measure_zero {f : Addr} {fd : FuncData} {k : Nat} : FnOk P w K mg base CX0 k f fd ["_law_word", "_law_deep"] (spMeasure K 0) := by
  have no : ∀ vs H Q E, ¬ spMeasure K 0 vs H Q E := fun vs H Q E h => by
    obtain ⟨v, d, md, _, _, _, m0, m1, _⟩ := h
    omega
  exact ⟨fun vs H Q E h => absurd h (no vs H Q E), fun A outer s H args us vs Q E _ _ _ _ h => absurd h (no vs H Q E)⟩
theorem same_zero {f : Addr} {fd : FuncData} {k : Nat} : FnOk P w K mg base CX0 k f fd ["_law_found", "_law_due"] (spSame K 0) := by
  have no : ∀ vs H Q E, ¬ spSame K 0 vs H Q E := fun vs H Q E h => by
    obtain ⟨v, v', d, m, _, _, _, m1, _⟩ := h
    omega
  exact ⟨fun vs H Q E h => absurd h (no vs H Q E), fun A outer s H args us vs Q E _ _ _ _ h => absurd h (no vs H Q E)⟩
theorem ok_same {f : Addr} {fd : FuncData} {k n : Nat} (F : Fun K "_law_same" "_law_same" s_law_same f fd) (m_isinstance : mg "isinstance" = none) (m_bool : mg "bool" = none) (m_int : mg "int" = none) (m_str : mg "str" = none) (m_dict : mg "dict" = none)
    (m_list : mg "list" = none) (m_tuple : mg "tuple" = none) (m_len : mg "len" = none) (m_all : mg "all" = none) (m_zip : mg "zip" = none)
    (C_law_same : Own P w K mg base k "_law_same" ["_law_found", "_law_due"] (spSame K n)) :
    FnOk P w K mg base CX0 (k + 1) f fd ["_law_found", "_law_due"] (spSame K (n + 1)) := by
  refine F.ok sc_law_same (fun vs H Q E h => ?_) (fun cdv A outer s H vs Q E hr h => ?_)
  · obtain ⟨v, v', d, m, rfl, _⟩ := h
    rfl
  · obtain ⟨v, v', d, m, rfl, hd, hd', hm, hg, q⟩ := h
    refine ⟨_, (pss_cons (ps_if (PW.pt (pw_or (pt_cmpR op_isN (pv 1) pe_non (nomark _)) (pw_or1 (pt_cmpR op_isN (pv 0) pe_non (nomark _)))))
        (pss_one (ps_ret (pe_and (pe_cmpR op_isN (pv 1) pe_non (nomark _)) (pe_one (pe_cmpR op_isN (pv 0) pe_non (nomark _))))))
        pss_nil)
      (pss_cons (ps_if (PW.pt (pw_or (pt_val (pe_isD (T := "bool") (by rfl) m_isinstance (by rfl) m_bool (pv 1))) (pw_or1 (pt_val (pe_isD (T := "bool") (by rfl) m_isinstance (by rfl) m_bool (pv 0))))))
        (pss_one (ps_ret (pe_and (pe_isD (T := "bool") (by rfl) m_isinstance (by rfl) m_bool (pv 1)) (pe_and (pe_isD (T := "bool") (by rfl) m_isinstance (by rfl) m_bool (pv 0)) (pe_one (pe_cmpR op_eq (pv 0) (pv 1) (nomark _)))))))
        pss_nil)
      (pss_cons (ps_if (PW.pt (pw_or (pt_val (pe_isD (T := "int") (by rfl) m_isinstance (by rfl) m_int (pv 1))) (pw_or1 (pt_val (pe_isD (T := "str") (by rfl) m_isinstance (by rfl) m_str (pv 1))))))
        (pss_one (ps_ret (pe_and (pe_cmpR op_eq (pe_isD (T := "int") (by rfl) m_isinstance (by rfl) m_int (pv 0)) (pe_isD (T := "int") (by rfl) m_isinstance (by rfl) m_int (pv 1)) (nomark _)) (pe_one (pe_cmpR op_eq (pv 0) (pv 1) (nomark _))))))
        pss_nil)
      (pss_cons (ps_if (pt_val (pe_isD (T := "dict") (by rfl) m_isinstance (by rfl) m_dict (pv 1)))
        pss_never
        pss_nil)
      (pss_cons (ps_if (PW.pt (pw_or (pt_cmpR op_ne (pe_isD (T := "list") (by rfl) m_isinstance (by rfl) m_list (pv 0)) (pe_isD (T := "list") (by rfl) m_isinstance (by rfl) m_list (pv 1)) (nomark _)) (pw_or1 (pt_cmpR op_ne (pe_isD (T := "tuple") (by rfl) m_isinstance (by rfl) m_tuple (pv 0)) (pe_isD (T := "tuple") (by rfl) m_isinstance (by rfl) m_tuple (pv 1)) (nomark _)))))
        (pss_one (ps_ret pe_bl))
        pss_nil)
      (pss_one (ps_ret (pe_and (pe_cmpR op_eq (pe_callB call_len_seq (by rfl) m_len (by decide +kernel) (pa_cons (pv 0) pa_nil)) (pe_callB call_len_seq (by rfl) m_len (by decide +kernel) (pa_cons (pv 1) pa_nil)) (nomark _)) (pe_one (pe_callB (cr_all rfl) (by rfl) m_all (by decide +kernel) (pa_cons (pe_lc (own := [("_law_one", 3), ("_law_other", 4)]) (g := gTup K 2 (gCons (gName 3) (gCons (gName 4) gNil))) (by rfl) sc_law_same.nd (RZ.pi_zipA (by rfl) m_zip (pa_cons (pv 0) (pa_cons (pv 1) pa_nil))) (blkOk_by (own := [("_law_one", 3), ("_law_other", 4)]) (N := N_law_same) (sc := defScope s_law_same) (by decide +kernel)) (fun _ _ _ _ _ => (pg_tup rfl (pgs_cons (pg_name (i := 3) sc_law_same.nd rfl (Or.inl rfl) (hf := Or.inr rfl)) (pgs_cons (pg_name (i := 4) sc_law_same.nd rfl (Or.inl rfl) (hf := Or.inr rfl)) pgs_nil)))) (fun _ _ _ _ _ => pts_nil) (fun _ _ _ _ _ => (pe_own C_law_same (hr.mono (by omega)) (by rfl) (pa_cons (pv 3) (pa_cons (pv 4) pa_nil))))) pa_nil))))))))))), ?_⟩
    have q0 := q H (Same.refl H)
    cases d with
    | none =>
      cases hd
      cases hd'
      exact ⟨_, rfl, rfl, _, rfl, iteT (iteT ⟨_, rfl, rfl, _, rfl, iteT ⟨_, rfl, rfl, q0⟩⟩)⟩
    | bool b =>
      refine ⟨_, rfl, rfl, _, rfl, ?_⟩
      cases hd
      cases hd'
      refine iteF ⟨_, rfl, rfl, _, rfl, iteF ?_⟩
      refine ⟨_, rfl, _, _, _, rfl, by decide, .bl b, _, rfl, iteT (iteT ⟨_, rfl, _, _, _, rfl, by decide, .bl b, _, rfl, iteT ⟨_, rfl, _, _, _, rfl, by decide, .bl b, _, rfl, iteT ⟨_, rfl, _, rfl, rfl, ?_⟩⟩⟩)⟩
      rw [decide_eq_true rfl]
      exact q0
    | int i =>
      refine ⟨_, rfl, rfl, _, rfl, ?_⟩
      cases hd
      cases hd'
      refine iteF ⟨_, rfl, rfl, _, rfl, iteF ?_⟩
      refine ⟨_, rfl, _, _, _, rfl, by decide, .int i, _, rfl, iteF ⟨_, rfl, _, _, _, rfl, by decide, .int i, _, rfl, iteF ?_⟩⟩
      refine ⟨_, rfl, _, _, _, rfl, by decide, .int i, _, rfl, iteT (iteT ⟨_, rfl, _, _, _, rfl, by decide, .int i, _, rfl, _, _, _, rfl, by decide, .int i, rfl, _, rfl, iteT ⟨_, rfl, _, rfl, rfl, ?_⟩⟩)⟩
      rw [decide_eq_true rfl]
      exact q0
    | str x =>
      refine ⟨_, rfl, rfl, _, rfl, ?_⟩
      cases hd
      cases hd'
      refine iteF ⟨_, rfl, rfl, _, rfl, iteF ?_⟩
      refine ⟨_, rfl, _, _, _, rfl, by decide, .str x, _, rfl, iteF ⟨_, rfl, _, _, _, rfl, by decide, .str x, _, rfl, iteF ?_⟩⟩
      refine ⟨_, rfl, _, _, _, rfl, by decide, .str x, _, rfl, iteF ⟨_, rfl, _, _, _, rfl, by decide, .str x, _, rfl, iteT ⟨_, rfl, _, _, _, rfl, by decide, .str x, _, rfl, _, _, _, rfl, by decide, .str x, rfl, _, rfl, iteT ⟨_, rfl, _, rfl, rfl, ?_⟩⟩⟩⟩
      rw [decide_eq_true rfl]
      exact q0
    | dict kvs => cases hd
    | list ds =>
      obtain ⟨a, xs, hs, ha, rfl⟩ : ∃ a xs, SqL K H a xs ∧ DpAll K H xs ds ∧ v = .ref a := by
        cases hd with | lst hs ha => exact ⟨_, _, hs, ha, rfl⟩
      obtain ⟨b, ys, hs', ha', rfl⟩ : ∃ b ys, SqL K H b ys ∧ DpAll K H ys ds ∧ v' = .ref b := by
        cases hd' with | lst hs ha => exact ⟨_, _, hs, ha, rfl⟩
      have D1 : Dp K H (.ref a) (.list ds) := .lst hs ha
      have D2 : Dp K H (.ref b) (.list ds) := .lst hs' ha'
      cases m with
      | zero => cases hg
      | succ m =>
      obtain ⟨lds, gds⟩ := gd_list hg
      have lx := dpAll_len ha
      have ly := dpAll_len ha'
      refine ⟨_, rfl, rfl, _, rfl, iteF ⟨_, rfl, rfl, _, rfl, iteF ?_⟩⟩
      refine ⟨_, rfl, _, _, _, rfl, by decide, D2, _, rfl, iteF ⟨_, rfl, _, _, _, rfl, by decide, D1, _, rfl, iteF ?_⟩⟩
      refine ⟨_, rfl, _, _, _, rfl, by decide, D2, _, rfl, iteF ⟨_, rfl, _, _, _, rfl, by decide, D2, _, rfl, iteF ?_⟩⟩
      refine ⟨_, rfl, _, _, _, rfl, by decide, D2, _, rfl, iteF ?_⟩
      refine ⟨_, rfl, _, _, _, rfl, by decide, D1, _, rfl, _, _, _, rfl, by decide, D2, rfl, _, rfl, iteF ⟨_, rfl, _, _, _, rfl, by decide, D1, _, rfl, _, _, _, rfl, by decide, D2, rfl, _, rfl, iteF ?_⟩⟩
      refine ⟨_, rfl, a, xs, rfl, .inl hs, _, rfl, b, ys, rfl, .inl hs', rfl, _, rfl, ?_⟩
      rw [lx, ly, decide_eq_true rfl]
      refine iteT ⟨_, rfl, _, rfl, a, b, xs, ys, rfl, .inl ⟨hs, hs', fun D nD => ?_⟩⟩
      refine lc_it (walk_zip (xs := xs) (ys := ys) (n := ds.length) (by omega)) (fun i H1 => Same H H1 ∧ H1 D = some (.lst ((List.replicate i true).map V.bl))) ⟨same_upd nD, upd_same⟩ (fun i H1 _ p => ⟨p.1.seq hs, p.1.seq hs'⟩) ?_ ?_
      · rintro i x H1 H2 hi ⟨sm, e⟩ ⟨T, x1, y1, rfl, nT, rfl, e1, e2⟩
        have sT : Same H1 (upd H1 T (.tup [x1, y1])) := same_upd nT
        obtain ⟨d1, g1, h1⟩ := dpAll_get ha e1
        obtain ⟨d2, g2, h2⟩ := dpAll_get ha' e2
        have ed : d2 = d1 := Option.some.inj (g2.symm.trans g1)
        subst ed
        refine ⟨T, [x1, y1], rfl, .inl (.inl upd_same), rfl, x1, [y1], rfl, y1, [], rfl, rfl, rfl, ?_⟩
        dsimp only [tYes]
        rw [if_pos rfl]
        refine ⟨_, rfl, _, rfl, x1, y1, d2, m, rfl, dp_same (sm.trans sT) _ _ h1, dp_same (sm.trans sT) _ _ h2, by omega, gds _ (List.mem_of_getElem? g1), fun H3 s3 => ?_⟩
        have e3 : H3 D = some (.lst ((List.replicate i true).map V.bl)) := s3 _ _ (sT _ _ e)
        refine ⟨_, e3, ?_, fun b' o' eb => ?_, ?_⟩
        · rw [List.length_map, List.length_replicate]
          exact small1000 (by omega)
        · rw [upd_ne (ne_of_none eb nD)]
          exact s3 _ _ (sT _ _ (sm _ _ eb))
        · rw [upd_same, List.replicate_succ']
          simp
      · rintro H1 ⟨sm, e⟩
        refine ⟨D, _, rfl, SqL.of e, ?_⟩
        rw [show (List.replicate ds.length true).all id = true by simp]
        exact q H1 sm
    | tuple ds =>
      obtain ⟨a, xs, hs, ha, rfl⟩ : ∃ a xs, SqT K H a xs ∧ DpAll K H xs ds ∧ v = .ref a := by
        cases hd with | tup hs ha => exact ⟨_, _, hs, ha, rfl⟩
      obtain ⟨b, ys, hs', ha', rfl⟩ : ∃ b ys, SqT K H b ys ∧ DpAll K H ys ds ∧ v' = .ref b := by
        cases hd' with | tup hs ha => exact ⟨_, _, hs, ha, rfl⟩
      have D1 : Dp K H (.ref a) (.tuple ds) := .tup hs ha
      have D2 : Dp K H (.ref b) (.tuple ds) := .tup hs' ha'
      cases m with
      | zero => cases hg
      | succ m =>
      obtain ⟨lds, gds⟩ := gd_tuple hg
      have lx := dpAll_len ha
      have ly := dpAll_len ha'
      refine ⟨_, rfl, rfl, _, rfl, iteF ⟨_, rfl, rfl, _, rfl, iteF ?_⟩⟩
      refine ⟨_, rfl, _, _, _, rfl, by decide, D2, _, rfl, iteF ⟨_, rfl, _, _, _, rfl, by decide, D1, _, rfl, iteF ?_⟩⟩
      refine ⟨_, rfl, _, _, _, rfl, by decide, D2, _, rfl, iteF ⟨_, rfl, _, _, _, rfl, by decide, D2, _, rfl, iteF ?_⟩⟩
      refine ⟨_, rfl, _, _, _, rfl, by decide, D2, _, rfl, iteF ?_⟩
      refine ⟨_, rfl, _, _, _, rfl, by decide, D1, _, rfl, _, _, _, rfl, by decide, D2, rfl, _, rfl, iteF ⟨_, rfl, _, _, _, rfl, by decide, D1, _, rfl, _, _, _, rfl, by decide, D2, rfl, _, rfl, iteF ?_⟩⟩
      refine ⟨_, rfl, a, xs, rfl, .inr hs, _, rfl, b, ys, rfl, .inr hs', rfl, _, rfl, ?_⟩
      rw [lx, ly, decide_eq_true rfl]
      refine iteT ⟨_, rfl, _, rfl, a, b, xs, ys, rfl, .inr ⟨hs, hs', fun D nD => ?_⟩⟩
      refine lc_it (walk_zipT (xs := xs) (ys := ys) (n := ds.length) (by omega)) (fun i H1 => Same H H1 ∧ H1 D = some (.lst ((List.replicate i true).map V.bl))) ⟨same_upd nD, upd_same⟩ (fun i H1 _ p => ⟨same_seqT p.1 hs, same_seqT p.1 hs'⟩) ?_ ?_
      · rintro i x H1 H2 hi ⟨sm, e⟩ ⟨T, x1, y1, rfl, nT, rfl, e1, e2⟩
        have sT : Same H1 (upd H1 T (.tup [x1, y1])) := same_upd nT
        obtain ⟨d1, g1, h1⟩ := dpAll_get ha e1
        obtain ⟨d2, g2, h2⟩ := dpAll_get ha' e2
        have ed : d2 = d1 := Option.some.inj (g2.symm.trans g1)
        subst ed
        refine ⟨T, [x1, y1], rfl, .inl (.inl upd_same), rfl, x1, [y1], rfl, y1, [], rfl, rfl, rfl, ?_⟩
        dsimp only [tYes]
        rw [if_pos rfl]
        refine ⟨_, rfl, _, rfl, x1, y1, d2, m, rfl, dp_same (sm.trans sT) _ _ h1, dp_same (sm.trans sT) _ _ h2, by omega, gds _ (List.mem_of_getElem? g1), fun H3 s3 => ?_⟩
        have e3 : H3 D = some (.lst ((List.replicate i true).map V.bl)) := s3 _ _ (sT _ _ e)
        refine ⟨_, e3, ?_, fun b' o' eb => ?_, ?_⟩
        · rw [List.length_map, List.length_replicate]
          exact small1000 (by omega)
        · rw [upd_ne (ne_of_none eb nD)]
          exact s3 _ _ (sT _ _ (sm _ _ eb))
        · rw [upd_same, List.replicate_succ']
          simp
      · rintro H1 ⟨sm, e⟩
        refine ⟨D, _, rfl, SqL.of e, ?_⟩
        rw [show (List.replicate ds.length true).all id = true by simp]
        exact q H1 sm
end
end Fv


namespace Fv
open PySem PySem.Spec PyProof.Rows L2
-- top 28  slots: 0:_law_source_here 1:_law_signs_here 2:_law_deep 3:_law_room 4:_law_many 5:_law_operator 6:_law_k
abbrev s_law_term : Stmt := topS 28
abbrev N_law_term : List Str := ["_law_source_here", "_law_signs_here", "_law_deep", "_law_room", "_law_many", "_law_operator", "_law_k"]
theorem sc_law_term : FnScope N_law_term ["_law_source_here", "_law_signs_here", "_law_deep", "_law_room"] (defScope s_law_term) := ⟨rfl, rfl, rfl, by decide +kernel, rfl, by decide +kernel, by decide +kernel⟩

-- top 29  slots: 0:_law_source_here 1:_law_signs_here
abbrev s_law_any_term : Stmt := topS 29
abbrev N_law_any_term : List Str := ["_law_source_here", "_law_signs_here"]
theorem sc_law_any_term : FnScope N_law_any_term ["_law_source_here"] (defScope s_law_any_term) := ⟨rfl, rfl, rfl, by decide +kernel, rfl, by decide +kernel, by decide +kernel⟩

section
variable {P : Program} {w : World} {K : PySem.W.Frag} {mg : Str → Option Value} {base : Heap}
theorem term_zero {f : Addr} {fd : FuncData} {k : Nat} : FnOk P w K mg base CX0 k f fd ["_law_source_here", "_law_signs_here", "_law_deep", "_law_room"] (spTerm K 0) := by
  have no : ∀ vs H Q E, ¬ spTerm K 0 vs H Q E := fun vs H Q E h => by
    obtain ⟨a, L, sg, r, ns, deep, m, ys, M, _, _, _, _, _, _, _, _, _, _, _, _, _, d1, d2, _⟩ := h
    omega
  exact ⟨fun vs H Q E h => absurd h (no vs H Q E), fun A outer s H args us vs Q E _ _ _ _ h => absurd h (no vs H Q E)⟩
theorem ok_term {f : Addr} {fd : FuncData} {k n : Nat} (F : Fun K "_law_term" "_law_term" s_law_term f fd) (m_tuple : mg "tuple" = none) (m_range : mg "range" = none) (hk : 2 ≤ k)
    (C_law_take : Own P w K mg base 1 "_law_take" ["_law_source_here", "_law_many"] spTake)
    (C_law_pick : Own P w K mg base 2 "_law_pick" ["_law_source_here", "_law_row"] spPick)
    (C_law_term : Own P w K mg base k "_law_term" ["_law_source_here", "_law_signs_here", "_law_deep", "_law_room"] (spTerm K n)) :
    FnOk P w K mg base CX0 (k + 1) f fd ["_law_source_here", "_law_signs_here", "_law_deep", "_law_room"] (spTerm K (n + 1)) := by
  refine F.ok sc_law_term (fun vs H Q E h => ?_) (fun cdv A outer s H vs Q E hr h => ?_)
  · obtain ⟨a, L, sg, r, ns, deep, m, ys, M, rfl, _⟩ := h
    rfl
  · obtain ⟨a, L, sg, r, ns, deep, m, ys, M, rfl, hs, hsg, y0, y8, hy, hR, sga, sgr, ra, rL, m0, m1, d1, d2, aM, rM, tM, q⟩ := h
    refine ⟨_, (pss_cons (ps_set (i := 4) sc_law_term.nd rfl (by first | exact .inl rfl | exact .inr rfl) (pe_op op_add pe_int (pe_op op_fdiv (pe_own C_law_take (hr.mono (by omega)) (by rfl) (pa_cons (pv 0) (pa_cons pe_int pa_nil))) pe_int)))
      (pss_cons (ps_if (PW.pt (pw_or (pt_cmpR op_lt (pv 2) pe_int (nomark _)) (pw_or (pt_cmpR op_lt (pe_ix ix_list (pv 3) pe_int (fun _ _ => rfl)) (pe_op op_sub (pv 4) pe_int) (nomark _)) (pw_or1 (pt_cmpR op_eq (pe_own C_law_take (hr.mono (by omega)) (by rfl) (pa_cons (pv 0) (pa_cons pe_int pa_nil))) pe_int (nomark _))))))
        (pss_one (ps_ret (pe_own C_law_pick (hr.mono (by omega)) (by rfl) (pa_cons (pv 0) (pa_cons (pv 1) pa_nil)))))
        pss_nil)
      (pss_cons (ps_asg (pe_op op_add (pe_op op_sub (pe_ix ix_list (pv 3) pe_int (fun _ _ => rfl)) (pv 4)) pe_int) (pg_sub (pv 3) pe_int set_list))
      (pss_cons (ps_set (i := 5) sc_law_term.nd rfl (by first | exact .inl rfl | exact .inr rfl) (pe_own C_law_pick (hr.mono (by omega)) (by rfl) (pa_cons (pv 0) (pa_cons (pe_lst (pa_cons pe_str (pa_cons pe_str pa_nil))) pa_nil))))
      (pss_one (ps_ret (pe_callTy call_tuple_of (by rfl) m_tuple (by decide +kernel) (pa_cons (pe_op op_cat (pe_lst (pa_cons (pv 5) pa_nil)) (pe_lc (own := [("_law_k", 6)]) (g := gName 6) (by rfl) sc_law_term.nd (pi_range1 (by rfl) m_range (pa_cons (pv 4) pa_nil)) (blkOk_by (own := [("_law_k", 6)]) (N := N_law_term) (sc := defScope s_law_term) (by decide +kernel)) (fun _ _ _ _ _ => pg_name (i := 6) sc_law_term.nd rfl (Or.inl rfl)) (fun _ _ _ _ _ => pts_nil) (fun _ _ _ _ _ => (pe_own C_law_term (hr.mono (by omega)) (by rfl) (pa_cons (pv 0) (pa_cons (pv 1) (pa_cons (pe_op op_sub (pv 2) pe_int) (pa_cons (pv 3) pa_nil)))))))) pa_nil)))))))), ?_⟩
    have fin : ∀ Hx, Src Hx a L ns → (∀ b, b ≠ a → Hx b = H b) → spPick [.ref a, .ref sg] Hx Q E0 := fun Hx hsx offx => by
      refine ⟨a, L, sg, ns, ys, rfl, hsx, sga, (offx sg sga).trans hsg, y0, by omega, fun H' v mv hs' off' => ?_⟩
      obtain ⟨x, rfl, hx⟩ := lett_data (hy v mv)
      obtain ⟨l1, l2⟩ := isL_lett hx
      refine q H' _ (.str x) m (.str x) ?_ m0 (Int.le_refl _) (gd_le l2 (Nat.zero_le _)) hs' (((off' r ra).trans (offx r ra)).trans hR) fun b o hb e => ?_
      · obtain ⟨j, ej⟩ : ∃ j, deep.toNat = j + 1 := ⟨deep.toNat - 1, by omega⟩
        rw [ej]
        show (if isL x = true then (1 : Int) else _) = _
        rw [if_pos l1]
        omega
      · have ba : b ≠ a := fun z => hb (by rw [z]; exact List.mem_cons_self ..)
        rw [off' b ba, offx b ba]
        exact e
    refine ⟨_, rfl, a, L, ns, 5, rfl, hs, by decide, by decide, fun H1 t t0 t1 hs1 off1 => ⟨_, _, rfl, rfl, ⟨by decide, by decide⟩, _, _, rfl, rfl, ?_⟩⟩
    have hR1 : H1 r = some (.lst [.int m]) := (off1 r ra).trans hR
    refine ⟨_, rfl, _, _, rfl, rfl, _, rfl, ?_⟩
    refine ite2 (fun c => iteT ⟨_, rfl, _, rfl, fin H1 hs1 off1⟩) (fun c => ?_)
    have cd : ¬ deep < 2 := of_decide_eq_false (Bool.eq_false_iff.mpr c)
    refine ⟨_, rfl, r, _, _, _, rfl, rfl, SqL.of hR1, rfl, _, rfl, _, _, rfl, rfl, _, _, rfl, rfl, _, rfl, ?_⟩
    refine ite2 (fun c => iteT ⟨_, rfl, _, rfl, fin H1 hs1 off1⟩) (fun c => ?_)
    have cm : ¬ m < 2 + t / 2 - 1 := of_decide_eq_false (Bool.eq_false_iff.mpr c)
    refine ⟨_, rfl, a, L, ns, 4, rfl, hs1, by decide, by decide, fun H2 t2 _ _ hs2 off2 => ⟨rfl, _, rfl, ?_⟩⟩
    have off12 : ∀ b, b ≠ a → H2 b = H b := fun b hb => (off2 b hb).trans (off1 b hb)
    refine ite2 (fun c => ⟨_, rfl, _, rfl, fin H2 hs2 off12⟩) (fun _ => ?_)
    have hR2 : H2 r = some (.lst [.int m]) := (off12 r ra).trans hR
    -- room[0] = room[0] - many + 1
    refine ⟨_, rfl, r, _, _, _, rfl, rfl, SqL.of hR2, rfl, _, rfl, _, _, rfl, rfl, _, _, rfl, rfl, _, rfl, r, _, _, _, rfl, rfl, hR2, rfl, ?_⟩
    have hs3 : Src (upd H2 r (.lst [.int (m - (2 + t / 2) + 1)])) a L ns := hs2.put ra rL
    have tM2 : Trk M (upd H2 r (.lst [.int (m - (2 + t / 2) + 1)])) := fun b hb => by
      by_cases br : b = r
      · rw [br]; exact ⟨_, upd_same⟩
      · rw [upd_ne br]
        by_cases ba : b = a
        · rw [ba]
          obtain ⟨_, _, _, _, e, _⟩ := hs2
          exact ⟨_, e⟩
        · rw [off12 b ba]; exact tM b hb
    -- operator
    refine ⟨_, rfl, (by show 2 ≤ sizeLine; decide), fun l nl => ?_⟩
    have sl := same_upd (o := .lst [.str "&", .str "|"]) nl
    have la : l ≠ a := (hs3.ne nl).symm
    refine ⟨a, L, l, ns, _, rfl, hs3.same sl, la, upd_same, by decide, by decide, fun H4 op mop hs4 off4 => ?_⟩
    obtain ⟨os, rfl, ho, go⟩ : ∃ os : Str, op = .str os ∧ isOp (.str os) = true ∧ gd 0 (.str os) = true := by
      rcases List.mem_cons.mp mop with e | e
      · exact ⟨_, e, isOp_str.1, by decide +kernel⟩
      · exact ⟨_, List.mem_singleton.mp e, isOp_str.2, by decide +kernel⟩
    -- what stands at H4
    have rl : r ≠ l := ne_of_none (H := upd H2 r (.lst [.int (m - (2 + t / 2) + 1)])) upd_same nl
    have hR4 : H4 r = some (.lst [.int (m - (2 + t / 2) + 1)]) := (off4 r ra).trans ((upd_ne rl).trans upd_same)
    have sm4 : SmX [a, r] H H4 := fun b o hb e => by
      have ba : b ≠ a := fun z => hb (by rw [z]; exact List.mem_cons_self ..)
      have br : b ≠ r := fun z => hb (by rw [z]; exact List.mem_cons_of_mem _ (List.mem_singleton.mpr rfl))
      rw [off4 b ba]
      exact sl b o ((upd_ne br).trans ((off12 b ba).trans e))
    have tM4 : Trk M H4 := fun b hb => by
      by_cases ba : b = a
      · rw [ba]
        obtain ⟨_, _, _, _, e, _⟩ := hs4
        exact ⟨_, e⟩
      · rw [off4 b ba]; exact (tM2.same sl) b hb
    have hsg4 : H4 sg = some (.lst ys) := sm4 _ _ (fun z => by
      rcases List.mem_cons.mp z with z | z
      · exact sga z
      · exact sgr (List.mem_singleton.mp z)) hsg
    -- [operator] + [..]
    refine ⟨_, rfl, (by show 1 ≤ sizeLine; decide), fun o1 no1 => ?_⟩
    have so := same_upd (o := .lst [.str os]) no1
    refine ⟨_, rfl, (2 + t / 2), rfl, by omega, by omega, fun D nD => ?_⟩
    have tMo : Trk M (upd H4 o1 (.lst [.str os])) := tM4.same so
    have DM : D ∉ M := tMo.ne nD
    have Da : D ≠ a := fun e => DM (e ▸ aM)
    have Dr : D ≠ r := fun e => DM (e ▸ rM)
    have sD := same_upd (o := .lst []) nD
    refine lc_range (lo := 0) (n := (2 + t / 2).toNat) (fun i Hi => ∃ (mi : Int) (acc : List V) (ds : List PyData), Src Hi a L ns ∧ Hi r = some (.lst [.int mi]) ∧ Hi D = some (.lst acc) ∧ acc.length = i ∧ DpAll K (hide (D :: M) Hi) acc ds ∧
      (∀ d ∈ ds, 1 ≤ lmeas (deep.toNat - 1) d ∧ gd (deep.toNat - 1) d = true) ∧ (ds.map (lmeas (deep.toNat - 1))).sum = (m - (2 + t / 2) + 1) - mi + i ∧ 0 ≤ mi ∧ mi ≤ m - (2 + t / 2) + 1 ∧ SmX [a, r] (upd H4 o1 (.lst [.str os])) Hi) ?_ ?_ ?_
    · refine ⟨_, [], [], (hs4.same so).same sD, sD _ _ (so _ _ hR4), upd_same, rfl, .nil, (fun d h => nomatch h), ?_, by omega, Int.le_refl _, .of_same sD⟩
      simp
    · rintro i Hi hi ⟨mi, acc, ds, hsi, hri, hDi, li, hda, hds, hsum, mi0, mi1, smi⟩
      refine ⟨rfl, ?_⟩
      dsimp only [tYes]
      rw [if_pos rfl]
      have tMi : Trk M Hi := tMo.smx smi fun b hb => by
        rcases List.mem_cons.mp hb with z | z
        · rw [z]
          obtain ⟨_, _, _, _, e, _⟩ := hsi
          exact ⟨_, e⟩
        · rw [List.mem_singleton.mp z]; exact ⟨_, hri⟩
      have hsgi : Hi sg = some (.lst ys) := smi _ _ (fun z => by
        rcases List.mem_cons.mp z with z | z
        · exact sga z
        · exact sgr (List.mem_singleton.mp z)) (so _ _ hsg4)
      refine ⟨_, rfl, _, rfl, _, rfl, _, _, rfl, rfl, _, rfl, a, L, sg, r, ns, deep - 1, mi, ys, D :: M, rfl, hsi, hsgi, y0, y8, hy, hri, sga, sgr, ra, rL, mi0, by omega, by omega, by omega, List.mem_cons_of_mem _ aM, List.mem_cons_of_mem _ rM, fun b hb => ?_, fun H5 v d m5 hd5 hl5 m50 m51 hg5 hs5 hr5 sm5 => ?_⟩
      · rcases List.mem_cons.mp hb with z | z
        · rw [z]; exact ⟨_, hDi⟩
        · exact tMi b z
      · have hD5 : H5 D = some (.lst acc) := sm5 _ _ (fun z => by
          rcases List.mem_cons.mp z with z | z
          · exact Da z
          · exact Dr (List.mem_singleton.mp z)) hDi
        have ed : (deep - 1).toNat = deep.toNat - 1 := by omega
        rw [ed] at hl5 hg5
        have hid : Same (hide (D :: M) Hi) (hide (D :: M) (upd H5 D (.lst (acc ++ [v])))) := (SmX.put (sm5.sub (M' := D :: M) fun b hb => by
          rcases List.mem_cons.mp hb with z | z
          · rw [z]; exact .inl (List.mem_cons_of_mem _ aM)
          · rw [List.mem_singleton.mp z]; exact .inl (List.mem_cons_of_mem _ rM)) (List.mem_cons_self ..)).hid
        have hid5 : Same (hide (D :: M) H5) (hide (D :: M) (upd H5 D (.lst (acc ++ [v])))) := (SmX.put (SmX.refl _ _) (List.mem_cons_self ..)).hid
        have Lr : r ≠ L := rL
        refine ⟨acc, hD5, ?_, m5, acc ++ [v], ds ++ [d], ?_, ?_, upd_same, ?_, ?_, ?_, ?_, m50, by omega, ?_⟩
        · exact small1000 (by omega)
        · refine hs5.put Da fun e => ?_
          obtain ⟨_, _, _, _, _, e2, _⟩ := hs
          have eL : (upd H4 o1 (.lst [.str os])) L = none := e ▸ nD
          obtain ⟨_, _, _, _, _, e3, _⟩ := hs4.same so
          rw [eL] at e3
          cases e3
        · rw [upd_ne Dr.symm]; exact hr5
        · rw [List.length_append, li]; rfl
        · exact dpAll_app (dpAll_same hid _ _ hda) (.cons (dp_same hid5 _ _ hd5) .nil)
        · intro d' hd'
          rcases List.mem_append.mp hd' with z | z
          · exact hds d' z
          · rw [List.mem_singleton.mp z]
            exact ⟨by omega, hg5⟩
        · rw [List.map_append, List.sum_append, hsum]
          simp only [List.map_cons, List.map_nil, List.sum_cons, List.sum_nil]
          omega
        · intro b o hb e
          rw [upd_ne (ne_of_none e nD)]
          exact sm5 b o hb (smi b o hb e)
    · rintro Hi ⟨mi, acc, ds, hsi, hri, hDi, li, hda, hds, hsum, mi0, mi1, smi⟩
      have o1a : o1 ≠ a := fun e => by
        obtain ⟨_, _, _, _, e', _⟩ := hs4
        rw [e, e'] at no1
        cases no1
      have o1r : o1 ≠ r := fun e => by
        rw [e, hR4] at no1
        cases no1
      have ho1 : Hi o1 = some (.lst [.str os]) := smi _ _ (fun z => by
        rcases List.mem_cons.mp z with z | z
        · exact o1a z
        · exact o1r (List.mem_singleton.mp z)) upd_same
      have tMi : Trk M Hi := tMo.smx smi fun b hb => by
        rcases List.mem_cons.mp hb with z | z
        · rw [z]
          obtain ⟨_, _, _, _, e, _⟩ := hsi
          exact ⟨_, e⟩
        · rw [List.mem_singleton.mp z]; exact ⟨_, hri⟩
      refine ⟨o1, D, _, _, rfl, rfl, ho1, hDi, ?_, fun cc ncc => ?_⟩
      · rw [li]
        exact le1000 (by show 1 + _ ≤ 1000; omega)
      have sc := same_upd (o := .lst ([.str os] ++ acc)) ncc
      refine ⟨cc, _, rfl, .inl ⟨SqL.of upd_same, fun p np => ?_⟩⟩
      have sp := same_upd (o := .tup ([.str os] ++ acc)) np
      have tMc : Trk M (upd Hi cc (.lst ([.str os] ++ acc))) := tMi.same sc
      have lds := dpAll_len hda
      obtain ⟨j, ej⟩ : ∃ j, deep.toNat = j + 1 := ⟨deep.toNat - 1, by omega⟩
      have ej1 : deep.toNat - 1 = j := by omega
      rw [ej1] at hds hsum
      have hidA : Same (hide (D :: M) Hi) (hide M (upd (upd Hi cc (.lst ([.str os] ++ acc))) p (.tup ([.str os] ++ acc)))) :=
        (hide_sub fun b hb => List.mem_cons_of_mem _ hb).trans (SmX.of_same (sc.trans sp)).hid
      refine q _ (.ref p) (.tuple (.str os :: ds)) mi (.tup (SqT.of (hid_at tMc np)) (.cons (.str os) (dpAll_same hidA _ _ hda))) ?_ mi0 (by omega) ?_ ((hsi.same sc).same sp) (sp _ _ (sc _ _ hri)) (sm4.trans ((SmX.of_same so).trans (smi.trans (.of_same (sc.trans sp)))))
      · rw [ej]
        refine lmeas_tup ho (by omega) (fun d hd => (hds d hd).1) ?_
        rw [hsum]
        omega
      · rw [ej]
        refine gd_tup (fun d hd => ?_) (by rw [List.length_cons]; omega)
        rcases List.mem_cons.mp hd with z | z
        · rw [z]; exact gd_le go (Nat.zero_le _)
        · exact (hds d z).2
end
end Fv


namespace Fv
open PySem PySem.Spec PyProof.Rows L2
-- top 31  slots: 0:_law_many 1:_law_word 2:_law_k
abbrev s_law_nest : Stmt := topS 31
abbrev N_law_nest : List Str := ["_law_many", "_law_word", "_law_k"]
theorem sc_law_nest : FnScope N_law_nest ["_law_many"] (defScope s_law_nest) := ⟨rfl, rfl, rfl, by decide +kernel, rfl, by decide +kernel, by decide +kernel⟩


theorem pos22 : (0 : Int) < 2 := by decide
section
variable {P : Program} {w : World} {K : PySem.W.Frag} {mg : Str → Option Value} {base : Heap}
theorem ok_any_term {f : Addr} {fd : FuncData} {k : Nat} (F : Fun K "_law_any_term" "_law_any_term" s_law_any_term f fd) (hk : 3 ≤ k)
    (C_law_take : Own P w K mg base 1 "_law_take" ["_law_source_here", "_law_many"] spTake)
    (C_law_pick : Own P w K mg base 2 "_law_pick" ["_law_source_here", "_law_row"] spPick)
    (C_law_signs : Own P w K mg base 3 "_law_signs" ["_law_source_here", "_law_most"] spSigns)
    (C_law_term : Own P w K mg base k "_law_term" ["_law_source_here", "_law_signs_here", "_law_deep", "_law_room"] (spTerm K 5)) :
    FnOk P w K mg base CX0 (k + 1) f fd ["_law_source_here"] (spAnyTerm K) := by
  refine F.ok sc_law_any_term (fun vs H Q E h => ?_) (fun cdv A outer s H vs Q E hr h => ?_)
  · obtain ⟨a, L, ns, M, rfl, _⟩ := h
    rfl
  · obtain ⟨a, L, ns, M, rfl, hs, aM, tM, q⟩ := h
    refine ⟨_, (pss_cons (ps_set (i := 1) sc_law_any_term.nd rfl (by first | exact .inl rfl | exact .inr rfl) (pe_own C_law_signs (hr.mono (by omega)) (by rfl) (pa_cons (pv 0) (pa_cons pe_int pa_nil))))
      (pss_one (ps_ret (pe_own C_law_term (hr.mono (by omega)) (by rfl) (pa_cons (pv 0) (pa_cons (pv 1) (pa_cons (pe_op op_add pe_int (pe_own C_law_take (hr.mono (by omega)) (by rfl) (pa_cons (pv 0) (pa_cons pe_int pa_nil)))) (pa_cons (pe_lst (pa_cons (pe_own C_law_pick (hr.mono (by omega)) (by rfl) (pa_cons (pv 0) (pa_cons (pe_lst (pa_cons pe_int (pa_cons pe_int (pa_cons pe_int pa_nil)))) pa_nil))) pa_nil)) pa_nil)))))))), ?_⟩
    refine ⟨_, rfl, a, L, ns, 8, rfl, hs, by decide, by decide, fun H1 sg ys y0 y8 hy _ nsg hsg hs1 sm1 => ?_⟩
    have sga : sg ≠ a := (hs.ne nsg).symm
    refine ⟨_, rfl, _, rfl, _, rfl, a, L, ns, 5, rfl, hs1, by decide, by decide, fun H2 t t0 t1 hs2 off2 => ⟨_, _, rfl, rfl, ?_⟩⟩
    refine ⟨_, rfl, (by show 3 ≤ sizeLine; decide), fun l nl => ?_⟩
    have sl := same_upd (o := .lst [.int 2, .int 7, .int 23]) nl
    refine ⟨a, L, l, ns, _, rfl, hs2.same sl, (hs2.ne nl).symm, upd_same, by decide, by decide, fun H3 v mv hs3 off3 => ?_⟩
    obtain ⟨m, rfl, m0, m23⟩ : ∃ m : Int, v = .int m ∧ 0 ≤ m ∧ m ≤ 23 := by
      simp only [List.mem_cons, List.not_mem_nil, or_false] at mv
      rcases mv with e | e | e
      · exact ⟨2, e, by decide, by decide⟩
      · exact ⟨7, e, by decide, by decide⟩
      · exact ⟨23, e, by decide, by decide⟩
    refine ⟨(by show 1 ≤ sizeLine; decide), fun r nr => ?_⟩
    have sr := same_upd (o := .lst [.int m]) nr
    have smA : SmX [a] H H3 := sm1.trans ((SmX.at off2 (List.mem_singleton.mpr rfl)).trans ((SmX.of_same sl).trans (SmX.at off3 (List.mem_singleton.mpr rfl))))
    have tM3 : Trk M H3 := tM.smx smA hs3.trk
    have hsg3 : H3 sg = some (.lst ys) := (off3 sg sga).trans (sl _ _ ((off2 sg sga).trans hsg))
    have rL : r ≠ L := fun e => by
      obtain ⟨_, _, _, _, _, e2, _⟩ := hs3
      rw [← e, nr] at e2
      cases e2
    have rn : H r = none := by
      by_cases e : r = a
      · exact absurd e (hs3.ne nr).symm
      · cases eh : H r with
        | none => rfl
        | some o =>
          have := smA r o (fun z => e (List.mem_singleton.mp z)) eh
          rw [nr] at this
          cases this
    refine ⟨a, L, sg, r, ns, 1 + t, m, ys, r :: M, rfl, hs3.same sr, sr _ _ hsg3, y0, by omega, hy, upd_same, sga, ne_of_none hsg3 nr, (hs3.ne nr).symm, rL, m0, by omega, by omega, by omega, List.mem_cons_of_mem _ aM, List.mem_cons_self .., fun b hb => ?_, fun H5 v5 d m5 hd hl m50 m51 hg hs5 hr5 sm5 => ?_⟩
    · rcases List.mem_cons.mp hb with z | z
      · rw [z]; exact ⟨_, upd_same⟩
      · exact (tM3.same sr) b z
    · refine q H5 v5 d (1 + t).toNat (dp_same (hide_sub fun b hb => List.mem_cons_of_mem _ hb) d v5 hd) (by omega) (by omega) (by omega) (by omega) hg hs5 ?_
      intro b o hb e
      have br : b ≠ r := ne_of_none e rn
      refine sm5 b o (fun z => ?_) (sr _ _ (smA b o hb e))
      rcases List.mem_cons.mp z with z | z
      · exact hb (by rw [z]; exact List.mem_singleton.mpr rfl)
      · exact br (List.mem_singleton.mp z)
theorem ok_nest {f : Addr} {fd : FuncData} {k : Nat} (F : Fun K "_law_nest" "_law_nest" s_law_nest f fd) (m_range : mg "range" = none) (m_int : mg "int" = none) :
    FnOk P w K mg base CX0 (k + 1) f fd ["_law_many"] (spNest K) := by
  refine F.ok sc_law_nest (fun vs H Q E h => ?_) (fun cdv A outer s H vs Q E hr h => ?_)
  · obtain ⟨n, M, rfl, _⟩ := h
    rfl
  · obtain ⟨n, M, rfl, hn, tM, q⟩ := h
    refine ⟨_, (pss_cons (ps_set (i := 1) sc_law_nest.nd rfl (by first | exact .inl rfl | exact .inr rfl) pe_str)
      (pss_cons (ps_for PassesOwn.never rfl (pi_range1 (by rfl) m_range (pa_cons (pv 0) pa_nil)) (pg_name (i := 2) sc_law_nest.nd rfl (by first | exact .inl rfl | exact .inr rfl))
        (pss_one (ps_set (i := 1) sc_law_nest.nd rfl (by first | exact .inl rfl | exact .inr rfl) (pe_tup (pa_cons (pe_ix ix_list (pe_lst (pa_cons pe_str (pa_cons pe_str pa_nil))) (pe_op op_mod (pe_callTy call_int1 (by rfl) m_int (by decide +kernel) (pa_cons (pv 2) pa_nil)) pe_int) (fun _ _ => rfl)) (pa_cons (pv 1) (pa_cons pe_str pa_nil)))))))
      (pss_one (ps_ret (pv 1))))), ?_⟩
    refine ⟨_, rfl, (n : Int), rfl, by omega, by omega, for_range (lo := 0) (n := (n : Int).toNat) (fun i σ Hi => ∃ (v : V) (y : Option V), σ = [some (.int (n : Nat)), some v, y] ∧ Dp K (hide M Hi) v (nestD i) ∧ Same H Hi) ?_ ?_ ?_⟩
    · exact ⟨_, none, rfl, .str _, Same.refl _⟩
    · rintro i σ Hi hi ⟨v, y, rfl, hd, sm⟩
      refine ⟨(by show 2 ≤ sizeLine; decide), fun l nl => ?_⟩
      have sl := same_upd (o := .lst [.str "&", .str "|"]) nl
      refine ⟨_, rfl, .inl ⟨_, rfl, _, _, rfl, rfl, pos22, ?_⟩⟩
      have hx : atI [V.str "&", V.str "|"] ((0 + (i : Int)) % 2) = some (.str (if i % 2 = 0 then "&" else "|")) := by
        rcases Nat.mod_two_eq_zero_or_one i with e | e
        · rw [show (0 + (i : Int)) % 2 = 0 by omega, if_pos e]; rfl
        · rw [show (0 + (i : Int)) % 2 = 1 by omega, if_neg (by omega)]; rfl
      refine ⟨l, _, _, _, rfl, rfl, SqL.of upd_same, hx, _, rfl, (by show 3 ≤ sizeLine; decide), fun p np => ?_⟩
      have sp := same_upd (o := .tup [.str (if i % 2 = 0 then "&" else "|"), v, .str "b"]) np
      refine ⟨_, _, rfl, ?_, sm.trans (sl.trans sp)⟩
      have tMi : Trk M (upd Hi l (.lst [.str "&", .str "|"])) := (tM.same sm).same sl
      exact .tup (SqT.of (hid_at tMi np)) (.cons (.str _) (.cons (dp_same (SmX.of_same (sl.trans sp)).hid _ _ hd) (.cons (.str _) .nil)))
    · rintro σ Hi ⟨v, y, rfl, hd, sm⟩
      rw [Int.toNat_natCast] at hd
      exact ⟨_, rfl, q Hi v hd sm⟩
end
end Fv


namespace Fv
open PySem PySem.Spec PyProof.Rows L2
theorem all_nil {P : V → Prop} : ∀ y ∈ ([] : List V), P y := fun y h => nomatch h
theorem all_cons {P : V → Prop} {x : V} {xs : List V} (h : P x) (t : ∀ y ∈ xs, P y) : ∀ y ∈ x :: xs, P y := fun y hy => by
  rcases List.mem_cons.mp hy with e | e
  · rw [e]; exact h
  · exact t y e
theorem all_app {P : V → Prop} {xs ys : List V} (h : ∀ y ∈ xs, P y) (t : ∀ y ∈ ys, P y) : ∀ y ∈ xs ++ ys, P y := fun y hy => by
  rcases List.mem_append.mp hy with e | e
  · exact h y e
  · exact t y e
section
variable {P : Program} {w : World} {K : PySem.W.Frag} {mg : Str → Option Value} {base : Heap}
end
end Fv


namespace Fv
open PySem PySem.Spec PyProof.Rows L2 FvX TL
/-! ### the text of a term -/
def opS : PyData → Str
  | .str s => s
  | _ => ""
mutual
def txt : PyData → Str
  | .str s => s
  | .tuple (o :: ds) => Txt.join (" " ++ opS o ++ " ") (ptxAll ds)
  | _ => ""
def ptxAll : List PyData → List Str
  | [] => []
  | d :: ds => (if isLd d = true then txt d else "(" ++ txt d ++ ")") :: ptxAll ds
end
def ptx (d : PyData) : Str := if isLd d = true then txt d else "(" ++ txt d ++ ")"
theorem ptxAll_map : ∀ ds : List PyData, ptxAll ds = ds.map ptx
  | [] => by simp [ptxAll]
  | d :: ds => by rw [List.map_cons, ← ptxAll_map ds]; simp only [ptxAll, ptx]
theorem txt_str (s : Str) : txt (.str s) = s := by simp only [txt]
theorem txt_tup (o : Str) (ds : List PyData) : txt (.tuple (.str o :: ds)) = Txt.join (" " ++ o ++ " ") (ds.map ptx) := by
  simp only [txt, ptxAll_map, opS]
theorem isOp_inv {o : PyData} (h : isOp o = true) : o = .str "&" ∨ o = .str "|" := by
  unfold isOp at h
  simp only [List.any_cons, List.any_nil, Bool.or_false, Bool.or_eq_true] at h
  cases o with
  | str x =>
    rcases h with h | h <;> simp [PyData.eqv] at h
    · exact .inl (by rw [h])
    · exact .inr (by rw [h])
  | _ => rcases h with h | h <;> simp [PyData.eqv] at h
theorem lmeas_inv {n : Nat} {d : PyData} (h : 1 ≤ lmeas (n + 1) d) : (∃ x, d = .str x ∧ isL x = true) ∨
    (∃ o ds, d = .tuple (.str o :: ds) ∧ isLd d = false ∧ (o = "&" ∨ o = "|") ∧ 2 ≤ ds.length ∧ (∀ x ∈ ds, 1 ≤ lmeas n x) ∧ lmeas (n + 1) d = (ds.map (lmeas n)).sum) := by
  by_cases a : isLd d = true
  · left
    cases d with
    | str x => exact ⟨x, rfl, a⟩
    | _ => cases a
  · right
    have e : lmeas (n + 1) d = if isCd d = true then (if (0 : Int) ∈ (parts d).map (lmeas n) then 0 else ((parts d).map (lmeas n)).sum) else 0 := by
      show (if isLd d = true then (1 : Int) else _) = _
      rw [if_neg a]
    rw [e] at h
    by_cases b : isCd d = true
    · rw [if_pos b] at h
      by_cases c : (0 : Int) ∈ (parts d).map (lmeas n)
      · rw [if_pos c] at h; omega
      · cases d with
        | tuple ds =>
          cases ds with
          | nil => cases b
          | cons o ds =>
            have b' : (decide (2 ≤ ds.length) && isOp o) = true := b
            rw [Bool.and_eq_true, decide_eq_true_eq] at b'
            have all1 : ∀ x ∈ ds, 1 ≤ lmeas n x := fun x hx => by
              have z := lmeas_nonneg n x
              rcases Int.lt_or_eq_of_le z with z | z
              · omega
              · exact absurd (List.mem_map.mpr ⟨x, hx, z.symm⟩) c
            have e' : lmeas (n + 1) (.tuple (o :: ds)) = (ds.map (lmeas n)).sum := by
              rw [e, if_pos b, if_neg c]; rfl
            rcases isOp_inv b'.2 with ho | ho <;> subst ho
            · exact ⟨_, ds, rfl, rfl, .inl rfl, b'.1, all1, e'⟩
            · exact ⟨_, ds, rfl, rfl, .inr rfl, b'.1, all1, e'⟩
        | _ => cases b
    · rw [if_neg b] at h; omega
theorem isL_len {x : Str} (h : isL x = true) : x.length = 1 := by
  unfold isL at h
  rw [Bool.and_eq_true, decide_eq_true_eq] at h
  have := h.1
  injection this with e
  omega
theorem len_app (x y : Str) : (x ++ y).length = x.length + y.length := by
  rw [len_tl, tl_append, List.length_append, ← len_tl, ← len_tl]
theorem joinL_len (S : List Nat) : ∀ (p : List Nat) (ps : List (List Nat)), (joinL S (p :: ps)).length = p.length + (ps.map (·.length)).sum + S.length * ps.length
  | p, [] => by simp [joinL]
  | p, q :: ps => by
    have e : joinL S (p :: q :: ps) = p ++ (S ++ joinL S (q :: ps)) := rfl
    rw [e, List.length_append, List.length_append, joinL_len S q ps, List.map_cons, List.sum_cons, List.length_cons, Nat.mul_add]
    omega
theorem sum_le {α : Type} {f g : α → Int} : ∀ {l : List α}, (∀ x ∈ l, f x ≤ g x) → (l.map f).sum ≤ (l.map g).sum
  | [], _ => by simp
  | x :: l, h => by
    rw [List.map_cons, List.map_cons, List.sum_cons, List.sum_cons]
    have := h x (List.mem_cons_self ..)
    have := sum_le (l := l) fun y hy => h y (List.mem_cons_of_mem _ hy)
    omega
theorem sum_lin {α : Type} {f : α → Int} : ∀ {l : List α}, (l.map fun x => 8 * f x - 5).sum = 8 * (l.map f).sum - 5 * l.length
  | [] => by simp
  | x :: l => by
    rw [List.map_cons, List.map_cons, List.sum_cons, List.sum_cons, sum_lin (l := l), List.length_cons]
    omega
theorem sum_cast {α : Type} {f : α → Nat} : ∀ {l : List α}, (((l.map f).sum : Nat) : Int) = (l.map fun x => ((f x : Nat) : Int)).sum
  | [] => by simp
  | x :: l => by
    rw [List.map_cons, List.map_cons, List.sum_cons, List.sum_cons, ← sum_cast (l := l)]
    omega
theorem sep_len {o : Str} (h : o = "&" ∨ o = "|") : ((" " : Str) ++ o ++ " ").length = 3 := by
  rcases h with h | h <;> subst h <;> decide +kernel
theorem par_len (x : Str) : (("(" : Str) ++ x ++ ")").length = x.length + 2 := by
  rw [len_app, len_app]
  have e1 : ("(" : Str).length = 1 := by decide +kernel
  have e2 : (")" : Str).length = 1 := by decide +kernel
  omega
theorem txt_len : ∀ (n : Nat) (d : PyData), 1 ≤ lmeas n d → ((txt d).length : Int) + 7 ≤ 8 * lmeas n d
  | 0, d, h => by simp only [lmeas] at h; omega
  | n + 1, d, h => by
    rcases lmeas_inv h with ⟨x, rfl, hx⟩ | ⟨o, ds, rfl, _, ho, h2, all1, e⟩
    · rw [txt_str, isL_len hx]
      omega
    · rw [txt_tup, join_eq, len_tl, tl_join, e]
      have hp : (((((ds.map ptx).map tl).map (·.length)).sum : Nat) : Int) ≤ 8 * (ds.map (lmeas n)).sum - 5 * ds.length := by
        rw [← sum_lin, List.map_map, List.map_map, sum_cast]
        refine sum_le fun x hx => ?_
        have := txt_len n x (all1 x hx)
        show (((tl (ptx x)).length : Nat) : Int) ≤ _
        rw [← len_tl]
        unfold ptx
        split
        · omega
        · rw [par_len]; omega
      cases ds with
      | nil => simp at h2
      | cons x r =>
        rw [List.map_cons, List.map_cons] at hp ⊢
        rw [joinL_len, ← len_tl (" " ++ o ++ " "), sep_len ho, List.length_map, List.length_map]
        rw [List.map_cons, List.sum_cons] at hp
        rw [List.length_cons] at h2 hp
        omega
theorem ptx_len {n : Nat} {d : PyData} (h : 1 ≤ lmeas n d) : ((ptx d).length : Int) + 5 ≤ 8 * lmeas n d := by
  have := txt_len n d h
  unfold ptx
  split
  · omega
  · rw [par_len]; omega
def spText (K : PySem.W.Frag) (n : Nat) : Sp := fun vs H Q _ => ∃ (v : V) (d : PyData) (m : Nat), vs = [v] ∧ Dp K H v d ∧ gd 20 d = true ∧ m < n ∧ 1 ≤ lmeas m d ∧ lmeas m d ≤ 1000 ∧ ∀ H', Same H H' → Q (.str (txt d)) H'
def spPart (K : PySem.W.Frag) (n : Nat) : Sp := fun vs H Q _ => ∃ (v : V) (d : PyData) (m : Nat), vs = [v] ∧ Dp K H v d ∧ gd 20 d = true ∧ m < n ∧ 1 ≤ lmeas m d ∧ lmeas m d ≤ 1000 ∧ ∀ H', Same H H' → Q (.str (ptx d)) H'
end Fv


namespace Fv
open PySem PySem.Spec PyProof.Rows L2 FvX TL


-- top 26  slots: 0:_law_word 1:_law_texts 2:_law_one
abbrev s_law_text : Stmt := topS 26
abbrev N_law_text : List Str := ["_law_word", "_law_texts", "_law_one"]
theorem sc_law_text : FnScope N_law_text ["_law_word"] (defScope s_law_text) := ⟨rfl, rfl, rfl, by decide +kernel, rfl, by decide +kernel, by decide +kernel⟩

theorem pe_isDc {X : Cx} {K : PySem.W.Frag} {e : Expr} {te : TE} {T : String} {y : Str} {p p2 pos : Pos} (hK : X.K = K) (hg : Gl X "isinstance") (hm : X.mg "isinstance" = none) (hg2 : Gl X y) (hm2 : X.mg y = none) (ha : PE X e te)
    (hv : bootBuiltins y = some (.type T) := by decide +kernel) (hn : y ≠ "__name__" := by decide) (hd2 : (y == ("__debug__" : Str)) = false := by decide)
    (he : starEach (e :: [.Name y p2]) X.env = (false, eval e X.env) :: starEach [.Name y p2] X.env := by rfl) (hpl : (backTo pos (starEach [.Name y p2] X.env)).any (·.1) = false := by rfl) :
    PE X (.Call (.Name "isinstance" p) [e, .Name y p2] [] pos) (tCB (rIsD K) (tCons te (tCons (tC (.ty T)) tNil))) := by
  subst hK
  exact pe_isD hg hm hg2 hm2 ha hv hn hd2 he hpl
theorem one_len : (" " : Str).length = 1 := by decide +kernel
theorem op_len {o : Str} (h : o = "&" ∨ o = "|") : o.length = 1 := by rcases h with h | h <;> subst h <;> decide +kernel
theorem small_len {x : Str} {n : Nat} (h : x.length ≤ n) (hn : n ≤ 100000) : x.length ≤ sizeLine := Nat.le_trans h (Nat.le_trans hn (by decide))
theorem emp_app (x : Str) : Str.empty ++ x = x := ext_tl (by rw [tl_append]; rfl)
theorem sum_ptx {m : Nat} {ds : List PyData} (all1 : ∀ x ∈ ds, 1 ≤ lmeas m x) (h : (ds.map (lmeas m)).sum ≤ 1000) : ((ds.map ptx).map (·.length)).sum ≤ 8000 := by
  have hp : ((((ds.map ptx).map (·.length)).sum : Nat) : Int) ≤ 8 * (ds.map (lmeas m)).sum - 5 * ds.length := by
    rw [← sum_lin, List.map_map, sum_cast]
    refine sum_le fun x hx => ?_
    have := ptx_len (all1 x hx)
    show (((ptx x).length : Nat) : Int) ≤ _
    omega
  omega
theorem part_le {m : Nat} {ds : List PyData} {x : PyData} (hx : x ∈ ds) (h : (ds.map (lmeas m)).sum ≤ 1000) : lmeas m x ≤ 1000 := by
  have := mem_le_sum (l := ds.map (lmeas m)) (x := lmeas m x) (fun y hy => by
    obtain ⟨d', _, rfl⟩ := List.mem_map.mp hy
    exact lmeas_nonneg m d') (List.mem_map.mpr ⟨x, hx, rfl⟩)
  omega
section
variable {P : Program} {w : World} {K : PySem.W.Frag} {mg : Str → Option Value} {base : Heap}
theorem text_zero {f : Addr} {fd : FuncData} {k : Nat} {ps : List Str} : FnOk P w K mg base CX0 k f fd ps (spText K 0) := by
  have no : ∀ vs H Q E, ¬ spText K 0 vs H Q E := fun vs H Q E h => by
    obtain ⟨v, d, m, _, _, _, m1, _⟩ := h
    omega
  exact ⟨fun vs H Q E h => absurd h (no vs H Q E), fun A outer s H args us vs Q E _ _ _ _ h => absurd h (no vs H Q E)⟩
theorem part_zero {f : Addr} {fd : FuncData} {k : Nat} {ps : List Str} : FnOk P w K mg base CX0 k f fd ps (spPart K 0) := by
  have no : ∀ vs H Q E, ¬ spPart K 0 vs H Q E := fun vs H Q E h => by
    obtain ⟨v, d, m, _, _, _, m1, _⟩ := h
    omega
  exact ⟨fun vs H Q E h => absurd h (no vs H Q E), fun A outer s H args us vs Q E _ _ _ _ h => absurd h (no vs H Q E)⟩
theorem isLd_str {m : Nat} {x : Str} (h : 1 ≤ lmeas m (.str x)) : isL x = true := by
  cases m with
  | zero => simp only [lmeas] at h; omega
  | succ m =>
    rcases lmeas_inv h with ⟨y, e, hy⟩ | ⟨o, ds, e, _⟩
    · cases e; exact hy
    · cases e
theorem ok_law_text {f : Addr} {fd : FuncData} {k n : Nat} (F : Fun K "_law_text" "_law_text" s_law_text f fd) (m_isinstance : mg "isinstance" = none) (m_str : mg "str" = none)
    (C_law_text : Own P w K mg base k "_law_text" ["_law_word"] (spText K n)) :
    FnOk P w K mg base CX0 (k + 1) f fd ["_law_word"] (spText K (n + 1)) := by
  refine F.ok sc_law_text (fun vs H Q E h => ?_) (fun cdv A outer s H vs Q E hr h => ?_)
  · obtain ⟨v, d, m, rfl, _⟩ := h
    rfl
  · obtain ⟨v, d, m, rfl, hd, hg, hm, l1, l2, q⟩ := h
    refine ⟨_, (pss_cons (ps_if (pt_val (pe_isD (T := "str") (by rfl) m_isinstance (by rfl) m_str (pv 0)))
        (pss_one (ps_ret (pv 0)))
        pss_nil)
      (pss_cons (ps_setLc (i := 1) (own := [("_law_one", 2)]) (g := gName 2) (by rfl) sc_law_text.nd rfl rfl (sw_true rfl rfl rfl (by decide +kernel)) (pi_tup (pe_slice sl_tup (pv 0) (po_some pe_int) po_none)) (blkOk_by (own := [("_law_one", 2)]) (N := N_law_text) (sc := defScope s_law_text) (by decide +kernel)) (fun _ _ _ _ _ => pg_name (i := 2) sc_law_text.nd rfl (Or.inl rfl)) (fun _ _ _ _ _ => pts_nil) (fun _ _ _ _ _ => (pe_ifExp (pt_val (pe_isDc (K := K) (T := "str") rfl (by rfl) m_isinstance (by rfl) m_str (pv 2))) (pv 2) (pe_op op_add_str (pe_op op_add_str pe_str (pe_own C_law_text (hr.mono (by omega)) (by rfl) (pa_cons (pv 2) pa_nil))) pe_str))))
      (pss_one (ps_ret (pe_join (pe_op op_add_str (pe_op op_add_str pe_str (pe_ix ix_tup (pv 0) pe_int (fun _ _ => rfl))) pe_str) (pv 1)))))), ?_⟩
    cases m with
    | zero => simp only [lmeas] at l1; omega
    | succ m =>
    have fit : ∀ n : Nat, n ≤ 8010 → n ≤ sizeLine := fun n h => Nat.le_trans h (by decide)
    have e1 : ("(" : Str).length = 1 := by decide +kernel
    have e2 : (")" : Str).length = 1 := by decide +kernel
    rcases lmeas_inv l1 with ⟨x, rfl, hx⟩ | ⟨o, ds, rfl, nl, ho, h2, all1, e⟩
    · cases hd
      have q' := q H (Same.refl H)
      rw [txt_str] at q'
      exact ⟨_, rfl, _, _, _, rfl, by decide, .str x, _, rfl, iteT ⟨_, rfl, q'⟩⟩
    · rw [e] at l2
      cases hd with
      | @tup a xs _ hs ha =>
        cases ha with
        | @cons x0 xr _ _ h1 hA =>
        cases h1
        have hl := dpAll_len hA
        refine ⟨_, rfl, _, _, .tuple (.str o :: ds), rfl, by decide, .tup hs (.cons (.str o) hA), _, rfl, iteF ?_⟩
        refine ⟨_, rfl, 1, rfl, a, _, rfl, hs, ?_, fun p np => ?_⟩
        · rw [show HT.sIx (V.str o :: xr).length 0 (some 1) = min 1 (V.str o :: xr).length from HT.sIx_nat _ 0 1, List.length_cons]
          omega
        have ex : cutV (V.str o :: xr) (some 1) none = xr := by rw [cut_drop1]; rfl
        rw [ex]
        have sp := same_upd (o := .tup xr) np
        have gp := (gd_parts hg).2
        refine ⟨p, rfl, ⟨_, SqT.of upd_same⟩, fun D nD => lc_tup (xs := xr) (fun i H1 => Same (upd H p (.tup xr)) H1 ∧ H1 D = some (.lst (((ds.take i).map ptx).map V.str))) ?_ ?_ ?_ ?_⟩
        · exact ⟨same_upd nD, by rw [upd_same]; rfl⟩
        · rintro i H1 hi ⟨sm, e1⟩
          exact SqT.of (sm _ _ upd_same)
        · rintro i x H1 hx ⟨sm, e1'⟩
          obtain ⟨d', hd', hD'⟩ := dpAll_get hA hx
          have hDs : Dp K H1 x d' := dp_same (sp.trans sm) d' x hD'
          have md : d' ∈ ds := List.mem_of_getElem? hd'
          have fin : ∀ H2, Same H1 H2 → ∃ xs, H2 D = some (.lst xs) ∧ xs.length + 1 ≤ sizeLine ∧ (Same (upd H p (.tup xr)) (upd H2 D (.lst (xs ++ [V.str (ptx d')]))) ∧ upd H2 D (.lst (xs ++ [V.str (ptx d')])) D = some (.lst (((ds.take (i + 1)).map ptx).map V.str))) := fun H2 s2 => by
            refine ⟨_, s2 _ _ e1', ?_, ?_, ?_⟩
            · rw [List.length_map, List.length_map, List.length_take]
              have lds := (gd_tuple hg).1
              rw [List.length_cons] at lds
              exact small1000 (by omega)
            · intro b o' eb
              have bD : b ≠ D := ne_of_none eb nD
              rw [upd_ne bD]
              exact s2 _ _ (sm _ _ eb)
            · rw [upd_same, List.take_add_one, hd']
              simp
          refine ⟨rfl, ?_⟩
          dsimp only [tYes]
          rw [if_pos rfl]
          by_cases c : isLd d' = true
          · cases d' with
            | str z =>
              cases hDs
              refine ⟨_, rfl, _, _, .str z, rfl, by decide, .str z, _, rfl, iteT ⟨_, rfl, ?_⟩⟩
              have ez : ptx (.str z) = z := by unfold ptx; rw [if_pos c, txt_str]
              have f2 := fin H1 (Same.refl H1)
              rw [ez] at f2
              exact f2
            | _ => cases c
          · have nb : isB (tyN d') "str" = false := by
              cases m with
              | zero => have := all1 d' md; simp only [lmeas] at this; omega
              | succ m =>
                rcases lmeas_inv (all1 d' md) with ⟨y, rfl, hy⟩ | ⟨o', ds', rfl, _⟩
                · exact absurd hy c
                · rfl
            refine ⟨_, rfl, _, _, d', rfl, by decide, hDs, _, rfl, ?_⟩
            rw [nb]
            have t8 := txt_len m d' (all1 d' md)
            have t9 := part_le md l2
            refine iteF ⟨_, rfl, x, d', m, rfl, hDs, gd_le (gp d' md) (by decide), by omega, all1 d' md, t9, fun H2 s2 => ⟨_, _, rfl, rfl, fit _ (by omega), _, _, rfl, rfl, fit _ (by rw [len_app]; omega), ?_⟩⟩
            have ez : ptx d' = "(" ++ txt d' ++ ")" := by unfold ptx; rw [if_neg c]
            have f2 := fin H2 s2
            rw [ez] at f2
            exact f2
        · rintro H1 ⟨sm, e1'⟩
          have et : ds.take xr.length = ds := List.take_of_length_le (by omega)
          rw [et] at e1'
          have q' := q H1 (sp.trans sm)
          rw [txt_tup] at q'
          have ol := op_len ho
          refine ⟨_, rfl, a, _, _, _, rfl, rfl, same_seqT (sp.trans sm) hs, at0, _, _, rfl, rfl, ?_, _, _, rfl, rfl, ?_, ⟨_, rfl⟩, _, rfl, _, D, ds.map ptx, rfl, rfl, .inl (SqL.of e1'), ?_, q'⟩
          · rw [one_len, ol]; decide
          · rw [len_app, one_len, ol]; decide
          · rw [sep_len ho, List.length_map]
            have := sum_ptx all1 l2
            have lds := (gd_tuple hg).1
            rw [List.length_cons] at lds
            omega
end
end Fv


namespace Fv
open PySem PySem.Spec PyProof.Rows L2 FvX TL
/-! ### reading, as the program reads: a mirror over code points -/
/-- k signs from at on -/
def sub (T : List Nat) (at' k : Nat) : Str := ⟨((T.drop at').take k).toArray⟩
theorem tl_sub (T : List Nat) (a k : Nat) : tl (sub T a k) = (T.drop a).take k := rfl
theorem cut_sub (z : Str) (a k : Nat) : cutS z (some (a : Int)) (some ((a : Int) + (k : Nat))) = sub (tl z) a k := by
  refine ext_tl ?_
  have e : ((a : Int) + (k : Nat)) = ((a + k : Nat) : Int) := by omega
  rw [tl_sub, e]
  show ((z.cps.toList.drop (HT.sIx z.length 0 (some (a : Int)))).take (HT.sIx z.length z.length (some ((a + k : Nat) : Int)) - HT.sIx z.length 0 (some (a : Int)))) = _
  rw [HT.sIx_nat, HT.sIx_nat]
  have hl : z.length = (tl z).length := len_tl z
  have hl2 : z.length = z.cps.toList.length := len_tl z
  by_cases h : a ≤ z.length
  · rw [Nat.min_eq_left h]
    by_cases h2 : a + k ≤ z.length
    · rw [Nat.min_eq_left h2, Nat.add_sub_cancel_left]
    · rw [Nat.min_eq_right (by omega), List.take_of_length_le (by rw [List.length_drop]; omega), List.take_of_length_le (by rw [List.length_drop]; omega)]
  · rw [Nat.min_eq_right (by omega : z.length ≤ a), List.drop_of_length_le (by omega), List.drop_of_length_le (by omega), List.take_nil, List.take_nil]
theorem sub_len (T : List Nat) (a k : Nat) : (sub T a k).length ≤ k := by
  rw [len_tl, tl_sub, List.length_take]; omega
theorem sub_in {T : List Nat} {a k n : Nat} (h : (sub T a k).length = n) (hn : 0 < n) : a + n ≤ T.length := by
  rw [len_tl, tl_sub, List.length_take, List.length_drop] at h
  omega
def rdL (P : Nat → Option (PyData × Nat)) (T : List Nat) (sg : Str) : Nat → Nat → List PyData → Option (List PyData × Nat)
  | 0, _, _ => none
  | f + 1, a, acc => if sub T a 3 = sg then (match P (a + 3) with
    | none => none
    | some (d, e) => rdL P T sg f e (acc ++ [d])) else some (acc, a)
def sgn (s : Str) : Str := if s = " & " then "&" else "|"
def isSg (s : Str) : Prop := s = " & " ∨ s = " | "
instance (s : Str) : Decidable (isSg s) := inferInstanceAs (Decidable (_ ∨ _))
def rdT (P : Nat → Option (PyData × Nat)) (T : List Nat) (a : Nat) : Option (PyData × Nat) := match P a with
  | none => none
  | some (d, e) => if isSg (sub T e 3) then (match rdL P T (sub T e 3) (T.length + 1 - e) e [d] with
      | none => none
      | some (ds, e') => some (.tuple (.str (sgn (sub T e 3)) :: ds), e')) else if isLd d = true then some (d, e) else none
def rdP (T : List Nat) : Nat → Nat → Option (PyData × Nat)
  | 0 => fun a => if isL (sub T a 1) = true then some (.str (sub T a 1), a + 1) else none
  | n + 1 => fun a => if isL (sub T a 1) = true then some (.str (sub T a 1), a + 1) else if sub T a 1 = "(" then (match rdT (rdP T n) T (a + 1) with
      | none => none
      | some (d, e) => if isLd d = true ∨ sub T e 1 ≠ ")" then none else some (d, e + 1)) else none
theorem isL_one {x : Str} (h : isL x = true) : x ∈ (["a", "b", "c", "d", "e", "f", "g", "h"] : List Str) := by
  have hl := isL_len h
  rw [len_tl] at hl
  obtain ⟨c, ec⟩ : ∃ c, tl x = [c] := by
    match tl x, hl with
    | [c], _ => exact ⟨c, rfl⟩
  have ex : x = ⟨#[c]⟩ := ext_tl (by rw [ec])
  subst ex
  unfold isL at h
  rw [Bool.and_eq_true] at h
  have h2 := h.2
  rw [PySem.StrLaws.found_one, decide_eq_true_eq] at h2
  have e : ("abcdefgh" : Str).cps.toList = [97, 98, 99, 100, 101, 102, 103, 104] := by decide +kernel
  rw [e] at h2
  have all : ∀ c ∈ ([97, 98, 99, 100, 101, 102, 103, 104] : List Nat), (⟨#[c]⟩ : Str) ∈ (["a", "b", "c", "d", "e", "f", "g", "h"] : List Str) := by decide +kernel
  exact all c h2
theorem isL_gd {x : Str} (h : isL x = true) (n : Nat) : gd n (.str x) = true := gd_le (isL_lett (isL_one h)).2 (Nat.zero_le _)
theorem sg_len {s : Str} (h : isSg s) : s.length = 3 := by rcases h with h | h <;> rw [h] <;> decide +kernel
/-- what a reading of parts promises -/
def PFine (T : List Nat) (n : Nat) (P : Nat → Option (PyData × Nat)) : Prop := ∀ a d e, P a = some (d, e) → a < e ∧ e ≤ T.length ∧ gd n d = true
theorem rdL_fine {T : List Nat} {n : Nat} {P : Nat → Option (PyData × Nat)} (hP : PFine T n P) {sg : Str} (hs : sg.length = 3) : ∀ (f a : Nat) (acc ds : List PyData) (e : Nat), rdL P T sg f a acc = some (ds, e) →
    (∀ d ∈ acc, gd n d = true) → acc.length ≤ a → a ≤ T.length → (∀ d ∈ ds, gd n d = true) ∧ ds.length ≤ e ∧ a ≤ e ∧ e ≤ T.length
  | 0, a, acc, ds, e, h, _, _, _ => by cases h
  | f + 1, a, acc, ds, e, h, hg, hl, ha => by
    unfold rdL at h
    by_cases c : sub T a 3 = sg
    · rw [if_pos c] at h
      cases hp : P (a + 3) with
      | none => rw [hp] at h; cases h
      | some r =>
        obtain ⟨d, e1⟩ := r
        rw [hp] at h
        obtain ⟨h1, h2, h3⟩ := hP _ _ _ hp
        have z := rdL_fine hP hs f e1 (acc ++ [d]) ds e h (fun x hx => by
          rcases List.mem_append.mp hx with q | q
          · exact hg x q
          · rw [List.mem_singleton.mp q]; exact h3) (by rw [List.length_append, List.length_singleton]; omega) h2
        exact ⟨z.1, z.2.1, by omega, z.2.2.2⟩
    · rw [if_neg c] at h
      cases h
      exact ⟨hg, hl, Nat.le_refl _, ha⟩
theorem rdT_fine {T : List Nat} {n : Nat} {P : Nat → Option (PyData × Nat)} (hT : T.length ≤ 900) (hP : PFine T n P) : PFine T (n + 1) (rdT P T) := by
  intro a d e h
  unfold rdT at h
  cases hp : P a with
  | none => rw [hp] at h; cases h
  | some r =>
    obtain ⟨d1, e1⟩ := r
    rw [hp] at h
    obtain ⟨h1, h2, h3⟩ := hP _ _ _ hp
    dsimp only at h
    by_cases c : isSg (sub T e1 3)
    · rw [if_pos c] at h
      cases hr : rdL P T (sub T e1 3) (T.length + 1 - e1) e1 [d1] with
      | none => rw [hr] at h; cases h
      | some r =>
        obtain ⟨ds, e2⟩ := r
        rw [hr] at h
        cases h
        obtain ⟨z1, z2, z3, z4⟩ := rdL_fine hP (sg_len c) _ _ _ _ _ hr (fun x hx => by rw [List.mem_singleton.mp hx]; exact h3) (by rw [List.length_singleton]; omega) h2
        refine ⟨by omega, z4, gd_tup (fun x hx => ?_) (by rw [List.length_cons]; omega)⟩
        rcases List.mem_cons.mp hx with q | q
        · rw [q]
          refine gd_le (n := 0) ?_ (Nat.zero_le _)
          unfold sgn
          split <;> decide +kernel
        · exact z1 x q
    · rw [if_neg c] at h
      by_cases c2 : isLd d1 = true
      · rw [if_pos c2] at h
        cases h
        exact ⟨h1, h2, gd_up _ _ h3⟩
      · rw [if_neg c2] at h; cases h
theorem rdP_fine {T : List Nat} (hT : T.length ≤ 900) : ∀ n : Nat, PFine T n (rdP T n)
  | 0 => fun a d e h => by
    unfold rdP at h
    by_cases c : isL (sub T a 1) = true
    · rw [if_pos c] at h
      cases h
      exact ⟨by omega, sub_in (isL_len c) (by decide), isL_gd c _⟩
    · rw [if_neg c] at h; cases h
  | n + 1 => fun a d e h => by
    unfold rdP at h
    by_cases c : isL (sub T a 1) = true
    · rw [if_pos c] at h
      cases h
      exact ⟨by omega, sub_in (isL_len c) (by decide), isL_gd c _⟩
    · rw [if_neg c] at h
      by_cases c2 : sub T a 1 = "("
      · rw [if_pos c2] at h
        cases hr : rdT (rdP T n) T (a + 1) with
        | none => rw [hr] at h; cases h
        | some r =>
          obtain ⟨d1, e1⟩ := r
          rw [hr] at h
          dsimp only at h
          obtain ⟨h1, h2, h3⟩ := rdT_fine hT (rdP_fine hT n) _ _ _ hr
          by_cases c3 : isLd d1 = true ∨ sub T e1 1 ≠ ")"
          · rw [if_pos c3] at h; cases h
          · rw [if_neg c3] at h
            cases h
            have c4 : sub T e1 1 = ")" := Classical.not_not.mp fun z => c3 (.inr z)
            exact ⟨by omega, sub_in (by rw [c4]; decide +kernel) (by decide), h3⟩
      · rw [if_neg c2] at h; cases h
theorem sub_ok {x : Str} (h : PyData.strOk x = true) (a k : Nat) : PyData.strOk (sub (tl x) a k) = true := by
  unfold PyData.strOk at h ⊢
  rw [← Array.all_toList, List.all_eq_true] at h ⊢
  intro c hc
  exact h c (List.mem_of_mem_drop (List.mem_of_mem_take hc))
theorem sub_gd {x : Str} (h : PyData.strOk x = true) (a k : Nat) (hk : k ≤ 3) (n : Nat) : gd n (.str (sub (tl x) a k)) = true := by
  refine gd_le (n := 0) ?_ (Nat.zero_le _)
  have := sub_len (tl x) a k
  show (PyData.strOk (sub (tl x) a k) && decide ((sub (tl x) a k).length ≤ 100000)) = true
  rw [sub_ok h, decide_eq_true (by omega)]
  rfl
theorem cut1 (z : Str) (a : Nat) : cutS z (some (a : Int)) (some ((a : Int) + 1)) = sub (tl z) a 1 := cut_sub z a 1
theorem cut3 (z : Str) (a : Nat) : cutS z (some (a : Int)) (some ((a : Int) + 3)) = sub (tl z) a 3 := cut_sub z a 3
theorem sub_one {T : List Nat} {a : Nat} (h : (sub T a 1).length = 1) : ∃ c, T[a]? = some c ∧ sub T a 1 = ⟨#[c]⟩ := by
  have hl := sub_in h (by decide)
  refine ⟨T[a], List.getElem?_eq_getElem (by omega), ext_tl ?_⟩
  rw [tl_sub, List.drop_eq_getElem_cons (by omega)]
  rfl
def outR (K : PySem.W.Frag) (CT : Addr) (M : List Addr) (r : Option (PyData × Nat)) (H : Hp) (Q : VK) (E : XK) : Prop :=
  (∀ d e, r = some (d, e) → ∀ (H' : Hp) (p : Addr) (v : V), Same H H' → H' p = some (.tup [v, .int (e : Nat)]) → Dp K (hide M H') v d → Q (.ref p) H') ∧ (r = none → errAt CT "InvalidText" H E)
def spRdP (K : PySem.W.Frag) (CT : Addr) (n : Nat) : Sp := fun vs H Q E => ∃ (x : Str) (a m : Nat) (M : List Addr), vs = [.str x, .int (a : Nat), .int (m : Nat)] ∧ x.length ≤ 900 ∧ PyData.strOk x = true ∧ m < n ∧ Trk M H ∧ outR K CT M (rdP (tl x) m a) H Q E
def spRdT (K : PySem.W.Frag) (CT : Addr) (n : Nat) : Sp := fun vs H Q E => ∃ (x : Str) (a m : Nat) (M : List Addr), vs = [.str x, .int (a : Nat), .int (m : Nat)] ∧ x.length ≤ 900 ∧ PyData.strOk x = true ∧ m < n ∧ Trk M H ∧ outR K CT M (rdT (rdP (tl x) m) (tl x) a) H Q E
theorem vs3 {x : Str} {i j : Int} {a m : Nat} (h : i = (a : Nat)) (g : j = (m : Nat)) : [V.str x, V.int i, V.int j] = [.str x, .int (a : Nat), .int (m : Nat)] := by rw [h, g]
end Fv


namespace Fv
open PySem PySem.Spec PyProof.Rows L2 FvX TL
-- top 18  slots: 0:text 1:at 2:levels 3:part
abbrev s_read_part : Stmt := topS 18
abbrev N_read_part : List Str := ["text", "at", "levels", "part"]
theorem sc_read_part : FnScope N_read_part ["text", "at", "levels"] (defScope s_read_part) := ⟨rfl, rfl, rfl, by decide +kernel, rfl, by decide +kernel, by decide +kernel⟩

section
variable {P : Program} {w : World} {K : PySem.W.Frag} {mg : Str → Option Value} {base : Heap} {CT fI oS : Addr} {qual msg : Str} {q : ErrPos} {j1 j2 : Nat}
theorem fit900 {x : Str} (h : x.length ≤ 900) : x.length ≤ sizeLine := Nat.le_trans h (by decide)
theorem rdT_zero {f : Addr} {fd : FuncData} {k : Nat} {ps : List Str} : FnOk P w K mg base (L2.CX P w) k f fd ps (spRdT K CT 0) := by
  have no : ∀ vs H Q E, ¬ spRdT K CT 0 vs H Q E := fun vs H Q E h => by
    obtain ⟨x, a, m, M, _, _, _, h, _⟩ := h
    omega
  exact ⟨fun vs H Q E h => absurd h (no vs H Q E), fun A outer s H args us vs Q E _ _ _ _ h => absurd h (no vs H Q E)⟩
theorem ok_read_part {f : Addr} {fd : FuncData} {k n : Nat} (F : Fun K "read_part" "read_part" s_read_part f fd) (hk : 1 ≤ k) (T_IX : ErrC P.main.file K CT fI qual q msg "InvalidText" j1 j2) (hline : LineOk q msg j1) (htop : (P.main.scope.names.lookup ("super" : Str)).isSome = false) (m_super : mg "super" = none) (g_IX : mg "InvalidText" = some (.ref CT))
    (C_is_letter : Own P w K mg base 1 "is_letter" ["value"] (spIsLetter K)) (C_read_term : OwnR P w K mg base k "read_term" (spRdT K CT n)) (hn : n ≤ 10) :
    FnOk P w K mg base (L2.CX P w) (k + 1) f fd ["text", "at", "levels"] (spRdP K CT (n + 1)) := by
  refine F.okX sc_read_part (fun vs H Q E h => ?_) (fun cdv A outer s H vs Q E hr h => ?_)
  · obtain ⟨x, a, m, M, rfl, _⟩ := h
    rfl
  · obtain ⟨x, a, m, M, rfl, hx, hok, hm, tM, o1, o2⟩ := h
    refine ⟨_, (pss_cons (ps_if (pt_val (pe_own C_is_letter (hr.mono (by omega)) (by rfl) (pa_cons (pe_slice sl_str (pv 0) (po_some (pv 1)) (po_some (pe_op op_add (pv 1) pe_int))) pa_nil)))
        (pss_one (ps_ret (pe_tup (pa_cons (pe_ix ix_str (pv 0) (pv 1) (fun _ _ => rfl)) (pa_cons (pe_op op_add (pv 1) pe_int) pa_nil)))))
        pss_nil)
      (pss_cons (ps_if (PW.pt (pw_or (pt_cmpR op_eq (pv 2) pe_int (nomark _)) (pw_or1 (pt_cmpR op_ne (pe_slice sl_str (pv 0) (po_some (pv 1)) (po_some (pe_op op_add (pv 1) pe_int))) pe_str (nomark _)))))
        (pss_one (ps_raise rfl (takes_of rfl rfl rfl rfl) (pmk_err0 (k := 0) T_IX hline htop m_super (hr.mono (by omega)) (by rfl) g_IX)))
        pss_nil)
      (pss_cons (ps_asg (pe_ownR C_read_term (hr.mono (by omega)) (by rfl) passX (pa_cons (pv 0) (pa_cons (pe_op op_add (pv 1) pe_int) (pa_cons (pe_op op_sub (pv 2) pe_int) pa_nil)))) (pg_tup rfl (pgs_cons (pg_name (i := 3) sc_read_part.nd rfl (by first | exact .inl rfl | exact .inr rfl)) (pgs_cons (pg_name (i := 1) sc_read_part.nd rfl (by first | exact .inl rfl | exact .inr rfl)) pgs_nil))))
      (pss_cons (ps_if (PW.pt (pw_or (pt_val (pe_own C_is_letter (hr.mono (by omega)) (by rfl) (pa_cons (pv 3) pa_nil))) (pw_or1 (pt_cmpR op_ne (pe_slice sl_str (pv 0) (po_some (pv 1)) (po_some (pe_op op_add (pv 1) pe_int))) pe_str (nomark _)))))
        (pss_one (ps_raise rfl (takes_of rfl rfl rfl rfl) (pmk_err0 (k := 0) T_IX hline htop m_super (hr.mono (by omega)) (by rfl) g_IX)))
        pss_nil)
      (pss_one (ps_ret (pe_tup (pa_cons (pv 3) (pa_cons (pe_op op_add (pv 1) pe_int) pa_nil))))))))), ?_⟩
    have hT : (tl x).length ≤ 900 := by rw [← len_tl]; exact hx
    refine ⟨_, rfl, _, rfl, _, rfl, _, rfl, _, _, rfl, rfl, _, rfl, x, rfl, fit900 hx, _, _, rfl, .str _, (by rw [cut1]; exact sub_gd hok _ _ (by decide) _), _, rfl, ?_⟩
    show if isL (cutS x (some (a : Int)) (some ((a : Int) + 1))) = true then _ else _
    rw [cut1]
    by_cases c : isL (sub (tl x) a 1) = true
    · rw [if_pos c]
      obtain ⟨ch, h1, h2⟩ := sub_one (isL_len c)
      refine ⟨_, rfl, _, rfl, x, _, ch, rfl, rfl, fit900 hx, atI_nat h1, _, rfl, _, _, rfl, rfl, (by show 2 ≤ sizeLine; decide), fun p np => ?_⟩
      refine o1 (.str (sub (tl x) a 1)) (a + 1) ?_ _ p (.str (sub (tl x) a 1)) (same_upd np) ?_ (.str _)
      · cases m with
        | zero => unfold rdP; rw [if_pos c]
        | succ m => unfold rdP; rw [if_pos c]
      · rw [upd_same, h2]
        rfl
    · rw [if_neg c]
      cases m with
      | zero =>
        have e0 : rdP (tl x) 0 a = none := by unfold rdP; rw [if_neg c]
        refine ⟨_, rfl, rfl, _, rfl, ?_⟩
        refine iteT (iteT fun dd nd => ?_)
        exact o2 e0 _ dd (same_upd nd) upd_same
      | succ m =>
        refine ⟨_, rfl, rfl, _, rfl, ?_⟩
        rw [show decide (V.int ((m + 1 : Nat) : Int) = V.int 0) = false from decide_eq_false (fun z => by have := V.int.inj z; omega)]
        refine iteF ?_
        refine ⟨_, rfl, _, rfl, _, rfl, _, rfl, _, _, rfl, rfl, _, rfl, x, rfl, fit900 hx, rfl, _, rfl, ?_⟩
        rw [cut1]
        unfold rdP at o1 o2
        rw [if_neg c] at o1 o2
        by_cases c2 : sub (tl x) a 1 = "("
        · rw [if_pos c2] at o1 o2
          rw [c2, show (!decide (V.str "(" = V.str "(")) = false from by rw [decide_eq_true rfl]; rfl]
          refine iteF ?_
          refine ⟨_, rfl, _, rfl, _, _, rfl, rfl, _, rfl, _, _, rfl, rfl, x, a + 1, m, M, vs3 (by omega) (by omega), hx, hok, by omega, tM, fun d e hr2 H' p v s' hp hd => ?_, fun hr2 => ?_⟩
          · rw [hr2] at o1 o2
            dsimp only at o1 o2
            obtain ⟨f1, f2, f3⟩ := rdT_fine hT (rdP_fine hT m) _ _ _ hr2
            refine ⟨p, _, rfl, SqT.of hp, rfl, _, _, rfl, _, _, rfl, rfl, ?_⟩
            have hd' : Dp K H' v d := dp_same hide_same d v hd
            refine ⟨_, rfl, v, d, rfl, hd', gd_le f3 (by omega), _, rfl, ?_⟩
            refine ite2 (fun c3 => ?_) (fun c3 => ?_)
            · refine iteT fun dd nd => ?_
              rw [if_pos (.inl c3)] at o2
              exact o2 rfl _ dd (s'.trans (same_upd nd)) upd_same
            · refine ⟨_, rfl, _, rfl, _, rfl, _, rfl, _, _, rfl, rfl, _, rfl, x, rfl, fit900 hx, rfl, _, rfl, ?_⟩
              rw [cut1]
              by_cases c4 : sub (tl x) e 1 = ")"
              · rw [if_neg (fun z => z.elim c3 (fun y => y c4))] at o1
                rw [c4, show (!decide (V.str ")" = V.str ")")) = false from by rw [decide_eq_true rfl]; rfl]
                refine iteF ⟨_, rfl, _, rfl, _, _, rfl, rfl, (by show 2 ≤ sizeLine; decide), fun p2 np2 => ?_⟩
                refine o1 d (e + 1) rfl _ p2 v (s'.trans (same_upd np2)) ?_ (dp_same (hid_new np2) d v hd)
                rw [upd_same]
                rfl
              · rw [if_pos (.inr c4)] at o2
                rw [show (!decide (V.str (sub (tl x) e 1) = V.str ")")) = true from by rw [decide_eq_false (fun z => c4 (V.str.inj z))]; rfl]
                refine iteT fun dd nd => ?_
                exact o2 rfl _ dd (s'.trans (same_upd nd)) upd_same
          · rw [hr2] at o2
            exact o2 rfl
        · rw [if_neg c2] at o2
          rw [show (!decide (V.str (sub (tl x) a 1) = V.str "(")) = true from by rw [decide_eq_false (fun z => c2 (V.str.inj z))]; rfl]
          refine iteT fun dd nd => ?_
          exact o2 rfl _ dd (same_upd nd) upd_same
end
end Fv


namespace Fv
open PySem PySem.Spec PyProof.Rows L2 FvX TL
-- top 17  slots: 0:text 1:at 2:levels 3:first 4:sign 5:parts 6:part
abbrev s_read_term : Stmt := topS 17
abbrev N_read_term : List Str := ["text", "at", "levels", "first", "sign", "parts", "part"]
theorem sc_read_term : FnScope N_read_term ["text", "at", "levels"] (defScope s_read_term) := ⟨rfl, rfl, rfl, by decide +kernel, rfl, by decide +kernel, by decide +kernel⟩

def WR (K : PySem.W.Frag) (x : Str) (m : Nat) (v : V) (sg : Str) (L : Addr) (M : List Addr) (H : Hp) (R : Option (List PyData × Nat)) : Nat → L2.St → Hp → Prop := fun f σ H1 => ∃ (a : Nat) (acc : List PyData) (vs : List V) (y6 : Option V),
  σ = [some (.str x), some (.int (a : Nat)), some (.int (m : Nat)), some v, some (.str sg), some (.ref L), y6] ∧ H1 L = some (.lst vs) ∧ DpAll K (hide (L :: M) H1) vs acc ∧ acc.length ≤ a ∧ a ≤ x.length ∧ x.length + 1 - a ≤ f ∧
  rdL (rdP (tl x) m) (tl x) sg f a acc = R ∧ Same H H1
theorem in_sg (s : Str) : (!([PyData.str " & ", .str " | "] : List PyData).any fun z => PyData.eqv z (.str s)) = !decide (isSg s) := by
  congr 1
  simp only [List.any_cons, List.any_nil, Bool.or_false, PyData.eqv]
  rw [Bool.eq_iff_iff, decide_eq_true_eq, Bool.or_eq_true, beq_iff_eq, beq_iff_eq]
  exact ⟨fun h => h.imp Eq.symm Eq.symm, fun h => h.imp Eq.symm Eq.symm⟩
theorem sg_at {s : Str} (h : isSg s) : ∃ c, (tl s)[1]? = some c ∧ (⟨#[c]⟩ : Str) = sgn s := by
  rcases h with h | h <;> subst h
  · exact ⟨38, by decide +kernel, by decide +kernel⟩
  · exact ⟨124, by decide +kernel, by decide +kernel⟩
section
variable {P : Program} {w : World} {K : PySem.W.Frag} {mg : Str → Option Value} {base : Heap} {CT fI oS : Addr} {qual msg : Str} {q : ErrPos} {j1 j2 : Nat}
theorem ok_read_term {f : Addr} {fd : FuncData} {k n : Nat} (F : Fun K "read_term" "read_term" s_read_term f fd) (hk : 1 ≤ k) (T_IX : ErrC P.main.file K CT fI qual q msg "InvalidText" j1 j2) (hline : LineOk q msg j1) (htop : (P.main.scope.names.lookup ("super" : Str)).isSome = false) (m_super : mg "super" = none) (g_IX : mg "InvalidText" = some (.ref CT))
    (g_SIGNS : mg "SIGNS" = some (.ref oS)) (hS : ∀ H : Hp, SqT K H oS [.str " & ", .str " | "])
    (C_is_letter : Own P w K mg base 1 "is_letter" ["value"] (spIsLetter K)) (C_read_part : OwnR P w K mg base k "read_part" (spRdP K CT n)) (hn : n ≤ 10) :
    FnOk P w K mg base (L2.CX P w) (k + 1) f fd ["text", "at", "levels"] (spRdT K CT n) := by
  refine F.okX sc_read_term (fun vs H Q E h => ?_) (fun cdv A outer s H vs Q E hr h => ?_)
  · obtain ⟨x, a, m, M, rfl, _⟩ := h
    rfl
  · obtain ⟨x, a, m, M, rfl, hx, hok, hm, tM, o1, o2⟩ := h
    refine ⟨_, (pss_cons (ps_asg (pe_ownR C_read_part (hr.mono (by omega)) (by rfl) passX (pa_cons (pv 0) (pa_cons (pv 1) (pa_cons (pv 2) pa_nil)))) (pg_tup rfl (pgs_cons (pg_name (i := 3) sc_read_term.nd rfl (by first | exact .inl rfl | exact .inr rfl)) (pgs_cons (pg_name (i := 1) sc_read_term.nd rfl (by first | exact .inl rfl | exact .inr rfl)) pgs_nil))))
      (pss_cons (ps_set (i := 4) sc_read_term.nd rfl (by first | exact .inl rfl | exact .inr rfl) (pe_slice sl_str (pv 0) (po_some (pv 1)) (po_some (pe_op op_add (pv 1) pe_int))))
      (pss_cons (ps_if (pt_cmpR (op_notInT (hu65 hr)) (pv 4) (pe_glob (v := .ref oS) (by rfl) g_SIGNS (rfl)) (by rfl))
        (pss_cons (ps_if (pt_not (pt_val (pe_own C_is_letter (hr.mono (by omega)) (by rfl) (pa_cons (pv 3) pa_nil))))
          (pss_one (ps_raise rfl (takes_of rfl rfl rfl rfl) (pmk_err0 (k := 0) T_IX hline htop m_super (hr.mono (by omega)) (by rfl) g_IX)))
          pss_nil)
        (pss_one (ps_ret (pe_tup (pa_cons (pv 3) (pa_cons (pv 1) pa_nil))))))
        pss_nil)
      (pss_cons (ps_set (i := 5) sc_read_term.nd rfl (by first | exact .inl rfl | exact .inr rfl) (pe_lst (pa_cons (pv 3) pa_nil)))
      (pss_cons (ps_while (passes_of rfl) (pt_cmpR op_eq (pe_slice sl_str (pv 0) (po_some (pv 1)) (po_some (pe_op op_add (pv 1) pe_int))) (pv 4) (nomark _))
        (pss_cons (ps_asg (pe_ownR C_read_part (hr.mono (by omega)) (by rfl) passX (pa_cons (pv 0) (pa_cons (pe_op op_add (pv 1) pe_int) (pa_cons (pv 2) pa_nil)))) (pg_tup rfl (pgs_cons (pg_name (i := 6) sc_read_term.nd rfl (by first | exact .inl rfl | exact .inr rfl)) (pgs_cons (pg_name (i := 1) sc_read_term.nd rfl (by first | exact .inl rfl | exact .inr rfl)) pgs_nil))))
        (pss_one (ps_expr (pe_bm PySem.F.plainAttrs_list PySem.F.slot_list_append PySem.F.type_list_append mt_append (pv 5) (pa_cons (pv 6) pa_nil))))))
      (pss_one (ps_ret (pe_tup (pa_cons (pe_tup (pa_cons (pe_ix ix_str (pv 4) pe_int (fun _ _ => rfl)) (StX.pa_star (pv 5) pa_nil))) (pa_cons (pv 1) pa_nil)))))))))), ?_⟩
    have hT : (tl x).length ≤ 900 := by rw [← len_tl]; exact hx
    have lx : x.length = (tl x).length := len_tl x
    unfold rdT at o1 o2
    refine ⟨_, rfl, _, rfl, _, rfl, x, a, m, M, rfl, hx, hok, hm, tM, fun d e hr1 H1 p v s1 hp hd => ?_, fun hr1 => ?_⟩
    · rw [hr1] at o1 o2
      dsimp only at o1 o2
      obtain ⟨f1, f2, f3⟩ := rdP_fine hT m _ _ _ hr1
      refine ⟨p, _, rfl, SqT.of hp, rfl, _, _, rfl, _, _, rfl, rfl, ?_⟩
      have hd' : Dp K H1 v d := dp_same hide_same d v hd
      refine ⟨_, rfl, _, rfl, _, rfl, _, rfl, _, _, rfl, rfl, _, rfl, x, rfl, fit900 hx, ?_⟩
      rw [cut3]
      refine ⟨_, rfl, .str (sub (tl x) e 3), _, .str _, .tup (hS _) (.cons (.str _) (.cons (.str _) .nil)), gd_shaped (sub_gd hok e 3 (by decide) 1) (by decide), by decide +kernel, _, rfl, ?_⟩
      rw [in_sg]
      by_cases c : isSg (sub (tl x) e 3)
      · rw [if_pos c] at o1 o2
        rw [decide_eq_true c]
        refine iteF ⟨_, rfl, (by show 1 ≤ sizeLine; decide), fun L nL => ?_⟩
        have sL := same_upd (o := .lst [v]) nL
        have tM1 : Trk M H1 := tM.same s1
        have LM : L ∉ M := tM1.ne nL
        have d0 : Dp K (hide (L :: M) (upd H1 L (.lst [v]))) v d := dp_same (fun b o' hb => by
          obtain ⟨m1, e1⟩ := hide_some hb
          have bL : b ≠ L := ne_of_none e1 nL
          rw [hide_ne (fun z => by
            rcases List.mem_cons.mp z with z | z
            · exact bL z
            · exact m1 z), upd_ne bL]
          exact e1) d v hd
        have HL : H L = none := by
          cases hh : H L with
          | none => rfl
          | some o' => rw [s1 _ _ hh] at nL; cases nL
        obtain ⟨R, hR0⟩ : ∃ R, rdL (rdP (tl x) m) (tl x) (sub (tl x) e 3) ((tl x).length + 1 - e) e [d] = R := ⟨_, rfl⟩
        rw [hR0] at o1 o2
        refine ⟨WR K x m v (sub (tl x) e 3) L M H R, ⟨(tl x).length + 1 - e, e, [d], [v], none, rfl, upd_same, .cons d0 .nil, by rw [List.length_singleton]; omega, by omega, by omega, hR0, s1.trans sL⟩, ?_⟩
        rintro fu σ H2 ⟨a2, acc, vs, y6, rfl, hL2, hA2, l2, a2x, hfu, hR, s2⟩
        refine ⟨_, rfl, _, rfl, _, rfl, _, rfl, _, _, rfl, rfl, _, rfl, x, rfl, fit900 hx, _, rfl, rfl, _, rfl, ?_⟩
        rw [cut3]
        obtain ⟨fu, rfl⟩ : ∃ g, fu = g + 1 := ⟨fu - 1, by omega⟩
        have hR' := hR
        unfold rdL at hR'
        have la := dpAll_len hA2
        by_cases c2 : sub (tl x) a2 3 = sub (tl x) e 3
        · rw [if_pos c2] at hR'
          rw [decide_eq_true (congrArg V.str c2), if_pos rfl]
          refine ⟨WR K x m v (sub (tl x) e 3) L M H R fu, fun σ' H' h => ⟨fu, by omega, h⟩, ?_⟩
          have tML : Trk (L :: M) H2 := fun b hb => by
            rcases List.mem_cons.mp hb with z | z
            · rw [z]; exact ⟨_, hL2⟩
            · exact (tM.same s2) b z
          refine ⟨_, rfl, _, rfl, _, _, rfl, rfl, _, rfl, x, a2 + 3, m, L :: M, vs3 (by omega) rfl, hx, hok, hm, tML, fun d3 e3 hr3 H3 p3 v3 s3 hp3 hd3 => ?_, fun hr3 => ?_⟩
          · rw [hr3] at hR'
            dsimp only at hR'
            obtain ⟨g1, g2, g3⟩ := rdP_fine hT m _ _ _ hr3
            have hL3 : H3 L = some (.lst vs) := s3 _ _ hL2
            refine ⟨p3, _, rfl, SqT.of hp3, rfl, _, _, rfl, _, _, rfl, rfl, ?_⟩
            refine ⟨_, rfl, .inl ⟨rfl, _, SqL.of hL3⟩, _, rfl, L, vs, _, rfl, rfl, hL3, ?_, ?_⟩
            · exact Nat.lt_of_lt_of_le (by omega : vs.length < 1000) (by decide)
            · have hid : Same (hide (L :: M) H2) (hide (L :: M) (upd H3 L (.lst (vs ++ [v3])))) := (SmX.put (SmX.of_same s3) (List.mem_cons_self ..)).hid
              have hid3 : Same (hide (L :: M) H3) (hide (L :: M) (upd H3 L (.lst (vs ++ [v3])))) := (SmX.put (SmX.refl _ _) (List.mem_cons_self ..)).hid
              refine ⟨e3, acc ++ [d3], vs ++ [v3], _, rfl, upd_same, dpAll_app (dpAll_same hid _ _ hA2) (.cons (dp_same hid3 _ _ hd3) .nil), by rw [List.length_append, List.length_singleton]; omega, by omega, by omega, hR', fun b o' hb => ?_⟩
              rw [upd_ne (ne_of_none hb HL)]
              exact s3 _ _ (s2 _ _ hb)
          · rw [hr3] at hR'
            rw [← hR'] at o2
            exact (o2 rfl).mono s2
        · rw [if_neg c2] at hR'
          rw [decide_eq_false (fun z => c2 (V.str.inj z)), if_neg (fun z => by cases z)]
          rw [← hR'] at o1
          dsimp only at o1
          obtain ⟨ch, h1, h2⟩ := sg_at c
          refine ⟨_, rfl, _, _, ch, rfl, rfl, Nat.le_trans (sub_len _ _ _) (by decide), atI_nat h1, _, rfl, L, vs, rfl, .inr (SqL.of hL2), ?_, fun p3 np3 => ?_⟩
          · show (vs ++ []).length + 1 ≤ sizeLine
            rw [List.append_nil]
            exact le1000 (by omega)
          rw [List.append_nil, h2]
          have s3 := same_upd (o := .tup (.str (sgn (sub (tl x) e 3)) :: vs)) np3
          refine ⟨_, rfl, (by show 2 ≤ sizeLine; decide), fun p4 np4 => ?_⟩
          have s4 := same_upd (o := .tup [.ref p3, .int (a2 : Nat)]) np4
          have tM2 : Trk M H2 := tM.same s2
          have hidA : Same (hide (L :: M) H2) (hide M (upd H2 p3 (.tup (.str (sgn (sub (tl x) e 3)) :: vs)))) := (hide_sub fun b hb => List.mem_cons_of_mem _ hb).trans (hid_new np3)
          have D3 : Dp K (hide M (upd H2 p3 (.tup (.str (sgn (sub (tl x) e 3)) :: vs)))) (.ref p3) (.tuple (.str (sgn (sub (tl x) e 3)) :: acc)) := .tup (SqT.of (hid_at tM2 np3)) (.cons (.str _) (dpAll_same hidA _ _ hA2))
          exact o1 _ a2 rfl _ p4 (.ref p3) (s2.trans (s3.trans s4)) upd_same (dp_same (hid_new np4) _ _ D3)
      · rw [if_neg c] at o1 o2
        rw [decide_eq_false c]
        refine iteT ⟨_, rfl, v, d, rfl, hd', gd_le f3 (by omega), _, rfl, ?_⟩
        by_cases c3 : isLd d = true
        · rw [if_pos c3] at o1
          rw [c3]
          refine iteF ⟨_, rfl, _, rfl, (by show 2 ≤ sizeLine; decide), fun p2 np2 => ?_⟩
          exact o1 d e rfl _ p2 v (s1.trans (same_upd np2)) upd_same (dp_same (hid_new np2) d v hd)
        · rw [if_neg c3] at o2
          rw [Bool.eq_false_iff.mpr c3]
          refine iteT fun dd nd => ?_
          exact o2 rfl _ dd (s1.trans (same_upd nd)) upd_same
    · rw [hr1] at o2
      exact o2 rfl
end
end Fv


namespace Fv
open PySem PySem.Spec PyProof.Rows L2 FvX TL
-- top 16  slots: 0:text 1:term 2:end
abbrev s_parse_term : Stmt := topS 16
abbrev N_parse_term : List Str := ["text", "term", "end"]
theorem sc_parse_term : FnScope N_parse_term ["text"] (defScope s_parse_term) := ⟨rfl, rfl, rfl, by decide +kernel, rfl, by decide +kernel, by decide +kernel⟩



/-- what parse_term makes of a text -/
def prs (x : Str) : Option PyData := match rdT (rdP (tl x) 5) (tl x) 0 with
  | none => none
  | some (d, e) => if e < x.length ∨ tmB d = false then none else some d
def spParse (K : PySem.W.Frag) (CT : Addr) : Sp := fun vs H Q E => ∃ (x : Str) (M : List Addr), vs = [.str x] ∧ x.length ≤ 900 ∧ PyData.strOk x = true ∧ Trk M H ∧
  (∀ d, prs x = some d → ∀ (H' : Hp) (v : V), Same H H' → Dp K (hide M H') v d → Q v H') ∧ (prs x = none → errAt CT "InvalidText" H E)
def spLong (K : PySem.W.Frag) (CT : Addr) : Sp := fun vs H Q E => ∃ (v : V) (d : PyData), vs = [v] ∧ Dp K H v d ∧ gd 20 d = true ∧
  (∀ dp sz, meas 9 d 600 = some (dp, sz) → ∀ (H' : Hp) (p : Addr), Same H H' → H' p = some (.tup [.int dp, .int sz]) → Q (.ref p) H') ∧ (meas 9 d 600 = none → errAt CT "InvalidTerm" H E)
def spFormat (K : PySem.W.Frag) (CT : Addr) : Sp := fun vs H Q E => ∃ (v : V) (d : PyData), vs = [v] ∧ Dp K H v d ∧ gd 20 d = true ∧
  ((meas 9 d 600).isSome = true → ∀ H', Same H H' → Q (.str (txt d)) H') ∧ (meas 9 d 600 = none → errAt CT "InvalidTerm" H E)
section
variable {P : Program} {w : World} {K : PySem.W.Frag} {mg : Str → Option Value} {base : Heap} {CT fI oS : Addr} {qual msg : Str} {q : ErrPos} {j1 j2 : Nat}
theorem ok_parse_term {f : Addr} {fd : FuncData} {k : Nat} (F : Fun K "parse_term" "parse_term" s_parse_term f fd) (m_len : mg "len" = none) {t5 : Tok} (g_MAX_DEPTH : mg "MAX_DEPTH" = some (.int 5 t5)) (hk : 1 ≤ k) (T_IX : ErrC P.main.file K CT fI qual q msg "InvalidText" j1 j2) (hline : LineOk q msg j1) (htop : (P.main.scope.names.lookup ("super" : Str)).isSome = false) (m_super : mg "super" = none) (g_IX : mg "InvalidText" = some (.ref CT))
    (C_T0 : OwnD P w K mg base k "is_term" PsT [.int 5, .int 24] (spIsTerm K)) (C_read_term : OwnR P w K mg base k "read_term" (spRdT K CT 6)) :
    FnOk P w K mg base (L2.CX P w) (k + 1) f fd ["text"] (spParse K CT) := by
  refine F.okX sc_parse_term (fun vs H Q E h => ?_) (fun cdv A outer s H vs Q E hr h => ?_)
  · obtain ⟨x, M, rfl, _⟩ := h
    rfl
  · obtain ⟨x, M, rfl, hx, hok, tM, o1, o2⟩ := h
    refine ⟨_, (pss_cons (ps_asg (pe_ownR C_read_term (hr.mono (by omega)) (by rfl) passX (pa_cons (pv 0) (pa_cons pe_int (pa_cons (pe_glob (v := .int 5) (by rfl) g_MAX_DEPTH (⟨_, rfl⟩)) pa_nil)))) (pg_tup rfl (pgs_cons (pg_name (i := 1) sc_parse_term.nd rfl (by first | exact .inl rfl | exact .inr rfl)) (pgs_cons (pg_name (i := 2) sc_parse_term.nd rfl (by first | exact .inl rfl | exact .inr rfl)) pgs_nil))))
      (pss_cons (ps_if (PW.pt (pw_or (pt_cmpR op_lt (pv 2) (pe_callB call_len_str (by rfl) m_len (by decide +kernel) (pa_cons (pv 0) pa_nil)) (nomark _)) (pw_or1 (pt_not (pt_val (pe_ownD C_T0 (hr.mono (by omega)) (by rfl) (pa_cons (pv 1) pa_nil)))))))
        (pss_one (ps_raise rfl (takes_of rfl rfl rfl rfl) (pmk_err0 (k := 0) T_IX hline htop m_super (hr.mono (by omega)) (by rfl) g_IX)))
        pss_nil)
      (pss_one (ps_ret (pv 1))))), ?_⟩
    have hT : (tl x).length ≤ 900 := by rw [← len_tl]; exact hx
    unfold prs at o1 o2
    refine ⟨_, rfl, x, 0, 5, M, rfl, hx, hok, by decide, tM, fun d e hr1 H1 p v s1 hp hd => ?_, fun hr1 => ?_⟩
    · rw [hr1] at o1 o2
      dsimp only at o1 o2
      obtain ⟨f1, f2, f3⟩ := rdT_fine hT (rdP_fine hT 5) _ _ _ hr1
      have hd' : Dp K H1 v d := dp_same hide_same d v hd
      refine ⟨p, _, rfl, SqT.of hp, rfl, _, _, rfl, _, _, rfl, rfl, ?_⟩
      refine ⟨_, rfl, _, rfl, _, rfl, (fit900 hx), _, _, rfl, rfl, _, rfl, ?_⟩
      refine ite2 (fun c => ?_) (fun c => ?_)
      · have c' : e < x.length := by have := of_decide_eq_true c; omega
        rw [if_pos (.inl c')] at o2
        refine iteT fun dd nd => ?_
        exact o2 rfl _ dd (s1.trans (same_upd nd)) upd_same
      · have c' : ¬ e < x.length := by have := of_decide_eq_false (Bool.eq_false_iff.mpr c); omega
        refine ⟨_, rfl, v, d, 5, 24, rfl, hd', gd_le f3 (by decide), by decide, by decide, fun H2 s2 => ⟨_, rfl, ?_⟩⟩
        cases ht : tmB d with
        | true =>
          rw [show (meas (5 : Int).toNat d 24).isSome = true from ht]
          rw [if_neg (fun z => z.elim c' (fun y => by rw [ht] at y; cases y))] at o1
          exact iteF ⟨_, rfl, o1 d rfl H2 v (s1.trans s2) (dp_same (SmX.of_same s2).hid d v hd)⟩
        | false =>
          rw [show (meas (5 : Int).toNat d 24).isSome = false from ht]
          rw [if_pos (.inr ht)] at o2
          refine iteT fun dd nd => ?_
          exact o2 rfl _ dd (s1.trans (s2.trans (same_upd nd))) upd_same
    · rw [hr1] at o2
      exact o2 rfl
end
end Fv


namespace Fv
open PySem PySem.Spec PyProof.Rows L2 FvX TL
/-! ### reading the text of a term gives the term -/
theorem drop_add {T u v : List Nat} {a : Nat} (h : T.drop a = u ++ v) : T.drop (a + u.length) = v := by
  rw [← List.drop_drop, h, List.drop_left]
theorem sub_eq {T u v : List Nat} {a : Nat} {s : Str} (h : T.drop a = u ++ v) (hs : tl s = u) : sub T a u.length = s := by
  refine ext_tl ?_
  rw [tl_sub, h, List.take_left, hs]
theorem sub_eq1 {T v : List Nat} {a c : Nat} (h : T.drop a = c :: v) : sub T a 1 = ⟨#[c]⟩ := by
  refine ext_tl ?_
  rw [tl_sub, h]
  rfl
theorem joinL_flat (S p : List Nat) : ∀ ps : List (List Nat), joinL S (p :: ps) = p ++ ps.flatMap (fun x => S ++ x)
  | [] => by simp [joinL]
  | q :: ps => by
    have e : joinL S (p :: q :: ps) = p ++ (S ++ joinL S (q :: ps)) := rfl
    rw [e, joinL_flat S q ps, List.flatMap_cons, List.append_assoc]
theorem isL_nopar {x : Str} (h : isL x = true) : x ≠ "(" := fun e => by
  rw [e] at h
  have : isL "(" = false := by decide +kernel
  rw [this] at h
  cases h
theorem tl_par (x : Str) : tl (("(" : Str) ++ x ++ ")") = 40 :: (tl x ++ [41]) := by
  rw [tl_append, tl_append]
  rfl
theorem rdL_txt {T : List Nat} {P : Nat → Option (PyData × Nat)} {sg : Str} (hs : sg.length = 3) : ∀ (ds : List PyData) (f a : Nat) (acc : List PyData) (rest : List Nat),
    (∀ d ∈ ds, ∀ b r, T.drop b = tl (ptx d) ++ r → P b = some (d, b + (ptx d).length)) → T.drop a = ((ds.map ptx).map tl).flatMap (fun x => tl sg ++ x) ++ rest → rest.take 3 ≠ tl sg → ds.length < f →
    rdL P T sg f a acc = some (acc ++ ds, a + (((ds.map ptx).map tl).flatMap (fun x => tl sg ++ x)).length)
  | [], f, a, acc, rest, _, h, hr, hf => by
    obtain ⟨f, rfl⟩ : ∃ g, f = g + 1 := ⟨f - 1, by simp at hf; omega⟩
    have h' : T.drop a = rest := h
    have e : sub T a 3 ≠ sg := fun z => hr (by rw [← h', ← z]; rfl)
    unfold rdL
    rw [if_neg e]
    simp
  | d :: ds, f, a, acc, rest, hP, h, hr, hf => by
    rw [List.length_cons] at hf
    obtain ⟨f, rfl⟩ : ∃ g, f = g + 1 := ⟨f - 1, by omega⟩
    rw [List.map_cons, List.map_cons, List.flatMap_cons] at h ⊢
    have l3 : (tl sg).length = 3 := by rw [← len_tl]; exact hs
    have h1 : T.drop a = tl sg ++ (tl (ptx d) ++ (((ds.map ptx).map tl).flatMap (fun x => tl sg ++ x) ++ rest)) := by
      rw [h]; simp only [List.append_assoc]
    have e : sub T a 3 = sg := by
      have := sub_eq (s := sg) h1 rfl
      rw [l3] at this
      exact this
    have h2 := drop_add h1
    rw [l3] at h2
    have h3 := drop_add h2
    have hp := hP d (List.mem_cons_self ..) _ _ h2
    unfold rdL
    rw [if_pos e, hp]
    dsimp only
    have l4 : (ptx d).length = (tl (ptx d)).length := len_tl _
    rw [l4]
    rw [rdL_txt hs ds f _ (acc ++ [d]) rest (fun x hx => hP x (List.mem_cons_of_mem _ hx)) h3 hr (by omega)]
    rw [List.append_assoc, List.length_append, List.length_append, l3]
    simp only [List.singleton_append, Option.some.injEq, Prod.mk.injEq, true_and]
    omega
theorem sg_of {o : Str} (ho : o = "&" ∨ o = "|") : isSg (" " ++ o ++ " ") ∧ sgn (" " ++ o ++ " ") = o ∧ ∀ rest : List Nat, rest = [] ∨ rest.head? = some 41 → rest.take 3 ≠ tl (" " ++ o ++ " ") := by
  have key : ∀ c : Nat, ∀ rest : List Nat, rest = [] ∨ rest.head? = some 41 → rest.take 3 ≠ [32, c, 32] := fun c rest h e => by
    rcases h with h | h
    · rw [h] at e; cases e
    · cases rest with
      | nil => cases h
      | cons r rs =>
        cases h
        rw [List.take_succ_cons] at e
        cases e
  rcases ho with ho | ho <;> subst ho
  · refine ⟨.inl (by decide +kernel), by decide +kernel, ?_⟩
    have e : tl (" " ++ "&" ++ " ") = [32, 38, 32] := by decide +kernel
    rw [e]; exact key 38
  · refine ⟨.inr (by decide +kernel), by decide +kernel, ?_⟩
    have e : tl (" " ++ "|" ++ " ") = [32, 124, 32] := by decide +kernel
    rw [e]; exact key 124
theorem flat_len {S : List Nat} (hS : 1 ≤ S.length) : ∀ l : List (List Nat), l.length ≤ (l.flatMap fun x => S ++ x).length
  | [] => Nat.zero_le _
  | x :: l => by
    have := flat_len hS l
    rw [List.flatMap_cons, List.length_append, List.length_append, List.length_cons]
    omega
theorem rdT_txt {T : List Nat} {n : Nat} {P : Nat → Option (PyData × Nat)} {o : Str} {ds : List PyData} (ho : o = "&" ∨ o = "|") (h2 : 2 ≤ ds.length)
    (hP : ∀ d ∈ ds, ∀ b r, T.drop b = tl (ptx d) ++ r → P b = some (d, b + (ptx d).length)) {a : Nat} {rest : List Nat} (h : T.drop a = tl (txt (.tuple (.str o :: ds))) ++ rest) (hr : rest = [] ∨ rest.head? = some 41) :
    rdT P T a = some (.tuple (.str o :: ds), a + (txt (.tuple (.str o :: ds))).length) := by
  obtain ⟨s1, s2, s3⟩ := sg_of ho
  have l3 : (tl (" " ++ o ++ " ")).length = 3 := by rw [← len_tl]; exact sep_len ho
  cases ds with
  | nil => simp at h2
  | cons d ds =>
    rw [List.length_cons] at h2
    rw [txt_tup, join_eq, tl_join, List.map_cons, List.map_cons, joinL_flat] at h
    rw [txt_tup, join_eq, len_tl (Str.join _ _), tl_join, List.map_cons, List.map_cons, joinL_flat]
    have h1 : T.drop a = tl (ptx d) ++ (((ds.map ptx).map tl).flatMap (fun x => tl (" " ++ o ++ " ") ++ x) ++ rest) := by rw [h, List.append_assoc]
    have hp := hP d (List.mem_cons_self ..) _ _ h1
    have hd := drop_add h1
    have l4 : (ptx d).length = (tl (ptx d)).length := len_tl _
    unfold rdT
    rw [hp]
    dsimp only
    rw [l4]
    have e : sub T (a + (tl (ptx d)).length) 3 = " " ++ o ++ " " := by
      cases ds with
      | nil => simp at h2
      | cons d2 ds2 =>
        rw [List.map_cons, List.map_cons, List.flatMap_cons] at hd
        have hd' : T.drop (a + (tl (ptx d)).length) = tl (" " ++ o ++ " ") ++ (tl (ptx d2) ++ (((ds2.map ptx).map tl).flatMap (fun x => tl (" " ++ o ++ " ") ++ x) ++ rest)) := by
          rw [hd]; simp only [List.append_assoc]
        have := sub_eq (s := " " ++ o ++ " ") hd' rfl
        rw [l3] at this
        exact this
    rw [e, if_pos s1]
    have fu : ds.length < T.length + 1 - (a + (tl (ptx d)).length) := by
      have hl := congrArg List.length hd
      rw [List.length_drop, List.length_append] at hl
      have := flat_len (S := tl (" " ++ o ++ " ")) (by omega) ((ds.map ptx).map tl)
      rw [List.length_map, List.length_map] at this
      omega
    rw [rdL_txt (sep_len ho) ds _ _ [d] rest (fun x hx => hP x (List.mem_cons_of_mem _ hx)) hd (s3 rest hr) fu]
    dsimp only
    rw [s2, List.length_append]
    simp only [List.singleton_append, Option.some.injEq, Prod.mk.injEq, true_and]
    omega
theorem rdP_txt : ∀ (n : Nat) (d : PyData), 1 ≤ lmeas (n + 1) d → ∀ (T : List Nat) (a : Nat) (rest : List Nat), T.drop a = tl (ptx d) ++ rest → rdP T n a = some (d, a + (ptx d).length)
  | n, d, h, T, a, rest, hd => by
    rcases lmeas_inv h with ⟨x, rfl, hx⟩ | ⟨o, ds, rfl, nl, ho, h2, all1, e⟩
    · have ep : ptx (.str x) = x := by unfold ptx; rw [if_pos (show isLd (.str x) = true from hx), txt_str]
      rw [ep] at hd ⊢
      have es := sub_eq (s := x) hd rfl
      rw [← len_tl, isL_len hx] at es
      rw [isL_len hx]
      cases n with
      | zero => unfold rdP; rw [es, if_pos hx]
      | succ n => unfold rdP; rw [es, if_pos hx]
    · have ep : ptx (.tuple (.str o :: ds)) = "(" ++ txt (.tuple (.str o :: ds)) ++ ")" := by unfold ptx; rw [if_neg (by rw [nl]; decide)]
      cases n with
      | zero =>
        cases ds with
        | nil => simp at h2
        | cons d ds =>
          have := all1 d (List.mem_cons_self ..)
          simp only [lmeas] at this
          omega
      | succ n =>
        rw [ep, tl_par] at hd
        rw [ep, par_len]
        have e1 : sub T a 1 = "(" := sub_eq1 hd
        have nL : ¬ isL (sub T a 1) = true := fun z => isL_nopar z e1
        have hd1 : T.drop (a + 1) = tl (txt (.tuple (.str o :: ds))) ++ (41 :: rest) := by
          have z := drop_add (u := [40]) (v := tl (txt (.tuple (.str o :: ds))) ++ [41] ++ rest) hd
          rw [List.append_assoc] at z
          exact z
        have hT := rdT_txt (n := n) (P := rdP T n) ho h2 (fun d hd b r hb => rdP_txt n d (all1 d hd) T b r hb) hd1 (.inr rfl)
        have hd2 := drop_add hd1
        rw [← len_tl] at hd2
        have e2 : sub T (a + 1 + (txt (.tuple (.str o :: ds))).length) 1 = ")" := sub_eq1 hd2
        unfold rdP
        rw [if_neg nL, if_pos e1, hT]
        dsimp only
        rw [if_neg (fun z => z.elim (fun y => by rw [nl] at y; cases y) (fun y => y e2))]
        simp only [Option.some.injEq, Prod.mk.injEq, true_and]
        omega
theorem prs_txt {d : PyData} (h : tmB d = true) : prs (txt d) = some d := by
  obtain ⟨h1, h2⟩ := (tmB_iff d).mp h
  have fin : rdT (rdP (tl (txt d)) 5) (tl (txt d)) 0 = some (d, (txt d).length) → prs (txt d) = some d := fun e => by
    unfold prs
    rw [e]
    dsimp only
    rw [if_neg (fun z => z.elim (fun y => Nat.lt_irrefl _ y) (fun y => by rw [h] at y; cases y))]
  refine fin ?_
  rcases lmeas_inv h1 with ⟨x, rfl, hx⟩ | ⟨o, ds, rfl, nl, ho, h3, all1, e⟩
  · rw [txt_str]
    have ep : ptx (.str x) = x := by unfold ptx; rw [if_pos (show isLd (.str x) = true from hx), txt_str]
    have l6 : 1 ≤ lmeas 6 (.str x) := by rw [lmeas_up 5 _ h1]; exact h1
    have hp := rdP_txt 5 (.str x) l6 (tl x) 0 [] (by rw [ep, List.append_nil]; rfl)
    rw [ep, Nat.zero_add] at hp
    unfold rdT
    rw [hp]
    dsimp only
    have es : sub (tl x) x.length 3 = "" := by
      refine ext_tl ?_
      rw [tl_sub, len_tl, List.drop_length, List.take_nil]
      rfl
    rw [es, if_neg (by decide +kernel), if_pos (show isLd (.str x) = true from hx)]
  · have hp := rdT_txt (n := 5) (T := tl (txt (.tuple (.str o :: ds)))) (P := rdP (tl (txt (.tuple (.str o :: ds)))) 5) ho h3 (fun d hd b r hb => rdP_txt 5 d (by
      have a4 := all1 d hd
      have a5 : lmeas 5 d = lmeas 4 d := lmeas_up 4 d a4
      have a6 : lmeas 6 d = lmeas 5 d := lmeas_up 5 d (by rw [a5]; exact a4)
      show 1 ≤ lmeas 6 d
      rw [a6, a5]
      exact a4) _ b r hb) (a := 0) (rest := []) (by rw [List.append_nil]; rfl) (.inl rfl)
    rw [hp, Nat.zero_add]
theorem app_ok {x y : Str} (hx : PyData.strOk x = true) (hy : PyData.strOk y = true) : PyData.strOk (x ++ y) = true := by
  unfold PyData.strOk at *
  rw [← Array.all_toList, List.all_eq_true] at *
  intro c hc
  have hc' : c ∈ tl (x ++ y) := hc
  rw [tl_append] at hc'
  rcases List.mem_append.mp hc' with z | z
  · exact hx c z
  · exact hy c z
theorem join_ok {s : Str} (hs : PyData.strOk s = true) : ∀ {l : List Str}, (∀ x ∈ l, PyData.strOk x = true) → PyData.strOk (Str.join s l) = true
  | [], _ => by show PyData.strOk Str.empty = true; decide +kernel
  | [x], h => h x (List.mem_cons_self ..)
  | x :: y :: r, h => app_ok (app_ok (h x (List.mem_cons_self ..)) hs) (join_ok hs fun z hz => h z (List.mem_cons_of_mem _ hz))
theorem txt_ok : ∀ (n : Nat) (d : PyData), 1 ≤ lmeas n d → PyData.strOk (txt d) = true
  | 0, d, h => by simp only [lmeas] at h; omega
  | n + 1, d, h => by
    rcases lmeas_inv h with ⟨x, rfl, hx⟩ | ⟨o, ds, rfl, nl, ho, h2, all1, e⟩
    · rw [txt_str]
      have := isL_gd hx 0
      have z : (PyData.strOk x && decide (x.length ≤ 100000)) = true := this
      rw [Bool.and_eq_true] at z
      exact z.1
    · rw [txt_tup, join_eq]
      refine join_ok ?_ fun x hx => ?_
      · rcases ho with ho | ho <;> subst ho <;> decide +kernel
      · obtain ⟨d, hd, rfl⟩ := List.mem_map.mp hx
        have := txt_ok n d (all1 d hd)
        unfold ptx
        split
        · exact this
        · exact app_ok (app_ok (by decide +kernel) this) (by decide +kernel)
end Fv


namespace Fv
open PySem PySem.Spec PyProof.Rows L2 FvX TL
/-! ### what the program reads as a term is the term's text -/
theorem sub_drop {T : List Nat} {a k : Nat} {s : Str} (h : sub T a k = s) (hl : s.length = k) : T.drop a = tl s ++ T.drop (a + k) := by
  have e : (T.drop a).take k = tl s := by rw [← tl_sub, h]
  rw [← e, ← List.drop_drop, List.take_append_drop]
theorem rdL_sound {T : List Nat} {P : Nat → Option (PyData × Nat)} {G : PyData → Prop} {sg : Str} (hs : sg.length = 3) (hP : ∀ b d e, P b = some (d, e) → T.drop b = tl (ptx d) ++ T.drop e ∧ G d) :
    ∀ (f a : Nat) (acc ds : List PyData) (e : Nat), rdL P T sg f a acc = some (ds, e) →
    ∃ r, ds = acc ++ r ∧ T.drop a = ((r.map ptx).map tl).flatMap (fun x => tl sg ++ x) ++ T.drop e ∧ (∀ d ∈ r, G d) ∧ (sub T a 3 = sg → r ≠ [])
  | 0, a, acc, ds, e, h => by cases h
  | f + 1, a, acc, ds, e, h => by
    unfold rdL at h
    by_cases c : sub T a 3 = sg
    · rw [if_pos c] at h
      cases hp : P (a + 3) with
      | none => rw [hp] at h; cases h
      | some r =>
        obtain ⟨d, e1⟩ := r
        rw [hp] at h
        obtain ⟨r, e2, h1, h2, _⟩ := rdL_sound hs hP f e1 (acc ++ [d]) ds e h
        obtain ⟨h3, h4⟩ := hP _ _ _ hp
        refine ⟨d :: r, by rw [e2, List.append_assoc]; rfl, ?_, fun x hx => ?_, fun _ z => by cases z⟩
        · rw [sub_drop c hs, h3, h1, List.map_cons, List.map_cons, List.flatMap_cons]
          simp only [List.append_assoc]
        · rcases List.mem_cons.mp hx with z | z
          · rw [z]; exact h4
          · exact h2 x z
    · rw [if_neg c] at h
      cases h
      exact ⟨[], by rw [List.append_nil], by simp, (fun x hx => nomatch hx), fun z => absurd z c⟩
theorem sgn_sg {s : Str} (h : isSg s) : s = " " ++ sgn s ++ " " ∧ (sgn s = "&" ∨ sgn s = "|") := by
  rcases h with h | h <;> subst h
  · exact ⟨by decide +kernel, .inl (by decide +kernel)⟩
  · exact ⟨by decide +kernel, .inr (by decide +kernel)⟩
theorem lmeas_make {n : Nat} {o : Str} {ds : List PyData} (ho : o = "&" ∨ o = "|") (h2 : 2 ≤ ds.length) (h : ∀ d ∈ ds, 1 ≤ lmeas n d) : 1 ≤ lmeas (n + 1) (.tuple (.str o :: ds)) := by
  have hop : isOp (.str o) = true := by rcases ho with ho | ho <;> subst ho <;> decide +kernel
  have hc : isCd (.tuple (.str o :: ds)) = true := by
    show (decide (2 ≤ ds.length) && isOp (.str o)) = true
    rw [hop, decide_eq_true h2]; rfl
  have e : lmeas (n + 1) (.tuple (.str o :: ds)) = if isCd (.tuple (.str o :: ds)) = true then (if (0 : Int) ∈ ds.map (lmeas n) then 0 else (ds.map (lmeas n)).sum) else 0 := by
    show (if isLd (.tuple (.str o :: ds)) = true then (1 : Int) else _) = _
    rw [if_neg (fun z => by cases z)]
    rfl
  have n0 : ¬ (0 : Int) ∈ ds.map (lmeas n) := fun z => by
    obtain ⟨d, hd, e0⟩ := List.mem_map.mp z
    have := h d hd
    omega
  rw [e, if_pos hc, if_neg n0]
  cases ds with
  | nil => simp at h2
  | cons d ds =>
    rw [List.map_cons, List.sum_cons]
    have := h d (List.mem_cons_self ..)
    have := sum_nonneg (l := ds.map (lmeas n)) fun y hy => by
      obtain ⟨d', _, rfl⟩ := List.mem_map.mp hy
      exact lmeas_nonneg n d'
    omega
theorem rdT_sound {T : List Nat} {n : Nat} {P : Nat → Option (PyData × Nat)} (hP : ∀ b d e, P b = some (d, e) → T.drop b = tl (ptx d) ++ T.drop e ∧ 1 ≤ lmeas (n + 1) d) {a : Nat} {d : PyData} {e : Nat} (h : rdT P T a = some (d, e)) :
    T.drop a = tl (txt d) ++ T.drop e ∧ 1 ≤ lmeas (n + 2) d := by
  unfold rdT at h
  cases hp : P a with
  | none => rw [hp] at h; cases h
  | some r =>
    obtain ⟨d1, e1⟩ := r
    rw [hp] at h
    dsimp only at h
    obtain ⟨h1, h2⟩ := hP _ _ _ hp
    by_cases c : isSg (sub T e1 3)
    · rw [if_pos c] at h
      cases hr : rdL P T (sub T e1 3) (T.length + 1 - e1) e1 [d1] with
      | none => rw [hr] at h; cases h
      | some r =>
        obtain ⟨ds, e2⟩ := r
        rw [hr] at h
        cases h
        obtain ⟨r, er, h3, h4, h5⟩ := rdL_sound (G := fun d => 1 ≤ lmeas (n + 1) d) (sg_len c) hP _ _ _ _ _ hr
        obtain ⟨g1, g2⟩ := sgn_sg c
        have er' : ds = d1 :: r := er
        subst er'
        have hr1 : 1 ≤ r.length := by
          cases r with
          | nil => exact absurd rfl (h5 rfl)
          | cons _ _ => rw [List.length_cons]; omega
        refine ⟨?_, lmeas_make g2 (by rw [List.length_cons]; omega) fun x hx => ?_⟩
        · rw [txt_tup, join_eq, tl_join, List.map_cons, List.map_cons, joinL_flat, ← g1, h1, h3, List.append_assoc]
        · rcases List.mem_cons.mp hx with z | z
          · rw [z]; exact h2
          · exact h4 x z
    · rw [if_neg c] at h
      by_cases c2 : isLd d1 = true
      · rw [if_pos c2] at h
        cases h
        have ep : ptx d = txt d := by unfold ptx; rw [if_pos c2]
        rw [ep] at h1
        exact ⟨h1, by rw [lmeas_up _ _ h2]; exact h2⟩
      · rw [if_neg c2] at h; cases h
theorem rdP_sound {T : List Nat} : ∀ (n b : Nat) (d : PyData) (e : Nat), rdP T n b = some (d, e) → T.drop b = tl (ptx d) ++ T.drop e ∧ 1 ≤ lmeas (n + 1) d
  | n, b, d, e, h => by
    have lett : isL (sub T b 1) = true → some (PyData.str (sub T b 1), b + 1) = some (d, e) → T.drop b = tl (ptx d) ++ T.drop e ∧ 1 ≤ lmeas (n + 1) d := fun c h => by
      cases h
      have ep : ptx (.str (sub T b 1)) = sub T b 1 := by unfold ptx; rw [if_pos (show isLd (.str (sub T b 1)) = true from c), txt_str]
      refine ⟨by rw [ep]; exact sub_drop rfl (isL_len c), ?_⟩
      show 1 ≤ (if isL (sub T b 1) = true then (1 : Int) else _)
      rw [if_pos c]
      decide
    cases n with
    | zero =>
      unfold rdP at h
      by_cases c : isL (sub T b 1) = true
      · rw [if_pos c] at h; exact lett c h
      · rw [if_neg c] at h; cases h
    | succ n =>
      unfold rdP at h
      by_cases c : isL (sub T b 1) = true
      · rw [if_pos c] at h; exact lett c h
      · rw [if_neg c] at h
        by_cases c2 : sub T b 1 = "("
        · rw [if_pos c2] at h
          cases hr : rdT (rdP T n) T (b + 1) with
          | none => rw [hr] at h; cases h
          | some r =>
            obtain ⟨d1, e1⟩ := r
            rw [hr] at h
            dsimp only at h
            by_cases c3 : isLd d1 = true ∨ sub T e1 1 ≠ ")"
            · rw [if_pos c3] at h; cases h
            · rw [if_neg c3] at h
              cases h
              have c4 : sub T e1 1 = ")" := Classical.not_not.mp fun z => c3 (.inr z)
              have c5 : ¬ isLd d = true := fun z => c3 (.inl z)
              obtain ⟨h1, h2⟩ := rdT_sound (n := n) (rdP_sound n) hr
              have ep : ptx d = "(" ++ txt d ++ ")" := by unfold ptx; rw [if_neg c5]
              refine ⟨?_, h2⟩
              rw [ep, tl_par, sub_drop c2 (by decide +kernel), h1, sub_drop c4 (by decide +kernel)]
              show [40] ++ (tl (txt d) ++ ([41] ++ _)) = 40 :: (tl (txt d) ++ [41]) ++ _
              simp only [List.append_assoc, List.singleton_append, List.cons_append, List.nil_append]
        · rw [if_neg c2] at h; cases h
theorem prs_sound {x : Str} {d : PyData} (h : prs x = some d) : x = txt d ∧ tmB d = true := by
  unfold prs at h
  cases hr : rdT (rdP (tl x) 5) (tl x) 0 with
  | none => rw [hr] at h; cases h
  | some r =>
    obtain ⟨d1, e⟩ := r
    rw [hr] at h
    dsimp only at h
    by_cases c : e < x.length ∨ tmB d1 = false
    · rw [if_pos c] at h; cases h
    · rw [if_neg c] at h
      cases h
      obtain ⟨h1, _⟩ := rdT_sound (n := 5) (rdP_sound 5) hr
      have he : (tl x).drop e = [] := List.drop_of_length_le (by
        have : ¬ e < x.length := fun z => c (.inl z)
        rw [len_tl] at this
        omega)
      rw [he, List.append_nil, List.drop_zero] at h1
      refine ⟨ext_tl h1, ?_⟩
      cases ht : tmB d with
      | true => rfl
      | false => exact absurd (.inr ht) c
/-- parse_term reads the texts of terms, and nothing else -/
theorem prs_iff {x : Str} {d : PyData} : prs x = some d ↔ x = txt d ∧ tmB d = true := ⟨prs_sound, fun ⟨e, h⟩ => by rw [e]; exact prs_txt h⟩
end Fv


namespace Fv
open PySem PySem.Spec PyProof.Rows L2 FvX TL
/-! ### the law's own reading: pieces at level 0, over code points -/
def dl (c : Nat) : Int := (if c = 40 then 1 else 0) - (if c = 41 then 1 else 0)
def scn : List Nat → Int → List (List Nat) → List Nat → List Nat → Option (Int × List (List Nat) × List Nat)
  | [], lv, ps, cur, sg => some (lv, ps ++ [cur], sg)
  | c :: r, lv, ps, cur, sg => if lv = 0 ∧ isSg (sub (c :: r) 0 3) then scn (r.drop 2) lv (ps ++ [cur]) [] (sg ++ [r.headD 0])
    else if lv + dl c < 0 then none else scn r (lv + dl c) ps (cur ++ [c]) sg
termination_by R => R.length
decreasing_by
  · simp only [List.length_drop, List.length_cons]; omega
  · simp only [List.length_cons]; omega
theorem scn_nil (lv : Int) (ps : List (List Nat)) (cur sg : List Nat) : scn [] lv ps cur sg = some (lv, ps ++ [cur], sg) := by unfold scn; rfl
theorem scn_cons (c : Nat) (r : List Nat) (lv : Int) (ps : List (List Nat)) (cur sg : List Nat) : scn (c :: r) lv ps cur sg = if lv = 0 ∧ isSg (sub (c :: r) 0 3) then scn (r.drop 2) lv (ps ++ [cur]) [] (sg ++ [r.headD 0])
    else if lv + dl c < 0 then none else scn r (lv + dl c) ps (cur ++ [c]) sg := by
  rw [scn]
theorem sg_codes {s : Str} (h : isSg s) : tl s = [32, 38, 32] ∨ tl s = [32, 124, 32] := by
  rcases h with h | h <;> subst h
  · exact .inl (by decide +kernel)
  · exact .inr (by decide +kernel)
theorem sg_head {R : List Nat} (h : isSg (sub R 0 3)) : ∃ s r, R = 32 :: s :: 32 :: r ∧ (s = 38 ∨ s = 124) := by
  have e : tl (sub R 0 3) = R.take 3 := by rw [tl_sub, List.drop_zero]
  have key : ∀ s : Nat, R.take 3 = [32, s, 32] → ∃ r, R = 32 :: s :: 32 :: r := fun s z => by
    refine ⟨R.drop 3, ?_⟩
    have := List.take_append_drop 3 R
    rw [z] at this
    exact this.symm
  rcases sg_codes h with z | z
  · obtain ⟨r, hr⟩ := key 38 (e.symm.trans z)
    exact ⟨38, r, hr, .inl rfl⟩
  · obtain ⟨r, hr⟩ := key 124 (e.symm.trans z)
    exact ⟨124, r, hr, .inr rfl⟩
theorem scn_sound : ∀ (n : Nat) (R : List Nat), R.length ≤ n → ∀ (lv : Int) (ps : List (List Nat)) (cur sg : List Nat) (lv' : Int) (ps' : List (List Nat)) (sg' : List Nat), scn R lv ps cur sg = some (lv', ps', sg') →
    ∃ (q : List Nat) (l : List (Nat × List Nat)), ps' = ps ++ (cur ++ q) :: l.map (·.2) ∧ sg' = sg ++ l.map (·.1) ∧ R = q ++ l.flatMap (fun t => [32, t.1, 32] ++ t.2) ∧ ∀ t ∈ l, t.1 = 38 ∨ t.1 = 124
  | n, [], _, lv, ps, cur, sg, lv', ps', sg', h => by
    rw [scn_nil] at h
    cases h
    exact ⟨[], [], by simp, by simp, rfl, fun t ht => nomatch ht⟩
  | 0, c :: r, hn, _, _, _, _, _, _, _, _ => by simp at hn
  | n + 1, c :: r, hn, lv, ps, cur, sg, lv', ps', sg', h => by
    rw [List.length_cons] at hn
    rw [scn_cons] at h
    by_cases k : lv = 0 ∧ isSg (sub (c :: r) 0 3)
    · rw [if_pos k] at h
      obtain ⟨s, r', er, hs⟩ := sg_head k.2
      cases er
      have h' : scn r' lv (ps ++ [cur]) [] (sg ++ [s]) = some (lv', ps', sg') := h
      obtain ⟨q, l, e1, e2, e3, e4⟩ := scn_sound n r' (by simp only [List.length_cons] at hn; omega) _ _ _ _ _ _ _ h'
      refine ⟨[], (s, q) :: l, ?_, ?_, ?_, fun t ht => ?_⟩
      · rw [e1]; simp
      · rw [e2]; simp
      · rw [e3]; simp
      · rcases List.mem_cons.mp ht with z | z
        · rw [z]; exact hs
        · exact e4 t z
    · rw [if_neg k] at h
      by_cases k2 : lv + dl c < 0
      · rw [if_pos k2] at h; cases h
      · rw [if_neg k2] at h
        obtain ⟨q, l, e1, e2, e3, e4⟩ := scn_sound n r (by omega) _ _ _ _ _ _ _ h
        refine ⟨c :: q, l, ?_, e2, ?_, e4⟩
        · rw [e1]; simp
        · rw [e3]; simp
/-! a sign of no weight -/
theorem scn_quiet {c : Nat} {r : List Nat} {lv : Int} {ps : List (List Nat)} {cur sg : List Nat} (h0 : 0 ≤ lv) (h1 : c ≠ 40) (h2 : c ≠ 41) (h : 1 ≤ lv ∨ c ≠ 32) : scn (c :: r) lv ps cur sg = scn r lv ps (cur ++ [c]) sg := by
  have nk : ¬ (lv = 0 ∧ isSg (sub (c :: r) 0 3)) := fun z => by
    obtain ⟨s, r', er, _⟩ := sg_head z.2
    cases er
    rcases h with h | h
    · omega
    · exact h rfl
  have e : dl c = 0 := by unfold dl; rw [if_neg h1, if_neg h2]; rfl
  rw [scn_cons, if_neg nk, e, Int.add_zero, if_neg (by omega)]
theorem scn_open {r : List Nat} {lv : Int} {ps : List (List Nat)} {cur sg : List Nat} (h0 : 0 ≤ lv) : scn (40 :: r) lv ps cur sg = scn r (lv + 1) ps (cur ++ [40]) sg := by
  have nk : ¬ (lv = 0 ∧ isSg (sub (40 :: r) 0 3)) := fun z => by
    obtain ⟨s, r', er, _⟩ := sg_head z.2
    cases er
  have e : dl 40 = 1 := by decide
  rw [scn_cons, if_neg nk, e, if_neg (by omega)]
theorem scn_close {r : List Nat} {lv : Int} {ps : List (List Nat)} {cur sg : List Nat} (h0 : 1 ≤ lv) : scn (41 :: r) lv ps cur sg = scn r (lv - 1) ps (cur ++ [41]) sg := by
  have nk : ¬ (lv = 0 ∧ isSg (sub (41 :: r) 0 3)) := fun z => by omega
  have e : dl 41 = -1 := by decide
  rw [scn_cons, if_neg nk, e, if_neg (by omega)]
  rfl
theorem isL_code {x : Str} (h : isL x = true) : ∃ c, tl x = [c] ∧ c ≠ 40 ∧ c ≠ 41 ∧ c ≠ 32 := by
  have all : ∀ x ∈ (["a", "b", "c", "d", "e", "f", "g", "h"] : List Str), ∃ c ∈ ([97, 98, 99, 100, 101, 102, 103, 104] : List Nat), tl x = [c] := by decide +kernel
  obtain ⟨c, hc, e⟩ := all x (isL_one h)
  have ne : ∀ c ∈ ([97, 98, 99, 100, 101, 102, 103, 104] : List Nat), c ≠ 40 ∧ c ≠ 41 ∧ c ≠ 32 := by decide
  exact ⟨c, e, ne c hc⟩
theorem op_code {o : Str} (h : o = "&" ∨ o = "|") : ∃ s, tl (" " ++ o ++ " ") = [32, s, 32] ∧ tl o = [s] ∧ (s = 38 ∨ s = 124) := by
  rcases h with h | h <;> subst h
  · exact ⟨38, by decide +kernel, by decide +kernel, .inl rfl⟩
  · exact ⟨124, by decide +kernel, by decide +kernel, .inr rfl⟩
/-- inside of parentheses nothing is cut -/
theorem scn_flat {s : Nat} (hs : s = 38 ∨ s = 124) : ∀ (l : List (List Nat)), (∀ u ∈ l, ∀ R (lv : Int) ps cur sg, 1 ≤ lv → scn (u ++ R) lv ps cur sg = scn R lv ps (cur ++ u) sg) → ∀ R (lv : Int) ps cur sg, 1 ≤ lv →
    scn (l.flatMap (fun x => [32, s, 32] ++ x) ++ R) lv ps cur sg = scn R lv ps (cur ++ l.flatMap (fun x => [32, s, 32] ++ x)) sg
  | [], _, R, lv, ps, cur, sg, _ => by simp
  | u :: l, h, R, lv, ps, cur, sg, h1 => by
    have e : (u :: l).flatMap (fun x => [32, s, 32] ++ x) ++ R = 32 :: s :: 32 :: (u ++ (l.flatMap (fun x => [32, s, 32] ++ x) ++ R)) := by simp
    rw [e, scn_quiet (by omega) (by decide) (by decide) (.inl h1), scn_quiet (by omega) (by omega) (by omega) (.inl h1), scn_quiet (by omega) (by decide) (by decide) (.inl h1), h u (List.mem_cons_self ..) _ _ _ _ _ h1,
      scn_flat hs l (fun x hx => h x (List.mem_cons_of_mem _ hx)) R lv ps _ sg h1]
    simp
theorem scn_txt : ∀ (n : Nat) (d : PyData), 1 ≤ lmeas n d → (∀ R (lv : Int) ps cur sg, 1 ≤ lv → scn (tl (txt d) ++ R) lv ps cur sg = scn R lv ps (cur ++ tl (txt d)) sg) ∧ (∀ R (lv : Int) ps cur sg, 0 ≤ lv → scn (tl (ptx d) ++ R) lv ps cur sg = scn R lv ps (cur ++ tl (ptx d)) sg)
  | 0, d, h => by simp only [lmeas] at h; omega
  | n + 1, d, h => by
    have par : isLd d = false → (∀ R (lv : Int) ps cur sg, 1 ≤ lv → scn (tl (txt d) ++ R) lv ps cur sg = scn R lv ps (cur ++ tl (txt d)) sg) → ∀ R (lv : Int) ps cur sg, 0 ≤ lv → scn (tl (ptx d) ++ R) lv ps cur sg = scn R lv ps (cur ++ tl (ptx d)) sg := fun nl ht R lv ps cur sg h0 => by
      have ep : ptx d = "(" ++ txt d ++ ")" := by unfold ptx; rw [if_neg (by rw [nl]; decide)]
      rw [ep, tl_par, List.cons_append, List.append_assoc, scn_open h0, ht _ _ _ _ _ (by omega), List.singleton_append, scn_close (by omega), Int.add_sub_cancel]
      simp
    rcases lmeas_inv h with ⟨x, rfl, hx⟩ | ⟨o, ds, rfl, nl, ho, h2, all1, e⟩
    · obtain ⟨c, ec, c1, c2, c3⟩ := isL_code hx
      have ep : ptx (.str x) = x := by unfold ptx; rw [if_pos (show isLd (.str x) = true from hx), txt_str]
      rw [ep, txt_str, ec]
      exact ⟨fun R lv ps cur sg h1 => scn_quiet (by omega) c1 c2 (.inr c3), fun R lv ps cur sg h1 => scn_quiet h1 c1 c2 (.inr c3)⟩
    · have ht : ∀ R (lv : Int) ps cur sg, 1 ≤ lv → scn (tl (txt (.tuple (.str o :: ds))) ++ R) lv ps cur sg = scn R lv ps (cur ++ tl (txt (.tuple (.str o :: ds)))) sg := fun R lv ps cur sg h1 => by
        obtain ⟨s, e1, e2, e3⟩ := op_code ho
        cases ds with
        | nil => simp at h2
        | cons d ds =>
          rw [txt_tup, join_eq, tl_join, List.map_cons, List.map_cons, joinL_flat, e1, List.append_assoc, (scn_txt n d (all1 d (List.mem_cons_self ..))).2 _ _ _ _ _ (by omega),
            scn_flat e3 _ (fun u hu R lv ps cur sg h1 => ?_) R lv ps _ sg h1, List.append_assoc]
          obtain ⟨y, hy, rfl⟩ := List.mem_map.mp hu
          obtain ⟨d', hd', rfl⟩ := List.mem_map.mp hy
          exact (scn_txt n d' (all1 d' (List.mem_cons_of_mem _ hd'))).2 R lv ps cur sg (by omega)
      exact ⟨ht, par nl ht⟩
/-- at level 0 the text of a term falls into its parts -/
theorem scn_cut {s : Nat} (hs : s = 38 ∨ s = 124) : ∀ (l : List (List Nat)), (∀ u ∈ l, ∀ R (lv : Int) ps cur sg, 0 ≤ lv → scn (u ++ R) lv ps cur sg = scn R lv ps (cur ++ u) sg) → ∀ ps cur sg,
    scn (l.flatMap (fun x => [32, s, 32] ++ x)) 0 ps cur sg = some (0, ps ++ cur :: l, sg ++ List.replicate l.length s)
  | [], _, ps, cur, sg => by
    show scn [] 0 ps cur sg = _
    rw [scn_nil]
    simp
  | u :: l, h, ps, cur, sg => by
    have e : (u :: l).flatMap (fun x => [32, s, 32] ++ x) = 32 :: s :: 32 :: (u ++ l.flatMap (fun x => [32, s, 32] ++ x)) := by simp
    have k : (0 : Int) = 0 ∧ isSg (sub (32 :: s :: 32 :: (u ++ l.flatMap (fun x => [32, s, 32] ++ x))) 0 3) := ⟨rfl, by
      rcases hs with hs | hs <;> subst hs
      · exact .inl (ext_tl (by rw [tl_sub]; rfl))
      · exact .inr (ext_tl (by rw [tl_sub]; rfl))⟩
    rw [e, scn_cons, if_pos k]
    show scn (u ++ l.flatMap (fun x => [32, s, 32] ++ x)) 0 (ps ++ [cur]) [] (sg ++ [s]) = _
    rw [h u (List.mem_cons_self ..) _ _ _ _ _ (Int.le_refl _), List.nil_append, scn_cut hs l (fun x hx => h x (List.mem_cons_of_mem _ hx))]
    simp [List.replicate_succ]
theorem scn_term {n : Nat} {o : Str} {ds : List PyData} (ho : o = "&" ∨ o = "|") (h2 : 2 ≤ ds.length) (all1 : ∀ x ∈ ds, 1 ≤ lmeas n x) :
    ∃ s, tl o = [s] ∧ scn (tl (txt (.tuple (.str o :: ds)))) 0 [] [] [] = some (0, (ds.map ptx).map tl, List.replicate (ds.length - 1) s) := by
  obtain ⟨s, e1, e2, e3⟩ := op_code ho
  refine ⟨s, e2, ?_⟩
  cases ds with
  | nil => simp at h2
  | cons d ds =>
    rw [txt_tup, join_eq, tl_join, List.map_cons, List.map_cons, joinL_flat, e1, (scn_txt n d (all1 d (List.mem_cons_self ..))).2 _ _ _ _ _ (Int.le_refl _), List.nil_append,
      scn_cut e3 _ (fun u hu R lv ps cur sg h0 => ?_)]
    · simp
    · obtain ⟨y, hy, rfl⟩ := List.mem_map.mp hu
      obtain ⟨d', hd', rfl⟩ := List.mem_map.mp hy
      exact (scn_txt n d' (all1 d' (List.mem_cons_of_mem _ hd'))).2 R lv ps cur sg h0
end Fv


namespace Fv
open PySem PySem.Spec PyProof.Rows L2 FvX TL
/-! ### the law's own reading, and that it agrees with the program's -/
def lrP (f : List Nat → Option PyData) (T : List Nat) : Option PyData :=
  if T.length = 1 then f T else if T.take 1 ≠ [40] ∨ T.drop (T.length - 1) ≠ [41] ∨ T.length < 4 then none else f ((T.drop 1).take (T.length - 2))
def lrL (T : List Nat) : Option PyData := if isL ⟨T.toArray⟩ = true then some (.str ⟨T.toArray⟩) else none
open Classical in
noncomputable def lrC (f : List Nat → Option PyData) (T : List Nat) : Option PyData := match scn T 0 [] [] [] with
  | none => none
  | some (lv, ps, sg) => if 0 < lv ∨ ps.length < 2 ∨ sg ≠ List.replicate sg.length (sg.headD 0) then none else
    if none ∈ ps.map (lrP f) then none else some (.tuple (.str ⟨#[sg.headD 0]⟩ :: (ps.map (lrP f)).filterMap id))
noncomputable def lrT : Nat → List Nat → Option PyData
  | 0 => fun T => if T.length = 1 then lrL T else none
  | n + 1 => fun T => if T.length = 1 then lrL T else if n = 0 then none else lrC (lrT n) T
theorem lrT_one {n : Nat} {T : List Nat} (h : T.length = 1) : lrT n T = lrL T := by
  cases n <;> (unfold lrT; rw [if_pos h])
theorem lrL_some {T : List Nat} {d : PyData} (h : lrL T = some d) : isLd d = true ∧ T = tl (txt d) ∧ T = tl (ptx d) ∧ ∀ n, 1 ≤ lmeas (n + 1) d := by
  unfold lrL at h
  by_cases c : isL ⟨T.toArray⟩ = true
  · rw [if_pos c] at h
    cases h
    have e : isLd (.str ⟨T.toArray⟩) = true := c
    refine ⟨e, by rw [txt_str], by unfold ptx; rw [if_pos e, txt_str], fun n => ?_⟩
    show 1 ≤ (if isL ⟨T.toArray⟩ = true then (1 : Int) else _)
    rw [if_pos c]; decide
  · rw [if_neg c] at h; cases h
theorem mid_eq {T : List Nat} (h1 : T.take 1 = [40]) (h2 : T.drop (T.length - 1) = [41]) (h4 : 4 ≤ T.length) : T = 40 :: ((T.drop 1).take (T.length - 2) ++ [41]) := by
  have a := List.take_append_drop 1 T
  have b := List.take_append_drop (T.length - 2) (T.drop 1)
  rw [List.drop_drop, show 1 + (T.length - 2) = T.length - 1 by omega, h2] at b
  rw [b, h1] at *
  exact a.symm
theorem inner_sound {f : List Nat → Option PyData} {G : PyData → Prop} (hf : ∀ p d, f p = some d → p = tl (ptx d) ∧ G d) : ∀ ps : List (List Nat), none ∉ ps.map f → ((((ps.map f).filterMap id).map ptx).map tl = ps ∧ ∀ d ∈ (ps.map f).filterMap id, G d)
  | [], _ => ⟨rfl, fun d hd => nomatch hd⟩
  | p :: ps, h => by
    rw [List.map_cons, List.mem_cons, not_or] at h
    obtain ⟨h1, h2⟩ := inner_sound hf ps h.2
    cases hp : f p with
    | none => exact absurd hp.symm h.1
    | some d =>
      obtain ⟨g1, g2⟩ := hf p d hp
      rw [List.map_cons, hp]
      refine ⟨?_, fun x hx => ?_⟩
      · show tl (ptx d) :: _ = _
        rw [h1, ← g1]
      · rcases List.mem_cons.mp hx with z | z
        · rw [z]; exact g2
        · exact h2 x z
theorem lrT_sound : ∀ (n : Nat) (T : List Nat) (d : PyData), lrT (n + 1) T = some d → T = tl (txt d) ∧ 1 ≤ lmeas (n + 1) d
  | n, T, d, h => by
    by_cases c : T.length = 1
    · rw [lrT_one c] at h
      obtain ⟨_, h2, _, h4⟩ := lrL_some h
      exact ⟨h2, h4 n⟩
    · cases n with
      | zero =>
        unfold lrT at h
        rw [if_neg c, if_pos rfl] at h
        cases h
      | succ n =>
        unfold lrT at h
        rw [if_neg c, if_neg (by omega)] at h
        unfold lrC at h
        cases hs : scn T 0 [] [] [] with
        | none => rw [hs] at h; cases h
        | some r =>
          obtain ⟨lv, ps, sg⟩ := r
          rw [hs] at h
          dsimp only at h
          by_cases k1 : 0 < lv ∨ ps.length < 2 ∨ sg ≠ List.replicate sg.length (sg.headD 0)
          · rw [if_pos k1] at h; cases h
          · rw [if_neg k1] at h
            by_cases k2 : none ∈ ps.map (lrP (lrT (n + 1)))
            · rw [if_pos k2] at h; cases h
            · rw [if_neg k2] at h
              have k3 : ¬ ps.length < 2 := fun z => k1 (.inr (.inl z))
              have k4 : sg = List.replicate sg.length (sg.headD 0) := Classical.not_not.mp fun z => k1 (.inr (.inr z))
              have hf : ∀ p d, lrP (lrT (n + 1)) p = some d → p = tl (ptx d) ∧ 1 ≤ lmeas (n + 1) d := fun p d hp => by
                unfold lrP at hp
                by_cases j : p.length = 1
                · rw [if_pos j, lrT_one j] at hp
                  obtain ⟨_, _, h3, h4⟩ := lrL_some hp
                  exact ⟨h3, h4 n⟩
                · rw [if_neg j] at hp
                  by_cases j2 : p.take 1 ≠ [40] ∨ p.drop (p.length - 1) ≠ [41] ∨ p.length < 4
                  · rw [if_pos j2] at hp; cases hp
                  · rw [if_neg j2] at hp
                    have j3 : p.take 1 = [40] := Classical.not_not.mp fun z => j2 (.inl z)
                    have j4 : p.drop (p.length - 1) = [41] := Classical.not_not.mp fun z => j2 (.inr (.inl z))
                    have j5 : ¬ p.length < 4 := fun z => j2 (.inr (.inr z))
                    obtain ⟨g1, g2⟩ := lrT_sound n _ _ hp
                    have ml : ((p.drop 1).take (p.length - 2)).length = p.length - 2 := by rw [List.length_take, List.length_drop]; omega
                    have nl : ¬ isLd d = true := fun z => by
                      cases d with
                      | str x =>
                        rw [g1, txt_str, ← len_tl, isL_len z] at ml
                        omega
                      | _ => cases z
                    refine ⟨?_, g2⟩
                    unfold ptx
                    rw [if_neg nl, tl_par, ← g1]
                    exact mid_eq j3 j4 (by omega)
              obtain ⟨e1, e2⟩ := inner_sound hf ps k2
              obtain ⟨q, l, a1, a2, a3, a4⟩ := scn_sound _ T (Nat.le_refl _) _ _ _ _ _ _ _ hs
              rw [List.nil_append, List.nil_append] at a1
              rw [List.nil_append] at a2
              have ll : 1 ≤ l.length := by
                rw [a1, List.length_cons, List.length_map] at k3
                omega
              have all : ∀ t ∈ l, t.1 = sg.headD 0 := fun t ht => by
                have m : t.1 ∈ sg := by rw [a2]; exact List.mem_map.mpr ⟨t, ht, rfl⟩
                rw [k4] at m
                exact (List.mem_replicate.mp m).2
              obtain ⟨t0, ht0⟩ : ∃ t0, t0 ∈ l := by
                cases l with
                | nil => simp at ll
                | cons t l => exact ⟨t, List.mem_cons_self ..⟩
              have hs0 : sg.headD 0 = 38 ∨ sg.headD 0 = 124 := by rw [← all t0 ht0]; exact a4 t0 ht0
              have ho : ((⟨#[sg.headD 0]⟩ : Str) = "&" ∨ (⟨#[sg.headD 0]⟩ : Str) = "|") := by
                rcases hs0 with z | z <;> rw [z]
                · exact .inl (by decide +kernel)
                · exact .inr (by decide +kernel)
              have hsep : tl (" " ++ (⟨#[sg.headD 0]⟩ : Str) ++ " ") = [32, sg.headD 0, 32] := by rw [tl_append, tl_append]; rfl
              cases h
              have el : ((ps.map (lrP (lrT (n + 1)))).filterMap id).length = ps.length := by
                have := congrArg List.length e1
                rw [List.length_map, List.length_map] at this
                exact this
              refine ⟨?_, lmeas_make ho (by omega) e2⟩
              rw [txt_tup, join_eq, tl_join, e1, hsep, a1, joinL_flat, a3]
              congr 1
              clear a1 a2 a3 e1 e2 el hs k2 k3 k4 hf ll ht0 ho hsep hs0 a4
              induction l with
              | nil => rfl
              | cons t l ih =>
                rw [List.flatMap_cons, List.map_cons, List.flatMap_cons, all t (List.mem_cons_self ..), ih (fun x hx => all x (List.mem_cons_of_mem _ hx))]
theorem txt_len3 {o : Str} {ds : List PyData} (ho : o = "&" ∨ o = "|") (h2 : 2 ≤ ds.length) : 3 ≤ (tl (txt (.tuple (.str o :: ds)))).length := by
  cases ds with
  | nil => simp at h2
  | cons d ds =>
    rw [List.length_cons] at h2
    rw [txt_tup, join_eq, tl_join, List.map_cons, List.map_cons, joinL_len, ← len_tl (" " ++ o ++ " "), sep_len ho, List.length_map, List.length_map]
    omega
theorem lrT_txt : ∀ (n : Nat) (d : PyData), 1 ≤ lmeas n d → lrT n (tl (txt d)) = some d
  | 0, d, h => by simp only [lmeas] at h; omega
  | n + 1, d, h => by
    have lett : ∀ (m : Nat) (x : Str), isL x = true → lrT m (tl x) = some (.str x) := fun m x hx => by
      rw [lrT_one (by rw [← len_tl]; exact isL_len hx)]
      unfold lrL
      rw [mk_tl, if_pos hx]
    rcases lmeas_inv h with ⟨x, rfl, hx⟩ | ⟨o, ds, rfl, nl, ho, h2, all1, e⟩
    · rw [txt_str]; exact lett _ x hx
    · have n0 : n ≠ 0 := fun z => by
        subst z
        cases ds with
        | nil => simp at h2
        | cons d ds =>
          have := all1 d (List.mem_cons_self ..)
          simp only [lmeas] at this
          omega
      have l3 := txt_len3 ho h2
      obtain ⟨s, e1, e2⟩ := scn_term ho h2 all1
      have part : ∀ x ∈ ds, lrP (lrT n) (tl (ptx x)) = some x := fun x hx => by
        have ih := lrT_txt n x (all1 x hx)
        obtain ⟨m, rfl⟩ : ∃ m, n = m + 1 := ⟨n - 1, by omega⟩
        unfold lrP
        rcases lmeas_inv (all1 x hx) with ⟨y, rfl, hy⟩ | ⟨o', ds', rfl, nl', ho', h2', _, _⟩
        · have ep : ptx (.str y) = y := by unfold ptx; rw [if_pos (show isLd (.str y) = true from hy), txt_str]
          rw [ep, if_pos (by rw [← len_tl]; exact isL_len hy)]
          exact lett _ y hy
        · have l3' := txt_len3 ho' h2'
          have ep : ptx (.tuple (.str o' :: ds')) = "(" ++ txt (.tuple (.str o' :: ds')) ++ ")" := by unfold ptx; rw [if_neg (by rw [nl']; decide)]
          rw [ep, tl_par]
          have ll : (40 :: (tl (txt (.tuple (.str o' :: ds'))) ++ [41])).length = (tl (txt (.tuple (.str o' :: ds')))).length + 2 := by simp
          have d1 : (40 :: (tl (txt (.tuple (.str o' :: ds'))) ++ [41])).drop ((40 :: (tl (txt (.tuple (.str o' :: ds'))) ++ [41])).length - 1) = [41] := by
            rw [ll, show (tl (txt (.tuple (.str o' :: ds')))).length + 2 - 1 = (tl (txt (.tuple (.str o' :: ds')))).length + 1 by omega, List.drop_succ_cons, List.drop_left]
          have d2 : ((40 :: (tl (txt (.tuple (.str o' :: ds'))) ++ [41])).drop 1).take ((40 :: (tl (txt (.tuple (.str o' :: ds'))) ++ [41])).length - 2) = tl (txt (.tuple (.str o' :: ds'))) := by
            rw [ll, Nat.add_sub_cancel, List.drop_succ_cons, List.drop_zero, List.take_left]
          rw [if_neg (by rw [ll]; omega), if_neg (fun z => by
            rcases z with z | z | z
            · exact z rfl
            · exact z d1
            · rw [ll] at z; omega), d2]
          exact ih
      have em : ((ds.map ptx).map tl).map (lrP (lrT n)) = ds.map some := by
        rw [List.map_map, List.map_map]
        exact List.map_congr_left part
      unfold lrT
      rw [if_neg (by omega), if_neg n0]
      unfold lrC
      rw [e2]
      dsimp only
      obtain ⟨j, ej⟩ : ∃ j, ds.length - 1 = j + 1 := ⟨ds.length - 2, by omega⟩
      have hh : (List.replicate (ds.length - 1) s).headD 0 = s := by rw [ej, List.replicate_succ]; rfl
      rw [if_neg (fun z => by
        rcases z with z | z | z
        · omega
        · rw [List.length_map, List.length_map] at z; omega
        · rw [hh, List.length_replicate] at z; exact z rfl), em, if_neg (fun z => by
        obtain ⟨x, _, ex⟩ := List.mem_map.mp z
        cases ex), hh]
      have eo : (⟨#[s]⟩ : Str) = o := ext_tl (by rw [e1])
      have ef : (ds.map some).filterMap id = ds := by
        rw [List.filterMap_map]
        exact List.filterMap_some
      rw [eo, ef]
/-- the law's reading of a text -/
noncomputable def lrd (x : Str) : Option PyData := match lrT 5 (tl x) with
  | none => none
  | some d => if lmeas 5 d ≤ 24 then some d else none
theorem lrd_prs (x : Str) : lrd x = prs x := by
  unfold lrd
  cases h : lrT 5 (tl x) with
  | none =>
    cases hp : prs x with
    | none => rfl
    | some d =>
      obtain ⟨e, ht⟩ := prs_sound hp
      rw [e, lrT_txt 5 d ((tmB_iff d).mp ht).1] at h
      cases h
  | some d =>
    obtain ⟨e, h1⟩ := lrT_sound 4 _ _ h
    dsimp only
    have ex : x = txt d := ext_tl e
    by_cases c : lmeas 5 d ≤ 24
    · rw [if_pos c, ex, prs_txt ((tmB_iff d).mpr ⟨h1, c⟩)]
    · rw [if_neg c]
      cases hp : prs x with
      | none => rfl
      | some d' =>
        obtain ⟨e', ht⟩ := prs_sound hp
        have h' := lrT_txt 5 d' ((tmB_iff d').mp ht).1
        rw [← e', h] at h'
        cases h'
        exact absurd ((tmB_iff d).mp ht).2 c
end Fv


namespace Fv
open PySem PySem.Spec PyProof.Rows L2 FvX
-- top 25  slots: 0:_law_ask 1:_law_told 2:_law_word 3:e
abbrev s_law_call : Stmt := topS 25
abbrev N_law_call : List Str := ["_law_ask", "_law_told", "_law_word", "e"]
theorem sc_law_call : FnScope N_law_call ["_law_ask"] (defScope s_law_call) := ⟨rfl, rfl, rfl, by decide +kernel, rfl, by decide +kernel, by decide +kernel⟩

section
variable {X : Cx} {gf CF : Addr} {cdg : Value} {q : Str}
/-- _law_call: what the lambda gives, or the error's code -/
theorem call_gives (hF : X.mg "FaultError" = some (.ref CF)) : GivesS X N_law_call "_law_call" (defScope s_law_call) gf cdg (defBody s_law_call) "_law_ask" q (TCall X.K CF) := by
  intro lf lc s H Q tl act hc h
  refine ⟨_, pss_cons (ps_set (i := 1) sc_law_call.nd rfl (.inl rfl) pe_non) (pss_cons (ps_set (i := 2) sc_law_call.nd rfl (.inl rfl) pe_str)
    (pss_cons (ps_try_first (X := (cxOf C8.CX0 X.prog X.w X.K X.mg X.base N_law_call "_law_call" (defScope s_law_call) gf cdg X.A X.stack s H C8.E0).nox) (i := 3) (c := .ref CF)
      (tb := fun W D σ H => ∃ E : XK, (∀ cls d H', E cls d H' → W cls d σ H') ∧ σ[0]? = some (some (.ref lf)) ∧ H lc = some (LamX.CodeO lc q) ∧ tl E H (fun v H' => D.nx (σ.set 1 (some v)) H'))
      rfl rfl sc_law_call.nd rfl rfl ⟨rfl, by decide, .inl hF⟩ (fun W pn xe tk _ => ?_)
      (fun a oe cls d pn hz hf => pss_one (ps_set (i := 2) sc_law_call.nd rfl (.inl rfl) (pe_errf (i := 3) hz hf (pv 3)))))
    (pss_one (ps_ret (pe_tup (pa_cons (pv 1) (pa_cons (pv 2) pa_nil))))))), ?_⟩
  · refine ⟨fun pins s' σ H' D I hh => ?_⟩
    obtain ⟨E, hW, h1, h2, h3⟩ := hh
    exact (pss_one (ps_set (i := 1) sc_law_call.nd rfl (.inl rfl) (act W pn xe E _ _ tk))).run pins s' σ H' D I ⟨h1, h2, hW, h3⟩
  · refine ⟨fun cls d H' => ∃ (C dd : Addr) (fs : List (Str × V)) (v : V), cls = .ref C ∧ PySem.W.exmOne X.K cls (.ref CF) = some true ∧ XfC X.K C ∧ PySem.W.findIn X.K (.ref C) "code" = some none ∧ d = some dd ∧ H' dd = some (.xd fs) ∧ fs.lookup ("code" : Str) = some v ∧
      ∀ p, H' p = none → Q (.ref p) (upd H' p (.tup [.non, v])), fun cls d H' z => ?_, rfl, hc, h _ _ (fun v H' z => ?_) (fun C dd H' fs v h2 h3 h4 h6 h7 h8 => ⟨C, dd, fs, v, rfl, h2, h3, h4, rfl, h6, h7, h8⟩)⟩
    · obtain ⟨C, dd, fs, v, h1, h2, h3, h4, h5, h6, h7, h8⟩ := z
      refine ⟨h2, fun a na => ⟨rfl, C, dd, fs, v, h1, h3, h4, h5, h6, h7, ?_⟩⟩
      exact ⟨_, rfl, _, rfl, (by show 2 ≤ sizeLine; decide), h8⟩
    · exact ⟨_, rfl, _, rfl, (by show 2 ≤ sizeLine; decide), z⟩
end
end Fv


namespace Fv
open PySem PySem.Spec PyProof.Rows L2 FvX TL
/-! ### text * int -/
def mk (l : List Nat) : Str := ⟨l.toArray⟩
theorem tl_mk (l : List Nat) : tl (mk l) = l := rfl
theorem mk_len (l : List Nat) : (mk l).length = l.length := by rw [len_tl, tl_mk]
def mulS (x : Str) (n : Nat) : Str := ⟨(List.replicate n x.cps).foldl (· ++ ·) #[]⟩
def rMulS : R2 := fun x y H Q => ∃ (z : Str) (n : Nat), x = .str z ∧ y = .int (n : Nat) ∧ 2 ≤ n ∧ n ≤ 1000 ∧ 1 ≤ z.length ∧ z.length ≤ 10 ∧ Q (.str (mulS z n)) H
theorem op_mulS {X : Cx} : OpR X (binaryOp .Mult) rMulS := by
  intro pins s σ H x y v u Q I rx ry h
  obtain ⟨z, n, rfl, rfl, n2, n3, z1, z2, q⟩ := h
  obtain ⟨t, rfl⟩ := rx
  obtain ⟨t', rfl⟩ := ry
  have ok := mulOk_of (x := z) (n := (n : Nat)) 10 1000 z2 (by omega) (by omega) (by decide) (by decide)
  have c : ((((n : Nat) : Int) == 1) || z.length == 0) = false := by
    rw [Bool.or_eq_false_iff]
    exact ⟨beq_eq_false_iff_ne.mpr (by omega), beq_eq_false_iff_ne.mpr (by omega)⟩
  refine P.mul_str ok.1 ok.2.1 ok.2.2 ?_
  rw [if_neg (by omega), if_neg (by rw [c]; decide)]
  refine ⟨?_, ?_⟩
  · show ((List.replicate n z.cps).foldl (· ++ ·) #[]).size ≤ _
    rw [len_reps]
    have : n * z.cps.size ≤ 1000 * 10 := Nat.mul_le_mul n3 z2
    refine Nat.le_trans (?_ : _ ≤ 10000) (by decide)
    simp
    omega
  · exact ⟨.str (mulS z n), H, I.tok _, ⟨_, rfl⟩, q⟩
theorem vs1 {i : Int} {n : Nat} (h : i = (n : Nat)) : [V.int i] = [V.int (n : Nat)] := by rw [h]
theorem lmeas_le {n m : Nat} {d : PyData} (h : 1 ≤ lmeas n d) (hm : n ≤ m) : lmeas m d = lmeas n d := by
  induction hm with
  | refl => rfl
  | step _ ih => rw [lmeas_up _ _ (by rw [ih]; exact h), ih]
/-- a text of few signs -/
def goodT (x : Str) : Prop := x.length ≤ 900 ∧ PyData.strOk x = true
instance (x : Str) : Decidable (goodT x) := inferInstanceAs (Decidable (_ ∧ _))
theorem goodT.gd {x : Str} (h : goodT x) : gd 0 (.str x) = true := by
  show (PyData.strOk x && decide (x.length ≤ 100000)) = true
  rw [h.2, decide_eq_true (Nat.le_trans h.1 (by decide))]; rfl
/-! ### slices of texts -/
theorem cut_pre (z : Str) (n : Nat) : tl (cutS z none (some (n : Int))) = (tl z).take n := by
  show ((z.cps.toList.drop (HT.sIx z.length 0 none)).take (HT.sIx z.length z.length (some (n : Int)) - HT.sIx z.length 0 none)) = _
  rw [HT.sIx_none, HT.sIx_nat, List.drop_zero, Nat.sub_zero]
  have hl : z.length = z.cps.toList.length := len_tl z
  by_cases h : n ≤ z.length
  · rw [Nat.min_eq_left h]
  · rw [Nat.min_eq_right (by omega), List.take_of_length_le (by omega), List.take_of_length_le (show (tl z).length ≤ n by rw [← len_tl]; omega)]
theorem sIx_m1 (n d : Nat) (h : 1 ≤ n) : HT.sIx n d (some (-1)) = n - 1 := by
  show (if (-1 : Int) < 0 then ((-1 : Int) + (n : Int)).toNat else min (-1 : Int).toNat n) = n - 1
  rw [if_pos (by decide)]
  omega
theorem cut_last (z : Str) (h : 1 ≤ z.length) : tl (cutS z (some (-1)) none) = (tl z).drop (z.length - 1) := by
  show ((z.cps.toList.drop (HT.sIx z.length 0 (some (-1)))).take (HT.sIx z.length z.length none - HT.sIx z.length 0 (some (-1)))) = _
  have hl : z.length = z.cps.toList.length := len_tl z
  rw [HT.sIx_none, sIx_m1 _ _ h, List.take_of_length_le (by rw [List.length_drop]; omega)]
theorem cut_mid (z : Str) (h : 1 ≤ z.length) : tl (cutS z (some 1) (some (-1))) = ((tl z).drop 1).take (z.length - 2) := by
  show ((z.cps.toList.drop (HT.sIx z.length 0 (some 1))).take (HT.sIx z.length z.length (some (-1)) - HT.sIx z.length 0 (some 1))) = _
  rw [sIx_m1 _ _ h, show HT.sIx z.length 0 (some 1) = min 1 z.length from HT.sIx_nat _ 0 1, Nat.min_eq_left h, show z.length - 1 - 1 = z.length - 2 by omega]
theorem cut_ok {z : Str} (h : PyData.strOk z = true) (lo hi : Option Int) : PyData.strOk (cutS z lo hi) = true := by
  unfold PyData.strOk at h ⊢
  rw [← Array.all_toList, List.all_eq_true] at h ⊢
  intro c hc
  exact h c (List.mem_of_mem_drop (List.mem_of_mem_take hc))
theorem ok_mk {l : List Nat} {x : Str} (h : PyData.strOk x = true) (s : ∀ c ∈ l, c ∈ tl x) : PyData.strOk (mk l) = true := by
  unfold PyData.strOk at h ⊢
  rw [← Array.all_toList, List.all_eq_true] at h ⊢
  exact fun c hc => h c (s c hc)
/-! ### what has a size is plain data -/
theorem len_le_sum {n : Nat} : ∀ {ds : List PyData}, (∀ d ∈ ds, 1 ≤ lmeas n d) → (ds.length : Int) ≤ (ds.map (lmeas n)).sum
  | [], _ => by simp
  | d :: ds, h => by
    rw [List.length_cons, List.map_cons, List.sum_cons]
    have := h d (List.mem_cons_self ..)
    have := len_le_sum (ds := ds) fun x hx => h x (List.mem_cons_of_mem _ hx)
    omega
theorem gd_lmeas : ∀ (n : Nat) (d : PyData), 1 ≤ lmeas n d → lmeas n d ≤ 990 → gd n d = true
  | 0, d, h, _ => by simp only [lmeas] at h; omega
  | n + 1, d, h, h9 => by
    rcases lmeas_inv h with ⟨x, rfl, hx⟩ | ⟨o, ds, rfl, _, ho, h2, all1, e⟩
    · exact isL_gd hx _
    · rw [e] at h9
      have hl := len_le_sum all1
      refine gd_tup (fun y hy => ?_) (by rw [List.length_cons]; omega)
      rcases List.mem_cons.mp hy with z | z
      · rw [z]
        refine gd_le (n := 0) ?_ (Nat.zero_le _)
        rcases ho with ho | ho <;> subst ho <;> decide +kernel
      · refine gd_lmeas n y (all1 y z) ?_
        have := mem_le_sum (l := ds.map (lmeas n)) (x := lmeas n y) (fun u hu => by
          obtain ⟨d', _, rfl⟩ := List.mem_map.mp hu
          exact lmeas_nonneg n d') (List.mem_map.mpr ⟨y, z, rfl⟩)
        omega
theorem sum_le2 {α : Type} {f : α → Int} {g : α → Nat} : ∀ {l : List α}, (∀ x ∈ l, f x ≤ (g x : Nat)) → (l.map f).sum ≤ (((l.map g).sum : Nat) : Int)
  | [], _ => by simp
  | x :: l, h => by
    rw [List.map_cons, List.map_cons, List.sum_cons, List.sum_cons]
    have := h x (List.mem_cons_self ..)
    have := sum_le2 (l := l) fun y hy => h y (List.mem_cons_of_mem _ hy)
    omega
theorem lmeas_txt : ∀ (n : Nat) (d : PyData), 1 ≤ lmeas n d → lmeas n d ≤ ((txt d).length : Nat)
  | 0, d, h => by simp only [lmeas] at h; omega
  | n + 1, d, h => by
    rcases lmeas_inv h with ⟨x, rfl, hx⟩ | ⟨o, ds, rfl, _, ho, h2, all1, e⟩
    · rw [txt_str, isL_len hx]
      show (if isL x = true then (1 : Int) else _) ≤ _
      rw [if_pos hx]; decide
    · rw [e, txt_tup, join_eq, len_tl, tl_join]
      cases ds with
      | nil => simp at h2
      | cons d0 r =>
        simp only [List.map_cons, List.sum_cons]
        rw [joinL_len, List.map_map, List.map_map]
        have hp : ∀ x ∈ d0 :: r, lmeas n x ≤ ((tl (ptx x)).length : Nat) := fun x hx => by
          have := lmeas_txt n x (all1 x hx)
          rw [← len_tl]
          unfold ptx
          split
          · exact this
          · rw [par_len]; omega
        have h0 := hp d0 (List.mem_cons_self ..)
        have h1 := sum_le2 (f := lmeas n) (g := fun x => (tl (ptx x)).length) (l := r) fun x hx => hp x (List.mem_cons_of_mem _ hx)
        have e3 : (r.map (((fun x => x.length) ∘ tl) ∘ ptx)).sum = (r.map fun x => (tl (ptx x)).length).sum := rfl
        rw [e3]
        generalize (tl (" " ++ o ++ " " : Str)).length * ((r.map ptx).map tl).length = Z
        omega
/-- what the law reads is plain data -/
theorem lrT_gd {n : Nat} {T : List Nat} {d : PyData} (hn : 1 ≤ n) (h : lrT n T = some d) (hT : T.length ≤ 900) : 1 ≤ lmeas n d ∧ lmeas n d ≤ 900 ∧ gd n d = true := by
  obtain ⟨m, rfl⟩ : ∃ m, n = m + 1 := ⟨n - 1, by omega⟩
  obtain ⟨e, h1⟩ := lrT_sound m T d h
  have h2 := lmeas_txt (m + 1) d h1
  rw [len_tl, ← e] at h2
  exact ⟨h1, by omega, gd_lmeas _ d h1 (by omega)⟩
/-! ### the signs of a text: one and the same -/
theorem rep_flat (n : Nat) (c : Nat) : (List.replicate n [c]).flatten = List.replicate n c := by
  induction n with
  | zero => rfl
  | succ n ih => rw [List.replicate_succ, List.flatten_cons, ih, List.replicate_succ]; rfl
theorem sg_rep (sg : List Nat) : (List.replicate sg.length (sg.take 1)).flatten = List.replicate sg.length (sg.headD 0) := by
  cases sg with
  | nil => rfl
  | cons c r =>
    show (List.replicate (c :: r).length [c]).flatten = _
    rw [rep_flat]; rfl
theorem eqv_strs : ∀ (a b : List Nat), PyData.eqvAll (a.map fun c => PyData.str ⟨#[c]⟩) (b.map fun c => PyData.str ⟨#[c]⟩) = decide (a = b)
  | [], [] => by simp [PyData.eqvAll]
  | [], c :: b => by simp [PyData.eqvAll]
  | c :: a, [] => by simp [PyData.eqvAll]
  | c :: a, c' :: b => by
    rw [List.map_cons, List.map_cons]
    simp only [PyData.eqvAll, PyData.eqv, eqv_strs a b]
    by_cases e : c = c'
    · subst e; simp
    · simp [e]
def optD : Option PyData → PyData
  | none => .none
  | some d => d
theorem any_none : ∀ (os : List (Option PyData)), (∀ d, some d ∈ os → d ≠ .none) → (((os.map optD).any fun z => PyData.eqv z .none) = true ↔ none ∈ os)
  | [], _ => by simp
  | o :: os, h => by
    rw [List.map_cons, List.any_cons, Bool.or_eq_true, any_none os fun d hd => h d (List.mem_cons_of_mem _ hd), List.mem_cons]
    cases o with
    | none => simp [optD, PyData.eqv]
    | some d =>
      have hd := h d (List.mem_cons_self ..)
      have e : PyData.eqv d .none = false := by cases d <;> first | rfl | (exact absurd rfl hd) | (simp [PyData.eqv])
      simp [optD, e]
end Fv


namespace Fv
open PySem PySem.Spec PyProof.Rows L2 FvX TL
-- top 27  slots: 0:_law_word 1:_law_one
abbrev s_law_leaves : Stmt := topS 27
abbrev N_law_leaves : List Str := ["_law_word", "_law_one"]
theorem sc_law_leaves : FnScope N_law_leaves ["_law_word"] (defScope s_law_leaves) := ⟨rfl, rfl, rfl, by decide +kernel, rfl, by decide +kernel, by decide +kernel⟩

-- top 32  slots: 0:_law_text_here 1:_law_deep 2:_law_level 3:_law_at 4:_law_pieces 5:_law_signs_here 6:_law_inner 7:_law_one
abbrev s_law_read_term : Stmt := topS 32
abbrev N_law_read_term : List Str := ["_law_text_here", "_law_deep", "_law_level", "_law_at", "_law_pieces", "_law_signs_here", "_law_inner", "_law_one"]
theorem sc_law_read_term : FnScope N_law_read_term ["_law_text_here", "_law_deep"] (defScope s_law_read_term) := ⟨rfl, rfl, rfl, by decide +kernel, rfl, by decide +kernel, by decide +kernel⟩

-- top 33  slots: 0:_law_text_here 1:_law_deep
abbrev s_law_read_piece : Stmt := topS 33
abbrev N_law_read_piece : List Str := ["_law_text_here", "_law_deep"]
theorem sc_law_read_piece : FnScope N_law_read_piece ["_law_text_here", "_law_deep"] (defScope s_law_read_piece) := ⟨rfl, rfl, rfl, by decide +kernel, rfl, by decide +kernel, by decide +kernel⟩

-- top 34  slots: 0:_law_text_here 1:_law_word
abbrev s_law_read : Stmt := topS 34
abbrev N_law_read : List Str := ["_law_text_here", "_law_word"]
theorem sc_law_read : FnScope N_law_read ["_law_text_here"] (defScope s_law_read) := ⟨rfl, rfl, rfl, by decide +kernel, rfl, by decide +kernel, by decide +kernel⟩

def spLeaves (K : PySem.W.Frag) (n : Nat) : Sp := fun vs H Q _ => ∃ (v : V) (d : PyData) (m : Nat), vs = [v] ∧ Dp K H v d ∧ gd 20 d = true ∧ m < n ∧ 1 ≤ lmeas m d ∧ ∀ H', Same H H' → Q (.int (lmeas m d)) H'
def spLR (K : PySem.W.Frag) (g : Nat → List Nat → Option PyData) (n : Nat) : Sp := fun vs H Q _ => ∃ (x : Str) (m : Nat) (M : List Addr), vs = [.str x, .int (m : Nat)] ∧ x.length ≤ 900 ∧ PyData.strOk x = true ∧ m < n ∧ Trk M H ∧
  (∀ d, g m (tl x) = some d → ∀ (H' : Hp) (v : V), Same H H' → Dp K (hide M H') v d → Q v H') ∧ (g m (tl x) = none → ∀ H', Same H H' → Q .non H')
def spLRead (K : PySem.W.Frag) : Sp := fun vs H Q _ => ∃ (x : Str) (M : List Addr), vs = [.str x] ∧ x.length ≤ 900 ∧ PyData.strOk x = true ∧ Trk M H ∧
  (∀ d, prs x = some d → ∀ (H' : Hp) (v : V), Same H H' → Dp K (hide M H') v d → Q v H') ∧ (prs x = none → ∀ H', Same H H' → Q .non H')
theorem vs2 {x : Str} {i : Int} {m : Nat} (h : i = (m : Nat)) : [V.str x, V.int i] = [.str x, .int (m : Nat)] := by rw [h]
theorem in_sgT (s : Str) : (([PyData.str " & ", .str " | "] : List PyData).any fun z => PyData.eqv z (.str s)) = decide (isSg s) := by
  simp only [List.any_cons, List.any_nil, Bool.or_false, PyData.eqv]
  rw [Bool.eq_iff_iff, decide_eq_true_eq, Bool.or_eq_true, beq_iff_eq, beq_iff_eq]
  exact ⟨fun h => h.imp Eq.symm Eq.symm, fun h => h.imp Eq.symm Eq.symm⟩
theorem par_iff (c : Nat) : (decide (V.str (⟨#[c]⟩ : Str) = V.str "(")) = decide (c = 40) ∧ (decide (V.str (⟨#[c]⟩ : Str) = V.str ")")) = decide (c = 41) := by
  have e1 : ("(" : Str) = ⟨#[40]⟩ := by decide +kernel
  have e2 : (")" : Str) = ⟨#[41]⟩ := by decide +kernel
  rw [e1, e2]
  constructor <;> (rw [Bool.eq_iff_iff, decide_eq_true_eq, decide_eq_true_eq]; simp)
theorem dl_eq (lv : Int) (c : Nat) : lv + (if decide (V.str (⟨#[c]⟩ : Str) = V.str "(") = true then 1 else 0) - (if decide (V.str (⟨#[c]⟩ : Str) = V.str ")") = true then 1 else 0) = lv + dl c := by
  rw [(par_iff c).1, (par_iff c).2]
  unfold dl
  simp only [decide_eq_true_eq]
  omega
/-- the pieces of a text -/
theorem piece_in {T : List Nat} {lv : Int} {ps : List (List Nat)} {sg : List Nat} (h : scn T 0 [] [] [] = some (lv, ps, sg)) : (∀ p ∈ ps, p.length ≤ T.length ∧ ∀ c ∈ p, c ∈ T) ∧ ps.length = sg.length + 1 := by
  obtain ⟨q, l, e1, e2, e3, _⟩ := scn_sound _ T (Nat.le_refl _) _ _ _ _ _ _ _ h
  rw [List.nil_append, List.nil_append] at e1
  rw [List.nil_append] at e2
  refine ⟨fun p hp => ?_, by rw [e1, e2, List.length_cons, List.length_map, List.length_map]⟩
  rw [e1] at hp
  rcases List.mem_cons.mp hp with z | z
  · rw [z, e3]
    exact ⟨by rw [List.length_append]; omega, fun c hc => List.mem_append_left _ hc⟩
  · obtain ⟨t, ht, rfl⟩ := List.mem_map.mp z
    obtain ⟨l1, l2, el⟩ := List.append_of_mem ht
    rw [e3, el]
    refine ⟨?_, fun c hc => ?_⟩
    · rw [List.flatMap_append, List.flatMap_cons]
      simp only [List.length_append]
      omega
    · rw [List.flatMap_append, List.flatMap_cons]
      simp only [List.mem_append]
      exact .inr (.inr (.inl (.inr hc)))
theorem lrP_gd {n : Nat} {T : List Nat} {d : PyData} (hn : 1 ≤ n) (h : lrP (lrT n) T = some d) (hT : T.length ≤ 900) : 1 ≤ lmeas n d ∧ gd n d = true := by
  unfold lrP at h
  by_cases c : T.length = 1
  · rw [if_pos c] at h
    have := lrT_gd hn h hT
    exact ⟨this.1, this.2.2⟩
  · rw [if_neg c] at h
    by_cases c2 : T.take 1 ≠ [40] ∨ T.drop (T.length - 1) ≠ [41] ∨ T.length < 4
    · rw [if_pos c2] at h; cases h
    · rw [if_neg c2] at h
      have := lrT_gd hn h (by rw [List.length_take, List.length_drop]; omega)
      exact ⟨this.1, this.2.2⟩
theorem opt_filter : ∀ {os : List (Option PyData)}, none ∉ os → os.map optD = os.filterMap id
  | [], _ => rfl
  | o :: os, h => by
    rw [List.mem_cons, not_or] at h
    cases o with
    | none => exact absurd rfl h.1
    | some d =>
      rw [List.map_cons, opt_filter h.2]
      rfl
theorem dpAll_strs {K : PySem.W.Frag} {H : Hp} : ∀ sg : List Nat, DpAll K H (sg.map fun c => V.str (mk [c])) (sg.map fun c => PyData.str ⟨#[c]⟩)
  | [] => .nil
  | c :: sg => .cons (.str _) (dpAll_strs sg)
theorem strs_gd {sg : List Nat} {x : Str} (hok : PyData.strOk x = true) (h : ∀ c ∈ sg, c ∈ tl x) (hl : sg.length ≤ 1000) : gd 1 (.list (sg.map fun c => PyData.str ⟨#[c]⟩)) = true := by
  refine gd_lst (n := 0) (fun d hd => ?_) (by rw [List.length_map]; exact hl)
  obtain ⟨c, hc, rfl⟩ := List.mem_map.mp hd
  show (PyData.strOk (mk [c]) && decide ((mk [c]).length ≤ 100000)) = true
  rw [ok_mk hok (fun z hz => by rw [List.mem_singleton.mp hz]; exact h c hc)]
  rfl
theorem cutV_take1 (l : List Nat) : cutV (l.map fun c => V.str (mk [c])) none (some 1) = (l.take 1).map fun c => V.str (mk [c]) := by
  rw [cut_take _ (by decide)]
  exact (List.map_take ..).symm
theorem flat_map (n : Nat) (l : List Nat) : (List.replicate n (l.map fun c => V.str (mk [c]))).flatten = ((List.replicate n l).flatten).map fun c => V.str (mk [c]) := by
  induction n with
  | zero => rfl
  | succ n ih => rw [List.replicate_succ, List.flatten_cons, ih, List.replicate_succ, List.flatten_cons, List.map_append]
section
variable {P : Program} {w : World} {K : PySem.W.Frag} {mg : Str → Option Value} {base : Heap}
theorem leaves_zero {f : Addr} {fd : FuncData} {k : Nat} {ps : List Str} : FnOk P w K mg base CX0 k f fd ps (spLeaves K 0) := by
  have no : ∀ vs H Q E, ¬ spLeaves K 0 vs H Q E := fun vs H Q E h => by
    obtain ⟨v, d, m, _, _, _, m1, _⟩ := h
    omega
  exact ⟨fun vs H Q E h => absurd h (no vs H Q E), fun A outer s H args us vs Q E _ _ _ _ h => absurd h (no vs H Q E)⟩
theorem lr_zero {f : Addr} {fd : FuncData} {k : Nat} {ps : List Str} {g : Nat → List Nat → Option PyData} : FnOk P w K mg base CX0 k f fd ps (spLR K g 0) := by
  have no : ∀ vs H Q E, ¬ spLR K g 0 vs H Q E := fun vs H Q E h => by
    obtain ⟨x, m, M, _, _, _, m1, _⟩ := h
    omega
  exact ⟨fun vs H Q E h => absurd h (no vs H Q E), fun A outer s H args us vs Q E _ _ _ _ h => absurd h (no vs H Q E)⟩
theorem ok_leaves {f : Addr} {fd : FuncData} {k n : Nat} (F : Fun K "_law_leaves" "_law_leaves" s_law_leaves f fd) (m_isinstance : mg "isinstance" = none) (m_str : mg "str" = none) (m_sum : mg "sum" = none)
    (C_law_leaves : Own P w K mg base k "_law_leaves" ["_law_word"] (spLeaves K n)) :
    FnOk P w K mg base CX0 (k + 1) f fd ["_law_word"] (spLeaves K (n + 1)) := by
  refine F.ok sc_law_leaves (fun vs H Q E h => ?_) (fun cdv A outer s H vs Q E hr h => ?_)
  · obtain ⟨v, d, m, rfl, _⟩ := h
    rfl
  · obtain ⟨v, d, m, rfl, hd, hg, hm, l1, q⟩ := h
    refine ⟨_, (pss_one (ps_ret (pe_ifExp (pt_val (pe_isD (T := "str") (by rfl) m_isinstance (by rfl) m_str (pv 0))) pe_int (pe_callB (cr_sum rfl) (by rfl) m_sum (by decide +kernel) (pa_cons (pe_lc (own := [("_law_one", 1)]) (g := gName 1) (by rfl) sc_law_leaves.nd (pi_tup (pe_slice sl_tup (pv 0) (po_some pe_int) po_none)) (blkOk_by (own := [("_law_one", 1)]) (N := N_law_leaves) (sc := defScope s_law_leaves) (by decide +kernel)) (fun _ _ _ _ _ => pg_name (i := 1) sc_law_leaves.nd rfl (Or.inl rfl)) (fun _ _ _ _ _ => pts_nil) (fun _ _ _ _ _ => (pe_own C_law_leaves (hr.mono (by omega)) (by rfl) (pa_cons (pv 1) pa_nil)))) pa_nil))))), ?_⟩
    cases m with
    | zero => simp only [lmeas] at l1; omega
    | succ m =>
    rcases lmeas_inv l1 with ⟨x, rfl, hx⟩ | ⟨o, ds, rfl, nl, ho, h2, all1, e⟩
    · cases hd
      have q' := q H (Same.refl H)
      have e1 : lmeas (m + 1) (.str x) = 1 := by
        show (if isL x = true then (1 : Int) else _) = 1
        rw [if_pos hx]
      rw [e1] at q'
      exact ⟨_, rfl, _, _, _, rfl, by decide, .str x, _, rfl, iteT q'⟩
    · cases hd with
      | @tup a xs _ hs ha =>
        cases ha with
        | @cons x0 xr _ _ h1 hA =>
        cases h1
        have hl := dpAll_len hA
        refine ⟨_, rfl, _, _, .tuple (.str o :: ds), rfl, by decide, .tup hs (.cons (.str o) hA), _, rfl, iteF ?_⟩
        refine ⟨_, rfl, 1, rfl, a, _, rfl, hs, ?_, fun p np => ?_⟩
        · rw [show HT.sIx (V.str o :: xr).length 0 (some 1) = min 1 (V.str o :: xr).length from HT.sIx_nat _ 0 1, List.length_cons]
          omega
        have ex : cutV (V.str o :: xr) (some 1) none = xr := by rw [cut_drop1]; rfl
        rw [ex]
        have sp := same_upd (o := .tup xr) np
        have gp := (gd_parts hg).2
        refine ⟨p, rfl, ⟨_, SqT.of upd_same⟩, fun D nD => lc_tup (xs := xr) (fun i H1 => Same (upd H p (.tup xr)) H1 ∧ H1 D = some (.lst (((ds.take i).map (lmeas m)).map V.int))) ?_ ?_ ?_ ?_⟩
        · exact ⟨same_upd nD, by rw [upd_same]; rfl⟩
        · rintro i H1 hi ⟨sm, e1⟩
          exact SqT.of (sm _ _ upd_same)
        · rintro i x H1 hx ⟨sm, e1⟩
          obtain ⟨d', hd', hD'⟩ := dpAll_get hA hx
          have hDs : Dp K H1 x d' := dp_same (sp.trans sm) d' x hD'
          have md : d' ∈ ds := List.mem_of_getElem? hd'
          refine ⟨rfl, ?_⟩
          dsimp only [tYes]
          rw [if_pos rfl]
          refine ⟨_, rfl, x, d', m, rfl, hDs, gd_le (gp d' md) (by decide), by omega, all1 d' md, fun H2 s2 => ?_⟩
          refine ⟨_, s2 _ _ e1, ?_, ?_, ?_⟩
          · rw [List.length_map, List.length_map, List.length_take]
            have lds := (gd_tuple hg).1
            rw [List.length_cons] at lds
            exact small1000 (by omega)
          · intro b o' eb
            have bD : b ≠ D := ne_of_none eb nD
            rw [upd_ne bD]
            exact s2 _ _ (sm _ _ eb)
          · rw [upd_same, List.take_add_one, hd']
            simp
        · rintro H1 ⟨sm, e1⟩
          have et : ds.take xr.length = ds := List.take_of_length_le (by omega)
          rw [et] at e1
          have q' := q H1 (sp.trans sm)
          rw [e] at q'
          exact ⟨D, _, rfl, SqL.of e1, q'⟩
theorem ok_read_piece {f : Addr} {fd : FuncData} {k n : Nat} (F : Fun K "_law_read_piece" "_law_read_piece" s_law_read_piece f fd) (m_len : mg "len" = none)
    (C_law_read_term : Own P w K mg base k "_law_read_term" ["_law_text_here", "_law_deep"] (spLR K lrT n)) :
    FnOk P w K mg base CX0 (k + 1) f fd ["_law_text_here", "_law_deep"] (spLR K (fun m => lrP (lrT m)) n) := by
  refine F.ok sc_law_read_piece (fun vs H Q E h => ?_) (fun cdv A outer s H vs Q E hr h => ?_)
  · obtain ⟨x, m, M, rfl, _⟩ := h
    rfl
  · obtain ⟨x, m, M, rfl, hx, hok, hm, tM, o1, o2⟩ := h
    refine ⟨_, (pss_cons (ps_if (pt_cmpR op_eq (pe_callB call_len_str (by rfl) m_len (by decide +kernel) (pa_cons (pv 0) pa_nil)) pe_int (nomark _))
        (pss_one (ps_ret (pe_own C_law_read_term (hr.mono (by omega)) (by rfl) (pa_cons (pv 0) (pa_cons (pv 1) pa_nil)))))
        pss_nil)
      (pss_cons (ps_if (PW.pt (pw_or (pt_cmpR op_ne (pe_slice sl_str (pv 0) po_none (po_some pe_int)) pe_str (nomark _)) (pw_or (pt_cmpR op_ne (pe_slice sl_str (pv 0) (po_some (pe_un un_neg pe_int)) po_none) pe_str (nomark _)) (pw_or1 (pt_cmpR op_lt (pe_callB call_len_str (by rfl) m_len (by decide +kernel) (pa_cons (pv 0) pa_nil)) pe_int (nomark _))))))
        (pss_one (ps_ret pe_non))
        pss_nil)
      (pss_one (ps_ret (pe_own C_law_read_term (hr.mono (by omega)) (by rfl) (pa_cons (pe_slice sl_str (pv 0) (po_some pe_int) (po_some (pe_un un_neg pe_int))) (pa_cons (pv 1) pa_nil))))))), ?_⟩
    have lx : x.length = (tl x).length := len_tl x
    refine ⟨_, rfl, x, rfl, fit900 hx, rfl, _, rfl, ?_⟩
    unfold lrP at o1 o2
    dsimp only at o1 o2
    refine ite2 (fun c => ?_) (fun c => ?_)
    · have c1 : (tl x).length = 1 := by have := V.int.inj (of_decide_eq_true c); omega
      rw [if_pos c1] at o1 o2
      exact ⟨_, rfl, _, rfl, x, m, M, rfl, hx, hok, hm, tM, o1, o2⟩
    · have c1 : ¬ (tl x).length = 1 := fun z => c (decide_eq_true (by rw [lx, z]; rfl))
      rw [if_neg c1] at o1 o2
      have q0 : ((tl x).take 1 ≠ [40] ∨ (tl x).drop ((tl x).length - 1) ≠ [41] ∨ (tl x).length < 4) → Q .non H := fun z => o2 (by rw [if_pos z]) H (Same.refl H)
      have p1 : ("(" : Str) = mk [40] := by decide +kernel
      have p2 : (")" : Str) = mk [41] := by decide +kernel
      refine ⟨_, rfl, _, rfl, x, rfl, fit900 hx, rfl, _, rfl, ?_⟩
      refine ite2 (fun c => iteT (q0 (.inl fun z => ?_))) (fun c => ?_)
      · have ex : cutS x none (some 1) = "(" := by
          rw [p1]
          exact ext_tl ((cut_pre x 1).trans z)
        rw [ex] at c
        exact absurd c (by decide +kernel)
      · have k1 : (tl x).take 1 = [40] := by
          have z : cutS x none (some 1) = "(" := by
            have c' := Bool.eq_false_iff.mpr c
            rw [Bool.not_eq_false'] at c'
            exact V.str.inj (of_decide_eq_true c')
          rw [← cut_pre x 1]
          show tl (cutS x none (some 1)) = _
          rw [z]; decide +kernel
        have x1 : 1 ≤ x.length := by
          rw [lx]
          cases ht : tl x with
          | nil => rw [ht] at k1; cases k1
          | cons _ _ => rw [List.length_cons]; omega
        refine ⟨_, rfl, _, rfl, _, rfl, x, rfl, fit900 hx, rfl, _, rfl, ?_⟩
        refine ite2 (fun c => iteT (q0 (.inr (.inl fun z => ?_)))) (fun c => ?_)
        · have ex : cutS x (some (-1)) none = ")" := by
            rw [p2]
            exact ext_tl ((cut_last x x1).trans (by rw [lx]; exact z))
          rw [ex] at c
          exact absurd c (by decide +kernel)
        · have k2 : (tl x).drop ((tl x).length - 1) = [41] := by
            have z : cutS x (some (-1)) none = ")" := by
              have c' := Bool.eq_false_iff.mpr c
              rw [Bool.not_eq_false'] at c'
              exact V.str.inj (of_decide_eq_true c')
            rw [← lx, ← cut_last x x1, z]; decide +kernel
          refine ⟨_, rfl, x, rfl, fit900 hx, _, _, rfl, rfl, _, rfl, ?_⟩
          refine ite2 (fun c => q0 (.inr (.inr ?_))) (fun c => ?_)
          · have := of_decide_eq_true c; omega
          · have k3 : ¬ (tl x).length < 4 := by have := of_decide_eq_false (Bool.eq_false_iff.mpr c); omega
            rw [if_neg (fun z => z.elim (fun y => y k1) fun y => y.elim (fun y => y k2) k3)] at o1 o2
            have em := cut_mid x x1
            rw [lx] at em
            rw [← em] at o1 o2
            have cl := cutS_length x (some 1) (some (-1))
            exact ⟨_, rfl, _, rfl, _, rfl, _, rfl, x, rfl, fit900 hx, _, rfl, _, m, M, rfl, by omega, cut_ok hok _ _, hm, tM, o1, o2⟩
end
end Fv


namespace Fv
open PySem PySem.Spec PyProof.Rows L2 FvX TL
def pcs (ps : List (List Nat)) : List V := ps.map fun l => V.str (mk l)
def sgs (sg : List Nat) : List V := sg.map fun c => V.str (mk [c])
abbrev Rr := Option (Int × List (List Nat) × List Nat)
def WS (x : Str) (m : Nat) (Lp Ls : Addr) (H : Hp) (R : Rr) (f : Nat) (σ : L2.St) (H1 : Hp) : Prop := ∃ (a : Nat) (lv : Int) (ps : List (List Nat)) (cur sg : List Nat),
  σ = [some (.str x), some (.int (m : Nat)), some (.int lv), some (.int (a : Nat)), some (.ref Lp), some (.ref Ls), none, none] ∧ H1 Lp = some (.lst (pcs ps ++ [V.str (mk cur)])) ∧ H1 Ls = some (.lst (sgs sg)) ∧ a ≤ (tl x).length ∧ f = (tl x).length - a ∧ 0 ≤ lv ∧
  ps.length ≤ a ∧ sg.length ≤ a ∧ cur.length ≤ a ∧ scn ((tl x).drop a) lv ps cur sg = R ∧ Same H H1
def WM (x : Str) (m : Nat) (Lp Ls : Addr) (H : Hp) (R : Rr) (a0 : Nat) (σ : L2.St) (H1 : Hp) : Prop := ∃ (a : Nat) (lv : Int) (ps : List (List Nat)) (cur sg : List Nat),
  σ = [some (.str x), some (.int (m : Nat)), some (.int lv), some (.int (a : Nat)), some (.ref Lp), some (.ref Ls), none, none] ∧ H1 Lp = some (.lst (pcs ps ++ [V.str (mk cur)])) ∧ H1 Ls = some (.lst (sgs sg)) ∧ a ≤ (tl x).length ∧ a0 < a ∧
  ps.length ≤ a ∧ sg.length ≤ a ∧ cur.length ≤ a ∧ (lv < 0 → R = none) ∧ (0 ≤ lv → scn ((tl x).drop a) lv ps cur sg = R) ∧ Same H H1
theorem pcs_len (ps : List (List Nat)) : (pcs ps).length = ps.length := List.length_map ..
theorem sgs_len (sg : List Nat) : (sgs sg).length = sg.length := List.length_map ..
theorem pcs_app (ps qs : List (List Nat)) : pcs (ps ++ qs) = pcs ps ++ pcs qs := List.map_append ..
theorem sgs_app (ps qs : List Nat) : sgs (ps ++ qs) = sgs ps ++ sgs qs := List.map_append ..
theorem mk_app (l : List Nat) (c : Nat) : mk l ++ (⟨#[c]⟩ : Str) = mk (l ++ [c]) := ext_tl (by rw [tl_append]; rfl)
theorem ixN_m1 {n : Nat} (h : 1 ≤ n) : ixN n (-1) = some (n - 1) := by
  unfold ixN
  rw [if_neg (by decide), if_pos (by omega)]
  congr 1
  omega
theorem set_last (l : List V) (v v' : V) : (l ++ [v]).set ((l ++ [v]).length - 1) v' = l ++ [v'] := by
  rw [List.length_append, List.length_singleton, Nat.add_sub_cancel, List.set_append_right _ _ (Nat.le_refl _), Nat.sub_self]
  rfl
section
variable {P : Program} {w : World} {K : PySem.W.Frag} {mg : Str → Option Value} {base : Heap}
theorem ok_lread_term {f : Addr} {fd : FuncData} {k n : Nat} (F : Fun K "_law_read_term" "_law_read_term" s_law_read_term f fd) (m_len : mg "len" = none) (m_int : mg "int" = none) (m_tuple : mg "tuple" = none) (hn : n ≤ 10)
    (C_law_read_piece : Own P w K mg base k "_law_read_piece" ["_law_text_here", "_law_deep"] (spLR K (fun m => lrP (lrT m)) n)) :
    FnOk P w K mg base CX0 (k + 1) f fd ["_law_text_here", "_law_deep"] (spLR K lrT (n + 1)) := by
  refine F.ok sc_law_read_term (fun vs H Q E h => ?_) (fun cdv A outer s H vs Q E hr h => ?_)
  · obtain ⟨x, m, M, rfl, _⟩ := h
    rfl
  · obtain ⟨x, m, M, rfl, hx, hok, hm, tM, o1, o2⟩ := h
    refine ⟨_, (pss_cons (ps_if (pt_cmpR op_eq (pe_callB call_len_str (by rfl) m_len (by decide +kernel) (pa_cons (pv 0) pa_nil)) pe_int (nomark _))
        (pss_one (ps_ret (pe_ifExp (pt_cmpR op_in_str (pv 0) pe_str (by rfl)) (pv 0) pe_non)))
        pss_nil)
      (pss_cons (ps_if (pt_cmpR op_lt (pv 1) pe_int (nomark _))
        (pss_one (ps_ret pe_non))
        pss_nil)
      (pss_cons (ps_asg (pe_tup (pa_cons pe_int (pa_cons pe_int (pa_cons (pe_lst (pa_cons pe_str pa_nil)) (pa_cons (pe_lst pa_nil) pa_nil))))) (pg_tup rfl (pgs_cons (pg_name (i := 2) sc_law_read_term.nd rfl (by first | exact .inl rfl | exact .inr rfl)) (pgs_cons (pg_name (i := 3) sc_law_read_term.nd rfl (by first | exact .inl rfl | exact .inr rfl)) (pgs_cons (pg_name (i := 4) sc_law_read_term.nd rfl (by first | exact .inl rfl | exact .inr rfl)) (pgs_cons (pg_name (i := 5) sc_law_read_term.nd rfl (by first | exact .inl rfl | exact .inr rfl)) pgs_nil))))))
      (pss_cons (ps_while PassesOwn.never (pt_cmpR op_lt (pv 3) (pe_callB call_len_str (by rfl) m_len (by decide +kernel) (pa_cons (pv 0) pa_nil)) (nomark _))
        (C8.pss_cut (ps_if (PW.pt (pw_and (pt_cmpR op_eq (pv 2) pe_int (nomark _)) (pw_and1 (pt_cmpR (op_inT (hu65 hr)) (pe_slice sl_str (pv 0) (po_some (pv 3)) (po_some (pe_op op_add (pv 3) pe_int))) (pe_tup (pa_cons pe_str (pa_cons pe_str pa_nil))) (by rfl)))))
          (pss_cons (ps_expr (pe_bm PySem.F.plainAttrs_list PySem.F.slot_list_append PySem.F.type_list_append mt_append (pv 5) (pa_cons (pe_ix ix_str (pv 0) (pe_op op_add (pv 3) pe_int) (fun _ _ => rfl)) pa_nil)))
          (pss_cons (ps_expr (pe_bm PySem.F.plainAttrs_list PySem.F.slot_list_append PySem.F.type_list_append mt_append (pv 4) (pa_cons pe_str pa_nil)))
          (pss_one (ps_set (i := 3) sc_law_read_term.nd rfl (by first | exact .inl rfl | exact .inr rfl) (pe_op op_add (pv 3) pe_int)))))
          (pss_cons (ps_set (i := 2) sc_law_read_term.nd rfl (by first | exact .inl rfl | exact .inr rfl) (pe_op op_sub (pe_op op_add (pv 2) (pe_callTy call_int1 (by rfl) m_int (by decide +kernel) (pa_cons (pe_cmpR op_eq (pe_ix ix_str (pv 0) (pv 3) (fun _ _ => rfl)) pe_str (nomark _)) pa_nil))) (pe_callTy call_int1 (by rfl) m_int (by decide +kernel) (pa_cons (pe_cmpR op_eq (pe_ix ix_str (pv 0) (pv 3) (fun _ _ => rfl)) pe_str (nomark _)) pa_nil))))
          (pss_cons (ps_asg (pe_op op_add_str (pe_ix ix_list (pv 4) (pe_un un_neg pe_int) (fun _ _ => rfl)) (pe_ix ix_str (pv 0) (pv 3) (fun _ _ => rfl))) (pg_sub (pv 4) (pe_un un_neg pe_int) set_list))
          (pss_one (ps_set (i := 3) sc_law_read_term.nd rfl (by first | exact .inl rfl | exact .inr rfl) (pe_op op_add (pv 3) pe_int))))))
        (pss_one (ps_if (pt_cmpR op_lt (pv 2) pe_int (nomark _))
          (pss_one (ps_ret pe_non))
          pss_nil))))
      (pss_cons (ps_if (PW.pt (pw_or (pt_cmpR op_gt (pv 2) pe_int (nomark _)) (pw_or (pt_cmpR op_lt (pe_callB call_len_seq (by rfl) m_len (by decide +kernel) (pa_cons (pv 4) pa_nil)) pe_int (nomark _)) (pw_or1 (pt_cmpR (op_neD hr.units) (pv 5) (pe_op op_rep (pe_slice sl_list (pv 5) po_none (po_some pe_int)) (pe_callB call_len_seq (by rfl) m_len (by decide +kernel) (pa_cons (pv 5) pa_nil))) (nomark _))))))
        (pss_one (ps_ret pe_non))
        pss_nil)
      (pss_cons (ps_setLc (i := 6) (own := [("_law_one", 7)]) (g := gName 7) (by rfl) sc_law_read_term.nd rfl rfl (sw_true rfl rfl rfl (by decide +kernel)) (pi_list (pv 4)) (blkOk_by (own := [("_law_one", 7)]) (N := N_law_read_term) (sc := defScope s_law_read_term) (by decide +kernel)) (fun _ _ _ _ _ => pg_name (i := 7) sc_law_read_term.nd rfl (Or.inl rfl)) (fun _ _ _ _ _ => pts_nil) (fun _ _ _ _ _ => (pe_own C_law_read_piece (hr.mono (by omega)) (by rfl) (pa_cons (pv 7) (pa_cons (pe_op op_sub (pv 1) pe_int) pa_nil)))))
      (pss_one (ps_ret (pe_ifExp (pt_cmpR (op_inD (hu65 hr)) pe_non (pv 6) (by rfl)) pe_non (pe_callTy call_tuple_of (by rfl) m_tuple (by decide +kernel) (pa_cons (pe_op op_cat (pe_slice sl_list (pv 5) po_none (po_some pe_int)) (pv 6)) pa_nil))))))))))), ?_⟩
    have lx : x.length = (tl x).length := len_tl x
    refine ⟨_, rfl, x, rfl, fit900 hx, rfl, _, rfl, ?_⟩
    refine ite2 (fun c => ?_) (fun c => ?_)
    · have c1 : (tl x).length = 1 := by have := V.int.inj (of_decide_eq_true c); omega
      have e0 : lrT m (tl x) = if isL x = true then some (.str x) else none := by
        rw [lrT_one c1]; unfold lrL; rw [mk_tl]
      have eL : isL x = !(Builtin.Str.occurrences "abcdefgh" x 0 (Str.length "abcdefgh") 1).isEmpty := by
        unfold isL; rw [show decide (V.int (x.length : Nat) = V.int 1) = true from c, Bool.true_and]
      refine ⟨_, rfl, _, _, rfl, rfl, _, rfl, ?_⟩
      refine ite2 (fun c => ?_) (fun c => ?_)
      · exact ⟨_, rfl, o1 (.str x) (by rw [e0, if_pos (eL.trans c)]) H _ (Same.refl H) (.str x)⟩
      · exact o2 (by rw [e0, if_neg (fun z => c (eL.symm.trans z))]) H (Same.refl H)
    · have c1 : ¬ (tl x).length = 1 := fun z => c (decide_eq_true (by rw [lx, z]; rfl))
      refine ⟨_, rfl, _, _, rfl, rfl, _, rfl, ?_⟩
      refine ite2 (fun c => ?_) (fun c => ?_)
      · have c2 : (m : Int) < 2 := of_decide_eq_true c
        refine o2 ?_ H (Same.refl H)
        match m, c2 with
        | 0, _ => unfold lrT; rw [if_neg c1]
        | 1, _ => unfold lrT; rw [if_neg c1, if_pos rfl]
        | m + 2, c2 => omega
      · have c2 : ¬ (m : Int) < 2 := of_decide_eq_false (Bool.eq_false_iff.mpr c)
        obtain ⟨m', rfl⟩ : ∃ m', m = m' + 1 := ⟨m - 1, by omega⟩
        unfold lrT at o1 o2
        rw [if_neg c1, if_neg (by omega)] at o1 o2
        unfold lrC at o1 o2
        refine ⟨(by show 1 ≤ sizeLine; decide), fun Lp nLp => ⟨Nat.zero_le _, fun Ls nLs => ⟨(by show 4 ≤ sizeLine; decide), fun tp ntp => ?_⟩⟩⟩
        have sA := same_upd (o := .lst [.str ""]) nLp
        have sB := same_upd (o := .lst []) nLs
        have sC := same_upd (o := .tup [.int 0, .int 0, .ref Lp, .ref Ls]) ntp
        have nLs0 : H Ls = none := sA.free nLs
        have LpLs : Lp ≠ Ls := fun z => by
          rw [← z, upd_same] at nLs; cases nLs
        refine ⟨tp, _, rfl, SqT.of upd_same, rfl, _, _, rfl, _, _, rfl, _, _, rfl, _, _, rfl, rfl, ?_⟩
        obtain ⟨R, hR⟩ : ∃ R, scn (tl x) 0 [] [] [] = R := ⟨_, rfl⟩
        rw [hR] at o1 o2
        refine ⟨WS x (m' + 1) Lp Ls H R, ⟨(tl x).length, 0, 0, [], [], [], rfl, ?_, ?_, Nat.zero_le _, rfl, by decide, Nat.le_refl _, Nat.le_refl _, Nat.le_refl _, hR, sA.trans (sB.trans sC)⟩, ?_⟩
        · exact sC _ _ (sB _ _ upd_same)
        · exact sC _ _ upd_same
        rintro fu σ H1 ⟨a, lv, ps, cur, sg, rfl, hP, hS, ha, rfl, h0, lp, ls, lc, hR1, s1⟩
        have putP : ∀ {H2 : Hp} {o : HO}, Same H H2 → Same H (upd H2 Lp o) := fun {H2 o} s b o' eb => by
          rw [upd_ne (ne_of_none eb nLp)]; exact s _ _ eb
        have putS : ∀ {H2 : Hp} {o : HO}, Same H H2 → Same H (upd H2 Ls o) := fun {H2 o} s b o' eb => by
          rw [upd_ne (ne_of_none eb nLs0)]; exact s _ _ eb
        have big : ∀ n : Nat, n ≤ 1900 → n ≤ sizeLine := fun n h => Nat.le_trans h (by decide)
        refine ⟨_, rfl, _, rfl, x, rfl, fit900 hx, _, _, rfl, rfl, _, rfl, ?_⟩
        refine ite2 (fun c => ?_) (fun c => ?_)
        · have ca : a < (tl x).length := by have := of_decide_eq_true c; omega
          obtain ⟨ch, r, hd⟩ : ∃ ch r, (tl x).drop a = ch :: r := by
            rw [List.drop_eq_getElem_cons ca]; exact ⟨_, _, rfl⟩
          have hch : (tl x)[a]? = some ch := by
            have := congrArg List.head? hd
            rw [List.head?_drop] at this
            exact this
          have hdr : (tl x).drop (a + 1) = r := by
            rw [← List.drop_drop, hd]; rfl
          have e3 : sub ((tl x).drop a) 0 3 = sub (tl x) a 3 := rfl
          rw [hd, scn_cons, ← hd, e3] at hR1
          refine ⟨fun σ' H' => ∃ f', f' < (tl x).length - a ∧ WS x (m' + 1) Lp Ls H R f' σ' H', fun σ' H' h => h, ?_⟩
          refine ⟨WM x (m' + 1) Lp Ls H R a, ?_, ?_⟩
          · -- the if
            have elseB : ¬ (lv = 0 ∧ isSg (sub (tl x) a 3)) → ∀ H2 : Hp, Same H1 H2 → H2 Lp = some (.lst (pcs ps ++ [V.str (mk cur)])) ∧ WM x (m' + 1) Lp Ls H R a [some (.str x), some (.int ((m' + 1 : Nat) : Int)), some (.int (lv + dl ch)), some (.int ((a + 1 : Nat) : Int)), some (.ref Lp), some (.ref Ls), none, none] (upd H2 Lp (.lst (pcs ps ++ [V.str (mk (cur ++ [ch]))]))) := fun k H2 s2 => by
              rw [if_neg k] at hR1
              refine ⟨s2 _ _ hP, a + 1, lv + dl ch, ps, cur ++ [ch], sg, rfl, upd_same, ?_, by omega, by omega, by omega, by omega, by rw [List.length_append, List.length_singleton]; omega, fun z => ?_, fun z => ?_, putP (s1.trans s2)⟩
              · rw [upd_ne LpLs.symm]; exact s2 _ _ hS
              · rw [if_pos z] at hR1; exact hR1.symm
              · rw [if_neg (by omega)] at hR1
                rw [hdr]; exact hR1
            refine ⟨_, rfl, rfl, _, rfl, ?_⟩
            refine ite2 (fun c0 => ?_) (fun c0 => ?_)
            · have lv0 : lv = 0 := V.int.inj (of_decide_eq_true c0)
              refine ⟨_, rfl, _, rfl, _, rfl, _, rfl, _, _, rfl, rfl, _, rfl, x, rfl, fit900 hx, ?_⟩
              rw [cut3]
              refine ⟨(by show 2 ≤ sizeLine; decide), fun tq ntq => ?_⟩
              have sq := same_upd (o := .tup [.str " & ", .str " | "]) ntq
              refine ⟨.str (sub (tl x) a 3), [.str " & ", .str " | "], .str _, .tup (SqT.of upd_same) (.cons (.str _) (.cons (.str _) .nil)), gd_shaped (sub_gd hok a 3 (by decide) 1) (by decide), by decide +kernel, _, rfl, ?_⟩
              rw [in_sgT]
              refine ite2 (fun c3 => ?_) (fun c3 => ?_)
              · have k : lv = 0 ∧ isSg (sub (tl x) a 3) := ⟨lv0, of_decide_eq_true c3⟩
                rw [if_pos k] at hR1
                obtain ⟨s', r', er, _⟩ := sg_head (R := (tl x).drop a) k.2
                rw [hd] at er
                cases er
                have h1 : (tl x)[a + 1]? = some s' := by
                  have := congrArg (fun l => l[1]?) hd
                  simp only [List.getElem?_drop] at this
                  exact this
                have hl3 : a + 3 ≤ (tl x).length := by
                  have := congrArg List.length hd
                  rw [List.length_drop] at this
                  simp only [List.length_cons] at this
                  omega
                have hd3 : (tl x).drop (a + 3) = r' := by
                  rw [← List.drop_drop, hd]; rfl
                have hS2 := sq _ _ hS
                refine ⟨_, rfl, .inl ⟨rfl, _, SqL.of hS2⟩, _, rfl, _, rfl, _, _, rfl, rfl, x, _, s', rfl, rfl, fit900 hx, atI_nat (j := a + 1) h1, Ls, _, _, rfl, rfl, hS2, ?_, ?_⟩
                · rw [sgs_len]; exact Nat.lt_of_lt_of_le (by omega : sg.length < 1000) (by decide)
                have hP2 : (upd (upd H1 tq (.tup [.str " & ", .str " | "])) Ls (.lst (sgs sg ++ [V.str ⟨#[s']⟩]))) Lp = some (.lst (pcs ps ++ [V.str (mk cur)])) := by
                  rw [upd_ne LpLs]; exact sq _ _ hP
                refine ⟨_, rfl, .inl ⟨rfl, _, SqL.of hP2⟩, Lp, _, _, rfl, rfl, hP2, ?_, ?_⟩
                · rw [List.length_append, pcs_len]; exact Nat.lt_of_lt_of_le (show ps.length + 1 < 1000 by omega) (by decide)
                refine ⟨_, rfl, _, _, rfl, rfl, a + 3, 0, ps ++ [cur], [], sg ++ [s'], ?_, ?_, ?_, hl3, by omega, by rw [List.length_append, List.length_singleton]; omega, by rw [List.length_append, List.length_singleton]; omega, Nat.zero_le _, fun z => by omega, fun _ => ?_, putP (putS (s1.trans sq))⟩
                · rw [lv0]; rfl
                · rw [upd_same, pcs_app]; rfl
                · rw [upd_ne LpLs.symm, upd_same, sgs_app]; rfl
                · rw [hd3, ← hR1, lv0]; rfl
              · have k : ¬ (lv = 0 ∧ isSg (sub (tl x) a 3)) := fun z => c3 (decide_eq_true z.2)
                obtain ⟨hP2, fin⟩ := elseB k _ sq
                refine ⟨_, rfl, _, rfl, _, rfl, x, _, ch, rfl, rfl, fit900 hx, atI_nat hch, rfl, .inr ⟨_, rfl, _, _, rfl, rfl, _, rfl, _, rfl, x, _, ch, rfl, rfl, fit900 hx, atI_nat hch, rfl, .inr ⟨_, rfl, _, _, rfl, rfl, ?_⟩⟩⟩
                refine ⟨_, rfl, _, rfl, Lp, _, _, _, rfl, rfl, SqL.of hP2, atI_last _ _, _, rfl, _, rfl, x, _, ch, rfl, rfl, fit900 hx, atI_nat hch, _, _, rfl, rfl, ?_, _, rfl, _, rfl, Lp, _, _, _, rfl, rfl, hP2, ixN_m1 (by rw [List.length_append, List.length_singleton]; omega), ?_⟩
                · rw [mk_len]
                  exact big _ (by show cur.length + 1 ≤ 1900; omega)
                rw [set_last, mk_app]
                refine ⟨_, rfl, _, _, rfl, rfl, ?_⟩
                have fin' := fin
                rw [← dl_eq] at fin'
                exact fin'
            · have k : ¬ (lv = 0 ∧ isSg (sub (tl x) a 3)) := fun z => c0 (decide_eq_true (by rw [z.1]))
              obtain ⟨hP2, fin⟩ := elseB k _ (Same.refl H1)
              refine iteF ?_
              refine ⟨_, rfl, _, rfl, _, rfl, x, _, ch, rfl, rfl, fit900 hx, atI_nat hch, rfl, .inr ⟨_, rfl, _, _, rfl, rfl, _, rfl, _, rfl, x, _, ch, rfl, rfl, fit900 hx, atI_nat hch, rfl, .inr ⟨_, rfl, _, _, rfl, rfl, ?_⟩⟩⟩
              refine ⟨_, rfl, _, rfl, Lp, _, _, _, rfl, rfl, SqL.of hP2, atI_last _ _, _, rfl, _, rfl, x, _, ch, rfl, rfl, fit900 hx, atI_nat hch, _, _, rfl, rfl, ?_, _, rfl, _, rfl, Lp, _, _, _, rfl, rfl, hP2, ixN_m1 (by rw [List.length_append, List.length_singleton]; omega), ?_⟩
              · rw [mk_len]
                exact big _ (by show cur.length + 1 ≤ 1900; omega)
              rw [set_last, mk_app]
              refine ⟨_, rfl, _, _, rfl, rfl, ?_⟩
              have fin' := fin
              rw [← dl_eq] at fin'
              exact fin'
          · rintro σ' H' ⟨a2, lv2, ps2, cur2, sg2, rfl, hP2, hS2, ha2, ga, lp2, ls2, lc2, z1, z2, s2⟩
            refine ⟨_, rfl, _, _, rfl, rfl, _, rfl, ite2 (fun c => ?_) (fun c => ?_)⟩
            · have := z1 (of_decide_eq_true c)
              rw [this] at o2
              exact o2 rfl H' s2
            · have l0 : 0 ≤ lv2 := by have := of_decide_eq_false (Bool.eq_false_iff.mpr c); omega
              exact ⟨(tl x).length - a2, by omega, a2, lv2, ps2, cur2, sg2, rfl, hP2, hS2, ha2, rfl, l0, lp2, ls2, lc2, z2 l0, s2⟩
        · have ca : a = (tl x).length := by have := of_decide_eq_false (Bool.eq_false_iff.mpr c); omega
          rw [ca, List.drop_length, scn_nil] at hR1
          rw [← hR1] at o1 o2 hR
          dsimp only at o1 o2
          obtain ⟨inP, lPS⟩ := piece_in hR
          have pl : (ps ++ [cur]).length = ps.length + 1 := by rw [List.length_append, List.length_singleton]
          have ePP : pcs ps ++ [V.str (mk cur)] = pcs (ps ++ [cur]) := by rw [pcs_app]; rfl
          rw [ePP] at hP
          generalize hPP : ps ++ [cur] = PP at *
          have noA : (0 < lv ∨ PP.length < 2 ∨ sg ≠ List.replicate sg.length (sg.headD 0)) → ∀ H', Same H H' → Q .non H' := fun z => o2 (by rw [if_pos z])
          refine ⟨_, rfl, _, _, rfl, rfl, _, rfl, ?_⟩
          refine ite2 (fun c => iteT (noA (.inl (of_decide_eq_true c)) H1 s1)) (fun c4 => ?_)
          refine ⟨_, rfl, Lp, _, rfl, .inl (SqL.of hP), _, _, rfl, rfl, _, rfl, ?_⟩
          refine ite2 (fun c => iteT (noA (.inr (.inl (by have := of_decide_eq_true c; rw [pcs_len] at this; omega))) H1 s1)) (fun c5 => ?_)
          have P2 : 2 ≤ PP.length := by have := of_decide_eq_false (Bool.eq_false_iff.mpr c5); rw [pcs_len] at this; omega
          refine ⟨_, rfl, _, rfl, _, rfl, Ls, _, rfl, SqL.of hS, fun p1 np1 => ?_⟩
          have ec : cutV (sgs sg) none (some 1) = sgs (sg.take 1) := cutV_take1 sg
          rw [ec]
          have t1 := same_upd (o := .lst (sgs (sg.take 1))) np1
          refine ⟨_, rfl, Ls, _, rfl, .inl (SqL.of (t1 _ _ hS)), p1, _, _, rfl, rfl, upd_same, by omega, ?_, ?_, fun p2 np2 => ?_⟩
          · rw [sgs_len]; omega
          · rw [sgs_len, sgs_len]
            have : (sg.take 1).length ≤ 1 := by rw [List.length_take]; omega
            have h3 : (sg.take 1).length * ((sg.length : Nat) : Int).toNat ≤ 1 * 900 := Nat.mul_le_mul this (by omega)
            exact big _ (by omega)
          have er : (List.replicate (((sgs sg).length : Nat) : Int).toNat (sgs (sg.take 1))).flatten = sgs (List.replicate sg.length (sg.headD 0)) := by
            rw [sgs_len, Int.toNat_natCast, ← sg_rep]
            exact flat_map _ _
          rw [er]
          have t2 := same_upd (o := .lst (sgs (List.replicate sg.length (sg.headD 0)))) np2
          have sgIn : ∀ c ∈ sg, c ∈ tl x := by
            obtain ⟨q', l', e1, e2, e3, _⟩ := scn_sound _ (tl x) (Nat.le_refl _) _ _ _ _ _ _ _ hR
            rw [List.nil_append] at e2
            intro c hc
            rw [e2] at hc
            obtain ⟨t, ht, rfl⟩ := List.mem_map.mp hc
            obtain ⟨l1, l2, el⟩ := List.append_of_mem ht
            rw [e3, el, List.flatMap_append, List.flatMap_cons]
            simp
          have hd0 : ∀ c ∈ List.replicate sg.length (sg.headD 0), c ∈ tl x := fun c hc => by
            obtain ⟨n0, rfl⟩ := List.mem_replicate.mp hc
            cases sg with
            | nil => exact absurd rfl n0
            | cons c0 r0 => exact sgIn c0 (List.mem_cons_self ..)
          refine ⟨.list (sg.map fun c => PyData.str ⟨#[c]⟩), .list ((List.replicate sg.length (sg.headD 0)).map fun c => PyData.str ⟨#[c]⟩), .lst (SqL.of (t2 _ _ (t1 _ _ hS))) (dpAll_strs sg), .lst (SqL.of upd_same) (dpAll_strs _), gd_shaped (strs_gd hok sgIn (by omega)) (by decide), gd_shaped (strs_gd hok hd0 (by rw [List.length_replicate]; omega)) (by decide), _, rfl, ?_⟩
          have ev : PyData.eqv (.list (sg.map fun c => PyData.str ⟨#[c]⟩)) (.list ((List.replicate sg.length (sg.headD 0)).map fun c => PyData.str ⟨#[c]⟩)) = decide (sg = List.replicate sg.length (sg.headD 0)) := by
            rw [← eqv_strs]; simp only [PyData.eqv]
          rw [ev]
          have s2 := s1.trans (t1.trans t2)
          refine ite2 (fun c => noA (.inr (.inr (fun z => by rw [decide_eq_true z] at c; cases c))) _ s2) (fun c6 => ?_)
          have k6 : sg = List.replicate sg.length (sg.headD 0) := by
            refine Classical.not_not.mp fun z => c6 ?_
            rw [decide_eq_false z]; rfl
          have nk : ¬ (0 < lv ∨ PP.length < 2 ∨ sg ≠ List.replicate sg.length (sg.headD 0)) := fun z => z.elim (fun y => c4 (decide_eq_true y)) fun z => z.elim (by omega) fun y => y k6
          rw [if_neg nk] at o1 o2
          have hPb := t2 _ _ (t1 _ _ hP)
          have hSb := t2 _ _ (t1 _ _ hS)
          generalize hHb : upd (upd H1 p1 (.lst (sgs (sg.take 1)))) p2 (.lst (sgs (List.replicate sg.length (sg.headD 0)))) = Hb at *
          refine ⟨_, rfl, Lp, rfl, ⟨_, SqL.of hPb⟩, fun D nD => lc_list (xs := pcs PP) (fun i H2 => Same Hb H2 ∧ ∃ vs, H2 D = some (.lst vs) ∧ DpAll K (hide (D :: M) H2) vs (((PP.take i).map (lrP (lrT m'))).map optD)) ?_ ?_ ?_ ?_⟩
          · exact ⟨same_upd nD, [], upd_same, .nil⟩
          · rintro i H2 hi ⟨sm, _⟩
            exact SqL.of (sm _ _ hPb)
          · rintro i y H2 hy ⟨sm, vs, hD, hA⟩
            obtain ⟨hi, ey⟩ := List.getElem?_eq_some_iff.mp hy
            rw [pcs_len] at hi
            have ep : PP[i]? = some PP[i] := List.getElem?_eq_getElem hi
            have ey2 : V.str (mk PP[i]) = y := by
              have z : (pcs PP)[i]? = (PP[i]?).map fun l => V.str (mk l) := List.getElem?_map ..
              rw [hy, ep] at z
              exact (Option.some.inj z).symm
            subst ey2
            obtain ⟨g1, g2⟩ := inP PP[i] (List.getElem_mem hi)
            have tMD : Trk (D :: M) H2 := fun b hb => by
              rcases List.mem_cons.mp hb with z | z
              · rw [z]; exact ⟨_, hD⟩
              · exact (tM.same (s2.trans sm)) b z
            have la := dpAll_len hA
            have step : ∀ (H3 : Hp) (v : V), Same H2 H3 → Dp K (hide (D :: M) H3) v (optD (lrP (lrT m') PP[i])) → ∃ xs, H3 D = some (.lst xs) ∧ xs.length + 1 ≤ sizeLine ∧ (Same Hb (upd H3 D (.lst (xs ++ [v]))) ∧ ∃ vs, upd H3 D (.lst (xs ++ [v])) D = some (.lst vs) ∧ DpAll K (hide (D :: M) (upd H3 D (.lst (xs ++ [v])))) vs (((PP.take (i + 1)).map (lrP (lrT m'))).map optD)) := fun H3 v s3 hv => by
              refine ⟨vs, s3 _ _ hD, ?_, fun b o' eb => ?_, vs ++ [v], upd_same, ?_⟩
              · rw [la, List.length_map, List.length_map, List.length_take]
                exact big _ (by omega)
              · rw [upd_ne (ne_of_none eb nD)]
                exact s3 _ _ (sm _ _ eb)
              · rw [List.take_add_one, ep, Option.toList_some, List.map_append, List.map_append]
                exact dpAll_app (dpAll_same (SmX.put (SmX.of_same s3) (List.mem_cons_self ..)).hid _ _ hA) (.cons (dp_same (SmX.put (SmX.refl _ _) (List.mem_cons_self ..)).hid _ _ hv) .nil)
            refine ⟨rfl, ?_⟩
            dsimp only [tYes]
            rw [if_pos rfl]
            refine ⟨_, rfl, _, rfl, _, _, rfl, rfl, mk PP[i], m', D :: M, vs2 (by omega), by rw [mk_len]; omega, ok_mk hok g2, by omega, tMD, fun d ed H3 v s3 hv => ?_, fun ed H3 s3 => ?_⟩
            · have ed' : lrP (lrT m') PP[i] = some d := ed
              refine step H3 v s3 ?_
              rw [ed']; exact hv
            · have ed' : lrP (lrT m') PP[i] = none := ed
              refine step H3 .non s3 ?_
              rw [ed']; exact .non
          · rintro H2 ⟨sm, vs, hD, hA⟩
            rw [pcs_len, List.take_length] at hA
            have la := dpAll_len hA
            rw [List.length_map, List.length_map] at la
            have m1 : 1 ≤ m' := by omega
            have gall : ∀ d ∈ (PP.map (lrP (lrT m'))).map optD, gd 10 d = true := fun d hd => by
              obtain ⟨o, ho, rfl⟩ := List.mem_map.mp hd
              obtain ⟨p, hp, rfl⟩ := List.mem_map.mp ho
              cases e : lrP (lrT m') p with
              | none => exact gd_le (n := 0) rfl (Nat.zero_le _)
              | some d => exact gd_le (lrP_gd m1 e (by have := (inP p hp).1; omega)).2 (by omega)
            have hAA := dpAll_same (hide_same (M := D :: M)) _ _ hA
            refine ⟨_, rfl, .none, _, .non, .lst (SqL.of hD) hAA, rfl, gd_shaped (gd_lst gall (by rw [List.length_map, List.length_map]; omega)) (by decide), _, rfl, ?_⟩
            have an : (((PP.map (lrP (lrT m'))).map optD).any fun z => PyData.eqv z .none) = true ↔ none ∈ PP.map (lrP (lrT m')) := any_none _ fun d hd => by
              obtain ⟨p, hp, e⟩ := List.mem_map.mp hd
              have := (lrP_gd m1 e (by have := (inP p hp).1; omega)).1
              intro z
              rw [z] at this
              cases m' with
              | zero => omega
              | succ j => exact absurd this (by show ¬ (1 : Int) ≤ 0; decide)
            have sE := s2.trans sm
            refine ite2 (fun c => ?_) (fun c => ?_)
            · exact o2 (by rw [if_pos (an.mp c)]) H2 sE
            · have nn : ¬ none ∈ PP.map (lrP (lrT m')) := fun z => c (an.mpr z)
              rw [if_neg nn] at o1
              rw [opt_filter nn] at hA
              have hS2 := sm _ _ hSb
              refine ⟨_, rfl, _, rfl, Ls, _, rfl, SqL.of hS2, fun p3 np3 => ?_⟩
              have es : sg.take 1 = [sg.headD 0] := by
                cases sg with
                | nil => rw [List.length_nil] at lPS; omega
                | cons c r => rfl
              rw [ec, es]
              have t3 := same_upd (o := .lst (sgs [sg.headD 0])) np3
              refine ⟨_, rfl, p3, D, _, _, rfl, rfl, upd_same, t3 _ _ hD, ?_, fun p4 np4 => ?_⟩
              · rw [sgs_len, List.length_singleton]; exact big _ (by omega)
              have t4 := same_upd (o := .lst (sgs [sg.headD 0] ++ vs)) np4
              refine ⟨p4, _, rfl, .inl ⟨SqL.of upd_same, fun p5 np5 => ?_⟩⟩
              have tM2 : Trk M (upd (upd H2 p3 (.lst (sgs [sg.headD 0]))) p4 (.lst (sgs [sg.headD 0] ++ vs))) := tM.same (sE.trans (t3.trans t4))
              refine o1 _ rfl _ _ (sE.trans (t3.trans (t4.trans (same_upd np5)))) (.tup (SqT.of (hid_at tM2 np5)) (.cons (.str _) ?_))
              exact dpAll_same ((hide_sub fun b hb => List.mem_cons_of_mem _ hb).trans (SmX.of_same (t3.trans (t4.trans (same_upd np5)))).hid) _ _ hA
theorem ok_lread {f : Addr} {fd : FuncData} {k : Nat} (F : Fun K "_law_read" "_law_read" s_law_read f fd)
    (C_law_read_term : Own P w K mg base k "_law_read_term" ["_law_text_here", "_law_deep"] (spLR K lrT 6)) (C_law_leaves : Own P w K mg base k "_law_leaves" ["_law_word"] (spLeaves K 6)) :
    FnOk P w K mg base CX0 (k + 1) f fd ["_law_text_here"] (spLRead K) := by
  refine F.ok sc_law_read (fun vs H Q E h => ?_) (fun cdv A outer s H vs Q E hr h => ?_)
  · obtain ⟨x, M, rfl, _⟩ := h
    rfl
  · obtain ⟨x, M, rfl, hx, hok, tM, o1, o2⟩ := h
    refine ⟨_, (pss_cons (ps_set (i := 1) sc_law_read.nd rfl (by first | exact .inl rfl | exact .inr rfl) (pe_own C_law_read_term (hr.mono (by omega)) (by rfl) (pa_cons (pv 0) (pa_cons pe_int pa_nil))))
      (pss_one (ps_ret (pe_ifExp (PW.pt (pw_and (pt_cmpR op_notN (pv 1) pe_non (nomark _)) (pw_and1 (pt_cmpR op_le (pe_own C_law_leaves (hr.mono (by omega)) (by rfl) (pa_cons (pv 1) pa_nil)) pe_int (nomark _))))) (pv 1) pe_non)))), ?_⟩
    rw [← lrd_prs] at o1 o2
    unfold lrd at o1 o2
    have lx : x.length = (tl x).length := len_tl x
    refine ⟨_, rfl, x, 5, M, rfl, hx, hok, by decide, tM, fun d ed H1 v s1 hv => ?_, fun ed H1 s1 => ?_⟩
    · rw [ed] at o1 o2
      dsimp only at o1 o2
      obtain ⟨g1, g2, g3⟩ := lrT_gd (by decide) ed (by omega)
      have nv : v ≠ .non := fun z => by
        subst z
        cases hv
        exact absurd g1 (by decide)
      refine ⟨_, rfl, rfl, _, rfl, ?_⟩
      rw [decide_eq_false nv]
      refine iteT ⟨_, rfl, v, d, 5, rfl, dp_same hide_same d v hv, gd_le g3 (by decide), by decide, g1, fun H2 s2 => ⟨_, _, rfl, rfl, _, rfl, ?_⟩⟩
      refine ite2 (fun c => ?_) (fun c => ?_)
      · rw [if_pos (of_decide_eq_true c)] at o1
        exact ⟨_, rfl, o1 d rfl H2 v (s1.trans s2) (dp_same (SmX.of_same s2).hid d v hv)⟩
      · rw [if_neg (of_decide_eq_false (Bool.eq_false_iff.mpr c))] at o2
        exact o2 rfl H2 (s1.trans s2)
    · rw [ed] at o2
      exact ⟨_, rfl, rfl, _, rfl, iteF (iteF (o2 rfl H1 s1))⟩
end
end Fv


namespace Fv
open PySem PySem.Spec PyProof.Rows L2 FvX TL
-- top 35  slots: 0:_law_source_here 1:_law_text_here 2:_law_at 3:_law_to 4:_law_signs_here 5:_law_sign 6:_law_way
abbrev s_law_spoilt : Stmt := topS 35
abbrev N_law_spoilt : List Str := ["_law_source_here", "_law_text_here", "_law_at", "_law_to", "_law_signs_here", "_law_sign", "_law_way"]
theorem sc_law_spoilt : FnScope N_law_spoilt ["_law_source_here", "_law_text_here"] (defScope s_law_spoilt) := ⟨rfl, rfl, rfl, by decide +kernel, rfl, by decide +kernel, by decide +kernel⟩

def spSpoilt : Sp := fun vs H Q _ => ∃ (a L : Addr) (ns : List Int) (x : Str), vs = [.ref a, .str x] ∧ Src H a L ns ∧ x.length ≤ 400 ∧ PyData.strOk x = true ∧
  ∀ (H' : Hp) (y : Str), y.length ≤ 2 * x.length + 2 → PyData.strOk y = true → Src H' a L ns → (∀ b, b ≠ a → H' b = H b) → Q (.str y) H'
theorem atI_in {α : Type} {xs : List α} {i : Int} (h0 : 0 ≤ i) (h : i < (xs.length : Nat)) : ∃ v, atI xs i = some v ∧ v ∈ xs := by
  have hk : i.toNat < xs.length := by omega
  have q : atI xs ((i.toNat : Nat) : Int) = some xs[i.toNat] := atI_nat (List.getElem?_eq_getElem hk)
  rw [show ((i.toNat : Nat) : Int) = i by omega] at q
  exact ⟨_, q, List.getElem_mem hk⟩
section
variable {P : Program} {w : World} {K : PySem.W.Frag} {mg : Str → Option Value} {base : Heap}
theorem ok_spoilt {f : Addr} {fd : FuncData} {k : Nat} (F : Fun K "_law_spoilt" "_law_spoilt" s_law_spoilt f fd) (m_len : mg "len" = none) (m_min : mg "min" = none) (m_max : mg "max" = none)
    (C_law_take : Own P w K mg base k "_law_take" ["_law_source_here", "_law_many"] spTake) :
    FnOk P w K mg base CX0 (k + 1) f fd ["_law_source_here", "_law_text_here"] spSpoilt := by
  refine F.ok sc_law_spoilt (fun vs H Q E h => ?_) (fun cdv A outer s H vs Q E hr h => ?_)
  · obtain ⟨a, L, ns, x, rfl, _⟩ := h
    rfl
  · obtain ⟨a, L, ns, x, rfl, hs, hx, hok, q⟩ := h
    refine ⟨_, (pss_cons (ps_set (i := 2) sc_law_spoilt.nd rfl (by first | exact .inl rfl | exact .inr rfl) (pe_own C_law_take (hr.mono (by omega)) (by rfl) (pa_cons (pv 0) (pa_cons (pe_op op_add (pe_callB call_len_str (by rfl) m_len (by decide +kernel) (pa_cons (pv 1) pa_nil)) pe_int) pa_nil))))
      (pss_cons (ps_set (i := 3) sc_law_spoilt.nd rfl (by first | exact .inl rfl | exact .inr rfl) (pe_own C_law_take (hr.mono (by omega)) (by rfl) (pa_cons (pv 0) (pa_cons (pe_op op_add (pe_callB call_len_str (by rfl) m_len (by decide +kernel) (pa_cons (pv 1) pa_nil)) pe_int) pa_nil))))
      (pss_cons (ps_set (i := 4) sc_law_spoilt.nd rfl (by first | exact .inl rfl | exact .inr rfl) pe_str)
      (pss_cons (ps_set (i := 5) sc_law_spoilt.nd rfl (by first | exact .inl rfl | exact .inr rfl) (pe_ix ix_str (pv 4) (pe_own C_law_take (hr.mono (by omega)) (by rfl) (pa_cons (pv 0) (pa_cons (pe_callB call_len_str (by rfl) m_len (by decide +kernel) (pa_cons (pv 4) pa_nil)) pa_nil))) (fun _ _ => rfl)))
      (pss_cons (ps_set (i := 6) sc_law_spoilt.nd rfl (by first | exact .inl rfl | exact .inr rfl) (pe_own C_law_take (hr.mono (by omega)) (by rfl) (pa_cons (pv 0) (pa_cons pe_int pa_nil))))
      (pss_cons (ps_if (pt_cmpR op_eq (pv 6) pe_int (nomark _))
        (pss_one (ps_ret (pe_op op_add_str (pe_op op_add_str (pe_slice sl_str (pv 1) po_none (po_some (pv 2))) (pv 5)) (pe_slice sl_str (pv 1) (po_some (pv 2)) po_none))))
        pss_nil)
      (pss_cons (ps_if (pt_cmpR op_eq (pv 6) pe_int (nomark _))
        (pss_one (ps_ret (pe_op op_add_str (pe_slice sl_str (pv 1) po_none (po_some (pv 2))) (pe_slice sl_str (pv 1) (po_some (pe_op op_add (pv 2) pe_int)) po_none))))
        pss_nil)
      (pss_cons (ps_if (pt_cmpR op_eq (pv 6) pe_int (nomark _))
        (pss_one (ps_ret (pe_op op_add_str (pe_op op_add_str (pe_slice sl_str (pv 1) po_none (po_some (pv 2))) (pv 5)) (pe_slice sl_str (pv 1) (po_some (pe_op op_add (pv 2) pe_int)) po_none))))
        pss_nil)
      (pss_cons (ps_if (pt_cmpR op_eq (pv 6) pe_int (nomark _))
        (pss_one (ps_ret (pe_op op_add_str (pe_slice sl_str (pv 1) po_none (po_some (pe_callB (call_min2 rfl) (by rfl) m_min (by decide +kernel) (pa_cons (pv 2) (pa_cons (pv 3) pa_nil))))) (pe_slice sl_str (pv 1) (po_some (pe_callB (call_max2 rfl) (by rfl) m_max (by decide +kernel) (pa_cons (pv 2) (pa_cons (pv 3) pa_nil)))) po_none))))
        pss_nil)
      (pss_cons (ps_if (pt_cmpR op_eq (pv 6) pe_int (nomark _))
        (pss_one (ps_ret (pe_op op_add_str (pe_slice sl_str (pv 1) po_none (po_some (pe_callB (call_max2 rfl) (by rfl) m_max (by decide +kernel) (pa_cons (pv 2) (pa_cons (pv 3) pa_nil))))) (pe_slice sl_str (pv 1) (po_some (pe_callB (call_min2 rfl) (by rfl) m_min (by decide +kernel) (pa_cons (pv 2) (pa_cons (pv 3) pa_nil)))) po_none))))
        pss_nil)
      (pss_one (ps_ret (pe_op op_add_str (pe_op op_add_str pe_str (pv 1)) pe_str))))))))))))), ?_⟩
    have fx : x.length ≤ sizeLine := fit900 (by omega)
    have big : ∀ n : Nat, n ≤ 1900 → n ≤ sizeLine := fun n h => Nat.le_trans h (by decide)
    refine ⟨_, rfl, _, rfl, x, rfl, fx, _, _, rfl, rfl, a, L, ns, _, rfl, hs, by omega, by omega, fun H1 d1 d10 d11 hs1 off1 => ?_⟩
    refine ⟨_, rfl, _, rfl, x, rfl, fx, _, _, rfl, rfl, a, L, ns, _, rfl, hs1, by omega, by omega, fun H2 d2 d20 d21 hs2 off2 => ?_⟩
    refine ⟨_, rfl, _, rfl, _, rfl, _, rfl, (by decide +kernel), a, L, ns, _, rfl, hs2, (by decide +kernel), (by decide +kernel), fun H3 d3 d30 d31 hs3 off3 => ?_⟩
    rw [len_tl] at d31
    obtain ⟨ch, hch, mch⟩ := atI_in d30 d31
    refine ⟨_, _, ch, rfl, rfl, (by decide +kernel), hch, ?_⟩
    refine ⟨_, rfl, a, L, ns, 6, rfl, hs3, by decide, by decide, fun H4 d4 d40 d41 hs4 off4 => ?_⟩
    have sok : PyData.strOk (⟨#[ch]⟩ : Str) = true := by
      have all : ∀ c ∈ tl (" &|()<:abhiA0\n-" : Str), PyData.strOk (⟨#[c]⟩ : Str) = true := by decide +kernel
      exact all ch mch
    have sl : (⟨#[ch]⟩ : Str).length = 1 := rfl
    have fin : ∀ y : Str, y.length ≤ 2 * x.length + 2 → PyData.strOk y = true → Q (.str y) H4 := fun y h1 h2 => q H4 y h1 h2 hs4 fun b hb => by rw [off4 b hb, off3 b hb, off2 b hb, off1 b hb]
    have cl := cutS_length x
    have ck := fun lo hi => cut_ok hok lo hi
    refine ⟨_, rfl, rfl, _, rfl, ite2 (fun c => ?_) (fun c => ?_)⟩
    · refine ⟨_, rfl, _, rfl, _, rfl, x, rfl, fx, _, rfl, _, _, rfl, rfl, ?_, _, rfl, _, rfl, _, rfl, x, rfl, fx, _, _, rfl, rfl, ?_, fin _ ?_ (app_ok (app_ok (ck _ _) sok) (ck _ _))⟩
      · have := cl none (some d1); exact big _ (by rw [sl]; omega)
      · have := cl none (some d1); have := cl (some d1) none; exact big _ (by rw [len_app, sl]; omega)
      · have := cl none (some d1); have := cl (some d1) none; rw [len_app, len_app, sl]; omega
    refine ⟨_, rfl, rfl, _, rfl, ite2 (fun c => ?_) (fun c => ?_)⟩
    · refine ⟨_, rfl, _, rfl, _, rfl, x, rfl, fx, _, rfl, _, rfl, _, _, rfl, rfl, _, rfl, x, rfl, fx, _, _, rfl, rfl, ?_, fin _ ?_ (app_ok (ck _ _) (ck _ _))⟩
      · have := cl none (some d1); have := cl (some (d1 + 1)) none; exact big _ (by omega)
      · have := cl none (some d1); have := cl (some (d1 + 1)) none; rw [len_app]; omega
    refine ⟨_, rfl, rfl, _, rfl, ite2 (fun c => ?_) (fun c => ?_)⟩
    · refine ⟨_, rfl, _, rfl, _, rfl, x, rfl, fx, _, rfl, _, _, rfl, rfl, ?_, _, rfl, _, rfl, _, _, rfl, rfl, _, rfl, x, rfl, fx, _, _, rfl, rfl, ?_, fin _ ?_ (app_ok (app_ok (ck _ _) sok) (ck _ _))⟩
      · have := cl none (some d1); exact big _ (by rw [sl]; omega)
      · have := cl none (some d1); have := cl (some (d1 + 1)) none; exact big _ (by rw [len_app, sl]; omega)
      · have := cl none (some d1); have := cl (some (d1 + 1)) none; rw [len_app, len_app, sl]; omega
    refine ⟨_, rfl, rfl, _, rfl, ite2 (fun c => ?_) (fun c => ?_)⟩
    · refine ⟨_, rfl, _, rfl, _, rfl, _, _, rfl, _, rfl, x, rfl, fx, _, rfl, _, rfl, _, rfl, _, _, rfl, _, rfl, x, rfl, fx, _, _, rfl, rfl, ?_, fin _ ?_ (app_ok (ck _ _) (ck _ _))⟩
      · exact big _ (Nat.le_trans (Nat.add_le_add (cl _ _) (cl _ _)) (by omega))
      · rw [len_app]; exact Nat.le_trans (Nat.add_le_add (cl _ _) (cl _ _)) (by omega)
    refine ⟨_, rfl, rfl, _, rfl, ite2 (fun c => ?_) (fun c => ?_)⟩
    · refine ⟨_, rfl, _, rfl, _, rfl, _, _, rfl, _, rfl, x, rfl, fx, _, rfl, _, rfl, _, rfl, _, _, rfl, _, rfl, x, rfl, fx, _, _, rfl, rfl, ?_, fin _ ?_ (app_ok (ck _ _) (ck _ _))⟩
      · exact big _ (Nat.le_trans (Nat.add_le_add (cl _ _) (cl _ _)) (by omega))
      · rw [len_app]; exact Nat.le_trans (Nat.add_le_add (cl _ _) (cl _ _)) (by omega)
    have e1 : ("(" : Str).length = 1 := by decide +kernel
    have e2 : (")" : Str).length = 1 := by decide +kernel
    refine ⟨_, rfl, _, _, rfl, rfl, big _ (by omega), _, _, rfl, rfl, big _ (by rw [len_app]; omega), fin _ ?_ (app_ok (app_ok (by decide +kernel) hok) (by decide +kernel))⟩
    rw [len_app, len_app]; omega
end
end Fv


namespace Fv
open PySem PySem.Spec PyProof.Rows L2 FvX TL
-- top 36  slots: 0:_law_script 1:_law_source_here 2:_law_texts 3:_law_turn 4:_law_text_here 5:_law_change 6:_law_word 7:_law_due
abbrev s_law : Stmt := topS 36
abbrev N_law : List Str := ["_law_script", "_law_source_here", "_law_texts", "_law_turn", "_law_text_here", "_law_change", "_law_word", "_law_due"]
theorem sc_law : FnScope N_law ["_law_script"] (defScope s_law) := ⟨rfl, rfl, rfl, by decide +kernel, rfl, by decide +kernel, by decide +kernel⟩

def t15 : List Str := ["", " ", "a ", " a", "ab", "i", "(a)", "(a & b)", "a & b | c", "a &b", "a  & b", "a & (b)", "()", "a & ", "& a"]
def t4 : List Str := [txt (nestD 5), txt (nestD 4), Txt.join " & " (List.replicate 24 "a"), Txt.join " | " (List.replicate 25 "b")]
def t6 : List Str := [mulS "(" 900, "a & ((b | c))", "a | (b & c) | (d | e)", "a\n", "a & b)", "((a & b) | c) & d"]
theorem t_good : ∀ x ∈ (t15 ++ t4) ++ t6, goodT x := by decide +kernel
theorem n54 : 1 ≤ lmeas 6 (nestD 5) ∧ lmeas 6 (nestD 5) ≤ 1000 ∧ 1 ≤ lmeas 6 (nestD 4) ∧ lmeas 6 (nestD 4) ≤ 1000 := by decide +kernel
def bnd : Nat → Nat
  | 0 => 185
  | 1 => 372
  | _ => 746
theorem bnd_le : ∀ i, i ≤ 2 → bnd i ≤ 900 := by decide
theorem bnd_up : ∀ i, i < 2 → bnd i ≤ 400 ∧ 2 * bnd i + 2 ≤ bnd (i + 1) := by decide
section
variable {P : Program} {w : World} {K : PySem.W.Frag} {mg : Str → Option Value} {base : Heap} {CX' CF : Addr}
set_option maxHeartbeats 600000 in
theorem ok_law {f c Pt gcall : Addr} {oc oc2 : Value} {od an od2 an2 : Option Addr} {osl osl2 : Array (Option Value)} {kV doc pm ct kV2 doc2 pm2 cdv2 ct2 : Value} {k : Nat} (hk : 32 ≤ k)
    (lk : K.lookup f = some ⟨oc, od, .func (PySem.W.fnOf "law" "law" (defArgs s_law) (defBody s_law) (defScope s_law) .none kV doc pm an (.ref c) ct), osl⟩) (hcd : PySem.W.codeIn K (.ref c) "law" = true) (TB : LamX.TabB base mg c Pt)
    (m_range : mg "range" = none)
    (l_call : K.lookup gcall = some ⟨oc2, od2, .func (PySem.W.fnOf "_law_call" "_law_call" (defArgs s_law_call) (defBody s_law_call) (defScope s_law_call) .none kV2 doc2 pm2 an2 cdv2 ct2), osl2⟩) (c_call : PySem.W.codeIn K cdv2 "_law_call" = true) (k_call : PySem.W.keepIn K (.ref gcall) = true) (g_call : mg "_law_call" = some (.ref gcall))
    (b_call : Binds K (PySem.W.fnOf "_law_call" "_law_call" (defArgs s_law_call) (defBody s_law_call) (defScope s_law_call) .none kV2 doc2 pm2 an2 cdv2 ct2) ["_law_ask"] []) (g_FE : mg "FaultError" = some (.ref CF))
    (exm : PySem.W.exmOne K (.ref CX') (.ref CF) = some true) (xf : XfC K CX') (fnd : PySem.W.findIn K (.ref CX') "code" = some none)
    (C_law_source : Own P w K mg base 1 "_law_source" ["_law_script"] (spSource K))
    (C_law_take : Own P w K mg base 1 "_law_take" ["_law_source_here", "_law_many"] spTake)
    (C_law_any_term : Own P w K mg base 8 "_law_any_term" ["_law_source_here"] (spAnyTerm K))
    (C_law_nest : Own P w K mg base 1 "_law_nest" ["_law_many"] (spNest K))
    (C_law_same : Own P w K mg base 25 "_law_same" ["_law_found", "_law_due"] (spSame K 25))
    (C_law_text : Own P w K mg base 10 "_law_text" ["_law_word"] (spText K 10))
    (C_law_read : Own P w K mg base 20 "_law_read" ["_law_text_here"] (spLRead K))
    (C_law_spoilt : Own P w K mg base 2 "_law_spoilt" ["_law_source_here", "_law_text_here"] spSpoilt)
    (C_parse_term : OwnR P w K mg base 26 "parse_term" (spParse K CX')) :
    FnOk P w K mg base CX0 (k + 1) f (PySem.W.fnOf "law" "law" (defArgs s_law) (defBody s_law) (defScope s_law) .none kV doc pm an (.ref c) ct) ["_law_script"] (spLawT K Pt) := by
  refine okC lk hcd sc_law (fun vs H Q E h => ?_) (fun A outer s H vs Q E hr h => ?_)
  · obtain ⟨a, ns, rfl, _⟩ := h
    rfl
  · obtain ⟨sc, ns, rfl, hS, h63, hPt, q⟩ := h
    refine ⟨_, (pss_cons (ps_set (i := 1) sc_law.nd rfl (by first | exact .inl rfl | exact .inr rfl) (pe_own C_law_source (hr.mono (by omega)) (by rfl) (pa_cons (pv 0) pa_nil)))
      (pss_cons (ps_set (i := 2) sc_law.nd rfl (by first | exact .inl rfl | exact .inr rfl) (pe_lst (pa_cons pe_str (pa_cons pe_str (pa_cons pe_str (pa_cons pe_str (pa_cons pe_str (pa_cons pe_str (pa_cons pe_str (pa_cons pe_str (pa_cons pe_str (pa_cons pe_str (pa_cons pe_str (pa_cons pe_str (pa_cons pe_str (pa_cons pe_str (pa_cons pe_str pa_nil)))))))))))))))))
      (pss_cons (ps_set (i := 2) sc_law.nd rfl (by first | exact .inl rfl | exact .inr rfl) (pe_op op_cat (pv 2) (pe_lst (pa_cons (pe_own C_law_text (hr.mono (by omega)) (by rfl) (pa_cons (pe_own C_law_nest (hr.mono (by omega)) (by rfl) (pa_cons pe_int pa_nil)) pa_nil)) (pa_cons (pe_own C_law_text (hr.mono (by omega)) (by rfl) (pa_cons (pe_own C_law_nest (hr.mono (by omega)) (by rfl) (pa_cons pe_int pa_nil)) pa_nil)) (pa_cons (pe_join pe_str (pe_op op_rep (pe_lst (pa_cons pe_str pa_nil)) pe_int)) (pa_cons (pe_join pe_str (pe_op op_rep (pe_lst (pa_cons pe_str pa_nil)) pe_int)) pa_nil)))))))
      (pss_cons (ps_set (i := 2) sc_law.nd rfl (by first | exact .inl rfl | exact .inr rfl) (pe_op op_cat (pv 2) (pe_lst (pa_cons (pe_op op_mulS pe_str pe_int) (pa_cons pe_str (pa_cons pe_str (pa_cons pe_str (pa_cons pe_str (pa_cons pe_str pa_nil)))))))))
      (pss_cons (ps_for PassesOwn.never rfl (pi_range1 (by rfl) m_range (pa_cons pe_int pa_nil)) (pg_name (i := 3) sc_law.nd rfl (by first | exact .inl rfl | exact .inr rfl))
        (pss_cons (ps_set (i := 4) sc_law.nd rfl (by first | exact .inl rfl | exact .inr rfl) (pe_own C_law_text (hr.mono (by omega)) (by rfl) (pa_cons (pe_own C_law_any_term (hr.mono (by omega)) (by rfl) (pa_cons (pv 1) pa_nil)) pa_nil)))
        (pss_cons (ps_for PassesOwn.never rfl (pi_range1 (by rfl) m_range (pa_cons (pe_own C_law_take (hr.mono (by omega)) (by rfl) (pa_cons (pv 1) (pa_cons pe_int pa_nil))) pa_nil)) (pg_name (i := 5) sc_law.nd rfl (by first | exact .inl rfl | exact .inr rfl))
          (pss_one (ps_set (i := 4) sc_law.nd rfl (by first | exact .inl rfl | exact .inr rfl) (pe_own C_law_spoilt (hr.mono (by omega)) (by rfl) (pa_cons (pv 1) (pa_cons (pv 4) pa_nil))))))
        (pss_one (ps_expr (pe_bm PySem.F.plainAttrs_list PySem.F.slot_list_append PySem.F.type_list_append mt_append (pv 2) (pa_cons (pv 4) pa_nil)))))))
      (pss_cons (ps_for PassesOwn.never rfl (pi_list (pv 2)) (pg_name (i := 4) sc_law.nd rfl (by first | exact .inl rfl | exact .inr rfl))
        (pss_cons (ps_set (i := 6) sc_law.nd rfl (by first | exact .inl rfl | exact .inr rfl) (pe_own C_law_read (hr.mono (by omega)) (by rfl) (pa_cons (pv 4) pa_nil)))
        (pss_cons (ps_set (i := 7) sc_law.nd rfl (by first | exact .inl rfl | exact .inr rfl) (pe_ifExp (pt_cmpR op_isN (pv 6) pe_non (nomark _)) (pe_tup (pa_cons pe_non (pa_cons pe_str pa_nil))) (pe_tup (pa_cons (pv 6) (pa_cons pe_str pa_nil)))))
        (pss_one (ps_if (pt_not (pt_val (pe_own C_law_same (hr.mono (by omega)) (by rfl) (pa_cons (pe_lamS (T := TT0 Pt) (TT := TCall K CF) (Ng := N_law_call) (k := 30) (by rfl) g_call k_call l_call c_call b_call sc_law_call rfl (.inl rfl) (call_gives g_FE) TB rfl (List.mem_singleton.mpr rfl) (fun p hp _ => by rw [List.mem_singleton.mp hp]; rfl) (hr.mono (by omega)) (LamX.lamS_by (sc := defScope s_law) (by decide +kernel)) rfl (fun _ _ _ _ _ => rfl) (fun A outer s H E lf lc hr2 => pe_ownR C_parse_term (hr2.mono (by omega)) (by rfl) (passes_call (takes_of rfl rfl rfl rfl) (fun _ _ _ _ h => h)) (pa_cons (pv 4) pa_nil))) (pa_cons (pv 7) pa_nil)))))
          (pss_one (ps_ret pe_bl))
          pss_nil)))))
      (pss_one (ps_ret pe_bl)))))))), ?_⟩
    have tab0 : LamX.Tabs (TT0 Pt) H := fun p hp => by
      rw [List.mem_singleton.mp hp]
      exact LamX.TabS.nil hPt
    refine ⟨_, rfl, sc, ns, rfl, hS, h63, fun H0 a L s0 na nL hs0 => ?_⟩
    have ma : ∀ {a : Addr}, a ∈ [a] := List.mem_singleton.mpr rfl
    -- the written texts
    refine ⟨(by show 15 ≤ sizeLine; decide), fun p1 np1 => ?_⟩
    have z1 := same_upd (o := .lst (t15.map V.str)) np1
    have hp1 : (upd H0 p1 (.lst (t15.map V.str))) p1 = some (.lst (t15.map V.str)) := upd_same
    refine ⟨_, rfl, 5, [a], rfl, by decide, (hs0.same z1).trk, fun H2 v2 hd2 s2 => ?_⟩
    refine ⟨v2, nestD 5, 6, rfl, dp_same hide_same _ _ hd2, gd_le (nest_gd 5) (by decide), by decide, n54.1, n54.2.1, fun H3 s3 => ?_⟩
    refine ⟨4, [a], rfl, by decide, (hs0.same (z1.trans (s2.trans s3))).trk, fun H4 v4 hd4 s4 => ?_⟩
    refine ⟨v4, nestD 4, 6, rfl, dp_same hide_same _ _ hd4, gd_le (nest_gd 4) (by decide), by decide, n54.2.2.1, n54.2.2.2, fun H5 s5 => ?_⟩
    refine ⟨⟨_, rfl⟩, (by show 1 ≤ sizeLine; decide), fun q1 nq1 => ⟨q1, _, _, rfl, rfl, upd_same, by decide, by decide, (by show 1 * 24 ≤ sizeLine; decide), fun q2 nq2 => ⟨_, q2, List.replicate 24 "a", rfl, rfl, .inl (SqL.of (by rw [upd_same]; rfl)), (by decide +kernel), ?_⟩⟩⟩
    refine ⟨⟨_, rfl⟩, (by show 1 ≤ sizeLine; decide), fun q3 nq3 => ⟨q3, _, _, rfl, rfl, upd_same, by decide, by decide, (by show 1 * 25 ≤ sizeLine; decide), fun q4 nq4 => ⟨_, q4, List.replicate 25 "b", rfl, rfl, .inl (SqL.of (by rw [upd_same]; rfl)), (by decide +kernel), ?_⟩⟩⟩
    refine ⟨(by show 4 ≤ sizeLine; decide), fun p2 np2 => ?_⟩
    have S5 := s2.trans (s3.trans (s4.trans (s5.trans ((same_upd nq1).trans ((same_upd nq2).trans ((same_upd nq3).trans ((same_upd nq4).trans (same_upd (o := .lst (t4.map V.str)) np2))))))))
    refine ⟨p1, p2, t15.map V.str, t4.map V.str, rfl, rfl, S5 _ _ hp1, upd_same, (by show 19 ≤ sizeLine; decide), fun p3 np3 => ?_⟩
    have S6 := S5.trans (same_upd (o := .lst (t15.map V.str ++ t4.map V.str)) np3)
    refine ⟨_, rfl, "(", 900, rfl, rfl, by decide, by decide, by decide +kernel, by decide +kernel, (by show 6 ≤ sizeLine; decide), fun p4 np4 => ?_⟩
    have S7 := S6.trans (same_upd (o := .lst (t6.map V.str)) np4)
    refine ⟨p3, p4, t15.map V.str ++ t4.map V.str, t6.map V.str, rfl, rfl, (same_upd np4) _ _ upd_same, upd_same, (by show 25 ≤ sizeLine; decide), fun p np => ?_⟩
    have S8 := z1.trans (S7.trans (same_upd (o := .lst (t15.map V.str ++ t4.map V.str ++ t6.map V.str)) np))
    have S9 := s0.trans S8
    have hpb : ∀ X : Hp, (upd X p (.lst (t15.map V.str ++ t4.map V.str ++ t6.map V.str))) p = some (.lst (((t15 ++ t4) ++ t6).map V.str)) := fun X => by
      rw [upd_same, List.map_append, List.map_append]
    have hsb := hs0.same S8
    have pa : p ≠ a := fun z => by
      obtain ⟨_, _, _, _, e, _⟩ := hsb
      rw [← z, hpb _] at e
      simp [t15] at e
    have pL : p ≠ L := fun z => by
      obtain ⟨_, _, _, _, _, e, _⟩ := hsb
      rw [← z, hpb _] at e
      cases ns with
      | nil => simp [t15] at e
      | cons n r => simp [t15] at e
    refine ⟨8, rfl, by decide, by decide, for_range (lo := 0) (n := (8 : Int).toNat) (fun i σ Hi => ∃ (y3 y4 y5 : Option V) (xs : List Str), σ = [some (.ref sc), some (.ref a), some (.ref p), y3, y4, y5, none, none] ∧ Src Hi a L ns ∧ LamX.Tabs (TT0 Pt) Hi ∧ Hi p = some (.lst (xs.map V.str)) ∧ (∀ x ∈ xs, goodT x) ∧ xs.length ≤ 25 + i) ?_ ?_ ?_⟩
    · exact ⟨none, none, none, _, rfl, hsb, tabs_same tab0 S9, hpb _, t_good, (by decide +kernel)⟩
    · rintro i σ Hi hi ⟨y3, y4, y5, xs, rfl, hsi, ti, hpi, gx, lx⟩
      refine ⟨_, rfl, a, L, ns, [a], rfl, hsi, ma, hsi.trk, fun H1 v d n hd n1 n5 l1 l24 hg hs1 sm1 => ?_⟩
      have t1 : LamX.Tabs (TT0 Pt) H1 := tabs_smx ti sm1 hsi.lst
      have np1 : p ∉ [a] := fun z => pa (List.mem_singleton.mp z)
      refine ⟨v, d, n, rfl, dp_same hide_same d v hd, gd_le hg (by omega), by omega, l1, by omega, fun H2 s2 => ?_⟩
      have hs2 := hs1.same s2
      have hp2 : H2 p = some (.lst (xs.map V.str)) := s2 _ _ (sm1 _ _ np1 hpi)
      have t2 := tabs_same t1 s2
      refine ⟨_, rfl, a, L, ns, 3, rfl, hs2, by decide, by decide, fun H3 e e0 e3 hs3 off3 => ?_⟩
      have sm3 : SmX [a] H2 H3 := SmX.at off3 ma
      have hp3 := sm3 _ _ np1 hp2
      have t3 := tabs_smx t2 sm3 hs2.lst
      refine ⟨e, rfl, by omega, by omega, for_range (lo := 0) (n := e.toNat) (fun j σ Hj => ∃ (y5 : Option V) (x : Str), σ = [some (.ref sc), some (.ref a), some (.ref p), some (.int (0 + i)), some (.str x), y5, none, none] ∧ Src Hj a L ns ∧ LamX.Tabs (TT0 Pt) Hj ∧ Hj p = some (.lst (xs.map V.str)) ∧ x.length ≤ bnd j ∧ PyData.strOk x = true) ?_ ?_ ?_⟩
      · have tl8 := txt_len n d l1
        exact ⟨_, txt d, rfl, hs3, t3, hp3, (by show _ ≤ 185; omega), txt_ok n d l1⟩
      · rintro j σ Hj hj ⟨y5, x, rfl, hsj, tj, hpj, lxj, okj⟩
        obtain ⟨b1, b2⟩ := bnd_up j (by omega)
        refine ⟨_, rfl, _, rfl, a, L, ns, x, rfl, hsj, by omega, okj, fun H4 y ly oky hs4 off4 => ?_⟩
        have sm4 : SmX [a] Hj H4 := SmX.at off4 ma
        exact ⟨_, y, rfl, hs4, tabs_smx tj sm4 hsj.lst, sm4 _ _ np1 hpj, by omega, oky⟩
      · rintro σ Hj ⟨y5, x, rfl, hsj, tj, hpj, lxj, okj⟩
        have b3 := bnd_le e.toNat (by omega)
        refine ⟨_, rfl, .inl ⟨rfl, _, SqL.of hpj⟩, _, rfl, p, _, _, rfl, rfl, hpj, ?_, ?_⟩
        · rw [List.length_map]
          have : i < 8 := hi
          exact Nat.lt_of_lt_of_le (by omega : xs.length < 1000) (by decide)
        refine ⟨_, _, _, xs ++ [x], rfl, hsj.put pa pL, ?_, ?_, fun y hy => ?_, ?_⟩
        · exact tabs_smx tj (SmX.put (M := [p]) (SmX.refl _ _) (List.mem_singleton.mpr rfl)) fun b hb => by rw [List.mem_singleton.mp hb]; exact ⟨_, hpj⟩
        · rw [upd_same, List.map_append]; rfl
        · rcases List.mem_append.mp hy with z | z
          · exact gx y z
          · rw [List.mem_singleton.mp z]; exact ⟨by omega, okj⟩
        · rw [List.length_append, List.length_singleton]; omega
    · rintro σ Hi ⟨y3, y4, y5, xs, rfl, hsi, ti, hpi, gx, lx⟩
      refine ⟨_, rfl, p, rfl, ⟨_, SqL.of hpi⟩, for_list (xs := xs.map V.str) (fun i σ Hj => ∃ (y4 y6 y7 : Option V), σ = [some (.ref sc), some (.ref a), some (.ref p), y3, y4, y5, y6, y7] ∧ LamX.Tabs (TT0 Pt) Hj ∧ Hj p = some (.lst (xs.map V.str))) ?_ ?_ ?_ ?_⟩
      · exact ⟨_, _, _, rfl, ti, hpi⟩
      · rintro i σ Hj _ ⟨y4, y6, y7, rfl, tj, hpj⟩
        exact SqL.of hpj
      · rintro i y σ Hj hy ⟨y4, y6, y7, rfl, tj, hpj⟩
        obtain ⟨x, mx, rfl⟩ := List.mem_map.mp (List.mem_of_getElem? hy)
        obtain ⟨gl, gok⟩ := gx x mx
        have trk0 : ∀ H : Hp, Trk [] H := fun H b hb => nomatch hb
        have keep : ∀ {H1 : Hp}, Same Hj H1 → LamX.Tabs (TT0 Pt) H1 ∧ H1 p = some (.lst (xs.map V.str)) := fun {H1} s1 => ⟨tabs_same tj s1, s1 _ _ hpj⟩
        refine ⟨_, rfl, x, [], rfl, gl, gok, trk0 _, fun d ed H1 v s1 hv => ?_, fun ed H1 s1 => ?_⟩
        · have tm := (prs_sound ed).2
          obtain ⟨l1, l24⟩ := (tmB_iff d).mp tm
          have hg := gd_lmeas 5 d l1 (by omega)
          have nv : v ≠ .non := fun z => by
            subst z
            cases hv
            exact absurd l1 (by decide)
          have hv1 : Dp K H1 v d := dp_same hide_same d v hv
          refine ⟨_, rfl, rfl, _, rfl, ?_⟩
          rw [decide_eq_false nv]
          refine iteF ⟨_, rfl, (by show 2 ≤ sizeLine; decide), fun p5 np5 => ?_⟩
          have s5 := same_upd (o := .tup [v, .str ""]) np5
          obtain ⟨t5, hp5⟩ := keep (s1.trans s5)
          refine ⟨t5, fun H6 eN T6 R E hR hE => ⟨_, rfl, x, [], rfl, gl, gok, trk0 _, fun d7 e7 H7 v7 s7 hv7 => ?_, fun e7 => (by rw [ed] at e7; cases e7)⟩⟩
          rw [ed] at e7
          cases e7
          refine hR v7 H7 fun p8 np8 => ?_
          have s8 := same_upd (o := .tup [v7, .str ""]) np8
          have D8 : Dp K (upd H7 p8 (.tup [v7, .str ""])) (.ref p8) (.tuple [d, .str ""]) := .tup (SqT.of upd_same) (.cons (dp_same (hide_same.trans s8) _ _ hv7) (.cons (.str _) .nil))
          have D5 : Dp K (upd H1 p5 (.tup [v, .str ""])) (.ref p5) (.tuple [d, .str ""]) := .tup (SqT.of upd_same) (.cons (dp_same s5 _ _ hv1) (.cons (.str _) .nil))
          refine ⟨_, rfl, .ref p8, .ref p5, .tuple [d, .str ""], 6, rfl, D8, dp_same (s7.trans s8) _ _ (dp_ext eN _ _ D5), by decide, gd_tup (n := 5) (fun z hz => ?_) (by show 2 ≤ 1000; decide), fun H9 s9 => ⟨_, rfl, iteF ?_⟩⟩
          · simp only [List.mem_cons, List.not_mem_nil, or_false] at hz
            rcases hz with e | e
            · rw [e]; exact hg
            · rw [e]; decide +kernel
          · have s79 := s7.trans (s8.trans s9)
            exact ⟨_, _, _, rfl, tabs_same T6 s79, s79 _ _ (eN _ _ hp5 fun ps z => by cases z)⟩
        · refine ⟨_, rfl, rfl, _, rfl, iteT ⟨(by show 2 ≤ sizeLine; decide), fun p5 np5 => ?_⟩⟩
          have s5 := same_upd (o := .tup [.non, .str "InvalidText"]) np5
          obtain ⟨t5, hp5⟩ := keep (s1.trans s5)
          refine ⟨t5, fun H6 eN T6 R E hR hE => ⟨_, rfl, x, [], rfl, gl, gok, trk0 _, fun d7 e7 => (by rw [ed] at e7; cases e7), fun e7 H7 dd s7 hdd => hE CX' dd H7 _ _ exm xf fnd hdd rfl fun p8 np8 => ?_⟩⟩
          have s8 := same_upd (o := .tup [.non, .str "InvalidText"]) np8
          have D8 : Dp K (upd H7 p8 (.tup [.non, .str "InvalidText"])) (.ref p8) (.tuple [.none, .str "InvalidText"]) := .tup (SqT.of upd_same) (.cons .non (.cons (.str _) .nil))
          have D5 : Dp K (upd H1 p5 (.tup [.non, .str "InvalidText"])) (.ref p5) (.tuple [.none, .str "InvalidText"]) := .tup (SqT.of upd_same) (.cons .non (.cons (.str _) .nil))
          refine ⟨_, rfl, .ref p8, .ref p5, .tuple [.none, .str "InvalidText"], 6, rfl, D8, dp_same (s7.trans s8) _ _ (dp_ext eN _ _ D5), by decide, by decide +kernel, fun H9 s9 => ⟨_, rfl, iteF ?_⟩⟩
          have s79 := s7.trans (s8.trans s9)
          exact ⟨_, _, _, rfl, tabs_same T6 s79, s79 _ _ (eN _ _ hp5 fun ps z => by cases z)⟩
      · rintro σ Hj ⟨y4, y6, y7, rfl, tj, hpj⟩
        exact q _
end
end Fv


namespace Fv
open PySem PySem.Spec PyProof.Rows L2 FvX
abbrev s_InvalidText : Stmt := inClass (topS 2) 0
def q_InvalidText : ErrPos := { p0 := ⟨7, 8, 7, 13⟩, p1 := ⟨7, 8, 7, 15⟩, p2 := ⟨7, 8, 7, 24⟩, p3 := ⟨7, 25, 7, 63⟩, p4 := ⟨7, 8, 7, 64⟩, p5 := ⟨7, 8, 7, 64⟩, p6 := ⟨8, 8, 8, 12⟩, p7 := ⟨8, 8, 8, 17⟩, p8 := ⟨8, 20, 8, 33⟩, p9 := ⟨8, 8, 8, 33⟩, pp := ⟨6, 17, 6, 21⟩ }
theorem kw_all {K : PySem.W.Frag} {D : Addr} {kws : List (Str × V)} (h : ∀ q ∈ kws, ∃ u, PySem.W.nsIn K D q.1 = some (some u) ∧ RelV q.2 u) : ∀ q ∈ kws, ∃ u, PySem.W.nsIn K D q.1 = some (some u) ∧ RelV q.2 u := h
theorem all_mk {l : PySem.W.OpenLaw} {w : World} {K : PySem.W.Frag} {h : Heap} {mg : Str → Option Value} {fa : Addr} (X : K.In h) (G : h.Ns mainGlobals mg) (hfa : mg "law" = some (.ref fa))
    {f1 : Addr} {od1 an1 : Option Addr} {sl1 : Array (Option Value)} {oc1 dc1 pm1 cd1 ct1 : Value}
    {kV1 : Value}
    {f2 : Addr} {od2 an2 : Option Addr} {sl2 : Array (Option Value)} {oc2 dc2 pm2 cd2 ct2 : Value}
    {kV2 : Value}
    {f3 : Addr} {od3 an3 : Option Addr} {sl3 : Array (Option Value)} {oc3 dc3 pm3 cd3 ct3 : Value}
    {kV3 : Value}
    {f4 : Addr} {od4 an4 : Option Addr} {sl4 : Array (Option Value)} {oc4 dc4 pm4 cd4 ct4 : Value}
    {D4 : Addr} {w4_0 : Tok} {w4_1 : Tok}
    {f5 : Addr} {od5 an5 : Option Addr} {sl5 : Array (Option Value)} {oc5 dc5 pm5 cd5 ct5 : Value}
    {kV5 : Value}
    {f6 : Addr} {od6 an6 : Option Addr} {sl6 : Array (Option Value)} {oc6 dc6 pm6 cd6 ct6 : Value}
    {kV6 : Value}
    {f7 : Addr} {od7 an7 : Option Addr} {sl7 : Array (Option Value)} {oc7 dc7 pm7 cd7 ct7 : Value}
    {kV7 : Value}
    {f8 : Addr} {od8 an8 : Option Addr} {sl8 : Array (Option Value)} {oc8 dc8 pm8 cd8 ct8 : Value}
    {kV8 : Value}
    {f9 : Addr} {od9 an9 : Option Addr} {sl9 : Array (Option Value)} {oc9 dc9 pm9 cd9 ct9 : Value}
    {kV9 : Value}
    {f10 : Addr} {od10 an10 : Option Addr} {sl10 : Array (Option Value)} {oc10 dc10 pm10 cd10 ct10 : Value}
    {kV10 : Value}
    {f11 : Addr} {od11 an11 : Option Addr} {sl11 : Array (Option Value)} {oc11 dc11 pm11 cd11 ct11 : Value}
    {kV11 : Value}
    {f12 : Addr} {od12 an12 : Option Addr} {sl12 : Array (Option Value)} {oc12 dc12 pm12 cd12 ct12 : Value}
    {kV12 : Value}
    {f13 : Addr} {od13 an13 : Option Addr} {sl13 : Array (Option Value)} {oc13 dc13 pm13 cd13 ct13 : Value}
    {kV13 : Value}
    {f14 : Addr} {od14 an14 : Option Addr} {sl14 : Array (Option Value)} {oc14 dc14 pm14 cd14 ct14 : Value}
    {kV14 : Value}
    {f15 : Addr} {od15 an15 : Option Addr} {sl15 : Array (Option Value)} {oc15 dc15 pm15 cd15 ct15 : Value}
    {kV15 : Value}
    {f16 : Addr} {od16 an16 : Option Addr} {sl16 : Array (Option Value)} {oc16 dc16 pm16 cd16 ct16 : Value}
    {kV16 : Value}
    {f17 : Addr} {od17 an17 : Option Addr} {sl17 : Array (Option Value)} {oc17 dc17 pm17 cd17 ct17 : Value}
    {kV17 : Value}
    {f18 : Addr} {od18 an18 : Option Addr} {sl18 : Array (Option Value)} {oc18 dc18 pm18 cd18 ct18 : Value}
    {kV18 : Value}
    {f19 : Addr} {od19 an19 : Option Addr} {sl19 : Array (Option Value)} {oc19 dc19 pm19 cd19 ct19 : Value}
    {kV19 : Value}
    {f20 : Addr} {od20 an20 : Option Addr} {sl20 : Array (Option Value)} {oc20 dc20 pm20 cd20 ct20 : Value}
    {kV20 : Value}
    {f21 : Addr} {od21 an21 : Option Addr} {sl21 : Array (Option Value)} {oc21 dc21 pm21 cd21 ct21 : Value}
    {kV21 : Value}
    {f22 : Addr} {od22 an22 : Option Addr} {sl22 : Array (Option Value)} {oc22 dc22 pm22 cd22 ct22 : Value}
    {kV22 : Value}
    {f23 : Addr} {od23 an23 : Option Addr} {sl23 : Array (Option Value)} {oc23 dc23 pm23 cd23 ct23 : Value}
    {kV23 : Value}
    {f24 : Addr} {od24 an24 : Option Addr} {sl24 : Array (Option Value)} {oc24 dc24 pm24 cd24 ct24 : Value}
    {kV24 : Value}
    {ctLETTERS : Tok}
    {oA1 : Addr} {ob1 : Option Addr} {on1 : Nat} {os1 : Array (Option Value)} {ot1_0 : Tok} {ot1_1 : Tok}
    {ctMAX_DEPTH : Tok}
    {ctMAX_SIZE : Tok}
    {oA4 : Addr} {ob4 : Option Addr} {on4 : Nat} {os4 : Array (Option Value)} {ot4_0 : Tok} {ot4_1 : Tok}
    {CF : Addr}
    {C_InvalidText f_InvalidText : Addr} {eoc_InvalidText : Value} {eod_InvalidText ean_InvalidText : Option Addr} {eosl_InvalidText : Array (Option Value)} {ekV_InvalidText edoc_InvalidText epm_InvalidText ect_InvalidText : Value} {cda_InvalidText ecc_InvalidText : Addr} {eccl_InvalidText ecl_InvalidText : Value} {ecdd_InvalidText ecld_InvalidText : Option Addr} {evs_InvalidText : Array Value} {eccs_InvalidText ecsl_InvalidText : Array (Option Value)} {efile_InvalidText : Str} {etf_InvalidText : Tok}
    {nm_InvalidText eq_InvalidText : Str} {eN_InvalidText : Addr} {ebs_InvalidText ebm_InvalidText : List Value} {esn_InvalidText : List Str} {esub_InvalidText : List Value} {eab_InvalidText : Bool} {ecol_InvalidText : Option Bool} {edd_InvalidText : Option Addr} {ek0_InvalidText ek1_InvalidText ek2_InvalidText ek3_InvalidText ek5_InvalidText : Option Value}
    (a1 : PySem.W.nsIn K mainGlobals "is_letter" = some (some (.ref f1))) (l1 : K.lookup f1 = some ⟨oc1, od1, .func (PySem.W.fnOf "is_letter" "is_letter" (defArgs s_is_letter) (defBody s_is_letter) (defScope s_is_letter) .none kV1 dc1 pm1 an1 cd1 ct1), sl1⟩) (c1 : PySem.W.codeIn K cd1 "is_letter" = true) (k1 : PySem.W.keepIn K (.ref f1) = true)
    (a2 : PySem.W.nsIn K mainGlobals "is_compound" = some (some (.ref f2))) (l2 : K.lookup f2 = some ⟨oc2, od2, .func (PySem.W.fnOf "is_compound" "is_compound" (defArgs s_is_compound) (defBody s_is_compound) (defScope s_is_compound) .none kV2 dc2 pm2 an2 cd2 ct2), sl2⟩) (c2 : PySem.W.codeIn K cd2 "is_compound" = true) (k2 : PySem.W.keepIn K (.ref f2) = true)
    (a3 : PySem.W.nsIn K mainGlobals "measured" = some (some (.ref f3))) (l3 : K.lookup f3 = some ⟨oc3, od3, .func (PySem.W.fnOf "measured" "measured" (defArgs s_measured) (defBody s_measured) (defScope s_measured) .none kV3 dc3 pm3 an3 cd3 ct3), sl3⟩) (c3 : PySem.W.codeIn K cd3 "measured" = true) (k3 : PySem.W.keepIn K (.ref f3) = true)
    (a4 : PySem.W.nsIn K mainGlobals "is_term" = some (some (.ref f4))) (l4 : K.lookup f4 = some ⟨oc4, od4, .func (PySem.W.fnOf "is_term" "is_term" (defArgs s_is_term) (defBody s_is_term) (defScope s_is_term) .none (.ref D4) dc4 pm4 an4 cd4 ct4), sl4⟩) (c4 : PySem.W.codeIn K cd4 "is_term" = true) (k4 : PySem.W.keepIn K (.ref f4) = true)
    (x4_0 : PySem.W.nsIn K D4 "max_depth" = some (some (.int 5 w4_0)))
    (x4_1 : PySem.W.nsIn K D4 "max_size" = some (some (.int 24 w4_1)))
    (a5 : PySem.W.nsIn K mainGlobals "parse_term" = some (some (.ref f5))) (l5 : K.lookup f5 = some ⟨oc5, od5, .func (PySem.W.fnOf "parse_term" "parse_term" (defArgs s_parse_term) (defBody s_parse_term) (defScope s_parse_term) .none kV5 dc5 pm5 an5 cd5 ct5), sl5⟩) (c5 : PySem.W.codeIn K cd5 "parse_term" = true) (k5 : PySem.W.keepIn K (.ref f5) = true)
    (a6 : PySem.W.nsIn K mainGlobals "read_term" = some (some (.ref f6))) (l6 : K.lookup f6 = some ⟨oc6, od6, .func (PySem.W.fnOf "read_term" "read_term" (defArgs s_read_term) (defBody s_read_term) (defScope s_read_term) .none kV6 dc6 pm6 an6 cd6 ct6), sl6⟩) (c6 : PySem.W.codeIn K cd6 "read_term" = true) (k6 : PySem.W.keepIn K (.ref f6) = true)
    (a7 : PySem.W.nsIn K mainGlobals "read_part" = some (some (.ref f7))) (l7 : K.lookup f7 = some ⟨oc7, od7, .func (PySem.W.fnOf "read_part" "read_part" (defArgs s_read_part) (defBody s_read_part) (defScope s_read_part) .none kV7 dc7 pm7 an7 cd7 ct7), sl7⟩) (c7 : PySem.W.codeIn K cd7 "read_part" = true) (k7 : PySem.W.keepIn K (.ref f7) = true)
    (a8 : PySem.W.nsIn K mainGlobals "_law_source" = some (some (.ref f8))) (l8 : K.lookup f8 = some ⟨oc8, od8, .func (PySem.W.fnOf "_law_source" "_law_source" (defArgs s_law_source) (defBody s_law_source) (defScope s_law_source) .none kV8 dc8 pm8 an8 cd8 ct8), sl8⟩) (c8 : PySem.W.codeIn K cd8 "_law_source" = true) (k8 : PySem.W.keepIn K (.ref f8) = true)
    (a9 : PySem.W.nsIn K mainGlobals "_law_take" = some (some (.ref f9))) (l9 : K.lookup f9 = some ⟨oc9, od9, .func (PySem.W.fnOf "_law_take" "_law_take" (defArgs s_law_take) (defBody s_law_take) (defScope s_law_take) .none kV9 dc9 pm9 an9 cd9 ct9), sl9⟩) (c9 : PySem.W.codeIn K cd9 "_law_take" = true) (k9 : PySem.W.keepIn K (.ref f9) = true)
    (a10 : PySem.W.nsIn K mainGlobals "_law_pick" = some (some (.ref f10))) (l10 : K.lookup f10 = some ⟨oc10, od10, .func (PySem.W.fnOf "_law_pick" "_law_pick" (defArgs s_law_pick) (defBody s_law_pick) (defScope s_law_pick) .none kV10 dc10 pm10 an10 cd10 ct10), sl10⟩) (c10 : PySem.W.codeIn K cd10 "_law_pick" = true) (k10 : PySem.W.keepIn K (.ref f10) = true)
    (a11 : PySem.W.nsIn K mainGlobals "_law_mixed" = some (some (.ref f11))) (l11 : K.lookup f11 = some ⟨oc11, od11, .func (PySem.W.fnOf "_law_mixed" "_law_mixed" (defArgs s_law_mixed) (defBody s_law_mixed) (defScope s_law_mixed) .none kV11 dc11 pm11 an11 cd11 ct11), sl11⟩) (c11 : PySem.W.codeIn K cd11 "_law_mixed" = true) (k11 : PySem.W.keepIn K (.ref f11) = true)
    (a12 : PySem.W.nsIn K mainGlobals "_law_same" = some (some (.ref f12))) (l12 : K.lookup f12 = some ⟨oc12, od12, .func (PySem.W.fnOf "_law_same" "_law_same" (defArgs s_law_same) (defBody s_law_same) (defScope s_law_same) .none kV12 dc12 pm12 an12 cd12 ct12), sl12⟩) (c12 : PySem.W.codeIn K cd12 "_law_same" = true) (k12 : PySem.W.keepIn K (.ref f12) = true)
    (a13 : PySem.W.nsIn K mainGlobals "_law_call" = some (some (.ref f13))) (l13 : K.lookup f13 = some ⟨oc13, od13, .func (PySem.W.fnOf "_law_call" "_law_call" (defArgs s_law_call) (defBody s_law_call) (defScope s_law_call) .none kV13 dc13 pm13 an13 cd13 ct13), sl13⟩) (c13 : PySem.W.codeIn K cd13 "_law_call" = true) (k13 : PySem.W.keepIn K (.ref f13) = true)
    (a14 : PySem.W.nsIn K mainGlobals "_law_text" = some (some (.ref f14))) (l14 : K.lookup f14 = some ⟨oc14, od14, .func (PySem.W.fnOf "_law_text" "_law_text" (defArgs s_law_text) (defBody s_law_text) (defScope s_law_text) .none kV14 dc14 pm14 an14 cd14 ct14), sl14⟩) (c14 : PySem.W.codeIn K cd14 "_law_text" = true) (k14 : PySem.W.keepIn K (.ref f14) = true)
    (a15 : PySem.W.nsIn K mainGlobals "_law_leaves" = some (some (.ref f15))) (l15 : K.lookup f15 = some ⟨oc15, od15, .func (PySem.W.fnOf "_law_leaves" "_law_leaves" (defArgs s_law_leaves) (defBody s_law_leaves) (defScope s_law_leaves) .none kV15 dc15 pm15 an15 cd15 ct15), sl15⟩) (c15 : PySem.W.codeIn K cd15 "_law_leaves" = true) (k15 : PySem.W.keepIn K (.ref f15) = true)
    (a16 : PySem.W.nsIn K mainGlobals "_law_term" = some (some (.ref f16))) (l16 : K.lookup f16 = some ⟨oc16, od16, .func (PySem.W.fnOf "_law_term" "_law_term" (defArgs s_law_term) (defBody s_law_term) (defScope s_law_term) .none kV16 dc16 pm16 an16 cd16 ct16), sl16⟩) (c16 : PySem.W.codeIn K cd16 "_law_term" = true) (k16 : PySem.W.keepIn K (.ref f16) = true)
    (a17 : PySem.W.nsIn K mainGlobals "_law_any_term" = some (some (.ref f17))) (l17 : K.lookup f17 = some ⟨oc17, od17, .func (PySem.W.fnOf "_law_any_term" "_law_any_term" (defArgs s_law_any_term) (defBody s_law_any_term) (defScope s_law_any_term) .none kV17 dc17 pm17 an17 cd17 ct17), sl17⟩) (c17 : PySem.W.codeIn K cd17 "_law_any_term" = true) (k17 : PySem.W.keepIn K (.ref f17) = true)
    (a18 : PySem.W.nsIn K mainGlobals "_law_signs" = some (some (.ref f18))) (l18 : K.lookup f18 = some ⟨oc18, od18, .func (PySem.W.fnOf "_law_signs" "_law_signs" (defArgs s_law_signs) (defBody s_law_signs) (defScope s_law_signs) .none kV18 dc18 pm18 an18 cd18 ct18), sl18⟩) (c18 : PySem.W.codeIn K cd18 "_law_signs" = true) (k18 : PySem.W.keepIn K (.ref f18) = true)
    (a19 : PySem.W.nsIn K mainGlobals "_law_nest" = some (some (.ref f19))) (l19 : K.lookup f19 = some ⟨oc19, od19, .func (PySem.W.fnOf "_law_nest" "_law_nest" (defArgs s_law_nest) (defBody s_law_nest) (defScope s_law_nest) .none kV19 dc19 pm19 an19 cd19 ct19), sl19⟩) (c19 : PySem.W.codeIn K cd19 "_law_nest" = true) (k19 : PySem.W.keepIn K (.ref f19) = true)
    (a20 : PySem.W.nsIn K mainGlobals "_law_read_term" = some (some (.ref f20))) (l20 : K.lookup f20 = some ⟨oc20, od20, .func (PySem.W.fnOf "_law_read_term" "_law_read_term" (defArgs s_law_read_term) (defBody s_law_read_term) (defScope s_law_read_term) .none kV20 dc20 pm20 an20 cd20 ct20), sl20⟩) (c20 : PySem.W.codeIn K cd20 "_law_read_term" = true) (k20 : PySem.W.keepIn K (.ref f20) = true)
    (a21 : PySem.W.nsIn K mainGlobals "_law_read_piece" = some (some (.ref f21))) (l21 : K.lookup f21 = some ⟨oc21, od21, .func (PySem.W.fnOf "_law_read_piece" "_law_read_piece" (defArgs s_law_read_piece) (defBody s_law_read_piece) (defScope s_law_read_piece) .none kV21 dc21 pm21 an21 cd21 ct21), sl21⟩) (c21 : PySem.W.codeIn K cd21 "_law_read_piece" = true) (k21 : PySem.W.keepIn K (.ref f21) = true)
    (a22 : PySem.W.nsIn K mainGlobals "_law_read" = some (some (.ref f22))) (l22 : K.lookup f22 = some ⟨oc22, od22, .func (PySem.W.fnOf "_law_read" "_law_read" (defArgs s_law_read) (defBody s_law_read) (defScope s_law_read) .none kV22 dc22 pm22 an22 cd22 ct22), sl22⟩) (c22 : PySem.W.codeIn K cd22 "_law_read" = true) (k22 : PySem.W.keepIn K (.ref f22) = true)
    (a23 : PySem.W.nsIn K mainGlobals "_law_spoilt" = some (some (.ref f23))) (l23 : K.lookup f23 = some ⟨oc23, od23, .func (PySem.W.fnOf "_law_spoilt" "_law_spoilt" (defArgs s_law_spoilt) (defBody s_law_spoilt) (defScope s_law_spoilt) .none kV23 dc23 pm23 an23 cd23 ct23), sl23⟩) (c23 : PySem.W.codeIn K cd23 "_law_spoilt" = true) (k23 : PySem.W.keepIn K (.ref f23) = true)
    (a24 : PySem.W.nsIn K mainGlobals "law" = some (some (.ref f24))) (l24 : K.lookup f24 = some ⟨oc24, od24, .func (PySem.W.fnOf "law" "law" (defArgs s_law) (defBody s_law) (defScope s_law) .none kV24 dc24 pm24 an24 cd24 ct24), sl24⟩) (c24 : PySem.W.codeIn K cd24 "law" = true) (k24 : PySem.W.keepIn K (.ref f24) = true)
    (y0 : PySem.W.nsIn K mainGlobals "LETTERS" = some (some (.str "abcdefgh" ctLETTERS)))
    (y1 : PySem.W.nsIn K mainGlobals "OPERATORS" = some (some (.ref oA1))) (yl1 : K.lookup oA1 = some ⟨.type "tuple", ob1, .seq #[.str "&" ot1_0, .str "|" ot1_1] on1, os1⟩)
    (y2 : PySem.W.nsIn K mainGlobals "MAX_DEPTH" = some (some (.int 5 ctMAX_DEPTH)))
    (y3 : PySem.W.nsIn K mainGlobals "MAX_SIZE" = some (some (.int 24 ctMAX_SIZE)))
    (y4 : PySem.W.nsIn K mainGlobals "SIGNS" = some (some (.ref oA4))) (yl4 : K.lookup oA4 = some ⟨.type "tuple", ob4, .seq #[.str " & " ot4_0, .str " | " ot4_1] on4, os4⟩)
    (z_len : PySem.W.nsIn K mainGlobals "len" = some none)
    (z_int : PySem.W.nsIn K mainGlobals "int" = some none)
    (z_list : PySem.W.nsIn K mainGlobals "list" = some none)
    (z_str : PySem.W.nsIn K mainGlobals "str" = some none)
    (z_tuple : PySem.W.nsIn K mainGlobals "tuple" = some none)
    (z_isinstance : PySem.W.nsIn K mainGlobals "isinstance" = some none)
    (z_bool : PySem.W.nsIn K mainGlobals "bool" = some none)
    (z_dict : PySem.W.nsIn K mainGlobals "dict" = some none)
    (z_all : PySem.W.nsIn K mainGlobals "all" = some none)
    (z_zip : PySem.W.nsIn K mainGlobals "zip" = some none)
    (z_sum : PySem.W.nsIn K mainGlobals "sum" = some none)
    (z_max : PySem.W.nsIn K mainGlobals "max" = some none)
    (z_min : PySem.W.nsIn K mainGlobals "min" = some none)
    (z_range : PySem.W.nsIn K mainGlobals "range" = some none)
    (z_super : PySem.W.nsIn K mainGlobals "super" = some none)
    (z_sorted : PySem.W.nsIn K mainGlobals "sorted" = some none)
    (e1 : PySem.W.nsIn K mainGlobals "FaultError" = some (some (.ref CF)))
    (e23a : PySem.W.subIn K (.ref CF) (.type "BaseException") = some true)
    (e23b : PySem.W.isClsIn K CF = true)
    (e23c : PySem.W.typeIn K (.ref CF) = some (.type "type"))
    (e20 : PySem.W.nsIn K cStatics "thirdparty.any" = some none)
    (e27 : (l.prog.main.scope.names.lookup ("super" : Str)).isSome = false)
    (e2_InvalidText : PySem.W.nsIn K mainGlobals "InvalidText" = some (some (.ref C_InvalidText)))
    (e3_InvalidText : K.lookup C_InvalidText = some (excClassObj nm_InvalidText eq_InvalidText C_InvalidText eN_InvalidText ebs_InvalidText ebm_InvalidText true esn_InvalidText esub_InvalidText eab_InvalidText ecol_InvalidText edd_InvalidText ek0_InvalidText ek1_InvalidText ek2_InvalidText ek3_InvalidText ek5_InvalidText "ValueError.__new__"))
    (e4_InvalidText : PySem.HandSPX.refsVE ebm_InvalidText = true)
    (e5_InvalidText : PySem.W.findIn K (.ref C_InvalidText) "__setattr__" = some (some (.builtin "object.__setattr__")))
    (e6_InvalidText : PySem.W.subIn K (.ref C_InvalidText) (.type "BaseException") = some true)
    (e7_InvalidText : PySem.W.typeIn K (.ref C_InvalidText) = some (.type "type"))
    (e8_InvalidText : PySem.W.keepIn K (.ref C_InvalidText) = true)
    (e13_InvalidText : PySem.W.findIn K (.ref C_InvalidText) "__init__" = some (some (.ref f_InvalidText)))
    (e9_InvalidText : K.lookup f_InvalidText = some ⟨eoc_InvalidText, eod_InvalidText, .func (PySem.W.ksFn "__init__" "InvalidText.__init__" (defArgs s_InvalidText) (defBody s_InvalidText) (defScope s_InvalidText) .none ekV_InvalidText edoc_InvalidText epm_InvalidText ean_InvalidText (.ref cda_InvalidText) ect_InvalidText ecc_InvalidText), eosl_InvalidText⟩)
    (e10_InvalidText : PySem.W.codeIn K (.ref cda_InvalidText) "InvalidText.__init__" = true)
    (e11_InvalidText : K.lookup cda_InvalidText = some ⟨eccl_InvalidText, ecdd_InvalidText, .fields evs_InvalidText, eccs_InvalidText⟩)
    (e12_InvalidText : evs_InvalidText[2]? = some (.str efile_InvalidText etf_InvalidText))
    (e14_InvalidText : (l.prog.main.file == efile_InvalidText) = true)
    (e15_InvalidText : K.lookup ecc_InvalidText = some ⟨ecl_InvalidText, ecld_InvalidText, .cell (some (.ref C_InvalidText)), ecsl_InvalidText⟩)
    (e16_InvalidText : PySem.W.ks_superIn K C_InvalidText C_InvalidText "__init__" = some (some (.builtin "ValueError.__init__")))
    (e17_InvalidText : PySem.W.mroIn K C_InvalidText (.ref C_InvalidText) = some true)
    (e18_InvalidText : PySem.W.subIn K (.ref C_InvalidText) (.type "ValueError") = some true)
    (e19t_InvalidText : PySem.W.excTail FvX.veTail4 ebm_InvalidText = true)
    (e21_InvalidText : PySem.W.findIn K (.ref C_InvalidText) "code" = some none)
    (e22_InvalidText : PySem.W.typeIn K (.ref f_InvalidText) = some (.type "function"))
    (e23d_InvalidText : PySem.W.subIn K (.ref C_InvalidText) (.ref CF) = some true)
    (e24_InvalidText : PySem.W.findIn K (.ref C_InvalidText) "__getattribute__" = some (some (.builtin "BaseException.__getattribute__")))
    (e25_InvalidText : PySem.W.findIn K (.ref C_InvalidText) "__getattr__" = some none)
    (e26_InvalidText : PySem.W.hasDictIn K C_InvalidText = true)
    {ccl : Value} {ccd : Option Addr} {cvs : Array Value} {ccs : Array (Option Value)} {cL Pt : Addr} (ecd : cd24 = .ref cL) (tlc : K.lookup cL = some ⟨ccl, ccd, .fields cvs, ccs⟩) (t11 : cvs[11]? = some (.ref Pt)) (tPt : K.lookup Pt = none)
    : ∃ (fd : FuncData) (c Pt : Addr), PySem.W.tabIn K "law" = some (c, Pt) ∧ K.lookup Pt = none ∧ (∀ (s : Shared) (v : Value), BindsTo s fd ⟨[v], []⟩ [("_law_script", v)]) ∧ ∀ base : Heap, K.In base → base.Ns mainGlobals mg → LamX.TabB base mg c Pt → FnOk l.prog w K mg base CX0 33 fa fd ["_law_script"] (spLawT K Pt) := by
  have e := hfa.symm.trans (PySem.W.mg_of X G a24)
  cases e
  have F1 := fun_mk (st := s_is_letter) l1 c1 k1
  have g1 := PySem.W.mg_of X G a1
  have b1 := F1.binds (ps := ["value"]) fun _ _ _ _ _ _ us hl => match us, hl with | [_], _ => rfl
  have F2 := fun_mk (st := s_is_compound) l2 c2 k2
  have g2 := PySem.W.mg_of X G a2
  have b2 := F2.binds (ps := ["value"]) fun _ _ _ _ _ _ us hl => match us, hl with | [_], _ => rfl
  have F3 := fun_mk (st := s_measured) l3 c3 k3
  have g3 := PySem.W.mg_of X G a3
  have b3 := F3.binds (ps := ["value", "max_depth", "max_size"]) fun _ _ _ _ _ _ us hl => match us, hl with | [_, _, _], _ => rfl
  have F4 : FunD K "is_term" "is_term" (defArgs s_is_term) (defBody s_is_term) (defScope s_is_term) [] [("max_depth", .int 5), ("max_size", .int 24)] f4 _ := ⟨⟨_, _, _, _, _, _, _, _, _, _, rfl, l4, c4, .inl ⟨rfl, rfl⟩, .inr ⟨D4, rfl, kw_all (by
    simp only [List.mem_cons, List.not_mem_nil, or_false, forall_eq_or_imp, forall_eq]
    exact ⟨⟨_, x4_0, ⟨_, rfl⟩⟩, ⟨_, x4_1, ⟨_, rfl⟩⟩⟩)⟩⟩, k4⟩
  have g4 := PySem.W.mg_of X G a4
  have F5 := fun_mk (st := s_parse_term) l5 c5 k5
  have g5 := PySem.W.mg_of X G a5
  have b5 := F5.binds (ps := ["text"]) fun _ _ _ _ _ _ us hl => match us, hl with | [_], _ => rfl
  have F6 := fun_mk (st := s_read_term) l6 c6 k6
  have g6 := PySem.W.mg_of X G a6
  have b6 := F6.binds (ps := ["text", "at", "levels"]) fun _ _ _ _ _ _ us hl => match us, hl with | [_, _, _], _ => rfl
  have F7 := fun_mk (st := s_read_part) l7 c7 k7
  have g7 := PySem.W.mg_of X G a7
  have b7 := F7.binds (ps := ["text", "at", "levels"]) fun _ _ _ _ _ _ us hl => match us, hl with | [_, _, _], _ => rfl
  have F8 := fun_mk (st := s_law_source) l8 c8 k8
  have g8 := PySem.W.mg_of X G a8
  have b8 := F8.binds (ps := ["_law_script"]) fun _ _ _ _ _ _ us hl => match us, hl with | [_], _ => rfl
  have F9 := fun_mk (st := s_law_take) l9 c9 k9
  have g9 := PySem.W.mg_of X G a9
  have b9 := F9.binds (ps := ["_law_source_here", "_law_many"]) fun _ _ _ _ _ _ us hl => match us, hl with | [_, _], _ => rfl
  have F10 := fun_mk (st := s_law_pick) l10 c10 k10
  have g10 := PySem.W.mg_of X G a10
  have b10 := F10.binds (ps := ["_law_source_here", "_law_row"]) fun _ _ _ _ _ _ us hl => match us, hl with | [_, _], _ => rfl
  have F11 := fun_mk (st := s_law_mixed) l11 c11 k11
  have g11 := PySem.W.mg_of X G a11
  have b11 := F11.binds (ps := ["_law_source_here", "_law_row"]) fun _ _ _ _ _ _ us hl => match us, hl with | [_, _], _ => rfl
  have F12 := fun_mk (st := s_law_same) l12 c12 k12
  have g12 := PySem.W.mg_of X G a12
  have b12 := F12.binds (ps := ["_law_found", "_law_due"]) fun _ _ _ _ _ _ us hl => match us, hl with | [_, _], _ => rfl
  have F13 := fun_mk (st := s_law_call) l13 c13 k13
  have g13 := PySem.W.mg_of X G a13
  have b13 := F13.binds (ps := ["_law_ask"]) fun _ _ _ _ _ _ us hl => match us, hl with | [_], _ => rfl
  have F14 := fun_mk (st := s_law_text) l14 c14 k14
  have g14 := PySem.W.mg_of X G a14
  have b14 := F14.binds (ps := ["_law_word"]) fun _ _ _ _ _ _ us hl => match us, hl with | [_], _ => rfl
  have F15 := fun_mk (st := s_law_leaves) l15 c15 k15
  have g15 := PySem.W.mg_of X G a15
  have b15 := F15.binds (ps := ["_law_word"]) fun _ _ _ _ _ _ us hl => match us, hl with | [_], _ => rfl
  have F16 := fun_mk (st := s_law_term) l16 c16 k16
  have g16 := PySem.W.mg_of X G a16
  have b16 := F16.binds (ps := ["_law_source_here", "_law_signs_here", "_law_deep", "_law_room"]) fun _ _ _ _ _ _ us hl => match us, hl with | [_, _, _, _], _ => rfl
  have F17 := fun_mk (st := s_law_any_term) l17 c17 k17
  have g17 := PySem.W.mg_of X G a17
  have b17 := F17.binds (ps := ["_law_source_here"]) fun _ _ _ _ _ _ us hl => match us, hl with | [_], _ => rfl
  have F18 := fun_mk (st := s_law_signs) l18 c18 k18
  have g18 := PySem.W.mg_of X G a18
  have b18 := F18.binds (ps := ["_law_source_here", "_law_most"]) fun _ _ _ _ _ _ us hl => match us, hl with | [_, _], _ => rfl
  have F19 := fun_mk (st := s_law_nest) l19 c19 k19
  have g19 := PySem.W.mg_of X G a19
  have b19 := F19.binds (ps := ["_law_many"]) fun _ _ _ _ _ _ us hl => match us, hl with | [_], _ => rfl
  have F20 := fun_mk (st := s_law_read_term) l20 c20 k20
  have g20 := PySem.W.mg_of X G a20
  have b20 := F20.binds (ps := ["_law_text_here", "_law_deep"]) fun _ _ _ _ _ _ us hl => match us, hl with | [_, _], _ => rfl
  have F21 := fun_mk (st := s_law_read_piece) l21 c21 k21
  have g21 := PySem.W.mg_of X G a21
  have b21 := F21.binds (ps := ["_law_text_here", "_law_deep"]) fun _ _ _ _ _ _ us hl => match us, hl with | [_, _], _ => rfl
  have F22 := fun_mk (st := s_law_read) l22 c22 k22
  have g22 := PySem.W.mg_of X G a22
  have b22 := F22.binds (ps := ["_law_text_here"]) fun _ _ _ _ _ _ us hl => match us, hl with | [_], _ => rfl
  have F23 := fun_mk (st := s_law_spoilt) l23 c23 k23
  have g23 := PySem.W.mg_of X G a23
  have b23 := F23.binds (ps := ["_law_source_here", "_law_text_here"]) fun _ _ _ _ _ _ us hl => match us, hl with | [_, _], _ => rfl
  have F24 := fun_mk (st := s_law) l24 c24 k24
  have g24 := PySem.W.mg_of X G a24
  have g_LETTERS := PySem.W.mg_of X G y0
  have h_OPERATORS : ∀ H, SqT K H oA1 [.str "&", .str "|"] := fun H => .inr ⟨_, _, _, yl1, rfl, rfl, (Nat.le_of_ble_eq_true rfl), (.cons ⟨_, rfl⟩ (.cons ⟨_, rfl⟩ .nil))⟩
  have g_OPERATORS := PySem.W.mg_of X G y1
  have g_MAX_DEPTH := PySem.W.mg_of X G y2
  have g_MAX_SIZE := PySem.W.mg_of X G y3
  have h_SIGNS : ∀ H, SqT K H oA4 [.str " & ", .str " | "] := fun H => .inr ⟨_, _, _, yl4, rfl, rfl, (Nat.le_of_ble_eq_true rfl), (.cons ⟨_, rfl⟩ (.cons ⟨_, rfl⟩ .nil))⟩
  have g_SIGNS := PySem.W.mg_of X G y4
  have m_len := PySem.W.mg_none_of X G z_len
  have m_int := PySem.W.mg_none_of X G z_int
  have m_list := PySem.W.mg_none_of X G z_list
  have m_str := PySem.W.mg_none_of X G z_str
  have m_tuple := PySem.W.mg_none_of X G z_tuple
  have m_isinstance := PySem.W.mg_none_of X G z_isinstance
  have m_bool := PySem.W.mg_none_of X G z_bool
  have m_dict := PySem.W.mg_none_of X G z_dict
  have m_all := PySem.W.mg_none_of X G z_all
  have m_zip := PySem.W.mg_none_of X G z_zip
  have m_sum := PySem.W.mg_none_of X G z_sum
  have m_max := PySem.W.mg_none_of X G z_max
  have m_min := PySem.W.mg_none_of X G z_min
  have m_range := PySem.W.mg_none_of X G z_range
  have m_super := PySem.W.mg_none_of X G z_super
  have m_sorted := PySem.W.mg_none_of X G z_sorted
  have g_FE := PySem.W.mg_of X G e1
  have e19_InvalidText : PySem.W.excInitIn K C_InvalidText FvX.veTail4 "ValueError.__new__" = true := by
    unfold PySem.W.excInitIn
    rw [e3_InvalidText]
    simp [excClassObj, e19t_InvalidText]
  have ex23_InvalidText : PySem.W.exmOne K (.ref C_InvalidText) (.ref CF) = some true := by
    unfold PySem.W.exmOne PySem.W.kitCls
    simp [e23a, show (PySem.W.clsIn K CF).isSome = true from e23b, e23c, e23d_InvalidText]
  have g_E_InvalidText := PySem.W.mg_of X G e2_InvalidText
  have OX_InvalidText : L2.OexC K C_InvalidText := ⟨⟨_, _, _, _, _, _, _, _, _, _, _, _, _, _, _, e3_InvalidText, e4_InvalidText⟩, e5_InvalidText, e6_InvalidText, e7_InvalidText, e8_InvalidText⟩
  have TI_InvalidText : FvX.ErrC l.prog.main.file K C_InvalidText f_InvalidText "InvalidText.__init__" q_InvalidText "this is not the text of such a value" "InvalidText" 0 0 := ⟨OX_InvalidText, ⟨_, _, _, _, _, _, _, _, _, _, _, _, _, _, _, _, _, _, _, e9_InvalidText, e10_InvalidText, e11_InvalidText, e12_InvalidText, e14_InvalidText, e15_InvalidText⟩, e16_InvalidText, e17_InvalidText, e18_InvalidText, e19_InvalidText, e20, e21_InvalidText, e13_InvalidText, e22_InvalidText⟩
  have LI_InvalidText : FvX.LineOk q_InvalidText "this is not the text of such a value" 0 := fun env => ⟨_, rfl⟩
  have XF_InvalidText : XfC K C_InvalidText := ⟨e24_InvalidText, e25_InvalidText, e6_InvalidText, e26_InvalidText⟩
  subst ecd
  have htab : PySem.W.tabIn K "law" = some (cL, Pt) := by
    unfold PySem.W.tabIn
    simp only [a24, l24, tlc, t11, PySem.W.fnOf]
  refine ⟨PySem.W.fnOf "law" "law" (defArgs s_law) (defBody s_law) (defScope s_law) .none kV24 dc24 pm24 an24 (.ref cL) ct24, cL, Pt, htab, tPt, fun s v => .of_eq rfl, fun base _ _ TB => ?_⟩
  have own : ∀ {k : Nat} {x : Str} {f : Addr} {fd : FuncData} {ps : List Str} {sp : Sp}, mg x = some (.ref f) → PySem.W.keepIn K (.ref f) = true → Binds K fd ps [] → FnOk l.prog w K mg base CX0 k f fd ps sp → Own l.prog w K mg base k x ps sp := fun a b c d => ⟨_, _, a, b, c, d⟩
  have ownR : ∀ {k : Nat} {x : Str} {f : Addr} {sp : Sp}, mg x = some (.ref f) → PySem.W.keepIn K (.ref f) = true → FnR l.prog w K mg base (L2.CX l.prog w) k f sp → OwnR l.prog w K mg base k x sp := fun a b c => ⟨_, a, b, c⟩
  have raw : ∀ {k : Nat} {f : Addr} {fd : FuncData} {ps : List Str} {sp : Sp}, FnOk l.prog w K mg base (L2.CX l.prog w) k f fd ps sp → Binds K fd ps [] → FnR l.prog w K mg base (L2.CX l.prog w) k f sp := fun F b => (FnOk.raw F b .nil).imp fun vs H Q E h => by rw [List.append_nil]; exact h
  have Csource := own g8 k8 b8 (ok_source (k := 0) F8 m_list)
  have Ctake := own g9 k9 b9 (ok_take (k := 0) F9 m_len m_int)
  have Cpick := own g10 k10 b10 (ok_pick (k := 1) F10 m_len Ctake)
  have Cmixed := own g11 k11 b11 (ok_mixed (k := 1) F11 m_len Ctake)
  have Ctake2 : Own l.prog w K mg base 2 _ _ spTake := own g9 k9 b9 (ok_take (k := 1) F9 m_len m_int)
  have Csigns := own g18 k18 b18 (ok_signs (k := 2) F18 m_list Ctake2 Cmixed)
  have Tn : ∀ n : Nat, FnOk l.prog w K mg base CX0 (2 + n) f16 _ _ (spTerm K n) := fun n => by
    induction n with
    | zero => exact term_zero
    | succ n ih => exact ok_term F16 m_tuple m_range (Nat.le_add_right 2 n) Ctake Cpick (own g16 k16 b16 ih)
  have Cterm := own g16 k16 b16 (Tn 5)
  have Cany := own g17 k17 b17 (ok_any_term (k := 7) F17 (by decide) Ctake Cpick Csigns Cterm)
  have Cnest := own g19 k19 b19 (ok_nest (k := 0) F19 m_range m_int)
  have Sn : ∀ n : Nat, FnOk l.prog w K mg base CX0 (n) f12 _ _ (spSame K n) := fun n => by
    induction n with
    | zero => exact same_zero
    | succ n ih => exact ok_same F12 m_isinstance m_bool m_int m_str m_dict m_list m_tuple m_len m_all m_zip (own g12 k12 b12 ih)
  have Csame := own g12 k12 b12 (Sn 25)
  have Clet := own g1 k1 b1 (ok_is_letter (k := 0) F1 m_isinstance m_str m_len g_LETTERS)
  have Ccom := own g2 k2 b2 (ok_is_compound (k := 0) F2 m_isinstance m_tuple m_len g_OPERATORS h_OPERATORS)
  have Dn : ∀ n : Nat, FnOk l.prog w K mg base CX0 (1 + n) f3 _ _ (spMeas K n) := fun n => by
    induction n with
    | zero => exact meas_zero
    | succ n ih => exact ok_measured F3 m_max (Nat.le_add_right 1 n) Clet Ccom (own g3 k3 b3 ih)
  have Cmeasd := own g3 k3 b3 (Dn 20)
  have T := ok_is_term (P := l.prog) (w := w) (mg := mg) (base := base) (k := 21) F4 Cmeasd
  obtain ⟨ds0, vd0, bd0⟩ := binds_T F4
  have CT0 : OwnD l.prog w K mg base 22 "is_term" PsT [.int 5, .int 24] (spIsTerm K) := ⟨_, _, _, g4, k4, bd0, vd0, T⟩
  have Xn : ∀ n : Nat, FnOk l.prog w K mg base CX0 (n) f14 _ _ (spText K n) := fun n => by
    induction n with
    | zero => exact text_zero
    | succ n ih => exact ok_law_text F14 m_isinstance m_str (own g14 k14 b14 ih)
  have Ctext := own g14 k14 b14 (Xn 10)
  have RTn : ∀ n : Nat, n ≤ 9 → FnOk l.prog w K mg base (L2.CX l.prog w) (2 * n + 1) f6 _ _ (spRdT K C_InvalidText n) := fun n => by
    induction n with
    | zero => exact fun _ => rdT_zero
    | succ n ih => exact fun hn => ok_read_term (k := 2 * n + 2) F6 (by omega) TI_InvalidText LI_InvalidText e27 m_super g_E_InvalidText g_SIGNS h_SIGNS Clet (ownR g7 k7 (raw (ok_read_part (k := 2 * n + 1) F7 (by omega) TI_InvalidText LI_InvalidText e27 m_super g_E_InvalidText Clet (ownR g6 k6 (raw (ih (by omega)) b6)) (by omega)) b7)) (by omega)
  have Crt := ownR g6 k6 (raw ((RTn 6 (by decide)).mono (k := 22) (by decide)) b6)
  have Fprs := (ok_parse_term (k := 22) F5 m_len g_MAX_DEPTH (by decide) TI_InvalidText LI_InvalidText e27 m_super g_E_InvalidText CT0 Crt).mono (k := 26) (by decide)
  have Vn : ∀ n : Nat, FnOk l.prog w K mg base CX0 (n) f15 _ _ (spLeaves K n) := fun n => by
    induction n with
    | zero => exact leaves_zero
    | succ n ih => exact ok_leaves F15 m_isinstance m_str m_sum (own g15 k15 b15 ih)
  have Cleaves := own g15 k15 b15 (Vn 6)
  have LRn : ∀ n : Nat, n ≤ 9 → FnOk l.prog w K mg base CX0 (2 * n + 1) f20 _ _ (spLR K lrT n) := fun n => by
    induction n with
    | zero => exact fun _ => lr_zero
    | succ n ih => exact fun hn => ok_lread_term (k := 2 * n + 2) F20 m_len m_int m_tuple (by omega) (own g21 k21 b21 (ok_read_piece (k := 2 * n + 1) F21 m_len (own g20 k20 b20 (ih (by omega)))))
  have Clrt := own g20 k20 b20 (LRn 6 (by decide))
  have Cread := own g22 k22 b22 (ok_lread (k := 13) F22 Clrt (own g15 k15 b15 ((Vn 6).mono (k := 13) (by decide))))
  have Cspoilt := own g23 k23 b23 (ok_spoilt (k := 1) F23 m_len m_min m_max Ctake)
  exact ok_law (k := 32) (by decide) l24 c24 TB m_range l13 c13 k13 g13 b13 g_FE ex23_InvalidText XF_InvalidText e21_InvalidText Csource Ctake Cany Cnest Csame Ctext
    (own g22 k22 b22 ((ok_lread (k := 13) F22 Clrt (own g15 k15 b15 ((Vn 6).mono (k := 13) (by decide)))).mono (k := 20) (by decide))) Cspoilt
    (ownR g5 k5 (raw Fprs b5))
theorem walk {l : PySem.W.OpenLaw} {q : Program} {loose : List Str} {XP : (Str → Option Value) → Heap → Prop} {YP : World → Heap → Prop} {d : DefRec} {K : Params → PySem.W.Frag} (hn : l.most = some 63) (hdf : d.params.defaults = [])
    (hY : ∀ (w : World) (h : Heap), YP w h → (K w.params).In h) (hrec : ∃ d', (PyProof.Rows.recsOf q).find? (fun e => e.name == ("law" : Str)) = some d')
    (F : ∀ (w : World) (mg : Str → Option Value) (fa : Addr) (h : Heap), (K w.params).In h → h.Ns mainGlobals mg → mg d.name = some (.ref fa) →
      ∃ (fd : FuncData) (c Pt : Addr), PySem.W.tabIn (K w.params) "law" = some (c, Pt) ∧ (K w.params).lookup Pt = none ∧ (∀ (s : Shared) (v : Value), BindsTo s fd ⟨[v], []⟩ [("_law_script", v)]) ∧
        ∀ base : Heap, (K w.params).In base → base.Ns mainGlobals mg → LamX.TabB base mg c Pt → FnOk l.prog w (K w.params) mg base CX0 33 fa fd ["_law_script"] (spLawT (K w.params) Pt)) :
    PySem.W.WalkO q loose XP YP l.row.toRowW d [] (fun f vs => PySem.call f vs) := by
  refine Att.attach_callB hn hdf fun w s₀ s₁ mg mb fa o pm cd doc a vs ns G Y ho hd hcd hmg hobj hints hlen hbits hg => ?_
  have KX := hY w _ Y
  obtain ⟨fd, c, Pt, ht, hno, hb, hF⟩ := F w mg fa _ KX G.T.g hmg
  obtain ⟨d', hrec⟩ := hrec
  obtain ⟨hC, hT⟩ := PySem.W.tab_of G.T KX hrec ht
  refine LamX.law_callTs (cs := [(c, Pt)]) (k := 33) (CX := CX0) (sp := spLawT (K w.params) Pt) KX G.T.g G.T.b G.T.builtins G.T.nolimit hg ?_ ?_ ?_ G.T.bmain hobj hints (Nat.le_trans hlen (by decide)) ⟨rfl, by decide, by decide⟩ (fun base k1 k2 tb => hF base k1 k2 (tb (c, Pt) (List.mem_singleton.mpr rfl))) hb (fun H hH hS => ⟨a, ns, rfl, hS, hlen, hH (c, Pt) (List.mem_singleton.mpr rfl), fun _ => rfl⟩) fun _ _ _ z => z
  · intro p hp
    rw [List.mem_singleton.mp hp]
    exact hT
  · intro p hp
    rw [List.mem_singleton.mp hp]
    exact hno
  · intro p hp
    rw [List.mem_singleton.mp hp]
    exact hC
end Fv
open PySem PySem.W PyProof.Rows
set_option maxRecDepth 100000 in
set_option maxHeartbeats 0 in
theorem PySem.Challenge.cw_fivefault_k06_texts_that_are_no_terms_holds : PySem.Challenge.rw_fivefault_k06_texts_that_are_no_terms.Holds := by
  w_on; o_law; k_head; (case hw => w_witness2)
  k_fill
  refine Fv.walk (l := PySem.Challenge.rw_fivefault_k06_texts_that_are_no_terms) rfl rfl (fun w h Y => PySem.W.km_in_of Y) ?R ?F
  case R => exact ⟨_, rfl⟩
  case F =>
    intro w mg fa h KX G hmg
    refine' Fv.all_mk KX G hmg ?a1 ?l1 ?c1 ?k1 ?a2 ?l2 ?c2 ?k2 ?a3 ?l3 ?c3 ?k3 ?a4 ?l4 ?c4 ?k4 ?x4_0 ?x4_1 ?a5 ?l5 ?c5 ?k5 ?a6 ?l6 ?c6 ?k6 ?a7 ?l7 ?c7 ?k7 ?a8 ?l8 ?c8 ?k8 ?a9 ?l9 ?c9 ?k9 ?a10 ?l10 ?c10 ?k10 ?a11 ?l11 ?c11 ?k11 ?a12 ?l12 ?c12 ?k12 ?a13 ?l13 ?c13 ?k13 ?a14 ?l14 ?c14 ?k14 ?a15 ?l15 ?c15 ?k15 ?a16 ?l16 ?c16 ?k16 ?a17 ?l17 ?c17 ?k17 ?a18 ?l18 ?c18 ?k18 ?a19 ?l19 ?c19 ?k19 ?a20 ?l20 ?c20 ?k20 ?a21 ?l21 ?c21 ?k21 ?a22 ?l22 ?c22 ?k22 ?a23 ?l23 ?c23 ?k23 ?a24 ?l24 ?c24 ?k24 ?y0 ?y1 ?yl1 ?y2 ?y3 ?y4 ?yl4 ?z_len ?z_int ?z_list ?z_str ?z_tuple ?z_isinstance ?z_bool ?z_dict ?z_all ?z_zip ?z_sum ?z_max ?z_min ?z_range ?z_super ?z_sorted ?e1 ?e23a ?e23b ?e23c ?e20 ?e27 ?e2_InvalidText ?e3_InvalidText ?e4_InvalidText ?e5_InvalidText ?e6_InvalidText ?e7_InvalidText ?e8_InvalidText ?e13_InvalidText ?e9_InvalidText ?e10_InvalidText ?e11_InvalidText ?e12_InvalidText ?e14_InvalidText ?e15_InvalidText ?e16_InvalidText ?e17_InvalidText ?e18_InvalidText ?e19t_InvalidText ?e21_InvalidText ?e22_InvalidText ?e23d_InvalidText ?e24_InvalidText ?e25_InvalidText ?e26_InvalidText ?ecd ?tlc ?t11 ?tPt
    (case a1 => k_is)
    (case l1 => k_is)
    (case c1 => k_is)
    (case k1 => k_is)
    (case a2 => k_is)
    (case l2 => k_is)
    (case c2 => k_is)
    (case k2 => k_is)
    (case a3 => k_is)
    (case l3 => k_is)
    (case c3 => k_is)
    (case k3 => k_is)
    (case a4 => k_is)
    (case l4 => k_is)
    (case c4 => k_is)
    (case k4 => k_is)
    (case x4_0 => k_is)
    (case x4_1 => k_is)
    (case a5 => k_is)
    (case l5 => k_is)
    (case c5 => k_is)
    (case k5 => k_is)
    (case a6 => k_is)
    (case l6 => k_is)
    (case c6 => k_is)
    (case k6 => k_is)
    (case a7 => k_is)
    (case l7 => k_is)
    (case c7 => k_is)
    (case k7 => k_is)
    (case a8 => k_is)
    (case l8 => k_is)
    (case c8 => k_is)
    (case k8 => k_is)
    (case a9 => k_is)
    (case l9 => k_is)
    (case c9 => k_is)
    (case k9 => k_is)
    (case a10 => k_is)
    (case l10 => k_is)
    (case c10 => k_is)
    (case k10 => k_is)
    (case a11 => k_is)
    (case l11 => k_is)
    (case c11 => k_is)
    (case k11 => k_is)
    (case a12 => k_is)
    (case l12 => k_is)
    (case c12 => k_is)
    (case k12 => k_is)
    (case a13 => k_is)
    (case l13 => k_is)
    (case c13 => k_is)
    (case k13 => k_is)
    (case a14 => k_is)
    (case l14 => k_is)
    (case c14 => k_is)
    (case k14 => k_is)
    (case a15 => k_is)
    (case l15 => k_is)
    (case c15 => k_is)
    (case k15 => k_is)
    (case a16 => k_is)
    (case l16 => k_is)
    (case c16 => k_is)
    (case k16 => k_is)
    (case a17 => k_is)
    (case l17 => k_is)
    (case c17 => k_is)
    (case k17 => k_is)
    (case a18 => k_is)
    (case l18 => k_is)
    (case c18 => k_is)
    (case k18 => k_is)
    (case a19 => k_is)
    (case l19 => k_is)
    (case c19 => k_is)
    (case k19 => k_is)
    (case a20 => k_is)
    (case l20 => k_is)
    (case c20 => k_is)
    (case k20 => k_is)
    (case a21 => k_is)
    (case l21 => k_is)
    (case c21 => k_is)
    (case k21 => k_is)
    (case a22 => k_is)
    (case l22 => k_is)
    (case c22 => k_is)
    (case k22 => k_is)
    (case a23 => k_is)
    (case l23 => k_is)
    (case c23 => k_is)
    (case k23 => k_is)
    (case a24 => k_is)
    (case l24 => k_is)
    (case c24 => k_is)
    (case k24 => k_is)
    (case y0 => k_is)
    (case y1 => k_is)
    (case yl1 => k_is)
    (case y2 => k_is)
    (case y3 => k_is)
    (case y4 => k_is)
    (case yl4 => k_is)
    (case z_len => k_is)
    (case z_int => k_is)
    (case z_list => k_is)
    (case z_str => k_is)
    (case z_tuple => k_is)
    (case z_isinstance => k_is)
    (case z_bool => k_is)
    (case z_dict => k_is)
    (case z_all => k_is)
    (case z_zip => k_is)
    (case z_sum => k_is)
    (case z_max => k_is)
    (case z_min => k_is)
    (case z_range => k_is)
    (case z_super => k_is)
    (case z_sorted => k_is)
    (case e1 => k_is)
    (case e23a => k_is)
    (case e23b => k_is)
    (case e23c => k_is)
    (case e20 => k_is)
    (case e27 => decide +kernel)
    (case e2_InvalidText => k_is)
    (case e3_InvalidText => k_is)
    (case e4_InvalidText => decide +kernel)
    (case e5_InvalidText => k_is)
    (case e6_InvalidText => k_is)
    (case e7_InvalidText => k_is)
    (case e8_InvalidText => k_is)
    (case e13_InvalidText => k_is)
    (case e9_InvalidText => k_is)
    (case e10_InvalidText => k_is)
    (case e11_InvalidText => k_is)
    (case e12_InvalidText => exact rfl)
    (case e14_InvalidText => decide +kernel)
    (case e15_InvalidText => k_is)
    (case e16_InvalidText => ks_is)
    (case e17_InvalidText => k_is)
    (case e18_InvalidText => k_is)
    (case e19t_InvalidText => decide +kernel)
    (case e21_InvalidText => k_is)
    (case e22_InvalidText => k_is)
    (case e23d_InvalidText => k_is)
    (case e24_InvalidText => k_is)
    (case e25_InvalidText => k_is)
    (case e26_InvalidText => k_is)
    (case ecd => exact rfl)
    (case tlc => k_is)
    (case t11 => exact rfl)
    (case tPt => kernel_rfl)
