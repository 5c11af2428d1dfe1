import PyProof.Rows.All
import Wide.All
import OpenK.AllK
import Wide.FinOn
import HandS.Base
import HandS.Call
import HandS.List
import HandS.Comp
import HandS.Ends
import HandS.Iter
import HandS.Text
import HandS.Words
import HandS.WordsList
import HandS.More
import HandS.Codes
import HandS.IsInst
import HandS.Zip
import HandS.Walk
import HandS.Style
import HandS.Defaults
import HandS.MakeKwOnly
import KE.KExcSuper
import HandS.Exc
import HandS.ExcInit
import HandS.ExcField
import HandS.Lambda
import HandS.Star
import HandS.WordsExc
import HandS.FStr
import HandS.Deep
import KE.KeyNested
import HandS.Conv
import HandS.Dict
import KE.KRevSl
import HandS.GenList
import KE.GoesEnum
import HandS.SortInts
import HandS.ForDict
import HandS.WordsDict
import HandS.DictComp
import KE.SortKeyHeap
import HandS.SortKw
import HandS.SlotsOwn
import PyProof.DictUpdate
import PyProof.DictDisplay
import HandS.TryOnly
import HandS.Set
import HandS.Strs
import HandS.EndTab
import PySem.Challenge.RW_fivefault_k34_whole_trees_hold_on_spread
set_option Elab.async false
set_option linter.all false
set_option maxRecDepth 100000

namespace Fv
open PySem PySem.Spec PyProof.Rows L2
/-! ### heaps -/
theorem same_upd {H : Hp} {p : Addr} {o : HO} (h : H p = none) : Same H (upd H p o) := fun b x e => by
  rw [upd_ne (ne_of_none e h)]
  exact e
/-- all but what stands at M is as it was -/
def SmX (M : List Addr) (H H' : Hp) : Prop := ∀ b o, b ∉ M → H b = some o → H' b = some o
theorem SmX.refl (M : List Addr) (H : Hp) : SmX M H H := fun _ _ _ h => h
theorem SmX.trans {M : List Addr} {H H1 H2 : Hp} (a : SmX M H H1) (b : SmX M H1 H2) : SmX M H H2 := fun c o m h => b c o m (a c o m h)
theorem SmX.of_same {M : List Addr} {H H1 : Hp} (a : Same H H1) : SmX M H H1 := fun c o _ h => a c o h
theorem SmX.new {M : List Addr} {H : Hp} {p : Addr} {o : HO} (h : H p = none) : SmX M H (upd H p o) := .of_same (same_upd h)
theorem SmX.sub {M M' : List Addr} {H H1 : Hp} (a : SmX M H H1) (h : ∀ b, b ∈ M → b ∈ M' ∨ H b = none) : SmX M' H H1 := fun c o m e => by
  refine a c o (fun hc => ?_) e
  rcases h c hc with q | q
  · exact m q
  · rw [q] at e; cases e
theorem SmX.at {M : List Addr} {H H1 : Hp} {a : Addr} (h : ∀ b, b ≠ a → H1 b = H b) (m : a ∈ M) : SmX M H H1 := fun c o n e => by
  rw [h c (fun z => n (z ▸ m))]; exact e
theorem SmX.put {M : List Addr} {H H1 : Hp} {p : Addr} {o : HO} (a : SmX M H H1) (m : p ∈ M) : SmX M H (L2.upd H1 p o) := fun c x n e => by
  have ne : c ≠ p := fun z => n (z ▸ m)
  rw [upd_ne ne]; exact a c x n e
/-- what does not stand at M -/
def hide (M : List Addr) (H : Hp) : Hp := fun b => if b ∈ M then none else H b
theorem hide_ne {M : List Addr} {H : Hp} {b : Addr} (h : b ∉ M) : hide M H b = H b := by unfold hide; rw [if_neg h]
theorem hide_some {M : List Addr} {H : Hp} {b : Addr} {o : HO} (h : hide M H b = some o) : b ∉ M ∧ H b = some o := by
  unfold hide at h
  by_cases m : b ∈ M
  · rw [if_pos m] at h; cases h
  · rw [if_neg m] at h; exact ⟨m, h⟩
theorem hide_same {M : List Addr} {H : Hp} : Same (hide M H) H := fun b o h => (hide_some h).2
theorem SmX.hid {M : List Addr} {H H' : Hp} (h : SmX M H H') : Same (hide M H) (hide M H') := fun b o e => by
  obtain ⟨m, e⟩ := hide_some e
  rw [hide_ne m]
  exact h b o m e
theorem hide_sub {M M' : List Addr} {H : Hp} (h : ∀ b, b ∈ M' → b ∈ M) : Same (hide M H) (hide M' H) := fun b o e => by
  obtain ⟨m, e⟩ := hide_some e
  rw [hide_ne (fun z => m (h b z))]
  exact e
theorem same_seqT {K : PySem.W.Frag} {H H' : Hp} {a : Addr} {xs : List V} (e : Same H H') (h : SqT K H a xs) : SqT K H' a xs := by
  rcases h with (h | ⟨o, h⟩) | h
  · exact .inl (.inl (e _ _ h))
  · exact .inl (.inr ⟨o, e _ _ h⟩)
  · exact .inr h
mutual
theorem dp_same {K : PySem.W.Frag} {H H' : Hp} (e : Same H H') : ∀ (d : PyData) (v : V), Dp K H v d → Dp K H' v d
  | .none, _, h => by cases h; exact .non
  | .bool b, _, h => by cases h; exact .bl b
  | .int i, _, h => by cases h; exact .int i
  | .str x, _, h => by cases h; exact .str x
  | .list ds, _, h => by cases h with | lst hs ha => exact .lst (e.seq hs) (dpAll_same e ds _ ha)
  | .tuple ds, _, h => by cases h with | tup hs ha => exact .tup (same_seqT e hs) (dpAll_same e ds _ ha)
  | .dict kvs, _, h => by cases h
theorem dpAll_same {K : PySem.W.Frag} {H H' : Hp} (e : Same H H') : ∀ (ds : List PyData) (vs : List V), DpAll K H vs ds → DpAll K H' vs ds
  | [], _, h => by cases h; exact .nil
  | d :: ds, _, h => by cases h with | cons h1 h2 => exact .cons (dp_same e d _ h1) (dpAll_same e ds _ h2)
end
theorem dpAll_len {K : PySem.W.Frag} {H : Hp} : ∀ {vs : List V} {ds : List PyData}, DpAll K H vs ds → vs.length = ds.length
  | _, _, .nil => rfl
  | _, _, .cons _ h => by rw [List.length_cons, List.length_cons, dpAll_len h]
theorem dpAll_get {K : PySem.W.Frag} {H : Hp} : ∀ {vs : List V} {ds : List PyData} {i : Nat} {v : V}, DpAll K H vs ds → vs[i]? = some v → ∃ d, ds[i]? = some d ∧ Dp K H v d
  | _, _, _, _, .nil, e => by simp at e
  | _, _, 0, _, .cons h _, e => by simp at e; subst e; exact ⟨_, rfl, h⟩
  | _ :: vs, _ :: ds, i + 1, _, .cons _ h, e => by
    have e' : vs[i]? = some _ := e
    exact dpAll_get (ds := ds) h e'
theorem dpAll_app {K : PySem.W.Frag} {H : Hp} : ∀ {vs ws : List V} {ds es : List PyData}, DpAll K H vs ds → DpAll K H ws es → DpAll K H (vs ++ ws) (ds ++ es)
  | _, _, _, _, .nil, h => h
  | _, _, _, _, .cons h1 h2, h => .cons h1 (dpAll_app h2 h)
theorem dpAll_drop {K : PySem.W.Frag} {H : Hp} : ∀ (n : Nat) {vs : List V} {ds : List PyData}, DpAll K H vs ds → DpAll K H (vs.drop n) (ds.drop n)
  | 0, _, _, h => h
  | n + 1, _, _, .nil => .nil
  | n + 1, _, _, .cons _ h => dpAll_drop n h
/-! ### data -/
mutual
/-- plain data, nested at most n deep -/
def gd : Nat → PyData → Bool
  | _, .none => true
  | _, .bool _ => true
  | _, .int _ => true
  | _, .str x => PyData.strOk x && decide (x.length ≤ 100000)
  | 0, _ => false
  | n + 1, .list ds => gdAll n ds && decide (ds.length ≤ 1000)
  | n + 1, .tuple ds => gdAll n ds && decide (ds.length ≤ 1000)
  | _, .dict _ => false
def gdAll : Nat → List PyData → Bool
  | _, [] => true
  | n, d :: ds => gd n d && gdAll n ds
end
theorem gdAll_iff {n : Nat} : ∀ {ds : List PyData}, gdAll n ds = true ↔ ∀ d ∈ ds, gd n d = true
  | [] => by simp [gdAll]
  | d :: ds => by simp [gdAll, gdAll_iff (n := n) (ds := ds)]
mutual
theorem gd_up : ∀ (n : Nat) (d : PyData), gd n d = true → gd (n + 1) d = true
  | _, .none, _ => rfl
  | _, .bool _, _ => rfl
  | _, .int _, _ => rfl
  | 0, .str x, h => h
  | n + 1, .str x, h => h
  | 0, .list _, h => by cases h
  | 0, .tuple _, h => by cases h
  | 0, .dict _, h => by cases h
  | n + 1, .list ds, h => by
    simp only [gd, Bool.and_eq_true] at h ⊢
    exact ⟨gdAll_up n ds h.1, h.2⟩
  | n + 1, .tuple ds, h => by
    simp only [gd, Bool.and_eq_true] at h ⊢
    exact ⟨gdAll_up n ds h.1, h.2⟩
  | n + 1, .dict _, h => by cases h
theorem gdAll_up : ∀ (n : Nat) (ds : List PyData), gdAll n ds = true → gdAll (n + 1) ds = true
  | _, [], _ => rfl
  | n, d :: ds, h => by
    simp only [gdAll, Bool.and_eq_true] at h ⊢
    exact ⟨gd_up n d h.1, gdAll_up n ds h.2⟩
end
theorem gd_le {n m : Nat} {d : PyData} (h : gd n d = true) (hm : n ≤ m) : gd m d = true := by
  induction hm with
  | refl => exact h
  | step _ ih => exact gd_up _ _ ih
mutual
theorem gd_lay : ∀ (n : Nat) (d : PyData), gd n d = true → d.canLay0 = true ∧ d.depth ≤ n
  | _, .none, _ => ⟨rfl, by simp [PyData.depth]⟩
  | _, .bool _, _ => ⟨rfl, by simp [PyData.depth]⟩
  | _, .int _, _ => ⟨rfl, by simp [PyData.depth]⟩
  | 0, .str x, h => ⟨by simp only [gd, Bool.and_eq_true] at h; simpa [PyData.canLay0] using h.1, by simp [PyData.depth]⟩
  | n + 1, .str x, h => ⟨by simp only [gd, Bool.and_eq_true] at h; simpa [PyData.canLay0] using h.1, by simp [PyData.depth]⟩
  | 0, .list _, h => by cases h
  | 0, .tuple _, h => by cases h
  | 0, .dict _, h => by cases h
  | n + 1, .list ds, h => by
    have q := gdAll_lay n ds (by simp only [gd, Bool.and_eq_true] at h; exact h.1)
    exact ⟨by simpa [PyData.canLay0] using q.1, by simp only [PyData.depth]; omega⟩
  | n + 1, .tuple ds, h => by
    have q := gdAll_lay n ds (by simp only [gd, Bool.and_eq_true] at h; exact h.1)
    exact ⟨by simpa [PyData.canLay0] using q.1, by simp only [PyData.depth]; omega⟩
  | n + 1, .dict _, h => by cases h
theorem gdAll_lay : ∀ (n : Nat) (ds : List PyData), gdAll n ds = true → PyData.canLayAll0 ds = true ∧ PyData.depthAll ds ≤ n
  | _, [], _ => ⟨rfl, by simp [PyData.depthAll]⟩
  | n, d :: ds, h => by
    simp only [gdAll, Bool.and_eq_true] at h
    have a := gd_lay n d h.1
    have b := gdAll_lay n ds h.2
    exact ⟨by simp [PyData.canLayAll0, a.1, b.1], by simp only [PyData.depthAll]; omega⟩
end
theorem gd_list {n : Nat} {ds : List PyData} (h : gd (n + 1) (.list ds) = true) : ds.length ≤ 1000 ∧ ∀ d ∈ ds, gd n d = true := by
  simp only [gd, Bool.and_eq_true, decide_eq_true_eq] at h
  exact ⟨h.2, gdAll_iff.mp h.1⟩
theorem gd_tuple {n : Nat} {ds : List PyData} (h : gd (n + 1) (.tuple ds) = true) : ds.length ≤ 1000 ∧ ∀ d ∈ ds, gd n d = true := by
  simp only [gd, Bool.and_eq_true, decide_eq_true_eq] at h
  exact ⟨h.2, gdAll_iff.mp h.1⟩
theorem gd_tup {n : Nat} {ds : List PyData} (h : ∀ d ∈ ds, gd n d = true) (hl : ds.length ≤ 1000) : gd (n + 1) (.tuple ds) = true := by
  simp only [gd, Bool.and_eq_true, decide_eq_true_eq]
  exact ⟨gdAll_iff.mpr h, hl⟩
theorem gd_lst {n : Nat} {ds : List PyData} (h : ∀ d ∈ ds, gd n d = true) (hl : ds.length ≤ 1000) : gd (n + 1) (.list ds) = true := by
  simp only [gd, Bool.and_eq_true, decide_eq_true_eq]
  exact ⟨gdAll_iff.mpr h, hl⟩
theorem gd_shaped {n : Nat} {d : PyData} (h : gd n d = true) (hn : n ≤ 64) : SeqAt.shaped d = true := by
  have q := gd_lay n d h
  show (d.canLay0 && decide (d.depth ≤ 64)) = true
  rw [q.1, decide_eq_true (Nat.le_trans q.2 hn)]
  rfl
end Fv


namespace Fv
open PySem PySem.Spec PyProof.Rows L2
/-! ### an own def as its callers see it -/
structure Own (P : Program) (w : World) (K : PySem.W.Frag) (mg : Str → Option Value) (base : Heap) (k : Nat) (x : Str) (ps : List Str) (sp : Sp) : Prop where
  ex : ∃ (f : Addr) (fd : FuncData), mg x = some (.ref f) ∧ PySem.W.keepIn K (.ref f) = true ∧ Binds K fd ps [] ∧ FnOk P w K mg base CX0 k f fd ps sp
section
variable {X : Cx} {k : Nat} {x : Str} {ps : List Str} {sp : Sp} {e : Expr} {es : List Expr} {t : TA} {p pos : Pos}
theorem pe_own (C : Own X.prog X.w X.K X.mg X.base k x ps sp) (hr : Room k X.A) (hg : Gl X x) (ha : PA X (e :: es) t) (hdb : (x == ("__debug__" : Str)) = false := by decide)
    (he : starEach (e :: es) X.env = (false, eval e X.env) :: starEach es X.env := by rfl) (hpl : (backTo pos (starEach es X.env)).any (·.1) = false := by rfl) : PE X (.Call (.Name x p) (e :: es) [] pos) (tCall sp [] E0 t) := by
  obtain ⟨f, fd, h1, h2, h3, h4⟩ := C.ex
  exact pe_call h4 hr hg h1 h2 h3 .nil pass0 ha hdb he hpl
end
/-! ### isinstance of data -/
def tyN : PyData → String
  | .none => "NoneType"
  | .bool _ => "bool"
  | .int _ => "int"
  | .str _ => "str"
  | .list _ => "list"
  | .tuple _ => "tuple"
  | .dict _ => "dict"
/-- isinstance of data, by the names of the types -/
def isB : String → String → Bool
  | a, b => a == b || (a == "bool" && b == "int")
def tyOk (T : String) : Bool := T == "str" || T == "int" || T == "bool" || T == "list" || T == "tuple" || T == "dict"
theorem kitB_all {d : PyData} {T : String} (h : tyOk T = true) : kitB (tyN d) T = some (isB (tyN d) T) := by
  simp only [tyOk, Bool.or_eq_true, beq_iff_eq] at h
  rcases h with ((((h | h) | h) | h) | h) | h <;> subst h <;> cases d <;> (simp only [tyN]; decide +kernel)
theorem dp_ty {K : PySem.W.Frag} {H : Hp} {v : V} {d : PyData} (h : Dp K H v d) : TyX K H v (.type (tyN d)) := by
  cases h with
  | non => exact .base .non
  | bl b => exact .base (.bl b)
  | int i => exact .base (.int i)
  | str x => exact .base (.str x)
  | lst hs ha =>
    rcases hs with (h | ⟨o, h⟩) | ⟨o, its, n, h1, h2, _⟩
    · exact .base (.lst h)
    · exact .base (.frz h)
    · exact .kList h1 h2
  | tup hs ha =>
    rcases hs with (h | ⟨o, h⟩) | ⟨o, its, n, h1, h2, _⟩
    · exact .base (.tup h)
    · exact .fTuple h
    · exact .kTuple h1 h2
def rIsD (K : PySem.W.Frag) : List V → Hp → VK → Prop := fun xs H Q => ∃ (x : V) (T : String) (d : PyData), xs = [x, .ty T] ∧ tyOk T = true ∧ Dp K H x d ∧ Q (.bl (isB (tyN d) T)) H
theorem call_isD {X : Cx} : CallR X (.builtin "isinstance") (rIsD X.K) := by
  intro pins s σ H xs us Q I r h
  obtain ⟨x, T, d, rfl, hT, hd, q⟩ := h
  exact call_isi pins s σ H _ us Q I r ⟨x, .ty T, _, _, _, rfl, .ty T, dp_ty hd, kit_ty (kitB_all hT), q⟩
section
variable {X : Cx} {e : Expr} {te : TE} {T : String} {y : Str} {p p2 pos : Pos}
theorem pe_isD (hg : Gl X "isinstance") (hm : X.mg "isinstance" = none) (hg2 : Gl X y) (hm2 : X.mg y = none) (ha : PE X e te)
    (hv : bootBuiltins y = some (.type T) := by decide +kernel) (hn : y ≠ "__name__" := by decide) (hd2 : (y == ("__debug__" : Str)) = false := by decide)
    (he : starEach (e :: [.Name y p2]) X.env = (false, eval e X.env) :: starEach [.Name y p2] X.env := by rfl) (hpl : (backTo pos (starEach [.Name y p2] X.env)).any (·.1) = false := by rfl) :
    PE X (.Call (.Name "isinstance" p) [e, .Name y p2] [] pos) (tCB (rIsD X.K) (tCons te (tCons (tC (.ty T)) tNil))) :=
  pe_callB (x := "isinstance") call_isD hg hm (by decide +kernel) (pa_cons ha (pa_cons (pe_bltn (v := .ty T) (pos := p2) hg2 hm2 hv rfl hn hd2) pa_nil) (hs := he)) (by decide) (by decide) he hpl
/-! ### in, not in: a tuple of data -/
def rInT (K : PySem.W.Frag) : R2 := fun x y H Q => ∃ d ds, Dp K H x d ∧ Dp K H y (.tuple ds) ∧ SeqAt.shaped d = true ∧ SeqAt.shaped (.tuple ds) = true ∧ Q (.bl (ds.any fun z => PyData.eqv z d)) H
def rNotInT (K : PySem.W.Frag) : R2 := fun x y H Q => ∃ d ds, Dp K H x d ∧ Dp K H y (.tuple ds) ∧ SeqAt.shaped d = true ∧ SeqAt.shaped (.tuple ds) = true ∧ Q (.bl (!ds.any fun z => PyData.eqv z d)) H
theorem room_shaped {n : Nat} {ds : List PyData} {d : PyData} (h : SeqAt.shaped d = true) (hu : n + 65 < cLine) : n + 1 + min (PyData.depthAll ds) d.depth < cLine := by
  have := SeqAt.depth_of_shaped h
  have := Nat.min_le_right (PyData.depthAll ds) d.depth
  omega
theorem op_inT (hu : X.A.units + 65 < cLine) : OpR X (compareOp .In) (rInT X.K) := by
  intro pins s σ H x y v u Q I rx ry h
  obtain ⟨d, ds, hd, he, sd, se, q⟩ := h
  obtain ⟨as, r1⟩ := Dp.reads I d x v hd rx
  obtain ⟨bs, r2⟩ := Dp.reads I (.tuple ds) y u he ry
  exact SeqAt.in_tuple_reads r2 r1 (SeqAt.canLay_of_shaped se) (SeqAt.canLay_of_shaped sd) (room_shaped sd hu) ⟨.bl _, H, I, rfl, q⟩
theorem op_notInT (hu : X.A.units + 65 < cLine) : OpR X (compareOp .NotIn) (rNotInT X.K) := by
  intro pins s σ H x y v u Q I rx ry h
  obtain ⟨d, ds, hd, he, sd, se, q⟩ := h
  obtain ⟨as, r1⟩ := Dp.reads I d x v hd rx
  obtain ⟨bs, r2⟩ := Dp.reads I (.tuple ds) y u he ry
  exact SeqAt.notIn_tuple_reads r2 r1 (SeqAt.canLay_of_shaped se) (SeqAt.canLay_of_shaped sd) (room_shaped sd hu) ⟨.bl _, H, I, rfl, q⟩
end
theorem hu65 {A : Around} {k : Nat} (hr : Room k A) : A.units + 65 < cLine := by have := hr.un; omega
/-! ### the source of draws -/
/-- the source at a: its script at L, ns -/
def Src (H : Hp) (a L : Addr) (ns : List Int) : Prop := ∃ i p st c : Int, H a = some (.lst [.ref L, .int i, .int p, .int st, .int c]) ∧ H L = some (.lst (ns.map V.int)) ∧ 0 ≤ i ∧ 0 ≤ st ∧ st < 2147483629
theorem Src.off {H H' : Hp} {a L b : Addr} {ns : List Int} (h : Src H a L ns) (hb : H b = none) (e : ∀ c, c ≠ b → H' c = H c) : Src H' a L ns := by
  obtain ⟨i, p, st, c, h1, h2, h3⟩ := h
  exact ⟨i, p, st, c, by rw [e a (ne_of_none h1 hb)]; exact h1, by rw [e L (ne_of_none h2 hb)]; exact h2, h3⟩
theorem Src.same {H H' : Hp} {a L : Addr} {ns : List Int} (h : Src H a L ns) (e : Same H H') : Src H' a L ns := by
  obtain ⟨i, p, st, c, h1, h2, h3⟩ := h
  exact ⟨i, p, st, c, e _ _ h1, e _ _ h2, h3⟩
def spSource (K : PySem.W.Frag) : Sp := fun vs H Q _ => ∃ (a : Addr) (ns : List Int), vs = [.ref a] ∧ SqL K H a (ns.map V.int) ∧ ns.length ≤ 63 ∧
  ∀ (H' : Hp) (p L : Addr), Same H H' → H p = none → H L = none → Src H' p L ns → Q (.ref p) H'
def spTake : Sp := fun vs H Q _ => ∃ (a L : Addr) (ns : List Int) (n : Int), vs = [.ref a, .int n] ∧ Src H a L ns ∧ 1 ≤ n ∧ n ≤ 1000000 ∧
  ∀ (H' : Hp) (d : Int), 0 ≤ d → d < n → Src H' a L ns → (∀ b, b ≠ a → H' b = H b) → Q (.int d) H'
def spPick : Sp := fun vs H Q _ => ∃ (a L r : Addr) (ns : List Int) (xs : List V), vs = [.ref a, .ref r] ∧ Src H a L ns ∧ r ≠ a ∧ H r = some (.lst xs) ∧ 0 < xs.length ∧ xs.length ≤ 1000 ∧
  ∀ (H' : Hp) (v : V), v ∈ xs → Src H' a L ns → (∀ b, b ≠ a → H' b = H b) → Q v H'
def spMixed : Sp := fun vs H Q _ => ∃ (a L r : Addr) (ns : List Int) (xs : List V), vs = [.ref a, .ref r] ∧ Src H a L ns ∧ r ≠ a ∧ H r = some (.lst xs) ∧ xs.length ≤ 1000 ∧
  ∀ (H' : Hp) (p : Addr) (ys : List V), ys.Perm xs → H p = none → H' p = some (.lst ys) → Src H' a L ns → (∀ b, b ≠ a → b ≠ p → H' b = H b) → Q (.ref p) H'
end Fv


namespace Fv
open PySem PySem.Spec PyProof.Rows L2
/-! ### list(text) -/
def signs (x : Str) : List V := x.cps.toList.map fun c => V.str ⟨#[c]⟩
theorem vals_signs {x : Str} {acc : Array Value} (h : ItemsOf (SignAt x) acc x.cps.size) : Vals (signs x) acc.toList := by
  have hs : acc.toList.length = x.cps.toList.length := by simpa using h.1
  have hi : ∀ (j : Nat) (v : Value), acc.toList[j]? = some v → ∃ c u, x.cps.toList[j]? = some c ∧ v = .str ⟨#[c]⟩ u := fun j v e => by
    obtain ⟨c, u, e1, e2⟩ := h.2 j v (by simpa using e)
    exact ⟨c, u, by simpa using e1, e2⟩
  unfold signs
  generalize acc.toList = us at hs hi
  generalize x.cps.toList = cs at hs hi
  induction cs generalizing us with
  | nil =>
    cases us with
    | nil => exact .nil
    | cons u us => simp at hs
  | cons c cs ih =>
    cases us with
    | nil => simp at hs
    | cons u us =>
      obtain ⟨c', t, e1, e2⟩ := hi 0 u rfl
      simp at e1
      subst e1
      refine .cons ⟨t, e2⟩ (ih us (by simpa using hs) fun j v e => ?_)
      obtain ⟨c', t, e1, e2⟩ := hi (j + 1) v (by simpa using e)
      exact ⟨c', t, by simpa using e1, e2⟩
section
variable {X : Cx}
theorem call_listStr (hh : X.A.handled = none) : CallR X (.type "list") (fun xs H Q => ∃ x : Str, xs = [.str x] ∧ x.cps.size ≤ sizeLine ∧ ∀ l, H l = none → Q (.ref l) (upd H l (.lst (signs x)))) := by
  intro pins s σ H xs us Q I r h
  obtain ⟨x, rfl, hz, q⟩ := h
  obtain ⟨u, rfl, rx⟩ := vals1 r
  obtain ⟨t, rfl⟩ := rx
  refine call_list_str hh x t (fun h' tk acc' c' kp e it => ?_) hz
  have rv := vals_signs it
  refine ⟨.ref s.heap.objs.size, _, I.laid (t' := tk) kp (Nat.le_refl _) (show ObjOk X.prog X.w _ h' _ (.lst (signs x)) from ⟨?_, acc'.toList, c', rv, ?_⟩), rfl, q _ (I.hok.fresh (Nat.le_refl _))⟩
  · unfold signs; rw [List.length_map, Array.length_toList]; exact hz
  · simpa using e
end
theorem atI_mem {xs : List V} {i : Int} (h0 : 0 ≤ i) (h : i < (xs.length : Nat)) : ∃ v, atI xs i = some v ∧ v ∈ xs := by
  have hk : i.toNat < xs.length := by omega
  have q : atI xs ((i.toNat : Nat) : Int) = some xs[i.toNat] := atI_nat (List.getElem?_eq_getElem hk)
  rw [show ((i.toNat : Nat) : Int) = i by omega] at q
  exact ⟨_, q, List.getElem_mem hk⟩
theorem le1000 {n : Nat} (h : n ≤ 1000) : n ≤ sizeLine := Nat.le_of_lt (small1000 h)
/-- the letters of a list of signs are texts of one sign of a to h -/
def lett (v : V) : Prop := v ∈ signs "abcdefgh"
theorem lett_data {v : V} (h : lett v) : ∃ x : Str, v = .str x ∧ x ∈ (["a", "b", "c", "d", "e", "f", "g", "h"] : List Str) := by
  have e : signs "abcdefgh" = (["a", "b", "c", "d", "e", "f", "g", "h"] : List Str).map V.str := by decide +kernel
  unfold lett at h
  rw [e] at h
  obtain ⟨x, hx, rfl⟩ := List.mem_map.mp h
  exact ⟨x, rfl, hx⟩
def spSigns : Sp := fun vs H Q _ => ∃ (a L : Addr) (ns : List Int) (n : Int), vs = [.ref a, .int n] ∧ Src H a L ns ∧ 1 ≤ n ∧ n ≤ 8 ∧
  ∀ (H' : Hp) (p : Addr) (ys : List V), 0 < ys.length → ys.length ≤ n → (∀ y ∈ ys, lett y) → ys.Nodup → H p = none → H' p = some (.lst ys) → Src H' a L ns → SmX [a] H H' → Q (.ref p) H'
theorem cut_take (xs : List V) {n : Int} (h : 0 ≤ n) : cutV xs none (some n) = xs.take n.toNat := by
  unfold cutV
  rw [HT.sIx_none, show HT.sIx xs.length xs.length (some n) = min n.toNat xs.length by
    have := HT.sIx_nat xs.length xs.length n.toNat
    rw [show ((n.toNat : Nat) : Int) = n by omega] at this
    exact this]
  rw [List.drop_zero, Nat.sub_zero]
  rcases Nat.le_total n.toNat xs.length with q | q
  · rw [Nat.min_eq_left q]
  · rw [Nat.min_eq_right q, List.take_of_length_le (Nat.le_refl _), List.take_of_length_le q]
theorem cut_drop1 (xs : List V) : cutV xs (some 1) none = xs.drop 1 := by
  unfold cutV
  rw [show HT.sIx xs.length 0 (some 1) = min 1 xs.length from HT.sIx_nat xs.length 0 1, HT.sIx_none]
  cases xs with
  | nil => rfl
  | cons x r =>
    rw [show min 1 (x :: r).length = 1 by
      rw [List.length_cons]
      omega]
    show (List.take ((x :: r).length - 1) r) = r
    rw [List.length_cons, Nat.add_sub_cancel]
    exact List.take_length
end Fv


namespace Fv
open PySem PySem.Spec PyProof.Rows L2
/-! ### measures of data -/
def isL (s : Str) : Bool := decide (V.int (s.length : Nat) = V.int 1) && !(Builtin.Str.occurrences "abcdefgh" s 0 (Str.length "abcdefgh") 1).isEmpty
def isLd : PyData → Bool
  | .str s => isL s
  | _ => false
def isOp (o : PyData) : Bool := ([PyData.str "&", .str "|"] : List PyData).any fun z => PyData.eqv z o
def isCd : PyData → Bool
  | .tuple (o :: ds) => decide (2 ≤ ds.length) && isOp o
  | _ => false
def parts : PyData → List PyData
  | .tuple (_ :: ds) => ds
  | _ => []
def measL (f : PyData → Int → Option (Int × Int)) : List PyData → Int → Int → Int → Option (Int × Int)
  | [], _, dp, tot => some (dp + 1, tot)
  | d :: ds, ms, dp, tot => match f d (ms - tot) with
    | none => none
    | some (a, b) => measL f ds ms (if a > dp then a else dp) (tot + b)
def meas : Nat → PyData → Int → Option (Int × Int)
  | 0, _, _ => none
  | n + 1, d, ms => if ms < 1 then none else if isLd d = true then some (1, 1) else if isCd d = true then measL (meas n) (parts d) ms 0 0 else none
def lmeas : Nat → PyData → Int
  | 0, _ => 0
  | n + 1, d => if isLd d = true then 1 else if isCd d = true then (if (0 : Int) ∈ (parts d).map (lmeas n) then 0 else ((parts d).map (lmeas n)).sum) else 0
theorem sum_nonneg : ∀ {l : List Int}, (∀ x ∈ l, 0 ≤ x) → 0 ≤ l.sum
  | [], _ => by simp
  | x :: l, h => by
    rw [List.sum_cons]
    have := h x (List.mem_cons_self ..)
    have := sum_nonneg (l := l) fun y hy => h y (List.mem_cons_of_mem _ hy)
    omega
theorem lmeas_nonneg : ∀ (n : Nat) (d : PyData), 0 ≤ lmeas n d
  | 0, _ => by simp [lmeas]
  | n + 1, d => by
    unfold lmeas
    split
    · decide
    · split
      · split
        · decide
        · exact sum_nonneg fun x hx => by
            obtain ⟨d', _, rfl⟩ := List.mem_map.mp hx
            exact lmeas_nonneg n d'
      · decide
theorem measL_iff {f : PyData → Int → Option (Int × Int)} {g : PyData → Int} (hg : ∀ d, 0 ≤ g d)
    (hf : ∀ d ms, (f d ms = none ∧ ¬ (1 ≤ g d ∧ g d ≤ ms)) ∨ (∃ dp, f d ms = some (dp, g d) ∧ 1 ≤ g d ∧ g d ≤ ms)) :
    ∀ (ds : List PyData) (ms dp tot : Int), tot ≤ ms →
      (measL f ds ms dp tot = none ∧ ¬ ((∀ d ∈ ds, 1 ≤ g d) ∧ tot + (ds.map g).sum ≤ ms)) ∨ (∃ dp', measL f ds ms dp tot = some (dp', tot + (ds.map g).sum) ∧ (∀ d ∈ ds, 1 ≤ g d) ∧ tot + (ds.map g).sum ≤ ms)
  | [], ms, dp, tot, h => by
    refine .inr ⟨dp + 1, ?_, by simp, by simpa using h⟩
    simp [measL]
  | d :: ds, ms, dp, tot, h => by
    have hs : 0 ≤ (ds.map g).sum := sum_nonneg fun x hx => by
      obtain ⟨d', _, rfl⟩ := List.mem_map.mp hx
      exact hg d'
    rw [List.map_cons, List.sum_cons]
    rcases hf d (ms - tot) with ⟨e, ne⟩ | ⟨a, e, e1, e2⟩
    · refine .inl ⟨by simp only [measL, e], fun ⟨q1, q2⟩ => ne ⟨q1 d (List.mem_cons_self ..), by omega⟩⟩
    · have st : measL f (d :: ds) ms dp tot = measL f ds ms (if a > dp then a else dp) (tot + g d) := by simp only [measL, e]
      rw [st]
      rcases measL_iff hg hf ds ms (if a > dp then a else dp) (tot + g d) (by omega) with ⟨e', ne⟩ | ⟨dp', e', q1, q2⟩
      · refine .inl ⟨e', fun ⟨q1, q2⟩ => ne ⟨fun x hx => q1 x (List.mem_cons_of_mem _ hx), by omega⟩⟩
      · refine .inr ⟨dp', by rw [e', Int.add_assoc], fun x hx => ?_, by omega⟩
        rcases List.mem_cons.mp hx with e | hx
        · rw [e]; exact e1
        · exact q1 x hx
theorem meas_iff : ∀ (n : Nat) (d : PyData) (ms : Int), (meas n d ms = none ∧ ¬ (1 ≤ lmeas n d ∧ lmeas n d ≤ ms)) ∨ (∃ dp, meas n d ms = some (dp, lmeas n d) ∧ 1 ≤ lmeas n d ∧ lmeas n d ≤ ms)
  | 0, d, ms => .inl ⟨rfl, fun h => by simp only [lmeas] at h; omega⟩
  | n + 1, d, ms => by
    have hn := lmeas_nonneg (n + 1) d
    unfold meas
    by_cases h1 : ms < 1
    · rw [if_pos h1]
      exact .inl ⟨rfl, fun h => by omega⟩
    · rw [if_neg h1]
      unfold lmeas
      by_cases h2 : isLd d = true
      · rw [if_pos h2, if_pos h2]
        exact .inr ⟨1, rfl, by decide, by omega⟩
      · rw [if_neg h2, if_neg h2]
        by_cases h3 : isCd d = true
        · rw [if_pos h3, if_pos h3]
          have q := measL_iff (g := lmeas n) (lmeas_nonneg n) (meas_iff n) (parts d) ms 0 0 (by omega)
          rw [Int.zero_add] at q
          by_cases h4 : (0 : Int) ∈ (parts d).map (lmeas n)
          · rw [if_pos h4]
            rcases q with ⟨e, _⟩ | ⟨dp, e, q1, _⟩
            · exact .inl ⟨e, fun h => by omega⟩
            · obtain ⟨x, hx, e0⟩ := List.mem_map.mp h4
              have := q1 x hx
              omega
          · rw [if_neg h4]
            have all1 : ∀ x ∈ parts d, 1 ≤ lmeas n x := fun x hx => by
              have z := lmeas_nonneg n x
              rcases Int.lt_or_eq_of_le z with z | z
              · omega
              · exact absurd (List.mem_map.mpr ⟨x, hx, z.symm⟩) h4
            rcases q with ⟨e, ne⟩ | ⟨dp, e, q1, q2⟩
            · exact .inl ⟨e, fun h => ne ⟨all1, h.2⟩⟩
            · refine .inr ⟨dp, e, ?_, q2⟩
              have hp : parts d ≠ [] := by
                cases d with
                | tuple ds =>
                  cases ds with
                  | nil => cases h3
                  | cons o ds =>
                    intro e0
                    simp only [parts] at e0
                    rw [e0] at h3
                    simp [isCd] at h3
                | _ => cases h3
              cases hd : parts d with
              | nil => exact absurd hd hp
              | cons x r =>
                rw [hd] at all1
                rw [List.map_cons, List.sum_cons]
                have := all1 x (List.mem_cons_self ..)
                have := sum_nonneg (l := r.map (lmeas n)) fun y hy => by
                  obtain ⟨d', _, rfl⟩ := List.mem_map.mp hy
                  exact lmeas_nonneg n d'
                omega
        · rw [if_neg h3, if_neg h3]
          exact .inl ⟨rfl, fun h => by omega⟩
/-- the two measures agree -/
theorem meas_some (n : Nat) (d : PyData) (ms : Int) : (meas n d ms).isSome = (decide (1 ≤ lmeas n d) && decide (lmeas n d ≤ ms)) := by
  rcases meas_iff n d ms with ⟨e, ne⟩ | ⟨dp, e, h1, h2⟩
  · rw [e]
    by_cases a : 1 ≤ lmeas n d
    · have b : ¬ lmeas n d ≤ ms := fun z => ne ⟨a, z⟩
      simp [b]
    · simp [a]
  · rw [e]; simp [h1, h2]
/-! ### contracts -/
/-- plain data at v: nested at most 20 deep -/
def spIsLetter (K : PySem.W.Frag) : Sp := fun vs H Q _ => ∃ (v : V) (d : PyData), vs = [v] ∧ Dp K H v d ∧ gd 20 d = true ∧ Q (.bl (isLd d)) H
def spIsCompound (K : PySem.W.Frag) : Sp := fun vs H Q _ => ∃ (v : V) (d : PyData), vs = [v] ∧ Dp K H v d ∧ gd 20 d = true ∧ Q (.bl (isCd d)) H
def spMeas (K : PySem.W.Frag) (n : Nat) : Sp := fun vs H Q _ => ∃ (v : V) (d : PyData) (md ms : Int), vs = [v, .int md, .int ms] ∧ Dp K H v d ∧ gd 20 d = true ∧ 0 ≤ md ∧ md < n ∧
  (meas md.toNat d ms = none → ∀ H', Same H H' → Q .non H') ∧ (∀ dp sz, meas md.toNat d ms = some (dp, sz) → ∀ (H' : Hp) (p : Addr), Same H H' → H' p = some (.tup [.int dp, .int sz]) → Q (.ref p) H')
def spIsTerm (K : PySem.W.Frag) : Sp := fun vs H Q _ => ∃ (v : V) (d : PyData) (md ms : Int), vs = [v, .int md, .int ms] ∧ Dp K H v d ∧ gd 20 d = true ∧ 0 ≤ md ∧ md < 20 ∧
  ∀ H', Same H H' → Q (.bl (meas md.toNat d ms).isSome) H'
def spMeasure (K : PySem.W.Frag) (n : Nat) : Sp := fun vs H Q _ => ∃ (v : V) (d : PyData) (md : Int), vs = [v, .int md] ∧ Dp K H v d ∧ gd 20 d = true ∧ 0 ≤ md ∧ md < n ∧
  ∀ H', Same H H' → Q (.int (lmeas md.toNat d)) H'
def spFits (K : PySem.W.Frag) : Sp := fun vs H Q _ => ∃ (v : V) (d : PyData), vs = [v] ∧ Dp K H v d ∧ gd 20 d = true ∧
  ∀ H', Same H H' → Q (.bl (decide (1 ≤ lmeas 5 d) && decide (lmeas 5 d ≤ 24))) H'
theorem gd_parts {n : Nat} {o : PyData} {ds : List PyData} (h : gd (n + 1) (.tuple (o :: ds)) = true) : gd n o = true ∧ ∀ d ∈ ds, gd n d = true := by
  have q := (gd_tuple h).2
  exact ⟨q o (List.mem_cons_self ..), fun d hd => q d (List.mem_cons_of_mem _ hd)⟩
theorem drop_cons_get {α : Type} {l : List α} {i : Nat} {x : α} (h : l[i]? = some x) : l.drop i = x :: l.drop (i + 1) := by
  obtain ⟨hi, e⟩ := List.getElem?_eq_some_iff.mp h
  rw [List.drop_eq_getElem_cons hi, e]
theorem dropHead {vs : List V} {ds : List PyData} {K : PySem.W.Frag} {H : Hp} (h : DpAll K H vs ds) : DpAll K H (vs.drop 1) (ds.drop 1) := dpAll_drop 1 h
theorem isOp_str : isOp (.str "&") = true ∧ isOp (.str "|") = true := by decide +kernel
end Fv


namespace Fv
open PySem PySem.Spec PyProof.Rows L2
/-! ### own defs with defaults, called with and without keywords -/
structure OwnD (P : Program) (w : World) (K : PySem.W.Frag) (mg : Str → Option Value) (base : Heap) (k : Nat) (x : Str) (ps : List Str) (dvs : List V) (sp : Sp) : Prop where
  ex : ∃ (f : Addr) (fd : FuncData) (ds : List Value), mg x = some (.ref f) ∧ PySem.W.keepIn K (.ref f) = true ∧ Binds K fd ps ds ∧ Vals dvs ds ∧ FnOk P w K mg base CX0 k f fd ps sp
structure OwnK (P : Program) (w : World) (K : PySem.W.Frag) (mg : Str → Option Value) (base : Heap) (k : Nat) (x : Str) (ps : List Str) (n : Nat) (ks : List Str) (gV : List V → List V → List V) (sp : Sp) : Prop where
  ex : ∃ (f : Addr) (fd : FuncData) (g : List Value → List Value → List Value), mg x = some (.ref f) ∧ PySem.W.keepIn K (.ref f) = true ∧ KBn K fd ps n ks g gV ∧ FnOk P w K mg base CX0 k f fd ps sp
section
variable {X : Cx} {k n : Nat} {x : Str} {ps ks : List Str} {dvs : List V} {gV : List V → List V → List V} {sp : Sp} {e : Expr} {es : List Expr} {t tk : TA} {p pos : Pos} {kws : List Keyword}
theorem pe_ownD (C : OwnD X.prog X.w X.K X.mg X.base k x ps dvs sp) (hr : Room k X.A) (hg : Gl X x) (ha : PA X (e :: es) t) (hdb : (x == ("__debug__" : Str)) = false := by decide)
    (he : starEach (e :: es) X.env = (false, eval e X.env) :: starEach es X.env := by rfl) (hpl : (backTo pos (starEach es X.env)).any (·.1) = false := by rfl) : PE X (.Call (.Name x p) (e :: es) [] pos) (tCall sp dvs E0 t) := by
  obtain ⟨f, fd, ds, h1, h2, h3, h4, h5⟩ := C.ex
  exact pe_call h5 hr hg h1 h2 h3 h4 pass0 ha hdb he hpl
theorem pe_ownK (C : OwnK X.prog X.w X.K X.mg X.base k x ps n ks gV sp) (hr : Room k X.A) (hg : Gl X x) (ha : PA X (e :: es) t) (hkw : PK X kws tk)
    (hall : (backToKw pos (keywordEach kws X.env)).all (·.1.isSome) = true := by rfl) (hks : (backToKw pos (keywordEach kws X.env)).filterMap (·.1) = ks := by rfl)
    (hdb : (x == ("__debug__" : Str)) = false := by decide) (he : starEach (e :: es) X.env = (false, eval e X.env) :: starEach es X.env := by rfl)
    (hpl : ((backTo pos (starEach (e :: es) X.env)).any (·.1) || (backToKw pos (keywordEach kws X.env)).any (·.1.isNone)) = false := by rfl) :
    PE X (.Call (.Name x p) (e :: es) kws pos) (tCallN n ks.length sp gV E0 t tk) := by
  obtain ⟨f, fd, g, h1, h2, h3, h4⟩ := C.ex
  exact pe_callN h4 hr hg h1 h2 h3 pass0 ha hkw hall hks hdb he hpl
/-- no positional value -/
theorem pe_ownK0 (C : OwnK X.prog X.w X.K X.mg X.base k x ps 0 ks gV sp) (hr : Room k X.A) (hg : Gl X x) (hkw : PK X kws tk)
    (hall : (backToKw pos (keywordEach kws X.env)).all (·.1.isSome) = true := by rfl) (hks : (backToKw pos (keywordEach kws X.env)).filterMap (·.1) = ks := by rfl)
    (hdb : (x == ("__debug__" : Str)) = false := by decide)
    (hpl : ((backTo pos (starEach [] X.env)).any (·.1) || (backToKw pos (keywordEach kws X.env)).any (·.1.isNone)) = false := by rfl) :
    PE X (.Call (.Name x p) [] kws pos) (tCallN 0 ks.length sp gV E0 tNil tk) := by
  obtain ⟨f, fd, g, h1, h2, h3, h4⟩ := C.ex
  refine ⟨fun pins s σ H Q I h => ?_⟩
  refine wpAny_Call_Name_kw (ld_glob I hg h1 ?_ hdb)
  refine PySem.W.callWith_KW0 (h₀ := X.base) I.ok.mod.kin h2 hall ?_ hpl
  refine thn (hkw.run pos pins s σ H _ I h) fun ws s2 ⟨zs, H2, I2, rz, l1, l2, q2⟩ => ⟨I2.kIn, ?_⟩
  rw [hks]
  exact run_fnN h4 hr h3 pass0 I2 .nil rz l1 l2 q2
end
end Fv


namespace Fv
open PySem PySem.Spec PyProof.Rows L2
/-! ### what is tracked; values that are plain data apart from M -/
def Trk (M : List Addr) (H : Hp) : Prop := ∀ b ∈ M, ∃ o, H b = some o
theorem Trk.same {M : List Addr} {H H' : Hp} (h : Trk M H) (s : Same H H') : Trk M H' := fun b hb => by
  obtain ⟨o, e⟩ := h b hb
  exact ⟨o, s _ _ e⟩
theorem Trk.smx {M N : List Addr} {H H' : Hp} (h : Trk M H) (s : SmX N H H') (hN : Trk N H') : Trk M H' := fun b hb => by
  by_cases m : b ∈ N
  · exact hN b m
  · obtain ⟨o, e⟩ := h b hb
    exact ⟨o, s _ _ m e⟩
theorem Trk.ne {M : List Addr} {H : Hp} (h : Trk M H) {p : Addr} (np : H p = none) : p ∉ M := fun hp => by
  obtain ⟨o, e⟩ := h p hp
  rw [np] at e
  cases e
theorem hid_new {M : List Addr} {H : Hp} {p : Addr} {o : HO} (np : H p = none) : Same (hide M H) (hide M (upd H p o)) := (SmX.new np).hid
theorem hid_at {M : List Addr} {H : Hp} (h : Trk M H) {p : Addr} {o : HO} (np : H p = none) : hide M (upd H p o) p = some o := by
  rw [hide_ne (h.ne np), upd_same]
def GV (K : PySem.W.Frag) (n : Nat) (M : List Addr) (H : Hp) (v : V) : Prop := ∃ d, Dp K (hide M H) v d ∧ gd n d = true
theorem GV.same {K : PySem.W.Frag} {n : Nat} {M : List Addr} {H H' : Hp} {v : V} (g : GV K n M H v) (s : Same H H') : GV K n M H' v := by
  obtain ⟨d, h1, h2⟩ := g
  exact ⟨d, dp_same (SmX.of_same s).hid d v h1, h2⟩
theorem GV.up {K : PySem.W.Frag} {n m : Nat} {M : List Addr} {H : Hp} {v : V} (g : GV K n M H v) (h : n ≤ m) : GV K m M H v := by
  obtain ⟨d, h1, h2⟩ := g
  exact ⟨d, h1, gd_le h2 h⟩
theorem GV.str {K : PySem.W.Frag} {n : Nat} {M : List Addr} {H : Hp} {x : Str} (h : gd 0 (.str x) = true) : GV K n M H (.str x) := ⟨_, .str x, gd_le h (Nat.zero_le _)⟩
theorem GV.int {K : PySem.W.Frag} {n : Nat} {M : List Addr} {H : Hp} (i : Int) : GV K n M H (.int i) := ⟨_, .int i, gd_le (n := 0) rfl (Nat.zero_le _)⟩
theorem GV.bl {K : PySem.W.Frag} {n : Nat} {M : List Addr} {H : Hp} (b : Bool) : GV K n M H (.bl b) := ⟨_, .bl b, gd_le (n := 0) rfl (Nat.zero_le _)⟩
theorem GV.non {K : PySem.W.Frag} {n : Nat} {M : List Addr} {H : Hp} : GV K n M H .non := ⟨_, .non, gd_le (n := 0) rfl (Nat.zero_le _)⟩
theorem gv_all {K : PySem.W.Frag} {n : Nat} {M : List Addr} {H : Hp} : ∀ {xs : List V}, (∀ x ∈ xs, GV K n M H x) → ∃ ds, DpAll K (hide M H) xs ds ∧ ∀ d ∈ ds, gd n d = true
  | [], _ => ⟨[], .nil, fun d h => nomatch h⟩
  | x :: xs, h => by
    obtain ⟨d, h1, h2⟩ := h x (List.mem_cons_self ..)
    obtain ⟨ds, h3, h4⟩ := gv_all (xs := xs) fun y hy => h y (List.mem_cons_of_mem _ hy)
    refine ⟨d :: ds, .cons h1 h3, fun e he => ?_⟩
    rcases List.mem_cons.mp he with z | z
    · rw [z]; exact h2
    · exact h4 e z
theorem GV.tup {K : PySem.W.Frag} {n : Nat} {M : List Addr} {H : Hp} {p : Addr} {xs : List V} (hM : Trk M H) (np : H p = none) (h : ∀ x ∈ xs, GV K n M H x) (hl : xs.length ≤ 1000 := by decide) : GV K (n + 1) M (upd H p (.tup xs)) (.ref p) := by
  obtain ⟨ds, h1, h2⟩ := gv_all h
  exact ⟨.tuple ds, .tup (SqT.of (hid_at hM np)) (dpAll_same (hid_new np) _ _ h1), gd_tup h2 (by rw [← dpAll_len h1]; exact hl)⟩
theorem GV.lst {K : PySem.W.Frag} {n : Nat} {M : List Addr} {H : Hp} {p : Addr} {xs : List V} (hM : Trk M H) (np : H p = none) (h : ∀ x ∈ xs, GV K n M H x) (hl : xs.length ≤ 1000 := by decide) : GV K (n + 1) M (upd H p (.lst xs)) (.ref p) := by
  obtain ⟨ds, h1, h2⟩ := gv_all h
  exact ⟨.list ds, .lst (SqL.of (hid_at hM np)) (dpAll_same (hid_new np) _ _ h1), gd_lst h2 (by rw [← dpAll_len h1]; exact hl)⟩
theorem Src.trk {H : Hp} {a L : Addr} {ns : List Int} (h : Src H a L ns) : Trk [a] H := fun b hb => by
  obtain ⟨_, _, _, _, e, _⟩ := h
  rw [List.mem_singleton.mp hb]
  exact ⟨_, e⟩
theorem Src.ne {H : Hp} {a L p : Addr} {ns : List Int} (h : Src H a L ns) (np : H p = none) : a ≠ p := by
  obtain ⟨_, _, _, _, e, _⟩ := h
  exact ne_of_none e np
theorem Src.put {H : Hp} {a L p : Addr} {ns : List Int} {o : HO} (h : Src H a L ns) (pa : p ≠ a) (pL : p ≠ L) : Src (upd H p o) a L ns := by
  obtain ⟨i, q, st, c, h1, h2, h3⟩ := h
  exact ⟨i, q, st, c, by rw [upd_ne pa.symm]; exact h1, by rw [upd_ne pL.symm]; exact h2, h3⟩
theorem Src.new {H : Hp} {a L p : Addr} {ns : List Int} {o : HO} (h : Src H a L ns) (np : H p = none) : Src (upd H p o) a L ns := h.same (same_upd np)
/-- the term that is drawn: its data d, its depth at most n, its size by the room that was used -/
def spTerm (K : PySem.W.Frag) (n : Nat) : Sp := fun vs H Q _ => ∃ (a L sg r : Addr) (ns : List Int) (deep m : Int) (ys : List V) (M : List Addr), vs = [.ref a, .ref sg, .int deep, .ref r] ∧ Src H a L ns ∧
  H sg = some (.lst ys) ∧ 0 < ys.length ∧ ys.length ≤ 8 ∧ (∀ y ∈ ys, lett y) ∧ H r = some (.lst [.int m]) ∧ sg ≠ a ∧ sg ≠ r ∧ r ≠ a ∧ r ≠ L ∧ 0 ≤ m ∧ m ≤ 1000 ∧ 1 ≤ deep ∧ deep ≤ n ∧ a ∈ M ∧ r ∈ M ∧ Trk M H ∧
  ∀ (H' : Hp) (v : V) (d : PyData) (m' : Int), Dp K (hide M H') v d → lmeas deep.toNat d = m - m' + 1 → 0 ≤ m' → m' ≤ m → gd deep.toNat d = true → Src H' a L ns → H' r = some (.lst [.int m']) → SmX [a, r] H H' → Q v H'
def spAnyTerm (K : PySem.W.Frag) : Sp := fun vs H Q _ => ∃ (a L : Addr) (ns : List Int) (M : List Addr), vs = [.ref a] ∧ Src H a L ns ∧ a ∈ M ∧ Trk M H ∧
  ∀ (H' : Hp) (v : V) (d : PyData) (n : Nat), Dp K (hide M H') v d → 1 ≤ n → n ≤ 5 → 1 ≤ lmeas n d → lmeas n d ≤ 24 → gd n d = true → Src H' a L ns → SmX [a] H H' → Q v H'
def nestD : Nat → PyData
  | 0 => .str "a"
  | n + 1 => .tuple [.str (if n % 2 = 0 then "&" else "|"), nestD n, .str "b"]
def spNest (K : PySem.W.Frag) : Sp := fun vs H Q _ => ∃ (n : Nat) (M : List Addr), vs = [.int (n : Nat)] ∧ n ≤ 12 ∧ Trk M H ∧
  ∀ (H' : Hp) (v : V), Dp K (hide M H') v (nestD n) → Same H H' → Q v H'
def spOdd (K : PySem.W.Frag) : Sp := fun vs H Q _ => ∃ (a L : Addr) (ns : List Int) (v : V) (M : List Addr), vs = [.ref a, v] ∧ Src H a L ns ∧ GV K 5 M H v ∧ a ∈ M ∧ Trk M H ∧
  ∀ (H' : Hp) (v' : V), GV K 12 M H' v' → Src H' a L ns → SmX [a] H H' → Q v' H'
theorem isL_lett {x : Str} (h : x ∈ (["a", "b", "c", "d", "e", "f", "g", "h"] : List Str)) : isL x = true ∧ gd 0 (.str x) = true := by
  have q : ∀ x ∈ (["a", "b", "c", "d", "e", "f", "g", "h"] : List Str), isL x = true ∧ gd 0 (.str x) = true := by decide +kernel
  exact q x h
theorem nest_gd : ∀ n : Nat, gd n (nestD n) = true
  | 0 => by decide +kernel
  | n + 1 => gd_tup (fun d hd => by
      rcases List.mem_cons.mp hd with e | hd
      · rw [e]
        refine gd_le (n := 0) ?_ (Nat.zero_le _)
        split <;> decide +kernel
      · rcases List.mem_cons.mp hd with e | hd
        · rw [e]; exact nest_gd n
        · rw [List.mem_singleton.mp hd]
          exact gd_le (n := 0) (by decide +kernel) (Nat.zero_le _)) (by show 3 ≤ 1000; decide)
/-- a term made of parts -/
theorem lmeas_tup {n : Nat} {op : Str} {ds : List PyData} {t : Int} (ho : isOp (.str op) = true) (h2 : 2 ≤ ds.length) (h1 : ∀ d ∈ ds, 1 ≤ lmeas n d) (hs : (ds.map (lmeas n)).sum = t) : lmeas (n + 1) (.tuple (.str op :: ds)) = t := by
  have e : lmeas (n + 1) (.tuple (.str op :: ds)) = if (decide (2 ≤ ds.length) && isOp (.str op)) = true then (if (0 : Int) ∈ ds.map (lmeas n) then 0 else (ds.map (lmeas n)).sum) else 0 := by
    show (if false = true then _ else _) = _
    rw [if_neg (fun z => by cases z)]
    rfl
  rw [e, ho, decide_eq_true h2, Bool.and_self, if_pos rfl, if_neg, hs]
  intro z
  obtain ⟨d, hd, e⟩ := List.mem_map.mp z
  have := h1 d hd
  omega
end Fv


set_option maxHeartbeats 2000000
namespace FvX
open PySem PySem.W PySem.Calls PyProof.Rows
/-! ### an own error whose __init__ says super().__init__(text) and self.code = text -/
abbrev errScope : Scope := { kind := .function, names := [("self", .local), ("__class__", .free), ("super", .globalImplicit)], isGenerator := false, isCoroutine := false, more := [] }
abbrev errParams (pp : Pos) : Arguments := { posonlyargs := [], args := [{ arg := "self", annotation := none, pos := pp : Arg }], vararg := none, kwonlyargs := [], kw_defaults := [], kwarg := none, defaults := [] }
/-- the places of such a body's parts -/
structure ErrPos where
  (p0 p1 p2 p3 p4 p5 p6 p7 p8 p9 pp : Pos)
abbrev errBody (q : ErrPos) (msg cod : Str) (j1 j2 : Nat) : List Stmt :=
  [.Expr (.Call (.Attribute (.Call (.Name "super" q.p0) [] [] q.p1) "__init__" q.p2) [.Constant (.str msg) j1 q.p3] [] q.p4) q.p5, .Assign [.Attribute (.Name "self" q.p6) "code" q.p7] (.Constant (.str cod) j2 q.p8) q.p9]
/-- the call stands on one line -/
def LineOk (q : ErrPos) (msg : Str) (j1 : Nat) : Prop := ∀ env : Env, ∃ pl : Sem Bool, eval (.Call (.Attribute (.Call (.Name "super" q.p0) [] [] q.p1) "__init__" q.p2) [.Constant (.str msg) j1 q.p3] [] q.p4) env = (do
  let ov ← attributeBase (.Call (.Name "super" q.p0) [] [] q.p1) "__init__" env (eval (.Call (.Name "super" q.p0) [] [] q.p1) env)
  standAt q.p2.atName
  let (f, first) ← holding [ov] (getMethod ov "__init__" pl)
  callWith q.p4 f first (backTo q.p4 (starEach [.Constant (.str msg) j1 q.p3] env)) [])
abbrev veTail4 : List Value := [.type "ValueError", .type "Exception", .type "BaseException", .type "object"]
/-- what the written part says of the class at C and of its __init__ at f -/
structure ErrC (file0 : Str) (K : Frag) (C f : Addr) (qual : Str) (q : ErrPos) (msg cod : Str) (j1 j2 : Nat) : Prop where
  oex : L2.OexC K C
  fn : ∃ (oc : Value) (od an : Option Addr) (osl : Array (Option Value)) (kV doc pm ct : Value) (cda cc : Addr) (ccl cl : Value) (cdd cld : Option Addr) (vs : Array Value) (ccs csl : Array (Option Value)) (file : Str) (tf : Tok),
    K.lookup f = some ⟨oc, od, .func (ksFn "__init__" qual (errParams q.pp) (errBody q msg cod j1 j2) errScope .none kV doc pm an (.ref cda) ct cc), osl⟩ ∧ codeIn K (.ref cda) qual = true ∧ K.lookup cda = some ⟨ccl, cdd, .fields vs, ccs⟩ ∧ vs[2]? = some (.str file tf) ∧
      (file0 == file) = true ∧ K.lookup cc = some ⟨cl, cld, .cell (some (.ref C)), csl⟩
  sup : ks_superIn K C C "__init__" = some (some (.builtin "ValueError.__init__"))
  self : mroIn K C (.ref C) = some true
  isV : subIn K (.ref C) (.type "ValueError") = some true
  init : excInitIn K C veTail4 "ValueError.__new__" = true
  third : nsIn K cStatics "thirdparty.any" = some none
  code : findIn K (.ref C) "code" = some none
  find : findIn K (.ref C) "__init__" = some (some (.ref f))
  typ : typeIn K (.ref f) = some (.type "function")
section
variable {prog : Program} {w : World} {A : Around} {K : Frag} {h : Heap} {g : Array GenState} {d : Drawn} {t : Nat} {os : OsState} {R : Result → Shared → Prop} {mg mb : Str → Option Value}
  {C f a t0 : Addr} {qual msg cod : Str} {q : ErrPos} {j1 j2 : Nat}
theorem init_run (T : ErrC prog.main.file K C f qual q msg cod j1 j2) (hline : LineOk q msg j1) (htop : (prog.main.scope.names.lookup ("super" : Str)).isSome = false)
    (X : K.In h) (hg : h.Ns mainGlobals mg) (hms : mg "super" = none) (hb : h.Ns builtinsNs mb) (hmb : mb "super" = some (.type "super")) (hlim : h.NoLimit) (hroom : A.depth < recursionLimit) (ha : h.get? a = some (excObj C t0 none .none)) (haK : K.lookup a = none)
    (hq : ∀ h' t1 tk' dx tk, (∀ b o, b ≠ a → h.get? b = some o → h'.get? b = some o) → h.objs.size ≤ dx → dx ≠ a → h'.get? a = some { cls := .ref C, dict := some dx, data := .fields #[.ref t1, .none, .none, .none, .bool false, .none] } →
      h'.Ns1 dx (fun y => if y = ("code" : Str) then some (.str cod tk) else none) → R (.ok (.ret .none)) ⟨h', g, d, tk', os⟩) :
    codeAny (model prog w) A (.call (.ref f) ⟨[.ref a], []⟩) R ⟨h, g, d, t, os⟩ := by
  obtain ⟨oc, od, an, osl, kV, doc, pm, ct, cda, cc, ccl, cl, cdd, cld, vs, ccs, csl, file, tf, hf, hcd, hcode, hvs, hfile, hcell⟩ := T.fn
  refine ks_codeAny_call_defAt (binds := [("self", .ref a)]) hroom (X _ _ hf) rfl hlim (codeRec_of X hcd) rfl (.of_eq rfl) (show ∀ x ∈ errScope.names, x.2 ≠ .cell by decide) (fun y hy => ?_) (fun h1 hns hk1 => ?_)
  · rw [List.mem_singleton.mp hy]; rfl
  have X1 : K.In h1 := fun b o e => hk1 b o (X b o e)
  have ha1 : h1.get? a = some (excObj C t0 none .none) := hk1 _ _ ha
  have haL : a ≠ h.objs.size := Nat.ne_of_lt (Heap.lt_size ha)
  obtain ⟨cd, hc⟩ : ∃ cd, clsIn K C = some cd := by
    have z := T.sup
    unfold ks_superIn at z
    cases hc : clsIn K C with
    | none => rw [hc] at z; cases z
    | some cd => exact ⟨cd, rfl⟩
  obtain ⟨oD, hD0, hD2⟩ : ∃ oD, K.lookup C = some oD ∧ oD.data = .cls cd := by
    unfold clsIn at hc
    split at hc
    · rename_i c d' cd' sl ho
      cases hc
      exact ⟨_, ho, rfl⟩
    · cases hc
  have hD1 := X1 _ _ hD0
  have hsup : alongIn K "__init__" ((cd.mro.dropWhile (· != .ref C)).drop 1) = some (some (.builtin "ValueError.__init__")) := by
    have z := T.sup
    unfold ks_superIn at z
    rw [hc] at z
    exact z
  have hv : (fun x => ([("self", Value.ref a)] : List (Str × Value)).reverse.lookup x) ("self" : Str) = some (.ref a) := rfl
  -- super().__init__(text)
  obtain ⟨pl, hline⟩ := hline (callEnv (ksFn "__init__" qual (errParams q.pp) (errBody q msg cod j1 j2) errScope .none kV doc pm an (.ref cda) ct cc) h.objs.size f)
  refine ks_wpAt_execs_cons (ks_wpAt_Expr_any (ks_wpAt_MethodCall ?_ hline))
  refine ks_wpAt_super_base rfl rfl (by decide) rfl (X1 _ _ hf) rfl rfl rfl (X1 _ _ hcode) rfl hvs hfile htop ?_
  refine ks_loadName_global rfl rfl (loadGlobal_builtin (hg.keeps hk1) hms (hb.keeps hk1) hmb ⟨rfl, ?_⟩)
  refine wpAny_loadName_free rfl rfl rfl ⟨_, X1 _ _ hcell, rfl⟩ ?_
  refine wpAny_loadName_local rfl rfl hns hv ?_
  refine ks_wpAny_isType_cls hD1 hD2 ⟨rfl, ?_⟩
  refine ks_wpAny_call_super hD1 hD2 ha1 rfl (fun c e => by cases e) (looks_mroIn X1 T.self) (fun h2 hso hk2 => ?_)
  have X2 : K.In h2 := fun b o e => hk2 b o (X1 b o e)
  have ha2 := hk2 _ _ ha1
  have haC : a ≠ C := fun e => by rw [e, hD0] at haK; cases haK
  have I2 : InstAt h2 a (excObj C t0 none .none) C none := ⟨ha2, rfl, rfl, trivial⟩
  refine kxs_getMethod kxs_ValueError hso (looks_opaque X2 T.third) (l₀ := cd.mro) (fun A Q E s k z => wpAny_bind ((looks_clsIn X2 hc) A _ E s k (wpAny_pure z))) rfl X2 hsup (I2.type.andThen (looks_subIn X2 T.isV)) haC (by decide) ?_
  have nsK : ∀ {h h' : Heap} {L : Addr} {m : Str → Option Value}, h.Ns L m → (∀ b o, h.get? b = some o → h'.get? b = some o) → h'.Ns L m := fun {h h' L m} ⟨o, es, ep, e, r⟩ k => ⟨o, es, ep, k _ _ e, r⟩
  have hns2 := nsK hns hk2
  have hk3 : ∀ b o, h2.get? b = some o → (h2.push (kxs_mw "ValueError.__init__" a)).get? b = some o := fun b o e => Heap.get?_push_of_some _ e
  have hLt : h.objs.size < h2.objs.size := by
    obtain ⟨o, _, _, e, _⟩ := hns2
    exact Heap.lt_size e
  have FR : Fr (hideAll h [a]) h.objs.size (h2.push (kxs_mw "ValueError.__init__" a)) (fun x => ([("self", Value.ref a)] : List (Str × Value)).reverse.lookup x) :=
    ⟨nsK hns2 hk3, fun b o e => hk3 _ _ (hk2 _ _ (hk1 _ _ (of_hideAll _ e))), Nat.le_of_eq (hideAll_size _ _)⟩
  have NW : News (hideAll h [a]) h.objs.size (h2.push (kxs_mw "ValueError.__init__" a)) [(h2.objs.size, kxs_mw "ValueError.__init__" a), (a, excObj C t0 none .none)] := fun p hp => by
    rcases List.mem_cons.mp hp with e | hp
    · subst e
      refine ⟨Heap.get?_push_size _ rfl, Nat.ne_of_gt hLt, ?_⟩
      cases z : (hideAll h [a]).get? h2.objs.size with
      | none => rfl
      | some o => exact absurd (Heap.lt_size (of_hideAll _ z)) (Nat.lt_asymm hLt)
    · rw [List.mem_singleton.mp hp]
      exact ⟨hk3 _ _ ha2, haL, hideAll_none _ (List.mem_singleton.mpr rfl)⟩
  have X0 : K.In (hideAll h [a]) := fun b o e => hideAll_get _ (X b o e) (fun z => by
    rw [List.mem_singleton.mp z, haK] at e
    cases e)
  refine kxs_callWith1 NW (List.mem_cons_self ..) ?_
  refine Calls.spliced_cons (wpAny_Constant_str (k := j1) (pos := q.p3) (Calls.spliced_nil ⟨kxs_at NW (List.mem_cons_self ..), ?_⟩))
  refine kxs_call FR X0 NW PySem.F.excBase_ValueError T.init (List.mem_cons_self ..) (.tail (Nat.ne_of_gt (Heap.lt_size ha2)) (.head fun p hp => nomatch hp)) (by show 1 ≤ sizeLine; decide) (fun t' h4 F4 N4 _ => ?_)
  have ha4 : h4.get? a = some (excObj C t' none .none) := (N4 (a, excObj C t' none .none) (List.mem_cons_of_mem _ (List.mem_cons_of_mem _ (List.mem_cons_self ..)))).1
  have X4 : K.In h4 := fun b o e => F4.keep b o (X0 b o e)
  obtain ⟨nm, qn, N, bs, bm, sn, sub, ab, col, dd, k0, k1, k2, k3, k5, hC, hbm⟩ := T.oex.cls
  have hcl : clsIn K C = some { name := nm, bases := bs, mro := .ref C :: bm, ns := N, qualname := qn, hasDict := true, slotNames := sn, subclasses := sub, abstract := ab, collection := col, hasDel := false } := by
    unfold clsIn
    rw [hC] <;> rfl
  -- self.code = text
  refine wpAt_of_wpAny (wpAny_execs_cons (plainObj_wpAny_Assign_Attribute (wpAny_Constant_str (k := j2) (pos := q.p8) (wpAny_Name (wpAny_loadName_local rfl rfl F4.ns hv ?_) (by decide))) rfl))
  refine set_plain X4 (ox := excObj C t' none .none) (od := none) ⟨ha4, rfl, rfl, trivial⟩ T.oex.sa ?_
  refine PySem.HandSPX.exc_osa X4 ha4 hcl (show PySem.HandSPX.refsVE (.ref C :: bm) = true from hbm) rfl T.code (fun h5 tk' dx hk5 dn dne hx hn => ?_)
  have hL4 : h.objs.size ≤ h4.objs.size := by
    obtain ⟨o, _, _, e, _⟩ := F4.ns
    exact Nat.le_of_lt (Heap.lt_size e)
  refine wpAny_execs_nil (hq h5 t' tk' dx _ (fun b o hb e => hk5 b o hb (F4.keep b o (hideAll_get _ e fun z => hb (List.mem_singleton.mp z)))) (Nat.le_trans hL4 dn) dne hx hn)
end
end FvX


set_option maxHeartbeats 2000000
namespace FvX
open PySem PySem.Spec PyProof.Rows L2
section
variable {X : Cx} {C f : Addr} {qual msg cod x : Str} {q : ErrPos} {j1 j2 k : Nat} {p pos : Pos}
/-- x(): the new error, its dict at d -/
def tErr0 (C : Addr) (cod : Str) : L2.St → Hp → XK → Prop := fun _ H Q => ∀ d, H d = none → Q (.ref C) (some d) (upd H d (.xd [("code", .str cod)]))
theorem pmk_err0 (T : ErrC X.prog.main.file X.K C f qual q msg cod j1 j2) (hline : LineOk q msg j1) (htop : (X.prog.main.scope.names.lookup ("super" : Str)).isSome = false) (hms : X.mg "super" = none) (hr : Room (k + 1) X.A) (hg : Gl X x) (hm : X.mg x = some (.ref C))
    (hdb : (x == ("__debug__" : Str)) = false := by decide) : PMk X (.Call (.Name x p) [] [] pos) (tErr0 C cod) := by
  intro pins s σ H Q I h
  obtain ⟨nm, qn, N, bs, bm, sn, sub, ab, col, dd, k0, k1, k2, k3, k5, hC, hbm⟩ := T.oex.cls
  refine wpAny_Call_Name_kw (ld_glob I hg hm ?_ hdb)
  refine PySem.W.callWith_K0 I.kIn T.oex.kC ?_
  show wpAny _ _ (call (.ref C) []) _ _ _
  obtain ⟨hp, g, dr, tk, os⟩ := s
  have nK : X.K.lookup (hp.objs.size + 1) = none := by
    cases e : X.K.lookup (hp.objs.size + 1) with
    | none => rfl
    | some o => exact absurd (Nat.lt_of_succ_lt (Heap.lt_size (I.kIn _ _ e))) (Nat.lt_irrefl _)
  have fresh : H (hp.objs.size + 1) = none := I.hok.fresh (Nat.le_succ _)
  have kk : ∀ b o, hp.get? b = some o → ((hp.push (PySem.W.kdv_tup [])).push (PySem.HandSPX.excO C hp.objs.size)).get? b = some o := fun b o e => Heap.get?_push_of_some _ (Heap.get?_push_of_some _ e)
  have at1 : ((hp.push (PySem.W.kdv_tup [])).push (PySem.HandSPX.excO C hp.objs.size)).get? (hp.objs.size + 1) = some (PySem.HandSPX.excO C hp.objs.size) := by heap_get
  have I2 := I.laid (t' := tk) (a := hp.objs.size + 1) (o := exo (hp.objs.size + 1) C none) (h' := (hp.push (PySem.W.kdv_tup [])).push (PySem.HandSPX.excO C hp.objs.size)) kk (Nat.le_succ _) (exo_ok at1)
  obtain ⟨mb, hb, hbb⟩ := I.mod.blt
  refine wpAny_call (PySem.HandSPX.call_own PySem.F.excBase_ValueError (fun Y => PySem.HandSPX.refsVE_contains Y bm hbm) (I.kIn _ _ hC) (PySem.W.looks_findIn I.kIn T.find) (fun self => PySem.W.bind_fn I.kIn self T.typ) (Nat.zero_le _) ?_)
  refine init_run (mg := X.mg) (mb := mb) (t0 := hp.objs.size) T hline htop (fun b o e => kk b o (I.kIn b o e)) ((I.mod.glob.keeps I.bk).keeps kk) hms ((hb.keeps I.bk).keeps kk) ((hbb _ (by decide)).trans (by decide +kernel)) ?lim (hr.make C [] []).depth at1 nK (fun h' t1 tk' dx tk0 hk dn dne hx hn => ?_)
  case lim => exact (I.mod.nolimit.keeps I.bk).keeps kk
  have nd : H dx = none := I.hok.fresh (Nat.le_trans (by simp; omega) dn)
  have na : ∀ {b : Addr} {u : Option HO}, upd H (hp.objs.size + 1) (exo (hp.objs.size + 1) C none) b = none → b ≠ hp.objs.size + 1 := fun {b u} e z => by
    rw [z, upd_same] at e
    cases e
  have lt2 : ∀ {b : Addr} {o : Obj}, ((hp.push (PySem.W.kdv_tup [])).push (PySem.HandSPX.excO C hp.objs.size)).get? b = some o → b ≠ dx := fun {b o} e => Nat.ne_of_lt (Nat.lt_of_lt_of_le (Heap.lt_size e) dn)
  have same : ∀ {b : Addr} {o : HO}, upd H (hp.objs.size + 1) (exo (hp.objs.size + 1) C none) b = some o → o ≠ exo (hp.objs.size + 1) C none → upd (upd H dx (exd dx [("code", .str cod)])) (hp.objs.size + 1) (exo (hp.objs.size + 1) C (some dx)) b = some o := fun {b o} e ne => by
    have b1 : b ≠ hp.objs.size + 1 := fun z => by
      rw [z, upd_same] at e
      exact ne (Option.some.inj e).symm
    rw [upd_ne b1] at e
    rw [upd_ne b1, upd_ne (ne_of_none e nd)]
    exact e
  have un : Un (frs X.stack) [] (upd H (hp.objs.size + 1) (exo (hp.objs.size + 1) C none)) (upd (upd H dx (exd dx [("code", .str cod)])) (hp.objs.size + 1) (exo (hp.objs.size + 1) C (some dx))) ((hp.push (PySem.W.kdv_tup [])).push (PySem.HandSPX.excO C hp.objs.size)) h' := by
    refine ⟨fun b o e n _ _ => hk b o (na (u := none) n) e, fun b o e n _ _ => ⟨o.slots, hk b o (na (u := none) n) e⟩, fun b o e n _ => ?_, fun b o e _ => ?_, fun b xs e => same e fun z => exo_tup z.symm, fun b o u e => same e fun z => exo_frz z.symm, fun b ps e => ⟨#[], ?_⟩⟩
    · have b1 := na (u := none) n
      rw [upd_ne b1, upd_ne (lt2 e)]
      rw [upd_ne b1] at n
      exact n
    · by_cases b1 : b = hp.objs.size + 1
      · exact ⟨_, by rw [b1]; exact hx⟩
      · exact ⟨o, hk b o b1 e⟩
    · rw [Array.append_empty]
      exact same e fun z => exo_tbl z.symm
  have hok : HOk X.prog X.w (upd (upd H dx (exd dx [("code", .str cod)])) (hp.objs.size + 1) (exo (hp.objs.size + 1) C (some dx))) h' := fun b o e => by
    by_cases b1 : b = hp.objs.size + 1
    · rw [b1, upd_same] at e
      cases e
      rw [b1]
      exact exo_ok hx
    · rw [upd_ne b1] at e
      by_cases b2 : b = dx
      · rw [b2, upd_same] at e
        cases e
        rw [b2]
        exact exd_ok hn (relO_put (fs := []) ⟨_, rfl⟩ fun g => True.intro)
      · rw [upd_ne b2] at e
        have e2 : upd H (hp.objs.size + 1) (exo (hp.objs.size + 1) C none) b = some o := by rw [upd_ne b1]; exact e
        refine (I2.hok b o e2).stay (fun c v hc z => hk c v (fun c1 => ?_) z) (fun c hc => same hc fun z => exo_own z.symm) (fun c xs hc => same hc fun z => exo_tup z.symm)
        rcases hc with hc | hc
        · exact b1 (hc.symm.trans c1)
        · rw [c1, upd_same] at hc
          exact exo_own (Option.some.inj hc)
  refine ⟨rfl, mk_end (a := hp.objs.size + 1) (C := C) (d := dx) (fs := [("code", .str cod)]) (raises_own T.oex.exC T.oex.tyC) I (Nat.le_succ _) kk un hok rfl I.bare upd_same ?_ nd ?_⟩
  · rw [upd_ne dne, upd_same]
  · have e : upd (del (upd (upd H dx (exd dx [("code", .str cod)])) (hp.objs.size + 1) (exo (hp.objs.size + 1) C (some dx))) (hp.objs.size + 1)) dx (.xd [("code", .str cod)]) = upd H dx (.xd [("code", .str cod)]) := by
      funext b
      by_cases b2 : b = dx
      · rw [b2, upd_same, upd_same]
      · rw [upd_ne b2, upd_ne b2]
        by_cases b1 : b = hp.objs.size + 1
        · rw [b1, del_same, fresh]
        · rw [del_ne b1, upd_ne b1, upd_ne b2]
    rw [e]
    exact h dx nd
end
end FvX


set_option maxHeartbeats 2000000
namespace FvX
open PySem PySem.Spec PyProof.Rows L2
/-! ### try: .. except x as n: .. except ..: ..; the first clause takes what comes -/
/-- what the first clause wishes -/
def wFst (K : PySem.W.Frag) (c : Value) (i : Nat) (ts : Addr → Value → Option Addr → TS) (D : Ends) : WX := fun cls dd σ H => PySem.W.exmOne K cls c = some true ∧
  ∀ a, H a = none → ts a cls dd { nx := fun σ' H' => D.nx (σ'.set i none) H', rt := D.rt, bk := fun σ' H' => D.bk (σ'.set i none) H', ct := fun σ' H' => D.ct (σ'.set i none) H' } (σ.set i (some (.ref a))) H
section
variable {X : Cx} {x n : Str} {c : Value} {i : Nat} {bd su : List Stmt} {b1 : Stmt} {np tp hp' : Pos} {more : List ExceptHandler} {tb : WX → TS} {ts : Addr → Value → Option Addr → TS}
theorem ps_try_first (hstk : X.stack = X.env :: X.outer) (hfrm : X.env.frame = some X.env.locals) (nd : X.N.Nodup) (hix : X.N[i]? = some n) (hlc : X.env.kindOf n = some .local) (hcl : Names X x c)
    (hbd : ∀ (W : WX) (pn : List (Addr × Obj)) (xe : Value → Shared → Prop), Takes (X.tr pn xe) W → PassesOwn (model X.prog X.w) X.A X.env xe → PSs (X.tr pn xe) bd (tb W))
    (hsu : ∀ (a : Addr) (oe : Obj) (cls : Value) (dd : Option Addr) (pn : List (Addr × Obj)), Zc cls dd oe → (∃ vs, oe.data = .fields vs) → PSs (X.suite a ((a, oe) :: pn)) (b1 :: su) (ts a cls dd)) :
    PS X (.Try bd (.ExceptHandler (some (.Name x np)) (some n) (b1 :: su) hp' :: more) [] [] tp) (fun D σ H => tb (wFst X.K c i ts D) D σ H) := by
  refine ⟨fun pins s σ H D I hW => wpAny_Try_except ?_⟩
  have fr : X.A.frames = some (X.env :: X.outer) := I.ok.frames.trans (congrArg some hstk)
  let land : Value → Shared → Prop := fun e s1 => wpAny (model X.prog X.w) X.A (noteFrame e X.env) (fun _ s2 => wpAny (model X.prog X.w) X.A (setFlight e none) (fun _ s3 => wpAny (model X.prog X.w) X.A (handleBy e X.env (.ExceptHandler (some (.Name x np)) (some n) (b1 :: su) hp' :: more)) (SP X pins D) X.xe s3) X.xe s2) X.xe s1
  have caught : Takes (X.tr (X.pn ++ pins) land) (wFst X.K c i ts D) := by
    rintro u s' ⟨a, B, sI, pins', σ', H', cls, dd, rfl, J', nb, up, sky, na, os, ag, hm, hyes⟩
    have J : Inv X pins σ' H' sI := J'.ofTry I.ok
    show wpAny (model X.prog X.w) X.A (noteFrame (.ref a) X.env) _ _ _
    refine Sky.land Zc.steady fr hfrm (show Sky B (X.env :: X.outer) a (Zc cls dd) X.env.locals s'.heap from hstk ▸ sky) fun h3 fl up3 => ?_
    have J3 : Inv X pins σ' H' { s' with heap := h3 } := J.landed nb fl.1 (up.trans up3) os ag
    obtain ⟨o3, v3, g3, z3, d3⟩ := fl.there
    have apart : a ∉ frs (X.env :: X.outer) := fun hin => by
      obtain ⟨_, o', g', no⟩ := fl.2.2.1.mem hin
      rw [g3] at g'
      cases g'
      exact no _ d3
    have aL : a ≠ X.env.locals := fun z => apart (List.mem_filterMap.mpr ⟨X.env, List.mem_cons_self, hfrm.trans (congrArg some z.symm)⟩)
    have aF : a ∉ X.fs := fun hin => by
      obtain ⟨e, he, z⟩ := List.mem_filterMap.mp hin
      exact apart (List.mem_filterMap.mpr ⟨e, List.mem_cons_of_mem _ he, z⟩)
    have S3 := J3.suite g3 d3 na aL aF
    have tyIs : PySem.W.Looks (model X.prog X.w) h3 (typeOf (.ref a)) cls := fun A Q E s k z => wpAny_typeOf_ref (k _ _ g3) (z3.1.symm ▸ z)
    have meets := PySem.W.exm_one (M := model X.prog X.w) J3.kIn tyIs hm
    refine wpAny_handleBy_cons (codeAny_handlers_test ?_) (fun z => by cases z)
    have ask : ∀ {Q : Value → Shared → Prop} {E : Value → Shared → Prop}, Q c { s' with heap := h3 } → wpAny (model X.prog X.w) (X.A.mark (some (.ref a))) (eval (.Name x np) X.env) Q E { s' with heap := h3 } := fun {Q E} z => by
      rcases hcl with ⟨gl, nd', m | ⟨m, bv, nn⟩⟩
      · exact ld_glob (X := X.suite a ((a, o3) :: (X.pn ++ pins))) S3 gl m z nd'
      · exact ld_blt (X := X.suite a ((a, o3) :: (X.pn ++ pins))) S3 gl m bv z nn nd'
    refine ask (meets.here (codeAny_handlers_suite_as (HandSPX.lands_againZ fl fun h4 fl4 up4 => ?_)))
    have J4 : Inv X pins σ' H' { s' with heap := h4 } := J.landed nb fl4.1 ((up.trans up3).trans up4) os ag
    obtain ⟨o4, v4, g4, z4, d4⟩ := fl4.there
    refine store_ok (X := X.suite a ((a, o4) :: (X.pn ++ pins))) (v := .ref a) (J4.suite g4 d4 na aL aF) nd hix (.inl hlc) rfl (fun s5 S5 => ?_) (.inr hlc)
    refine wpAny_mono ((hsu a o4 cls dd (X.pn ++ pins) z4 ⟨_, d4⟩).run [] s5 _ H' _ S5 (hyes a na)) (fun fl6 s6 q6 => ?_) (fun _ _ z => z.elim)
    have gone : ∀ {σ6 : L2.St} {H6 : Hp} {Q : Shared → Prop}, Inv (X.suite a ((a, o4) :: (X.pn ++ pins))) [] σ6 H6 s6 → (∀ s7, Inv X pins (σ6.set i none) H6 s7 → Q s7) →
        wpAny (model X.prog X.w) X.A (do bindName X.env n .none; unbindBehindTheSuite X.env n hp') (fun _ s7 => Q s7) X.xe s6 := fun {σ6 H6 Q} S6 z => gone_ok (S6.unsuite I.ok) nd hix hlc z
    cases fl6 with
    | ret u => obtain ⟨v6, σ6, H6, S6, r6, z6⟩ := q6; exact gone S6 fun s7 J7 => ⟨_, _, _, J7, r6, z6⟩
    | next => obtain ⟨σ6, H6, S6, z6⟩ := q6; exact gone S6 fun s7 J7 => ⟨_, _, J7, z6⟩
    | brk => obtain ⟨σ6, H6, S6, z6⟩ := q6; exact gone S6 fun s7 J7 => ⟨_, _, J7, z6⟩
    | cont => obtain ⟨σ6, H6, S6, z6⟩ := q6; exact gone S6 fun s7 J7 => ⟨_, _, J7, z6⟩
  refine wpAny_mono ((hbd (wFst X.K c i ts D) (X.pn ++ pins) land caught PassesOwn.looking).run [] s σ H D (I.toTry _) hW) (fun fl s1 z => ?_) (fun e s1 z => z)
  cases fl with
  | ret u => obtain ⟨v, σ', H', J', r, z⟩ := z; exact ⟨v, σ', H', J'.ofTry I.ok, r, z⟩
  | next => obtain ⟨σ', H', J', z⟩ := z; exact wpAny_execs_nil ⟨σ', H', J'.ofTry I.ok, z⟩
  | brk => obtain ⟨σ', H', J', z⟩ := z; exact ⟨σ', H', J'.ofTry I.ok, z⟩
  | cont => obtain ⟨σ', H', J', z⟩ := z; exact ⟨σ', H', J'.ofTry I.ok, z⟩
end
/-! ### e.f of the caught error -/
section
variable {X : Cx} {a : Addr} {oe : Obj} {cls : Value} {d : Option Addr} {pn : List (Addr × Obj)} {i : Nat} {n f : Str} {p pos : Pos}
theorem pe_errf (hz : Zc cls d oe) (hf : ∃ vs, oe.data = .fields vs) (hv : PE (X.suite a ((a, oe) :: pn)) (.Name n p) (tVar i)) (hb : attributeBase (.Name n p) f X.env (eval (.Name n p) X.env) = eval (.Name n p) X.env := by rfl) :
    PE (X.suite a ((a, oe) :: pn)) (.Attribute (.Name n p) f pos) (fun σ H Q => σ[i]? = some (some (.ref a)) ∧ ∃ (C dd : Addr) (fs : List (Str × V)) (v : V), cls = .ref C ∧ XfC X.K C ∧ PySem.W.findIn X.K (.ref C) f = some none ∧ d = some dd ∧ H dd = some (.xd fs) ∧ fs.lookup f = some v ∧ Q v H) := by
  refine ⟨fun pins s σ H Q I h => ?_⟩
  obtain ⟨h1, C, dd, fs, v, h2, T, h3, h4, h5, h6, q⟩ := h
  exact (pe_xf T h3 hz hf hv hb).run pins s σ H Q I ⟨_, h1, rfl, h2, dd, fs, v, h4, h5, h6, q⟩
end
end FvX


set_option maxHeartbeats 2000000
namespace FvX
open PySem PySem.Spec PyProof.Rows L2 LamX
/-! ### x(lambda: body), where x calls what it got within a try and goes on behind it -/
section
variable {X : Cx} {pins : List (Addr × Obj)} {σ : L2.St} {H : Hp} {s : Shared}
/-- the call of the lambda; what it raises is told of the very slots -/
theorem pe_actS {Eg : XK} {Ng : List Str} {qg : Str} {sg : Scope} {gf lf lc : Addr} {cdg pm ctv : Value} {pr : Arguments} {bd : Expr} {sc : Scope} {k i : Nat} {nm : Str} {pn : List (Addr × Obj)} {xe : Value → Shared → Prop} {W : WX} {E : XK} {tb : TE} {p1 p2 : Pos}
    (I : Inv X pins σ H s) (L : LamS X.env.scope sc) (hobj : s.heap.get? lf = some (PySem.W.kla_obj "<lambda>" (X.env.qual ++ "<lambda>") pr bd sc (cloFrom X.env.cells sc.names []) pm lc ctv)) (hn : H lf = none) (hnf : lf ∉ frs X.stack)
    (hbnd : bindArgs (PySem.W.kla_fn "<lambda>" (X.env.qual ++ "<lambda>") pr bd sc (cloFrom X.env.cells sc.names []) pm (.ref lc) ctv) ⟨[], []⟩ = pure [])
    (tk : Takes ((cxOf C8.CX0 X.prog X.w X.K X.mg X.base Ng qg sg gf cdg X.A X.stack s H Eg).tr pn xe) W) (hr : Room (k + 1) (X.A.deeper (envOfC qg sg s.heap.objs.size gf cdg)))
    (hbd : ∀ (A : Around) (outer : List Env) (s : Shared) (H : Hp), Room k (A.deeper (lamEnv X sc s.heap.objs.size lf lc)) → PE (lamCx X A outer s H E sc lf lc) bd tb)
    (hN : Ng[i]? = some nm) (hv : Vis sg nm) (hd : (nm == ("__debug__" : Str)) = false) (hcd : (nm == ("__classdict__" : Str)) = false) :
    PE ((cxOf C8.CX0 X.prog X.w X.K X.mg X.base Ng qg sg gf cdg X.A X.stack s H Eg).tr pn xe) (.Call (.Name nm p1) [] [] p2)
      (fun σZ HZ Q => σZ[i]? = some (some (.ref lf)) ∧ HZ lc = some (CodeO lc (X.env.qual ++ "<lambda>")) ∧ (∀ cls d H', E cls d H' → W cls d σZ H') ∧ tb σ HZ Q) := by
  refine ⟨fun pZ sZ σZ HZ Q IZ hh => ?_⟩
  obtain ⟨h1, h2, hW, h3⟩ := hh
  have var := (pe_var (X := (cxOf C8.CX0 X.prog X.w X.K X.mg X.base Ng qg sg gf cdg X.A X.stack s H Eg).tr pn xe) (pos := p1) (i := i) hN hv hd hcd).run pZ sZ σZ HZ (fun v H1 => v = .ref lf ∧ H1 = HZ) IZ ⟨.ref lf, h1, rfl, rfl⟩
  refine wpAny_Call_Name_kw (thn var fun u s1 z => ?_)
  obtain ⟨v, H1, I1, r1, e1, e2⟩ := z
  subst e1
  subst e2
  have eu : u = Value.ref lf := r1
  subst eu
  have here := I1.base.keep lf _ hobj hn hnf (fun z => nomatch (show lf ∈ ([] : List Addr) from z))
  have un : Un (frs X.stack) [] H H1 s.heap s1.heap := I1.base
  obtain ⟨⟨oc, vs, t, g1, g2, g3⟩, _, _⟩ := I1.hok lc _ h2
  have body : codeAny (model X.prog X.w) (X.A.deeper (envOfC qg sg s.heap.objs.size gf cdg)) (.call (.ref lf) ⟨[], []⟩) (CR (L2.CX X.prog X.w) (envOfC qg sg s.heap.objs.size gf cdg :: X.stack) X.prog X.w H1 s1 Q E) s1 := by
    refine PySem.W.kla_callFunE hr.depth here rfl L.co L.gen rfl ⟨lc, oc, vs, t, rfl, g1, g2, g3⟩ ?_
    rw [hbnd]
    refine wpAny_pure (wpAny_newFunctionEnv (fun y hy => (L.own y hy).2) (fun y hy => absurd hy List.not_mem_nil) (fun h₁ hns hsb => ⟨I1.nolimit.fresh _ hsb, ?_⟩) L.kind)
    show codeAny _ _ (.expr bd (lamEnv X sc s1.heap.objs.size lf lc)) _ _
    have kp : ∀ b o, s1.heap.get? b = some o → h₁.get? b = some o := fun b o e => hsb.extBut b o (Nat.ne_of_lt (Heap.lt_size e)) (Heap.get?_push_of_some _ e)
    have J := lam_start2 (A := X.A.deeper (envOfC qg sg s.heap.objs.size gf cdg)) (outer := envOfC qg sg s.heap.objs.size gf cdg :: X.stack) (E := E) (scope := sc) (f := lf) (c' := lc) (tk := s1.toks + ([] : List (Str × Value)).length) I L I1.env0 hr.hd un hns kp
    refine PySem.W.kla_codeExpr (wpAny_mono ((hbd _ _ s1 H1 (hr.deeper _)).run [] _ _ H1 Q J h3) (fun v s' z => ?_) fun e s' z => z)
    obtain ⟨v', H', J', rv, z⟩ := z
    exact ⟨v', H', J'.os, J'.bare, J'.base, J'.hok, rv, z⟩
  refine PySem.W.callWith_F0 ⟨_, _, _, _, here⟩ (wpAny_call (codeAny_mono body fun r s' z => ?_))
  cases r with
  | ok fl =>
    cases fl with
    | ret u => exact I1.after z
    | next => exact z.elim
    | brk => exact z.elim
    | cont => exact z.elim
  | error e => exact tk e s' (XE.of_call I1 (fun cls d H' hE => hW cls d H' hE) z)
end
/-- the def at gf, called with one value, makes of the lambda's reading what TT says -/
def GivesS (X : Cx) (Ng : List Str) (x : Str) (sg : Scope) (gf : Addr) (cdg : Value) (bg : List Stmt) (nm q : Str) (TT : (XK → Hp → VK → Prop) → Hp → VK → Prop) : Prop :=
  ∀ (lf lc : Addr) (s : Shared) (H : Hp) (Q : VK) (tl : XK → Hp → VK → Prop),
    (∀ (W : WX) (pn : List (Addr × Obj)) (xe : Value → Shared → Prop) (E : XK) (p1 p2 : Pos), Takes ((cxOf C8.CX0 X.prog X.w X.K X.mg X.base Ng x sg gf cdg X.A X.stack s H C8.E0).tr pn xe) W →
      PE ((cxOf C8.CX0 X.prog X.w X.K X.mg X.base Ng x sg gf cdg X.A X.stack s H C8.E0).tr pn xe) (.Call (.Name nm p1) [] [] p2)
        (fun σZ HZ Q => σZ[0]? = some (some (.ref lf)) ∧ HZ lc = some (CodeO lc q) ∧ (∀ cls d H', E cls d H' → W cls d σZ H') ∧ tl E HZ Q)) →
    H lc = some (CodeO lc q) → TT tl H Q →
    ∃ t, PSs (cxOf C8.CX0 X.prog X.w X.K X.mg X.base Ng x sg gf cdg X.A X.stack s H C8.E0).nox bg t ∧ t { nx := fun _ H' => Q .non H', rt := Q } (L2.start Ng [.ref lf]) H
section
variable {X : Cx}
theorem pe_lamS {T : List (Addr × Str)} {TT : (XK → Hp → VK → Prop) → Hp → VK → Prop} {x nm : Str} {gf c P : Addr} {k : Nat} {pg : Arguments} {bg : List Stmt} {sg : Scope} {dV kV doc pm cdv ct oc : Value} {an od : Option Addr} {osl : Array (Option Value)} {Ng : List Str}
    {pr : Arguments} {bd : Expr} {sc : Scope} {t : XK → TE} {p lpos pos : Pos} (hg : Gl X x) (hm : X.mg x = some (.ref gf)) (hk : PySem.W.keepIn X.K (.ref gf) = true)
    (lk : X.K.lookup gf = some ⟨oc, od, .func (PySem.W.fnOf x x pg bg sg dV kV doc pm an cdv ct), osl⟩) (hcg : PySem.W.codeIn X.K cdv x = true) (hb : L2.Binds X.K (PySem.W.fnOf x x pg bg sg dV kV doc pm an cdv ct) [nm] []) (Sg : FnScope Ng [nm] sg) (hNg : Ng[0]? = some nm) (hva : Vis sg nm)
    (hG : GivesS X Ng x sg gf cdv bg nm (X.env.qual ++ "<lambda>") TT)
    (TB : TabB X.base X.mg c P) (hcode : X.env.code = .ref c) (hmT : (P, X.env.qual ++ "<lambda>") ∈ T) (hu : ∀ p ∈ T, p.1 = P → p.2 = X.env.qual ++ "<lambda>") (hr : Room (k + 2) X.A) (L : LamS X.env.scope sc) (hdef : defaultsOf pr X.env = ([], []))
    (hbind : ∀ (q : Str) (cl : List (Str × Addr)) (pm cv ctv : Value), bindArgs (PySem.W.kla_fn "<lambda>" q pr bd sc cl pm cv ctv) ⟨[], []⟩ = pure [])
    (hbd : ∀ (A : Around) (outer : List Env) (s : Shared) (H : Hp) (E : XK) (lf lc : Addr), Room k (A.deeper (lamEnv X sc s.heap.objs.size lf lc)) → PE (lamCx X A outer s H E sc lf lc) bd (t E))
    (hdb : (x == ("__debug__" : Str)) = false := by decide) (hd : (nm == ("__debug__" : Str)) = false := by decide) (hcd : (nm == ("__classdict__" : Str)) = false := by decide) :
    PE X (.Call (.Name x p) [.Lambda pr bd sc lpos] [] pos) (tLam T TT t) := by
  refine ⟨fun pins s σ H Q I hh => wpAny_Call_Name_kw (ld_glob I hg hm (PySem.W.callWith_K (h₀ := X.base) I.ok.mod.kin hk ?_ (by rfl) (by rfl)) hdb)⟩
  show wpAny _ _ (spliced ((false, eval (.Lambda pr bd sc lpos) X.env) :: backTo pos (starEach [] X.env))) _ _ s
  refine Calls.spliced_cons (lam_make2 I TB hcode hmT hu hh.1 hdef (L.has I.ok) fun lf lc pm' ctv H1 s' I1 eN T1 g1 g2 g3 g4 => Calls.spliced_nil ⟨I1.kIn, ?_⟩)
  refine wpAny_call (codeAny_mono (R := CR C8.CX0 X.stack X.prog X.w H1 s' Q C8.E0) ?_ fun r s2 z => ?_)
  · refine run_ofS (N := Ng) (ps := [nm]) (us := [.ref lf]) (vs := [.ref lf]) lk hcg Sg hr I1.env0 (hb s' [.ref lf] I1.kIn rfl) (.cons rfl .nil) rfl fun hr' => ?_
    obtain ⟨t', q1, q2⟩ := hG lf lc s' H1 Q (fun E H' Q' => t E σ H' Q') (fun W pn xe E p1 p2 tk => pe_actS (i := 0) I1 L g1 g2 g3 (hbind _ _ _ _ _) tk hr' (fun A outer s H hr2 => hbd A outer s H E lf lc hr2) hNg hva hd hcd) g4 (hh.2 H1 eN T1)
    exact ⟨t', q1.nox, q2⟩
  · cases r with
    | error e => exact (show False from z).elim
    | ok fl =>
      cases fl with
      | ret u => exact I1.after z
      | next => exact z.elim
      | brk => exact z.elim
      | cont => exact z.elim
end
end FvX


namespace Fv
open PySem PySem.Spec PyProof.Rows L2 FvX
/-! ### own defs that may raise -/
structure OwnR (P : Program) (w : World) (K : PySem.W.Frag) (mg : Str → Option Value) (base : Heap) (k : Nat) (x : Str) (sp : Sp) : Prop where
  ex : ∃ f : Addr, mg x = some (.ref f) ∧ PySem.W.keepIn K (.ref f) = true ∧ FnR P w K mg base (L2.CX P w) k f sp
section
variable {X : Cx} {k : Nat} {x : Str} {sp : Sp} {E : XK} {e : Expr} {es : List Expr} {t : TA} {p pos : Pos}
theorem pe_ownR (C : OwnR X.prog X.w X.K X.mg X.base k x sp) (hr : Room k X.A) (hg : Gl X x) (hx : Passes (L2.CX X.prog X.w) X E) (ha : PA X (e :: es) t) (hdb : (x == ("__debug__" : Str)) = false := by decide)
    (he : starEach (e :: es) X.env = (false, eval e X.env) :: starEach es X.env := by rfl) (hpl : (backTo pos (starEach es X.env)).any (·.1) = false := by rfl) : PE X (.Call (.Name x p) (e :: es) [] pos) (fun σ H Q => t σ H fun vs H1 => sp vs H1 Q E) := by
  obtain ⟨f, h1, h2, h3⟩ := C.ex
  refine ⟨fun pins s σ H Q I h => wpAny_Call_Name_kw (ld_glob I hg h1 (PySem.W.callWith_K (h₀ := X.base) I.ok.mod.kin h2 (thn (ha.run pos pins s σ H _ I h) fun us s1 z => ?_) he hpl) hdb)⟩
  obtain ⟨vs, H1, I1, r, q⟩ := z
  exact ⟨I1.kIn, wpAny_call (run_fnR h3 hr hx I1 r q)⟩
theorem pe_ownR0 (C : OwnR X.prog X.w X.K X.mg X.base k x sp) (hr : Room k X.A) (hg : Gl X x) (hx : Passes (L2.CX X.prog X.w) X E) (hdb : (x == ("__debug__" : Str)) = false := by decide) : PE X (.Call (.Name x p) [] [] pos) (fun σ H Q => sp [] H Q E) := by
  obtain ⟨f, h1, h2, h3⟩ := C.ex
  exact ⟨fun pins s σ H Q I h => wpAny_Call_Name_kw (ld_glob I hg h1 (PySem.W.callWith_K0 I.kIn h2 (wpAny_call (run_fnR h3 hr hx I .nil h))) hdb)⟩
end
theorem passX {P : Program} {w : World} {K : PySem.W.Frag} {mg : Str → Option Value} {base : Heap} {N : List Str} {qual : Str} {scope : Scope} {f : Addr} {cd : Value} {A : Around} {outer : List Env} {s : Shared} {H : Hp} {E : XK} :
    Passes (L2.CX P w) (cxOf (L2.CX P w) P w K mg base N qual scope f cd A outer s H E) E := passes_call (takes_of rfl rfl rfl rfl) (fun _ _ _ _ h => h)
theorem passL {X : Cx} {A : Around} {outer : List Env} {s : Shared} {H : Hp} {E : XK} {sc : Scope} {lf lc : Addr} : Passes (L2.CX X.prog X.w) (LamX.lamCx X A outer s H E sc lf lc) E := passes_call (takes_of rfl rfl rfl rfl) (fun _ _ _ _ h => h)
/-- the error of the class at CT leaves, its code told -/
def errAt (CT : Addr) (cod : Str) (H : Hp) (E : XK) : Prop := ∀ (H' : Hp) (dd : Addr), Same H H' → H' dd = some (.xd [("code", .str cod)]) → E (.ref CT) (some dd) H'
theorem errAt.mono {CT : Addr} {cod : Str} {H H1 : Hp} {E : XK} (h : errAt CT cod H E) (s : Same H H1) : errAt CT cod H1 E := fun H' dd s' e => h H' dd (s.trans s') e
/-- a term by is_term's default bounds -/
def tmB (d : PyData) : Bool := (meas 5 d 24).isSome
def spChecked (K : PySem.W.Frag) (CT : Addr) : Sp := fun vs H Q E => ∃ (v : V) (d : PyData), vs = [v] ∧ Dp K H v d ∧ gd 20 d = true ∧ (tmB d = true → ∀ H', Same H H' → Q v H') ∧ (tmB d = false → errAt CT "InvalidTerm" H E)
/-- the term of an operator and its parts, or the only part -/
def madeD (op : Str) : List PyData → PyData
  | [d] => d
  | ds => .tuple (.str op :: ds)
def spJoined (K : PySem.W.Frag) (CT : Addr) : Sp := fun vs H Q E => ∃ (op : Str) (tp : Addr) (xs : List V) (ds : List PyData), vs = [.str op, .ref tp] ∧ SqT K H tp xs ∧ DpAll K H xs ds ∧ xs.length ≤ 100 ∧ gd 0 (.str op) = true ∧ (∀ d ∈ ds, gd 15 d = true) ∧
  (tmB (madeD op ds) = true → ∀ H' v, Same H H' → Dp K H' v (madeD op ds) → Q v H') ∧ (tmB (madeD op ds) = false → errAt CT "InvalidTerm" H E)
def spLower (K : PySem.W.Frag) (CT : Addr) (op : Str) : Sp := fun vs H Q E => ∃ (tp : Addr) (xs : List V) (ds : List PyData), vs = [.ref tp] ∧ SqT K H tp xs ∧ DpAll K H xs ds ∧ xs.length ≤ 100 ∧ (∀ d ∈ ds, gd 15 d = true) ∧
  (tmB (madeD op ds) = true → ∀ H' v, Same H H' → Dp K H' v (madeD op ds) → Q v H') ∧ (tmB (madeD op ds) = false → errAt CT "InvalidTerm" H E)
def spLowerR (K : PySem.W.Frag) (CT : Addr) (op : Str) : Sp := fun xs H Q E => ∃ ds : List PyData, DpAll K H xs ds ∧ xs.length ≤ 100 ∧ (∀ d ∈ ds, gd 15 d = true) ∧
  (tmB (madeD op ds) = true → ∀ H' v, Same H H' → Dp K H' v (madeD op ds) → Q v H') ∧ (tmB (madeD op ds) = false → errAt CT "InvalidTerm" H E)
theorem madeD_gd {op : Str} {ds : List PyData} (ho : gd 0 (.str op) = true) (h : ∀ d ∈ ds, gd 15 d = true) (hl : ds.length ≤ 100) : gd 20 (madeD op ds) = true := by
  have z : gd 16 (.tuple (.str op :: ds)) = true := gd_tup (fun d hd => by
    rcases List.mem_cons.mp hd with e | e
    · rw [e]; exact gd_le ho (by decide)
    · exact h d e) (by rw [List.length_cons]; omega)
  unfold madeD
  split
  · rename_i d
    exact gd_le (h d (List.mem_singleton.mpr rfl)) (by decide)
  · exact gd_le z (by decide)
theorem madeD_ne {op : Str} {ds : List PyData} (h : ds.length ≠ 1) : madeD op ds = .tuple (.str op :: ds) := by
  match ds, h with
  | [], _ => rfl
  | [d], h => exact absurd rfl h
  | a :: b :: r, _ => rfl
end Fv


namespace Fv
open PySem PySem.Spec PyProof.Rows L2 FvX
theorem lmeas_up : ∀ (n : Nat) (d : PyData), 1 ≤ lmeas n d → lmeas (n + 1) d = lmeas n d
  | 0, d, h => by simp only [lmeas] at h; omega
  | n + 1, d, h => by
    by_cases a : isLd d = true
    · unfold lmeas
      rw [if_pos a, if_pos a]
    · by_cases b : isCd d = true
      · have e : ∀ m, lmeas (m + 1) d = if (0 : Int) ∈ (parts d).map (lmeas m) then 0 else ((parts d).map (lmeas m)).sum := fun m => by
          show (if isLd d = true then (1 : Int) else if isCd d = true then _ else 0) = _
          rw [if_neg a, if_pos b]
        rw [e] at h
        by_cases c : (0 : Int) ∈ (parts d).map (lmeas n)
        · rw [if_pos c] at h; omega
        · have em : (parts d).map (lmeas (n + 1)) = (parts d).map (lmeas n) := List.map_congr_left fun x hx => lmeas_up n x (by
            have z := lmeas_nonneg n x
            rcases Int.lt_or_eq_of_le z with z | z
            · omega
            · exact absurd (List.mem_map.mpr ⟨x, hx, z.symm⟩) c)
          rw [e (n + 1), e n, em]
      · have e : ∀ m, lmeas (m + 1) d = 0 := fun m => by
          show (if isLd d = true then (1 : Int) else if isCd d = true then _ else 0) = _
          rw [if_neg a, if_neg b]
        rw [e] at h; omega
theorem mem_le_sum : ∀ {l : List Int} {x : Int}, (∀ y ∈ l, 0 ≤ y) → x ∈ l → x ≤ l.sum
  | y :: l, x, h, hx => by
    rw [List.sum_cons]
    have h0 := sum_nonneg (l := l) fun z hz => h z (List.mem_cons_of_mem _ hz)
    have h1 := h y (List.mem_cons_self ..)
    rcases List.mem_cons.mp hx with e | e
    · omega
    · have := mem_le_sum (l := l) (fun z hz => h z (List.mem_cons_of_mem _ hz)) e
      omega
theorem tmB_iff (d : PyData) : tmB d = true ↔ 1 ≤ lmeas 5 d ∧ lmeas 5 d ≤ 24 := by
  unfold tmB
  rw [meas_some, Bool.and_eq_true, decide_eq_true_eq, decide_eq_true_eq]
theorem tmB_fits (d : PyData) : (decide (1 ≤ lmeas 5 d) && decide (lmeas 5 d ≤ 24)) = tmB d := (meas_some 5 d 24).symm
/-- what makes a term is made of terms -/
theorem made_parts {op : Str} {ds : List PyData} (h : tmB (madeD op ds) = true) : ds ≠ [] ∧ ∀ d ∈ ds, tmB d = true := by
  match ds, h with
  | [], h => cases (show false = true from h)
  | [d], h => exact ⟨fun z => (by cases z), fun x hx => by rw [List.mem_singleton.mp hx]; exact h⟩
  | a :: b :: r, h =>
    refine ⟨fun z => (by cases z), fun x hx => ?_⟩
    obtain ⟨h1, h2⟩ := (tmB_iff _).mp h
    have e : lmeas 5 (madeD op (a :: b :: r)) = if isCd (.tuple (.str op :: a :: b :: r)) = true then (if (0 : Int) ∈ (a :: b :: r).map (lmeas 4) then 0 else ((a :: b :: r).map (lmeas 4)).sum) else 0 := rfl
    rw [e] at h1 h2
    by_cases c : isCd (.tuple (.str op :: a :: b :: r)) = true
    · rw [if_pos c] at h1 h2
      by_cases c0 : (0 : Int) ∈ (a :: b :: r).map (lmeas 4)
      · rw [if_pos c0] at h1; omega
      · rw [if_neg c0] at h1 h2
        have z := lmeas_nonneg 4 x
        have x1 : 1 ≤ lmeas 4 x := by
          rcases Int.lt_or_eq_of_le z with z | z
          · omega
          · exact absurd (List.mem_map.mpr ⟨x, hx, z.symm⟩) c0
        have xs : lmeas 4 x ≤ ((a :: b :: r).map (lmeas 4)).sum := mem_le_sum (fun y hy => by
          obtain ⟨d', _, rfl⟩ := List.mem_map.mp hy
          exact lmeas_nonneg 4 d') (List.mem_map.mpr ⟨x, hx, rfl⟩)
        exact (tmB_iff x).mpr (by rw [lmeas_up 4 x x1]; omega)
    · rw [if_neg c] at h1; omega
def badD : PyData := .tuple [.none, .str "InvalidTerm"]
def outD (op : Str) (ds : List PyData) : PyData := if tmB (madeD op ds) = true then .tuple [madeD op ds, .str ""] else badD
def opOf (low : Bool) : Str := if low = true then "&" else "|"
def spMade (K : PySem.W.Frag) (CT : Addr) : Sp := fun vs H Q E => ∃ (pl : Addr) (xs : List V) (ds : List PyData) (low : Bool), vs = [.ref pl, .bl low] ∧ H pl = some (.lst xs) ∧ DpAll K H xs ds ∧ xs.length ≤ 4 ∧ (∀ d ∈ ds, gd 13 d = true) ∧
  (tmB (madeD (opOf low) ds) = true → ∀ H' v, Same H H' → Dp K H' v (madeD (opOf low) ds) → Q v H') ∧ (tmB (madeD (opOf low) ds) = false → errAt CT "InvalidTerm" H E)
def spDue (K : PySem.W.Frag) : Sp := fun vs H Q _ => ∃ (pl : Addr) (xs : List V) (ds : List PyData) (low : Bool), vs = [.ref pl, .bl low] ∧ H pl = some (.lst xs) ∧ DpAll K H xs ds ∧ xs.length ≤ 4 ∧ (∀ d ∈ ds, gd 13 d = true) ∧
  ∀ H' v, Same H H' → Dp K H' v (outD (opOf low) ds) → Q v H'
theorem eqv_nil (ds : List PyData) : PyData.eqv (.list ds) (.list []) = decide (ds = []) := by
  cases ds with
  | nil => rfl
  | cons d ds => simp [PyData.eqv, PyData.eqvAll]
/-- what _law_call makes of the lambda's reading -/
def TCall (K : PySem.W.Frag) (CF : Addr) : (XK → Hp → VK → Prop) → Hp → VK → Prop := fun tl H Q => ∀ (R : VK) (E : XK),
  (∀ v H', (∀ p, H' p = none → Q (.ref p) (upd H' p (.tup [v, .str ""]))) → R v H') →
  (∀ (C dd : Addr) (H' : Hp) (fs : List (Str × V)) (v : V), PySem.W.exmOne K (.ref C) (.ref CF) = some true → XfC K C → PySem.W.findIn K (.ref C) "code" = some none → H' dd = some (.xd fs) → fs.lookup ("code" : Str) = some v →
      (∀ p, H' p = none → Q (.ref p) (upd H' p (.tup [.non, v]))) → E (.ref C) (some dd) H') → tl E H R
end Fv


namespace Fv
open PySem PySem.Spec PyProof.Rows L2 FvX
/-! ### what stays when a lambda is made -/
theorem sq_ext {K : PySem.W.Frag} {H H' : Hp} {a : Addr} {xs : List V} (e : LamX.ExtN H H') (h : SqL K H a xs) : SqL K H' a xs := by
  rcases h with (h | ⟨o, h⟩) | h
  · exact .inl (.inl (e _ _ h fun ps z => by cases z))
  · exact .inl (.inr ⟨o, e _ _ h fun ps z => by cases z⟩)
  · exact .inr h
theorem sqT_ext {K : PySem.W.Frag} {H H' : Hp} {a : Addr} {xs : List V} (e : LamX.ExtN H H') (h : SqT K H a xs) : SqT K H' a xs := by
  rcases h with (h | ⟨o, h⟩) | h
  · exact .inl (.inl (e _ _ h fun ps z => by cases z))
  · exact .inl (.inr ⟨o, e _ _ h fun ps z => by cases z⟩)
  · exact .inr h
mutual
theorem dp_ext {K : PySem.W.Frag} {H H' : Hp} (e : LamX.ExtN H H') : ∀ (d : PyData) (v : V), Dp K H v d → Dp K H' v d
  | .none, _, h => by cases h; exact .non
  | .bool b, _, h => by cases h; exact .bl b
  | .int i, _, h => by cases h; exact .int i
  | .str x, _, h => by cases h; exact .str x
  | .list ds, _, h => by cases h with | lst hs ha => exact .lst (sq_ext e hs) (dpAll_ext e ds _ ha)
  | .tuple ds, _, h => by cases h with | tup hs ha => exact .tup (sqT_ext e hs) (dpAll_ext e ds _ ha)
  | .dict kvs, _, h => by cases h
theorem dpAll_ext {K : PySem.W.Frag} {H H' : Hp} (e : LamX.ExtN H H') : ∀ (ds : List PyData) (vs : List V), DpAll K H vs ds → DpAll K H' vs ds
  | [], _, h => by cases h; exact .nil
  | d :: ds, _, h => by cases h with | cons h1 h2 => exact .cons (dp_ext e d _ h1) (dpAll_ext e ds _ h2)
end
theorem ext_hide {M : List Addr} {H H' : Hp} (e : LamX.ExtN H H') : LamX.ExtN (hide M H) (hide M H') := fun b o z n => by
  obtain ⟨m, z⟩ := hide_some z
  rw [hide_ne m]
  exact e b o z n
theorem Src.ext {H H' : Hp} {a L : Addr} {ns : List Int} (h : Src H a L ns) (e : LamX.ExtN H H') : Src H' a L ns := by
  obtain ⟨i, p, st, c, h1, h2, h3⟩ := h
  exact ⟨i, p, st, c, e _ _ h1 (fun ps z => by cases z), e _ _ h2 (fun ps z => by cases z), h3⟩
theorem GV.ext {K : PySem.W.Frag} {n : Nat} {M : List Addr} {H H' : Hp} {v : V} (g : GV K n M H v) (e : LamX.ExtN H H') : GV K n M H' v := by
  obtain ⟨d, h1, h2⟩ := g
  exact ⟨d, dp_ext (ext_hide e) d v h1, h2⟩
theorem GV.smx {K : PySem.W.Frag} {n : Nat} {M : List Addr} {H H' : Hp} {v : V} (g : GV K n M H v) (s : SmX M H H') : GV K n M H' v := by
  obtain ⟨d, h1, h2⟩ := g
  exact ⟨d, dp_same s.hid d v h1, h2⟩
/-- tables stay where lists alone are changed -/
theorem tabs_smx {T : List (Addr × Str)} {M : List Addr} {H H' : Hp} (t : LamX.Tabs T H) (s : SmX M H H') (hM : ∀ b ∈ M, ∃ xs, H b = some (.lst xs)) : LamX.Tabs T H' := fun p hp => by
  obtain ⟨ps, h1, h2, h3⟩ := t p hp
  have nm : ∀ {b : Addr} {o : HO}, H b = some o → (∀ xs, o ≠ .lst xs) → b ∉ M := fun {b o} e n hb => by
    obtain ⟨xs, e'⟩ := hM b hb
    rw [e] at e'
    exact n xs (Option.some.inj e')
  refine ⟨ps, s _ _ (nm h1 fun xs z => by cases z) h1, h2, fun pos cv hc => ?_⟩
  obtain ⟨c, e1, e2⟩ := h3 pos cv hc
  exact ⟨c, e1, s _ _ (nm e2 fun xs z => by unfold LamX.CodeO at z; cases z) e2⟩
theorem tabs_same {T : List (Addr × Str)} {H H' : Hp} (t : LamX.Tabs T H) (s : Same H H') : LamX.Tabs T H' := t.ext s
theorem Src.lst {H : Hp} {a L : Addr} {ns : List Int} (h : Src H a L ns) : ∀ b ∈ [a], ∃ xs, H b = some (.lst xs) := fun b hb => by
  obtain ⟨_, _, _, _, e, _⟩ := h
  rw [List.mem_singleton.mp hb]
  exact ⟨_, e⟩
/-- the table of the law's own code -/
def TT0 (Pt : Addr) : List (Addr × Str) := [(Pt, ("law" : Str) ++ ".<locals>." ++ "<lambda>")]
section
variable {P : Program} {w : World} {K : PySem.W.Frag} {mg : Str → Option Value} {base : Heap}
/-- a def whose code object is told -/
theorem okC {x qual : Str} {st : Stmt} {f c : Addr} {oc : Value} {od an : Option Addr} {osl : Array (Option Value)} {kV doc pm ct : Value} {N ps : List Str} {k : Nat} {sp : Sp} (lk : K.lookup f = some ⟨oc, od, .func (PySem.W.fnOf x qual (defArgs st) (defBody st) (defScope st) .none kV doc pm an (.ref c) ct), osl⟩)
    (hcd : PySem.W.codeIn K (.ref c) qual = true) (S : FnScope N ps (defScope st)) (len : ∀ vs H Q E, sp vs H Q E → vs.length = ps.length)
    (hbody : ∀ (A : Around) (outer : List Env) (s : Shared) (H : Hp) (vs : List V) (Q : VK) (E : XK), Room k (A.deeper (envOfC qual (defScope st) s.heap.objs.size f (.ref c))) → sp vs H Q E →
      ∃ t, PSs (cxOf CX0 P w K mg base N qual (defScope st) f (.ref c) A outer s H E).nox (defBody st) t ∧ t { nx := fun _ H' => Q .non H', rt := Q } (start N vs) H) :
    FnOk P w K mg base CX0 (k + 1) f (PySem.W.fnOf x qual (defArgs st) (defBody st) (defScope st) .none kV doc pm an (.ref c) ct) ps sp :=
  fn_of lk hcd S len fun A outer s H vs Q E hr h => by
    obtain ⟨t, h1, h2⟩ := hbody A outer s H vs Q E hr h
    exact ⟨t, h1.nox, h2⟩
end
def spLawT (K : PySem.W.Frag) (Pt : Addr) : Sp := fun vs H Q _ => ∃ (a : Addr) (ns : List Int), vs = [.ref a] ∧ SqL K H a (ns.map V.int) ∧ ns.length ≤ 63 ∧ H Pt = some (.tbl #[]) ∧ ∀ H', Q (.bl true) H'
theorem outD_gd {op : Str} {ds : List PyData} (h : gd 20 (madeD op ds) = true) : gd 21 (outD op ds) = true := by
  unfold outD
  split
  · refine gd_tup (fun d hd => ?_) (Nat.le_of_ble_eq_true rfl)
    rcases List.mem_cons.mp hd with e | e
    · rw [e]; exact h
    · rw [List.mem_singleton.mp e]; exact gd_le (n := 0) (by decide +kernel) (Nat.zero_le _)
  · exact gd_le (n := 1) (by decide +kernel) (by decide)
end Fv


set_option maxHeartbeats 4000000
namespace FvX
open PySem PySem.W PySem.Calls PyProof.Rows
/-! ### an own error with one field: super().__init__(f".."), self.code = text, self.f = f -/
def flds : List Str := ["index", "letter", "name", "count", "place", "limit", "line", "word"]
abbrev errScope1 (fl : Str) : Scope := { kind := .function, names := [("self", .local), (fl, .local), ("__class__", .free), ("super", .globalImplicit)], isGenerator := false, isCoroutine := false, more := [] }
abbrev errParams1 (fl : Str) (pp pp2 : Pos) : Arguments := { posonlyargs := [], args := [{ arg := "self", annotation := none, pos := pp : Arg }, { arg := fl, annotation := none, pos := pp2 : Arg }], vararg := none, kwonlyargs := [], kw_defaults := [], kwarg := none, defaults := [] }
structure ErrPos1 where
  (p0 p1 p2 p4 p5 p6 p7 p8 p9 p10 p11 p12 p13 pp pp2 : Pos)
abbrev errBody1 (q : ErrPos1) (me : Expr) (cod fl : Str) (j2 : Nat) : List Stmt :=
  [.Expr (.Call (.Attribute (.Call (.Name "super" q.p0) [] [] q.p1) "__init__" q.p2) [me] [] q.p4) q.p5, .Assign [.Attribute (.Name "self" q.p6) "code" q.p7] (.Constant (.str cod) j2 q.p8) q.p9, .Assign [.Attribute (.Name "self" q.p10) fl q.p11] (.Name fl q.p12) q.p13]
def LineOk1 (q : ErrPos1) (me : Expr) : Prop := ∀ env : Env, ∃ pl : Sem Bool, eval (.Call (.Attribute (.Call (.Name "super" q.p0) [] [] q.p1) "__init__" q.p2) [me] [] q.p4) env = (do
  let ov ← attributeBase (.Call (.Name "super" q.p0) [] [] q.p1) "__init__" env (eval (.Call (.Name "super" q.p0) [] [] q.p1) env)
  standAt q.p2.atName
  let (f, first) ← holding [ov] (getMethod ov "__init__" pl)
  callWith q.p4 f first (backTo q.p4 (starEach [me] env)) [])
/-- the message is some text; nothing else is changed -/
def MsgOk (me : Expr) (fl : Str) (u : Value) : Prop := ∀ {prog : Program} {w : World} {A : Around} {env : Env} {E : Value → Shared → Prop} {Q : Value → Shared → Prop} {h : Heap} {g : Array GenState} {d : Drawn} {t : Nat} {os : OsState},
  (∀ (p : Pos) (tk : Nat) (Q' : Value → Shared → Prop), Q' u ⟨h, g, d, tk, os⟩ → wpAny (model prog w) A (eval (.Name fl p) env) Q' E ⟨h, g, d, tk, os⟩) → (∀ y t' tk, Q (.str y t') ⟨h, g, d, tk, os⟩) → wpAny (model prog w) A (eval me env) Q E ⟨h, g, d, t, os⟩
/-- the shape of the message: one call's arguments are evaluated from the left -/
def ArgsOk (me : Expr) : Prop := ∀ env : Env, starEach [me] env = (false, eval me env) :: starEach [] env
theorem nocell (fl : Str) : ∀ x ∈ (errScope1 fl).names, x.2 ≠ .cell := by
  intro x hx
  simp only [List.mem_cons, List.not_mem_nil, or_false] at hx
  rcases hx with rfl | rfl | rfl | rfl <;> (intro z; cases z)
structure ErrC1 (file0 : Str) (K : Frag) (C f : Addr) (qual : Str) (q : ErrPos1) (me : Expr) (cod fl : Str) (j2 : Nat) : Prop where
  oex : L2.OexC K C
  fn : ∃ (oc : Value) (od an : Option Addr) (osl : Array (Option Value)) (kV doc pm ct : Value) (cda cc : Addr) (ccl cl : Value) (cdd cld : Option Addr) (vs : Array Value) (ccs csl : Array (Option Value)) (file : Str) (tf : Tok),
    K.lookup f = some ⟨oc, od, .func (ksFn "__init__" qual (errParams1 fl q.pp q.pp2) (errBody1 q me cod fl j2) (errScope1 fl) .none kV doc pm an (.ref cda) ct cc), osl⟩ ∧ codeIn K (.ref cda) qual = true ∧ K.lookup cda = some ⟨ccl, cdd, .fields vs, ccs⟩ ∧ vs[2]? = some (.str file tf) ∧
      (file0 == file) = true ∧ K.lookup cc = some ⟨cl, cld, .cell (some (.ref C)), csl⟩
  sup : ks_superIn K C C "__init__" = some (some (.builtin "ValueError.__init__"))
  self : mroIn K C (.ref C) = some true
  isV : subIn K (.ref C) (.type "ValueError") = some true
  init : excInitIn K C veTail4 "ValueError.__new__" = true
  third : nsIn K cStatics "thirdparty.any" = some none
  code : findIn K (.ref C) "code" = some none
  fld : findIn K (.ref C) fl = some none
  find : findIn K (.ref C) "__init__" = some (some (.ref f))
  typ : typeIn K (.ref f) = some (.type "function")
section
variable {prog : Program} {w : World} {A : Around} {K : Frag} {h : Heap} {g : Array GenState} {d : Drawn} {t : Nat} {os : OsState} {R : Result → Shared → Prop} {mg mb : Str → Option Value}
  {C f a t0 : Addr} {qual cod fl : Str} {q : ErrPos1} {me : Expr} {j2 : Nat} {u : Value}
theorem init_run1 (hfl : fl ∈ flds) (T : ErrC1 prog.main.file K C f qual q me cod fl j2) (hline : LineOk1 q me) (hargs : ArgsOk me) (hmsg : MsgOk me fl u) (htop : (prog.main.scope.names.lookup ("super" : Str)).isSome = false)
    (X : K.In h) (hg : h.Ns mainGlobals mg) (hms : mg "super" = none) (hb : h.Ns builtinsNs mb) (hmb : mb "super" = some (.type "super")) (hlim : h.NoLimit) (hroom : A.depth < recursionLimit) (ha : h.get? a = some (excObj C t0 none .none)) (haK : K.lookup a = none)
    (hq : ∀ h' t1 tk' dx tk, (∀ b o, b ≠ a → h.get? b = some o → h'.get? b = some o) → h.objs.size ≤ dx → dx ≠ a → h'.get? a = some { cls := .ref C, dict := some dx, data := .fields #[.ref t1, .none, .none, .none, .bool false, .none] } →
      h'.Ns1 dx (fun y => if y = fl then some u else if y = ("code" : Str) then some (.str cod tk) else none) → R (.ok (.ret .none)) ⟨h', g, d, tk', os⟩) :
    codeAny (model prog w) A (.call (.ref f) ⟨[.ref a, u], []⟩) R ⟨h, g, d, t, os⟩ := by
  simp only [flds, List.mem_cons, List.not_mem_nil, or_false] at hfl
  obtain ⟨oc, od, an, osl, kV, doc, pm, ct, cda, cc, ccl, cl, cdd, cld, vs, ccs, csl, file, tf, hf, hcd, hcode, hvs, hfile, hcell⟩ := T.fn
  rcases hfl with rfl | rfl | rfl | rfl | rfl | rfl | rfl | rfl
  all_goals
    refine ks_codeAny_call_defAt (binds := [("self", .ref a), (_, u)]) hroom (X _ _ hf) rfl hlim (codeRec_of X hcd) rfl (.of_eq rfl) (nocell _) (fun y hy => ?_) (fun h1 hns hk1 => ?_)
    · rcases List.mem_cons.mp hy with e | e
      · rw [e]; rfl
      · rw [List.mem_singleton.mp e]; rfl
    have X1 : K.In h1 := fun b o e => hk1 b o (X b o e)
    have ha1 : h1.get? a = some (excObj C t0 none .none) := hk1 _ _ ha
    have haL : a ≠ h.objs.size := Nat.ne_of_lt (Heap.lt_size ha)
    obtain ⟨cd, hc⟩ : ∃ cd, clsIn K C = some cd := by
      have z := T.sup
      unfold ks_superIn at z
      cases hc : clsIn K C with
      | none => rw [hc] at z; cases z
      | some cd => exact ⟨cd, rfl⟩
    obtain ⟨oD, hD0, hD2⟩ : ∃ oD, K.lookup C = some oD ∧ oD.data = .cls cd := by
      unfold clsIn at hc
      split at hc
      · rename_i c d' cd' sl ho
        cases hc
        exact ⟨_, ho, rfl⟩
      · cases hc
    have hD1 := X1 _ _ hD0
    have hsup : alongIn K "__init__" ((cd.mro.dropWhile (· != .ref C)).drop 1) = some (some (.builtin "ValueError.__init__")) := by
      have z := T.sup
      unfold ks_superIn at z
      rw [hc] at z
      exact z
    obtain ⟨pl, hline⟩ := hline (callEnv (ksFn "__init__" qual (errParams1 _ q.pp q.pp2) (errBody1 q me cod _ j2) (errScope1 _) .none kV doc pm an (.ref cda) ct cc) h.objs.size f)
    refine ks_wpAt_execs_cons (ks_wpAt_Expr_any (ks_wpAt_MethodCall ?_ hline))
    refine ks_wpAt_super_base rfl rfl (by decide) rfl (X1 _ _ hf) rfl rfl rfl (X1 _ _ hcode) rfl hvs hfile htop ?_
    refine ks_loadName_global rfl rfl (loadGlobal_builtin (hg.keeps hk1) hms (hb.keeps hk1) hmb ⟨rfl, ?_⟩)
    refine wpAny_loadName_free rfl rfl rfl ⟨_, X1 _ _ hcell, rfl⟩ ?_
    refine wpAny_loadName_local rfl rfl hns (show _ = some (Value.ref a) from rfl) ?_
    refine ks_wpAny_isType_cls hD1 hD2 ⟨rfl, ?_⟩
    refine ks_wpAny_call_super hD1 hD2 ha1 rfl (fun c e => by cases e) (looks_mroIn X1 T.self) (fun h2 hso hk2 => ?_)
    have X2 : K.In h2 := fun b o e => hk2 b o (X1 b o e)
    have ha2 := hk2 _ _ ha1
    have haC : a ≠ C := fun e => by rw [e, hD0] at haK; cases haK
    have I2 : InstAt h2 a (excObj C t0 none .none) C none := ⟨ha2, rfl, rfl, trivial⟩
    refine kxs_getMethod kxs_ValueError hso (looks_opaque X2 T.third) (l₀ := cd.mro) (fun A Q E s k z => wpAny_bind ((looks_clsIn X2 hc) A _ E s k (wpAny_pure z))) rfl X2 hsup (I2.type.andThen (looks_subIn X2 T.isV)) haC (by decide) ?_
    have nsK : ∀ {h h' : Heap} {L : Addr} {m : Str → Option Value}, h.Ns L m → (∀ b o, h.get? b = some o → h'.get? b = some o) → h'.Ns L m := fun {h h' L m} ⟨o, es, ep, e, r⟩ k => ⟨o, es, ep, k _ _ e, r⟩
    have hns2 := nsK hns hk2
    have hk3 : ∀ b o, h2.get? b = some o → (h2.push (kxs_mw "ValueError.__init__" a)).get? b = some o := fun b o e => Heap.get?_push_of_some _ e
    have hLt : h.objs.size < h2.objs.size := by
      obtain ⟨o, _, _, e, _⟩ := hns2
      exact Heap.lt_size e
    have FR := (⟨nsK hns2 hk3, fun b o e => hk3 _ _ (hk2 _ _ (hk1 _ _ (of_hideAll _ e))), Nat.le_of_eq (hideAll_size _ _)⟩ : Fr (hideAll h [a]) h.objs.size (h2.push (kxs_mw "ValueError.__init__" a)) _)
    have NW : News (hideAll h [a]) h.objs.size (h2.push (kxs_mw "ValueError.__init__" a)) [(h2.objs.size, kxs_mw "ValueError.__init__" a), (a, excObj C t0 none .none)] := fun p hp => by
      rcases List.mem_cons.mp hp with e | hp
      · subst e
        refine ⟨Heap.get?_push_size _ rfl, Nat.ne_of_gt hLt, ?_⟩
        cases z : (hideAll h [a]).get? h2.objs.size with
        | none => rfl
        | some o => exact absurd (Heap.lt_size (of_hideAll _ z)) (Nat.lt_asymm hLt)
      · rw [List.mem_singleton.mp hp]
        exact ⟨hk3 _ _ ha2, haL, hideAll_none _ (List.mem_singleton.mpr rfl)⟩
    have X0 : K.In (hideAll h [a]) := fun b o e => hideAll_get _ (X b o e) (fun z => by
      rw [List.mem_singleton.mp z, haK] at e
      cases e)
    refine kxs_callWith1 NW (List.mem_cons_self ..) ?_ (he := hargs _)
    rw [hargs]
    refine Calls.spliced_cons (hmsg ?_ ?_)
    · intro p tk Q' z
      exact wpAny_Name (wpAny_loadName_local rfl rfl FR.ns (show _ = some u from rfl) z) (by decide)
    intro y t' tk
    refine Calls.spliced_nil ⟨kxs_at NW (List.mem_cons_self ..), ?_⟩
    refine kxs_call FR X0 NW PySem.F.excBase_ValueError T.init (List.mem_cons_self ..) (.tail (Nat.ne_of_gt (Heap.lt_size ha2)) (.head fun p hp => nomatch hp)) (by show 1 ≤ sizeLine; decide) (fun t' h4 F4 N4 _ => ?_)
    have ha4 : h4.get? a = some (excObj C t' none .none) := (N4 (a, excObj C t' none .none) (List.mem_cons_of_mem _ (List.mem_cons_of_mem _ (List.mem_cons_self ..)))).1
    have X4 : K.In h4 := fun b o e => F4.keep b o (X0 b o e)
    obtain ⟨nm, qn, N, bs, bm, sn, sub, ab, col, dd, k0, k1, k2, k3, k5, hC, hbm⟩ := T.oex.cls
    have hcl : clsIn K C = some { name := nm, bases := bs, mro := .ref C :: bm, ns := N, qualname := qn, hasDict := true, slotNames := sn, subclasses := sub, abstract := ab, collection := col, hasDel := false } := by
      unfold clsIn
      rw [hC] <;> rfl
    -- self.code = text
    refine wpAt_of_wpAny (wpAny_execs_cons (plainObj_wpAny_Assign_Attribute (wpAny_Constant_str (k := j2) (pos := q.p8) (wpAny_Name (wpAny_loadName_local rfl rfl F4.ns (show _ = some (Value.ref a) from rfl) ?_) (by decide))) rfl))
    refine set_plain X4 (ox := excObj C t' none .none) (od := none) ⟨ha4, rfl, rfl, trivial⟩ T.oex.sa ?_
    refine PySem.HandSPX.exc_osa X4 ha4 hcl (show PySem.HandSPX.refsVE (.ref C :: bm) = true from hbm) rfl T.code (fun h5 tk' dx hk5 dn dne hx hn => ?_)
    have hL4 : h.objs.size ≤ h4.objs.size := by
      obtain ⟨o, _, _, e, _⟩ := F4.ns
      exact Nat.le_of_lt (Heap.lt_size e)
    -- self.f = f
    have nsB : ∀ {h h' : Heap} {L : Addr} {m : Str → Option Value}, h.Ns L m → (∀ b o, b ≠ a → h.get? b = some o → h'.get? b = some o) → L ≠ a → h'.Ns L m := fun {h h' L m} ⟨o, es, ep, e, r⟩ k n => ⟨o, es, ep, k _ _ n e, r⟩
    have ns5 := nsB F4.ns hk5 haL.symm
    have X5 : K.In h5 := fun b o e => hk5 b o (fun z => by rw [z, haK] at e; cases e) (X4 b o e)
    have hw : ∀ {v : Value}, Within (fun y => if y = ("code" : Str) then some v else none) [("code" : Str)] := fun {v} y hy => by
      by_cases e : y = "code"
      · rw [e]; exact List.mem_singleton.mpr rfl
      · exact absurd (if_neg e) hy
    obtain ⟨oX, _, _, hoX, _, _⟩ := hn.count hw
    refine wpAny_execs_cons (plainObj_wpAny_Assign_Attribute (wpAny_Name (wpAny_loadName_local rfl rfl ns5 (show _ = some u from rfl) (wpAny_Name (wpAny_loadName_local rfl rfl ns5 (show _ = some (Value.ref a) from rfl) ?_) (by decide))) (by decide)) rfl)
    refine set_plain X5 (ox := { cls := .ref C, dict := some dx, data := .fields #[.ref t', .none, .none, .none, .bool false, .none] }) (od := some oX) ⟨hx, rfl, rfl, hoX⟩ T.oex.sa ?_
    refine PySem.OEX.osa_old X5 hx hn hw (by decide) hcl (show PySem.HandSPX.refsVE (.ref C :: bm) = true from hbm) rfl T.fld (fun h6 tk6 hk6 hn6 => ?_)
    refine wpAny_execs_nil (hq h6 t' tk6 dx _ (fun b o hb e => ?_) (Nat.le_trans hL4 dn) dne ?_ hn6)
    · exact hk6 b o (fun z => by
        have := Heap.lt_size e
        have hh := Nat.le_trans hL4 dn
        rw [z] at this
        exact absurd (Nat.lt_of_lt_of_le this hh) (Nat.lt_irrefl _)) (hk5 b o hb (F4.keep b o (hideAll_get _ e fun z => hb (List.mem_singleton.mp z))))
    · exact hk6 a _ dne.symm hx
end
end FvX


set_option maxHeartbeats 2000000
namespace FvX
open PySem PySem.Spec PyProof.Rows L2
/-! ### the messages -/
def MsgV (u : Value) : Prop := (∃ y t, u = .str y t ∧ (reprText y).length ≤ 100000) ∨ ∃ i t, u = .int i t ∧ i.natAbs.log2 < 1920
def MsgW (v : V) : Prop := (∃ y, v = .str y ∧ (reprText y).length ≤ 100000) ∨ ∃ i, v = .int i ∧ i.natAbs.log2 < 1920
theorem MsgW.val {v : V} {u : Value} (h : MsgW v) (r : RelV v u) : MsgV u := by
  rcases h with ⟨y, rfl, hy⟩ | ⟨i, rfl, hi⟩
  · obtain ⟨t, rfl⟩ := r
    exact .inl ⟨y, t, rfl, hy⟩
  · obtain ⟨t, rfl⟩ := r
    exact .inr ⟨i, t, rfl, hi⟩
theorem emp_len (x : Str) : (Str.empty ++ x).length = x.length := by
  rw [TL.len_tl, TL.tl_append, List.length_append, ← TL.len_tl x]
  show 0 + _ = _
  omega
theorem app_len (x y : Str) : (x ++ y).length = x.length + y.length := by
  rw [TL.len_tl, TL.tl_append, List.length_append, ← TL.len_tl, ← TL.len_tl]
theorem fmt_msg {prog : Program} {w : World} {A : Around} {env : Env} {E : Value → Shared → Prop} {Q : Value → Shared → Prop} {fl : Str} {u : Value} {h : Heap} {g : Array GenState} {d : Drawn} {t : Nat} {os : OsState} {p p2 : Pos} (hu : MsgV u)
    (hn : ∀ (p : Pos) (tk : Nat) (Q' : Value → Shared → Prop), Q' u ⟨h, g, d, tk, os⟩ → wpAny (model prog w) A (eval (.Name fl p) env) Q' E ⟨h, g, d, tk, os⟩)
    (hq : ∀ y t' tk, y.length ≤ 100000 → Q (.str y t') ⟨h, g, d, tk, os⟩) : wpAny (model prog w) A (eval (.FormattedValue (.Name fl p) 114 none p2) env) Q E ⟨h, g, d, t, os⟩ := by
  refine wpAny_FormattedValue_repr (hn p t _ ?_)
  have big : ∀ n : Nat, n ≤ 100000 → n ≤ sizeLine := fun n h => Nat.le_trans h (by decide)
  rcases hu with ⟨y, t', rfl, hy⟩ | ⟨i, t', rfl, hi⟩
  · exact pyReprObj_str (wpAny_formatField_str (hq _ _ _ hy) (hq _ _ _ hy) (big _ hy)) (big _ hy)
  · have e := int_text_length_le (k := 1920) (by decide) hi
    have hy : (Str.ofString (toString i)).length ≤ 100000 := by rw [PySem.ofString_length]; omega
    exact pyReprObj_int hi (wpAny_formatField_str (hq _ _ _ hy) (hq _ _ _ hy) (big _ hy))
theorem msg2 {pre fl : Str} {u : Value} {k : Nat} {p1 p2 p3 p4 : Pos} (hp : pre.length ≤ 1000) (hu : MsgV u) : MsgOk (.JoinedStr [.Constant (.str pre) k p1, .FormattedValue (.Name fl p2) 114 none p3] p4) fl u := by
  intro prog w A env E Q h g d t os hn hq
  have big : ∀ n : Nat, n ≤ 102000 → n ≤ sizeLine := fun n h => Nat.le_trans h (by decide)
  refine wpAny_JoinedStr ?_
  show wpAny _ _ (eval (.Constant (.str pre) k p1) env) (fun v s₁ => ∃ y t, v = .str y t ∧ (Str.empty ++ y).length ≤ sizeLine ∧ wpAny _ _ (eval (.FormattedValue (.Name fl p2) 114 none p3) env) (fun v s₁ => ∃ y' t, v = .str y' t ∧ ((Str.empty ++ y) ++ y').length ≤ sizeLine ∧ _) _ s₁) _ _
  refine wpAny_Constant_str ⟨_, _, rfl, by rw [emp_len]; exact big _ (by omega), fmt_msg hu hn fun y t' tk hy => ⟨_, _, rfl, ?_, ?_, hq _ _ _⟩⟩
  · rw [app_len, emp_len]; exact big _ (by omega)
  · rw [app_len, emp_len]; exact big _ (by omega)
theorem msg3 {pre post fl : Str} {u : Value} {k k2 : Nat} {p1 p2 p3 p4 p5 : Pos} (hp : pre.length ≤ 1000) (hp2 : post.length ≤ 1000) (hu : MsgV u) : MsgOk (.JoinedStr [.Constant (.str pre) k p1, .FormattedValue (.Name fl p2) 114 none p3, .Constant (.str post) k2 p5] p4) fl u := by
  intro prog w A env E Q h g d t os hn hq
  have big : ∀ n : Nat, n ≤ 103000 → n ≤ sizeLine := fun n h => Nat.le_trans h (by decide)
  refine wpAny_JoinedStr ?_
  show wpAny _ _ (eval (.Constant (.str pre) k p1) env) (fun v s₁ => ∃ y t, v = .str y t ∧ (Str.empty ++ y).length ≤ sizeLine ∧ wpAny _ _ (eval (.FormattedValue (.Name fl p2) 114 none p3) env) (fun v s₁ => ∃ y' t, v = .str y' t ∧ ((Str.empty ++ y) ++ y').length ≤ sizeLine ∧ wpAny _ _ (eval (.Constant (.str post) k2 p5) env) (fun v s₁ => ∃ y'' t, v = .str y'' t ∧ (((Str.empty ++ y) ++ y') ++ y'').length ≤ sizeLine ∧ _) _ s₁) _ s₁) _ _
  refine wpAny_Constant_str ⟨_, _, rfl, by rw [emp_len]; exact big _ (by omega), fmt_msg hu hn fun y t' tk hy => ⟨_, _, rfl, ?_, wpAny_Constant_str ⟨_, _, rfl, ?_, ?_, hq _ _ _⟩⟩⟩
  · rw [app_len, emp_len]; exact big _ (by omega)
  · rw [app_len, app_len, emp_len]; exact big _ (by omega)
  · rw [app_len, app_len, emp_len]; exact big _ (by omega)
section
variable {X : Cx} {C f : Addr} {qual cod fl x : Str} {q : ErrPos1} {me : Expr} {j2 k : Nat} {p pos : Pos} {e : Expr} {ta : TA}
/-- x(e): the new error, its dict at d -/
def tErr1 (C : Addr) (cod fl : Str) (ta : TA) : L2.St → Hp → XK → Prop := fun σ H Q => ta σ H fun vs H1 => ∃ v, vs = [v] ∧ MsgW v ∧ ∀ d, H1 d = none → Q (.ref C) (some d) (upd H1 d (.xd [(fl, v), ("code", .str cod)]))
theorem pmk_err1 (hfl : fl ∈ flds) (T : ErrC1 X.prog.main.file X.K C f qual q me cod fl j2) (hline : LineOk1 q me) (hargs : ArgsOk me) (hme : ∀ u, MsgV u → MsgOk me fl u) (htop : (X.prog.main.scope.names.lookup ("super" : Str)).isSome = false) (hms : X.mg "super" = none) (hr : Room (k + 1) X.A) (hg : Gl X x) (hm : X.mg x = some (.ref C)) (ha : PA X [e] ta)
    (hdb : (x == ("__debug__" : Str)) = false := by decide) (he : starEach [e] X.env = (false, eval e X.env) :: starEach [] X.env := by rfl) (hpl : (backTo pos (starEach [] X.env)).any (·.1) = false := by rfl) : PMk X (.Call (.Name x p) [e] [] pos) (tErr1 C cod fl ta) := by
  intro pins s σ H Q I h
  obtain ⟨nm, qn, N, bs, bm, sn, sub, ab, col, dd, k0, k1, k2, k3, k5, hC, hbm⟩ := T.oex.cls
  refine wpAny_Call_Name_kw (ld_glob I hg hm (PySem.W.callWith_K (h₀ := X.base) I.ok.mod.kin T.oex.kC (thn (ha.run pos pins s σ H _ I h) fun us s1 z => ?_) he hpl) hdb)
  obtain ⟨vs, H1, I1, r, v, rfl, hv, h⟩ := z
  obtain ⟨u, rfl, ru⟩ := vals1 r
  clear I
  rename Inv X pins σ H1 s1 => I
  refine ⟨I.kIn, ?_⟩
  show wpAny _ _ (call (.ref C) [u]) _ _ _
  obtain ⟨hp, g, dr, tk, os⟩ := s1
  have nK : X.K.lookup (hp.objs.size + 1) = none := by
    cases e : X.K.lookup (hp.objs.size + 1) with
    | none => rfl
    | some o => exact absurd (Nat.lt_of_succ_lt (Heap.lt_size (I.kIn _ _ e))) (Nat.lt_irrefl _)
  have fresh : H1 (hp.objs.size + 1) = none := I.hok.fresh (Nat.le_succ _)
  have kk : ∀ b o, hp.get? b = some o → ((hp.push (PySem.W.kdv_tup [u])).push (PySem.HandSPX.excO C hp.objs.size)).get? b = some o := fun b o e => Heap.get?_push_of_some _ (Heap.get?_push_of_some _ e)
  have at1 : ((hp.push (PySem.W.kdv_tup [u])).push (PySem.HandSPX.excO C hp.objs.size)).get? (hp.objs.size + 1) = some (PySem.HandSPX.excO C hp.objs.size) := by heap_get
  have I2 := I.laid (t' := tk) (a := hp.objs.size + 1) (o := exo (hp.objs.size + 1) C none) (h' := (hp.push (PySem.W.kdv_tup [u])).push (PySem.HandSPX.excO C hp.objs.size)) kk (Nat.le_succ _) (exo_ok at1)
  obtain ⟨mb, hb, hbb⟩ := I.mod.blt
  refine wpAny_call (PySem.HandSPX.call_own PySem.F.excBase_ValueError (fun Y => PySem.HandSPX.refsVE_contains Y bm hbm) (I.kIn _ _ hC) (PySem.W.looks_findIn I.kIn T.find) (fun self => PySem.W.bind_fn I.kIn self T.typ) (by show 1 ≤ sizeLine; decide) ?_)
  refine init_run1 (mg := X.mg) (mb := mb) (t0 := hp.objs.size) hfl T hline hargs (hme u (hv.val ru)) htop (fun b o e => kk b o (I.kIn b o e)) ((I.mod.glob.keeps I.bk).keeps kk) hms ((hb.keeps I.bk).keeps kk) ((hbb _ (by decide)).trans (by decide +kernel)) ?lim (hr.make C [u] []).depth at1 nK (fun h' t1 tk' dx tk0 hk dn dne hx hn => ?_)
  case lim => exact (I.mod.nolimit.keeps I.bk).keeps kk
  have nd : H1 dx = none := I.hok.fresh (Nat.le_trans (by simp; omega) dn)
  have na : ∀ {b : Addr} {u : Option HO}, upd H1 (hp.objs.size + 1) (exo (hp.objs.size + 1) C none) b = none → b ≠ hp.objs.size + 1 := fun {b u} e z => by
    rw [z, upd_same] at e
    cases e
  have lt2 : ∀ {b : Addr} {o : Obj}, ((hp.push (PySem.W.kdv_tup [u])).push (PySem.HandSPX.excO C hp.objs.size)).get? b = some o → b ≠ dx := fun {b o} e => Nat.ne_of_lt (Nat.lt_of_lt_of_le (Heap.lt_size e) dn)
  have same : ∀ {b : Addr} {o : HO}, upd H1 (hp.objs.size + 1) (exo (hp.objs.size + 1) C none) b = some o → o ≠ exo (hp.objs.size + 1) C none → upd (upd H1 dx (exd dx [(fl, v), ("code", .str cod)])) (hp.objs.size + 1) (exo (hp.objs.size + 1) C (some dx)) b = some o := fun {b o} e ne => by
    have b1 : b ≠ hp.objs.size + 1 := fun z => by
      rw [z, upd_same] at e
      exact ne (Option.some.inj e).symm
    rw [upd_ne b1] at e
    rw [upd_ne b1, upd_ne (ne_of_none e nd)]
    exact e
  have un : Un (frs X.stack) [] (upd H1 (hp.objs.size + 1) (exo (hp.objs.size + 1) C none)) (upd (upd H1 dx (exd dx [(fl, v), ("code", .str cod)])) (hp.objs.size + 1) (exo (hp.objs.size + 1) C (some dx))) ((hp.push (PySem.W.kdv_tup [u])).push (PySem.HandSPX.excO C hp.objs.size)) h' := by
    refine ⟨fun b o e n _ _ => hk b o (na (u := none) n) e, fun b o e n _ _ => ⟨o.slots, hk b o (na (u := none) n) e⟩, fun b o e n _ => ?_, fun b o e _ => ?_, fun b xs e => same e fun z => exo_tup z.symm, fun b o u e => same e fun z => exo_frz z.symm, fun b ps e => ⟨#[], ?_⟩⟩
    · have b1 := na (u := none) n
      rw [upd_ne b1, upd_ne (lt2 e)]
      rw [upd_ne b1] at n
      exact n
    · by_cases b1 : b = hp.objs.size + 1
      · exact ⟨_, by rw [b1]; exact hx⟩
      · exact ⟨o, hk b o b1 e⟩
    · rw [Array.append_empty]
      exact same e fun z => exo_tbl z.symm
  have hok : HOk X.prog X.w (upd (upd H1 dx (exd dx [(fl, v), ("code", .str cod)])) (hp.objs.size + 1) (exo (hp.objs.size + 1) C (some dx))) h' := fun b o e => by
    by_cases b1 : b = hp.objs.size + 1
    · rw [b1, upd_same] at e
      cases e
      rw [b1]
      exact exo_ok hx
    · rw [upd_ne b1] at e
      by_cases b2 : b = dx
      · rw [b2, upd_same] at e
        cases e
        rw [b2]
        exact exd_ok hn (relO_put ru (relO_put (fs := []) ⟨_, rfl⟩ fun g => True.intro))
      · rw [upd_ne b2] at e
        have e2 : upd H1 (hp.objs.size + 1) (exo (hp.objs.size + 1) C none) b = some o := by rw [upd_ne b1]; exact e
        refine (I2.hok b o e2).stay (fun c v hc z => hk c v (fun c1 => ?_) z) (fun c hc => same hc fun z => exo_own z.symm) (fun c xs hc => same hc fun z => exo_tup z.symm)
        rcases hc with hc | hc
        · exact b1 (hc.symm.trans c1)
        · rw [c1, upd_same] at hc
          exact exo_own (Option.some.inj hc)
  refine ⟨rfl, mk_end (a := hp.objs.size + 1) (C := C) (d := dx) (fs := [(fl, v), ("code", .str cod)]) (raises_own T.oex.exC T.oex.tyC) I (Nat.le_succ _) kk un hok rfl I.bare upd_same ?_ nd ?_⟩
  · rw [upd_ne dne, upd_same]
  · have e : upd (del (upd (upd H1 dx (exd dx [(fl, v), ("code", .str cod)])) (hp.objs.size + 1) (exo (hp.objs.size + 1) C (some dx))) (hp.objs.size + 1)) dx (.xd [(fl, v), ("code", .str cod)]) = upd H1 dx (.xd [(fl, v), ("code", .str cod)]) := by
      funext b
      by_cases b2 : b = dx
      · rw [b2, upd_same, upd_same]
      · rw [upd_ne b2, upd_ne b2]
        by_cases b1 : b = hp.objs.size + 1
        · rw [b1, del_same, fresh]
        · rw [del_ne b1, upd_ne b1, upd_ne b2]
    rw [e]
    exact h dx nd
end
end FvX


namespace Fv
open PySem PySem.Spec PyProof.Rows L2
def topS (i : Nat) : Stmt := PySem.Challenge.pw_fivefault_k34_whole_trees_hold_on_spread.main.body.getD i (.Pass ⟨0, 0, 0, 0⟩)
-- top 45  slots: 0:_law_source_here 1:_law_many 2:_law_cell 3:_law_digit 4:_law_mixed_here
abbrev s_law_take : Stmt := topS 45
abbrev N_law_take : List Str := ["_law_source_here", "_law_many", "_law_cell", "_law_digit", "_law_mixed_here"]
theorem sc_law_take : FnScope N_law_take ["_law_source_here", "_law_many"] (defScope s_law_take) := ⟨rfl, rfl, rfl, by decide +kernel, rfl, by decide +kernel, by decide +kernel⟩

theorem at_int {ns : List Int} {i : Int} (h0 : 0 ≤ i) (h : i < ((ns.map V.int).length : Nat)) : ∃ v : Int, atI (ns.map V.int) i = some (.int v) := by
  rw [List.length_map] at h
  have hk : i.toNat < ns.length := by omega
  have q : atI (ns.map V.int) ((i.toNat : Nat) : Int) = some (.int ns[i.toNat]) := atI_nat (by rw [List.getElem?_map, List.getElem?_eq_getElem hk] <;> rfl)
  rw [show ((i.toNat : Nat) : Int) = i by omega] at q
  exact ⟨_, q⟩
def zz (st c : Int) : Int := (((st * st) % 2147483629 + 40507 * (c + 1)) * 48271 + st + 17) % 2147483629
theorem pos1 : (0 : Int) < 2147483587 := by decide
theorem pos2 : (0 : Int) < 2147483629 := by decide
theorem pos3 : (0 : Int) < 8191 := by decide
section
variable {P : Program} {w : World} {K : PySem.W.Frag} {mg : Str → Option Value} {base : Heap}
theorem ok_take {f : Addr} {fd : FuncData} {k : Nat} (F : Fun K "_law_take" "_law_take" s_law_take f fd) (m_len : mg "len" = none) (m_int : mg "int" = none) :
    FnOk P w K mg base CX0 (k + 1) f fd ["_law_source_here", "_law_many"] spTake := by
  refine F.ok sc_law_take (fun vs H Q E h => ?_) (fun cdv A outer s H vs Q E hr h => ?_)
  · obtain ⟨a, L, ns, n, rfl, _⟩ := h
    rfl
  · obtain ⟨a, L, ns, n, rfl, ⟨i, p, st, c, hA, hL, h0, h1, h2⟩, n1, n2, q⟩ := h
    have aL : L ≠ a := fun e => by
      rw [e, hA] at hL
      cases ns with
      | nil => cases hL
      | cons x r => cases hL
    refine ⟨_, (C8.pss_cut (ps_if (PW.pt (pw_and (pt_cmpR op_eq (pe_ix ix_list (pv 0) pe_int (fun _ _ => rfl)) pe_int (nomark _)) (pw_and1 (pt_cmpR op_lt (pe_ix ix_list (pv 0) pe_int (fun _ _ => rfl)) (pe_callB call_len_seq (by rfl) m_len (by decide +kernel) (pa_cons (pe_ix ix_list (pv 0) pe_int (fun _ _ => rfl)) pa_nil)) (nomark _)))))
        (pss_cons (ps_set (i := 2) sc_law_take.nd rfl (by first | exact .inl rfl | exact .inr rfl) (pe_ix ix_list (pe_ix ix_list (pv 0) pe_int (fun _ _ => rfl)) (pe_ix ix_list (pv 0) pe_int (fun _ _ => rfl)) (fun _ _ => rfl)))
        (pss_cons (ps_asg (pe_op op_add (pe_ix ix_list (pv 0) pe_int (fun _ _ => rfl)) pe_int) (pg_sub (pv 0) pe_int set_list))
        (pss_one (ps_if (pt_cmpR op_ge (pv 2) (pe_op op_pow pe_int pe_int) (nomark _))
          (pss_one (ps_asg (pv 2) (pg_sub (pv 0) pe_int set_list)))
          (pss_one (ps_asg (pe_op op_mod (pe_callTy call_int1 (by rfl) m_int (by decide +kernel) (pa_cons (pe_op op_add (pe_op op_add (pe_op op_mul (pe_ix ix_list (pv 0) pe_int (fun _ _ => rfl)) pe_int) (pe_op op_mul (pe_op op_mod (pe_callTy call_int1 (by rfl) m_int (by decide +kernel) (pa_cons (pv 2) pa_nil)) pe_int) pe_int)) pe_int) pa_nil)) pe_int) (pg_sub (pv 0) pe_int set_list)))))))
        pss_nil)
      (pss_cons (ps_if (pt_cmpR op_gt (pe_ix ix_list (pv 0) pe_int (fun _ _ => rfl)) pe_int (nomark _))
        (pss_cons (ps_set (i := 3) sc_law_take.nd rfl (by first | exact .inl rfl | exact .inr rfl) (pe_op op_mod (pe_callTy call_int1 (by rfl) m_int (by decide +kernel) (pa_cons (pe_ix ix_list (pv 0) pe_int (fun _ _ => rfl)) pa_nil)) (pv 1)))
        (pss_cons (ps_asg (pe_op op_fdiv (pe_ix ix_list (pv 0) pe_int (fun _ _ => rfl)) (pv 1)) (pg_sub (pv 0) pe_int set_list))
        (pss_one (ps_ret (pv 3)))))
        pss_nil)
      (pss_cons (ps_asg (pe_op op_add (pe_ix ix_list (pv 0) pe_int (fun _ _ => rfl)) pe_int) (pg_sub (pv 0) pe_int set_list))
      (pss_cons (ps_set (i := 4) sc_law_take.nd rfl (by first | exact .inl rfl | exact .inr rfl) (pe_op op_add (pe_op op_mod (pe_callTy call_int1 (by rfl) m_int (by decide +kernel) (pa_cons (pe_op op_mul (pe_ix ix_list (pv 0) pe_int (fun _ _ => rfl)) (pe_ix ix_list (pv 0) pe_int (fun _ _ => rfl))) pa_nil)) pe_int) (pe_op op_mul pe_int (pe_ix ix_list (pv 0) pe_int (fun _ _ => rfl)))))
      (pss_cons (ps_asg (pe_op op_mod (pe_callTy call_int1 (by rfl) m_int (by decide +kernel) (pa_cons (pe_op op_add (pe_op op_add (pe_op op_mul (pv 4) pe_int) (pe_ix ix_list (pv 0) pe_int (fun _ _ => rfl))) pe_int) pa_nil)) pe_int) (pg_sub (pv 0) pe_int set_list))
      (pss_one (ps_ret (pe_op op_mod (pe_callTy call_int1 (by rfl) m_int (by decide +kernel) (pa_cons (pe_op op_add (pe_op op_fdiv (pe_ix ix_list (pv 0) pe_int (fun _ _ => rfl)) pe_int) (pe_op op_mul (pe_op op_mod (pe_callTy call_int1 (by rfl) m_int (by decide +kernel) (pa_cons (pe_ix ix_list (pv 0) pe_int (fun _ _ => rfl)) pa_nil)) pe_int) pe_int)) pa_nil)) (pv 1))))))))), ?_⟩
    refine ⟨fun σ' H' => ∃ (y2 : Option V) (i p st c : Int), σ' = [some (.ref a), some (.int n), y2, none, none] ∧ H' a = some (.lst [.ref L, .int i, .int p, .int st, .int c]) ∧ H' L = some (.lst (ns.map V.int)) ∧ 0 ≤ i ∧ 0 ≤ st ∧ st < 2147483629 ∧ (∀ b, b ≠ a → H' b = H b), ?_, ?_⟩
    · -- the first if
      refine ⟨_, rfl, a, _, _, _, rfl, rfl, SqL.of hA, rfl, rfl, _, rfl, ?_⟩
      refine ite2 (fun c0 => ?_) (fun c0 => ?_)
      · refine ⟨_, rfl, a, _, _, _, rfl, rfl, SqL.of hA, rfl, _, rfl, a, _, _, _, rfl, rfl, SqL.of hA, rfl, L, _, rfl, .inl (SqL.of hL), _, _, rfl, rfl, _, rfl, ?_⟩
        refine ite2 (fun c1 => ?_) (fun c1 => ?_)
        · obtain ⟨v, hv⟩ := at_int h0 (of_decide_eq_true c1)
          refine ⟨_, rfl, a, _, _, _, rfl, rfl, SqL.of hA, rfl, _, rfl, a, _, _, _, rfl, rfl, SqL.of hA, rfl, L, _, _, _, rfl, rfl, SqL.of hL, hv, ?_⟩
          refine ⟨_, rfl, a, _, _, _, rfl, rfl, SqL.of hA, rfl, _, _, rfl, rfl, _, rfl, a, _, _, _, rfl, rfl, hA, rfl, ?_⟩
          have hA2 : (upd H a (.lst [.ref L, .int (i + 1), .int p, .int st, .int c])) a = some (.lst [.ref L, .int (i + 1), .int p, .int st, .int c]) := upd_same
          refine ⟨_, rfl, _, _, rfl, rfl, ⟨by decide, by decide, by decide⟩, _, _, rfl, rfl, _, rfl, ?_⟩
          refine ite2 (fun c2 => ?_) (fun c2 => ?_)
          · refine ⟨_, rfl, _, rfl, a, _, _, _, rfl, rfl, hA2, rfl, ?_⟩
            refine ⟨some (.int v), i + 1, v, st, c, rfl, upd_same, ?_, by omega, h1, h2, fun b nb => ?_⟩
            · rw [upd_ne aL, upd_ne aL]; exact hL
            · rw [upd_ne nb, upd_ne nb]
          · refine ⟨_, rfl, a, _, _, _, rfl, rfl, SqL.of hA2, rfl, _, _, rfl, rfl, .inr ⟨by decide, by decide⟩, _, rfl, .inl ⟨_, rfl, _, _, rfl, rfl, pos1, _, _, rfl, rfl, .inr ⟨by decide, by decide⟩, _, _, rfl, rfl, _, _, rfl, rfl, .inl ⟨_, rfl, _, _, rfl, rfl, pos2, ?_⟩⟩⟩
            refine ⟨_, rfl, a, _, _, _, rfl, rfl, hA2, rfl, ?_⟩
            refine ⟨some (.int v), i + 1, p, _, c, rfl, upd_same, ?_, by omega, ?_, ?_, fun b nb => ?_⟩
            · rw [upd_ne aL, upd_ne aL]; exact hL
            · exact Int.emod_nonneg _ (by decide)
            · exact Int.emod_lt_of_pos _ (by decide)
            · rw [upd_ne nb, upd_ne nb]
        · exact ⟨none, i, p, st, c, rfl, hA, hL, h0, h1, h2, fun b nb => rfl⟩
      · exact iteF ⟨none, i, p, st, c, rfl, hA, hL, h0, h1, h2, fun b nb => rfl⟩
    · rintro σ' H' ⟨y2, i, p, st, c, rfl, hA, hL, h0, h1, h2, off⟩
      refine ⟨_, rfl, a, _, _, _, rfl, rfl, SqL.of hA, rfl, _, _, rfl, rfl, _, rfl, ?_⟩
      refine ite2 (fun c0 => ?_) (fun c0 => ?_)
      · have cp : p > 0 := of_decide_eq_true c0
        refine ⟨_, rfl, a, _, _, _, rfl, rfl, SqL.of hA, rfl, .inl ⟨_, rfl, _, rfl, _, _, rfl, rfl, by omega, ?_⟩⟩
        refine ⟨_, rfl, a, _, _, _, rfl, rfl, SqL.of hA, rfl, _, rfl, _, _, rfl, rfl, ⟨by omega, by omega⟩, _, rfl, a, _, _, _, rfl, rfl, hA, rfl, ?_⟩
        refine ⟨_, rfl, q _ _ (Int.emod_nonneg _ (by omega)) (Int.emod_lt_of_pos _ (by omega)) ⟨i, _, st, c, upd_same, ?_, h0, h1, h2⟩ fun b nb => ?_⟩
        · rw [upd_ne aL]; exact hL
        · rw [upd_ne nb]; exact off b nb
      · refine ⟨_, rfl, a, _, _, _, rfl, rfl, SqL.of hA, rfl, _, _, rfl, rfl, _, rfl, a, _, _, _, rfl, rfl, hA, rfl, ?_⟩
        have hA2 : (upd H' a (.lst [.ref L, .int i, .int p, .int st, .int (c + 1)])) a = some (.lst [.ref L, .int i, .int p, .int st, .int (c + 1)]) := upd_same
        refine ⟨_, rfl, a, _, _, _, rfl, rfl, SqL.of hA2, rfl, _, rfl, a, _, _, _, rfl, rfl, SqL.of hA2, rfl, _, _, rfl, rfl, .inl ⟨by omega, by omega⟩, .inl ⟨_, rfl, _, _, rfl, rfl, pos2, ?_⟩⟩
        refine ⟨_, rfl, a, _, _, _, rfl, rfl, SqL.of hA2, rfl, _, _, rfl, rfl, .inl ⟨by decide, by decide⟩, _, _, rfl, rfl, ?_⟩
        refine ⟨_, rfl, _, _, rfl, rfl, .inr ⟨by decide, by decide⟩, _, rfl, a, _, _, _, rfl, rfl, SqL.of hA2, rfl, _, _, rfl, rfl, _, _, rfl, rfl, .inl ⟨_, rfl, _, _, rfl, rfl, pos2, ?_⟩⟩
        refine ⟨_, rfl, a, _, _, _, rfl, rfl, hA2, rfl, ?_⟩
        have z0 : 0 ≤ zz st c := Int.emod_nonneg _ (by decide)
        have z1 : zz st c < 2147483629 := Int.emod_lt_of_pos _ (by decide)
        have hA3 : (upd (upd H' a (.lst [.ref L, .int i, .int p, .int st, .int (c + 1)])) a (.lst [.ref L, .int i, .int p, .int (zz st c), .int (c + 1)])) a = some (.lst [.ref L, .int i, .int p, .int (zz st c), .int (c + 1)]) := upd_same
        refine ⟨_, rfl, a, _, _, _, rfl, rfl, SqL.of hA3, rfl, _, _, rfl, rfl, ⟨by decide, by decide⟩, ?_⟩
        refine ⟨_, rfl, a, _, _, _, rfl, rfl, SqL.of hA3, rfl, .inl ⟨_, rfl, _, _, rfl, rfl, pos3, _, _, rfl, rfl, .inr ⟨by decide, by decide⟩, _, _, rfl, rfl, .inl ⟨_, rfl, _, rfl, _, _, rfl, rfl, by omega, ?_⟩⟩⟩
        refine q _ _ (Int.emod_nonneg _ (by omega)) (Int.emod_lt_of_pos _ (by omega)) ⟨i, p, zz st c, c + 1, upd_same, ?_, h0, z0, z1⟩ fun b nb => ?_
        · rw [upd_ne aL, upd_ne aL]; exact hL
        · rw [upd_ne nb, upd_ne nb]; exact off b nb
end
end Fv


namespace Fv
open PySem PySem.Spec PyProof.Rows L2
-- top 44  slots: 0:_law_script
abbrev s_law_source : Stmt := topS 44
abbrev N_law_source : List Str := ["_law_script"]
theorem sc_law_source : FnScope N_law_source ["_law_script"] (defScope s_law_source) := ⟨rfl, rfl, rfl, by decide +kernel, rfl, by decide +kernel, by decide +kernel⟩

-- top 46  slots: 0:_law_source_here 1:_law_row
abbrev s_law_pick : Stmt := topS 46
abbrev N_law_pick : List Str := ["_law_source_here", "_law_row"]
theorem sc_law_pick : FnScope N_law_pick ["_law_source_here", "_law_row"] (defScope s_law_pick) := ⟨rfl, rfl, rfl, by decide +kernel, rfl, by decide +kernel, by decide +kernel⟩

-- top 47  slots: 0:_law_source_here 1:_law_row 2:_law_found 3:_law_one
abbrev s_law_mixed : Stmt := topS 47
abbrev N_law_mixed : List Str := ["_law_source_here", "_law_row", "_law_found", "_law_one"]
theorem sc_law_mixed : FnScope N_law_mixed ["_law_source_here", "_law_row"] (defScope s_law_mixed) := ⟨rfl, rfl, rfl, by decide +kernel, rfl, by decide +kernel, by decide +kernel⟩

-- top 56  slots: 0:_law_source_here 1:_law_most 2:_law_every
abbrev s_law_signs : Stmt := topS 56
abbrev N_law_signs : List Str := ["_law_source_here", "_law_most", "_law_every"]
theorem sc_law_signs : FnScope N_law_signs ["_law_source_here", "_law_most"] (defScope s_law_signs) := ⟨rfl, rfl, rfl, by decide +kernel, rfl, by decide +kernel, by decide +kernel⟩

section
variable {P : Program} {w : World} {K : PySem.W.Frag} {mg : Str → Option Value} {base : Heap}
theorem ok_source {f : Addr} {fd : FuncData} {k : Nat} (F : Fun K "_law_source" "_law_source" s_law_source f fd) (m_list : mg "list" = none) :
    FnOk P w K mg base CX0 (k + 1) f fd ["_law_script"] (spSource K) := by
  refine F.ok sc_law_source (fun vs H Q E h => ?_) (fun cdv A outer s H vs Q E hr h => ?_)
  · obtain ⟨a, ns, rfl, _⟩ := h
    rfl
  · obtain ⟨a, ns, rfl, hS, hl, q⟩ := h
    refine ⟨_, (pss_one (ps_ret (pe_lst (pa_cons (pe_callTy call_list_of (by rfl) m_list (by decide +kernel) (pa_cons (pe_slice sl_list (pv 0) po_none (po_some pe_int)) pa_nil)) (pa_cons pe_int (pa_cons pe_int (pa_cons pe_int (pa_cons pe_int pa_nil)))))))), ?_⟩
    refine ⟨_, rfl, _, rfl, a, _, rfl, hS, fun c nc => ?_⟩
    have e1 : cutV (ns.map V.int) none (some 63) = ns.map V.int := by
      rw [cut_take _ (by decide)]
      exact List.take_of_length_le (by rw [List.length_map]; exact hl)
    refine ⟨c, _, rfl, .inl (SqL.of upd_same), fun L nL => ?_⟩
    refine ⟨(by show 5 ≤ sizeLine; decide), fun p np => ?_⟩
    have s1 := same_upd (o := .lst (cutV (ns.map V.int) none (some 63))) nc
    have s2 := same_upd (o := .lst (cutV (ns.map V.int) none (some 63))) nL
    have s3 := same_upd (o := .lst [.ref L, .int 0, .int 0, .int 3818, .int 0]) np
    refine q _ p L (s1.trans (s2.trans s3)) (s1.free (s2.free np)) (s1.free nL) ⟨0, 0, 3818, 0, upd_same, ?_, by decide, by decide, by decide⟩
    refine s3 _ _ ?_
    rw [upd_same, e1]
theorem ok_pick {f : Addr} {fd : FuncData} {k : Nat} (F : Fun K "_law_pick" "_law_pick" s_law_pick f fd) (m_len : mg "len" = none)
    (C_law_take : Own P w K mg base k "_law_take" ["_law_source_here", "_law_many"] spTake) :
    FnOk P w K mg base CX0 (k + 1) f fd ["_law_source_here", "_law_row"] spPick := by
  refine F.ok sc_law_pick (fun vs H Q E h => ?_) (fun cdv A outer s H vs Q E hr h => ?_)
  · obtain ⟨a, L, r, ns, xs, rfl, _⟩ := h
    rfl
  · obtain ⟨a, L, r, ns, xs, rfl, hs, ra, hr', hp, hl, q⟩ := h
    refine ⟨_, (pss_one (ps_ret (pe_ix ix_list (pv 1) (pe_own C_law_take (hr.mono (by omega)) (by rfl) (pa_cons (pv 0) (pa_cons (pe_callB call_len_seq (by rfl) m_len (by decide +kernel) (pa_cons (pv 1) pa_nil)) pa_nil))) (fun _ _ => rfl)))), ?_⟩
    refine ⟨_, rfl, _, rfl, _, rfl, r, _, rfl, .inl (SqL.of hr'), a, L, ns, _, rfl, hs, by omega, by omega, fun H' d d0 d1 hs' off => ?_⟩
    obtain ⟨v, hv, mv⟩ := atI_mem d0 d1
    exact ⟨r, _, _, _, rfl, rfl, SqL.of ((off r ra).trans hr'), hv, q H' v mv hs' off⟩
theorem ok_mixed {f : Addr} {fd : FuncData} {k : Nat} (F : Fun K "_law_mixed" "_law_mixed" s_law_mixed f fd) (m_len : mg "len" = none)
    (C_law_take : Own P w K mg base k "_law_take" ["_law_source_here", "_law_many"] spTake) :
    FnOk P w K mg base CX0 (k + 1) f fd ["_law_source_here", "_law_row"] spMixed := by
  refine F.ok sc_law_mixed (fun vs H Q E h => ?_) (fun cdv A outer s H vs Q E hr h => ?_)
  · obtain ⟨a, L, r, ns, xs, rfl, _⟩ := h
    rfl
  · obtain ⟨a, L, r, ns, xs, rfl, hs, ra, hR, hl, q⟩ := h
    refine ⟨_, (pss_cons (ps_set (i := 2) sc_law_mixed.nd rfl (by first | exact .inl rfl | exact .inr rfl) (pe_lst pa_nil))
      (pss_cons (ps_for PassesOwn.never rfl (pi_list (pv 1)) (pg_name (i := 3) sc_law_mixed.nd rfl (by first | exact .inl rfl | exact .inr rfl))
        (pss_one (ps_expr (pe_bm PySem.F.plainAttrs_list PySem.F.slot_list_insert PySem.F.type_list_insert mt_insert (pv 2) (pa_cons (pe_own C_law_take (hr.mono (by omega)) (by rfl) (pa_cons (pv 0) (pa_cons (pe_op op_add (pe_callB call_len_seq (by rfl) m_len (by decide +kernel) (pa_cons (pv 2) pa_nil)) pe_int) pa_nil))) (pa_cons (pv 3) pa_nil))))))
      (pss_one (ps_ret (pv 2))))), ?_⟩
    refine ⟨Nat.zero_le _, fun p np => ?_⟩
    have ap : a ≠ p := by
      obtain ⟨_, _, _, _, e, _⟩ := hs
      exact ne_of_none e np
    have rp : r ≠ p := ne_of_none hR np
    refine ⟨_, rfl, r, rfl, ⟨_, SqL.of (by rw [upd_ne rp]; exact hR)⟩, for_list (xs := xs) (fun i σ H1 => ∃ (y : Option V) (ys : List V), σ = [some (.ref a), some (.ref r), some (.ref p), y] ∧ ys.Perm (xs.take i) ∧ H1 p = some (.lst ys) ∧ Src H1 a L ns ∧ (∀ b, b ≠ a → b ≠ p → H1 b = H b)) ?_ ?_ ?_ ?_⟩
    · exact ⟨none, [], rfl, .nil, upd_same, hs.off np fun c hc => upd_ne hc, fun b _ hb => upd_ne hb⟩
    · rintro i σ H1 hi ⟨y, ys, rfl, pm, hp, hs1, off⟩
      exact SqL.of ((off r ra rp).trans hR)
    · rintro i x σ H1 hx ⟨y, ys, rfl, pm, hp, hs1, off⟩
      obtain ⟨hi, hxi⟩ := List.getElem?_eq_some_iff.mp hx
      have ly : ys.length = i := by
        rw [pm.length_eq, List.length_take]
        omega
      refine ⟨_, rfl, .inl ⟨rfl, _, SqL.of hp⟩, _, rfl, _, rfl, p, _, rfl, .inl (SqL.of hp), _, _, rfl, rfl, a, L, ns, _, rfl, hs1, by omega, by omega, fun H' d d0 d1 hs' off' => ?_⟩
      have hp' : H' p = some (.lst ys) := (off' p ap.symm).trans hp
      refine ⟨_, rfl, p, _, _, _, rfl, rfl, hp', small1000 (by omega), d0, by omega, ?_⟩
      refine ⟨_, _, rfl, ?_, upd_same, ?_, fun b ba bp => ?_⟩
      · rw [List.take_add_one, hx]
        refine List.Perm.trans ?_ (List.Perm.append_right _ pm)
        show (ys.take d.toNat ++ [x] ++ ys.drop d.toNat).Perm (ys ++ [x])
        refine List.Perm.trans (?_ : List.Perm _ (ys.take d.toNat ++ (ys.drop d.toNat ++ [x]))) ?_
        · rw [List.append_assoc]
          exact List.Perm.append_left _ List.perm_append_comm
        · rw [← List.append_assoc, List.take_append_drop]
      · obtain ⟨i', p', st, c, h1, h2, h3⟩ := hs'
        have Lp : L ≠ p := fun e => by
          obtain ⟨_, _, _, _, _, e2, _⟩ := hs
          rw [e, np] at e2
          cases e2
        exact ⟨i', p', st, c, by rw [upd_ne ap]; exact h1, by rw [upd_ne Lp]; exact h2, h3⟩
      · rw [upd_ne bp, off' b ba]
        exact off b ba bp
    · rintro σ H1 ⟨y, ys, rfl, pm, hp, hs1, off⟩
      rw [List.take_length] at pm
      exact ⟨_, rfl, q H1 p ys pm np hp hs1 off⟩
theorem ok_signs {f : Addr} {fd : FuncData} {k : Nat} (F : Fun K "_law_signs" "_law_signs" s_law_signs f fd) (m_list : mg "list" = none)
    (C_law_take : Own P w K mg base k "_law_take" ["_law_source_here", "_law_many"] spTake)
    (C_law_mixed : Own P w K mg base k "_law_mixed" ["_law_source_here", "_law_row"] spMixed) :
    FnOk P w K mg base CX0 (k + 1) f fd ["_law_source_here", "_law_most"] spSigns := by
  refine F.ok sc_law_signs (fun vs H Q E h => ?_) (fun cdv A outer s H vs Q E hr h => ?_)
  · obtain ⟨a, L, ns, n, rfl, _⟩ := h
    rfl
  · obtain ⟨a, L, ns, n, rfl, hs, n1, n8, q⟩ := h
    refine ⟨_, (pss_cons (ps_set (i := 2) sc_law_signs.nd rfl (by first | exact .inl rfl | exact .inr rfl) (pe_own C_law_mixed (hr.mono (by omega)) (by rfl) (pa_cons (pv 0) (pa_cons (pe_callTy (call_listStr hr.hd) (by rfl) m_list (by decide +kernel) (pa_cons pe_str pa_nil)) pa_nil))))
      (pss_one (ps_ret (pe_slice sl_list (pv 2) po_none (po_some (pe_op op_add pe_int (pe_own C_law_take (hr.mono (by omega)) (by rfl) (pa_cons (pv 0) (pa_cons (pv 1) pa_nil))))))))), ?_⟩
    refine ⟨_, rfl, _, rfl, by decide +kernel, fun r nr => ?_⟩
    have ar : a ≠ r := by
      obtain ⟨_, _, _, _, e, _⟩ := hs
      exact ne_of_none e nr
    refine ⟨a, L, r, ns, _, rfl, hs.off nr fun c hc => upd_ne hc, ar.symm, upd_same, by decide +kernel, fun H1 p ys pm np hp hs1 off1 => ?_⟩
    have s1 := same_upd (o := .lst (signs "abcdefgh")) nr
    have ap : a ≠ p := by
      obtain ⟨_, _, _, _, e, _⟩ := hs
      exact ne_of_none e (s1.free np)
    refine ⟨_, rfl, _, rfl, _, rfl, a, L, ns, n, rfl, hs1, n1, by omega, fun H2 d d0 d1 hs2 off2 => ?_⟩
    have hp2 : H2 p = some (.lst ys) := (off2 p ap.symm).trans hp
    refine ⟨_, _, rfl, rfl, _, rfl, p, ys, rfl, SqL.of hp2, fun z nz => ?_⟩
    have ly : ys.length = 8 := by
      rw [pm.length_eq]
      decide +kernel
    have ez : cutV ys none (some (1 + d)) = ys.take (1 + d).toNat := cut_take ys (by omega)
    have zn : H z = none := by
      have ap1 : H1 z = none := by
        by_cases e : z = a
        · rw [e] at nz
          obtain ⟨_, _, _, _, e', _⟩ := hs2
          rw [e'] at nz
          cases nz
        · rw [← off2 z e]; exact nz
      have ap2 : (upd H r (.lst (signs "abcdefgh"))) z = none := by
        by_cases e : z = a
        · rw [e] at ap1
          obtain ⟨_, _, _, _, e', _⟩ := hs1
          rw [e'] at ap1
          cases ap1
        · by_cases e2 : z = p
          · rw [e2] at ap1
            rw [hp] at ap1
            cases ap1
          · rw [← off1 z e e2]; exact ap1
      exact s1.free ap2
    refine q _ z _ ?_ ?_ ?_ ?_ zn upd_same (hs2.off nz fun c hc => upd_ne hc) ?_
    · rw [ez, List.length_take]; omega
    · rw [ez, List.length_take]; omega
    · intro y hy
      rw [ez] at hy
      exact pm.mem_iff.mp (List.mem_of_mem_take hy)
    · rw [ez]
      refine List.Sublist.nodup (List.take_sublist _ _) ?_
      exact pm.nodup_iff.mpr (by decide +kernel)
    · intro b o hb e
      have ba : b ≠ a := fun z => hb (by rw [z]; exact List.mem_singleton.mpr rfl)
      have bz : b ≠ z := ne_of_none e zn
      rw [upd_ne bz, off2 b ba, off1 b ba (ne_of_none e (s1.free np))]
      exact s1 b o e
end
end Fv


namespace Fv
open PySem PySem.Spec PyProof.Rows L2
-- top 13  slots: 0:value
abbrev s_is_letter : Stmt := topS 13
abbrev N_is_letter : List Str := ["value"]
theorem sc_is_letter : FnScope N_is_letter ["value"] (defScope s_is_letter) := ⟨rfl, rfl, rfl, by decide +kernel, rfl, by decide +kernel, by decide +kernel⟩

-- top 14  slots: 0:value
abbrev s_is_compound : Stmt := topS 14
abbrev N_is_compound : List Str := ["value"]
theorem sc_is_compound : FnScope N_is_compound ["value"] (defScope s_is_compound) := ⟨rfl, rfl, rfl, by decide +kernel, rfl, by decide +kernel, by decide +kernel⟩

-- top 15  slots: 0:value 1:max_depth 2:max_size 3:deepest 4:total 5:part 6:found
abbrev s_measured : Stmt := topS 15
abbrev N_measured : List Str := ["value", "max_depth", "max_size", "deepest", "total", "part", "found"]
theorem sc_measured : FnScope N_measured ["value", "max_depth", "max_size"] (defScope s_measured) := ⟨rfl, rfl, rfl, by decide +kernel, rfl, by decide +kernel, by decide +kernel⟩

-- top 16  slots: 0:value 1:max_depth 2:max_size
abbrev s_is_term : Stmt := topS 16
abbrev N_is_term : List Str := ["value", "max_depth", "max_size"]
theorem sc_is_term : FnScope N_is_term ["value", "max_depth", "max_size"] (defScope s_is_term) := ⟨rfl, rfl, rfl, by decide +kernel, rfl, by decide +kernel, by decide +kernel⟩

section
variable {P : Program} {w : World} {K : PySem.W.Frag} {mg : Str → Option Value} {base : Heap}
theorem at0 {x : V} {xs : List V} : atI (x :: xs) 0 = some x := atI_nat (xs := x :: xs) (rfl : (x :: xs)[0]? = some x)
theorem len_ok {n : Nat} {s : Str} (h : gd n (.str s) = true) : s.length ≤ sizeLine := by
  have q : s.length ≤ 100000 := by
    cases n <;> (simp only [gd, Bool.and_eq_true, decide_eq_true_eq] at h; exact h.2)
  exact Nat.le_trans q (by decide)
theorem ok_is_letter {f : Addr} {fd : FuncData} {k : Nat} (F : Fun K "is_letter" "is_letter" s_is_letter f fd) (m_isinstance : mg "isinstance" = none) (m_str : mg "str" = none) (m_len : mg "len" = none)
    {t : Tok} (g_LETTERS : mg "LETTERS" = some (.str "abcdefgh" t)) :
    FnOk P w K mg base CX0 (k + 1) f fd ["value"] (spIsLetter K) := by
  refine F.ok sc_is_letter (fun vs H Q E h => ?_) (fun cdv A outer s H vs Q E hr h => ?_)
  · obtain ⟨v, d, rfl, _⟩ := h
    rfl
  · obtain ⟨v, d, rfl, hd, hg, q⟩ := h
    refine ⟨_, (pss_one (ps_ret (pe_and (pe_isD (T := "str") (by rfl) m_isinstance (by rfl) m_str (pv 0)) (pe_and (pe_cmpR op_eq (pe_callB call_len_str (by rfl) m_len (by decide +kernel) (pa_cons (pv 0) pa_nil)) pe_int (nomark _)) (pe_one (pe_cmpR op_in_str (pv 0) (pe_glob (v := .str "abcdefgh") (by rfl) g_LETTERS (⟨_, rfl⟩)) (by rfl))))))), ?_⟩
    refine ⟨_, rfl, _, _, d, rfl, by decide, hd, _, rfl, ?_⟩
    cases d with
    | str z =>
      cases hd
      refine iteT ⟨_, rfl, z, rfl, len_ok hg, rfl, _, rfl, ?_⟩
      have e : isLd (.str z) = isL z := rfl
      rw [e] at q
      unfold isL at q
      refine ite2 (fun c => ?_) (fun c => ?_)
      · refine ⟨_, rfl, z, _, rfl, rfl, ?_⟩
        rw [c, Bool.true_and] at q
        exact q
      · rw [Bool.eq_false_iff.mpr c, Bool.false_and] at q
        exact q
    | _ => exact iteF q
theorem ok_is_compound {f : Addr} {fd : FuncData} {k : Nat} (F : Fun K "is_compound" "is_compound" s_is_compound f fd) (m_isinstance : mg "isinstance" = none) (m_tuple : mg "tuple" = none) (m_len : mg "len" = none)
    {oA : Addr} (g_OPERATORS : mg "OPERATORS" = some (.ref oA)) (hO : ∀ H, SqT K H oA [.str "&", .str "|"]) :
    FnOk P w K mg base CX0 (k + 1) f fd ["value"] (spIsCompound K) := by
  refine F.ok sc_is_compound (fun vs H Q E h => ?_) (fun cdv A outer s H vs Q E hr h => ?_)
  · obtain ⟨v, d, rfl, _⟩ := h
    rfl
  · obtain ⟨v, d, rfl, hd, hg, q⟩ := h
    refine ⟨_, (pss_one (ps_ret (pe_and (pe_isD (T := "tuple") (by rfl) m_isinstance (by rfl) m_tuple (pv 0)) (pe_and (pe_cmpR op_ge (pe_callB call_len_seq (by rfl) m_len (by decide +kernel) (pa_cons (pv 0) pa_nil)) pe_int (nomark _)) (pe_one (pe_cmpR (op_inT (hu65 hr)) (pe_ix ix_tup (pv 0) pe_int (fun _ _ => rfl)) (pe_glob (v := .ref oA) (by rfl) g_OPERATORS (rfl)) (by rfl))))))), ?_⟩
    refine ⟨_, rfl, _, _, d, rfl, by decide, hd, _, rfl, ?_⟩
    cases d with
    | tuple ds =>
      cases hd with
      | @tup a xs _ hs ha =>
        refine iteT ⟨_, rfl, a, xs, rfl, .inr hs, _, _, rfl, rfl, _, rfl, ?_⟩
        have hl := dpAll_len ha
        cases ds with
        | nil =>
          rw [hl]
          exact iteF q
        | cons o ds =>
          cases ha with
          | @cons x0 xr _ _ h1 h2 =>
            have hl' := dpAll_len h2
            have e : isCd (.tuple (o :: ds)) = (decide (2 ≤ ds.length) && isOp o) := rfl
            rw [e] at q
            refine ite2 (fun c => ?_) (fun c => ?_)
            · have c' : (3 : Int) ≤ (((x0 :: xr).length : Nat) : Int) := of_decide_eq_true c
              rw [List.length_cons] at c'
              refine ⟨_, rfl, a, _, _, x0, rfl, rfl, hs, at0, o, [.str "&", .str "|"], h1, .tup (hO _) (.cons (.str _) (.cons (.str _) .nil)), gd_shaped (gd_parts hg).1 (by decide), by decide +kernel, ?_⟩
              rw [decide_eq_true (by omega), Bool.true_and] at q
              exact q
            · have c' : ¬ (3 : Int) ≤ (((x0 :: xr).length : Nat) : Int) := of_decide_eq_false (Bool.eq_false_iff.mpr c)
              rw [List.length_cons] at c'
              rw [decide_eq_false (by omega), Bool.false_and] at q
              exact q
    | _ => exact iteF q
theorem ok_measured {f : Addr} {fd : FuncData} {k n : Nat} (F : Fun K "measured" "measured" s_measured f fd) (m_max : mg "max" = none) (hk : 1 ≤ k)
    (C_is_letter : Own P w K mg base 1 "is_letter" ["value"] (spIsLetter K)) (C_is_compound : Own P w K mg base 1 "is_compound" ["value"] (spIsCompound K))
    (C_measured : Own P w K mg base k "measured" ["value", "max_depth", "max_size"] (spMeas K n)) :
    FnOk P w K mg base CX0 (k + 1) f fd ["value", "max_depth", "max_size"] (spMeas K (n + 1)) := by
  refine F.ok sc_measured (fun vs H Q E h => ?_) (fun cdv A outer s H vs Q E hr h => ?_)
  · obtain ⟨v, d, md, ms, rfl, _⟩ := h
    rfl
  · obtain ⟨v, d, md, ms, rfl, hd, hg, m0, m1, q1, q2⟩ := h
    refine ⟨_, (pss_cons (ps_if (PW.pt (pw_or (pt_cmpR op_lt (pv 1) pe_int (nomark _)) (pw_or1 (pt_cmpR op_lt (pv 2) pe_int (nomark _)))))
        (pss_one (ps_ret pe_non))
        pss_nil)
      (pss_cons (ps_if (pt_val (pe_own C_is_letter (hr.mono (by omega)) (by rfl) (pa_cons (pv 0) pa_nil)))
        (pss_one (ps_ret (pe_tup (pa_cons pe_int (pa_cons pe_int pa_nil)))))
        pss_nil)
      (pss_cons (ps_if (pt_not (pt_val (pe_own C_is_compound (hr.mono (by omega)) (by rfl) (pa_cons (pv 0) pa_nil))))
        (pss_one (ps_ret pe_non))
        pss_nil)
      (pss_cons (ps_set (i := 3) sc_measured.nd rfl (by first | exact .inl rfl | exact .inr rfl) pe_int)
      (pss_cons (ps_set (i := 4) sc_measured.nd rfl (by first | exact .inl rfl | exact .inr rfl) pe_int)
      (pss_cons (ps_for PassesOwn.never rfl (pi_tup (pe_slice sl_tup (pv 0) (po_some pe_int) po_none)) (pg_name (i := 5) sc_measured.nd rfl (by first | exact .inl rfl | exact .inr rfl))
        (pss_cons (ps_set (i := 6) sc_measured.nd rfl (by first | exact .inl rfl | exact .inr rfl) (pe_own C_measured (hr.mono (by omega)) (by rfl) (pa_cons (pv 5) (pa_cons (pe_op op_sub (pv 1) pe_int) (pa_cons (pe_op op_sub (pv 2) (pv 4)) pa_nil)))))
        (pss_cons (ps_if (pt_cmpR op_isN (pv 6) pe_non (nomark _))
          (pss_one (ps_ret pe_non))
          pss_nil)
        (pss_cons (ps_set (i := 3) sc_measured.nd rfl (by first | exact .inl rfl | exact .inr rfl) (pe_callB (call_max2 rfl) (by rfl) m_max (by decide +kernel) (pa_cons (pv 3) (pa_cons (pe_ix ix_tup (pv 6) pe_int (fun _ _ => rfl)) pa_nil))))
        (pss_one (ps_set (i := 4) sc_measured.nd rfl (by first | exact .inl rfl | exact .inr rfl) (pe_op op_add (pv 4) (pe_ix ix_tup (pv 6) pe_int (fun _ _ => rfl)))))))))
      (pss_one (ps_ret (pe_tup (pa_cons (pe_op op_add (pv 3) pe_int) (pa_cons (pv 4) pa_nil))))))))))), ?_⟩
    refine ⟨_, rfl, _, _, rfl, rfl, _, rfl, ?_⟩
    have fin0 : ¬ 1 ≤ md ∨ ms < 1 → Q .non H := fun c => by
      refine q1 ?_ H (Same.refl H)
      rcases c with c | c
      · rw [show md.toNat = 0 by omega]; rfl
      · cases md.toNat with
        | zero => rfl
        | succ m => unfold meas; rw [if_pos c]
    refine ite2 (fun c => iteT (fin0 (.inl (by have := of_decide_eq_true c; omega)))) (fun c => ?_)
    have c1 : ¬ md < 1 := of_decide_eq_false (Bool.eq_false_iff.mpr c)
    refine ⟨_, rfl, _, _, rfl, rfl, _, rfl, ?_⟩
    refine ite2 (fun c => fin0 (.inr (of_decide_eq_true c))) (fun c => ?_)
    have c2 : ¬ ms < 1 := of_decide_eq_false (Bool.eq_false_iff.mpr c)
    obtain ⟨m, em⟩ : ∃ m, md.toNat = m + 1 := ⟨md.toNat - 1, by omega⟩
    have em' : (md - 1).toNat = m := by omega
    rw [em] at q1 q2
    unfold meas at q1 q2
    rw [if_neg c2] at q1 q2
    refine ⟨_, rfl, v, d, rfl, hd, hg, _, rfl, ?_⟩
    refine ite2 (fun c => ?_) (fun c => ?_)
    · refine ⟨(by show 2 ≤ sizeLine; decide), fun p np => ?_⟩
      rw [if_pos c] at q2
      exact q2 1 1 rfl _ p (same_upd np) upd_same
    · rw [if_neg c] at q1 q2
      refine ⟨_, rfl, v, d, rfl, hd, hg, _, rfl, ?_⟩
      cases hc : isCd d with
      | false =>
        rw [if_neg (by rw [hc]; decide)] at q1
        exact iteT (q1 rfl H (Same.refl H))
      | true =>
        rw [if_pos hc] at q1 q2
        refine iteF ?_
        cases d with
        | tuple ds =>
          cases ds with
          | nil => cases hc
          | cons o ds =>
            cases hd with
            | @tup a xs _ hs ha =>
              cases ha with
              | @cons x0 xr _ _ h1 h2 =>
                have hl := dpAll_len h2
                have h2l : 2 ≤ ds.length := by
                  have e : isCd (.tuple (o :: ds)) = (decide (2 ≤ ds.length) && isOp o) := rfl
                  rw [e, Bool.and_eq_true] at hc
                  exact of_decide_eq_true hc.1
                have ep : parts (.tuple (o :: ds)) = ds := rfl
                rw [ep] at q1 q2
                have gp := (gd_parts hg).2
                refine ⟨_, rfl, 1, rfl, a, x0 :: xr, rfl, hs, ?_, fun p np => ?_⟩
                · rw [show HT.sIx (x0 :: xr).length 0 (some 1) = min 1 (x0 :: xr).length from HT.sIx_nat _ 0 1, List.length_cons]
                  omega
                have ec : cutV (x0 :: xr) (some 1) none = xr := by rw [cut_drop1]; rfl
                rw [ec]
                have s0 : Same H (upd H p (.tup xr)) := same_upd np
                refine ⟨p, rfl, ⟨_, SqT.of upd_same⟩, for_tup (xs := xr) (fun i σ H1 => ∃ (dp tot : Int) (y5 y6 : Option V), σ = [some (.ref a), some (.int md), some (.int ms), some (.int dp), some (.int tot), y5, y6] ∧
                  Same (upd H p (.tup xr)) H1 ∧ measL (meas m) (ds.drop i) ms dp tot = measL (meas m) ds ms 0 0) ?_ ?_ ?_ ?_⟩
                · exact ⟨0, 0, none, none, rfl, Same.refl _, rfl⟩
                · rintro i σ H1 hi ⟨dp, tot, y5, y6, rfl, sm, e⟩
                  exact SqT.of (sm _ _ upd_same)
                · rintro i x σ H1 hx ⟨dp, tot, y5, y6, rfl, sm, e⟩
                  obtain ⟨d', hd', hD'⟩ := dpAll_get h2 hx
                  have hDs : Dp K H1 x d' := dp_same (s0.trans sm) d' x hD'
                  rw [drop_cons_get hd'] at e
                  refine ⟨_, rfl, _, rfl, _, _, rfl, rfl, _, rfl, _, rfl, _, _, rfl, rfl, x, d', md - 1, ms - tot, rfl, hDs, gd_le (gp d' (List.mem_of_getElem? hd')) (by decide), by omega, by omega, fun en H2 s2 => ?_, fun dp' sz es H2 p2 s2 hp2 => ?_⟩
                  · refine ⟨_, rfl, rfl, _, rfl, iteT ?_⟩
                    refine q1 ?_ H2 (s0.trans (sm.trans s2))
                    rw [em'] at en
                    rw [← e]
                    simp only [measL, en]
                  · refine ⟨_, rfl, rfl, _, rfl, iteF ?_⟩
                    refine ⟨_, rfl, _, rfl, p2, _, _, _, rfl, rfl, SqT.of hp2, rfl, _, _, rfl, ?_⟩
                    refine ⟨_, rfl, _, rfl, p2, _, _, _, rfl, rfl, SqT.of hp2, rfl, _, _, rfl, rfl, ?_⟩
                    refine ⟨_, _, _, _, rfl, sm.trans s2, ?_⟩
                    rw [← e, em'] at *
                    simp only [measL, es]
                · rintro σ H1 ⟨dp, tot, y5, y6, rfl, sm, e⟩
                  refine ⟨_, rfl, _, _, rfl, rfl, _, rfl, (by show 2 ≤ sizeLine; decide), fun p3 np3 => ?_⟩
                  refine q2 (dp + 1) tot ?_ _ p3 (s0.trans (sm.trans (same_upd np3))) upd_same
                  rw [← e, List.drop_eq_nil_of_le (by omega)]
                  rfl
        | _ => cases hc
theorem meas_zero {f : Addr} {fd : FuncData} {k : Nat} : FnOk P w K mg base CX0 k f fd ["value", "max_depth", "max_size"] (spMeas K 0) := by
  have no : ∀ vs H Q E, ¬ spMeas K 0 vs H Q E := fun vs H Q E h => by
    obtain ⟨v, d, md, ms, _, _, _, m0, m1, _⟩ := h
    omega
  exact ⟨fun vs H Q E h => absurd h (no vs H Q E), fun A outer s H args us vs Q E _ _ _ _ h => absurd h (no vs H Q E)⟩
end
end Fv


namespace Fv
open PySem PySem.Spec PyProof.Rows L2
abbrev PsT : List Str := ["value", "max_depth", "max_size"]
abbrev KwT : List (Str × V) := [("max_depth", .int 5), ("max_size", .int 24)]
abbrev FunT (K : PySem.W.Frag) (f : Addr) (fd : FuncData) : Prop := FunD K "is_term" "is_term" (defArgs s_is_term) (defBody s_is_term) (defScope s_is_term) [] KwT f fd
section
variable {P : Program} {w : World} {K : PySem.W.Frag} {mg : Str → Option Value} {base : Heap}
theorem ok_is_term {f : Addr} {fd : FuncData} {k : Nat} (F : FunT K f fd)
    (C_measured : Own P w K mg base k "measured" ["value", "max_depth", "max_size"] (spMeas K 20)) :
    FnOk P w K mg base CX0 (k + 1) f fd PsT (spIsTerm K) := by
  refine F.ok sc_is_term (fun vs H Q E h => ?_) (fun cdv A outer s H vs Q E hr h => ?_)
  · obtain ⟨v, d, md, ms, rfl, _⟩ := h
    rfl
  · obtain ⟨v, d, md, ms, rfl, hd, hg, m0, m1, q⟩ := h
    refine ⟨_, (pss_one (ps_ret (pe_cmpR op_notN (pe_own C_measured (hr.mono (by omega)) (by rfl) (pa_cons (pv 0) (pa_cons (pv 1) (pa_cons (pv 2) pa_nil)))) pe_non (nomark _)))), ?_⟩
    refine ⟨_, rfl, _, rfl, _, rfl, v, d, md, ms, rfl, hd, hg, m0, m1, fun e H' s' => ⟨rfl, ?_⟩, fun dp sz e H' p s' hp => ⟨rfl, ?_⟩⟩
    · have z := q H' s'
      rw [e] at z
      exact z
    · have z := q H' s'
      rw [e] at z
      exact z
theorem binds_T {f : Addr} {fd : FuncData} (F : FunT K f fd) : ∃ ds, Vals [V.int 5, V.int 24] ds ∧ Binds K fd PsT ds :=
  F.binds0 1 (by decide) rfl fun D doc pm an cdv ct us ks h1 h2 => match us, ks, h1, h2 with
    | [u], [k1, k2], _, _ => ⟨_, _, _, _, _, _, rfl, rfl, _, _, _, _, _, _, rfl, rfl, rfl⟩
theorem kbinds_T1 {f : Addr} {fd : FuncData} (F : FunT K f fd) : ∃ mv : List Value, KBn K fd PsT 1 ["max_size", "max_depth"] (fun us ws => us ++ ws.reverse ++ mv) (fun vs zs => vs ++ zs.reverse ++ []) :=
  F.kbinds0 1 ["max_size", "max_depth"] [] (fun us mv ws => us ++ ws.reverse ++ mv) (by decide) (fun q h => nomatch h) (fun a b c => (a.append c.reverse).append b)
    fun D doc pm an cdv ct us mv ws h1 h2 h3 => match us, mv, ws, h1, h2, h3 with
    | [u], [], [w1, w2], _, _, _ => rfl
theorem kbinds_T2 {f : Addr} {fd : FuncData} (F : FunT K f fd) : ∃ mv : List Value, KBn K fd PsT 0 ["value", "max_depth"] (fun us ws => us ++ ws ++ mv) (fun vs zs => vs ++ zs ++ [V.int 24]) :=
  F.kbinds0 0 ["value", "max_depth"] [("max_size", .int 24)] (fun us mv ws => us ++ ws ++ mv) (by decide) (fun q h => List.mem_cons_of_mem _ h) (fun a b c => (a.append c).append b)
    fun D doc pm an cdv ct us mv ws h1 h2 h3 => match us, mv, ws, h1, h2, h3 with
    | [], [m], [w1, w2], _, _, _ => ⟨_, _, _, _, _, _, rfl, rfl, rfl⟩
theorem kbinds_T3 {f : Addr} {fd : FuncData} (F : FunT K f fd) : ∃ mv : List Value, KBn K fd PsT 1 ["max_depth"] (fun us ws => us ++ ws ++ mv) (fun vs zs => vs ++ zs ++ [V.int 24]) :=
  F.kbinds0 1 ["max_depth"] [("max_size", .int 24)] (fun us mv ws => us ++ ws ++ mv) (by decide) (fun q h => List.mem_cons_of_mem _ h) (fun a b c => (a.append c).append b)
    fun D doc pm an cdv ct us mv ws h1 h2 h3 => match us, mv, ws, h1, h2, h3 with
    | [u], [m], [w1], _, _, _ => ⟨_, _, _, _, _, _, rfl, rfl, rfl⟩
end
end Fv


namespace Fv
open PySem PySem.Spec PyProof.Rows L2



theorem walk_zipT {K : PySem.W.Frag} {a b : Addr} {xs ys : List V} {n : Nat} (hn : n = min xs.length ys.length) : Walk (RZ.ItzT K a b) n (fun H => SqT K H a xs ∧ SqT K H b ys) (YPair (fun i => xs[i]?) (fun i => ys[i]?)) := by
  subst hn
  refine ⟨fun i _ hi q => ?_, fun _ q => ⟨xs, ys, q.1, q.2, by omega⟩, fun i H v H' _ q y => ?_⟩
  · have h1 : i < xs.length := by omega
    have h2 : i < ys.length := by omega
    exact ⟨xs, ys, xs[i], ys[i], q.1, q.2, by simp [h1], by simp [h2]⟩
  · obtain ⟨T, x, z, h1, h2, h3, h4, h5⟩ := y
    exact ⟨T, x, z, h1, h2, h3, h4 xs q.1, h5 ys q.2⟩
def spSame (K : PySem.W.Frag) (n : Nat) : Sp := fun vs H Q _ => ∃ (v v' : V) (d : PyData) (m : Nat), vs = [v, v'] ∧ Dp K H v d ∧ Dp K H v' d ∧ m < n ∧ gd m d = true ∧ ∀ H', Same H H' → Q (.bl true) H'
theorem in_ints (ns : List Int) : inV (.int 0) (ns.map V.int) = decide ((0 : Int) ∈ ns) := by
  unfold inV
  induction ns with
  | nil => rfl
  | cons n ns ih =>
    rw [List.map_cons, List.any_cons, ih]
    show ((n == 0) || decide ((0 : Int) ∈ ns)) = decide ((0 : Int) ∈ n :: ns)
    by_cases e : n = 0
    · subst e; simp
    · have e1 : (n == 0) = false := beq_eq_false_iff_ne.mpr e
      rw [e1, Bool.false_or]
      simp [List.mem_cons, show ¬ (0 : Int) = n from fun z => e z.symm]
theorem flat_ints (ns : List Int) : (ns.map V.int).all flatV = true := by
  rw [List.all_map]
  exact List.all_eq_true.mpr fun _ _ => rfl
section
variable {P : Program} {w : World} {K : PySem.W.Frag} {mg : Str → Option Value} {base : Heap}
end
end Fv


namespace Fv
open PySem PySem.Spec PyProof.Rows L2
section
variable {P : Program} {w : World} {K : PySem.W.Frag} {mg : Str → Option Value} {base : Heap}
theorem measure_zero {f : Addr} {fd : FuncData} {k : Nat} : FnOk P w K mg base CX0 k f fd ["_law_word", "_law_deep"] (spMeasure K 0) := by
  have no : ∀ vs H Q E, ¬ spMeasure K 0 vs H Q E := fun vs H Q E h => by
    obtain ⟨v, d, md, _, _, _, m0, m1, _⟩ := h
    omega
  exact ⟨fun vs H Q E h => absurd h (no vs H Q E), fun A outer s H args us vs Q E _ _ _ _ h => absurd h (no vs H Q E)⟩
theorem same_zero {f : Addr} {fd : FuncData} {k : Nat} : FnOk P w K mg base CX0 k f fd ["_law_found", "_law_due"] (spSame K 0) := by
  have no : ∀ vs H Q E, ¬ spSame K 0 vs H Q E := fun vs H Q E h => by
    obtain ⟨v, v', d, m, _, _, _, m1, _⟩ := h
    omega
  exact ⟨fun vs H Q E h => absurd h (no vs H Q E), fun A outer s H args us vs Q E _ _ _ _ h => absurd h (no vs H Q E)⟩
end
end Fv


namespace Fv
open PySem PySem.Spec PyProof.Rows L2
-- top 55  slots: 0:_law_source_here 1:_law_signs_here 2:_law_deep 3:_law_room 4:_law_many 5:_law_operator 6:_law_k
abbrev s_law_term : Stmt := topS 55
abbrev N_law_term : List Str := ["_law_source_here", "_law_signs_here", "_law_deep", "_law_room", "_law_many", "_law_operator", "_law_k"]
theorem sc_law_term : FnScope N_law_term ["_law_source_here", "_law_signs_here", "_law_deep", "_law_room"] (defScope s_law_term) := ⟨rfl, rfl, rfl, by decide +kernel, rfl, by decide +kernel, by decide +kernel⟩


section
variable {P : Program} {w : World} {K : PySem.W.Frag} {mg : Str → Option Value} {base : Heap}
theorem term_zero {f : Addr} {fd : FuncData} {k : Nat} : FnOk P w K mg base CX0 k f fd ["_law_source_here", "_law_signs_here", "_law_deep", "_law_room"] (spTerm K 0) := by
  have no : ∀ vs H Q E, ¬ spTerm K 0 vs H Q E := fun vs H Q E h => by
    obtain ⟨a, L, sg, r, ns, deep, m, ys, M, _, _, _, _, _, _, _, _, _, _, _, _, _, d1, d2, _⟩ := h
    omega
  exact ⟨fun vs H Q E h => absurd h (no vs H Q E), fun A outer s H args us vs Q E _ _ _ _ h => absurd h (no vs H Q E)⟩
theorem ok_term {f : Addr} {fd : FuncData} {k n : Nat} (F : Fun K "_law_term" "_law_term" s_law_term f fd) (m_tuple : mg "tuple" = none) (m_range : mg "range" = none) (hk : 2 ≤ k)
    (C_law_take : Own P w K mg base 1 "_law_take" ["_law_source_here", "_law_many"] spTake)
    (C_law_pick : Own P w K mg base 2 "_law_pick" ["_law_source_here", "_law_row"] spPick)
    (C_law_term : Own P w K mg base k "_law_term" ["_law_source_here", "_law_signs_here", "_law_deep", "_law_room"] (spTerm K n)) :
    FnOk P w K mg base CX0 (k + 1) f fd ["_law_source_here", "_law_signs_here", "_law_deep", "_law_room"] (spTerm K (n + 1)) := by
  refine F.ok sc_law_term (fun vs H Q E h => ?_) (fun cdv A outer s H vs Q E hr h => ?_)
  · obtain ⟨a, L, sg, r, ns, deep, m, ys, M, rfl, _⟩ := h
    rfl
  · obtain ⟨a, L, sg, r, ns, deep, m, ys, M, rfl, hs, hsg, y0, y8, hy, hR, sga, sgr, ra, rL, m0, m1, d1, d2, aM, rM, tM, q⟩ := h
    refine ⟨_, (pss_cons (ps_set (i := 4) sc_law_term.nd rfl (by first | exact .inl rfl | exact .inr rfl) (pe_op op_add pe_int (pe_op op_fdiv (pe_own C_law_take (hr.mono (by omega)) (by rfl) (pa_cons (pv 0) (pa_cons pe_int pa_nil))) pe_int)))
      (pss_cons (ps_if (PW.pt (pw_or (pt_cmpR op_lt (pv 2) pe_int (nomark _)) (pw_or (pt_cmpR op_lt (pe_ix ix_list (pv 3) pe_int (fun _ _ => rfl)) (pe_op op_sub (pv 4) pe_int) (nomark _)) (pw_or1 (pt_cmpR op_eq (pe_own C_law_take (hr.mono (by omega)) (by rfl) (pa_cons (pv 0) (pa_cons pe_int pa_nil))) pe_int (nomark _))))))
        (pss_one (ps_ret (pe_own C_law_pick (hr.mono (by omega)) (by rfl) (pa_cons (pv 0) (pa_cons (pv 1) pa_nil)))))
        pss_nil)
      (pss_cons (ps_asg (pe_op op_add (pe_op op_sub (pe_ix ix_list (pv 3) pe_int (fun _ _ => rfl)) (pv 4)) pe_int) (pg_sub (pv 3) pe_int set_list))
      (pss_cons (ps_set (i := 5) sc_law_term.nd rfl (by first | exact .inl rfl | exact .inr rfl) (pe_own C_law_pick (hr.mono (by omega)) (by rfl) (pa_cons (pv 0) (pa_cons (pe_lst (pa_cons pe_str (pa_cons pe_str pa_nil))) pa_nil))))
      (pss_one (ps_ret (pe_callTy call_tuple_of (by rfl) m_tuple (by decide +kernel) (pa_cons (pe_op op_cat (pe_lst (pa_cons (pv 5) pa_nil)) (pe_lc (own := [("_law_k", 6)]) (g := gName 6) (by rfl) sc_law_term.nd (pi_range1 (by rfl) m_range (pa_cons (pv 4) pa_nil)) (blkOk_by (own := [("_law_k", 6)]) (N := N_law_term) (sc := defScope s_law_term) (by decide +kernel)) (fun _ _ _ _ _ => pg_name (i := 6) sc_law_term.nd rfl (Or.inl rfl)) (fun _ _ _ _ _ => pts_nil) (fun _ _ _ _ _ => (pe_own C_law_term (hr.mono (by omega)) (by rfl) (pa_cons (pv 0) (pa_cons (pv 1) (pa_cons (pe_op op_sub (pv 2) pe_int) (pa_cons (pv 3) pa_nil)))))))) pa_nil)))))))), ?_⟩
    have fin : ∀ Hx, Src Hx a L ns → (∀ b, b ≠ a → Hx b = H b) → spPick [.ref a, .ref sg] Hx Q E0 := fun Hx hsx offx => by
      refine ⟨a, L, sg, ns, ys, rfl, hsx, sga, (offx sg sga).trans hsg, y0, by omega, fun H' v mv hs' off' => ?_⟩
      obtain ⟨x, rfl, hx⟩ := lett_data (hy v mv)
      obtain ⟨l1, l2⟩ := isL_lett hx
      refine q H' _ (.str x) m (.str x) ?_ m0 (Int.le_refl _) (gd_le l2 (Nat.zero_le _)) hs' (((off' r ra).trans (offx r ra)).trans hR) fun b o hb e => ?_
      · obtain ⟨j, ej⟩ : ∃ j, deep.toNat = j + 1 := ⟨deep.toNat - 1, by omega⟩
        rw [ej]
        show (if isL x = true then (1 : Int) else _) = _
        rw [if_pos l1]
        omega
      · have ba : b ≠ a := fun z => hb (by rw [z]; exact List.mem_cons_self ..)
        rw [off' b ba, offx b ba]
        exact e
    refine ⟨_, rfl, a, L, ns, 5, rfl, hs, by decide, by decide, fun H1 t t0 t1 hs1 off1 => ⟨_, _, rfl, rfl, ⟨by decide, by decide⟩, _, _, rfl, rfl, ?_⟩⟩
    have hR1 : H1 r = some (.lst [.int m]) := (off1 r ra).trans hR
    refine ⟨_, rfl, _, _, rfl, rfl, _, rfl, ?_⟩
    refine ite2 (fun c => iteT ⟨_, rfl, _, rfl, fin H1 hs1 off1⟩) (fun c => ?_)
    have cd : ¬ deep < 2 := of_decide_eq_false (Bool.eq_false_iff.mpr c)
    refine ⟨_, rfl, r, _, _, _, rfl, rfl, SqL.of hR1, rfl, _, rfl, _, _, rfl, rfl, _, _, rfl, rfl, _, rfl, ?_⟩
    refine ite2 (fun c => iteT ⟨_, rfl, _, rfl, fin H1 hs1 off1⟩) (fun c => ?_)
    have cm : ¬ m < 2 + t / 2 - 1 := of_decide_eq_false (Bool.eq_false_iff.mpr c)
    refine ⟨_, rfl, a, L, ns, 4, rfl, hs1, by decide, by decide, fun H2 t2 _ _ hs2 off2 => ⟨rfl, _, rfl, ?_⟩⟩
    have off12 : ∀ b, b ≠ a → H2 b = H b := fun b hb => (off2 b hb).trans (off1 b hb)
    refine ite2 (fun c => ⟨_, rfl, _, rfl, fin H2 hs2 off12⟩) (fun _ => ?_)
    have hR2 : H2 r = some (.lst [.int m]) := (off12 r ra).trans hR
    -- room[0] = room[0] - many + 1
    refine ⟨_, rfl, r, _, _, _, rfl, rfl, SqL.of hR2, rfl, _, rfl, _, _, rfl, rfl, _, _, rfl, rfl, _, rfl, r, _, _, _, rfl, rfl, hR2, rfl, ?_⟩
    have hs3 : Src (upd H2 r (.lst [.int (m - (2 + t / 2) + 1)])) a L ns := hs2.put ra rL
    have tM2 : Trk M (upd H2 r (.lst [.int (m - (2 + t / 2) + 1)])) := fun b hb => by
      by_cases br : b = r
      · rw [br]; exact ⟨_, upd_same⟩
      · rw [upd_ne br]
        by_cases ba : b = a
        · rw [ba]
          obtain ⟨_, _, _, _, e, _⟩ := hs2
          exact ⟨_, e⟩
        · rw [off12 b ba]; exact tM b hb
    -- operator
    refine ⟨_, rfl, (by show 2 ≤ sizeLine; decide), fun l nl => ?_⟩
    have sl := same_upd (o := .lst [.str "&", .str "|"]) nl
    have la : l ≠ a := (hs3.ne nl).symm
    refine ⟨a, L, l, ns, _, rfl, hs3.same sl, la, upd_same, by decide, by decide, fun H4 op mop hs4 off4 => ?_⟩
    obtain ⟨os, rfl, ho, go⟩ : ∃ os : Str, op = .str os ∧ isOp (.str os) = true ∧ gd 0 (.str os) = true := by
      rcases List.mem_cons.mp mop with e | e
      · exact ⟨_, e, isOp_str.1, by decide +kernel⟩
      · exact ⟨_, List.mem_singleton.mp e, isOp_str.2, by decide +kernel⟩
    -- what stands at H4
    have rl : r ≠ l := ne_of_none (H := upd H2 r (.lst [.int (m - (2 + t / 2) + 1)])) upd_same nl
    have hR4 : H4 r = some (.lst [.int (m - (2 + t / 2) + 1)]) := (off4 r ra).trans ((upd_ne rl).trans upd_same)
    have sm4 : SmX [a, r] H H4 := fun b o hb e => by
      have ba : b ≠ a := fun z => hb (by rw [z]; exact List.mem_cons_self ..)
      have br : b ≠ r := fun z => hb (by rw [z]; exact List.mem_cons_of_mem _ (List.mem_singleton.mpr rfl))
      rw [off4 b ba]
      exact sl b o ((upd_ne br).trans ((off12 b ba).trans e))
    have tM4 : Trk M H4 := fun b hb => by
      by_cases ba : b = a
      · rw [ba]
        obtain ⟨_, _, _, _, e, _⟩ := hs4
        exact ⟨_, e⟩
      · rw [off4 b ba]; exact (tM2.same sl) b hb
    have hsg4 : H4 sg = some (.lst ys) := sm4 _ _ (fun z => by
      rcases List.mem_cons.mp z with z | z
      · exact sga z
      · exact sgr (List.mem_singleton.mp z)) hsg
    -- [operator] + [..]
    refine ⟨_, rfl, (by show 1 ≤ sizeLine; decide), fun o1 no1 => ?_⟩
    have so := same_upd (o := .lst [.str os]) no1
    refine ⟨_, rfl, (2 + t / 2), rfl, by omega, by omega, fun D nD => ?_⟩
    have tMo : Trk M (upd H4 o1 (.lst [.str os])) := tM4.same so
    have DM : D ∉ M := tMo.ne nD
    have Da : D ≠ a := fun e => DM (e ▸ aM)
    have Dr : D ≠ r := fun e => DM (e ▸ rM)
    have sD := same_upd (o := .lst []) nD
    refine lc_range (lo := 0) (n := (2 + t / 2).toNat) (fun i Hi => ∃ (mi : Int) (acc : List V) (ds : List PyData), Src Hi a L ns ∧ Hi r = some (.lst [.int mi]) ∧ Hi D = some (.lst acc) ∧ acc.length = i ∧ DpAll K (hide (D :: M) Hi) acc ds ∧
      (∀ d ∈ ds, 1 ≤ lmeas (deep.toNat - 1) d ∧ gd (deep.toNat - 1) d = true) ∧ (ds.map (lmeas (deep.toNat - 1))).sum = (m - (2 + t / 2) + 1) - mi + i ∧ 0 ≤ mi ∧ mi ≤ m - (2 + t / 2) + 1 ∧ SmX [a, r] (upd H4 o1 (.lst [.str os])) Hi) ?_ ?_ ?_
    · refine ⟨_, [], [], (hs4.same so).same sD, sD _ _ (so _ _ hR4), upd_same, rfl, .nil, (fun d h => nomatch h), ?_, by omega, Int.le_refl _, .of_same sD⟩
      simp
    · rintro i Hi hi ⟨mi, acc, ds, hsi, hri, hDi, li, hda, hds, hsum, mi0, mi1, smi⟩
      refine ⟨rfl, ?_⟩
      dsimp only [tYes]
      rw [if_pos rfl]
      have tMi : Trk M Hi := tMo.smx smi fun b hb => by
        rcases List.mem_cons.mp hb with z | z
        · rw [z]
          obtain ⟨_, _, _, _, e, _⟩ := hsi
          exact ⟨_, e⟩
        · rw [List.mem_singleton.mp z]; exact ⟨_, hri⟩
      have hsgi : Hi sg = some (.lst ys) := smi _ _ (fun z => by
        rcases List.mem_cons.mp z with z | z
        · exact sga z
        · exact sgr (List.mem_singleton.mp z)) (so _ _ hsg4)
      refine ⟨_, rfl, _, rfl, _, rfl, _, _, rfl, rfl, _, rfl, a, L, sg, r, ns, deep - 1, mi, ys, D :: M, rfl, hsi, hsgi, y0, y8, hy, hri, sga, sgr, ra, rL, mi0, by omega, by omega, by omega, List.mem_cons_of_mem _ aM, List.mem_cons_of_mem _ rM, fun b hb => ?_, fun H5 v d m5 hd5 hl5 m50 m51 hg5 hs5 hr5 sm5 => ?_⟩
      · rcases List.mem_cons.mp hb with z | z
        · rw [z]; exact ⟨_, hDi⟩
        · exact tMi b z
      · have hD5 : H5 D = some (.lst acc) := sm5 _ _ (fun z => by
          rcases List.mem_cons.mp z with z | z
          · exact Da z
          · exact Dr (List.mem_singleton.mp z)) hDi
        have ed : (deep - 1).toNat = deep.toNat - 1 := by omega
        rw [ed] at hl5 hg5
        have hid : Same (hide (D :: M) Hi) (hide (D :: M) (upd H5 D (.lst (acc ++ [v])))) := (SmX.put (sm5.sub (M' := D :: M) fun b hb => by
          rcases List.mem_cons.mp hb with z | z
          · rw [z]; exact .inl (List.mem_cons_of_mem _ aM)
          · rw [List.mem_singleton.mp z]; exact .inl (List.mem_cons_of_mem _ rM)) (List.mem_cons_self ..)).hid
        have hid5 : Same (hide (D :: M) H5) (hide (D :: M) (upd H5 D (.lst (acc ++ [v])))) := (SmX.put (SmX.refl _ _) (List.mem_cons_self ..)).hid
        have Lr : r ≠ L := rL
        refine ⟨acc, hD5, ?_, m5, acc ++ [v], ds ++ [d], ?_, ?_, upd_same, ?_, ?_, ?_, ?_, m50, by omega, ?_⟩
        · exact small1000 (by omega)
        · refine hs5.put Da fun e => ?_
          obtain ⟨_, _, _, _, _, e2, _⟩ := hs
          have eL : (upd H4 o1 (.lst [.str os])) L = none := e ▸ nD
          obtain ⟨_, _, _, _, _, e3, _⟩ := hs4.same so
          rw [eL] at e3
          cases e3
        · rw [upd_ne Dr.symm]; exact hr5
        · rw [List.length_append, li]; rfl
        · exact dpAll_app (dpAll_same hid _ _ hda) (.cons (dp_same hid5 _ _ hd5) .nil)
        · intro d' hd'
          rcases List.mem_append.mp hd' with z | z
          · exact hds d' z
          · rw [List.mem_singleton.mp z]
            exact ⟨by omega, hg5⟩
        · rw [List.map_append, List.sum_append, hsum]
          simp only [List.map_cons, List.map_nil, List.sum_cons, List.sum_nil]
          omega
        · intro b o hb e
          rw [upd_ne (ne_of_none e nD)]
          exact sm5 b o hb (smi b o hb e)
    · rintro Hi ⟨mi, acc, ds, hsi, hri, hDi, li, hda, hds, hsum, mi0, mi1, smi⟩
      have o1a : o1 ≠ a := fun e => by
        obtain ⟨_, _, _, _, e', _⟩ := hs4
        rw [e, e'] at no1
        cases no1
      have o1r : o1 ≠ r := fun e => by
        rw [e, hR4] at no1
        cases no1
      have ho1 : Hi o1 = some (.lst [.str os]) := smi _ _ (fun z => by
        rcases List.mem_cons.mp z with z | z
        · exact o1a z
        · exact o1r (List.mem_singleton.mp z)) upd_same
      have tMi : Trk M Hi := tMo.smx smi fun b hb => by
        rcases List.mem_cons.mp hb with z | z
        · rw [z]
          obtain ⟨_, _, _, _, e, _⟩ := hsi
          exact ⟨_, e⟩
        · rw [List.mem_singleton.mp z]; exact ⟨_, hri⟩
      refine ⟨o1, D, _, _, rfl, rfl, ho1, hDi, ?_, fun cc ncc => ?_⟩
      · rw [li]
        exact le1000 (by show 1 + _ ≤ 1000; omega)
      have sc := same_upd (o := .lst ([.str os] ++ acc)) ncc
      refine ⟨cc, _, rfl, .inl ⟨SqL.of upd_same, fun p np => ?_⟩⟩
      have sp := same_upd (o := .tup ([.str os] ++ acc)) np
      have tMc : Trk M (upd Hi cc (.lst ([.str os] ++ acc))) := tMi.same sc
      have lds := dpAll_len hda
      obtain ⟨j, ej⟩ : ∃ j, deep.toNat = j + 1 := ⟨deep.toNat - 1, by omega⟩
      have ej1 : deep.toNat - 1 = j := by omega
      rw [ej1] at hds hsum
      have hidA : Same (hide (D :: M) Hi) (hide M (upd (upd Hi cc (.lst ([.str os] ++ acc))) p (.tup ([.str os] ++ acc)))) :=
        (hide_sub fun b hb => List.mem_cons_of_mem _ hb).trans (SmX.of_same (sc.trans sp)).hid
      refine q _ (.ref p) (.tuple (.str os :: ds)) mi (.tup (SqT.of (hid_at tMc np)) (.cons (.str os) (dpAll_same hidA _ _ hda))) ?_ mi0 (by omega) ?_ ((hsi.same sc).same sp) (sp _ _ (sc _ _ hri)) (sm4.trans ((SmX.of_same so).trans (smi.trans (.of_same (sc.trans sp)))))
      · rw [ej]
        refine lmeas_tup ho (by omega) (fun d hd => (hds d hd).1) ?_
        rw [hsum]
        omega
      · rw [ej]
        refine gd_tup (fun d hd => ?_) (by rw [List.length_cons]; omega)
        rcases List.mem_cons.mp hd with z | z
        · rw [z]; exact gd_le go (Nat.zero_le _)
        · exact (hds d z).2
end
end Fv


namespace Fv
open PySem PySem.Spec PyProof.Rows L2


theorem pos22 : (0 : Int) < 2 := by decide
section
variable {P : Program} {w : World} {K : PySem.W.Frag} {mg : Str → Option Value} {base : Heap}
end
end Fv


namespace Fv
open PySem PySem.Spec PyProof.Rows L2
theorem all_nil {P : V → Prop} : ∀ y ∈ ([] : List V), P y := fun y h => nomatch h
theorem all_cons {P : V → Prop} {x : V} {xs : List V} (h : P x) (t : ∀ y ∈ xs, P y) : ∀ y ∈ x :: xs, P y := fun y hy => by
  rcases List.mem_cons.mp hy with e | e
  · rw [e]; exact h
  · exact t y e
theorem all_app {P : V → Prop} {xs ys : List V} (h : ∀ y ∈ xs, P y) (t : ∀ y ∈ ys, P y) : ∀ y ∈ xs ++ ys, P y := fun y hy => by
  rcases List.mem_append.mp hy with e | e
  · exact h y e
  · exact t y e
section
variable {P : Program} {w : World} {K : PySem.W.Frag} {mg : Str → Option Value} {base : Heap}
end
end Fv


namespace Fv
open PySem PySem.Spec PyProof.Rows L2 FvX TL
/-! ### the text of a term -/
def opS : PyData → Str
  | .str s => s
  | _ => ""
mutual
def txt : PyData → Str
  | .str s => s
  | .tuple (o :: ds) => Txt.join (" " ++ opS o ++ " ") (ptxAll ds)
  | _ => ""
def ptxAll : List PyData → List Str
  | [] => []
  | d :: ds => (if isLd d = true then txt d else "(" ++ txt d ++ ")") :: ptxAll ds
end
def ptx (d : PyData) : Str := if isLd d = true then txt d else "(" ++ txt d ++ ")"
theorem ptxAll_map : ∀ ds : List PyData, ptxAll ds = ds.map ptx
  | [] => by simp [ptxAll]
  | d :: ds => by rw [List.map_cons, ← ptxAll_map ds]; simp only [ptxAll, ptx]
theorem txt_str (s : Str) : txt (.str s) = s := by simp only [txt]
theorem txt_tup (o : Str) (ds : List PyData) : txt (.tuple (.str o :: ds)) = Txt.join (" " ++ o ++ " ") (ds.map ptx) := by
  simp only [txt, ptxAll_map, opS]
theorem isOp_inv {o : PyData} (h : isOp o = true) : o = .str "&" ∨ o = .str "|" := by
  unfold isOp at h
  simp only [List.any_cons, List.any_nil, Bool.or_false, Bool.or_eq_true] at h
  cases o with
  | str x =>
    rcases h with h | h <;> simp [PyData.eqv] at h
    · exact .inl (by rw [h])
    · exact .inr (by rw [h])
  | _ => rcases h with h | h <;> simp [PyData.eqv] at h
theorem lmeas_inv {n : Nat} {d : PyData} (h : 1 ≤ lmeas (n + 1) d) : (∃ x, d = .str x ∧ isL x = true) ∨
    (∃ o ds, d = .tuple (.str o :: ds) ∧ isLd d = false ∧ (o = "&" ∨ o = "|") ∧ 2 ≤ ds.length ∧ (∀ x ∈ ds, 1 ≤ lmeas n x) ∧ lmeas (n + 1) d = (ds.map (lmeas n)).sum) := by
  by_cases a : isLd d = true
  · left
    cases d with
    | str x => exact ⟨x, rfl, a⟩
    | _ => cases a
  · right
    have e : lmeas (n + 1) d = if isCd d = true then (if (0 : Int) ∈ (parts d).map (lmeas n) then 0 else ((parts d).map (lmeas n)).sum) else 0 := by
      show (if isLd d = true then (1 : Int) else _) = _
      rw [if_neg a]
    rw [e] at h
    by_cases b : isCd d = true
    · rw [if_pos b] at h
      by_cases c : (0 : Int) ∈ (parts d).map (lmeas n)
      · rw [if_pos c] at h; omega
      · cases d with
        | tuple ds =>
          cases ds with
          | nil => cases b
          | cons o ds =>
            have b' : (decide (2 ≤ ds.length) && isOp o) = true := b
            rw [Bool.and_eq_true, decide_eq_true_eq] at b'
            have all1 : ∀ x ∈ ds, 1 ≤ lmeas n x := fun x hx => by
              have z := lmeas_nonneg n x
              rcases Int.lt_or_eq_of_le z with z | z
              · omega
              · exact absurd (List.mem_map.mpr ⟨x, hx, z.symm⟩) c
            have e' : lmeas (n + 1) (.tuple (o :: ds)) = (ds.map (lmeas n)).sum := by
              rw [e, if_pos b, if_neg c]; rfl
            rcases isOp_inv b'.2 with ho | ho <;> subst ho
            · exact ⟨_, ds, rfl, rfl, .inl rfl, b'.1, all1, e'⟩
            · exact ⟨_, ds, rfl, rfl, .inr rfl, b'.1, all1, e'⟩
        | _ => cases b
    · rw [if_neg b] at h; omega
theorem isL_len {x : Str} (h : isL x = true) : x.length = 1 := by
  unfold isL at h
  rw [Bool.and_eq_true, decide_eq_true_eq] at h
  have := h.1
  injection this with e
  omega
theorem len_app (x y : Str) : (x ++ y).length = x.length + y.length := by
  rw [len_tl, tl_append, List.length_append, ← len_tl, ← len_tl]
theorem joinL_len (S : List Nat) : ∀ (p : List Nat) (ps : List (List Nat)), (joinL S (p :: ps)).length = p.length + (ps.map (·.length)).sum + S.length * ps.length
  | p, [] => by simp [joinL]
  | p, q :: ps => by
    have e : joinL S (p :: q :: ps) = p ++ (S ++ joinL S (q :: ps)) := rfl
    rw [e, List.length_append, List.length_append, joinL_len S q ps, List.map_cons, List.sum_cons, List.length_cons, Nat.mul_add]
    omega
theorem sum_le {α : Type} {f g : α → Int} : ∀ {l : List α}, (∀ x ∈ l, f x ≤ g x) → (l.map f).sum ≤ (l.map g).sum
  | [], _ => by simp
  | x :: l, h => by
    rw [List.map_cons, List.map_cons, List.sum_cons, List.sum_cons]
    have := h x (List.mem_cons_self ..)
    have := sum_le (l := l) fun y hy => h y (List.mem_cons_of_mem _ hy)
    omega
theorem sum_lin {α : Type} {f : α → Int} : ∀ {l : List α}, (l.map fun x => 8 * f x - 5).sum = 8 * (l.map f).sum - 5 * l.length
  | [] => by simp
  | x :: l => by
    rw [List.map_cons, List.map_cons, List.sum_cons, List.sum_cons, sum_lin (l := l), List.length_cons]
    omega
theorem sum_cast {α : Type} {f : α → Nat} : ∀ {l : List α}, (((l.map f).sum : Nat) : Int) = (l.map fun x => ((f x : Nat) : Int)).sum
  | [] => by simp
  | x :: l => by
    rw [List.map_cons, List.map_cons, List.sum_cons, List.sum_cons, ← sum_cast (l := l)]
    omega
theorem sep_len {o : Str} (h : o = "&" ∨ o = "|") : ((" " : Str) ++ o ++ " ").length = 3 := by
  rcases h with h | h <;> subst h <;> decide +kernel
theorem par_len (x : Str) : (("(" : Str) ++ x ++ ")").length = x.length + 2 := by
  rw [len_app, len_app]
  have e1 : ("(" : Str).length = 1 := by decide +kernel
  have e2 : (")" : Str).length = 1 := by decide +kernel
  omega
theorem txt_len : ∀ (n : Nat) (d : PyData), 1 ≤ lmeas n d → ((txt d).length : Int) + 7 ≤ 8 * lmeas n d
  | 0, d, h => by simp only [lmeas] at h; omega
  | n + 1, d, h => by
    rcases lmeas_inv h with ⟨x, rfl, hx⟩ | ⟨o, ds, rfl, _, ho, h2, all1, e⟩
    · rw [txt_str, isL_len hx]
      omega
    · rw [txt_tup, join_eq, len_tl, tl_join, e]
      have hp : (((((ds.map ptx).map tl).map (·.length)).sum : Nat) : Int) ≤ 8 * (ds.map (lmeas n)).sum - 5 * ds.length := by
        rw [← sum_lin, List.map_map, List.map_map, sum_cast]
        refine sum_le fun x hx => ?_
        have := txt_len n x (all1 x hx)
        show (((tl (ptx x)).length : Nat) : Int) ≤ _
        rw [← len_tl]
        unfold ptx
        split
        · omega
        · rw [par_len]; omega
      cases ds with
      | nil => simp at h2
      | cons x r =>
        rw [List.map_cons, List.map_cons] at hp ⊢
        rw [joinL_len, ← len_tl (" " ++ o ++ " "), sep_len ho, List.length_map, List.length_map]
        rw [List.map_cons, List.sum_cons] at hp
        rw [List.length_cons] at h2 hp
        omega
theorem ptx_len {n : Nat} {d : PyData} (h : 1 ≤ lmeas n d) : ((ptx d).length : Int) + 5 ≤ 8 * lmeas n d := by
  have := txt_len n d h
  unfold ptx
  split
  · omega
  · rw [par_len]; omega
def spText (K : PySem.W.Frag) (n : Nat) : Sp := fun vs H Q _ => ∃ (v : V) (d : PyData) (m : Nat), vs = [v] ∧ Dp K H v d ∧ gd 20 d = true ∧ m < n ∧ 1 ≤ lmeas m d ∧ lmeas m d ≤ 1000 ∧ ∀ H', Same H H' → Q (.str (txt d)) H'
def spPart (K : PySem.W.Frag) (n : Nat) : Sp := fun vs H Q _ => ∃ (v : V) (d : PyData) (m : Nat), vs = [v] ∧ Dp K H v d ∧ gd 20 d = true ∧ m < n ∧ 1 ≤ lmeas m d ∧ lmeas m d ≤ 1000 ∧ ∀ H', Same H H' → Q (.str (ptx d)) H'
end Fv


namespace Fv
open PySem PySem.Spec PyProof.Rows L2 FvX TL
-- top 26  slots: 0:term 1:texts 2:part
abbrev s_term_text : Stmt := topS 26
abbrev N_term_text : List Str := ["term", "texts", "part"]
theorem sc_term_text : FnScope N_term_text ["term"] (defScope s_term_text) := ⟨rfl, rfl, rfl, by decide +kernel, rfl, by decide +kernel, by decide +kernel⟩

-- top 27  slots: 0:part 1:text
abbrev s_part_text : Stmt := topS 27
abbrev N_part_text : List Str := ["part", "text"]
theorem sc_part_text : FnScope N_part_text ["part"] (defScope s_part_text) := ⟨rfl, rfl, rfl, by decide +kernel, rfl, by decide +kernel, by decide +kernel⟩

-- top 49  slots: 0:_law_word 1:_law_texts 2:_law_one
abbrev s_law_text : Stmt := topS 49
abbrev N_law_text : List Str := ["_law_word", "_law_texts", "_law_one"]
theorem sc_law_text : FnScope N_law_text ["_law_word"] (defScope s_law_text) := ⟨rfl, rfl, rfl, by decide +kernel, rfl, by decide +kernel, by decide +kernel⟩

theorem pe_isDc {X : Cx} {K : PySem.W.Frag} {e : Expr} {te : TE} {T : String} {y : Str} {p p2 pos : Pos} (hK : X.K = K) (hg : Gl X "isinstance") (hm : X.mg "isinstance" = none) (hg2 : Gl X y) (hm2 : X.mg y = none) (ha : PE X e te)
    (hv : bootBuiltins y = some (.type T) := by decide +kernel) (hn : y ≠ "__name__" := by decide) (hd2 : (y == ("__debug__" : Str)) = false := by decide)
    (he : starEach (e :: [.Name y p2]) X.env = (false, eval e X.env) :: starEach [.Name y p2] X.env := by rfl) (hpl : (backTo pos (starEach [.Name y p2] X.env)).any (·.1) = false := by rfl) :
    PE X (.Call (.Name "isinstance" p) [e, .Name y p2] [] pos) (tCB (rIsD K) (tCons te (tCons (tC (.ty T)) tNil))) := by
  subst hK
  exact pe_isD hg hm hg2 hm2 ha hv hn hd2 he hpl
theorem one_len : (" " : Str).length = 1 := by decide +kernel
theorem op_len {o : Str} (h : o = "&" ∨ o = "|") : o.length = 1 := by rcases h with h | h <;> subst h <;> decide +kernel
theorem small_len {x : Str} {n : Nat} (h : x.length ≤ n) (hn : n ≤ 100000) : x.length ≤ sizeLine := Nat.le_trans h (Nat.le_trans hn (by decide))
theorem emp_app (x : Str) : Str.empty ++ x = x := ext_tl (by rw [tl_append]; rfl)
theorem sum_ptx {m : Nat} {ds : List PyData} (all1 : ∀ x ∈ ds, 1 ≤ lmeas m x) (h : (ds.map (lmeas m)).sum ≤ 1000) : ((ds.map ptx).map (·.length)).sum ≤ 8000 := by
  have hp : ((((ds.map ptx).map (·.length)).sum : Nat) : Int) ≤ 8 * (ds.map (lmeas m)).sum - 5 * ds.length := by
    rw [← sum_lin, List.map_map, sum_cast]
    refine sum_le fun x hx => ?_
    have := ptx_len (all1 x hx)
    show (((ptx x).length : Nat) : Int) ≤ _
    omega
  omega
theorem part_le {m : Nat} {ds : List PyData} {x : PyData} (hx : x ∈ ds) (h : (ds.map (lmeas m)).sum ≤ 1000) : lmeas m x ≤ 1000 := by
  have := mem_le_sum (l := ds.map (lmeas m)) (x := lmeas m x) (fun y hy => by
    obtain ⟨d', _, rfl⟩ := List.mem_map.mp hy
    exact lmeas_nonneg m d') (List.mem_map.mpr ⟨x, hx, rfl⟩)
  omega
section
variable {P : Program} {w : World} {K : PySem.W.Frag} {mg : Str → Option Value} {base : Heap}
theorem text_zero {f : Addr} {fd : FuncData} {k : Nat} {ps : List Str} : FnOk P w K mg base CX0 k f fd ps (spText K 0) := by
  have no : ∀ vs H Q E, ¬ spText K 0 vs H Q E := fun vs H Q E h => by
    obtain ⟨v, d, m, _, _, _, m1, _⟩ := h
    omega
  exact ⟨fun vs H Q E h => absurd h (no vs H Q E), fun A outer s H args us vs Q E _ _ _ _ h => absurd h (no vs H Q E)⟩
theorem ok_term_text {f : Addr} {fd : FuncData} {k n : Nat} (F : Fun K "term_text" "term_text" s_term_text f fd)
    (C_is_letter : Own P w K mg base 1 "is_letter" ["value"] (spIsLetter K)) (hk : 1 ≤ k)
    (C_part_text : Own P w K mg base k "part_text" ["part"] (spPart K n)) :
    FnOk P w K mg base CX0 (k + 1) f fd ["term"] (spText K (n + 1)) := by
  refine F.ok sc_term_text (fun vs H Q E h => ?_) (fun cdv A outer s H vs Q E hr h => ?_)
  · obtain ⟨v, d, m, rfl, _⟩ := h
    rfl
  · obtain ⟨v, d, m, rfl, hd, hg, hm, l1, l2, q⟩ := h
    refine ⟨_, (pss_cons (ps_if (pt_val (pe_own C_is_letter (hr.mono (by omega)) (by rfl) (pa_cons (pv 0) pa_nil)))
        (pss_one (ps_ret (pv 0)))
        pss_nil)
      (pss_cons (ps_setLc (i := 1) (own := [("part", 2)]) (g := gName 2) (by rfl) sc_term_text.nd rfl rfl (sw_true rfl rfl rfl (by decide +kernel)) (pi_tup (pe_slice sl_tup (pv 0) (po_some pe_int) po_none)) (blkOk_by (own := [("part", 2)]) (N := N_term_text) (sc := defScope s_term_text) (by decide +kernel)) (fun _ _ _ _ _ => pg_name (i := 2) sc_term_text.nd rfl (Or.inl rfl)) (fun _ _ _ _ _ => pts_nil) (fun _ _ _ _ _ => (pe_own C_part_text (hr.mono (by omega)) (by rfl) (pa_cons (pv 2) pa_nil))))
      (pss_one (ps_ret (pe_join (pe_joined (.cons pe_str (.cons (pe_fmt (pe_ix ix_tup (pv 0) pe_int (fun _ _ => rfl))) (.cons pe_str .nil)))) (pv 1)))))), ?_⟩
    cases m with
    | zero => simp only [lmeas] at l1; omega
    | succ m =>
    rcases lmeas_inv l1 with ⟨x, rfl, hx⟩ | ⟨o, ds, rfl, nl, ho, h2, all1, e⟩
    · cases hd
      refine ⟨_, rfl, _, _, rfl, .str x, hg, _, rfl, ?_⟩
      show if isL x = true then _ else _
      rw [if_pos hx]
      have q' := q H (Same.refl H)
      rw [txt_str] at q'
      exact ⟨_, rfl, q'⟩
    · rw [e] at l2
      cases hd with
      | @tup a xs _ hs ha =>
        cases ha with
        | @cons x0 xr _ _ h1 hA =>
        cases h1
        have hl := dpAll_len hA
        refine ⟨_, rfl, _, _, rfl, .tup hs (.cons (.str o) hA), hg, _, rfl, iteF ?_⟩
        refine ⟨_, rfl, 1, rfl, a, _, rfl, hs, ?_, fun p np => ?_⟩
        · rw [show HT.sIx (V.str o :: xr).length 0 (some 1) = min 1 (V.str o :: xr).length from HT.sIx_nat _ 0 1, List.length_cons]
          omega
        have ex : cutV (V.str o :: xr) (some 1) none = xr := by rw [cut_drop1]; rfl
        rw [ex]
        have sp := same_upd (o := .tup xr) np
        have gp := (gd_parts hg).2
        refine ⟨p, rfl, ⟨_, SqT.of upd_same⟩, fun D nD => lc_tup (xs := xr) (fun i H1 => Same (upd H p (.tup xr)) H1 ∧ H1 D = some (.lst (((ds.take i).map ptx).map V.str))) ?_ ?_ ?_ ?_⟩
        · exact ⟨same_upd nD, by rw [upd_same]; rfl⟩
        · rintro i H1 hi ⟨sm, e1⟩
          exact SqT.of (sm _ _ upd_same)
        · rintro i x H1 hx ⟨sm, e1⟩
          obtain ⟨d', hd', hD'⟩ := dpAll_get hA hx
          have hDs : Dp K H1 x d' := dp_same (sp.trans sm) d' x hD'
          have md : d' ∈ ds := List.mem_of_getElem? hd'
          refine ⟨rfl, ?_⟩
          dsimp only [tYes]
          rw [if_pos rfl]
          refine ⟨_, rfl, x, d', m, rfl, hDs, gd_le (gp d' md) (by decide), by omega, all1 d' md, part_le md l2, fun H2 s2 => ?_⟩
          refine ⟨_, s2 _ _ e1, ?_, ?_, ?_⟩
          · rw [List.length_map, List.length_map, List.length_take]
            have lds := (gd_tuple hg).1
            rw [List.length_cons] at lds
            exact small1000 (by omega)
          · intro b o' eb
            have bD : b ≠ D := ne_of_none eb nD
            rw [upd_ne bD]
            exact s2 _ _ (sm _ _ eb)
          · rw [upd_same, List.take_add_one, hd']
            simp
        · rintro H1 ⟨sm, e1⟩
          have et : ds.take xr.length = ds := List.take_of_length_le (by omega)
          rw [et] at e1
          have q' := q H1 (sp.trans sm)
          rw [txt_tup] at q'
          have ol := op_len ho
          refine ⟨_, rfl, ?_, _, rfl, a, _, _, _, rfl, rfl, same_seqT (sp.trans sm) hs, at0, .inl ⟨o, rfl, ?_, _, rfl, ?_, _, rfl, ?_, ⟨_, rfl⟩, _, rfl, _, D, ds.map ptx, rfl, rfl, .inl (SqL.of e1), ?_, ?_⟩⟩
          · rw [emp_app, one_len]; decide
          · rw [ol]; decide
          · rw [emp_app, len_app, one_len, ol]; decide
          · rw [emp_app, len_app, len_app, one_len, ol]; decide
          · rw [emp_app, sep_len ho, List.length_map]
            have := sum_ptx all1 l2
            have lds := (gd_tuple hg).1
            rw [List.length_cons] at lds
            omega
          · rw [emp_app]
            exact q'
theorem part_zero {f : Addr} {fd : FuncData} {k : Nat} {ps : List Str} : FnOk P w K mg base CX0 k f fd ps (spPart K 0) := by
  have no : ∀ vs H Q E, ¬ spPart K 0 vs H Q E := fun vs H Q E h => by
    obtain ⟨v, d, m, _, _, _, m1, _⟩ := h
    omega
  exact ⟨fun vs H Q E h => absurd h (no vs H Q E), fun A outer s H args us vs Q E _ _ _ _ h => absurd h (no vs H Q E)⟩
theorem ok_part_text {f : Addr} {fd : FuncData} {k n : Nat} (F : Fun K "part_text" "part_text" s_part_text f fd)
    (C_is_letter : Own P w K mg base 1 "is_letter" ["value"] (spIsLetter K)) (hk : 1 ≤ k)
    (C_term_text : Own P w K mg base k "term_text" ["term"] (spText K n)) :
    FnOk P w K mg base CX0 (k + 1) f fd ["part"] (spPart K n) := by
  refine F.ok sc_part_text (fun vs H Q E h => ?_) (fun cdv A outer s H vs Q E hr h => ?_)
  · obtain ⟨v, d, m, rfl, _⟩ := h
    rfl
  · obtain ⟨v, d, m, rfl, hd, hg, hm, l1, l2, q⟩ := h
    refine ⟨_, (pss_cons (ps_set (i := 1) sc_part_text.nd rfl (by first | exact .inl rfl | exact .inr rfl) (pe_own C_term_text (hr.mono (by omega)) (by rfl) (pa_cons (pv 0) pa_nil)))
      (pss_one (ps_ret (pe_ifExp (pt_val (pe_own C_is_letter (hr.mono (by omega)) (by rfl) (pa_cons (pv 0) pa_nil))) (pv 1) (pe_joined (.cons pe_str (.cons (pe_fmt (pv 1)) (.cons pe_str .nil)))))))), ?_⟩
    refine ⟨_, rfl, v, d, m, rfl, hd, hg, hm, l1, l2, fun H1 s1 => ?_⟩
    have q' := q H1 s1
    have tl8 := txt_len m d l1
    refine ⟨_, rfl, v, d, rfl, dp_same s1 d v hd, hg, _, rfl, ?_⟩
    unfold ptx at q'
    by_cases c : isLd d = true
    · rw [if_pos c] at q' ⊢
      exact ⟨_, rfl, q'⟩
    · rw [if_neg c] at q' ⊢
      have e1 : ("(" : Str).length = 1 := by decide +kernel
      have pl := par_len (txt d)
      have fit : ∀ n : Nat, n ≤ 8002 → n ≤ sizeLine := fun n h => Nat.le_trans h (by decide)
      refine ⟨_, rfl, ?_, _, rfl, .inl ⟨_, rfl, fit _ (by omega), _, rfl, ?_, _, rfl, ?_, ?_⟩⟩
      · rw [emp_app, e1]; decide
      · rw [emp_app, len_app, e1]; exact fit _ (by omega)
      · rw [emp_app, pl]; exact fit _ (by omega)
      · rw [emp_app]; exact q'
theorem isLd_str {m : Nat} {x : Str} (h : 1 ≤ lmeas m (.str x)) : isL x = true := by
  cases m with
  | zero => simp only [lmeas] at h; omega
  | succ m =>
    rcases lmeas_inv h with ⟨y, e, hy⟩ | ⟨o, ds, e, _⟩
    · cases e; exact hy
    · cases e
theorem ok_law_text {f : Addr} {fd : FuncData} {k n : Nat} (F : Fun K "_law_text" "_law_text" s_law_text f fd) (m_isinstance : mg "isinstance" = none) (m_str : mg "str" = none)
    (C_law_text : Own P w K mg base k "_law_text" ["_law_word"] (spText K n)) :
    FnOk P w K mg base CX0 (k + 1) f fd ["_law_word"] (spText K (n + 1)) := by
  refine F.ok sc_law_text (fun vs H Q E h => ?_) (fun cdv A outer s H vs Q E hr h => ?_)
  · obtain ⟨v, d, m, rfl, _⟩ := h
    rfl
  · obtain ⟨v, d, m, rfl, hd, hg, hm, l1, l2, q⟩ := h
    refine ⟨_, (pss_cons (ps_if (pt_val (pe_isD (T := "str") (by rfl) m_isinstance (by rfl) m_str (pv 0)))
        (pss_one (ps_ret (pv 0)))
        pss_nil)
      (pss_cons (ps_setLc (i := 1) (own := [("_law_one", 2)]) (g := gName 2) (by rfl) sc_law_text.nd rfl rfl (sw_true rfl rfl rfl (by decide +kernel)) (pi_tup (pe_slice sl_tup (pv 0) (po_some pe_int) po_none)) (blkOk_by (own := [("_law_one", 2)]) (N := N_law_text) (sc := defScope s_law_text) (by decide +kernel)) (fun _ _ _ _ _ => pg_name (i := 2) sc_law_text.nd rfl (Or.inl rfl)) (fun _ _ _ _ _ => pts_nil) (fun _ _ _ _ _ => (pe_ifExp (pt_val (pe_isDc (K := K) (T := "str") rfl (by rfl) m_isinstance (by rfl) m_str (pv 2))) (pv 2) (pe_op op_add_str (pe_op op_add_str pe_str (pe_own C_law_text (hr.mono (by omega)) (by rfl) (pa_cons (pv 2) pa_nil))) pe_str))))
      (pss_one (ps_ret (pe_join (pe_op op_add_str (pe_op op_add_str pe_str (pe_ix ix_tup (pv 0) pe_int (fun _ _ => rfl))) pe_str) (pv 1)))))), ?_⟩
    cases m with
    | zero => simp only [lmeas] at l1; omega
    | succ m =>
    have fit : ∀ n : Nat, n ≤ 8010 → n ≤ sizeLine := fun n h => Nat.le_trans h (by decide)
    have e1 : ("(" : Str).length = 1 := by decide +kernel
    have e2 : (")" : Str).length = 1 := by decide +kernel
    rcases lmeas_inv l1 with ⟨x, rfl, hx⟩ | ⟨o, ds, rfl, nl, ho, h2, all1, e⟩
    · cases hd
      have q' := q H (Same.refl H)
      rw [txt_str] at q'
      exact ⟨_, rfl, _, _, _, rfl, by decide, .str x, _, rfl, iteT ⟨_, rfl, q'⟩⟩
    · rw [e] at l2
      cases hd with
      | @tup a xs _ hs ha =>
        cases ha with
        | @cons x0 xr _ _ h1 hA =>
        cases h1
        have hl := dpAll_len hA
        refine ⟨_, rfl, _, _, .tuple (.str o :: ds), rfl, by decide, .tup hs (.cons (.str o) hA), _, rfl, iteF ?_⟩
        refine ⟨_, rfl, 1, rfl, a, _, rfl, hs, ?_, fun p np => ?_⟩
        · rw [show HT.sIx (V.str o :: xr).length 0 (some 1) = min 1 (V.str o :: xr).length from HT.sIx_nat _ 0 1, List.length_cons]
          omega
        have ex : cutV (V.str o :: xr) (some 1) none = xr := by rw [cut_drop1]; rfl
        rw [ex]
        have sp := same_upd (o := .tup xr) np
        have gp := (gd_parts hg).2
        refine ⟨p, rfl, ⟨_, SqT.of upd_same⟩, fun D nD => lc_tup (xs := xr) (fun i H1 => Same (upd H p (.tup xr)) H1 ∧ H1 D = some (.lst (((ds.take i).map ptx).map V.str))) ?_ ?_ ?_ ?_⟩
        · exact ⟨same_upd nD, by rw [upd_same]; rfl⟩
        · rintro i H1 hi ⟨sm, e1⟩
          exact SqT.of (sm _ _ upd_same)
        · rintro i x H1 hx ⟨sm, e1'⟩
          obtain ⟨d', hd', hD'⟩ := dpAll_get hA hx
          have hDs : Dp K H1 x d' := dp_same (sp.trans sm) d' x hD'
          have md : d' ∈ ds := List.mem_of_getElem? hd'
          have fin : ∀ H2, Same H1 H2 → ∃ xs, H2 D = some (.lst xs) ∧ xs.length + 1 ≤ sizeLine ∧ (Same (upd H p (.tup xr)) (upd H2 D (.lst (xs ++ [V.str (ptx d')]))) ∧ upd H2 D (.lst (xs ++ [V.str (ptx d')])) D = some (.lst (((ds.take (i + 1)).map ptx).map V.str))) := fun H2 s2 => by
            refine ⟨_, s2 _ _ e1', ?_, ?_, ?_⟩
            · rw [List.length_map, List.length_map, List.length_take]
              have lds := (gd_tuple hg).1
              rw [List.length_cons] at lds
              exact small1000 (by omega)
            · intro b o' eb
              have bD : b ≠ D := ne_of_none eb nD
              rw [upd_ne bD]
              exact s2 _ _ (sm _ _ eb)
            · rw [upd_same, List.take_add_one, hd']
              simp
          refine ⟨rfl, ?_⟩
          dsimp only [tYes]
          rw [if_pos rfl]
          by_cases c : isLd d' = true
          · cases d' with
            | str z =>
              cases hDs
              refine ⟨_, rfl, _, _, .str z, rfl, by decide, .str z, _, rfl, iteT ⟨_, rfl, ?_⟩⟩
              have ez : ptx (.str z) = z := by unfold ptx; rw [if_pos c, txt_str]
              have f2 := fin H1 (Same.refl H1)
              rw [ez] at f2
              exact f2
            | _ => cases c
          · have nb : isB (tyN d') "str" = false := by
              cases m with
              | zero => have := all1 d' md; simp only [lmeas] at this; omega
              | succ m =>
                rcases lmeas_inv (all1 d' md) with ⟨y, rfl, hy⟩ | ⟨o', ds', rfl, _⟩
                · exact absurd hy c
                · rfl
            refine ⟨_, rfl, _, _, d', rfl, by decide, hDs, _, rfl, ?_⟩
            rw [nb]
            have t8 := txt_len m d' (all1 d' md)
            have t9 := part_le md l2
            refine iteF ⟨_, rfl, x, d', m, rfl, hDs, gd_le (gp d' md) (by decide), by omega, all1 d' md, t9, fun H2 s2 => ⟨_, _, rfl, rfl, fit _ (by omega), _, _, rfl, rfl, fit _ (by rw [len_app]; omega), ?_⟩⟩
            have ez : ptx d' = "(" ++ txt d' ++ ")" := by unfold ptx; rw [if_neg c]
            have f2 := fin H2 s2
            rw [ez] at f2
            exact f2
        · rintro H1 ⟨sm, e1'⟩
          have et : ds.take xr.length = ds := List.take_of_length_le (by omega)
          rw [et] at e1'
          have q' := q H1 (sp.trans sm)
          rw [txt_tup] at q'
          have ol := op_len ho
          refine ⟨_, rfl, a, _, _, _, rfl, rfl, same_seqT (sp.trans sm) hs, at0, _, _, rfl, rfl, ?_, _, _, rfl, rfl, ?_, ⟨_, rfl⟩, _, rfl, _, D, ds.map ptx, rfl, rfl, .inl (SqL.of e1'), ?_, q'⟩
          · rw [one_len, ol]; decide
          · rw [len_app, one_len, ol]; decide
          · rw [sep_len ho, List.length_map]
            have := sum_ptx all1 l2
            have lds := (gd_tuple hg).1
            rw [List.length_cons] at lds
            omega
end
end Fv


namespace Fv
open PySem PySem.Spec PyProof.Rows L2 FvX TL
/-! ### reading, as the program reads: a mirror over code points -/
/-- k signs from at on -/
def sub (T : List Nat) (at' k : Nat) : Str := ⟨((T.drop at').take k).toArray⟩
theorem tl_sub (T : List Nat) (a k : Nat) : tl (sub T a k) = (T.drop a).take k := rfl
theorem cut_sub (z : Str) (a k : Nat) : cutS z (some (a : Int)) (some ((a : Int) + (k : Nat))) = sub (tl z) a k := by
  refine ext_tl ?_
  have e : ((a : Int) + (k : Nat)) = ((a + k : Nat) : Int) := by omega
  rw [tl_sub, e]
  show ((z.cps.toList.drop (HT.sIx z.length 0 (some (a : Int)))).take (HT.sIx z.length z.length (some ((a + k : Nat) : Int)) - HT.sIx z.length 0 (some (a : Int)))) = _
  rw [HT.sIx_nat, HT.sIx_nat]
  have hl : z.length = (tl z).length := len_tl z
  have hl2 : z.length = z.cps.toList.length := len_tl z
  by_cases h : a ≤ z.length
  · rw [Nat.min_eq_left h]
    by_cases h2 : a + k ≤ z.length
    · rw [Nat.min_eq_left h2, Nat.add_sub_cancel_left]
    · rw [Nat.min_eq_right (by omega), List.take_of_length_le (by rw [List.length_drop]; omega), List.take_of_length_le (by rw [List.length_drop]; omega)]
  · rw [Nat.min_eq_right (by omega : z.length ≤ a), List.drop_of_length_le (by omega), List.drop_of_length_le (by omega), List.take_nil, List.take_nil]
theorem sub_len (T : List Nat) (a k : Nat) : (sub T a k).length ≤ k := by
  rw [len_tl, tl_sub, List.length_take]; omega
theorem sub_in {T : List Nat} {a k n : Nat} (h : (sub T a k).length = n) (hn : 0 < n) : a + n ≤ T.length := by
  rw [len_tl, tl_sub, List.length_take, List.length_drop] at h
  omega
def rdL (P : Nat → Option (PyData × Nat)) (T : List Nat) (sg : Str) : Nat → Nat → List PyData → Option (List PyData × Nat)
  | 0, _, _ => none
  | f + 1, a, acc => if sub T a 3 = sg then (match P (a + 3) with
    | none => none
    | some (d, e) => rdL P T sg f e (acc ++ [d])) else some (acc, a)
def sgn (s : Str) : Str := if s = " & " then "&" else "|"
def isSg (s : Str) : Prop := s = " & " ∨ s = " | "
instance (s : Str) : Decidable (isSg s) := inferInstanceAs (Decidable (_ ∨ _))
def rdT (P : Nat → Option (PyData × Nat)) (T : List Nat) (a : Nat) : Option (PyData × Nat) := match P a with
  | none => none
  | some (d, e) => if isSg (sub T e 3) then (match rdL P T (sub T e 3) (T.length + 1 - e) e [d] with
      | none => none
      | some (ds, e') => some (.tuple (.str (sgn (sub T e 3)) :: ds), e')) else if isLd d = true then some (d, e) else none
def rdP (T : List Nat) : Nat → Nat → Option (PyData × Nat)
  | 0 => fun a => if isL (sub T a 1) = true then some (.str (sub T a 1), a + 1) else none
  | n + 1 => fun a => if isL (sub T a 1) = true then some (.str (sub T a 1), a + 1) else if sub T a 1 = "(" then (match rdT (rdP T n) T (a + 1) with
      | none => none
      | some (d, e) => if isLd d = true ∨ sub T e 1 ≠ ")" then none else some (d, e + 1)) else none
theorem isL_one {x : Str} (h : isL x = true) : x ∈ (["a", "b", "c", "d", "e", "f", "g", "h"] : List Str) := by
  have hl := isL_len h
  rw [len_tl] at hl
  obtain ⟨c, ec⟩ : ∃ c, tl x = [c] := by
    match tl x, hl with
    | [c], _ => exact ⟨c, rfl⟩
  have ex : x = ⟨#[c]⟩ := ext_tl (by rw [ec])
  subst ex
  unfold isL at h
  rw [Bool.and_eq_true] at h
  have h2 := h.2
  rw [PySem.StrLaws.found_one, decide_eq_true_eq] at h2
  have e : ("abcdefgh" : Str).cps.toList = [97, 98, 99, 100, 101, 102, 103, 104] := by decide +kernel
  rw [e] at h2
  have all : ∀ c ∈ ([97, 98, 99, 100, 101, 102, 103, 104] : List Nat), (⟨#[c]⟩ : Str) ∈ (["a", "b", "c", "d", "e", "f", "g", "h"] : List Str) := by decide +kernel
  exact all c h2
theorem isL_gd {x : Str} (h : isL x = true) (n : Nat) : gd n (.str x) = true := gd_le (isL_lett (isL_one h)).2 (Nat.zero_le _)
theorem sg_len {s : Str} (h : isSg s) : s.length = 3 := by rcases h with h | h <;> rw [h] <;> decide +kernel
/-- what a reading of parts promises -/
def PFine (T : List Nat) (n : Nat) (P : Nat → Option (PyData × Nat)) : Prop := ∀ a d e, P a = some (d, e) → a < e ∧ e ≤ T.length ∧ gd n d = true
theorem rdL_fine {T : List Nat} {n : Nat} {P : Nat → Option (PyData × Nat)} (hP : PFine T n P) {sg : Str} (hs : sg.length = 3) : ∀ (f a : Nat) (acc ds : List PyData) (e : Nat), rdL P T sg f a acc = some (ds, e) →
    (∀ d ∈ acc, gd n d = true) → 4 * acc.length ≤ a + 3 → a ≤ T.length → (∀ d ∈ ds, gd n d = true) ∧ 4 * ds.length ≤ e + 3 ∧ a ≤ e ∧ e ≤ T.length
  | 0, a, acc, ds, e, h, _, _, _ => by cases h
  | f + 1, a, acc, ds, e, h, hg, hl, ha => by
    unfold rdL at h
    by_cases c : sub T a 3 = sg
    · rw [if_pos c] at h
      cases hp : P (a + 3) with
      | none => rw [hp] at h; cases h
      | some r =>
        obtain ⟨d, e1⟩ := r
        rw [hp] at h
        obtain ⟨h1, h2, h3⟩ := hP _ _ _ hp
        have z := rdL_fine hP hs f e1 (acc ++ [d]) ds e h (fun x hx => by
          rcases List.mem_append.mp hx with q | q
          · exact hg x q
          · rw [List.mem_singleton.mp q]; exact h3) (by rw [List.length_append, List.length_singleton]; omega) h2
        exact ⟨z.1, z.2.1, by omega, z.2.2.2⟩
    · rw [if_neg c] at h
      cases h
      exact ⟨hg, hl, Nat.le_refl _, ha⟩
theorem rdT_fine {T : List Nat} {n : Nat} {P : Nat → Option (PyData × Nat)} (hT : T.length ≤ 2900) (hP : PFine T n P) : PFine T (n + 1) (rdT P T) := by
  intro a d e h
  unfold rdT at h
  cases hp : P a with
  | none => rw [hp] at h; cases h
  | some r =>
    obtain ⟨d1, e1⟩ := r
    rw [hp] at h
    obtain ⟨h1, h2, h3⟩ := hP _ _ _ hp
    dsimp only at h
    by_cases c : isSg (sub T e1 3)
    · rw [if_pos c] at h
      cases hr : rdL P T (sub T e1 3) (T.length + 1 - e1) e1 [d1] with
      | none => rw [hr] at h; cases h
      | some r =>
        obtain ⟨ds, e2⟩ := r
        rw [hr] at h
        cases h
        obtain ⟨z1, z2, z3, z4⟩ := rdL_fine hP (sg_len c) _ _ _ _ _ hr (fun x hx => by rw [List.mem_singleton.mp hx]; exact h3) (by rw [List.length_singleton]; omega) h2
        refine ⟨by omega, z4, gd_tup (fun x hx => ?_) (by rw [List.length_cons]; omega)⟩
        rcases List.mem_cons.mp hx with q | q
        · rw [q]
          refine gd_le (n := 0) ?_ (Nat.zero_le _)
          unfold sgn
          split <;> decide +kernel
        · exact z1 x q
    · rw [if_neg c] at h
      by_cases c2 : isLd d1 = true
      · rw [if_pos c2] at h
        cases h
        exact ⟨h1, h2, gd_up _ _ h3⟩
      · rw [if_neg c2] at h; cases h
theorem rdP_fine {T : List Nat} (hT : T.length ≤ 2900) : ∀ n : Nat, PFine T n (rdP T n)
  | 0 => fun a d e h => by
    unfold rdP at h
    by_cases c : isL (sub T a 1) = true
    · rw [if_pos c] at h
      cases h
      exact ⟨by omega, sub_in (isL_len c) (by decide), isL_gd c _⟩
    · rw [if_neg c] at h; cases h
  | n + 1 => fun a d e h => by
    unfold rdP at h
    by_cases c : isL (sub T a 1) = true
    · rw [if_pos c] at h
      cases h
      exact ⟨by omega, sub_in (isL_len c) (by decide), isL_gd c _⟩
    · rw [if_neg c] at h
      by_cases c2 : sub T a 1 = "("
      · rw [if_pos c2] at h
        cases hr : rdT (rdP T n) T (a + 1) with
        | none => rw [hr] at h; cases h
        | some r =>
          obtain ⟨d1, e1⟩ := r
          rw [hr] at h
          dsimp only at h
          obtain ⟨h1, h2, h3⟩ := rdT_fine hT (rdP_fine hT n) _ _ _ hr
          by_cases c3 : isLd d1 = true ∨ sub T e1 1 ≠ ")"
          · rw [if_pos c3] at h; cases h
          · rw [if_neg c3] at h
            cases h
            have c4 : sub T e1 1 = ")" := Classical.not_not.mp fun z => c3 (.inr z)
            exact ⟨by omega, sub_in (by rw [c4]; decide +kernel) (by decide), h3⟩
      · rw [if_neg c2] at h; cases h
theorem sub_ok {x : Str} (h : PyData.strOk x = true) (a k : Nat) : PyData.strOk (sub (tl x) a k) = true := by
  unfold PyData.strOk at h ⊢
  rw [← Array.all_toList, List.all_eq_true] at h ⊢
  intro c hc
  exact h c (List.mem_of_mem_drop (List.mem_of_mem_take hc))
theorem sub_gd {x : Str} (h : PyData.strOk x = true) (a k : Nat) (hk : k ≤ 3) (n : Nat) : gd n (.str (sub (tl x) a k)) = true := by
  refine gd_le (n := 0) ?_ (Nat.zero_le _)
  have := sub_len (tl x) a k
  show (PyData.strOk (sub (tl x) a k) && decide ((sub (tl x) a k).length ≤ 100000)) = true
  rw [sub_ok h, decide_eq_true (by omega)]
  rfl
theorem cut1 (z : Str) (a : Nat) : cutS z (some (a : Int)) (some ((a : Int) + 1)) = sub (tl z) a 1 := cut_sub z a 1
theorem cut3 (z : Str) (a : Nat) : cutS z (some (a : Int)) (some ((a : Int) + 3)) = sub (tl z) a 3 := cut_sub z a 3
theorem sub_one {T : List Nat} {a : Nat} (h : (sub T a 1).length = 1) : ∃ c, T[a]? = some c ∧ sub T a 1 = ⟨#[c]⟩ := by
  have hl := sub_in h (by decide)
  refine ⟨T[a], List.getElem?_eq_getElem (by omega), ext_tl ?_⟩
  rw [tl_sub, List.drop_eq_getElem_cons (by omega)]
  rfl
def outR (K : PySem.W.Frag) (CT : Addr) (M : List Addr) (r : Option (PyData × Nat)) (H : Hp) (Q : VK) (E : XK) : Prop :=
  (∀ d e, r = some (d, e) → ∀ (H' : Hp) (p : Addr) (v : V), Same H H' → H' p = some (.tup [v, .int (e : Nat)]) → Dp K (hide M H') v d → Q (.ref p) H') ∧ (r = none → errAt CT "InvalidText" H E)
def spRdP (K : PySem.W.Frag) (CT : Addr) (n : Nat) : Sp := fun vs H Q E => ∃ (x : Str) (a m : Nat) (M : List Addr), vs = [.str x, .int (a : Nat), .int (m : Nat)] ∧ x.length ≤ 2900 ∧ PyData.strOk x = true ∧ m < n ∧ Trk M H ∧ outR K CT M (rdP (tl x) m a) H Q E
def spRdT (K : PySem.W.Frag) (CT : Addr) (n : Nat) : Sp := fun vs H Q E => ∃ (x : Str) (a m : Nat) (M : List Addr), vs = [.str x, .int (a : Nat), .int (m : Nat)] ∧ x.length ≤ 2900 ∧ PyData.strOk x = true ∧ m < n ∧ Trk M H ∧ outR K CT M (rdT (rdP (tl x) m) (tl x) a) H Q E
theorem vs3 {x : Str} {i j : Int} {a m : Nat} (h : i = (a : Nat)) (g : j = (m : Nat)) : [V.str x, V.int i, V.int j] = [.str x, .int (a : Nat), .int (m : Nat)] := by rw [h, g]
end Fv


namespace Fv
open PySem PySem.Spec PyProof.Rows L2 FvX TL

section
variable {P : Program} {w : World} {K : PySem.W.Frag} {mg : Str → Option Value} {base : Heap} {CT fI oS : Addr} {qual msg : Str} {q : ErrPos} {j1 j2 : Nat}
theorem fit900 {x : Str} (h : x.length ≤ 2900) : x.length ≤ sizeLine := Nat.le_trans h (by decide)
theorem rdT_zero {f : Addr} {fd : FuncData} {k : Nat} {ps : List Str} : FnOk P w K mg base (L2.CX P w) k f fd ps (spRdT K CT 0) := by
  have no : ∀ vs H Q E, ¬ spRdT K CT 0 vs H Q E := fun vs H Q E h => by
    obtain ⟨x, a, m, M, _, _, _, h, _⟩ := h
    omega
  exact ⟨fun vs H Q E h => absurd h (no vs H Q E), fun A outer s H args us vs Q E _ _ _ _ h => absurd h (no vs H Q E)⟩
end
end Fv


namespace Fv
open PySem PySem.Spec PyProof.Rows L2 FvX TL

def WR (K : PySem.W.Frag) (x : Str) (m : Nat) (v : V) (sg : Str) (L : Addr) (M : List Addr) (H : Hp) (R : Option (List PyData × Nat)) : Nat → L2.St → Hp → Prop := fun f σ H1 => ∃ (a : Nat) (acc : List PyData) (vs : List V) (y6 : Option V),
  σ = [some (.str x), some (.int (a : Nat)), some (.int (m : Nat)), some v, some (.str sg), some (.ref L), y6] ∧ H1 L = some (.lst vs) ∧ DpAll K (hide (L :: M) H1) vs acc ∧ 4 * acc.length ≤ a + 3 ∧ a ≤ x.length ∧ x.length + 1 - a ≤ f ∧
  rdL (rdP (tl x) m) (tl x) sg f a acc = R ∧ Same H H1
theorem in_sg (s : Str) : (!([PyData.str " & ", .str " | "] : List PyData).any fun z => PyData.eqv z (.str s)) = !decide (isSg s) := by
  congr 1
  simp only [List.any_cons, List.any_nil, Bool.or_false, PyData.eqv]
  rw [Bool.eq_iff_iff, decide_eq_true_eq, Bool.or_eq_true, beq_iff_eq, beq_iff_eq]
  exact ⟨fun h => h.imp Eq.symm Eq.symm, fun h => h.imp Eq.symm Eq.symm⟩
theorem sg_at {s : Str} (h : isSg s) : ∃ c, (tl s)[1]? = some c ∧ (⟨#[c]⟩ : Str) = sgn s := by
  rcases h with h | h <;> subst h
  · exact ⟨38, by decide +kernel, by decide +kernel⟩
  · exact ⟨124, by decide +kernel, by decide +kernel⟩
section
variable {P : Program} {w : World} {K : PySem.W.Frag} {mg : Str → Option Value} {base : Heap} {CT fI oS : Addr} {qual msg : Str} {q : ErrPos} {j1 j2 : Nat}
end
end Fv


namespace Fv
open PySem PySem.Spec PyProof.Rows L2 FvX TL

-- top 17  slots: 0:value 1:found
abbrev s_measured_long : Stmt := topS 17
abbrev N_measured_long : List Str := ["value", "found"]
theorem sc_measured_long : FnScope N_measured_long ["value"] (defScope s_measured_long) := ⟨rfl, rfl, rfl, by decide +kernel, rfl, by decide +kernel, by decide +kernel⟩


/-- what parse_term makes of a text -/
def prs (x : Str) : Option PyData := match rdT (rdP (tl x) 5) (tl x) 0 with
  | none => none
  | some (d, e) => if e < x.length ∨ tmB d = false then none else some d
def spParse (K : PySem.W.Frag) (CT : Addr) : Sp := fun vs H Q E => ∃ (x : Str) (M : List Addr), vs = [.str x] ∧ x.length ≤ 2900 ∧ PyData.strOk x = true ∧ Trk M H ∧
  (∀ d, prs x = some d → ∀ (H' : Hp) (v : V), Same H H' → Dp K (hide M H') v d → Q v H') ∧ (prs x = none → errAt CT "InvalidText" H E)
def spLong (K : PySem.W.Frag) (CT : Addr) : Sp := fun vs H Q E => ∃ (v : V) (d : PyData), vs = [v] ∧ Dp K H v d ∧ gd 20 d = true ∧
  (∀ dp sz, meas 9 d 600 = some (dp, sz) → ∀ (H' : Hp) (p : Addr), Same H H' → H' p = some (.tup [.int dp, .int sz]) → Q (.ref p) H') ∧ (meas 9 d 600 = none → errAt CT "InvalidTerm" H E)
def spFormat (K : PySem.W.Frag) (CT : Addr) : Sp := fun vs H Q E => ∃ (v : V) (d : PyData), vs = [v] ∧ Dp K H v d ∧ gd 20 d = true ∧
  ((meas 9 d 600).isSome = true → ∀ H', Same H H' → Q (.str (txt d)) H') ∧ (meas 9 d 600 = none → errAt CT "InvalidTerm" H E)
section
variable {P : Program} {w : World} {K : PySem.W.Frag} {mg : Str → Option Value} {base : Heap} {CT fI oS : Addr} {qual msg : Str} {q : ErrPos} {j1 j2 : Nat}
theorem ok_measured_long {f : Addr} {fd : FuncData} {k : Nat} (F : Fun K "measured_long" "measured_long" s_measured_long f fd) {t9 t6 : Tok} (g_LONG_DEPTH : mg "LONG_DEPTH" = some (.int 9 t9)) (g_LONG_SIZE : mg "LONG_SIZE" = some (.int 600 t6)) (hk : 1 ≤ k) (T_IT : ErrC P.main.file K CT fI qual q msg "InvalidTerm" j1 j2) (hline : LineOk q msg j1) (htop : (P.main.scope.names.lookup ("super" : Str)).isSome = false) (m_super : mg "super" = none) (g_IT : mg "InvalidTerm" = some (.ref CT))
    (C_measured : Own P w K mg base k "measured" ["value", "max_depth", "max_size"] (spMeas K 20)) :
    FnOk P w K mg base (L2.CX P w) (k + 1) f fd ["value"] (spLong K CT) := by
  refine F.okX sc_measured_long (fun vs H Q E h => ?_) (fun cdv A outer s H vs Q E hr h => ?_)
  · obtain ⟨v, d, rfl, _⟩ := h
    rfl
  · obtain ⟨v, d, rfl, hd, hg, o1, o2⟩ := h
    refine ⟨_, (pss_cons (ps_set (i := 1) sc_measured_long.nd rfl (by first | exact .inl rfl | exact .inr rfl) (pe_own C_measured (hr.mono (by omega)) (by rfl) (pa_cons (pv 0) (pa_cons (pe_glob (v := .int 9) (by rfl) g_LONG_DEPTH (⟨_, rfl⟩)) (pa_cons (pe_glob (v := .int 600) (by rfl) g_LONG_SIZE (⟨_, rfl⟩)) pa_nil)))))
      (pss_cons (ps_if (pt_cmpR op_isN (pv 1) pe_non (nomark _))
        (pss_one (ps_raise rfl (takes_of rfl rfl rfl rfl) (pmk_err0 (k := 0) T_IT hline htop m_super (hr.mono (by omega)) (by rfl) g_IT)))
        pss_nil)
      (pss_one (ps_ret (pv 1))))), ?_⟩
    refine ⟨_, rfl, v, d, 9, 600, rfl, hd, hg, by decide, by decide, fun e H' s' => ?_, fun dp sz e H' p s' hp => ?_⟩
    · refine ⟨_, rfl, rfl, _, rfl, iteT fun dd nd => ?_⟩
      exact o2 e _ dd (s'.trans (same_upd nd)) upd_same
    · exact ⟨_, rfl, rfl, _, rfl, iteF ⟨_, rfl, o1 dp sz e H' p s' hp⟩⟩
end
end Fv


namespace Fv
open PySem PySem.Spec PyProof.Rows L2 FvX TL
/-! ### reading the text of a term gives the term -/
theorem drop_add {T u v : List Nat} {a : Nat} (h : T.drop a = u ++ v) : T.drop (a + u.length) = v := by
  rw [← List.drop_drop, h, List.drop_left]
theorem sub_eq {T u v : List Nat} {a : Nat} {s : Str} (h : T.drop a = u ++ v) (hs : tl s = u) : sub T a u.length = s := by
  refine ext_tl ?_
  rw [tl_sub, h, List.take_left, hs]
theorem sub_eq1 {T v : List Nat} {a c : Nat} (h : T.drop a = c :: v) : sub T a 1 = ⟨#[c]⟩ := by
  refine ext_tl ?_
  rw [tl_sub, h]
  rfl
theorem joinL_flat (S p : List Nat) : ∀ ps : List (List Nat), joinL S (p :: ps) = p ++ ps.flatMap (fun x => S ++ x)
  | [] => by simp [joinL]
  | q :: ps => by
    have e : joinL S (p :: q :: ps) = p ++ (S ++ joinL S (q :: ps)) := rfl
    rw [e, joinL_flat S q ps, List.flatMap_cons, List.append_assoc]
theorem isL_nopar {x : Str} (h : isL x = true) : x ≠ "(" := fun e => by
  rw [e] at h
  have : isL "(" = false := by decide +kernel
  rw [this] at h
  cases h
theorem tl_par (x : Str) : tl (("(" : Str) ++ x ++ ")") = 40 :: (tl x ++ [41]) := by
  rw [tl_append, tl_append]
  rfl
theorem rdL_txt {T : List Nat} {P : Nat → Option (PyData × Nat)} {sg : Str} (hs : sg.length = 3) : ∀ (ds : List PyData) (f a : Nat) (acc : List PyData) (rest : List Nat),
    (∀ d ∈ ds, ∀ b r, T.drop b = tl (ptx d) ++ r → P b = some (d, b + (ptx d).length)) → T.drop a = ((ds.map ptx).map tl).flatMap (fun x => tl sg ++ x) ++ rest → rest.take 3 ≠ tl sg → ds.length < f →
    rdL P T sg f a acc = some (acc ++ ds, a + (((ds.map ptx).map tl).flatMap (fun x => tl sg ++ x)).length)
  | [], f, a, acc, rest, _, h, hr, hf => by
    obtain ⟨f, rfl⟩ : ∃ g, f = g + 1 := ⟨f - 1, by simp at hf; omega⟩
    have h' : T.drop a = rest := h
    have e : sub T a 3 ≠ sg := fun z => hr (by rw [← h', ← z]; rfl)
    unfold rdL
    rw [if_neg e]
    simp
  | d :: ds, f, a, acc, rest, hP, h, hr, hf => by
    rw [List.length_cons] at hf
    obtain ⟨f, rfl⟩ : ∃ g, f = g + 1 := ⟨f - 1, by omega⟩
    rw [List.map_cons, List.map_cons, List.flatMap_cons] at h ⊢
    have l3 : (tl sg).length = 3 := by rw [← len_tl]; exact hs
    have h1 : T.drop a = tl sg ++ (tl (ptx d) ++ (((ds.map ptx).map tl).flatMap (fun x => tl sg ++ x) ++ rest)) := by
      rw [h]; simp only [List.append_assoc]
    have e : sub T a 3 = sg := by
      have := sub_eq (s := sg) h1 rfl
      rw [l3] at this
      exact this
    have h2 := drop_add h1
    rw [l3] at h2
    have h3 := drop_add h2
    have hp := hP d (List.mem_cons_self ..) _ _ h2
    unfold rdL
    rw [if_pos e, hp]
    dsimp only
    have l4 : (ptx d).length = (tl (ptx d)).length := len_tl _
    rw [l4]
    rw [rdL_txt hs ds f _ (acc ++ [d]) rest (fun x hx => hP x (List.mem_cons_of_mem _ hx)) h3 hr (by omega)]
    rw [List.append_assoc, List.length_append, List.length_append, l3]
    simp only [List.singleton_append, Option.some.injEq, Prod.mk.injEq, true_and]
    omega
theorem sg_of {o : Str} (ho : o = "&" ∨ o = "|") : isSg (" " ++ o ++ " ") ∧ sgn (" " ++ o ++ " ") = o ∧ ∀ rest : List Nat, rest = [] ∨ rest.head? = some 41 → rest.take 3 ≠ tl (" " ++ o ++ " ") := by
  have key : ∀ c : Nat, ∀ rest : List Nat, rest = [] ∨ rest.head? = some 41 → rest.take 3 ≠ [32, c, 32] := fun c rest h e => by
    rcases h with h | h
    · rw [h] at e; cases e
    · cases rest with
      | nil => cases h
      | cons r rs =>
        cases h
        rw [List.take_succ_cons] at e
        cases e
  rcases ho with ho | ho <;> subst ho
  · refine ⟨.inl (by decide +kernel), by decide +kernel, ?_⟩
    have e : tl (" " ++ "&" ++ " ") = [32, 38, 32] := by decide +kernel
    rw [e]; exact key 38
  · refine ⟨.inr (by decide +kernel), by decide +kernel, ?_⟩
    have e : tl (" " ++ "|" ++ " ") = [32, 124, 32] := by decide +kernel
    rw [e]; exact key 124
theorem flat_len {S : List Nat} (hS : 1 ≤ S.length) : ∀ l : List (List Nat), l.length ≤ (l.flatMap fun x => S ++ x).length
  | [] => Nat.zero_le _
  | x :: l => by
    have := flat_len hS l
    rw [List.flatMap_cons, List.length_append, List.length_append, List.length_cons]
    omega
theorem rdT_txt {T : List Nat} {n : Nat} {P : Nat → Option (PyData × Nat)} {o : Str} {ds : List PyData} (ho : o = "&" ∨ o = "|") (h2 : 2 ≤ ds.length)
    (hP : ∀ d ∈ ds, ∀ b r, T.drop b = tl (ptx d) ++ r → P b = some (d, b + (ptx d).length)) {a : Nat} {rest : List Nat} (h : T.drop a = tl (txt (.tuple (.str o :: ds))) ++ rest) (hr : rest = [] ∨ rest.head? = some 41) :
    rdT P T a = some (.tuple (.str o :: ds), a + (txt (.tuple (.str o :: ds))).length) := by
  obtain ⟨s1, s2, s3⟩ := sg_of ho
  have l3 : (tl (" " ++ o ++ " ")).length = 3 := by rw [← len_tl]; exact sep_len ho
  cases ds with
  | nil => simp at h2
  | cons d ds =>
    rw [List.length_cons] at h2
    rw [txt_tup, join_eq, tl_join, List.map_cons, List.map_cons, joinL_flat] at h
    rw [txt_tup, join_eq, len_tl (Str.join _ _), tl_join, List.map_cons, List.map_cons, joinL_flat]
    have h1 : T.drop a = tl (ptx d) ++ (((ds.map ptx).map tl).flatMap (fun x => tl (" " ++ o ++ " ") ++ x) ++ rest) := by rw [h, List.append_assoc]
    have hp := hP d (List.mem_cons_self ..) _ _ h1
    have hd := drop_add h1
    have l4 : (ptx d).length = (tl (ptx d)).length := len_tl _
    unfold rdT
    rw [hp]
    dsimp only
    rw [l4]
    have e : sub T (a + (tl (ptx d)).length) 3 = " " ++ o ++ " " := by
      cases ds with
      | nil => simp at h2
      | cons d2 ds2 =>
        rw [List.map_cons, List.map_cons, List.flatMap_cons] at hd
        have hd' : T.drop (a + (tl (ptx d)).length) = tl (" " ++ o ++ " ") ++ (tl (ptx d2) ++ (((ds2.map ptx).map tl).flatMap (fun x => tl (" " ++ o ++ " ") ++ x) ++ rest)) := by
          rw [hd]; simp only [List.append_assoc]
        have := sub_eq (s := " " ++ o ++ " ") hd' rfl
        rw [l3] at this
        exact this
    rw [e, if_pos s1]
    have fu : ds.length < T.length + 1 - (a + (tl (ptx d)).length) := by
      have hl := congrArg List.length hd
      rw [List.length_drop, List.length_append] at hl
      have := flat_len (S := tl (" " ++ o ++ " ")) (by omega) ((ds.map ptx).map tl)
      rw [List.length_map, List.length_map] at this
      omega
    rw [rdL_txt (sep_len ho) ds _ _ [d] rest (fun x hx => hP x (List.mem_cons_of_mem _ hx)) hd (s3 rest hr) fu]
    dsimp only
    rw [s2, List.length_append]
    simp only [List.singleton_append, Option.some.injEq, Prod.mk.injEq, true_and]
    omega
theorem rdP_txt : ∀ (n : Nat) (d : PyData), 1 ≤ lmeas (n + 1) d → ∀ (T : List Nat) (a : Nat) (rest : List Nat), T.drop a = tl (ptx d) ++ rest → rdP T n a = some (d, a + (ptx d).length)
  | n, d, h, T, a, rest, hd => by
    rcases lmeas_inv h with ⟨x, rfl, hx⟩ | ⟨o, ds, rfl, nl, ho, h2, all1, e⟩
    · have ep : ptx (.str x) = x := by unfold ptx; rw [if_pos (show isLd (.str x) = true from hx), txt_str]
      rw [ep] at hd ⊢
      have es := sub_eq (s := x) hd rfl
      rw [← len_tl, isL_len hx] at es
      rw [isL_len hx]
      cases n with
      | zero => unfold rdP; rw [es, if_pos hx]
      | succ n => unfold rdP; rw [es, if_pos hx]
    · have ep : ptx (.tuple (.str o :: ds)) = "(" ++ txt (.tuple (.str o :: ds)) ++ ")" := by unfold ptx; rw [if_neg (by rw [nl]; decide)]
      cases n with
      | zero =>
        cases ds with
        | nil => simp at h2
        | cons d ds =>
          have := all1 d (List.mem_cons_self ..)
          simp only [lmeas] at this
          omega
      | succ n =>
        rw [ep, tl_par] at hd
        rw [ep, par_len]
        have e1 : sub T a 1 = "(" := sub_eq1 hd
        have nL : ¬ isL (sub T a 1) = true := fun z => isL_nopar z e1
        have hd1 : T.drop (a + 1) = tl (txt (.tuple (.str o :: ds))) ++ (41 :: rest) := by
          have z := drop_add (u := [40]) (v := tl (txt (.tuple (.str o :: ds))) ++ [41] ++ rest) hd
          rw [List.append_assoc] at z
          exact z
        have hT := rdT_txt (n := n) (P := rdP T n) ho h2 (fun d hd b r hb => rdP_txt n d (all1 d hd) T b r hb) hd1 (.inr rfl)
        have hd2 := drop_add hd1
        rw [← len_tl] at hd2
        have e2 : sub T (a + 1 + (txt (.tuple (.str o :: ds))).length) 1 = ")" := sub_eq1 hd2
        unfold rdP
        rw [if_neg nL, if_pos e1, hT]
        dsimp only
        rw [if_neg (fun z => z.elim (fun y => by rw [nl] at y; cases y) (fun y => y e2))]
        simp only [Option.some.injEq, Prod.mk.injEq, true_and]
        omega
theorem prs_txt {d : PyData} (h : tmB d = true) : prs (txt d) = some d := by
  obtain ⟨h1, h2⟩ := (tmB_iff d).mp h
  have fin : rdT (rdP (tl (txt d)) 5) (tl (txt d)) 0 = some (d, (txt d).length) → prs (txt d) = some d := fun e => by
    unfold prs
    rw [e]
    dsimp only
    rw [if_neg (fun z => z.elim (fun y => Nat.lt_irrefl _ y) (fun y => by rw [h] at y; cases y))]
  refine fin ?_
  rcases lmeas_inv h1 with ⟨x, rfl, hx⟩ | ⟨o, ds, rfl, nl, ho, h3, all1, e⟩
  · rw [txt_str]
    have ep : ptx (.str x) = x := by unfold ptx; rw [if_pos (show isLd (.str x) = true from hx), txt_str]
    have l6 : 1 ≤ lmeas 6 (.str x) := by rw [lmeas_up 5 _ h1]; exact h1
    have hp := rdP_txt 5 (.str x) l6 (tl x) 0 [] (by rw [ep, List.append_nil]; rfl)
    rw [ep, Nat.zero_add] at hp
    unfold rdT
    rw [hp]
    dsimp only
    have es : sub (tl x) x.length 3 = "" := by
      refine ext_tl ?_
      rw [tl_sub, len_tl, List.drop_length, List.take_nil]
      rfl
    rw [es, if_neg (by decide +kernel), if_pos (show isLd (.str x) = true from hx)]
  · have hp := rdT_txt (n := 5) (T := tl (txt (.tuple (.str o :: ds)))) (P := rdP (tl (txt (.tuple (.str o :: ds)))) 5) ho h3 (fun d hd b r hb => rdP_txt 5 d (by
      have a4 := all1 d hd
      have a5 : lmeas 5 d = lmeas 4 d := lmeas_up 4 d a4
      have a6 : lmeas 6 d = lmeas 5 d := lmeas_up 5 d (by rw [a5]; exact a4)
      show 1 ≤ lmeas 6 d
      rw [a6, a5]
      exact a4) _ b r hb) (a := 0) (rest := []) (by rw [List.append_nil]; rfl) (.inl rfl)
    rw [hp, Nat.zero_add]
theorem app_ok {x y : Str} (hx : PyData.strOk x = true) (hy : PyData.strOk y = true) : PyData.strOk (x ++ y) = true := by
  unfold PyData.strOk at *
  rw [← Array.all_toList, List.all_eq_true] at *
  intro c hc
  have hc' : c ∈ tl (x ++ y) := hc
  rw [tl_append] at hc'
  rcases List.mem_append.mp hc' with z | z
  · exact hx c z
  · exact hy c z
theorem join_ok {s : Str} (hs : PyData.strOk s = true) : ∀ {l : List Str}, (∀ x ∈ l, PyData.strOk x = true) → PyData.strOk (Str.join s l) = true
  | [], _ => by show PyData.strOk Str.empty = true; decide +kernel
  | [x], h => h x (List.mem_cons_self ..)
  | x :: y :: r, h => app_ok (app_ok (h x (List.mem_cons_self ..)) hs) (join_ok hs fun z hz => h z (List.mem_cons_of_mem _ hz))
theorem txt_ok : ∀ (n : Nat) (d : PyData), 1 ≤ lmeas n d → PyData.strOk (txt d) = true
  | 0, d, h => by simp only [lmeas] at h; omega
  | n + 1, d, h => by
    rcases lmeas_inv h with ⟨x, rfl, hx⟩ | ⟨o, ds, rfl, nl, ho, h2, all1, e⟩
    · rw [txt_str]
      have := isL_gd hx 0
      have z : (PyData.strOk x && decide (x.length ≤ 100000)) = true := this
      rw [Bool.and_eq_true] at z
      exact z.1
    · rw [txt_tup, join_eq]
      refine join_ok ?_ fun x hx => ?_
      · rcases ho with ho | ho <;> subst ho <;> decide +kernel
      · obtain ⟨d, hd, rfl⟩ := List.mem_map.mp hx
        have := txt_ok n d (all1 d hd)
        unfold ptx
        split
        · exact this
        · exact app_ok (app_ok (by decide +kernel) this) (by decide +kernel)
end Fv


namespace Fv
open PySem PySem.Spec PyProof.Rows L2 FvX TL
/-! ### what the program reads as a term is the term's text -/
theorem sub_drop {T : List Nat} {a k : Nat} {s : Str} (h : sub T a k = s) (hl : s.length = k) : T.drop a = tl s ++ T.drop (a + k) := by
  have e : (T.drop a).take k = tl s := by rw [← tl_sub, h]
  rw [← e, ← List.drop_drop, List.take_append_drop]
theorem rdL_sound {T : List Nat} {P : Nat → Option (PyData × Nat)} {G : PyData → Prop} {sg : Str} (hs : sg.length = 3) (hP : ∀ b d e, P b = some (d, e) → T.drop b = tl (ptx d) ++ T.drop e ∧ G d) :
    ∀ (f a : Nat) (acc ds : List PyData) (e : Nat), rdL P T sg f a acc = some (ds, e) →
    ∃ r, ds = acc ++ r ∧ T.drop a = ((r.map ptx).map tl).flatMap (fun x => tl sg ++ x) ++ T.drop e ∧ (∀ d ∈ r, G d) ∧ (sub T a 3 = sg → r ≠ [])
  | 0, a, acc, ds, e, h => by cases h
  | f + 1, a, acc, ds, e, h => by
    unfold rdL at h
    by_cases c : sub T a 3 = sg
    · rw [if_pos c] at h
      cases hp : P (a + 3) with
      | none => rw [hp] at h; cases h
      | some r =>
        obtain ⟨d, e1⟩ := r
        rw [hp] at h
        obtain ⟨r, e2, h1, h2, _⟩ := rdL_sound hs hP f e1 (acc ++ [d]) ds e h
        obtain ⟨h3, h4⟩ := hP _ _ _ hp
        refine ⟨d :: r, by rw [e2, List.append_assoc]; rfl, ?_, fun x hx => ?_, fun _ z => by cases z⟩
        · rw [sub_drop c hs, h3, h1, List.map_cons, List.map_cons, List.flatMap_cons]
          simp only [List.append_assoc]
        · rcases List.mem_cons.mp hx with z | z
          · rw [z]; exact h4
          · exact h2 x z
    · rw [if_neg c] at h
      cases h
      exact ⟨[], by rw [List.append_nil], by simp, (fun x hx => nomatch hx), fun z => absurd z c⟩
theorem sgn_sg {s : Str} (h : isSg s) : s = " " ++ sgn s ++ " " ∧ (sgn s = "&" ∨ sgn s = "|") := by
  rcases h with h | h <;> subst h
  · exact ⟨by decide +kernel, .inl (by decide +kernel)⟩
  · exact ⟨by decide +kernel, .inr (by decide +kernel)⟩
theorem lmeas_make {n : Nat} {o : Str} {ds : List PyData} (ho : o = "&" ∨ o = "|") (h2 : 2 ≤ ds.length) (h : ∀ d ∈ ds, 1 ≤ lmeas n d) : 1 ≤ lmeas (n + 1) (.tuple (.str o :: ds)) := by
  have hop : isOp (.str o) = true := by rcases ho with ho | ho <;> subst ho <;> decide +kernel
  have hc : isCd (.tuple (.str o :: ds)) = true := by
    show (decide (2 ≤ ds.length) && isOp (.str o)) = true
    rw [hop, decide_eq_true h2]; rfl
  have e : lmeas (n + 1) (.tuple (.str o :: ds)) = if isCd (.tuple (.str o :: ds)) = true then (if (0 : Int) ∈ ds.map (lmeas n) then 0 else (ds.map (lmeas n)).sum) else 0 := by
    show (if isLd (.tuple (.str o :: ds)) = true then (1 : Int) else _) = _
    rw [if_neg (fun z => by cases z)]
    rfl
  have n0 : ¬ (0 : Int) ∈ ds.map (lmeas n) := fun z => by
    obtain ⟨d, hd, e0⟩ := List.mem_map.mp z
    have := h d hd
    omega
  rw [e, if_pos hc, if_neg n0]
  cases ds with
  | nil => simp at h2
  | cons d ds =>
    rw [List.map_cons, List.sum_cons]
    have := h d (List.mem_cons_self ..)
    have := sum_nonneg (l := ds.map (lmeas n)) fun y hy => by
      obtain ⟨d', _, rfl⟩ := List.mem_map.mp hy
      exact lmeas_nonneg n d'
    omega
theorem rdT_sound {T : List Nat} {n : Nat} {P : Nat → Option (PyData × Nat)} (hP : ∀ b d e, P b = some (d, e) → T.drop b = tl (ptx d) ++ T.drop e ∧ 1 ≤ lmeas (n + 1) d) {a : Nat} {d : PyData} {e : Nat} (h : rdT P T a = some (d, e)) :
    T.drop a = tl (txt d) ++ T.drop e ∧ 1 ≤ lmeas (n + 2) d := by
  unfold rdT at h
  cases hp : P a with
  | none => rw [hp] at h; cases h
  | some r =>
    obtain ⟨d1, e1⟩ := r
    rw [hp] at h
    dsimp only at h
    obtain ⟨h1, h2⟩ := hP _ _ _ hp
    by_cases c : isSg (sub T e1 3)
    · rw [if_pos c] at h
      cases hr : rdL P T (sub T e1 3) (T.length + 1 - e1) e1 [d1] with
      | none => rw [hr] at h; cases h
      | some r =>
        obtain ⟨ds, e2⟩ := r
        rw [hr] at h
        cases h
        obtain ⟨r, er, h3, h4, h5⟩ := rdL_sound (G := fun d => 1 ≤ lmeas (n + 1) d) (sg_len c) hP _ _ _ _ _ hr
        obtain ⟨g1, g2⟩ := sgn_sg c
        have er' : ds = d1 :: r := er
        subst er'
        have hr1 : 1 ≤ r.length := by
          cases r with
          | nil => exact absurd rfl (h5 rfl)
          | cons _ _ => rw [List.length_cons]; omega
        refine ⟨?_, lmeas_make g2 (by rw [List.length_cons]; omega) fun x hx => ?_⟩
        · rw [txt_tup, join_eq, tl_join, List.map_cons, List.map_cons, joinL_flat, ← g1, h1, h3, List.append_assoc]
        · rcases List.mem_cons.mp hx with z | z
          · rw [z]; exact h2
          · exact h4 x z
    · rw [if_neg c] at h
      by_cases c2 : isLd d1 = true
      · rw [if_pos c2] at h
        cases h
        have ep : ptx d = txt d := by unfold ptx; rw [if_pos c2]
        rw [ep] at h1
        exact ⟨h1, by rw [lmeas_up _ _ h2]; exact h2⟩
      · rw [if_neg c2] at h; cases h
theorem rdP_sound {T : List Nat} : ∀ (n b : Nat) (d : PyData) (e : Nat), rdP T n b = some (d, e) → T.drop b = tl (ptx d) ++ T.drop e ∧ 1 ≤ lmeas (n + 1) d
  | n, b, d, e, h => by
    have lett : isL (sub T b 1) = true → some (PyData.str (sub T b 1), b + 1) = some (d, e) → T.drop b = tl (ptx d) ++ T.drop e ∧ 1 ≤ lmeas (n + 1) d := fun c h => by
      cases h
      have ep : ptx (.str (sub T b 1)) = sub T b 1 := by unfold ptx; rw [if_pos (show isLd (.str (sub T b 1)) = true from c), txt_str]
      refine ⟨by rw [ep]; exact sub_drop rfl (isL_len c), ?_⟩
      show 1 ≤ (if isL (sub T b 1) = true then (1 : Int) else _)
      rw [if_pos c]
      decide
    cases n with
    | zero =>
      unfold rdP at h
      by_cases c : isL (sub T b 1) = true
      · rw [if_pos c] at h; exact lett c h
      · rw [if_neg c] at h; cases h
    | succ n =>
      unfold rdP at h
      by_cases c : isL (sub T b 1) = true
      · rw [if_pos c] at h; exact lett c h
      · rw [if_neg c] at h
        by_cases c2 : sub T b 1 = "("
        · rw [if_pos c2] at h
          cases hr : rdT (rdP T n) T (b + 1) with
          | none => rw [hr] at h; cases h
          | some r =>
            obtain ⟨d1, e1⟩ := r
            rw [hr] at h
            dsimp only at h
            by_cases c3 : isLd d1 = true ∨ sub T e1 1 ≠ ")"
            · rw [if_pos c3] at h; cases h
            · rw [if_neg c3] at h
              cases h
              have c4 : sub T e1 1 = ")" := Classical.not_not.mp fun z => c3 (.inr z)
              have c5 : ¬ isLd d = true := fun z => c3 (.inl z)
              obtain ⟨h1, h2⟩ := rdT_sound (n := n) (rdP_sound n) hr
              have ep : ptx d = "(" ++ txt d ++ ")" := by unfold ptx; rw [if_neg c5]
              refine ⟨?_, h2⟩
              rw [ep, tl_par, sub_drop c2 (by decide +kernel), h1, sub_drop c4 (by decide +kernel)]
              show [40] ++ (tl (txt d) ++ ([41] ++ _)) = 40 :: (tl (txt d) ++ [41]) ++ _
              simp only [List.append_assoc, List.singleton_append, List.cons_append, List.nil_append]
        · rw [if_neg c2] at h; cases h
theorem prs_sound {x : Str} {d : PyData} (h : prs x = some d) : x = txt d ∧ tmB d = true := by
  unfold prs at h
  cases hr : rdT (rdP (tl x) 5) (tl x) 0 with
  | none => rw [hr] at h; cases h
  | some r =>
    obtain ⟨d1, e⟩ := r
    rw [hr] at h
    dsimp only at h
    by_cases c : e < x.length ∨ tmB d1 = false
    · rw [if_pos c] at h; cases h
    · rw [if_neg c] at h
      cases h
      obtain ⟨h1, _⟩ := rdT_sound (n := 5) (rdP_sound 5) hr
      have he : (tl x).drop e = [] := List.drop_of_length_le (by
        have : ¬ e < x.length := fun z => c (.inl z)
        rw [len_tl] at this
        omega)
      rw [he, List.append_nil, List.drop_zero] at h1
      refine ⟨ext_tl h1, ?_⟩
      cases ht : tmB d with
      | true => rfl
      | false => exact absurd (.inr ht) c
/-- parse_term reads the texts of terms, and nothing else -/
theorem prs_iff {x : Str} {d : PyData} : prs x = some d ↔ x = txt d ∧ tmB d = true := ⟨prs_sound, fun ⟨e, h⟩ => by rw [e]; exact prs_txt h⟩
end Fv


namespace Fv
open PySem PySem.Spec PyProof.Rows L2 FvX TL
/-! ### the law's own reading: pieces at level 0, over code points -/
def dl (c : Nat) : Int := (if c = 40 then 1 else 0) - (if c = 41 then 1 else 0)
def scn : List Nat → Int → List (List Nat) → List Nat → List Nat → Option (Int × List (List Nat) × List Nat)
  | [], lv, ps, cur, sg => some (lv, ps ++ [cur], sg)
  | c :: r, lv, ps, cur, sg => if lv = 0 ∧ isSg (sub (c :: r) 0 3) then scn (r.drop 2) lv (ps ++ [cur]) [] (sg ++ [r.headD 0])
    else if lv + dl c < 0 then none else scn r (lv + dl c) ps (cur ++ [c]) sg
termination_by R => R.length
decreasing_by
  · simp only [List.length_drop, List.length_cons]; omega
  · simp only [List.length_cons]; omega
theorem scn_nil (lv : Int) (ps : List (List Nat)) (cur sg : List Nat) : scn [] lv ps cur sg = some (lv, ps ++ [cur], sg) := by unfold scn; rfl
theorem scn_cons (c : Nat) (r : List Nat) (lv : Int) (ps : List (List Nat)) (cur sg : List Nat) : scn (c :: r) lv ps cur sg = if lv = 0 ∧ isSg (sub (c :: r) 0 3) then scn (r.drop 2) lv (ps ++ [cur]) [] (sg ++ [r.headD 0])
    else if lv + dl c < 0 then none else scn r (lv + dl c) ps (cur ++ [c]) sg := by
  rw [scn]
theorem sg_codes {s : Str} (h : isSg s) : tl s = [32, 38, 32] ∨ tl s = [32, 124, 32] := by
  rcases h with h | h <;> subst h
  · exact .inl (by decide +kernel)
  · exact .inr (by decide +kernel)
theorem sg_head {R : List Nat} (h : isSg (sub R 0 3)) : ∃ s r, R = 32 :: s :: 32 :: r ∧ (s = 38 ∨ s = 124) := by
  have e : tl (sub R 0 3) = R.take 3 := by rw [tl_sub, List.drop_zero]
  have key : ∀ s : Nat, R.take 3 = [32, s, 32] → ∃ r, R = 32 :: s :: 32 :: r := fun s z => by
    refine ⟨R.drop 3, ?_⟩
    have := List.take_append_drop 3 R
    rw [z] at this
    exact this.symm
  rcases sg_codes h with z | z
  · obtain ⟨r, hr⟩ := key 38 (e.symm.trans z)
    exact ⟨38, r, hr, .inl rfl⟩
  · obtain ⟨r, hr⟩ := key 124 (e.symm.trans z)
    exact ⟨124, r, hr, .inr rfl⟩
theorem scn_sound : ∀ (n : Nat) (R : List Nat), R.length ≤ n → ∀ (lv : Int) (ps : List (List Nat)) (cur sg : List Nat) (lv' : Int) (ps' : List (List Nat)) (sg' : List Nat), scn R lv ps cur sg = some (lv', ps', sg') →
    ∃ (q : List Nat) (l : List (Nat × List Nat)), ps' = ps ++ (cur ++ q) :: l.map (·.2) ∧ sg' = sg ++ l.map (·.1) ∧ R = q ++ l.flatMap (fun t => [32, t.1, 32] ++ t.2) ∧ ∀ t ∈ l, t.1 = 38 ∨ t.1 = 124
  | n, [], _, lv, ps, cur, sg, lv', ps', sg', h => by
    rw [scn_nil] at h
    cases h
    exact ⟨[], [], by simp, by simp, rfl, fun t ht => nomatch ht⟩
  | 0, c :: r, hn, _, _, _, _, _, _, _, _ => by simp at hn
  | n + 1, c :: r, hn, lv, ps, cur, sg, lv', ps', sg', h => by
    rw [List.length_cons] at hn
    rw [scn_cons] at h
    by_cases k : lv = 0 ∧ isSg (sub (c :: r) 0 3)
    · rw [if_pos k] at h
      obtain ⟨s, r', er, hs⟩ := sg_head k.2
      cases er
      have h' : scn r' lv (ps ++ [cur]) [] (sg ++ [s]) = some (lv', ps', sg') := h
      obtain ⟨q, l, e1, e2, e3, e4⟩ := scn_sound n r' (by simp only [List.length_cons] at hn; omega) _ _ _ _ _ _ _ h'
      refine ⟨[], (s, q) :: l, ?_, ?_, ?_, fun t ht => ?_⟩
      · rw [e1]; simp
      · rw [e2]; simp
      · rw [e3]; simp
      · rcases List.mem_cons.mp ht with z | z
        · rw [z]; exact hs
        · exact e4 t z
    · rw [if_neg k] at h
      by_cases k2 : lv + dl c < 0
      · rw [if_pos k2] at h; cases h
      · rw [if_neg k2] at h
        obtain ⟨q, l, e1, e2, e3, e4⟩ := scn_sound n r (by omega) _ _ _ _ _ _ _ h
        refine ⟨c :: q, l, ?_, e2, ?_, e4⟩
        · rw [e1]; simp
        · rw [e3]; simp
/-! a sign of no weight -/
theorem scn_quiet {c : Nat} {r : List Nat} {lv : Int} {ps : List (List Nat)} {cur sg : List Nat} (h0 : 0 ≤ lv) (h1 : c ≠ 40) (h2 : c ≠ 41) (h : 1 ≤ lv ∨ c ≠ 32) : scn (c :: r) lv ps cur sg = scn r lv ps (cur ++ [c]) sg := by
  have nk : ¬ (lv = 0 ∧ isSg (sub (c :: r) 0 3)) := fun z => by
    obtain ⟨s, r', er, _⟩ := sg_head z.2
    cases er
    rcases h with h | h
    · omega
    · exact h rfl
  have e : dl c = 0 := by unfold dl; rw [if_neg h1, if_neg h2]; rfl
  rw [scn_cons, if_neg nk, e, Int.add_zero, if_neg (by omega)]
theorem scn_open {r : List Nat} {lv : Int} {ps : List (List Nat)} {cur sg : List Nat} (h0 : 0 ≤ lv) : scn (40 :: r) lv ps cur sg = scn r (lv + 1) ps (cur ++ [40]) sg := by
  have nk : ¬ (lv = 0 ∧ isSg (sub (40 :: r) 0 3)) := fun z => by
    obtain ⟨s, r', er, _⟩ := sg_head z.2
    cases er
  have e : dl 40 = 1 := by decide
  rw [scn_cons, if_neg nk, e, if_neg (by omega)]
theorem scn_close {r : List Nat} {lv : Int} {ps : List (List Nat)} {cur sg : List Nat} (h0 : 1 ≤ lv) : scn (41 :: r) lv ps cur sg = scn r (lv - 1) ps (cur ++ [41]) sg := by
  have nk : ¬ (lv = 0 ∧ isSg (sub (41 :: r) 0 3)) := fun z => by omega
  have e : dl 41 = -1 := by decide
  rw [scn_cons, if_neg nk, e, if_neg (by omega)]
  rfl
theorem isL_code {x : Str} (h : isL x = true) : ∃ c, tl x = [c] ∧ c ≠ 40 ∧ c ≠ 41 ∧ c ≠ 32 := by
  have all : ∀ x ∈ (["a", "b", "c", "d", "e", "f", "g", "h"] : List Str), ∃ c ∈ ([97, 98, 99, 100, 101, 102, 103, 104] : List Nat), tl x = [c] := by decide +kernel
  obtain ⟨c, hc, e⟩ := all x (isL_one h)
  have ne : ∀ c ∈ ([97, 98, 99, 100, 101, 102, 103, 104] : List Nat), c ≠ 40 ∧ c ≠ 41 ∧ c ≠ 32 := by decide
  exact ⟨c, e, ne c hc⟩
theorem op_code {o : Str} (h : o = "&" ∨ o = "|") : ∃ s, tl (" " ++ o ++ " ") = [32, s, 32] ∧ tl o = [s] ∧ (s = 38 ∨ s = 124) := by
  rcases h with h | h <;> subst h
  · exact ⟨38, by decide +kernel, by decide +kernel, .inl rfl⟩
  · exact ⟨124, by decide +kernel, by decide +kernel, .inr rfl⟩
/-- inside of parentheses nothing is cut -/
theorem scn_flat {s : Nat} (hs : s = 38 ∨ s = 124) : ∀ (l : List (List Nat)), (∀ u ∈ l, ∀ R (lv : Int) ps cur sg, 1 ≤ lv → scn (u ++ R) lv ps cur sg = scn R lv ps (cur ++ u) sg) → ∀ R (lv : Int) ps cur sg, 1 ≤ lv →
    scn (l.flatMap (fun x => [32, s, 32] ++ x) ++ R) lv ps cur sg = scn R lv ps (cur ++ l.flatMap (fun x => [32, s, 32] ++ x)) sg
  | [], _, R, lv, ps, cur, sg, _ => by simp
  | u :: l, h, R, lv, ps, cur, sg, h1 => by
    have e : (u :: l).flatMap (fun x => [32, s, 32] ++ x) ++ R = 32 :: s :: 32 :: (u ++ (l.flatMap (fun x => [32, s, 32] ++ x) ++ R)) := by simp
    rw [e, scn_quiet (by omega) (by decide) (by decide) (.inl h1), scn_quiet (by omega) (by omega) (by omega) (.inl h1), scn_quiet (by omega) (by decide) (by decide) (.inl h1), h u (List.mem_cons_self ..) _ _ _ _ _ h1,
      scn_flat hs l (fun x hx => h x (List.mem_cons_of_mem _ hx)) R lv ps _ sg h1]
    simp
theorem scn_txt : ∀ (n : Nat) (d : PyData), 1 ≤ lmeas n d → (∀ R (lv : Int) ps cur sg, 1 ≤ lv → scn (tl (txt d) ++ R) lv ps cur sg = scn R lv ps (cur ++ tl (txt d)) sg) ∧ (∀ R (lv : Int) ps cur sg, 0 ≤ lv → scn (tl (ptx d) ++ R) lv ps cur sg = scn R lv ps (cur ++ tl (ptx d)) sg)
  | 0, d, h => by simp only [lmeas] at h; omega
  | n + 1, d, h => by
    have par : isLd d = false → (∀ R (lv : Int) ps cur sg, 1 ≤ lv → scn (tl (txt d) ++ R) lv ps cur sg = scn R lv ps (cur ++ tl (txt d)) sg) → ∀ R (lv : Int) ps cur sg, 0 ≤ lv → scn (tl (ptx d) ++ R) lv ps cur sg = scn R lv ps (cur ++ tl (ptx d)) sg := fun nl ht R lv ps cur sg h0 => by
      have ep : ptx d = "(" ++ txt d ++ ")" := by unfold ptx; rw [if_neg (by rw [nl]; decide)]
      rw [ep, tl_par, List.cons_append, List.append_assoc, scn_open h0, ht _ _ _ _ _ (by omega), List.singleton_append, scn_close (by omega), Int.add_sub_cancel]
      simp
    rcases lmeas_inv h with ⟨x, rfl, hx⟩ | ⟨o, ds, rfl, nl, ho, h2, all1, e⟩
    · obtain ⟨c, ec, c1, c2, c3⟩ := isL_code hx
      have ep : ptx (.str x) = x := by unfold ptx; rw [if_pos (show isLd (.str x) = true from hx), txt_str]
      rw [ep, txt_str, ec]
      exact ⟨fun R lv ps cur sg h1 => scn_quiet (by omega) c1 c2 (.inr c3), fun R lv ps cur sg h1 => scn_quiet h1 c1 c2 (.inr c3)⟩
    · have ht : ∀ R (lv : Int) ps cur sg, 1 ≤ lv → scn (tl (txt (.tuple (.str o :: ds))) ++ R) lv ps cur sg = scn R lv ps (cur ++ tl (txt (.tuple (.str o :: ds)))) sg := fun R lv ps cur sg h1 => by
        obtain ⟨s, e1, e2, e3⟩ := op_code ho
        cases ds with
        | nil => simp at h2
        | cons d ds =>
          rw [txt_tup, join_eq, tl_join, List.map_cons, List.map_cons, joinL_flat, e1, List.append_assoc, (scn_txt n d (all1 d (List.mem_cons_self ..))).2 _ _ _ _ _ (by omega),
            scn_flat e3 _ (fun u hu R lv ps cur sg h1 => ?_) R lv ps _ sg h1, List.append_assoc]
          obtain ⟨y, hy, rfl⟩ := List.mem_map.mp hu
          obtain ⟨d', hd', rfl⟩ := List.mem_map.mp hy
          exact (scn_txt n d' (all1 d' (List.mem_cons_of_mem _ hd'))).2 R lv ps cur sg (by omega)
      exact ⟨ht, par nl ht⟩
/-- at level 0 the text of a term falls into its parts -/
theorem scn_cut {s : Nat} (hs : s = 38 ∨ s = 124) : ∀ (l : List (List Nat)), (∀ u ∈ l, ∀ R (lv : Int) ps cur sg, 0 ≤ lv → scn (u ++ R) lv ps cur sg = scn R lv ps (cur ++ u) sg) → ∀ ps cur sg,
    scn (l.flatMap (fun x => [32, s, 32] ++ x)) 0 ps cur sg = some (0, ps ++ cur :: l, sg ++ List.replicate l.length s)
  | [], _, ps, cur, sg => by
    show scn [] 0 ps cur sg = _
    rw [scn_nil]
    simp
  | u :: l, h, ps, cur, sg => by
    have e : (u :: l).flatMap (fun x => [32, s, 32] ++ x) = 32 :: s :: 32 :: (u ++ l.flatMap (fun x => [32, s, 32] ++ x)) := by simp
    have k : (0 : Int) = 0 ∧ isSg (sub (32 :: s :: 32 :: (u ++ l.flatMap (fun x => [32, s, 32] ++ x))) 0 3) := ⟨rfl, by
      rcases hs with hs | hs <;> subst hs
      · exact .inl (ext_tl (by rw [tl_sub]; rfl))
      · exact .inr (ext_tl (by rw [tl_sub]; rfl))⟩
    rw [e, scn_cons, if_pos k]
    show scn (u ++ l.flatMap (fun x => [32, s, 32] ++ x)) 0 (ps ++ [cur]) [] (sg ++ [s]) = _
    rw [h u (List.mem_cons_self ..) _ _ _ _ _ (Int.le_refl _), List.nil_append, scn_cut hs l (fun x hx => h x (List.mem_cons_of_mem _ hx))]
    simp [List.replicate_succ]
theorem scn_term {n : Nat} {o : Str} {ds : List PyData} (ho : o = "&" ∨ o = "|") (h2 : 2 ≤ ds.length) (all1 : ∀ x ∈ ds, 1 ≤ lmeas n x) :
    ∃ s, tl o = [s] ∧ scn (tl (txt (.tuple (.str o :: ds)))) 0 [] [] [] = some (0, (ds.map ptx).map tl, List.replicate (ds.length - 1) s) := by
  obtain ⟨s, e1, e2, e3⟩ := op_code ho
  refine ⟨s, e2, ?_⟩
  cases ds with
  | nil => simp at h2
  | cons d ds =>
    rw [txt_tup, join_eq, tl_join, List.map_cons, List.map_cons, joinL_flat, e1, (scn_txt n d (all1 d (List.mem_cons_self ..))).2 _ _ _ _ _ (Int.le_refl _), List.nil_append,
      scn_cut e3 _ (fun u hu R lv ps cur sg h0 => ?_)]
    · simp
    · obtain ⟨y, hy, rfl⟩ := List.mem_map.mp hu
      obtain ⟨d', hd', rfl⟩ := List.mem_map.mp hy
      exact (scn_txt n d' (all1 d' (List.mem_cons_of_mem _ hd'))).2 R lv ps cur sg h0
end Fv


namespace Fv
open PySem PySem.Spec PyProof.Rows L2 FvX TL
/-! ### the law's own reading, and that it agrees with the program's -/
def lrP (f : List Nat → Option PyData) (T : List Nat) : Option PyData :=
  if T.length = 1 then f T else if T.take 1 ≠ [40] ∨ T.drop (T.length - 1) ≠ [41] ∨ T.length < 4 then none else f ((T.drop 1).take (T.length - 2))
def lrL (T : List Nat) : Option PyData := if isL ⟨T.toArray⟩ = true then some (.str ⟨T.toArray⟩) else none
open Classical in
noncomputable def lrC (f : List Nat → Option PyData) (T : List Nat) : Option PyData := match scn T 0 [] [] [] with
  | none => none
  | some (lv, ps, sg) => if 0 < lv ∨ ps.length < 2 ∨ sg ≠ List.replicate sg.length (sg.headD 0) then none else
    if none ∈ ps.map (lrP f) then none else some (.tuple (.str ⟨#[sg.headD 0]⟩ :: (ps.map (lrP f)).filterMap id))
noncomputable def lrT : Nat → List Nat → Option PyData
  | 0 => fun T => if T.length = 1 then lrL T else none
  | n + 1 => fun T => if T.length = 1 then lrL T else if n = 0 then none else lrC (lrT n) T
theorem lrT_one {n : Nat} {T : List Nat} (h : T.length = 1) : lrT n T = lrL T := by
  cases n <;> (unfold lrT; rw [if_pos h])
theorem lrL_some {T : List Nat} {d : PyData} (h : lrL T = some d) : isLd d = true ∧ T = tl (txt d) ∧ T = tl (ptx d) ∧ ∀ n, 1 ≤ lmeas (n + 1) d := by
  unfold lrL at h
  by_cases c : isL ⟨T.toArray⟩ = true
  · rw [if_pos c] at h
    cases h
    have e : isLd (.str ⟨T.toArray⟩) = true := c
    refine ⟨e, by rw [txt_str], by unfold ptx; rw [if_pos e, txt_str], fun n => ?_⟩
    show 1 ≤ (if isL ⟨T.toArray⟩ = true then (1 : Int) else _)
    rw [if_pos c]; decide
  · rw [if_neg c] at h; cases h
theorem mid_eq {T : List Nat} (h1 : T.take 1 = [40]) (h2 : T.drop (T.length - 1) = [41]) (h4 : 4 ≤ T.length) : T = 40 :: ((T.drop 1).take (T.length - 2) ++ [41]) := by
  have a := List.take_append_drop 1 T
  have b := List.take_append_drop (T.length - 2) (T.drop 1)
  rw [List.drop_drop, show 1 + (T.length - 2) = T.length - 1 by omega, h2] at b
  rw [b, h1] at *
  exact a.symm
theorem inner_sound {f : List Nat → Option PyData} {G : PyData → Prop} (hf : ∀ p d, f p = some d → p = tl (ptx d) ∧ G d) : ∀ ps : List (List Nat), none ∉ ps.map f → ((((ps.map f).filterMap id).map ptx).map tl = ps ∧ ∀ d ∈ (ps.map f).filterMap id, G d)
  | [], _ => ⟨rfl, fun d hd => nomatch hd⟩
  | p :: ps, h => by
    rw [List.map_cons, List.mem_cons, not_or] at h
    obtain ⟨h1, h2⟩ := inner_sound hf ps h.2
    cases hp : f p with
    | none => exact absurd hp.symm h.1
    | some d =>
      obtain ⟨g1, g2⟩ := hf p d hp
      rw [List.map_cons, hp]
      refine ⟨?_, fun x hx => ?_⟩
      · show tl (ptx d) :: _ = _
        rw [h1, ← g1]
      · rcases List.mem_cons.mp hx with z | z
        · rw [z]; exact g2
        · exact h2 x z
theorem lrT_sound : ∀ (n : Nat) (T : List Nat) (d : PyData), lrT (n + 1) T = some d → T = tl (txt d) ∧ 1 ≤ lmeas (n + 1) d
  | n, T, d, h => by
    by_cases c : T.length = 1
    · rw [lrT_one c] at h
      obtain ⟨_, h2, _, h4⟩ := lrL_some h
      exact ⟨h2, h4 n⟩
    · cases n with
      | zero =>
        unfold lrT at h
        rw [if_neg c, if_pos rfl] at h
        cases h
      | succ n =>
        unfold lrT at h
        rw [if_neg c, if_neg (by omega)] at h
        unfold lrC at h
        cases hs : scn T 0 [] [] [] with
        | none => rw [hs] at h; cases h
        | some r =>
          obtain ⟨lv, ps, sg⟩ := r
          rw [hs] at h
          dsimp only at h
          by_cases k1 : 0 < lv ∨ ps.length < 2 ∨ sg ≠ List.replicate sg.length (sg.headD 0)
          · rw [if_pos k1] at h; cases h
          · rw [if_neg k1] at h
            by_cases k2 : none ∈ ps.map (lrP (lrT (n + 1)))
            · rw [if_pos k2] at h; cases h
            · rw [if_neg k2] at h
              have k3 : ¬ ps.length < 2 := fun z => k1 (.inr (.inl z))
              have k4 : sg = List.replicate sg.length (sg.headD 0) := Classical.not_not.mp fun z => k1 (.inr (.inr z))
              have hf : ∀ p d, lrP (lrT (n + 1)) p = some d → p = tl (ptx d) ∧ 1 ≤ lmeas (n + 1) d := fun p d hp => by
                unfold lrP at hp
                by_cases j : p.length = 1
                · rw [if_pos j, lrT_one j] at hp
                  obtain ⟨_, _, h3, h4⟩ := lrL_some hp
                  exact ⟨h3, h4 n⟩
                · rw [if_neg j] at hp
                  by_cases j2 : p.take 1 ≠ [40] ∨ p.drop (p.length - 1) ≠ [41] ∨ p.length < 4
                  · rw [if_pos j2] at hp; cases hp
                  · rw [if_neg j2] at hp
                    have j3 : p.take 1 = [40] := Classical.not_not.mp fun z => j2 (.inl z)
                    have j4 : p.drop (p.length - 1) = [41] := Classical.not_not.mp fun z => j2 (.inr (.inl z))
                    have j5 : ¬ p.length < 4 := fun z => j2 (.inr (.inr z))
                    obtain ⟨g1, g2⟩ := lrT_sound n _ _ hp
                    have ml : ((p.drop 1).take (p.length - 2)).length = p.length - 2 := by rw [List.length_take, List.length_drop]; omega
                    have nl : ¬ isLd d = true := fun z => by
                      cases d with
                      | str x =>
                        rw [g1, txt_str, ← len_tl, isL_len z] at ml
                        omega
                      | _ => cases z
                    refine ⟨?_, g2⟩
                    unfold ptx
                    rw [if_neg nl, tl_par, ← g1]
                    exact mid_eq j3 j4 (by omega)
              obtain ⟨e1, e2⟩ := inner_sound hf ps k2
              obtain ⟨q, l, a1, a2, a3, a4⟩ := scn_sound _ T (Nat.le_refl _) _ _ _ _ _ _ _ hs
              rw [List.nil_append, List.nil_append] at a1
              rw [List.nil_append] at a2
              have ll : 1 ≤ l.length := by
                rw [a1, List.length_cons, List.length_map] at k3
                omega
              have all : ∀ t ∈ l, t.1 = sg.headD 0 := fun t ht => by
                have m : t.1 ∈ sg := by rw [a2]; exact List.mem_map.mpr ⟨t, ht, rfl⟩
                rw [k4] at m
                exact (List.mem_replicate.mp m).2
              obtain ⟨t0, ht0⟩ : ∃ t0, t0 ∈ l := by
                cases l with
                | nil => simp at ll
                | cons t l => exact ⟨t, List.mem_cons_self ..⟩
              have hs0 : sg.headD 0 = 38 ∨ sg.headD 0 = 124 := by rw [← all t0 ht0]; exact a4 t0 ht0
              have ho : ((⟨#[sg.headD 0]⟩ : Str) = "&" ∨ (⟨#[sg.headD 0]⟩ : Str) = "|") := by
                rcases hs0 with z | z <;> rw [z]
                · exact .inl (by decide +kernel)
                · exact .inr (by decide +kernel)
              have hsep : tl (" " ++ (⟨#[sg.headD 0]⟩ : Str) ++ " ") = [32, sg.headD 0, 32] := by rw [tl_append, tl_append]; rfl
              cases h
              have el : ((ps.map (lrP (lrT (n + 1)))).filterMap id).length = ps.length := by
                have := congrArg List.length e1
                rw [List.length_map, List.length_map] at this
                exact this
              refine ⟨?_, lmeas_make ho (by omega) e2⟩
              rw [txt_tup, join_eq, tl_join, e1, hsep, a1, joinL_flat, a3]
              congr 1
              clear a1 a2 a3 e1 e2 el hs k2 k3 k4 hf ll ht0 ho hsep hs0 a4
              induction l with
              | nil => rfl
              | cons t l ih =>
                rw [List.flatMap_cons, List.map_cons, List.flatMap_cons, all t (List.mem_cons_self ..), ih (fun x hx => all x (List.mem_cons_of_mem _ hx))]
theorem txt_len3 {o : Str} {ds : List PyData} (ho : o = "&" ∨ o = "|") (h2 : 2 ≤ ds.length) : 3 ≤ (tl (txt (.tuple (.str o :: ds)))).length := by
  cases ds with
  | nil => simp at h2
  | cons d ds =>
    rw [List.length_cons] at h2
    rw [txt_tup, join_eq, tl_join, List.map_cons, List.map_cons, joinL_len, ← len_tl (" " ++ o ++ " "), sep_len ho, List.length_map, List.length_map]
    omega
theorem lrT_txt : ∀ (n : Nat) (d : PyData), 1 ≤ lmeas n d → lrT n (tl (txt d)) = some d
  | 0, d, h => by simp only [lmeas] at h; omega
  | n + 1, d, h => by
    have lett : ∀ (m : Nat) (x : Str), isL x = true → lrT m (tl x) = some (.str x) := fun m x hx => by
      rw [lrT_one (by rw [← len_tl]; exact isL_len hx)]
      unfold lrL
      rw [mk_tl, if_pos hx]
    rcases lmeas_inv h with ⟨x, rfl, hx⟩ | ⟨o, ds, rfl, nl, ho, h2, all1, e⟩
    · rw [txt_str]; exact lett _ x hx
    · have n0 : n ≠ 0 := fun z => by
        subst z
        cases ds with
        | nil => simp at h2
        | cons d ds =>
          have := all1 d (List.mem_cons_self ..)
          simp only [lmeas] at this
          omega
      have l3 := txt_len3 ho h2
      obtain ⟨s, e1, e2⟩ := scn_term ho h2 all1
      have part : ∀ x ∈ ds, lrP (lrT n) (tl (ptx x)) = some x := fun x hx => by
        have ih := lrT_txt n x (all1 x hx)
        obtain ⟨m, rfl⟩ : ∃ m, n = m + 1 := ⟨n - 1, by omega⟩
        unfold lrP
        rcases lmeas_inv (all1 x hx) with ⟨y, rfl, hy⟩ | ⟨o', ds', rfl, nl', ho', h2', _, _⟩
        · have ep : ptx (.str y) = y := by unfold ptx; rw [if_pos (show isLd (.str y) = true from hy), txt_str]
          rw [ep, if_pos (by rw [← len_tl]; exact isL_len hy)]
          exact lett _ y hy
        · have l3' := txt_len3 ho' h2'
          have ep : ptx (.tuple (.str o' :: ds')) = "(" ++ txt (.tuple (.str o' :: ds')) ++ ")" := by unfold ptx; rw [if_neg (by rw [nl']; decide)]
          rw [ep, tl_par]
          have ll : (40 :: (tl (txt (.tuple (.str o' :: ds'))) ++ [41])).length = (tl (txt (.tuple (.str o' :: ds')))).length + 2 := by simp
          have d1 : (40 :: (tl (txt (.tuple (.str o' :: ds'))) ++ [41])).drop ((40 :: (tl (txt (.tuple (.str o' :: ds'))) ++ [41])).length - 1) = [41] := by
            rw [ll, show (tl (txt (.tuple (.str o' :: ds')))).length + 2 - 1 = (tl (txt (.tuple (.str o' :: ds')))).length + 1 by omega, List.drop_succ_cons, List.drop_left]
          have d2 : ((40 :: (tl (txt (.tuple (.str o' :: ds'))) ++ [41])).drop 1).take ((40 :: (tl (txt (.tuple (.str o' :: ds'))) ++ [41])).length - 2) = tl (txt (.tuple (.str o' :: ds'))) := by
            rw [ll, Nat.add_sub_cancel, List.drop_succ_cons, List.drop_zero, List.take_left]
          rw [if_neg (by rw [ll]; omega), if_neg (fun z => by
            rcases z with z | z | z
            · exact z rfl
            · exact z d1
            · rw [ll] at z; omega), d2]
          exact ih
      have em : ((ds.map ptx).map tl).map (lrP (lrT n)) = ds.map some := by
        rw [List.map_map, List.map_map]
        exact List.map_congr_left part
      unfold lrT
      rw [if_neg (by omega), if_neg n0]
      unfold lrC
      rw [e2]
      dsimp only
      obtain ⟨j, ej⟩ : ∃ j, ds.length - 1 = j + 1 := ⟨ds.length - 2, by omega⟩
      have hh : (List.replicate (ds.length - 1) s).headD 0 = s := by rw [ej, List.replicate_succ]; rfl
      rw [if_neg (fun z => by
        rcases z with z | z | z
        · omega
        · rw [List.length_map, List.length_map] at z; omega
        · rw [hh, List.length_replicate] at z; exact z rfl), em, if_neg (fun z => by
        obtain ⟨x, _, ex⟩ := List.mem_map.mp z
        cases ex), hh]
      have eo : (⟨#[s]⟩ : Str) = o := ext_tl (by rw [e1])
      have ef : (ds.map some).filterMap id = ds := by
        rw [List.filterMap_map]
        exact List.filterMap_some
      rw [eo, ef]
/-- the law's reading of a text -/
noncomputable def lrd (x : Str) : Option PyData := match lrT 5 (tl x) with
  | none => none
  | some d => if lmeas 5 d ≤ 24 then some d else none
theorem lrd_prs (x : Str) : lrd x = prs x := by
  unfold lrd
  cases h : lrT 5 (tl x) with
  | none =>
    cases hp : prs x with
    | none => rfl
    | some d =>
      obtain ⟨e, ht⟩ := prs_sound hp
      rw [e, lrT_txt 5 d ((tmB_iff d).mp ht).1] at h
      cases h
  | some d =>
    obtain ⟨e, h1⟩ := lrT_sound 4 _ _ h
    dsimp only
    have ex : x = txt d := ext_tl e
    by_cases c : lmeas 5 d ≤ 24
    · rw [if_pos c, ex, prs_txt ((tmB_iff d).mpr ⟨h1, c⟩)]
    · rw [if_neg c]
      cases hp : prs x with
      | none => rfl
      | some d' =>
        obtain ⟨e', ht⟩ := prs_sound hp
        have h' := lrT_txt 5 d' ((tmB_iff d').mp ht).1
        rw [← e', h] at h'
        cases h'
        exact absurd ((tmB_iff d).mp ht).2 c
end Fv


namespace Fv
open PySem PySem.Spec PyProof.Rows L2 FvX TL
/-! ### text * int -/
def mk (l : List Nat) : Str := ⟨l.toArray⟩
theorem tl_mk (l : List Nat) : tl (mk l) = l := rfl
theorem mk_len (l : List Nat) : (mk l).length = l.length := by rw [len_tl, tl_mk]
def mulS (x : Str) (n : Nat) : Str := ⟨(List.replicate n x.cps).foldl (· ++ ·) #[]⟩
def rMulS : R2 := fun x y H Q => ∃ (z : Str) (n : Nat), x = .str z ∧ y = .int (n : Nat) ∧ 2 ≤ n ∧ n ≤ 1000 ∧ 1 ≤ z.length ∧ z.length ≤ 10 ∧ Q (.str (mulS z n)) H
theorem op_mulS {X : Cx} : OpR X (binaryOp .Mult) rMulS := by
  intro pins s σ H x y v u Q I rx ry h
  obtain ⟨z, n, rfl, rfl, n2, n3, z1, z2, q⟩ := h
  obtain ⟨t, rfl⟩ := rx
  obtain ⟨t', rfl⟩ := ry
  have ok := mulOk_of (x := z) (n := (n : Nat)) 10 1000 z2 (by omega) (by omega) (by decide) (by decide)
  have c : ((((n : Nat) : Int) == 1) || z.length == 0) = false := by
    rw [Bool.or_eq_false_iff]
    exact ⟨beq_eq_false_iff_ne.mpr (by omega), beq_eq_false_iff_ne.mpr (by omega)⟩
  refine P.mul_str ok.1 ok.2.1 ok.2.2 ?_
  rw [if_neg (by omega), if_neg (by rw [c]; decide)]
  refine ⟨?_, ?_⟩
  · show ((List.replicate n z.cps).foldl (· ++ ·) #[]).size ≤ _
    rw [len_reps]
    have : n * z.cps.size ≤ 1000 * 10 := Nat.mul_le_mul n3 z2
    refine Nat.le_trans (?_ : _ ≤ 10000) (by decide)
    simp
    omega
  · exact ⟨.str (mulS z n), H, I.tok _, ⟨_, rfl⟩, q⟩
theorem vs1 {i : Int} {n : Nat} (h : i = (n : Nat)) : [V.int i] = [V.int (n : Nat)] := by rw [h]
theorem lmeas_le {n m : Nat} {d : PyData} (h : 1 ≤ lmeas n d) (hm : n ≤ m) : lmeas m d = lmeas n d := by
  induction hm with
  | refl => rfl
  | step _ ih => rw [lmeas_up _ _ (by rw [ih]; exact h), ih]
/-- a text of few signs -/
def goodT (x : Str) : Prop := x.length ≤ 2900 ∧ PyData.strOk x = true
instance (x : Str) : Decidable (goodT x) := inferInstanceAs (Decidable (_ ∧ _))
theorem goodT.gd {x : Str} (h : goodT x) : gd 0 (.str x) = true := by
  show (PyData.strOk x && decide (x.length ≤ 100000)) = true
  rw [h.2, decide_eq_true (Nat.le_trans h.1 (by decide))]; rfl
/-! ### slices of texts -/
theorem cut_pre (z : Str) (n : Nat) : tl (cutS z none (some (n : Int))) = (tl z).take n := by
  show ((z.cps.toList.drop (HT.sIx z.length 0 none)).take (HT.sIx z.length z.length (some (n : Int)) - HT.sIx z.length 0 none)) = _
  rw [HT.sIx_none, HT.sIx_nat, List.drop_zero, Nat.sub_zero]
  have hl : z.length = z.cps.toList.length := len_tl z
  by_cases h : n ≤ z.length
  · rw [Nat.min_eq_left h]
  · rw [Nat.min_eq_right (by omega), List.take_of_length_le (by omega), List.take_of_length_le (show (tl z).length ≤ n by rw [← len_tl]; omega)]
theorem sIx_m1 (n d : Nat) (h : 1 ≤ n) : HT.sIx n d (some (-1)) = n - 1 := by
  show (if (-1 : Int) < 0 then ((-1 : Int) + (n : Int)).toNat else min (-1 : Int).toNat n) = n - 1
  rw [if_pos (by decide)]
  omega
theorem cut_last (z : Str) (h : 1 ≤ z.length) : tl (cutS z (some (-1)) none) = (tl z).drop (z.length - 1) := by
  show ((z.cps.toList.drop (HT.sIx z.length 0 (some (-1)))).take (HT.sIx z.length z.length none - HT.sIx z.length 0 (some (-1)))) = _
  have hl : z.length = z.cps.toList.length := len_tl z
  rw [HT.sIx_none, sIx_m1 _ _ h, List.take_of_length_le (by rw [List.length_drop]; omega)]
theorem cut_mid (z : Str) (h : 1 ≤ z.length) : tl (cutS z (some 1) (some (-1))) = ((tl z).drop 1).take (z.length - 2) := by
  show ((z.cps.toList.drop (HT.sIx z.length 0 (some 1))).take (HT.sIx z.length z.length (some (-1)) - HT.sIx z.length 0 (some 1))) = _
  rw [sIx_m1 _ _ h, show HT.sIx z.length 0 (some 1) = min 1 z.length from HT.sIx_nat _ 0 1, Nat.min_eq_left h, show z.length - 1 - 1 = z.length - 2 by omega]
theorem cut_ok {z : Str} (h : PyData.strOk z = true) (lo hi : Option Int) : PyData.strOk (cutS z lo hi) = true := by
  unfold PyData.strOk at h ⊢
  rw [← Array.all_toList, List.all_eq_true] at h ⊢
  intro c hc
  exact h c (List.mem_of_mem_drop (List.mem_of_mem_take hc))
theorem ok_mk {l : List Nat} {x : Str} (h : PyData.strOk x = true) (s : ∀ c ∈ l, c ∈ tl x) : PyData.strOk (mk l) = true := by
  unfold PyData.strOk at h ⊢
  rw [← Array.all_toList, List.all_eq_true] at h ⊢
  exact fun c hc => h c (s c hc)
/-! ### what has a size is plain data -/
theorem len_le_sum {n : Nat} : ∀ {ds : List PyData}, (∀ d ∈ ds, 1 ≤ lmeas n d) → (ds.length : Int) ≤ (ds.map (lmeas n)).sum
  | [], _ => by simp
  | d :: ds, h => by
    rw [List.length_cons, List.map_cons, List.sum_cons]
    have := h d (List.mem_cons_self ..)
    have := len_le_sum (ds := ds) fun x hx => h x (List.mem_cons_of_mem _ hx)
    omega
theorem gd_lmeas : ∀ (n : Nat) (d : PyData), 1 ≤ lmeas n d → lmeas n d ≤ 990 → gd n d = true
  | 0, d, h, _ => by simp only [lmeas] at h; omega
  | n + 1, d, h, h9 => by
    rcases lmeas_inv h with ⟨x, rfl, hx⟩ | ⟨o, ds, rfl, _, ho, h2, all1, e⟩
    · exact isL_gd hx _
    · rw [e] at h9
      have hl := len_le_sum all1
      refine gd_tup (fun y hy => ?_) (by rw [List.length_cons]; omega)
      rcases List.mem_cons.mp hy with z | z
      · rw [z]
        refine gd_le (n := 0) ?_ (Nat.zero_le _)
        rcases ho with ho | ho <;> subst ho <;> decide +kernel
      · refine gd_lmeas n y (all1 y z) ?_
        have := mem_le_sum (l := ds.map (lmeas n)) (x := lmeas n y) (fun u hu => by
          obtain ⟨d', _, rfl⟩ := List.mem_map.mp hu
          exact lmeas_nonneg n d') (List.mem_map.mpr ⟨y, z, rfl⟩)
        omega
theorem sum_le2 {α : Type} {f : α → Int} {g : α → Nat} : ∀ {l : List α}, (∀ x ∈ l, f x ≤ (g x : Nat)) → (l.map f).sum ≤ (((l.map g).sum : Nat) : Int)
  | [], _ => by simp
  | x :: l, h => by
    rw [List.map_cons, List.map_cons, List.sum_cons, List.sum_cons]
    have := h x (List.mem_cons_self ..)
    have := sum_le2 (l := l) fun y hy => h y (List.mem_cons_of_mem _ hy)
    omega
theorem sum_lin4 {n : Nat} : ∀ {r : List PyData}, (r.map fun x => 4 * lmeas n x - 3).sum = 4 * (r.map (lmeas n)).sum - 3 * r.length
  | [] => by simp
  | x :: r => by rw [List.map_cons, List.map_cons, List.sum_cons, List.sum_cons, sum_lin4 (r := r), List.length_cons]; omega
theorem lmeas_txt : ∀ (n : Nat) (d : PyData), 1 ≤ lmeas n d → 4 * lmeas n d ≤ ((txt d).length : Nat) + 3
  | 0, d, h => by simp only [lmeas] at h; omega
  | n + 1, d, h => by
    rcases lmeas_inv h with ⟨x, rfl, hx⟩ | ⟨o, ds, rfl, _, ho, h2, all1, e⟩
    · rw [txt_str, isL_len hx]
      show 4 * (if isL x = true then (1 : Int) else _) ≤ _
      rw [if_pos hx]; decide
    · rw [e, txt_tup, join_eq, len_tl, tl_join]
      cases ds with
      | nil => simp at h2
      | cons d0 r =>
        simp only [List.map_cons, List.sum_cons]
        rw [joinL_len, List.map_map, List.map_map]
        have hp : ∀ x ∈ d0 :: r, 4 * lmeas n x - 3 ≤ ((tl (ptx x)).length : Nat) := fun x hx => by
          have := lmeas_txt n x (all1 x hx)
          rw [← len_tl]
          unfold ptx
          split
          · omega
          · rw [par_len]; omega
        have h0 := hp d0 (List.mem_cons_self ..)
        have h1 := sum_le2 (f := fun x => 4 * lmeas n x - 3) (g := fun x => (tl (ptx x)).length) (l := r) fun x hx => hp x (List.mem_cons_of_mem _ hx)
        have e3 : (r.map (((fun x => x.length) ∘ tl) ∘ ptx)).sum = (r.map fun x => (tl (ptx x)).length).sum := rfl
        rw [e3]
        have e4 := sum_lin4 (n := n) (r := r)
        rw [e4] at h1
        have e5 : (tl (" " ++ o ++ " " : Str)).length = 3 := by rw [← len_tl]; exact sep_len ho
        rw [e5, List.length_map, List.length_map]
        omega
/-- what the law reads is plain data -/
theorem lrT_gd {n : Nat} {T : List Nat} {d : PyData} (hn : 1 ≤ n) (h : lrT n T = some d) (hT : T.length ≤ 2900) : 1 ≤ lmeas n d ∧ lmeas n d ≤ 900 ∧ gd n d = true := by
  obtain ⟨m, rfl⟩ : ∃ m, n = m + 1 := ⟨n - 1, by omega⟩
  obtain ⟨e, h1⟩ := lrT_sound m T d h
  have h2 := lmeas_txt (m + 1) d h1
  rw [len_tl, ← e] at h2
  exact ⟨h1, by omega, gd_lmeas _ d h1 (by omega)⟩
/-! ### the signs of a text: one and the same -/
theorem rep_flat (n : Nat) (c : Nat) : (List.replicate n [c]).flatten = List.replicate n c := by
  induction n with
  | zero => rfl
  | succ n ih => rw [List.replicate_succ, List.flatten_cons, ih, List.replicate_succ]; rfl
theorem sg_rep (sg : List Nat) : (List.replicate sg.length (sg.take 1)).flatten = List.replicate sg.length (sg.headD 0) := by
  cases sg with
  | nil => rfl
  | cons c r =>
    show (List.replicate (c :: r).length [c]).flatten = _
    rw [rep_flat]; rfl
theorem eqv_strs : ∀ (a b : List Nat), PyData.eqvAll (a.map fun c => PyData.str ⟨#[c]⟩) (b.map fun c => PyData.str ⟨#[c]⟩) = decide (a = b)
  | [], [] => by simp [PyData.eqvAll]
  | [], c :: b => by simp [PyData.eqvAll]
  | c :: a, [] => by simp [PyData.eqvAll]
  | c :: a, c' :: b => by
    rw [List.map_cons, List.map_cons]
    simp only [PyData.eqvAll, PyData.eqv, eqv_strs a b]
    by_cases e : c = c'
    · subst e; simp
    · simp [e]
def optD : Option PyData → PyData
  | none => .none
  | some d => d
theorem any_none : ∀ (os : List (Option PyData)), (∀ d, some d ∈ os → d ≠ .none) → (((os.map optD).any fun z => PyData.eqv z .none) = true ↔ none ∈ os)
  | [], _ => by simp
  | o :: os, h => by
    rw [List.map_cons, List.any_cons, Bool.or_eq_true, any_none os fun d hd => h d (List.mem_cons_of_mem _ hd), List.mem_cons]
    cases o with
    | none => simp [optD, PyData.eqv]
    | some d =>
      have hd := h d (List.mem_cons_self ..)
      have e : PyData.eqv d .none = false := by cases d <;> first | rfl | (exact absurd rfl hd) | (simp [PyData.eqv])
      simp [optD, e]
end Fv


namespace Fv
open PySem PySem.Spec PyProof.Rows L2 FvX
/-! ### calls that never raise; calls by keywords of defs that may raise -/
theorem passE0 {P : Program} {w : World} {X : Cx} : Passes (L2.CX P w) X E0 := fun _ _ _ _ _ _ _ h => by
  obtain ⟨_, _, _, _, _, _, _, _, _, _, _, _, z⟩ := h
  exact z.elim
structure OwnKR (P : Program) (w : World) (K : PySem.W.Frag) (mg : Str → Option Value) (base : Heap) (k : Nat) (x : Str) (ps ks : List Str) (gV : List V → List V → List V) (sp : Sp) : Prop where
  ex : ∃ (f : Addr) (fd : FuncData) (g : List Value → List Value → List Value), mg x = some (.ref f) ∧ PySem.W.keepIn K (.ref f) = true ∧ KBn K fd ps 0 ks g gV ∧ FnOk P w K mg base (L2.CX P w) k f fd ps sp
theorem pe_ownKR0 {X : Cx} {k : Nat} {x : Str} {ps ks : List Str} {gV : List V → List V → List V} {sp : Sp} {E : XK} {tk : TA} {p pos : Pos} {kws : List Keyword} (C : OwnKR X.prog X.w X.K X.mg X.base k x ps ks gV sp) (hr : Room k X.A) (hg : Gl X x) (hx : Passes (L2.CX X.prog X.w) X E) (hkw : PK X kws tk)
    (hall : (backToKw pos (keywordEach kws X.env)).all (·.1.isSome) = true := by rfl) (hks : (backToKw pos (keywordEach kws X.env)).filterMap (·.1) = ks := by rfl)
    (hdb : (x == ("__debug__" : Str)) = false := by decide)
    (hpl : ((backTo pos (starEach [] X.env)).any (·.1) || (backToKw pos (keywordEach kws X.env)).any (·.1.isNone)) = false := by rfl) :
    PE X (.Call (.Name x p) [] kws pos) (tCallN 0 ks.length sp gV E tNil tk) := by
  obtain ⟨f, fd, g, h1, h2, h3, h4⟩ := C.ex
  refine ⟨fun pins s σ H Q I h => ?_⟩
  refine wpAny_Call_Name_kw (ld_glob I hg h1 ?_ hdb)
  refine PySem.W.callWith_KW0 (h₀ := X.base) I.ok.mod.kin h2 hall ?_ hpl
  refine thn (hkw.run pos pins s σ H _ I h) fun ws s2 ⟨zs, H2, I2, rz, l1, l2, q2⟩ => ⟨I2.kIn, ?_⟩
  rw [hks]
  exact run_fnN h4 hr h3 hx I2 .nil rz l1 l2 q2
/-! ### rules in the element of a comprehension: the written part is told -/
theorem op_in_seqK {X : Cx} {K : PySem.W.Frag} (hK : X.K = K) : OpR X (compareOp .In) (rIn K false) := by
  subst hK
  exact op_in_seq
theorem ix_listK {X : Cx} {K : PySem.W.Frag} (hK : X.K = K) : IxR X (rIxL K) := by
  subst hK
  exact ix_list
end Fv


namespace Fv
open PySem PySem.Spec PyProof.Rows L2 FvX TL
/-! ### names, goals, rules -/
-- top 23  slots: 0:text 1:letter
abbrev s_is_name : Stmt := topS 23
abbrev N_is_name : List Str := ["text", "letter"]
theorem sc_is_name : FnScope N_is_name ["text"] (defScope s_is_name) := ⟨rfl, rfl, rfl, by decide +kernel, rfl, by decide +kernel, by decide +kernel⟩

-- top 24  slots: 0:value
abbrev s_is_goal : Stmt := topS 24
abbrev N_is_goal : List Str := ["value"]
theorem sc_is_goal : FnScope N_is_goal ["value"] (defScope s_is_goal) := ⟨rfl, rfl, rfl, by decide +kernel, rfl, by decide +kernel, by decide +kernel⟩

-- top 25  slots: 0:value
abbrev s_is_rule : Stmt := topS 25
abbrev N_is_rule : List Str := ["value"]
theorem sc_is_rule : FnScope N_is_rule ["value"] (defScope s_is_rule) := ⟨rfl, rfl, rfl, by decide +kernel, rfl, by decide +kernel, by decide +kernel⟩


-- top 57  slots: 0:_law_source_here 1:_law_many 2:_law_mletters 3:_law_msize 4:_law_at 5:_law_first 6:_law_step 7:_law_found 8:_law_k 9:_law_signs_here
abbrev s_law_names : Stmt := topS 57
abbrev N_law_names : List Str := ["_law_source_here", "_law_many", "_law_mletters", "_law_msize", "_law_at", "_law_first", "_law_step", "_law_found", "_law_k", "_law_signs_here"]
theorem sc_law_names : FnScope N_law_names ["_law_source_here", "_law_many"] (defScope s_law_names) := ⟨rfl, rfl, rfl, by decide +kernel, rfl, by decide +kernel, by decide +kernel⟩

abbrev NLs : Str := "abcdefghijklmnopqrstuvwxyz"
def inNL (c : Nat) : Bool := decide (c ∈ tl NLs)
def nmS (x : Str) : Bool := decide (1 ≤ x.length) && (decide (x.length ≤ 6) && (tl x).all inNL)
def isNm : PyData → Bool
  | .str x => nmS x
  | _ => false
def isGl : PyData → Bool
  | .tuple [l, r] => tmB l && tmB r
  | _ => false
def isRl : PyData → Bool
  | .tuple [n, l, r] => isNm n && (tmB l && tmB r)
  | _ => false
def spIsName (K : PySem.W.Frag) : Sp := fun vs H Q _ => ∃ (v : V) (d : PyData), vs = [v] ∧ Dp K H v d ∧ gd 20 d = true ∧ ∀ H', Same H H' → Q (.bl (isNm d)) H'
def spIsGoal (K : PySem.W.Frag) : Sp := fun vs H Q _ => ∃ (v : V) (d : PyData), vs = [v] ∧ Dp K H v d ∧ gd 20 d = true ∧ ∀ H', Same H H' → Q (.bl (isGl d)) H'
def spIsRule (K : PySem.W.Frag) : Sp := fun vs H Q _ => ∃ (v : V) (d : PyData), vs = [v] ∧ Dp K H v d ∧ gd 20 d = true ∧ ∀ H', Same H H' → Q (.bl (isRl d)) H'
def spLIsName : Sp := fun vs H Q _ => ∃ x : Str, vs = [.str x] ∧ x.length ≤ 100000 ∧ ∀ H', Same H H' → Q (.bl (nmS x)) H'
/-- the names that are drawn -/
def spNames : Sp := fun vs H Q _ => ∃ (a L : Addr) (ns : List Int) (n : Int), vs = [.ref a, .int n] ∧ Src H a L ns ∧ 0 ≤ n ∧ n ≤ 26 ∧
  ∀ (H' : Hp) (p : Addr) (ss : List Str), ss.length = n.toNat → (∀ x ∈ ss, nmS x = true) → ss.Nodup → H p = none → H' p = some (.lst (ss.map V.str)) → Src H' a L ns → SmX [a] H H' → Q (.ref p) H'
theorem gd_str_len {n : Nat} {x : Str} (h : gd n (.str x) = true) : x.length ≤ 100000 := by
  cases n <;> (simp only [gd, Bool.and_eq_true, decide_eq_true_eq] at h; exact h.2)
section
variable {P : Program} {w : World} {K : PySem.W.Frag} {mg : Str → Option Value} {base : Heap}
theorem ok_is_name {f : Addr} {fd : FuncData} {k : Nat} (F : Fun K "is_name" "is_name" s_is_name f fd) (m_isinstance : mg "isinstance" = none) (m_str : mg "str" = none) (m_len : mg "len" = none) (m_all : mg "all" = none)
    {t6 t26 : Tok} (g_MAX_NAME : mg "MAX_NAME" = some (.int 6 t6)) (g_NAME_LETTERS : mg "NAME_LETTERS" = some (.str "abcdefghijklmnopqrstuvwxyz" t26)) :
    FnOk P w K mg base CX0 (k + 1) f fd ["text"] (spIsName K) := by
  refine F.ok sc_is_name (fun vs H Q E h => ?_) (fun cdv A outer s H vs Q E hr h => ?_)
  · obtain ⟨v, d, rfl, _⟩ := h
    rfl
  · obtain ⟨v, d, rfl, hd, hg, q⟩ := h
    refine ⟨_, (pss_cons (ps_if (PW.pt (pw_or (pt_not (pt_val (pe_isD (T := "str") (by rfl) m_isinstance (by rfl) m_str (pv 0)))) (pw_or (pt_cmpR op_lt (pe_callB call_len_str (by rfl) m_len (by decide +kernel) (pa_cons (pv 0) pa_nil)) pe_int (nomark _)) (pw_or1 (pt_cmpR op_gt (pe_callB call_len_str (by rfl) m_len (by decide +kernel) (pa_cons (pv 0) pa_nil)) (pe_glob (v := .int 6) (by rfl) g_MAX_NAME (⟨_, rfl⟩)) (nomark _))))))
        (pss_one (ps_ret pe_bl))
        pss_nil)
      (pss_one (ps_ret (pe_callB (cr_all rfl) (by rfl) m_all (by decide +kernel) (pa_cons (pe_lc (own := [("letter", 1)]) (g := gName 1) (by rfl) sc_is_name.nd (pi_str (pv 0)) (blkOk_by (own := [("letter", 1)]) (N := N_is_name) (sc := defScope s_is_name) (by decide +kernel)) (fun _ _ _ _ _ => pg_name (i := 1) sc_is_name.nd rfl (Or.inl rfl)) (fun _ _ _ _ _ => pts_nil) (fun _ _ _ _ _ => (pe_cmpR op_in_sign (pv 1) (pe_glob (v := .str "abcdefghijklmnopqrstuvwxyz") (by rfl) g_NAME_LETTERS (⟨_, rfl⟩)) (by rfl)))) pa_nil))))), ?_⟩
    refine ⟨_, rfl, _, _, d, rfl, by decide, hd, _, rfl, ?_⟩
    have q0 := q H (Same.refl H)
    cases d with
    | str x =>
      cases hd
      have fx := len_ok hg
      have lx := gd_str_len hg
      have ex : isNm (.str x) = nmS x := rfl
      rw [ex] at q q0
      unfold nmS at q q0
      refine iteF ⟨_, rfl, x, rfl, fx, _, _, rfl, rfl, _, rfl, ?_⟩
      refine ite2 (fun c => iteT ?_) (fun c => ?_)
      · have c1 : ¬ 1 ≤ x.length := by have := of_decide_eq_true c; omega
        rw [decide_eq_false c1, Bool.false_and] at q0
        exact q0
      · have c1 : 1 ≤ x.length := by have := of_decide_eq_false (Bool.eq_false_iff.mpr c); omega
        rw [decide_eq_true c1, Bool.true_and] at q0
        simp only [decide_eq_true c1, Bool.true_and] at q
        refine ⟨_, rfl, x, rfl, fx, _, _, rfl, rfl, _, rfl, ?_⟩
        refine ite2 (fun c => ?_) (fun c => ?_)
        · have c2 : ¬ x.length ≤ 6 := by have := of_decide_eq_true c; omega
          rw [decide_eq_false c2, Bool.false_and] at q0
          exact q0
        · have c2 : x.length ≤ 6 := by have := of_decide_eq_false (Bool.eq_false_iff.mpr c); omega
          simp only [decide_eq_true c2, Bool.true_and] at q
          refine ⟨_, rfl, x, rfl, fun D nD => lc_it (walk_str (z := x)) (fun i H1 => Same H H1 ∧ H1 D = some (.lst ((((tl x).take i).map inNL).map V.bl))) ?_ ?_ ?_ ?_⟩
          · exact ⟨same_upd nD, by rw [upd_same]; rfl⟩
          · exact fun _ _ _ _ => trivial
          · rintro i y H1 H2 hi ⟨sm, e⟩ ⟨rfl, ch, hch, rfl⟩
            have hch' : (tl x)[i]? = some ch := by rw [← hch]; exact Array.getElem?_toList ..
            refine ⟨rfl, ?_⟩
            dsimp only [tYes]
            rw [if_pos rfl]
            refine ⟨_, rfl, ch, _, rfl, rfl, _, e, ?_, fun b o eb => ?_, ?_⟩
            · rw [List.length_map, List.length_map, List.length_take]; have := len_tl x; exact small1000 (by omega)
            · rw [upd_ne (ne_of_none eb nD)]; exact sm _ _ eb
            · rw [upd_same, List.take_add_one, hch']; simp [inNL]
          · rintro H1 ⟨sm, e⟩
            have et : (tl x).take x.cps.size = tl x := List.take_of_length_le (by rw [← len_tl]; exact Nat.le_refl _)
            rw [et] at e
            refine ⟨D, _, rfl, SqL.of e, ?_⟩
            rw [List.all_map]
            exact q H1 sm
    | _ => exact iteT (iteT q0)
theorem ok_is_goal {f : Addr} {fd : FuncData} {k : Nat} (F : Fun K "is_goal" "is_goal" s_is_goal f fd) (m_isinstance : mg "isinstance" = none) (m_tuple : mg "tuple" = none) (m_len : mg "len" = none)
    (C_T0 : OwnD P w K mg base k "is_term" PsT [.int 5, .int 24] (spIsTerm K)) :
    FnOk P w K mg base CX0 (k + 1) f fd ["value"] (spIsGoal K) := by
  refine F.ok sc_is_goal (fun vs H Q E h => ?_) (fun cdv A outer s H vs Q E hr h => ?_)
  · obtain ⟨v, d, rfl, _⟩ := h
    rfl
  · obtain ⟨v, d, rfl, hd, hg, q⟩ := h
    refine ⟨_, (pss_one (ps_ret (pe_and (pe_isD (T := "tuple") (by rfl) m_isinstance (by rfl) m_tuple (pv 0)) (pe_and (pe_cmpR op_eq (pe_callB call_len_seq (by rfl) m_len (by decide +kernel) (pa_cons (pv 0) pa_nil)) pe_int (nomark _)) (pe_and (pe_ownD C_T0 (hr.mono (by omega)) (by rfl) (pa_cons (pe_ix ix_tup (pv 0) pe_int (fun _ _ => rfl)) pa_nil)) (pe_one (pe_ownD C_T0 (hr.mono (by omega)) (by rfl) (pa_cons (pe_ix ix_tup (pv 0) pe_int (fun _ _ => rfl)) pa_nil)))))))), ?_⟩
    have q0 := q H (Same.refl H)
    refine ⟨_, rfl, _, _, d, rfl, by decide, hd, _, rfl, ?_⟩
    cases d with
    | tuple ds =>
      obtain ⟨a, xs, rfl, hs, ha⟩ : ∃ a xs, v = .ref a ∧ SqT K H a xs ∧ DpAll K H xs ds := by
        cases hd with | tup hs ha => exact ⟨_, _, rfl, hs, ha⟩
      have hl := dpAll_len ha
      have gds := (gd_tuple hg).2
      refine iteT ⟨_, rfl, a, xs, rfl, .inr hs, rfl, _, rfl, ?_⟩
      rw [hl]
      match ds, ha, q, q0, hl, gds with
      | [], ha, q, q0, hl, _ => exact iteF q0
      | [_], ha, q, q0, hl, _ => exact iteF q0
      | [l, r], ha, q, q0, hl, gds =>
        refine iteT ?_
        cases ha with
        | @cons x0 _ _ _ h0 ha =>
          cases ha with
          | @cons x1 _ _ _ h1 ha =>
            cases ha
            have g0 := gd_le (gds l (List.mem_cons_self ..)) (show 19 ≤ 20 by decide)
            have g1 := gd_le (gds r (List.mem_cons_of_mem _ (List.mem_cons_self ..))) (show 19 ≤ 20 by decide)
            have ex : isGl (.tuple [l, r]) = (tmB l && tmB r) := rfl
            rw [ex] at q
            refine ⟨_, rfl, a, _, _, x0, rfl, rfl, hs, at0, x0, l, 5, 24, rfl, h0, g0, by decide, by decide, fun H1 s1 => ⟨_, rfl, ?_⟩⟩
            show if tmB l = true then _ else _
            cases htl : tmB l with
            | false =>
              rw [htl, Bool.false_and] at q
              exact iteF (q H1 s1)
            | true =>
              rw [htl, Bool.true_and] at q
              refine iteT ⟨_, rfl, a, _, _, x1, rfl, rfl, same_seqT s1 hs, atI_nat (j := 1) rfl, x1, r, 5, 24, rfl, dp_same s1 _ _ h1, g1, by decide, by decide, fun H2 s2 => ?_⟩
              exact q H2 (s1.trans s2)
      | _ :: _ :: _ :: ds, ha, q, q0, hl, _ =>
        rw [decide_eq_false (fun z => by have := V.int.inj z; simp only [List.length_cons] at this; omega)]
        exact iteF q0
    | _ => exact iteF q0
theorem ok_is_rule {f : Addr} {fd : FuncData} {k : Nat} (F : Fun K "is_rule" "is_rule" s_is_rule f fd) (m_isinstance : mg "isinstance" = none) (m_tuple : mg "tuple" = none) (m_len : mg "len" = none)
    (C_is_name : Own P w K mg base k "is_name" ["text"] (spIsName K)) (C_is_goal : Own P w K mg base k "is_goal" ["value"] (spIsGoal K)) :
    FnOk P w K mg base CX0 (k + 1) f fd ["value"] (spIsRule K) := by
  refine F.ok sc_is_rule (fun vs H Q E h => ?_) (fun cdv A outer s H vs Q E hr h => ?_)
  · obtain ⟨v, d, rfl, _⟩ := h
    rfl
  · obtain ⟨v, d, rfl, hd, hg, q⟩ := h
    refine ⟨_, (pss_one (ps_ret (pe_and (pe_isD (T := "tuple") (by rfl) m_isinstance (by rfl) m_tuple (pv 0)) (pe_and (pe_cmpR op_eq (pe_callB call_len_seq (by rfl) m_len (by decide +kernel) (pa_cons (pv 0) pa_nil)) pe_int (nomark _)) (pe_and (pe_own C_is_name (hr.mono (by omega)) (by rfl) (pa_cons (pe_ix ix_tup (pv 0) pe_int (fun _ _ => rfl)) pa_nil)) (pe_one (pe_own C_is_goal (hr.mono (by omega)) (by rfl) (pa_cons (pe_slice sl_tup (pv 0) (po_some pe_int) po_none) pa_nil)))))))), ?_⟩
    have q0 := q H (Same.refl H)
    refine ⟨_, rfl, _, _, d, rfl, by decide, hd, _, rfl, ?_⟩
    cases d with
    | tuple ds =>
      obtain ⟨a, xs, rfl, hs, ha⟩ : ∃ a xs, v = .ref a ∧ SqT K H a xs ∧ DpAll K H xs ds := by
        cases hd with | tup hs ha => exact ⟨_, _, rfl, hs, ha⟩
      have hl := dpAll_len ha
      have gds := (gd_tuple hg).2
      refine iteT ⟨_, rfl, a, xs, rfl, .inr hs, rfl, _, rfl, ?_⟩
      rw [hl]
      match ds, ha, q, q0, hl, gds with
      | [], ha, q, q0, hl, _ => exact iteF q0
      | [_], ha, q, q0, hl, _ => exact iteF q0
      | [_, _], ha, q, q0, hl, _ => exact iteF q0
      | [n, l, r], ha, q, q0, hl, gds =>
        refine iteT ?_
        cases ha with
        | @cons x0 xr _ _ h0 ha =>
          have g0 := gd_le (gds n (List.mem_cons_self ..)) (show 19 ≤ 20 by decide)
          have ex : isRl (.tuple [n, l, r]) = (isNm n && isGl (.tuple [l, r])) := rfl
          rw [ex] at q
          refine ⟨_, rfl, a, _, _, x0, rfl, rfl, hs, at0, x0, n, rfl, h0, g0, fun H1 s1 => ⟨_, rfl, ?_⟩⟩
          cases htl : isNm n with
          | false =>
            rw [htl, Bool.false_and] at q
            exact iteF (q H1 s1)
          | true =>
            rw [htl, Bool.true_and] at q
            refine iteT ⟨_, rfl, 1, rfl, a, _, rfl, same_seqT s1 hs, ?_, fun p np => ?_⟩
            · rw [show HT.sIx (x0 :: xr).length 0 (some 1) = min 1 (x0 :: xr).length from HT.sIx_nat _ 0 1, List.length_cons]
              omega
            have ec : cutV (x0 :: xr) (some 1) none = xr := by rw [cut_drop1]; rfl
            rw [ec]
            have s2 := same_upd (o := .tup xr) np
            refine ⟨.ref p, .tuple [l, r], rfl, .tup (SqT.of upd_same) (dpAll_same (s1.trans s2) _ _ ha), ?_, fun H2 s3 => q H2 (s1.trans (s2.trans s3))⟩
            exact gd_tup (n := 19) (fun d hd => gds d (List.mem_cons_of_mem _ hd)) (by show 2 ≤ 1000; decide)
      | _ :: _ :: _ :: _ :: ds, ha, q, q0, hl, _ =>
        rw [decide_eq_false (fun z => by have := V.int.inj z; simp only [List.length_cons] at this; omega)]
        exact iteF q0
    | _ => exact iteF q0
end
end Fv


namespace Fv
open PySem PySem.Spec PyProof.Rows L2 FvX TL
/-! ### the names that are drawn -/
def cNL (i : Nat) : Nat := (tl NLs).getD i 97
def nameK (m at' : Nat) (f st : Int) (k : Nat) : List Nat := (List.replicate m (cNL f.toNat)).set at' (cNL ((f + 1 + st * (k : Nat)) % 26).toNat)
theorem nl_len : (tl NLs).length = 26 := by decide +kernel
theorem cNL_at {i : Int} (h0 : 0 ≤ i) (h : i < 26) : atI (tl NLs) i = some (cNL i.toNat) := by
  have hk : i.toNat < (tl NLs).length := by rw [nl_len]; omega
  have q : atI (tl NLs) ((i.toNat : Nat) : Int) = some (tl NLs)[i.toNat] := atI_nat (List.getElem?_eq_getElem hk)
  rw [show ((i.toNat : Nat) : Int) = i by omega] at q
  rw [q]
  unfold cNL
  rw [List.getD_eq_getElem?_getD, List.getElem?_eq_getElem hk]
  rfl
theorem cNL_in {i : Nat} (h : i < 26) : inNL (cNL i) = true := by
  have all : ∀ i < 26, inNL (cNL i) = true := by decide +kernel
  exact all i h
theorem cNL_inj {i j : Nat} (hi : i < 26) (hj : j < 26) (h : cNL i = cNL j) : i = j := by
  have all : ∀ i < 26, ∀ j < 26, cNL i = cNL j → i = j := by decide +kernel
  exact all i hi j hj h
theorem step_inj {f st : Int} (hs : st ∈ ([1, 3, 5, 7, 9, 11, 15] : List Int)) {k k' : Nat} (hk : k < 26) (hk' : k' < 26) (h : (f + 1 + st * (k : Nat)) % 26 = (f + 1 + st * (k' : Nat)) % 26) : k = k' := by
  simp only [List.mem_cons, List.not_mem_nil, or_false] at hs
  rcases hs with rfl | rfl | rfl | rfl | rfl | rfl | rfl <;> omega
theorem nameK_ok {m at' : Nat} {f st : Int} {k : Nat} (hm : 1 ≤ m) (hm6 : m ≤ 6) (f0 : 0 ≤ f) (f1 : f < 26) : nmS (mk (nameK m at' f st k)) = true := by
  unfold nmS
  have l : (mk (nameK m at' f st k)).length = m := by
    rw [mk_len]; unfold nameK; rw [List.length_set, List.length_replicate]
  rw [l, decide_eq_true hm, decide_eq_true hm6, Bool.true_and, Bool.true_and, List.all_eq_true]
  intro c hc
  have hc' : c ∈ nameK m at' f st k := hc
  unfold nameK at hc'
  rcases List.mem_or_eq_of_mem_set hc' with z | z
  · rw [(List.mem_replicate.mp z).2]; exact cNL_in (by omega)
  · rw [z]
    refine cNL_in ?_
    have a1 := Int.emod_nonneg (f + 1 + st * (k : Nat)) (show (26 : Int) ≠ 0 by decide)
    have a2 := Int.emod_lt_of_pos (f + 1 + st * (k : Nat)) (show (0 : Int) < 26 by decide)
    omega
theorem nameK_inj {m at' : Nat} {f st : Int} {k k' : Nat} (ha : at' < m) (hs : st ∈ ([1, 3, 5, 7, 9, 11, 15] : List Int)) (hk : k < 26) (hk' : k' < 26) (h : mk (nameK m at' f st k) = mk (nameK m at' f st k')) : k = k' := by
  have e : nameK m at' f st k = nameK m at' f st k' := congrArg tl h
  have e2 := congrArg (fun l => l[at']?) e
  unfold nameK at e2
  simp only [List.getElem?_set_self (show at' < (List.replicate m (cNL f.toNat)).length by rw [List.length_replicate]; exact ha)] at e2
  have e3 := Option.some.inj e2
  have a1 := Int.emod_nonneg (f + 1 + st * (k : Nat)) (show (26 : Int) ≠ 0 by decide)
  have a2 := Int.emod_lt_of_pos (f + 1 + st * (k : Nat)) (show (0 : Int) < 26 by decide)
  have b1 := Int.emod_nonneg (f + 1 + st * (k' : Nat)) (show (26 : Int) ≠ 0 by decide)
  have b2 := Int.emod_lt_of_pos (f + 1 + st * (k' : Nat)) (show (0 : Int) < 26 by decide)
  have e4 := cNL_inj (by omega) (by omega) e3
  exact step_inj (f := f) hs hk hk' (by omega)
theorem join_empty : ∀ l : List Nat, Txt.join "" (l.map fun c => (⟨#[c]⟩ : Str)) = mk l := fun l => by
  refine ext_tl ?_
  rw [join_eq, tl_join, List.map_map]
  have e : ∀ l : List Nat, joinL (tl "") (l.map (tl ∘ fun c => (⟨#[c]⟩ : Str))) = l := fun l => by
    induction l with
    | nil => rfl
    | cons c l ih =>
      cases l with
      | nil => rfl
      | cons c2 l =>
        show [c] ++ (tl "" ++ joinL (tl "") ((c2 :: l).map (tl ∘ fun c => (⟨#[c]⟩ : Str)))) = _
        rw [ih]
        rfl
  exact e l
theorem pos26 : (0 : Int) < 26 := by decide
theorem sum_ones : ∀ l : List Nat, ((l.map fun c => (⟨#[c]⟩ : Str)).map (·.length)).sum = l.length
  | [] => rfl
  | c :: l => by rw [List.map_cons, List.map_cons, List.sum_cons, sum_ones l, List.length_cons]; show 1 + _ = _; omega
section
variable {P : Program} {w : World} {K : PySem.W.Frag} {mg : Str → Option Value} {base : Heap}
theorem ok_names {f : Addr} {fd : FuncData} {k : Nat} (F : Fun K "_law_names" "_law_names" s_law_names f fd) (m_range : mg "range" = none) (m_int : mg "int" = none) (hk : 2 ≤ k)
    (C_law_take : Own P w K mg base 1 "_law_take" ["_law_source_here", "_law_many"] spTake)
    (C_law_pick : Own P w K mg base 2 "_law_pick" ["_law_source_here", "_law_row"] spPick) :
    FnOk P w K mg base CX0 (k + 1) f fd ["_law_source_here", "_law_many"] spNames := by
  refine F.ok sc_law_names (fun vs H Q E h => ?_) (fun cdv A outer s H vs Q E hr h => ?_)
  · obtain ⟨a, L, ns, n, rfl, _⟩ := h
    rfl
  · obtain ⟨a, L, ns, n, rfl, hs, n0, n26, q⟩ := h
    refine ⟨_, (pss_cons (ps_set (i := 2) sc_law_names.nd rfl (by first | exact .inl rfl | exact .inr rfl) pe_str)
      (pss_cons (ps_set (i := 3) sc_law_names.nd rfl (by first | exact .inl rfl | exact .inr rfl) (pe_op op_add pe_int (pe_own C_law_take (hr.mono (by omega)) (by rfl) (pa_cons (pv 0) (pa_cons pe_int pa_nil)))))
      (pss_cons (ps_set (i := 4) sc_law_names.nd rfl (by first | exact .inl rfl | exact .inr rfl) (pe_own C_law_take (hr.mono (by omega)) (by rfl) (pa_cons (pv 0) (pa_cons (pv 3) pa_nil))))
      (pss_cons (ps_set (i := 5) sc_law_names.nd rfl (by first | exact .inl rfl | exact .inr rfl) (pe_own C_law_take (hr.mono (by omega)) (by rfl) (pa_cons (pv 0) (pa_cons pe_int pa_nil))))
      (pss_cons (ps_set (i := 6) sc_law_names.nd rfl (by first | exact .inl rfl | exact .inr rfl) (pe_own C_law_pick (hr.mono (by omega)) (by rfl) (pa_cons (pv 0) (pa_cons (pe_lst (pa_cons pe_int (pa_cons pe_int (pa_cons pe_int (pa_cons pe_int (pa_cons pe_int (pa_cons pe_int (pa_cons pe_int pa_nil)))))))) pa_nil))))
      (pss_cons (ps_set (i := 7) sc_law_names.nd rfl (by first | exact .inl rfl | exact .inr rfl) (pe_lst pa_nil))
      (pss_cons (ps_for PassesOwn.never rfl (pi_range1 (by rfl) m_range (pa_cons (pv 1) pa_nil)) (pg_name (i := 8) sc_law_names.nd rfl (by first | exact .inl rfl | exact .inr rfl))
        (pss_cons (ps_set (i := 9) sc_law_names.nd rfl (by first | exact .inl rfl | exact .inr rfl) (pe_op op_rep (pe_lst (pa_cons (pe_ix ix_str (pv 2) (pv 5) (fun _ _ => rfl)) pa_nil)) (pv 3)))
        (pss_cons (ps_asg (pe_ix ix_str (pv 2) (pe_op op_mod (pe_callTy call_int1 (by rfl) m_int (by decide +kernel) (pa_cons (pe_op op_add (pe_op op_add (pv 5) pe_int) (pe_op op_mul (pv 6) (pv 8))) pa_nil)) pe_int) (fun _ _ => rfl)) (pg_sub (pv 9) (pv 4) set_list))
        (pss_one (ps_expr (pe_bm PySem.F.plainAttrs_list PySem.F.slot_list_append PySem.F.type_list_append mt_append (pv 7) (pa_cons (pe_join pe_str (pv 9)) pa_nil)))))))
      (pss_one (ps_ret (pv 7)))))))))), ?_⟩
    have ma : ∀ {a : Addr}, a ∈ [a] := List.mem_singleton.mpr rfl
    refine ⟨_, rfl, a, L, ns, 6, rfl, hs, by decide, by decide, fun H1 d1 a1 b1 hs1 off1 => ⟨_, _, rfl, rfl, ?_⟩⟩
    refine ⟨_, rfl, _, rfl, a, L, ns, 1 + d1, rfl, hs1, by omega, by omega, fun H2 d2 a2 b2 hs2 off2 => ?_⟩
    refine ⟨_, rfl, a, L, ns, 26, rfl, hs2, by decide, by decide, fun H3 d3 a3 b3 hs3 off3 => ?_⟩
    refine ⟨_, rfl, (by show 7 ≤ sizeLine; decide), fun r nr => ?_⟩
    have sr := same_upd (o := .lst [.int 1, .int 3, .int 5, .int 7, .int 9, .int 11, .int 15]) nr
    refine ⟨a, L, r, ns, _, rfl, hs3.same sr, (hs3.ne nr).symm, upd_same, by decide, by decide, fun H4 v hv hs4 off4 => ?_⟩
    obtain ⟨st, hst, rfl⟩ : ∃ st : Int, st ∈ ([1, 3, 5, 7, 9, 11, 15] : List Int) ∧ v = .int st := by
      simp only [List.mem_cons, List.not_mem_nil, or_false] at hv
      rcases hv with rfl | rfl | rfl | rfl | rfl | rfl | rfl <;> exact ⟨_, by decide, rfl⟩
    have sm4 : SmX [a] H H4 := (SmX.at off1 ma).trans ((SmX.at off2 ma).trans ((SmX.at off3 ma).trans ((SmX.of_same sr).trans (SmX.at off4 ma))))
    have st15 : 0 ≤ st ∧ st ≤ 15 := by
      simp only [List.mem_cons, List.not_mem_nil, or_false] at hst
      omega
    refine ⟨Nat.zero_le _, fun p np => ?_⟩
    have npH : H p = none := by
      cases hh : H p with
      | none => rfl
      | some o =>
        by_cases e : p = a
        · rw [e] at np
          obtain ⟨_, _, _, _, e', _⟩ := hs4
          rw [e'] at np; cases np
        · rw [sm4 p o (fun z => e (List.mem_singleton.mp z)) hh] at np; cases np
    have pa : p ≠ a := (hs4.ne np).symm
    have pL : p ≠ L := fun z => by
      obtain ⟨_, _, _, _, _, e, _⟩ := hs4
      rw [← z, np] at e; cases e
    refine ⟨_, rfl, n, rfl, by omega, by omega, for_range (lo := 0) (n := n.toNat) (fun i σ Hi => ∃ y8 y9 : Option V, σ = [some (.ref a), some (.int n), some (.str NLs), some (.int (1 + d1)), some (.int d2), some (.int d3), some (.int st), some (.ref p), y8, y9] ∧ Src Hi a L ns ∧ SmX [a] H Hi ∧ Hi p = some (.lst (((List.range i).map fun k => mk (nameK (1 + d1).toNat d2.toNat d3 st k)).map V.str))) ?_ ?_ ?_⟩
    · exact ⟨none, none, rfl, hs4.new np, sm4.trans (SmX.new np), upd_same⟩
    · rintro i σ Hi hi ⟨y8, y9, rfl, hsi, smi, hp⟩
      have b3' : d3 < 26 := b3
      refine ⟨_, rfl, _, rfl, NLs, _, _, rfl, rfl, (by decide +kernel), cNL_at a3 b3', (by show 1 ≤ sizeLine; decide), fun q1 nq1 => ?_⟩
      have t1 := same_upd (o := .lst [.str ⟨#[cNL d3.toNat]⟩]) nq1
      refine ⟨_, rfl, q1, _, _, rfl, rfl, upd_same, by omega, by omega, ?_, fun q2 nq2 => ?_⟩
      · show 1 * (1 + d1).toNat ≤ sizeLine
        exact Nat.le_trans (show 1 * (1 + d1).toNat ≤ 6 by omega) (by decide)
      have er : (List.replicate (1 + d1).toNat [V.str (⟨#[cNL d3.toNat]⟩ : Str)]).flatten = (List.replicate (1 + d1).toNat (cNL d3.toNat)).map fun c => V.str (⟨#[c]⟩ : Str) := by
        generalize (1 + d1).toNat = m
        induction m with
        | zero => rfl
        | succ m ih => rw [List.replicate_succ, List.flatten_cons, ih, List.replicate_succ]; rfl
      rw [er]
      have t2 := same_upd (o := .lst ((List.replicate (1 + d1).toNat (cNL d3.toNat)).map fun c => V.str (⟨#[c]⟩ : Str))) nq2
      have m0 := Int.emod_nonneg (d3 + 1 + st * (0 + (i : Nat))) (show (26 : Int) ≠ 0 by decide)
      have m1 := Int.emod_lt_of_pos (d3 + 1 + st * (0 + (i : Nat))) pos26
      have hi26 : i < 26 := by omega
      refine ⟨_, rfl, _, rfl, _, _, rfl, rfl, _, rfl, _, rfl, _, _, rfl, rfl, .inl ⟨by omega, by omega⟩, _, _, rfl, rfl, .inl ⟨_, rfl, _, _, rfl, rfl, pos26, NLs, _, _, rfl, rfl, (by decide +kernel), cNL_at m0 m1, _, rfl, _, rfl, q2, _, _, d2.toNat, rfl, rfl, upd_same, ?_, ?_⟩⟩
      · rw [List.length_map, List.length_replicate]
        unfold ixN
        rw [if_pos a2, if_pos (by omega)]
      have e0 : d3 + 1 + st * (0 + (i : Int)) = d3 + 1 + st * (i : Nat) := by rw [Int.zero_add]
      have es : ((List.replicate (1 + d1).toNat (cNL d3.toNat)).map fun c => V.str (⟨#[c]⟩ : Str)).set d2.toNat (V.str ⟨#[cNL ((d3 + 1 + st * (0 + (i : Int))) % 26).toNat]⟩) = ((nameK (1 + d1).toNat d2.toNat d3 st i).map fun c => (⟨#[c]⟩ : Str)).map V.str := by
        unfold nameK
        rw [e0, List.map_map, List.map_set]
        rfl
      rw [es]
      generalize hH7 : upd _ q2 (.lst (((nameK (1 + d1).toNat d2.toNat d3 st i).map fun c => (⟨#[c]⟩ : Str)).map V.str)) = H7
      have q2H : Hi q2 = none := t1.free nq2
      have s7 : Same Hi H7 := fun b o e => by
        rw [← hH7, upd_ne (ne_of_none e q2H)]
        exact t2 _ _ (t1 _ _ e)
      have hq7 : H7 q2 = some (.lst (((nameK (1 + d1).toNat d2.toNat d3 st i).map fun c => (⟨#[c]⟩ : Str)).map V.str)) := by rw [← hH7, upd_same]
      have hp7 := s7 _ _ hp
      have lk : (nameK (1 + d1).toNat d2.toNat d3 st i).length ≤ 6 := by unfold nameK; rw [List.length_set, List.length_replicate]; omega
      refine ⟨_, rfl, .inl ⟨rfl, _, SqL.of hp7⟩, ⟨_, rfl⟩, _, rfl, _, q2, (nameK (1 + d1).toNat d2.toNat d3 st i).map fun c => (⟨#[c]⟩ : Str), rfl, rfl, .inl (SqL.of hq7), ?_, p, _, _, rfl, rfl, hp7, ?_, ?_⟩
      · rw [sum_ones, List.length_map]
        have e1 : ("" : Str).length = 0 := rfl
        rw [e1]
        omega
      · rw [List.length_map, List.length_map, List.length_range]; exact small1000 (by omega)
      · rw [join_empty]
        refine ⟨_, _, rfl, (hsi.same s7).put pa pL, ?_, ?_⟩
        · intro b o nb e
          rw [upd_ne (ne_of_none e npH)]
          exact s7 _ _ (smi _ _ nb e)
        · rw [upd_same, List.range_succ, List.map_append, List.map_append]
          rfl
    · rintro σ Hi ⟨y8, y9, rfl, hsi, smi, hp⟩
      refine ⟨_, rfl, q Hi p _ ?_ ?_ ?_ npH hp hsi smi⟩
      · rw [List.length_map, List.length_range]
      · intro x hx
        obtain ⟨j, hj, rfl⟩ := List.mem_map.mp hx
        exact nameK_ok (by omega) (by omega) a3 b3
      · refine List.Pairwise.map (R := fun i j => i < 26 ∧ j < 26 ∧ i ≠ j) _ (fun i j ⟨hi, hj, ne⟩ z => ne (nameK_inj (by omega) hst hi hj z)) ?_
        have h1 : (List.range n.toNat).Pairwise (· ≠ ·) := List.nodup_range
        refine List.Pairwise.imp_of_mem ?_ h1
        intro i j hi hj ne
        rw [List.mem_range] at hi hj
        exact ⟨by omega, by omega, ne⟩
end
end Fv


set_option maxHeartbeats 2000000
namespace FvD
open PySem PySem.Spec PyProof.Rows L2
/-! ### a dict whose keys are data: letters and nested tuples side by side -/
/-- a key, the value that stands for it, what is stored -/
abbrev KE3 := NestedKey × Value × Value
def entD (w : World) (x : KE3) : DictEntry := ⟨x.1.hash w, x.2.1, x.2.2⟩
/-- how a search ends -/
structure Ans (xs : List KE3) (k : NestedKey) (Q : Option Nat → Shared → Prop) (s : Shared) : Prop where
  no : (∀ x ∈ xs, x.1 ≠ k) → Q none s
  yes : ∀ j x, xs[j]? = some x → x.1 = k → Q (some j) s
section
variable {prog : Program} {w : World} {A : Around} {E : Value → Shared → Prop} {s : Shared} {es : Array DictEntry} {xs : List KE3} {k : NestedKey} {u : Value}
theorem ent_at (he : es.toList = xs.map (entD w)) (j : Nat) : es[j]? = (xs[j]?).map (entD w) := by
  rw [← Array.getElem?_toList, he, List.getElem?_map]
theorem ent_size (he : es.toList = xs.map (entD w)) : es.size = xs.length := by
  rw [← Array.length_toList, he, List.length_map]
theorem key_once (hn : (xs.map (·.1)).Nodup) {i j : Nat} {x y : KE3} (hi : xs[i]? = some x) (hj : xs[j]? = some y) (e : x.1 = y.1) : i = j := by
  have a : (xs.map (·.1))[i]? = some x.1 := by rw [List.getElem?_map, hi]; rfl
  have b : (xs.map (·.1))[j]? = some x.1 := by rw [List.getElem?_map, hj, e]; rfl
  exact (List.getElem?_inj (List.getElem?_eq_some_iff.mp a).1 hn).mp (a.trans b.symm)
/-- the places with this hash -/
def plc (w : World) (es : Array DictEntry) (k : NestedKey) : List Nat := placesWithHash es.size (fun i => es[i]?.map (·.hash)) (k.hash w)
theorem plc_mem {j : Nat} : j ∈ plc w es k ↔ j < es.size ∧ ((es[j]?.map (·.hash)) == some (k.hash w)) = true := by
  unfold plc placesWithHash
  rw [List.mem_filter, List.mem_range]
theorem plc_nodup : (plc w es k).Nodup := by
  unfold plc placesWithHash
  exact List.Pairwise.filter _ List.nodup_range
/-- a key that is there stands at one of these places -/
theorem plc_has (he : es.toList = xs.map (entD w)) {j : Nat} {x : KE3} (hj : xs[j]? = some x) (e : x.1 = k) : j ∈ plc w es k := by
  refine plc_mem.mpr ⟨?_, ?_⟩
  · rw [ent_size he]; exact (List.getElem?_eq_some_iff.mp hj).1
  · rw [ent_at he j, hj, ← e]; simp [entD]
theorem none_there (he : es.toList = xs.map (entD w)) (h : ∀ j ∈ plc w es k, ∀ x, xs[j]? = some x → x.1 ≠ k) : ∀ x ∈ xs, x.1 ≠ k := fun x hx e => by
  obtain ⟨j, hj⟩ := List.mem_iff_getElem?.mp hx
  exact h j (plc_has he hj e) x hj e
end
section
variable {prog : Program} {w : World} {A : Around} {E : Value → Shared → Prop} {s : Shared} {d : Addr} {o : Obj} {es : Array DictEntry} {ep : Nat} {xs : List KE3} {k : NestedKey} {u : Value} {Q : Option Nat → Shared → Prop}
/-- the walk by value -/
theorem walk_plain (hu : A.units + 8 < cLine) (hk : NestedIs s.heap k u) (hkd : k.depth ≤ 8) (ho : s.heap.get? d = some o) (hd : o.data = .dict es ep) (he : es.toList = xs.map (entD w))
    (his : ∀ x ∈ xs, NestedIs s.heap x.1 x.2.1 ∧ x.1.depth ≤ 8) (q : Ans xs k Q s) : wpAny (model prog w) A (dictWalkPlain d u (k.hash w) es (plc w es k)) Q E s := by
  unfold dictWalkPlain
  refine wpAny_bind ?_
  refine wpAny_forIn_list _ (fun rest b s' => s' = s ∧ b = (none, ()) ∧ ∃ done, done ++ rest = plc w es k ∧ ∀ j ∈ done, ∀ x, xs[j]? = some x → x.1 ≠ k) _ ?_ ?_ _ _ ⟨rfl, rfl, [], rfl, fun _ h => nomatch h⟩
  · rintro j rest b s' ⟨rfl, rfl, done, hr, hno⟩
    have hm : j ∈ plc w es k := by rw [← hr]; exact List.mem_append_right _ List.mem_cons_self
    obtain ⟨hj, hp⟩ := plc_mem.mp hm
    obtain ⟨x, hx⟩ : ∃ x, xs[j]? = some x := ⟨xs[j]'(by rw [← ent_size he]; exact hj), List.getElem?_eq_getElem _⟩
    have ex : es[j]? = some (entD w x) := by rw [ent_at he j, hx]; rfl
    rw [ex] at hp ⊢
    dsimp only
    have hh : ((entD w x).hash == k.hash w) = true := by simpa using hp
    rw [if_pos hh]
    obtain ⟨n1, n2⟩ := his x (List.mem_of_getElem? hx)
    refine wpAny_bind (wpAny_dictEpoch ho hd (wpAny_bind (eqAt_key x.1 k A s' _ _ n1 hk (by omega) _ _ _ _ (wpAny_bind (wpAny_dictEpoch ho hd ?_)))))
    show wpAny _ _ (if (ep != ep) = true then _ else _) _ E _
    rw [if_neg (by simp), ← NestedKey.decide_eq]
    by_cases e : x.1 = k
    · rw [decide_eq_true e]
      first | rw [if_pos rfl] | skip
      exact wpAny_bind (wpAny_rule (wpAny_pure (wpAny_pure (q.yes j x hx e))))
    · rw [decide_eq_false e]
      first | rw [if_neg Bool.false_ne_true] | skip
      have nx : ∃ done', done' ++ rest = plc w es k ∧ ∀ i ∈ done', ∀ y, xs[i]? = some y → y.1 ≠ k := ⟨done ++ [j], by rw [← hr, List.append_assoc]; rfl, fun i hi y hy => by
        rcases List.mem_append.mp hi with z | z
        · exact hno i z y hy
        · rw [List.mem_singleton.mp z, hx] at hy
          cases hy
          exact e⟩
      first
        | exact wpAny_bind (wpAny_rule (wpAny_pure ⟨rfl, rfl, nx⟩))
        | exact wpAny_bind (wpAny_pure (wpAny_bind (wpAny_rule (wpAny_pure ⟨rfl, rfl, nx⟩))))
  · rintro b s' ⟨rfl, rfl, done, hr, hno⟩
    rw [List.append_nil] at hr
    exact wpAny_pure (q.no (none_there he fun j hj => hno j (by rw [hr]; exact hj)))
end

section
variable {prog : Program} {w : World} {A : Around} {E : Value → Shared → Prop} {s : Shared} {d : Addr} {o : Obj} {es : Array DictEntry} {ep : Nat} {xs : List KE3} {k : NestedKey} {u : Value} {Q : Option Nat → Shared → Prop}
/-- all keys are texts -/
theorem find_texts {x : Str} {t : Tok} (hu : A.units + 8 < cLine) (ho : s.heap.get? d = some o) (hd : o.data = .dict es ep) (he : es.toList = xs.map (entD w)) (hn : (xs.map (·.1)).Nodup)
    (his : ∀ y ∈ xs, NestedIs s.heap y.1 y.2.1 ∧ y.1.depth ≤ 8) (hall : (es.all fun e => isExactStrKey e.key) = true) (q : Ans xs (.text x) Q s) : wpAny (model prog w) A (foundByValue d (.str x t) es x) Q E s := by
  have isx : ∀ (j : Nat) (hj : j < es.size) (y : KE3), xs[j]? = some y → (es[j].key.isStr x = true ↔ y.1 = .text x) := fun j hj y hy => by
    have ex : es[j]? = some (entD w y) := by rw [ent_at he j, hy]; rfl
    have e2 : es[j] = entD w y := by
      rw [Array.getElem?_eq_getElem hj] at ex
      exact Option.some.inj ex
    have hs : isExactStrKey es[j].key = true := by
      rw [Array.all_eq_true] at hall
      exact hall j hj
    rw [e2] at hs ⊢
    obtain ⟨n1, _⟩ := his y (List.mem_of_getElem? hy)
    show y.2.1.isStr x = true ↔ _
    change isExactStrKey y.2.1 = true at hs
    cases hv : y.2.1 with
    | str z t' =>
      rw [hv] at n1
      have e3 : y.1 = .text z := NestedIs.inj _ _ _ n1 (.text z t')
      rw [e3]
      constructor
      · intro h
        have h' : z = x := by simpa [Value.isStr] using h
        rw [h']
      · intro h
        injection h with h
        rw [h]
        simp [Value.isStr]
    | _ => rw [hv] at hs; cases hs
  unfold foundByValue
  cases hf : es.findIdx? (fun e => e.key.isStr x) with
  | none =>
    refine wpAny_pure (q.no fun y hy e => ?_)
    obtain ⟨j, hj⟩ := List.mem_iff_getElem?.mp hy
    have hlt : j < es.size := by rw [ent_size he]; exact (List.getElem?_eq_some_iff.mp hj).1
    have z := Array.findIdx?_eq_none_iff.mp hf es[j] (Array.getElem_mem hlt)
    rw [(isx j hlt y hj).mpr e] at z
    cases z
  | some i =>
    obtain ⟨hlt, hi, _⟩ := Array.findIdx?_eq_some_iff_getElem.mp hf
    obtain ⟨y, hy⟩ : ∃ y, xs[i]? = some y := ⟨xs[i]'(by rw [← ent_size he]; exact hlt), List.getElem?_eq_getElem _⟩
    have e := (isx i hlt y hy).mp hi
    have ex : es[i]? = some (entD w y) := by rw [ent_at he i, hy]; rfl
    have n1 := (his y (List.mem_of_getElem? hy)).1
    simp only [ex]
    refine wpAny_bind (wpAny_dictEpoch ho hd (wpAny_bind (eqAt_key y.1 (.text x) A s _ _ n1 (.text x t) (by simp only [NestedKey.depth]; omega) _ _ _ _ (wpAny_bind (wpAny_dictEpoch ho hd ?_)))))
    show wpAny _ _ (if (ep != ep) = true then _ else _) _ E _
    rw [if_neg (by simp), ← NestedKey.decide_eq, decide_eq_true e]
    exact wpAny_bind (wpAny_rule (wpAny_pure (q.yes i y hy e)))
theorem may_tell {stored : List Value} {Q : Bool → Shared → Prop} (hk : NestedIs s.heap k u) (hkd : k.depth ≤ 8) (hst : ∀ v ∈ stored, ∃ k' : NestedKey, NestedIs s.heap k' v ∧ k'.depth ≤ 8) (h : Q false s) :
    wpAny (model prog w) A (tableMayTell u stored) Q E s := by
  unfold tableMayTell
  by_cases he : stored.isEmpty = true
  · rw [if_pos he]
    exact wpAny_pure h
  · rw [if_neg he]
    refine wpAny_bind (quiet_key k u 8 s hk hkd A E _ ?_)
    simp only [Bool.not_true, Bool.false_eq_true, if_false]
    refine wpAny_bind (wpAny_forIn_list _ (fun rest r s' => r = (none, ()) ∧ s' = s ∧ ∀ v ∈ rest, ∃ k' : NestedKey, NestedIs s.heap k' v ∧ k'.depth ≤ 8) _ ?_ ?_ _ _ ⟨rfl, rfl, hst⟩)
    · rintro x rest r s' ⟨rfl, rfl, hr⟩
      obtain ⟨k', n1, n2⟩ := hr x List.mem_cons_self
      refine wpAny_bind (quiet_key k' x 8 s' n1 n2 A E _ ?_)
      simp only [Bool.not_true, Bool.false_eq_true, if_false]
      exact wpAny_pure ⟨rfl, rfl, fun v hv => hr v (List.mem_cons_of_mem _ hv)⟩
    · rintro r s' ⟨rfl, rfl, _⟩
      exact wpAny_pure h
/-- the search -/
theorem nd_find (hu : A.units + 8 < cLine) (hk : NestedIs s.heap k u) (hkd : k.depth ≤ 8) (ho : s.heap.get? d = some o) (hd : o.data = .dict es ep) (he : es.toList = xs.map (entD w)) (hn : (xs.map (·.1)).Nodup)
    (his : ∀ x ∈ xs, NestedIs s.heap x.1 x.2.1 ∧ x.1.depth ≤ 8) (q : Ans xs k Q s) : wpAny (model prog w) A (dictFind d u (k.hash w)) Q E s := by
  have hst : ∀ v ∈ (plc w es k).filterMap (fun i => es[i]?.map (·.key)), ∃ k' : NestedKey, NestedIs s.heap k' v ∧ k'.depth ≤ 8 := fun v hv => by
    obtain ⟨i, _, hi⟩ := List.mem_filterMap.mp hv
    rw [ent_at he i] at hi
    cases hx : xs[i]? with
    | none => rw [hx] at hi; cases hi
    | some x =>
      rw [hx] at hi
      have e : x.2.1 = v := Option.some.inj hi
      rw [← e]
      exact ⟨x.1, his x (List.mem_of_getElem? hx)⟩
  have stale : ∀ a, u = .ref a → ¬ (es.any fun e => e.key == u && e.hash != k.hash w) = true := fun a ea h => by
    rw [← Array.any_toList, List.any_eq_true] at h
    obtain ⟨e, hin, hc⟩ := h
    rw [he] at hin
    obtain ⟨x, hx, rfl⟩ := List.mem_map.mp hin
    rw [Bool.and_eq_true] at hc
    obtain ⟨c1, c2⟩ := hc
    have e1 : x.2.1 = u := by simpa [entD] using c1
    have n1 := (his x hx).1
    rw [e1] at n1
    have e2 : x.1 = k := NestedIs.inj _ _ _ n1 hk
    rw [show (entD w x).hash = x.1.hash w from rfl, e2, bne_self_eq_false] at c2
    cases c2
  unfold dictFind
  try with_reducible refine wpAny_holding ?_
  refine wpAny_bind (wpAny_dictEntries ho hd ?_)
  dsimp only
  have fold : placesWithHash es.size (fun i => es[i]?.map (·.hash)) (k.hash w) = plc w es k := rfl
  rw [fold]
  have plain : ∀ {m : Sem (Option Nat)}, m = dictWalkPlain d u (k.hash w) es (plc w es k) → wpAny (model prog w) A m Q E s := fun {m} em => by
    rw [em]
    exact walk_plain hu hk hkd ho hd he his q
  split
  · rename_i x t
    have ek : k = .text x := NestedIs.inj _ _ _ hk (.text x t)
    by_cases hall : (es.all fun e => isExactStrKey e.key) = true
    · rw [if_pos hall]
      subst ek
      exact find_texts hu ho hd he hn his hall q
    · rw [if_neg hall]
      by_cases c : (((Value.str x t) :: (plc w es k).filterMap fun i => es[i]?.map (·.key)).all carriedByValue) = true
      · rw [if_pos c]; exact plain rfl
      · rw [if_neg c]
        dsimp only
        by_cases c2 : (((plc w es k).filterMap fun i => es[i]?.map (·.key)) == [Value.str x t]) = true <;> (first | rw [if_pos c2] | rw [if_neg c2]) <;> (first | refine wpAny_bind (wpAny_pure ?_) | refine wpAny_bind (may_tell hk hkd hst ?_)) <;> (
        rw [if_neg (by simp)]
        refine wpAny_bind ?_
        refine wpAny_forIn_list _ (fun rest b s' => s' = s ∧ ∃ hit done, b = (none, hit) ∧ done ++ rest = plc w es k ∧ ((hit = none ∧ ∀ j ∈ done, ∀ x, xs[j]? = some x → x.1 ≠ k) ∨ ∃ j x, hit = some j ∧ j ∈ done ∧ xs[j]? = some x ∧ x.1 = k)) _ ?_ ?_ _ _ ⟨rfl, none, [], rfl, rfl, .inl ⟨rfl, fun _ h => nomatch h⟩⟩
        · rintro j rest b s' ⟨rfl, hit, done, rfl, hr, hH⟩
          have hm : j ∈ plc w es k := by rw [← hr]; exact List.mem_append_right _ List.mem_cons_self
          obtain ⟨hj, hp⟩ := plc_mem.mp hm
          obtain ⟨x, hx⟩ : ∃ x, xs[j]? = some x := ⟨xs[j]'(by rw [← ent_size he]; exact hj), List.getElem?_eq_getElem _⟩
          have ex : es[j]? = some (entD w x) := by rw [ent_at he j, hx]; rfl
          rw [ex] at hp ⊢
          dsimp only
          have hh : ((entD w x).hash == k.hash w) = true := by simpa using hp
          rw [if_pos hh]
          obtain ⟨n1, n2⟩ := his x (List.mem_of_getElem? hx)
          have more : done ++ [j] ++ rest = plc w es k := by rw [← hr, List.append_assoc]; rfl
          refine wpAny_bind (wpAny_dictEpoch ho hd (wpAny_bind (eqAt_key x.1 k A s' _ _ n1 hk (by omega) _ _ _ _ (wpAny_bind (wpAny_dictEpoch ho hd ?_)))))
          show wpAny _ _ (if (ep != ep) = true then _ else _) _ E _
          rw [if_neg (by simp), ← NestedKey.decide_eq]
          by_cases e : x.1 = k
          · rw [decide_eq_true e]
            first | rw [if_pos rfl] | skip
            rcases hH with ⟨rfl, _⟩ | ⟨i, y, _, hi, hy, ey⟩
            · simp only [Option.isSome_none, Bool.false_eq_true, if_false]
              first | refine wpAny_bind (wpAny_pure ?_) | skip
              refine wpAny_bind (wpAny_rule ?_)
              split
              · exact wpAny_pure (wpAny_pure (q.yes j x hx e))
              · exact wpAny_pure ⟨rfl, some j, done ++ [j], rfl, more, .inr ⟨j, x, rfl, List.mem_append_right _ (List.mem_singleton.mpr rfl), hx, e⟩⟩
            · exfalso
              have ij : i = j := key_once hn hy hx (ey.trans e.symm)
              have nd : (done ++ j :: rest).Nodup := by rw [hr]; exact plc_nodup
              rw [List.nodup_append] at nd
              exact nd.2.2 i hi j List.mem_cons_self ij
          · rw [decide_eq_false e]
            simp only [Bool.false_eq_true, if_false]
            refine wpAny_bind (wpAny_rule ?_)
            have nx : (hit = none ∧ ∀ i ∈ done ++ [j], ∀ y, xs[i]? = some y → y.1 ≠ k) ∨ ∃ i y, hit = some i ∧ i ∈ done ++ [j] ∧ xs[i]? = some y ∧ y.1 = k := by
              rcases hH with ⟨h0, hno⟩ | ⟨i, y, h0, hi, hy⟩
              · refine .inl ⟨h0, fun i hi y hy => ?_⟩
                rcases List.mem_append.mp hi with z | z
                · exact hno i z y hy
                · rw [List.mem_singleton.mp z, hx] at hy
                  cases hy
                  exact e
              · exact .inr ⟨i, y, h0, List.mem_append_left _ hi, hy⟩
            first | rw [if_neg (by simp)] | skip
            first
              | exact wpAny_pure ⟨rfl, hit, done ++ [j], rfl, more, nx⟩
              | exact wpAny_bind (wpAny_pure (wpAny_pure ⟨rfl, hit, done ++ [j], rfl, more, nx⟩))
        · rintro b s' ⟨rfl, hit, done, rfl, hr, hH⟩
          rw [List.append_nil] at hr
          rcases hH with ⟨rfl, hno⟩ | ⟨j, x, rfl, _, hx, e⟩
          · exact wpAny_pure (q.no (none_there he fun j hj => hno j (by rw [hr]; exact hj)))
          · exact wpAny_pure (q.yes j x hx e))
  · by_cases c : ((u :: (plc w es k).filterMap fun i => es[i]?.map (·.key)).all carriedByValue) = true
    · rw [if_pos c]; exact plain rfl
    · rw [if_neg c]
      split
      · rename_i a _
        rw [if_neg (stale a rfl)]
        by_cases c2 : (((plc w es k).filterMap fun i => es[i]?.map (·.key)) == [Value.ref a]) = true <;> (first | rw [if_pos c2] | rw [if_neg c2]) <;> (first | refine wpAny_bind (wpAny_pure ?_) | refine wpAny_bind (may_tell hk hkd hst ?_)) <;> (
        rw [if_neg (by simp)]
        refine wpAny_bind ?_
        refine wpAny_forIn_list _ (fun rest b s' => s' = s ∧ ∃ hit done, b = (none, hit) ∧ done ++ rest = plc w es k ∧ ((hit = none ∧ ∀ j ∈ done, ∀ x, xs[j]? = some x → x.1 ≠ k) ∨ ∃ j x, hit = some j ∧ j ∈ done ∧ xs[j]? = some x ∧ x.1 = k)) _ ?_ ?_ _ _ ⟨rfl, none, [], rfl, rfl, .inl ⟨rfl, fun _ h => nomatch h⟩⟩
        · rintro j rest b s' ⟨rfl, hit, done, rfl, hr, hH⟩
          have hm : j ∈ plc w es k := by rw [← hr]; exact List.mem_append_right _ List.mem_cons_self
          obtain ⟨hj, hp⟩ := plc_mem.mp hm
          obtain ⟨x, hx⟩ : ∃ x, xs[j]? = some x := ⟨xs[j]'(by rw [← ent_size he]; exact hj), List.getElem?_eq_getElem _⟩
          have ex : es[j]? = some (entD w x) := by rw [ent_at he j, hx]; rfl
          rw [ex] at hp ⊢
          dsimp only
          have hh : ((entD w x).hash == k.hash w) = true := by simpa using hp
          rw [if_pos hh]
          obtain ⟨n1, n2⟩ := his x (List.mem_of_getElem? hx)
          have more : done ++ [j] ++ rest = plc w es k := by rw [← hr, List.append_assoc]; rfl
          refine wpAny_bind (wpAny_dictEpoch ho hd (wpAny_bind (eqAt_key x.1 k A s' _ _ n1 hk (by omega) _ _ _ _ (wpAny_bind (wpAny_dictEpoch ho hd ?_)))))
          show wpAny _ _ (if (ep != ep) = true then _ else _) _ E _
          rw [if_neg (by simp), ← NestedKey.decide_eq]
          by_cases e : x.1 = k
          · rw [decide_eq_true e]
            first | rw [if_pos rfl] | skip
            rcases hH with ⟨rfl, _⟩ | ⟨i, y, _, hi, hy, ey⟩
            · simp only [Option.isSome_none, Bool.false_eq_true, if_false]
              first | refine wpAny_bind (wpAny_pure ?_) | skip
              refine wpAny_bind (wpAny_rule ?_)
              split
              · exact wpAny_pure (wpAny_pure (q.yes j x hx e))
              · exact wpAny_pure ⟨rfl, some j, done ++ [j], rfl, more, .inr ⟨j, x, rfl, List.mem_append_right _ (List.mem_singleton.mpr rfl), hx, e⟩⟩
            · exfalso
              have ij : i = j := key_once hn hy hx (ey.trans e.symm)
              have nd : (done ++ j :: rest).Nodup := by rw [hr]; exact plc_nodup
              rw [List.nodup_append] at nd
              exact nd.2.2 i hi j List.mem_cons_self ij
          · rw [decide_eq_false e]
            simp only [Bool.false_eq_true, if_false]
            refine wpAny_bind (wpAny_rule ?_)
            have nx : (hit = none ∧ ∀ i ∈ done ++ [j], ∀ y, xs[i]? = some y → y.1 ≠ k) ∨ ∃ i y, hit = some i ∧ i ∈ done ++ [j] ∧ xs[i]? = some y ∧ y.1 = k := by
              rcases hH with ⟨h0, hno⟩ | ⟨i, y, h0, hi, hy⟩
              · refine .inl ⟨h0, fun i hi y hy => ?_⟩
                rcases List.mem_append.mp hi with z | z
                · exact hno i z y hy
                · rw [List.mem_singleton.mp z, hx] at hy
                  cases hy
                  exact e
              · exact .inr ⟨i, y, h0, List.mem_append_left _ hi, hy⟩
            first | rw [if_neg (by simp)] | skip
            first
              | exact wpAny_pure ⟨rfl, hit, done ++ [j], rfl, more, nx⟩
              | exact wpAny_bind (wpAny_pure (wpAny_pure ⟨rfl, hit, done ++ [j], rfl, more, nx⟩))
        · rintro b s' ⟨rfl, hit, done, rfl, hr, hH⟩
          rw [List.append_nil] at hr
          rcases hH with ⟨rfl, hno⟩ | ⟨j, x, rfl, _, hx, e⟩
          · exact wpAny_pure (q.no (none_there he fun j hj => hno j (by rw [hr]; exact hj)))
          · exact wpAny_pure (q.yes j x hx e))
      · skip
        by_cases c2 : (((plc w es k).filterMap fun i => es[i]?.map (·.key)) == [u]) = true <;> (first | rw [if_pos c2] | rw [if_neg c2]) <;> (first | refine wpAny_bind (wpAny_pure ?_) | refine wpAny_bind (may_tell hk hkd hst ?_)) <;> (
        rw [if_neg (by simp)]
        refine wpAny_bind ?_
        refine wpAny_forIn_list _ (fun rest b s' => s' = s ∧ ∃ hit done, b = (none, hit) ∧ done ++ rest = plc w es k ∧ ((hit = none ∧ ∀ j ∈ done, ∀ x, xs[j]? = some x → x.1 ≠ k) ∨ ∃ j x, hit = some j ∧ j ∈ done ∧ xs[j]? = some x ∧ x.1 = k)) _ ?_ ?_ _ _ ⟨rfl, none, [], rfl, rfl, .inl ⟨rfl, fun _ h => nomatch h⟩⟩
        · rintro j rest b s' ⟨rfl, hit, done, rfl, hr, hH⟩
          have hm : j ∈ plc w es k := by rw [← hr]; exact List.mem_append_right _ List.mem_cons_self
          obtain ⟨hj, hp⟩ := plc_mem.mp hm
          obtain ⟨x, hx⟩ : ∃ x, xs[j]? = some x := ⟨xs[j]'(by rw [← ent_size he]; exact hj), List.getElem?_eq_getElem _⟩
          have ex : es[j]? = some (entD w x) := by rw [ent_at he j, hx]; rfl
          rw [ex] at hp ⊢
          dsimp only
          have hh : ((entD w x).hash == k.hash w) = true := by simpa using hp
          rw [if_pos hh]
          obtain ⟨n1, n2⟩ := his x (List.mem_of_getElem? hx)
          have more : done ++ [j] ++ rest = plc w es k := by rw [← hr, List.append_assoc]; rfl
          refine wpAny_bind (wpAny_dictEpoch ho hd (wpAny_bind (eqAt_key x.1 k A s' _ _ n1 hk (by omega) _ _ _ _ (wpAny_bind (wpAny_dictEpoch ho hd ?_)))))
          show wpAny _ _ (if (ep != ep) = true then _ else _) _ E _
          rw [if_neg (by simp), ← NestedKey.decide_eq]
          by_cases e : x.1 = k
          · rw [decide_eq_true e]
            first | rw [if_pos rfl] | skip
            rcases hH with ⟨rfl, _⟩ | ⟨i, y, _, hi, hy, ey⟩
            · simp only [Option.isSome_none, Bool.false_eq_true, if_false]
              first | refine wpAny_bind (wpAny_pure ?_) | skip
              refine wpAny_bind (wpAny_rule ?_)
              split
              · exact wpAny_pure (wpAny_pure (q.yes j x hx e))
              · exact wpAny_pure ⟨rfl, some j, done ++ [j], rfl, more, .inr ⟨j, x, rfl, List.mem_append_right _ (List.mem_singleton.mpr rfl), hx, e⟩⟩
            · exfalso
              have ij : i = j := key_once hn hy hx (ey.trans e.symm)
              have nd : (done ++ j :: rest).Nodup := by rw [hr]; exact plc_nodup
              rw [List.nodup_append] at nd
              exact nd.2.2 i hi j List.mem_cons_self ij
          · rw [decide_eq_false e]
            simp only [Bool.false_eq_true, if_false]
            refine wpAny_bind (wpAny_rule ?_)
            have nx : (hit = none ∧ ∀ i ∈ done ++ [j], ∀ y, xs[i]? = some y → y.1 ≠ k) ∨ ∃ i y, hit = some i ∧ i ∈ done ++ [j] ∧ xs[i]? = some y ∧ y.1 = k := by
              rcases hH with ⟨h0, hno⟩ | ⟨i, y, h0, hi, hy⟩
              · refine .inl ⟨h0, fun i hi y hy => ?_⟩
                rcases List.mem_append.mp hi with z | z
                · exact hno i z y hy
                · rw [List.mem_singleton.mp z, hx] at hy
                  cases hy
                  exact e
              · exact .inr ⟨i, y, h0, List.mem_append_left _ hi, hy⟩
            first | rw [if_neg (by simp)] | skip
            first
              | exact wpAny_pure ⟨rfl, hit, done ++ [j], rfl, more, nx⟩
              | exact wpAny_bind (wpAny_pure (wpAny_pure ⟨rfl, hit, done ++ [j], rfl, more, nx⟩))
        · rintro b s' ⟨rfl, hit, done, rfl, hr, hH⟩
          rw [List.append_nil] at hr
          rcases hH with ⟨rfl, hno⟩ | ⟨j, x, rfl, _, hx, e⟩
          · exact wpAny_pure (q.no (none_there he fun j hj => hno j (by rw [hr]; exact hj)))
          · exact wpAny_pure (q.yes j x hx e))
end
end FvD


set_option maxHeartbeats 2000000
namespace FvD
open PySem PySem.Spec PyProof.Rows L2
/-! ### storing and reading, by the entries -/
def storedN (xs : List KE3) (k : NestedKey) (u v : Value) : List KE3 :=
  if (xs.any fun x => decide (x.1 = k)) = true then xs.map (fun x => if x.1 = k then (x.1, x.2.1, v) else x) else xs ++ [(k, u, v)]
theorem any_key {xs : List KE3} {k : NestedKey} : (xs.any fun x => decide (x.1 = k)) = true ↔ ∃ x ∈ xs, x.1 = k := by
  simp [List.any_eq_true]
theorem modify_key (w : World) (k : NestedKey) (v : Value) : ∀ (xs : List KE3) (j : Nat) (x : KE3), (xs.map (·.1)).Nodup → xs[j]? = some x → x.1 = k →
    (xs.map (entD w)).modify j (fun e => { e with val := v }) = (xs.map (fun x => if x.1 = k then (x.1, x.2.1, v) else x)).map (entD w)
  | [], j, x, _, hj, _ => by simp at hj
  | y :: xs, 0, x, hn, hj, e => by
    simp only [List.getElem?_cons_zero, Option.some.injEq] at hj
    subst hj
    rw [List.map_cons, List.nodup_cons] at hn
    have rest : xs.map (fun x => if x.1 = k then (x.1, x.2.1, v) else x) = xs := by
      exact (List.map_congr_left fun x hx => by
        rw [if_neg]
        · rfl
        · intro z
          exact hn.1 (List.mem_map.mpr ⟨x, hx, z.trans e.symm⟩)).trans (List.map_id xs)
    rw [List.map_cons, List.map_cons, List.map_cons, rest, if_pos e]
    rfl
  | y :: xs, j + 1, x, hn, hj, e => by
    simp only [List.getElem?_cons_succ] at hj
    rw [List.map_cons, List.nodup_cons] at hn
    have ne : ¬ y.1 = k := fun z => hn.1 (List.mem_map.mpr ⟨x, List.mem_of_getElem? hj, e.trans z.symm⟩)
    rw [List.map_cons, List.map_cons, List.map_cons, if_neg ne]
    show entD w y :: (xs.map (entD w)).modify j _ = _
    rw [modify_key w k v xs j x hn.2 hj e]
/-- the dict at d holds xs -/
def NdAt (w : World) (h : Heap) (d : Addr) (xs : List KE3) : Prop := ∃ o es ep, h.get? d = some o ∧ o.ExactDict ∧ o.data = .dict es ep ∧ es.toList = xs.map (entD w)
theorem NdAt.ty {w : World} {s : Shared} {d : Addr} {xs : List KE3} (h : NdAt w s.heap d xs) : s.TypeIs (.ref d) "dict" := let ⟨o, _, _, ho, hc, _⟩ := h; ⟨o, ho, hc.1⟩
section
variable {prog : Program} {w : World} {A : Around} {E : Value → Shared → Prop} {s : Shared} {d : Addr} {xs : List KE3} {k : NestedKey} {u : Value}
def valN (xs : List KE3) (k : NestedKey) : Option Value := (xs.find? fun x => decide (x.1 = k)).map (·.2.2)
theorem valN_none (h : ∀ x ∈ xs, x.1 ≠ k) : valN xs k = none := by
  have : (xs.find? fun x => decide (x.1 = k)) = none := by
    rw [List.find?_eq_none]
    intro x hx e
    exact h x hx (of_decide_eq_true e)
  unfold valN
  rw [this]
  rfl
theorem valN_some (hn : (xs.map (·.1)).Nodup) {j : Nat} {x : KE3} (hj : xs[j]? = some x) (e : x.1 = k) : valN xs k = some x.2.2 := by
  unfold valN
  cases hf : xs.find? fun x => decide (x.1 = k) with
  | none => exact absurd e (by simpa using List.find?_eq_none.mp hf x (List.mem_of_getElem? hj))
  | some y =>
    have ey : y.1 = k := by
      have z := List.find?_some hf
      exact of_decide_eq_true z
    obtain ⟨i, hi⟩ := List.mem_iff_getElem?.mp (List.mem_of_find?_eq_some hf)
    have ij := key_once hn hi hj (ey.trans e.symm)
    rw [ij, hj] at hi
    cases hi
    rfl
theorem nd_get {Q : Option Value → Shared → Prop} (hu : A.units + 8 < cLine) (hk : NestedIs s.heap k u) (hkd : k.depth ≤ 8) (hm : NdAt w s.heap d xs) (hn : (xs.map (·.1)).Nodup)
    (his : ∀ x ∈ xs, NestedIs s.heap x.1 x.2.1 ∧ x.1.depth ≤ 8) (q : Q (valN xs k) { s with toks := s.toks + k.draws }) : wpAny (model prog w) A (dictGet d u) Q E s := by
  obtain ⟨o, es, ep, ho, hc, hd, he⟩ := hm
  unfold dictGet
  try with_reducible refine wpAny_holding ?_
  refine wpAny_bind (pyHash_key k u A s _ hk (by omega) (wpAny_bind (nd_find (s := { s with toks := s.toks + k.draws }) hu hk hkd ho hd he hn his ⟨fun h => ?_, fun j x hj e => ?_⟩)))
  · rw [valN_none h] at q
    exact wpAny_pure q
  · rw [valN_some hn hj e] at q
    refine wpAny_bind (wpAny_dictEntries (s := { s with toks := s.toks + k.draws }) ho hd ?_)
    rw [ent_at he j, hj]
    exact wpAny_pure q
theorem nd_set {v : Value} {Q : Unit → Shared → Prop} (hu : A.units + 8 < cLine) (hk : NestedIs s.heap k u) (hkd : k.depth ≤ 8) (hm : NdAt w s.heap d xs) (hn : (xs.map (·.1)).Nodup)
    (his : ∀ x ∈ xs, NestedIs s.heap x.1 x.2.1 ∧ x.1.depth ≤ 8) (hsz : xs.length ≤ sizeLine) (q : ∀ h', NdAt w h' d (storedN xs k u v) → Heap.SameBut d s.heap h' → Q () { s with heap := h', toks := s.toks + k.draws }) : wpAny (model prog w) A (dictSet d u v) Q E s := by
  obtain ⟨o, es, ep, ho, hc, hd, he⟩ := hm
  unfold dictSet
  try with_reducible refine wpAny_holding ?_
  refine wpAny_bind (pyHash_key k u A s _ hk (by omega) ?_)
  unfold dictSetHashed
  try with_reducible refine wpAny_holding ?_
  refine wpAny_bind (nd_find (s := { s with toks := s.toks + k.draws }) hu hk hkd ho hd he hn his ⟨fun h => ?_, fun j x hj e => ?_⟩)
  · have no : ¬ (xs.any fun x => decide (x.1 = k)) = true := fun z => by
      obtain ⟨x, hx, e⟩ := any_key.mp z
      exact h x hx e
    refine wpAny_bind (wpAny_rule (wpAny_updateDictKeys (hz := by have e := ent_size he; omega) (s := { s with toks := s.toks + k.draws }) ho hd (q _ ⟨_, _, ep + 1, Heap.get?_update_self _ ho (Obj.isFreed_of_dict (Obj.data_mapDictKeys hd _)),
      hc.mapDictKeys _, Obj.data_mapDictKeys hd _, ?_⟩ (Heap.SameBut.update ..))))
    unfold storedN
    rw [if_neg no]
    simp [he, entD]
  · have yes : (xs.any fun x => decide (x.1 = k)) = true := any_key.mpr ⟨x, List.mem_of_getElem? hj, e⟩
    refine wpAny_bind (wpAny_rule (wpAny_bind (wpAny_updateDict (s := { s with toks := s.toks + k.draws }) ho hd (wpAny_point (q _ ⟨_, _, ep, Heap.get?_update_self _ ho (Obj.isFreed_of_dict (Obj.data_mapDict hd _)),
      hc.mapDict _, Obj.data_mapDict hd _, ?_⟩ (Heap.SameBut.update ..))))))
    unfold storedN
    rw [if_pos yes]
    have z := modify_key w k v xs j x hn hj e
    rw [← he] at z
    obtain ⟨l⟩ := es
    simpa using z
theorem set_item {v : Value} {Q : Unit → Shared → Prop} (hu : A.units + 9 < cLine) (hk : NestedIs s.heap k u) (hkd : k.depth ≤ 8) (hm : NdAt w s.heap d xs) (hn : (xs.map (·.1)).Nodup)
    (his : ∀ x ∈ xs, NestedIs s.heap x.1 x.2.1 ∧ x.1.depth ≤ 8) (hsz : xs.length ≤ sizeLine) (q : ∀ h', NdAt w h' d (storedN xs k u v) → Heap.SameBut d s.heap h' → Q () { s with heap := h', toks := s.toks + k.draws }) :
    wpAny (model prog w) A (setItem (.ref d) u v) Q E s := by
  unfold setItem
  try with_reducible refine wpAny_holding ?_
  refine wpAny_bind (wpAny_sequenceKey hm.ty (by decide) ?_)
  refine wpAny_bind (wpAny_callSpecial?_slot (name := Str.ofString "__setitem__") hm.ty slot_dict_setitem (wpAny_call_entry slot_dict_setitem hm.ty entry_dict_setitem ?_ (args_dict_setitem _ _ _)))
  show wpAny _ _ (Builtin.Dict.notOrdered "__setitem__" ⟨[.ref d, u, v], []⟩ >>= _) _ _ s
  refine wpAny_bind (wpAny_notOrdered_dict hm.ty ?_)
  show wpAny _ _ (dictSet d u v >>= _) _ _ s
  exact wpAny_bind (nd_set (A := A.in1) (by show A.units + 1 + 8 < _; omega) hk hkd hm hn his hsz fun h' m' s' => wpAny_pure ⟨.none, rfl, wpAny_pure (q h' m' s')⟩)
theorem get_item {x : Value} {Q : Value → Shared → Prop} (hu : A.units + 9 < cLine) (hk : NestedIs s.heap k u) (hkd : k.depth ≤ 8) (hm : NdAt w s.heap d xs) (hn : (xs.map (·.1)).Nodup)
    (his : ∀ x ∈ xs, NestedIs s.heap x.1 x.2.1 ∧ x.1.depth ≤ 8) (hx : valN xs k = some x) (q : Q x { s with toks := s.toks + k.draws }) : wpAny (model prog w) A (getItem (.ref d) u) Q E s := by
  unfold getItem
  try with_reducible refine wpAny_holding ?_
  refine wpAny_bind (wpAny_sequenceKey hm.ty (by decide) ?_)
  refine wpAny_bind (wpAny_callSpecial?_slot (name := Str.ofString "__getitem__") hm.ty slot_dict_getitem (wpAny_call_entry slot_dict_getitem hm.ty entry_dict_getitem ?_ (args_dict_getitem _ _)))
  show wpAny _ _ (dictGet d u >>= _) _ _ s
  refine wpAny_bind (nd_get (A := A.in1) (by show A.units + 1 + 8 < _; omega) hk hkd hm hn his ?_)
  rw [hx]
  exact wpAny_pure ⟨x, rfl, wpAny_pure q⟩
end
end FvD


set_option maxHeartbeats 2000000
namespace FvD
open PySem PySem.Spec PyProof.Rows L2 Fv
/-! ### data as keys -/
mutual
def nk : PyData → NestedKey
  | .str x => .text x
  | .tuple ds => .tup (nks ds)
  | .int i => .num i
  | .bool b => .num (if b = true then 1 else 0)
  | _ => .none
def nks : List PyData → List NestedKey
  | [] => []
  | d :: ds => nk d :: nks ds
end
mutual
/-- texts, and tuples of such, nested at most n deep -/
def kd : Nat → PyData → Bool
  | _, .str _ => true
  | n + 1, .tuple ds => kdAll n ds
  | _, _ => false
def kdAll : Nat → List PyData → Bool
  | _, [] => true
  | n, d :: ds => kd n d && kdAll n ds
end
theorem kd_str {n : Nat} {x : Str} : kd n (.str x) = true := by cases n <;> rfl
theorem kdAll_iff {n : Nat} : ∀ {ds : List PyData}, kdAll n ds = true ↔ ∀ d ∈ ds, kd n d = true
  | [] => by simp [kdAll]
  | d :: ds => by simp [kdAll, kdAll_iff (n := n) (ds := ds)]
mutual
theorem kd_depth : ∀ (n : Nat) (d : PyData), kd n d = true → (nk d).depth ≤ n
  | n, .str x, _ => by simp [nk, NestedKey.depth]
  | n + 1, .tuple ds, h => by
    have q := kdAll_depth n ds (by simpa [kd] using h)
    simp only [nk, NestedKey.depth]
    omega
  | 0, .tuple _, h => by simp [kd] at h
  | n, .none, h => by cases n <;> simp [kd] at h
  | n, .bool _, h => by cases n <;> simp [kd] at h
  | n, .int _, h => by cases n <;> simp [kd] at h
  | n, .list _, h => by cases n <;> simp [kd] at h
  | n, .dict _, h => by cases n <;> simp [kd] at h
theorem kdAll_depth : ∀ (n : Nat) (ds : List PyData), kdAll n ds = true → NestedKey.depthAll (nks ds) ≤ n
  | n, [], _ => by simp [nks, NestedKey.depthAll]
  | n, d :: ds, h => by
    simp only [kdAll, Bool.and_eq_true] at h
    have a := kd_depth n d h.1
    have b := kdAll_depth n ds h.2
    simp only [nks, NestedKey.depthAll]
    omega
end
mutual
theorem nk_inj : ∀ (n m : Nat) (d e : PyData), kd n d = true → kd m e = true → nk d = nk e → d = e
  | n, m, .str x, .str y, _, _, h => by simp only [nk] at h; injection h with h; rw [h]
  | n + 1, m + 1, .tuple ds, .tuple es, hd, he, h => by
    simp only [nk] at h
    injection h with h
    rw [nks_inj n m ds es (by simpa [kd] using hd) (by simpa [kd] using he) h]
  | n, m, .str x, .tuple es, _, _, h => by simp only [nk] at h; cases h
  | n, m, .tuple es, .str x, _, _, h => by simp only [nk] at h; cases h
  | 0, m, .tuple es, e, hd, _, h => by simp [kd] at hd
  | n, 0, d, .tuple es, _, he, h => by simp [kd] at he
  | n, m, .none, e, hd, _, _ => by cases n <;> simp [kd] at hd
  | n, m, .bool _, e, hd, _, _ => by cases n <;> simp [kd] at hd
  | n, m, .int _, e, hd, _, _ => by cases n <;> simp [kd] at hd
  | n, m, .list _, e, hd, _, _ => by cases n <;> simp [kd] at hd
  | n, m, .dict _, e, hd, _, _ => by cases n <;> simp [kd] at hd
  | n, m, d, .none, _, he, _ => by cases m <;> simp [kd] at he
  | n, m, d, .bool _, _, he, _ => by cases m <;> simp [kd] at he
  | n, m, d, .int _, _, he, _ => by cases m <;> simp [kd] at he
  | n, m, d, .list _, _, he, _ => by cases m <;> simp [kd] at he
  | n, m, d, .dict _, _, he, _ => by cases m <;> simp [kd] at he
theorem nks_inj : ∀ (n m : Nat) (ds es : List PyData), kdAll n ds = true → kdAll m es = true → nks ds = nks es → ds = es
  | n, m, [], [], _, _, _ => rfl
  | n, m, d :: ds, e :: es, hd, he, h => by
    simp only [kdAll, Bool.and_eq_true] at hd he
    simp only [nks] at h
    injection h with h1 h2
    rw [nk_inj n m d e hd.1 he.1 h1, nks_inj n m ds es hd.2 he.2 h2]
  | n, m, [], e :: es, _, _, h => by simp only [nks] at h; cases h
  | n, m, d :: ds, [], _, _, h => by simp only [nks] at h; cases h
end
section
variable {X : Cx} {pins : List (Addr × Obj)} {σ : L2.St} {H : Hp} {s : Shared}
mutual
theorem dp_key (I : Inv X pins σ H s) : ∀ (n : Nat) (d : PyData) (v : V) (u : Value), kd n d = true → Dp X.K H v d → RelV v u → NestedIs s.heap (nk d) u
  | n, .str x, v, u, _, h, r => by
    cases h
    obtain ⟨t, rfl⟩ := r
    exact .text x t
  | n + 1, .tuple ds, v, u, hk, h, r => by
    cases h with
    | tup hs ha =>
      cases r
      obtain ⟨its, rv, ⟨o, ho, hc, m, hd⟩, hz⟩ := I.tuple hs
      exact .tup ho hc hd (by simpa using dpAll_key I n ds _ its (by simpa [kd] using hk) ha rv)
  | 0, .tuple _, _, _, hk, _, _ => by simp [kd] at hk
  | n, .none, _, _, hk, _, _ => by cases n <;> simp [kd] at hk
  | n, .bool _, _, _, hk, _, _ => by cases n <;> simp [kd] at hk
  | n, .int _, _, _, hk, _, _ => by cases n <;> simp [kd] at hk
  | n, .list _, _, _, hk, _, _ => by cases n <;> simp [kd] at hk
  | n, .dict _, _, _, hk, _, _ => by cases n <;> simp [kd] at hk
theorem dpAll_key (I : Inv X pins σ H s) : ∀ (n : Nat) (ds : List PyData) (vs : List V) (us : List Value), kdAll n ds = true → DpAll X.K H vs ds → Vals vs us → NestedAll s.heap (nks ds) us
  | n, [], vs, us, _, h, r => by cases h; cases r; exact .nil
  | n, d :: ds, vs, us, hk, h, r => by
    simp only [kdAll, Bool.and_eq_true] at hk
    cases h with
    | cons h1 h2 =>
      cases r with
      | cons r1 r2 => exact .cons (dp_key I n d _ _ hk.1 h1 r1) (dpAll_key I n ds _ _ hk.2 h2 r2)
end
end
/-! ### the dict, tracked -/
abbrev NKV := PyData × V × V
def RelN (p : NKV) (q : KE3) : Prop := nk p.1 = q.1 ∧ RelV p.2.1 q.2.1 ∧ RelV p.2.2 q.2.2
/-- a dict at a whose keys are data -/
def NdO (w : World) (a : Addr) (kvs : List NKV) : HO := .ext fun h => kvs.length ≤ sizeLine ∧ (a == sysModules) = false ∧ (kvs.map fun p => nk p.1).Nodup ∧ ∃ xs, Paired RelN kvs xs ∧ NdAt w h a xs
theorem ndO_ok {P : Program} {w : World} {H : Hp} {h : Heap} {a : Addr} {kvs : List NKV} {xs : List KE3} (z : kvs.length ≤ sizeLine) (hs : (a == sysModules) = false) (hn : (kvs.map fun p => nk p.1).Nodup) (r : Paired RelN kvs xs) (hd : NdAt w h a xs) : ObjOk P w H h a (NdO w a kvs) := by
  refine ⟨⟨z, hs, hn, xs, r, hd⟩, let ⟨o, _, _, ho, _⟩ := hd; ⟨o, ho⟩, fun h1 h2 ⟨a1, a2, a3, xs, a4, o, es, ep, ho, q⟩ k => ⟨a1, a2, a3, xs, a4, o, es, ep, k o ho, q⟩⟩
/-- all keys are there -/
def KyOk (K : PySem.W.Frag) (H : Hp) (kvs : List NKV) : Prop := ∀ p ∈ kvs, kd 8 p.1 = true ∧ Dp K H p.2.1 p.1
theorem relN_keys : ∀ {kvs : List NKV} {xs : List KE3}, Paired RelN kvs xs → (kvs.map fun p => nk p.1) = xs.map (·.1)
  | _, _, .nil => rfl
  | _, _, .cons h t => by rw [List.map_cons, List.map_cons, h.1, relN_keys t]
def putN (kvs : List NKV) (d : PyData) (y v : V) : List NKV :=
  if (kvs.any fun p => decide (nk p.1 = nk d)) = true then kvs.map (fun p => if nk p.1 = nk d then (p.1, p.2.1, v) else p) else kvs ++ [(d, y, v)]
theorem relN_any {k : NestedKey} : ∀ {kvs : List NKV} {xs : List KE3}, Paired RelN kvs xs → (kvs.any fun p => decide (nk p.1 = k)) = xs.any fun x => decide (x.1 = k)
  | _, _, .nil => rfl
  | _, _, .cons h t => by rw [List.any_cons, List.any_cons, h.1, relN_any t]
theorem relN_map {k : NestedKey} {v : V} {u : Value} (rv : RelV v u) : ∀ {kvs : List NKV} {xs : List KE3}, Paired RelN kvs xs → Paired RelN (kvs.map (fun p => if nk p.1 = k then (p.1, p.2.1, v) else p)) (xs.map (fun x => if x.1 = k then (x.1, x.2.1, u) else x))
  | _, _, .nil => .nil
  | _, _, .cons (a := p) (b := q) h t => by
    rw [List.map_cons, List.map_cons]
    refine .cons ?_ (relN_map rv t)
    by_cases e : nk p.1 = k
    · rw [if_pos e, if_pos (h.1 ▸ e)]
      exact ⟨h.1, h.2.1, rv⟩
    · rw [if_neg e, if_neg (h.1 ▸ e)]
      exact h
theorem relN_app {p : NKV} {q : KE3} (hp : RelN p q) : ∀ {kvs : List NKV} {xs : List KE3}, Paired RelN kvs xs → Paired RelN (kvs ++ [p]) (xs ++ [q])
  | _, _, .nil => .cons hp .nil
  | _, _, .cons h t => .cons h (relN_app hp t)
theorem relN_put {kvs : List NKV} {xs : List KE3} {d : PyData} {y v : V} {u r : Value} (h : Paired RelN kvs xs) (ry : RelV y u) (rv : RelV v r) : Paired RelN (putN kvs d y v) (storedN xs (nk d) u r) := by
  unfold putN storedN
  rw [relN_any h]
  by_cases c : (xs.any fun x => decide (x.1 = nk d)) = true
  · rw [if_pos c, if_pos c]; exact relN_map rv h
  · rw [if_neg c, if_neg c]; exact relN_app ⟨rfl, ry, rv⟩ h
theorem putN_keys (kvs : List NKV) (d : PyData) (y v : V) (h : (kvs.map fun p => nk p.1).Nodup) : ((putN kvs d y v).map fun p => nk p.1).Nodup := by
  unfold putN
  by_cases c : (kvs.any fun p => decide (nk p.1 = nk d)) = true
  · rw [if_pos c, List.map_map]
    have e : ((fun p : NKV => nk p.1) ∘ fun p => if nk p.1 = nk d then (p.1, p.2.1, v) else p) = fun p => nk p.1 := by
      funext p
      show nk (if nk p.1 = nk d then (p.1, p.2.1, v) else p).1 = nk p.1
      split <;> rfl
    rw [e]; exact h
  · rw [if_neg c, List.map_append, List.nodup_append]
    refine ⟨h, by simp, fun a ha b hb e => ?_⟩
    obtain ⟨p, hp, rfl⟩ := List.mem_map.mp ha
    have eb : b = nk d := by simpa using hb
    exact c (List.any_eq_true.mpr ⟨p, hp, decide_eq_true (e.trans eb)⟩)
theorem putN_len (kvs : List NKV) (d : PyData) (y v : V) : (putN kvs d y v).length ≤ kvs.length + 1 := by
  unfold putN
  split
  · rw [List.length_map]; omega
  · rw [List.length_append]; simp
section
variable {X : Cx} {pins : List (Addr × Obj)} {σ : L2.St} {H : Hp} {s : Shared} {A : Around} {E : Value → Shared → Prop}
theorem relN_is (I : Inv X pins σ H s) : ∀ {kvs : List NKV} {xs : List KE3}, Paired RelN kvs xs → KyOk X.K H kvs → ∀ x ∈ xs, NestedIs s.heap x.1 x.2.1 ∧ x.1.depth ≤ 8
  | _, _, .nil, _, x, hx => nomatch hx
  | _, _, .cons (a := p) h t, hk, x, hx => by
    rcases List.mem_cons.mp hx with e | hx
    · subst e
      obtain ⟨k1, k2⟩ := hk p List.mem_cons_self
      rw [← h.1]
      exact ⟨dp_key I 8 _ _ _ k1 k2 h.2.1, kd_depth 8 _ k1⟩
    · exact relN_is I t (fun q hq => hk q (List.mem_cons_of_mem _ hq)) x hx
/-- d[y] = v, with the state that it leaves -/
theorem d_setN {a : Addr} {kvs : List NKV} {d : PyData} {y v : V} {u r : Value} {Q : Unit → Shared → Prop} (hu : A.units + 9 < cLine) (I : Inv X pins σ H s) (ha : H a = some (NdO X.w a kvs)) (hk : KyOk X.K H kvs) (hd : kd 8 d = true) (hy : Dp X.K H y d) (ry : RelV y u) (rv : RelV v r) (hl : kvs.length < sizeLine)
    (q : ∀ h' t', Inv X pins σ (upd H a (NdO X.w a (putN kvs d y v))) { s with heap := h', toks := t' } → Q () { s with heap := h', toks := t' }) : wpAny (model X.prog X.w) A (setItem (.ref a) u r) Q E s := by
  obtain ⟨⟨z, hs, hn, xs, pr, hm⟩, _, _⟩ := I.hok a _ ha
  refine set_item hu (dp_key I 8 d y u hd hy ry) (kd_depth 8 d hd) hm (by rw [← relN_keys pr]; exact hn) (relN_is I pr hk) (by rw [← Paired.length pr]; exact z) fun h' m' sb => q h' _ ?_
  have hz := putN_len kvs d y v
  exact d_write I (by rw [ha]; exact True.intro) sb (let ⟨o, _, _, ho, _⟩ := m'; ⟨o, ho⟩) (ndO_ok (by omega) hs (putN_keys kvs d y v hn) (relN_put pr ry rv) m')
/-- {} -/
def tDNewN (w : World) : TE := fun _ H Q => ∀ a, H a = none → Q (.ref a) (upd H a (NdO w a []))
theorem pe_dnewN {pos : Pos} : PE X (.Dict [] [] pos) (tDNewN X.w) := by
  refine ⟨fun pins s σ H Q I h => ?_⟩
  have hb : (s.heap.objs.size == sysModules) = false := beq_eq_false_iff_ne.mpr (Nat.ne_of_gt I.big)
  refine wpAny_Dict_empty ⟨.ref s.heap.objs.size, _, I.laid (a := s.heap.objs.size) (o := NdO X.w s.heap.objs.size []) (t' := s.toks) (fun _ _ q => Heap.get?_push_of_some _ q) (Nat.le_refl _) ?_, rfl, h _ (I.hok.fresh (Nat.le_refl _))⟩
  exact ndO_ok (Nat.zero_le _) hb List.nodup_nil .nil ⟨_, #[], 0, Heap.get?_push_size _ rfl, ⟨rfl, rfl, rfl⟩, rfl, rfl⟩
/-- d[y] = v -/
def sNPut (K : PySem.W.Frag) (w : World) (td ty tv : TE) : TS := fun D σ H => tv σ H fun v H1 => td σ H1 fun x H2 => ty σ H2 fun y H3 => ∃ a kvs d, x = .ref a ∧ H3 a = some (NdO w a kvs) ∧ KyOk K H3 kvs ∧ kd 8 d = true ∧ Dp K H3 y d ∧ kvs.length < sizeLine ∧ D.nx σ (upd H3 a (NdO w a (putN kvs d y v)))
theorem ps_dputN {o i value : Expr} {td ty tv : TE} {pos pos' : Pos} (hu : X.A.units + 9 < cLine) (ho : PE X o td) (hi : PE X i ty) (hv : PE X value tv) (hs : swapsWith value (some (.Subscript o i pos')) pos.line X.env = pure false) : PS X (.Assign [.Subscript o i pos'] value pos) (sNPut X.K X.w td ty tv) := by
  refine ⟨fun pins s σ H D I h => ?_⟩
  refine wpAny_Assign_Subscript (thn (hv.run pins s σ H _ I h) fun r s1 ⟨v, H1, I1, rv, q1⟩ => thn (ho.run pins s1 σ H1 _ I1 q1) fun u s2 ⟨x, H2, I2, rx, q2⟩ => thn (hi.run pins s2 σ H2 _ I2 q2) fun iv s3 ⟨y, H3, I3, ry, a, kvs, d, ex, g1, g2, g3, g4, g5, q3⟩ => ?_) hs
  subst ex
  obtain rfl : u = Value.ref a := rx
  exact d_setN hu I3 g1 g2 g3 g4 ry rv g5 fun h' t' I4 => ⟨σ, _, I4, q3⟩
/-- list(d): its keys -/
theorem call_listN (hc : X.calm = true) : CallR X (.type "list") (fun xs H Q => ∃ (a : Addr) (kvs : List NKV), xs = [.ref a] ∧ H a = some (NdO X.w a kvs) ∧ ∀ p, H p = none → Q (.ref p) (upd H p (.lst (kvs.map fun kv => kv.2.1)))) := by
  intro pins s σ H xs us Q I r h
  obtain ⟨a, kvs, rfl, ha, q⟩ := h
  obtain ⟨u, rfl, rx⟩ := r.one
  cases rx
  obtain ⟨⟨z, hs, hn, ks, pr, o, es, ep, ho, hx, hdt, he⟩, _, _⟩ := I.hok a _ ha
  have l1 : es.size = ks.length := ent_size he
  have l2 : kvs.length = ks.length := Paired.length pr
  refine PySem.W.kdl_call (kdl_raw hs hx hdt) (I.ok.hd hc) ho (by omega) fun h' tk acc c' kp e it => ?_
  have ea : acc.toList = ks.map fun x => x.2.1 := by
    have hl : acc.toList.length = ks.length := by rw [Array.length_toList, it.1]; exact l1
    apply List.ext_getElem?
    intro j
    rw [List.getElem?_map]
    cases hj : acc.toList[j]? with
    | none => rw [List.getElem?_eq_none (by have := List.getElem?_eq_none_iff.mp hj; omega)]; rfl
    | some v =>
      obtain ⟨en, hen, hv⟩ := it.2 j v (by rw [← Array.getElem?_toList]; exact hj)
      have qe := ent_at (w := X.w) he j
      rw [hen] at qe
      cases hb : ks[j]? with
      | none => rw [hb] at qe; exact nomatch qe
      | some b =>
        rw [hb] at qe
        have e2 : en = entD X.w b := Option.some.inj qe
        rw [hv, e2]
        rfl
  have vals : ∀ {kvs : List NKV} {ks : List KE3}, Paired RelN kvs ks → Vals (kvs.map fun kv => kv.2.1) (ks.map fun x => x.2.1) := fun {kvs ks} pr => by
    induction pr with
    | nil => exact .nil
    | cons h _ ih => exact .cons h.2.1 ih
  refine ⟨.ref s.heap.objs.size, _, I.laid (t' := tk) (o := .lst (kvs.map fun kv => kv.2.1)) kp (Nat.le_refl _) ?_, rfl, q _ (I.hok.fresh (Nat.le_refl _))⟩
  exact ⟨by rw [List.length_map]; exact z, acc.toList, c', by rw [ea]; exact vals pr, by rw [Array.toArray_toList]; exact e⟩
end
end FvD


set_option maxHeartbeats 2000000
namespace FvG
open PySem PySem.Spec PyProof.Rows L2
/-! ### t[:0:-1] of a tuple: its items but the first one, from the last one down -/
theorem fm_congr {α β : Type} {f g : α → Option β} : ∀ {l : List α}, (∀ a ∈ l, f a = g a) → l.filterMap f = l.filterMap g
  | [], _ => rfl
  | a :: l, h => by
    rw [List.filterMap_cons, List.filterMap_cons, h a List.mem_cons_self, fm_congr (l := l) fun b hb => h b (List.mem_cons_of_mem _ hb)]
theorem back_pick (x : Value) (r : List Value) : ((List.range r.length).filterMap fun (k : Nat) => ((x :: r).toArray)[(((r.length : Nat) : Int) + (k : Int) * (-1)).toNat]?) = r.reverse := by
  have step : ∀ k ∈ List.range r.length, ((x :: r).toArray)[(((r.length : Nat) : Int) + (k : Int) * (-1)).toNat]? = r.reverse.toArray[k]? := fun k hk => by
    have hk' := List.mem_range.mp hk
    have e : (((r.length : Nat) : Int) + (k : Int) * (-1)).toNat = (r.length - 1 - k) + 1 := by omega
    rw [e, ← Array.getElem?_toList, ← Array.getElem?_toList]
    show r[r.length - 1 - k]? = r.reverse[k]?
    rw [List.getElem?_reverse hk']
  rw [fm_congr step]
  have := PySem.W.krv_all r.reverse.toArray
  rw [List.size_toArray, List.length_reverse] at this
  exact this
section
variable {prog : Program} {w : World} {A : Around} {E : Value → Shared → Prop} {s : Shared}
theorem applied_back {sl : Addr} {vl vu vs : Value} {n : Nat} {Q : Int × Int × Nat → Shared → Prop} (hs : s.heap.IsSliceOf sl vl vu vs) (pl : IsPart vl none) (pu : IsPart vu (some 0)) (ps : IsPart vs (some (-1)))
    (h : Q ((n : Int), -1, n) s) : wpAny (model prog w) A (Builtin.Slice.sliceApplied (.ref sl) (pure ((n + 1 : Nat) : Int))) Q E s := by
  obtain ⟨os, hos, hcs, hds⟩ := id hs
  unfold Builtin.Slice.sliceApplied Builtin.Slice.sliceFields
  refine wpAny_bind (wpAny_bind (wpAny_field hos hds (x := vl) rfl (wpAny_bind (wpAny_field hos hds (x := vu) rfl (wpAny_bind (wpAny_field hos hds (x := vs) rfl (wpAny_pure ?_)))))))
  refine wpAny_bind (HT.slicePart_ ps ?_)
  show wpAny _ _ (if ((-1 : Int) == 0) = true then _ else _) _ _ s
  rw [if_neg (by decide)]
  refine wpAny_bind (HT.slicePart_ pl (wpAny_bind (HT.slicePart_ pu (wpAny_bind (wpAny_pure ?_)))))
  have e1 : Builtin.Slice.sliceAdjust none (some 0) (-1) ((n + 1 : Nat) : Int) = ((n : Int), 0) := by
    unfold Builtin.Slice.sliceAdjust
    simp only [show ((-1 : Int) < 0) = True from by simp, if_true]
    refine Prod.ext ?_ ?_
    · show ((n + 1 : Nat) : Int) - 1 = (n : Int)
      omega
    · simp
      try omega
  have e2 : Builtin.Slice.slicePlaces (n : Int) 0 (-1) = n := by
    unfold Builtin.Slice.slicePlaces
    rw [if_neg (by decide)]
    by_cases hn : (n : Int) > 0
    · rw [if_pos hn]
      simp
      try omega
    · rw [if_neg hn]
      omega
  show wpAny _ _ (match Builtin.Slice.sliceAdjust none (some 0) (-1) ((n + 1 : Nat) : Int) with | (lo, hi) => pure (lo, (-1 : Int), Builtin.Slice.slicePlaces lo hi (-1))) _ _ s
  rw [e1]
  show wpAny _ _ (pure ((n : Int), (-1 : Int), Builtin.Slice.slicePlaces (n : Int) 0 (-1))) _ _ s
  rw [e2]
  exact wpAny_pure h
theorem item_back {t sl : Addr} {x : Value} {r : List Value} {vl vu vs : Value} {Q : Value → Shared → Prop} (ht : IsTup s.heap t (x :: r).toArray) (hs : s.heap.IsSliceOf sl vl vu vs) (pl : IsPart vl none) (pu : IsPart vu (some 0)) (ps : IsPart vs (some (-1)))
    (hz : r.length ≤ sizeLine) (h : Q (.ref s.heap.objs.size) { s with heap := s.heap.push { cls := .type "tuple", data := .seq r.reverse.toArray } }) : wpAny (model prog w) A (getItem (.ref t) (.ref sl)) Q E s := by
  obtain ⟨os, hos, hcs, hds⟩ := id hs
  have hTs : s.TypeIs (.ref sl) "slice" := ⟨os, hos, hcs⟩
  have fits : sizeOk (.seq r.reverse.toArray) := by
    show r.reverse.toArray.size ≤ sizeLine
    rw [List.size_toArray, List.length_reverse]
    exact hz
  unfold getItem
  try with_reducible refine wpAny_holding ?_
  first | refine wpAny_bind (wpAny_pure ?_) | skip
  refine wpAny_bind (wpAny_sequenceKey ht.typeIs (by decide) ?_)
  refine wpAny_bind (wpAny_callSpecial?_slot (name := Str.ofString "__getitem__") ht.typeIs PyProof.Rows.slot_tuple_getitem (wpAny_call_entry PyProof.Rows.slot_tuple_getitem ht.typeIs entry_tuple_getitem ?_ (args_tuple_getitem _ _)))
  show wpAny _ _ (Builtin.Tuple.tupleItemsOf (.ref t) >>= _) _ _ s
  refine wpAny_bind (PyProof.Rows.tupleItemsOf_ ht ?_)
  refine wpAny_bind (wpAny_typeOf hTs ?_)
  rw [if_pos (by decide)]
  have en : (x :: r).toArray.size = r.length + 1 := by rw [List.size_toArray, List.length_cons]
  rw [en]
  refine wpAny_bind (applied_back (n := r.length) hs pl pu ps ?_)
  show wpAny _ _ (if (((r.length : Nat) : Int) == 0 && (-1 : Int) == 1 && r.length == r.length + 1) = true then _ else _) _ _ s
  rw [if_neg (by rw [show ((-1 : Int) == 1) = false from by decide, Bool.and_false, Bool.false_and]; exact Bool.false_ne_true), back_pick]
  first
    | exact wpAny_bind (m := Builtin.Tuple.tupleExact _) (wpAny_newObj_type (wpAny_pure ⟨_, rfl, wpAny_pure h⟩) fits)
    | exact wpAny_bind (m := Builtin.Tuple.tupleExact _) (wpAny_newObj_type (wpAny_bind (wpAny_pure (wpAny_pure ⟨_, rfl, wpAny_pure h⟩))) fits)
    | exact wpAny_bind (wpAny_bind (m := Builtin.Tuple.tupleExact _) (wpAny_newObj_type (wpAny_pure (wpAny_pure ⟨_, rfl, wpAny_pure h⟩)) fits))
    | exact wpAny_bind (wpAny_bind (m := Builtin.Tuple.tupleExact _) (wpAny_newObj_type (wpAny_pure ⟨_, rfl, wpAny_pure h⟩) fits))
end
section
variable {X : Cx}
def tBackT (K : PySem.W.Frag) (te : TE) : TE := fun σ H Q => te σ H fun x H1 => ∃ a y ys, x = .ref a ∧ SqT K H1 a (y :: ys) ∧ ∀ p, H1 p = none → Q (.ref p) (upd H1 p (.tup ys.reverse))
theorem pe_backT {e : Expr} {te : TE} {k j : Nat} {p0 p1 p2 p3 pos : Pos} (he : PE X e te) : PE X (.Subscript e (.Slice none (some (.Constant (.int 0) j p0)) (some (.UnaryOp .USub (.Constant (.int 1) k p1) p2)) p3) pos) (tBackT X.K te) := by
  refine ⟨fun pins s σ H Q I h => ?_⟩
  refine Subscript_ (thn (he.run pins s σ H _ I h) fun v s1 ⟨x, H1, I1, r1, q1⟩ => ?_)
  obtain ⟨a, y, ys, ex, hx, q⟩ := q1
  subst ex
  cases r1
  have hst : PO X (some (.UnaryOp .USub (.Constant (.int 1) k p1) p2)) (tPart (tUn (rU fun i => .int (-i)) (tC (.int 1)))) := po_some (pe_un un_neg pe_int)
  have hup : PO X (some (.Constant (.int 0) j p0)) (tPart (tC (.int 0))) := po_some pe_int
  refine wpAny_Slice (thn (po_none.run pins s1 σ H1 (fun o H2 => o = none ∧ H2 = H1) I1 ⟨rfl, rfl⟩) fun vl s2 ⟨l, H2, I2, pl, el, e2⟩ => ?_)
  subst el e2
  refine thn (hup.run pins s2 σ H2 (fun o H3 => o = some 0 ∧ H3 = H2) I2 ⟨0, rfl, rfl, rfl⟩) fun vu s3 ⟨u, H3, I3, pu, eu, e3⟩ => ?_
  subst eu e3
  refine thn (hst.run pins s3 σ H3 (fun o H4 => o = some (-1) ∧ H4 = H3) I3 ⟨1, rfl, -1, rfl, rfl, rfl⟩) fun vs s4 ⟨o, H4, I4, ps, eo, e4⟩ => ?_
  subst eo e4
  have I5 : Inv X pins σ H4 { s4 with heap := s4.heap.push { cls := .type "slice", data := .fields #[vl, vu, vs] } } := I4.kept (t' := s4.toks) fun b ob q => Heap.get?_push_of_some _ q
  obtain ⟨its, r, ht, hz⟩ := I5.tuple hx
  cases r with
  | @cons _ u0 _ us r0 rs =>
    have hlen := rs.length
    have hz' : us.length ≤ sizeLine := by
      rw [List.length_cons] at hz
      omega
    show wpAny (model X.prog X.w) X.A (subscriptTail e (.Slice none (some (.Constant (.int 0) j p0)) (some (.UnaryOp .USub (.Constant (.int 1) k p1) p2)) p3) (.ref a) (.ref s4.heap.objs.size)) (EP X pins σ Q) X.xe { s4 with heap := s4.heap.push { cls := .type "slice", data := .fields #[vl, vu, vs] } }
    refine tail_any (ops := [.ref a, .ref s4.heap.objs.size]) ht.typeIs (PyProof.Rows.slot_tuple_getitem.lookup) ?_ (by with_unfolding_all rfl)
    refine item_back ht (Heap.IsSliceOf.new _ vl vu vs) pl pu ps hz' ?_
    refine ⟨.ref _, _, I5.laid (t' := s4.toks) (o := .tup ys.reverse) (fun b ob q => Heap.get?_push_of_some _ q) (Nat.le_refl _) ?_, rfl, q _ (I5.hok.fresh (Nat.le_refl _))⟩
    exact ⟨by rw [List.length_reverse, hlen]; exact hz', _, L2.Vals.reverse rs, IsTup.new _ _⟩
/-- l.extend(t) of a tuple -/
def rExtendT (K : PySem.W.Frag) : V → List V → Hp → VK → Prop := fun x vs H Q => ∃ l b xs zs, x = .ref l ∧ vs = [.ref b] ∧ H l = some (.lst xs) ∧ SqT K H b zs ∧ xs.length + zs.length ≤ sizeLine ∧ Q .non (upd H l (.lst (xs ++ zs)))
theorem ext_meets (l : Addr) (items : Array Value) (n : Nat) (b : Addr) (items2 : Array Value) (n2 : Nat) (dd : Option Addr) (sl : Array (Option Value)) (hs0 : ¬(!items.isEmpty && Builtin.List.listTooLong (items.size + items2.size)) = true) (hs1 : items.size ≤ sizeLine) (hs2 : items.size + items2.size ≤ sizeLine + 1) :
    Meets (Builtin.«list.extend» ⟨[.ref l, .ref b], []⟩) (fun _ R s => s.heap.get? l = some { cls := .type "list", dict := none, data := .seq items n, slots := #[] } ∧ s.heap.get? b = some { cls := .type "tuple", dict := dd, data := .seq items2 n2, slots := sl } ∧ R (.ok (.ret Value.none)) { s with heap := s.heap.update l (Obj.mapSeq fun x => x ++ items2), toks := s.toks }) :=
  .of_wp fun prog w A R s h => by
    obtain ⟨hp, g, d, tk, os⟩ := s
    obtain ⟨hl, hb, h⟩ := h
    have f1 := AutoSeq1.idx_int
    have f2 := AutoSeq1.sub_tuple_tuple
    have f3 := AutoSeq1.sub_list_list
    have f4 := AutoSeq1.sub_tuple_list
    have f5 := AutoSeq1.sub_list_tuple
    have hz' : (items ++ items2).size ≤ sizeLine + 1 := by rw [Array.size_append]; exact hs2
    wp_walk using (wpAny_updateSeq hl rfl (hz := hs1) (_hz' := hz')), AutoSeq1.wpAny_loadPart' hl, AutoSeq1.wpAny_loadPart' hb
    exact ⟨_, rfl, h⟩
theorem mt_extendT : MtM X "list.extend" (rExtendT X.K) := by
  intro pins s σ H x vs v us Q I rx rv h
  obtain ⟨l, b, xs, zs, rfl, rfl, hH, hB, hz, q⟩ := h
  cases rx
  obtain ⟨u, rfl, ru⟩ := rv.one
  cases ru
  obtain ⟨z, its, n, r, hl, e⟩ := I.lstM hH
  obtain ⟨its2, r2, ⟨⟨c2, dd, data, sl⟩, e2, hc2, n2, hd2⟩, hz2⟩ := I.tuple hB
  simp only at hc2 hd2
  subst hc2 hd2
  have hl2 := r2.length
  have hsz : its.toArray.size + its2.toArray.size ≤ sizeLine := by rw [List.size_toArray, List.size_toArray]; omega
  have hlong : ¬ (!its.toArray.isEmpty && Builtin.List.listTooLong (its.toArray.size + its2.toArray.size)) = true := by
    rw [notLongL hsz, Bool.and_false]
    exact Bool.false_ne_true
  refine call_meets F.slot_list_extend ⟨_, e, rfl⟩ F.entry_list_extend (F.args_list_extend_2 _ _) (ext_meets l its.toArray n b its2.toArray n2 dd sl hlong (by rw [List.size_toArray]; omega) (by omega)) ⟨e, e2, ?_⟩
  refine ⟨.non, _, I.lset (its' := its ++ its2) hH e (by simp) (r.append r2) ?_, rfl, q⟩
  rw [List.length_append]
  omega
end
end FvG


set_option maxHeartbeats 2000000
namespace FvG
open PySem PySem.Spec PyProof.Rows L2 GenW Fv
/-! ### a heap's lower part -/
theorem lower_part (h : Heap) (n : Nat) (hn : n ≤ h.objs.size) : ∃ G : Heap, G.objs.size = n ∧ (∀ b, b < n → G.get? b = h.get? b) ∧ ∀ b, n ≤ b → G.get? b = none := by
  refine ⟨{ h with objs := h.objs.extract 0 n }, ?_, fun b hb => ?_, fun b hb => ?_⟩
  · show (h.objs.extract 0 n).size = n
    rw [Array.size_extract]
    omega
  · have e : (h.objs.extract 0 n)[b]? = h.objs[b]? := by
      rw [Array.getElem?_extract]
      rw [if_pos (by omega), Nat.zero_add]
    unfold Heap.get?
    simp only [e]
  · have e : (h.objs.extract 0 n)[b]? = none := by
      rw [Array.getElem?_extract, if_neg (by omega)]
    unfold Heap.get?
    simp only [e]
/-- s0 is s below L -/
structure Low (L : Addr) (s0 s : Shared) : Prop where
  size : s0.heap.objs.size = L
  same : ∀ b o, s0.heap.get? b = some o → s.heap.get? b = some o
  back : ∀ b o, b < L → s.heap.get? b = some o → s0.heap.get? b = some o
  os : s0.os = s.os
theorem Low.refl (s : Shared) : Low s.heap.objs.size s s := ⟨rfl, fun _ _ e => e, fun _ _ _ e => e, rfl⟩
theorem low_of (s : Shared) {L : Addr} (h : L ≤ s.heap.objs.size) : ∃ s0, Low L s0 s := by
  obtain ⟨G, g1, g2, g3⟩ := lower_part s.heap L h
  refine ⟨{ s with heap := G }, g1, fun b o e => ?_, fun b o hb e => ?_, rfl⟩
  · by_cases hb : b < L
    · rw [← g2 b hb]; exact e
    · have z : G.get? b = some o := e
      rw [g3 b (Nat.le_of_not_lt hb)] at z
      cases z
  · show G.get? b = some o
    rw [g2 b hb]; exact e
/-- the addresses from L on -/
def high (L : Addr) (s : Shared) : List Addr := List.range' L (s.heap.objs.size - L)
theorem range_iff (L n b : Nat) : (L ≤ b ∧ b < L + (n - L)) ↔ (L ≤ b ∧ b < n) := by omega
theorem high_mem {L : Addr} {s : Shared} {b : Addr} : b ∈ high L s ↔ L ≤ b ∧ b < s.heap.objs.size := by
  unfold high
  rw [List.mem_range'_1]
  exact range_iff L s.heap.objs.size b
/-- what a run of the generator's, begun at s with H, has left for those who wait for it -/
structure Moved (P : Program) (w : World) (outer : List Env) (L : Addr) (W : List Addr) (H H1 : Hp) (s s1 : Shared) : Prop where
  os : s1.os = s.os
  bare : AllBare s1.gens
  un : Un (frs outer) (high L s) H H1 s.heap s1.heap
  hok : HOk P w H1 s1.heap
  sm : SmX W H H1
/-! ### the generator's frame, awake -/
/-- the context of a generator's code that was woken at s0; nothing leaves it -/
def wx (P : Program) (w : World) (K : PySem.W.Frag) (mg : Str → Option Value) (base : Heap) (N : List Str) (qual : Str) (scope : Scope) (f : Addr) (cd : Value) (A : Around) (outer : List Env) (L : Addr) (pn : List (Addr × Obj)) (s0 : Shared) (H0 : Hp) : Cx where
  prog := P
  w := w
  K := K
  mg := mg
  base := base
  A := A.deeper (envOfC qual scope L f cd)
  N := N
  s_0 := s0
  H_0 := H0
  env := envOfC qual scope L f cd
  outer := outer
  stack := envOfC qual scope L f cd :: outer
  ex := []
  fn := fun _ => true
  calm := true
  pn := pn
  xe := fun _ _ => False
section
variable {P : Program} {w : World} {K : PySem.W.Frag} {mg : Str → Option Value} {base : Heap} {N : List Str} {qual : Str} {scope : Scope} {f : Addr} {cd : Value} {A A' : Around} {outer : List Env} {L : Addr} {pn : List (Addr × Obj)} {s0 s s1 : Shared} {H H1 : Hp} {σ : L2.St} {W : List Addr}
/-- no name of the def is a cell -/
def NoCell (scope : Scope) : Prop := cellsFrom 0 scope.names [] = [] ∧ ∀ n, cellsFrom n scope.names [] = []
/-- what the sleeper's frame holds -/
structure Holds (N : List Str) (qual : Str) (scope : Scope) (f : Addr) (cd : Value) (L : Addr) (σ : L2.St) (h : Heap) : Prop where
  ns : ∃ m, h.Ns L m ∧ ∀ (i : Nat) (x : Str) (v : V), N[i]? = some x → σ[i]? = some (some v) → Vis scope x → ∃ u, RelV v u ∧ Look (envOfC qual scope L f cd) h m x u
  len : σ.length = N.length
theorem Holds.keep {h h' : Heap} {o : Obj} (nc : NoCell scope) (x : Holds N qual scope f cd L σ h) (e : h.get? L = some o) (e' : h'.get? L = some o) : Holds N qual scope f cd L σ h' := by
  obtain ⟨m, ⟨o', es, ep, ho, hr⟩, hl⟩ := x.ns
  rw [e] at ho
  cases ho
  refine ⟨⟨m, ⟨o, es, ep, e', hr⟩, fun i y v h1 h2 h3 => ?_⟩, x.len⟩
  obtain ⟨u, ru, lk⟩ := hl i y v h1 h2 h3
  refine ⟨u, ru, ?_⟩
  rcases lk with lk | ⟨_, c, hc, _⟩
  · exact .inl lk
  · exfalso
    have z : (cellsFrom (L + 1) scope.names []).lookup y = some c := hc
    rw [nc.2] at z
    cases z
theorem wake_inv (nc : NoCell scope) (hk : scope.kind = .function) (nf : ∀ y ∈ scope.names, y.2 ≠ .free ∧ y.2 ≠ .cell) (e0 : Env0 P w K mg base A' outer s H) (hfr : A.frames = some outer) (hh : A.handled = none) (lo : Low L s0 s) (hbl : base.objs.size ≤ L) (hol : ∀ b ∈ frs outer, b < L)
    (hN : Holds N qual scope f cd L σ s.heap) (hL : H L = none) (hpn : ∀ p ∈ pn, s.heap.get? p.1 = some p.2 ∧ H p.1 = none ∧ p.1 ≠ L ∧ p.1 ∉ frs outer ∧ ∀ v, p.2.data ≠ .cell v) :
    Inv (wx P w K mg base N qual scope f cd A outer L pn s0 H) [] σ H s := by
  have nocell : ∀ {y c}, (envOfC qual scope L f cd).cells.lookup y = some c → False := fun {y c} z => by
    have z : (cellsFrom (L + 1) scope.names []).lookup y = some c := z
    rw [nc.2] at z
    cases z
  have blt : ∀ b o, base.get? b = some o → b < L := fun b o e => Nat.lt_of_lt_of_le (Heap.lt_size e) hbl
  have funs : s0.heap.FunFrames base outer := by
    have all : ∀ l : List Env, (∀ b ∈ frs l, b < L) → s.heap.FunFrames base l → s0.heap.FunFrames base l := by
      intro l
      induction l with
      | nil => intro _ _; trivial
      | cons e r ih =>
        intro hl hx
        obtain ⟨h1, ⟨L', o, hf, hn, ho, hd⟩, hr⟩ := hx
        have mem : L' ∈ frs (e :: r) := by
          unfold frs
          rw [List.filterMap_cons, hf]
          exact List.mem_cons_self
        refine ⟨h1, ⟨L', o, hf, hn, lo.back _ _ (hl _ mem) ho, hd⟩, ih (fun b hb => hl b ?_) hr⟩
        unfold frs
        rw [List.filterMap_cons, hf]
        exact List.mem_cons_of_mem _ hb
    exact all outer hol e0.funs
  refine ⟨⟨e0.mod, hk, rfl, rfl, Nat.le_of_eq lo.size, fun _ _ _ z _ => (nocell z).elim, fun y hy => ?_, fun _ _ _ z => (nocell z).elim, fun _ => hh, Around.frames_deeper hfr, .inr ⟨rfl, rfl⟩, fun b z => absurd z (show b ∉ ([] : List Addr) by simp), fun b o e => ?_, by rw [show (wx P w K mg base N qual scope f cd A outer L pn s0 H).s_0 = s0 from rfl, lo.size]; exact hbl,
    fun b _ _ => show b ∉ ([] : List Addr) by simp, fun b z => absurd z (show b ∉ ([] : List Addr) by simp), funs, e0.frf⟩, lo.os.symm, e0.bare, ⟨fun b o e _ _ _ => lo.same b o e, fun b o e _ _ _ => ⟨o.slots, lo.same b o e⟩, fun _ _ _ n _ => n, fun b o e _ => ⟨o, lo.same b o e⟩, fun _ _ e => e, fun _ _ _ e => e, fun b ps e => ⟨#[], by rw [Array.append_empty]; exact e⟩⟩,
    hN.ns, fun _ _ z => (nocell z).elim, hL, fun _ _ z => (nocell z).elim, fun p hp => ?_, e0.hok, hN.len⟩
  · have hy : scope.names.lookup y = some .cell ∨ scope.names.lookup y = some .free := hy
    rcases hy with hy | hy
    · exact absurd rfl (nf _ (PySem.mem_of_lookup hy)).2
    · exact absurd rfl (nf _ (PySem.mem_of_lookup hy)).1
  · obtain ⟨q1, q2⟩ := e0.bs b o e
    exact ⟨lo.back _ _ (blt b o e) q1, q2⟩
  · rw [List.append_nil] at hp
    exact hpn p hp
/-- the run's trace, for those who wait -/
theorem moved_of (lo : Low L s0 s) (I : Inv (wx P w K mg base N qual scope f cd A outer L pn s0 H) [] σ H1 s1) (sm : SmX W H H1) : Moved P w outer L W H H1 s s1 := by
  have small : ∀ b o, b ∉ high L s → s.heap.get? b = some o → s0.heap.get? b = some o := fun b o hb e => by
    refine lo.back b o ?_ e
    have := Heap.lt_size e
    rcases Nat.lt_or_ge b L with z | z
    · exact z
    · exact absurd (high_mem.mpr ⟨z, this⟩) hb
  have no : ∀ b, b ∉ (wx P w K mg base N qual scope f cd A outer L pn s0 H).ex := fun b => show b ∉ ([] : List Addr) by simp
  refine ⟨I.os.trans lo.os, I.bare, ⟨fun b o e n hb hx => I.base.keep b o (small b o hx e) n hb (no b), fun b o e n hb hx => I.base.slot b o (small b o hx e) n hb (no b), fun b o e n hx => I.base.free b o (small b o hx e) n (no b), fun b o e hx => I.base.there b o (small b o hx e) (no b), I.base.tups, I.base.frzs, I.base.tbls⟩, I.hok, sm⟩
theorem holds_of (I : Inv (wx P w K mg base N qual scope f cd A outer L pn s0 H) [] σ H1 s1) : Holds N qual scope f cd L σ s1.heap := ⟨I.loc, I.len⟩
end
/-! ### a name stored, the state told -/
section
variable {X : Cx} {pins : List (Addr × Obj)} {σ : L2.St} {H : Hp} {s : Shared}
theorem store_loc {M : Model} {A : Around} {E : Value → Shared → Prop} {i : Nat} {x : Str} {v : V} {u : Value} {Q : Unit → Shared → Prop} (I : Inv X pins σ H s) (hN : X.N.Nodup) (hi : X.N[i]? = some x) (hk : X.env.scope.names.lookup x = some .local) (r : RelV v u)
    (h : ∀ h' t', Inv X pins (σ.set i (some v)) H { s with heap := h', toks := t' } → Q () { s with heap := h', toks := t' }) : wpAny M A (storeName X.env x u) Q E s := by
  obtain ⟨m, hn, hl⟩ := id I.loc
  have nk : (X.env.scope.kind == .class || (X.env.scope.kind == .module && X.env.locals != X.env.globals)) = false := by rw [I.ok.kind]; rfl
  have il : i < σ.length := by rw [I.len]; exact (List.getElem?_eq_some_iff.mp hi).1
  refine wpAny_storeName_local hk hn (fun h' hn' hs => h h' _ ?_) nk
  have low : ∀ {b o}, X.s_0.heap.get? b = some o → b ≠ X.env.locals := fun {b o} e => Nat.ne_of_lt (Nat.lt_of_lt_of_le (Heap.lt_size e) I.ok.above)
  have keep : ∀ {b o}, b ≠ X.env.locals → s.heap.get? b = some o → h'.get? b = some o := fun {b o} ne e => (hs.2 b ne).trans e
  have trk : ∀ {b o}, H b = some o → b ≠ X.env.locals := fun {b o} e z => by rw [z, I.free] at e; cases e
  refine ⟨I.ok, I.os, I.bare, ⟨fun b o e n hb hx => keep (low e) (I.base.keep b o e n hb hx), fun b o e n hb hx => ?_, I.base.free, fun b o e hx => ?_, I.base.tups, I.base.frzs, I.base.tbls⟩, ⟨_, hn', fun j y v' e1 e2 e3 => ?_⟩, fun y c e => ?_, I.free, I.freeC, fun p hp => ?_, fun b o e => ?_, by rw [List.length_set]; exact I.len⟩
  · obtain ⟨sl, q⟩ := I.base.slot b o e n hb hx
    exact ⟨sl, keep (low e) q⟩
  · obtain ⟨o', q⟩ := I.base.there b o e hx
    exact ⟨o', keep (low e) q⟩
  · by_cases hj : j = i
    · subst hj
      rw [hi] at e1
      cases e1
      rw [List.getElem?_set_self il] at e2
      cases e2
      exact ⟨u, r, .inl ⟨hk, by simp⟩⟩
    · rw [List.getElem?_set_ne (Ne.symm hj)] at e2
      obtain ⟨u', r', q⟩ := hl j y v' e1 e2 e3
      refine ⟨u', r', ?_⟩
      rcases q with ⟨k, e⟩ | ⟨k, c, e, z⟩
      · have ne : y ≠ x := fun e => hj (nodup_ix hN e1 (e ▸ hi))
        exact .inl ⟨k, by simp [ne, e]⟩
      · exact .inr ⟨k, c, e, z.sameBut hs (I.cne y c e)⟩
  · obtain ⟨v', z⟩ := I.cell y c e
    exact ⟨v', z.sameBut hs (I.cne y c e)⟩
  · obtain ⟨e, n, ne, nf, d⟩ := I.pin p hp
    exact ⟨keep ne e, n, ne, nf, d⟩
  · refine (I.hok b o e).stay (fun c q hc z => keep ?_ z) (fun _ z => z) fun _ _ z => z
    rcases hc with y | y
    · rw [y]; exact trk e
    · exact trk y
end
end FvG


namespace FvG
open PySem PySem.Spec PyProof.Rows L2 Fv FvD
/-! ### a term and all below it, from the left -/
mutual
def pre : PyData → List PyData
  | .tuple l => .tuple l :: preT l
  | .none => [.none]
  | .bool b => [.bool b]
  | .int i => [.int i]
  | .str x => [.str x]
  | .list l => [.list l]
  | .dict l => [.dict l]
def preT : List PyData → List PyData
  | [] => []
  | o :: ds => if isCd (.tuple (o :: ds)) = true then preL ds else []
def preL : List PyData → List PyData
  | [] => []
  | d :: ds => pre d ++ preL ds
end
theorem preL_eq : ∀ ds : List PyData, preL ds = ds.flatMap pre
  | [] => by simp [preL]
  | d :: ds => by simp [preL, preL_eq ds]
theorem pre_eq (d : PyData) : pre d = d :: (if isCd d = true then (parts d).flatMap pre else []) := by
  cases d with
  | tuple l =>
    cases l with
    | nil => simp [pre, preT, isCd]
    | cons o ds =>
      simp only [pre, preT, parts]
      rw [preL_eq]
  | _ => simp [pre, isCd]
theorem pre_ne (d : PyData) : pre d ≠ [] := by rw [pre_eq]; exact fun h => nomatch h
theorem flat_len : ∀ ds : List PyData, ds.length ≤ (ds.flatMap pre).length
  | [] => by simp
  | d :: ds => by
    have := flat_len ds
    rw [List.flatMap_cons, List.length_append, List.length_cons, pre_eq, List.length_cons]
    omega
theorem flat_nil {ds : List PyData} (h : ds.flatMap pre = []) : ds = [] := by
  have := flat_len ds
  rw [h] at this
  cases ds with
  | nil => rfl
  | cons _ _ => simp at this
/-! ### data of tuples and texts stay while the tuples stay -/
structure Stay (H H' : Hp) : Prop where
  tup : ∀ b xs, H b = some (.tup xs) → H' b = some (.tup xs)
  frz : ∀ b o u, H b = some (.frz o u) → H' b = some (.frz o u)
theorem Stay.refl (H : Hp) : Stay H H := ⟨fun _ _ e => e, fun _ _ _ e => e⟩
theorem Stay.trans {H H1 H2 : Hp} (a : Stay H H1) (b : Stay H1 H2) : Stay H H2 := ⟨fun c xs e => b.tup c xs (a.tup c xs e), fun c o u e => b.frz c o u (a.frz c o u e)⟩
theorem Stay.same {H H1 : Hp} (s : Same H H1) : Stay H H1 := ⟨fun b xs e => s b _ e, fun b o u e => s b _ e⟩
/-- at a something is written that is no tuple and not locked -/
theorem Stay.put {H : Hp} {a : Addr} {o : HO} (h : (∀ xs, H a ≠ some (.tup xs)) ∧ ∀ u v, H a ≠ some (.frz u v)) : Stay H (upd H a o) := by
  refine ⟨fun b xs e => ?_, fun b u v e => ?_⟩
  · rw [upd_ne (fun z => h.1 xs (by rw [← z]; exact e))]; exact e
  · rw [upd_ne (fun z => h.2 u v (by rw [← z]; exact e))]; exact e
theorem stay_lst {H : Hp} {a : Addr} {xs ys : List V} (h : H a = some (.lst xs)) : Stay H (upd H a (.lst ys)) := Stay.put ⟨fun zs e => (by rw [h] at e; cases e), fun u v e => (by rw [h] at e; cases e)⟩
theorem stay_new {H : Hp} {a : Addr} {o : HO} (h : H a = none) : Stay H (upd H a o) := .same (same_upd h)
mutual
theorem kdp_stay {K : PySem.W.Frag} {H H' : Hp} (s : Stay H H') : ∀ (n : Nat) (d : PyData) (v : V), kd n d = true → Dp K H v d → Dp K H' v d
  | n, .str x, v, _, h => by cases h; exact .str x
  | n + 1, .tuple ds, v, hk, h => by
    cases h with
    | tup hs ha =>
      refine .tup ?_ (kdpAll_stay s n ds _ (by simpa [kd] using hk) ha)
      rcases hs with (h | ⟨o, h⟩) | h
      · exact .inl (.inl (s.tup _ _ h))
      · exact .inl (.inr ⟨o, s.frz _ _ _ h⟩)
      · exact .inr h
  | 0, .tuple _, _, hk, _ => by simp [kd] at hk
  | n, .none, _, hk, _ => by cases n <;> simp [kd] at hk
  | n, .bool _, _, hk, _ => by cases n <;> simp [kd] at hk
  | n, .int _, _, hk, _ => by cases n <;> simp [kd] at hk
  | n, .list _, _, hk, _ => by cases n <;> simp [kd] at hk
  | n, .dict _, _, hk, _ => by cases n <;> simp [kd] at hk
theorem kdpAll_stay {K : PySem.W.Frag} {H H' : Hp} (s : Stay H H') : ∀ (n : Nat) (ds : List PyData) (vs : List V), kdAll n ds = true → DpAll K H vs ds → DpAll K H' vs ds
  | n, [], vs, _, h => by cases h; exact .nil
  | n, d :: ds, vs, hk, h => by
    simp only [kdAll, Bool.and_eq_true] at hk
    cases h with
    | cons h1 h2 => exact .cons (kdp_stay s n d _ hk.1 h1) (kdpAll_stay s n ds _ hk.2 h2)
end
theorem kd_up : ∀ (n : Nat) (d : PyData), kd n d = true → kd (n + 1) d = true := by
  have both : ∀ (n : Nat), (∀ d, kd n d = true → kd (n + 1) d = true) := by
    intro n
    induction n with
    | zero =>
      intro d h
      cases d with
      | str x => exact kd_str
      | _ => simp [kd] at h
    | succ n ih =>
      intro d h
      cases d with
      | str x => exact kd_str
      | tuple ds =>
        have h' : kdAll n ds = true := by simpa [kd] using h
        show kdAll (n + 1) ds = true
        exact kdAll_iff.mpr fun d hd => ih d (kdAll_iff.mp h' d hd)
      | _ => simp [kd] at h
  exact both
theorem kd_le {n m : Nat} {d : PyData} (h : kd n d = true) (hm : n ≤ m) : kd m d = true := by
  induction hm with
  | refl => exact h
  | step _ ih => exact kd_up _ _ ih
/-! ### what can stand on the stack -/
/-- a long term -/
structure Tk (d : PyData) : Prop where
  one : 1 ≤ lmeas 9 d
  top : lmeas 9 d ≤ 600
  gd : gd 20 d = true
theorem kd_meas : ∀ (n : Nat) (d : PyData), 1 ≤ lmeas (n + 1) d → kd n d = true
  | 0, d, h => by
    rcases lmeas_inv h with ⟨x, rfl, hx⟩ | ⟨o, ds, rfl, _, ho, h2, all1, e⟩
    · exact kd_str
    · exfalso
      match ds, h2, all1 with
      | d :: _, _, all1 =>
        have := all1 d List.mem_cons_self
        simp [lmeas] at this
  | n + 1, d, h => by
    rcases lmeas_inv h with ⟨x, rfl, hx⟩ | ⟨o, ds, rfl, _, ho, h2, all1, e⟩
    · exact kd_str
    · show kdAll n (.str o :: ds) = true
      refine kdAll_iff.mpr fun y hy => ?_
      rcases List.mem_cons.mp hy with z | z
      · rw [z]; exact kd_str
      · exact kd_meas n y (all1 y z)
theorem Tk.kd {d : PyData} (h : Tk d) : kd 8 d = true := kd_meas 8 d h.one
theorem Tk.inv {d : PyData} (h : Tk d) : (∃ x, d = .str x ∧ isL x = true) ∨ ∃ o ds, d = .tuple (.str o :: ds) ∧ isCd d = true ∧ 2 ≤ ds.length ∧ (∀ x ∈ ds, Tk x) ∧ lmeas 9 d = (ds.map (lmeas 9)).sum := by
  rcases lmeas_inv (n := 8) h.one with ⟨x, rfl, hx⟩ | ⟨o, ds, rfl, _, ho, h2, all1, e⟩
  · exact .inl ⟨x, rfl, hx⟩
  · have up : ∀ x ∈ ds, lmeas 9 x = lmeas 8 x := fun x hx => lmeas_up 8 x (all1 x hx)
    have sm : (ds.map (lmeas 9)).sum = (ds.map (lmeas 8)).sum := by rw [List.map_congr_left up]
    refine .inr ⟨o, ds, rfl, ?_, h2, fun x hx => ⟨?_, ?_, ?_⟩, by rw [sm]; exact e⟩
    · have op : isOp (.str o) = true := by
        rcases ho with z | z
        · rw [z]; exact isOp_str.1
        · rw [z]; exact isOp_str.2
      simp [isCd, h2, op]
    · rw [up x hx]; exact all1 x hx
    · rw [up x hx]
      have z : lmeas 8 x ≤ (ds.map (lmeas 8)).sum := by
        have nn : ∀ l : List PyData, 0 ≤ (l.map (lmeas 8)).sum := fun l => sum_nonneg fun u hu => by
          obtain ⟨d', _, rfl⟩ := List.mem_map.mp hu
          exact lmeas_nonneg 8 d'
        have le : ∀ l : List PyData, x ∈ l → lmeas 8 x ≤ (l.map (lmeas 8)).sum := by
          intro l
          induction l with
          | nil => intro h; cases h
          | cons y r ih =>
            intro hm
            rw [List.map_cons, List.sum_cons]
            have n1 := nn r
            have n2 := lmeas_nonneg 8 y
            rcases List.mem_cons.mp hm with e | e
            · rw [e]; omega
            · have := ih e; omega
        exact le ds hx
      have t9 := h.top
      have e9 : lmeas 9 (.tuple (.str o :: ds)) = (ds.map (lmeas 8)).sum := e
      rw [e9] at t9
      omega
    · exact gd_up 19 x ((gd_parts (n := 19) h.gd).2 x hx)
theorem str_isCd (x : Str) : isCd (.str x) = false := rfl
theorem sum9_nonneg (l : List PyData) : 0 ≤ (l.map (lmeas 9)).sum := sum_nonneg fun u hu => by
  obtain ⟨d', _, rfl⟩ := List.mem_map.mp hu
  exact lmeas_nonneg 9 d'
/-- how many there are -/
theorem pre_len : ∀ (n : Nat) (d : PyData), 1 ≤ lmeas n d → Tk d → ((pre d).length : Int) + 1 ≤ 2 * lmeas 9 d
  | 0, d, h, _ => by simp only [lmeas] at h; omega
  | n + 1, d, h, t => by
    rcases t.inv with ⟨x, rfl, hx⟩ | ⟨o, ds, rfl, hc, h2, all, e⟩
    · have := t.one
      rw [pre_eq, str_isCd]
      simp
      omega
    · rw [pre_eq, if_pos hc, e]
      rcases lmeas_inv h with ⟨x, hx, _⟩ | ⟨o', ds', hd, _, _, _, all1, _⟩
      · cases hx
      · cases hd
        have sub : ∀ l : List PyData, (∀ x ∈ l, x ∈ ds) → ((l.flatMap pre).length : Int) + l.length ≤ 2 * (l.map (lmeas 9)).sum := by
          intro l
          induction l with
          | nil => intro _; simp
          | cons y r ih =>
            intro hm
            have hy := hm y List.mem_cons_self
            have a := pre_len n y (all1 y hy) (all y hy)
            have b := ih fun x hx => hm x (List.mem_cons_of_mem _ hx)
            rw [List.flatMap_cons, List.length_append, List.length_cons, List.map_cons, List.sum_cons]
            omega
        have := sub ds fun _ h => h
        show (((PyData.tuple (.str o :: ds)) :: (ds.flatMap pre)).length : Int) + 1 ≤ _
        rw [List.length_cons]
        omega
theorem pre_small {d : PyData} (t : Tk d) : (pre d).length ≤ 1200 := by
  have := pre_len 9 d t.one t
  have := t.top
  omega
end FvG


set_option maxHeartbeats 2000000
namespace FvG
open PySem PySem.Spec PyProof.Rows L2 GenW Fv
/-! ### a generator that was just made -/
/-- the generator's own object -/
structure GObj (go : Obj) (g : Nat) : Prop where
  cls : go.cls = .type "generator"
  dat : ∃ nm qn, go.data = .fields #[.int g 0, nm, qn]
  slo : go.slots = #[]
theorem GObj.is {go : Obj} {g : Nat} {h : Heap} {a : Addr} (x : GObj go g) (e : h.get? a = some go) : h.IsGen a g := let ⟨nm, qn, hd⟩ := x.dat; ⟨go, nm, qn, e, x.cls, hd, x.slo⟩
theorem GObj.nocell {go : Obj} {g : Nat} (x : GObj go g) : ∀ v, go.data ≠ .cell v := fun v e => by
  obtain ⟨nm, qn, hd⟩ := x.dat
  rw [hd] at e
  cases e
/-- s' is s with a generator at a, number g, that has not begun; its frame lies where s ended -/
structure Born (P : Program) (w : World) (K : PySem.W.Frag) (mg : Str → Option Value) (base : Heap) (N : List Str) (qual : Str) (scope : Scope) (f : Addr) (cd : Value) (body : List Stmt) (outer : List Env) (H : Hp) (vs : List V) (s : Shared) (a : Addr) (g : Nat) (go : Obj) (s' : Shared) : Prop where
  obj : GObj go g
  at_ : s'.heap.get? a = some go
  above : s.heap.objs.size < a
  gen : s'.gens[g]? = some (.fresh (.func body (envOfC qual scope s.heap.objs.size f cd)))
  os : s'.os = s.os
  bare : AllBare s'.gens
  lim : s'.heap.NoLimit
  keep : ∀ b o, s.heap.get? b = some o → s'.heap.get? b = some o
  begin_ : ∀ (Aw : Around) (E : XK) (s2 : Shared), Aw.frames = some outer → Aw.handled = none → (∀ b o, s'.heap.get? b = some o → s2.heap.get? b = some o) → s2.os = s.os → AllBare s2.gens → Inv (gcxOf P w K mg base N qual scope f cd Aw outer s H E [(a, go)]) [] (start N vs) H s2
section
variable {P : Program} {w : World} {K : PySem.W.Frag} {mg : Str → Option Value} {base : Heap} {f : Addr} {name qual : Str} {params : Arguments} {body : List Stmt} {scope : Scope} {dV kV doc pm cdv ct oc : Value} {an od : Option Addr} {osl : Array (Option Value)} {N ps : List Str}
  {A : Around} {outer : List Env} {s : Shared} {H : Hp} {args : Args} {us : List Value} {vs : List V}
theorem born_of (lk : K.lookup f = some ⟨oc, od, .func (PySem.W.fnOf name qual params body scope dV kV doc pm an cdv ct), osl⟩) (hcd : PySem.W.codeIn K cdv qual = true) (S : GScope N ps scope) (hl : vs.length = ps.length) (dp : A.depth < recursionLimit) (hh : A.handled = none)
    (e0 : Env0 P w K mg base A outer s H) (hb : BindsTo s (PySem.W.fnOf name qual params body scope dV kV doc pm an cdv ct) args (ps.zip us)) (rv : Vals vs us) :
    codeAny (model P w) A (.call (.ref f) args) (fun r s' => ∃ a g go, r = .ok (.ret (.ref a)) ∧ Born P w K mg base N qual scope f cdv body outer H vs s a g go s') s := by
  have kin : K.In s.heap := e0.mod.kin.keeps fun b o e => (e0.bs b o e).1
  have nolim : s.heap.NoLimit := e0.mod.nolimit.keeps fun b o e => (e0.bs b o e).1
  have kinds : ∀ y ∈ ps.zip us, scope.names.lookup y.1 = some .local ∨ (scope.names.lookup y.1 = some .cell ∧ ((cellsFrom (s.heap.objs.size + 1) scope.names []).lookup y.1).isSome = true) := fun y hy => by
    rcases S.par y.1 (List.of_mem_zip (a := y.1) (b := y.2) hy).1 with z | z
    · exact .inl z
    · exact .inr ⟨z, PySem.W.cellsFrom_some _ _ _ (.inl z)⟩
  refine codeAny_call_generator dp (kin _ _ lk) rfl S.co S.gen rfl (PySem.W.codeRec_of kin hcd) (hb _ _ _ _ ?_)
  refine wpAny_newFunctionEnv_cells S.kind kinds fun env he s1 x => ?_
  subst he
  have lim1 : s1.heap.NoLimit := nolim.keeps x.toInCall.keep
  refine ⟨lim1, ?_⟩
  obtain ⟨h1, tk, es1, _⟩ := x.done
  have gs1 : s1.gens = s.gens := by rw [es1]
  have os1 : s1.os = s.os := by rw [es1]
  have lt1 : s.heap.objs.size < s1.heap.objs.size := x.toInCall.ns.lt
  have k1 : ∀ b o, s.heap.get? b = some o → s1.heap.get? b = some o := x.toInCall.keep
  refine ⟨s1.heap.objs.size, s1.gens.size, _, rfl, ⟨rfl, ⟨_, _, rfl⟩, rfl⟩, Heap.get?_push_size _ rfl, lt1, Array.getElem?_push_size .., os1, AllBare.push (by rw [gs1]; exact e0.bare) rfl, lim1.keeps fun b o e => Heap.get?_push_of_some _ e, fun b o e => Heap.get?_push_of_some _ (k1 b o e), fun Aw E s2 hfr hd k2 o2 b2 => ?_⟩
  have e1 : Env0 P w K mg base Aw outer s H := ⟨hfr, e0.mod, e0.bs, e0.bsz, e0.funs, e0.frf, e0.hok, e0.bare⟩
  have I1 : Inv (gcxOf P w K mg base N qual scope f cdv Aw outer s H E []) [] (start N vs) H s1 := inv_startG S hd e1 hl rv x
  have kp : ∀ b o, s1.heap.get? b = some o → s2.heap.get? b = some o := fun b o e => k2 b o (Heap.get?_push_of_some _ e)
  have I2 : Inv (gcxOf P w K mg base N qual scope f cdv Aw outer s H E []) [] (start N vs) H s2 := I1.call' (ch := []) (o2.trans os1.symm) (Un.kept kp) (I1.hok.kept kp) b2 fun b z => absurd z (by simp)
  refine Inv.pinnedG I2 fun p hp => ?_
  rw [List.append_nil] at hp
  rw [List.mem_singleton.mp hp]
  refine ⟨k2 _ _ (Heap.get?_push_size _ rfl), I1.hok.fresh (Nat.le_refl _), Nat.ne_of_gt lt1, I1.nofs (Nat.le_refl _), fun v q => ?_⟩
  cases q
end
end FvG


set_option maxHeartbeats 2000000
namespace Fv
open PySem PySem.Spec PyProof.Rows L2 GenW FvX FvD FvG
-- top 18  slots: 0:term 1:waiting 2:found
abbrev s_walk : Stmt := topS 18
abbrev N_walk : List Str := ["term", "waiting", "found"]
theorem sc_walk : GScope N_walk ["term"] (defScope s_walk) := ⟨rfl, rfl, rfl, by decide +kernel, rfl, by decide +kernel, by decide +kernel⟩

abbrev wNone : Stmt := .Pass ⟨0, 0, 0, 0⟩
abbrev w1 : Stmt := (defBody s_walk).getD 0 wNone
abbrev w2 : Stmt := (defBody s_walk).getD 1 wNone
abbrev w3 : Stmt := (defBody s_walk).getD 2 wNone
def whTest : Stmt → Expr
  | .While t _ _ _ => t
  | _ => .Constant .none 0 ⟨0, 0, 0, 0⟩
def whBody : Stmt → List Stmt
  | .While _ b _ _ => b
  | _ => []
abbrev wT : Expr := whTest w3
abbrev wB : List Stmt := whBody w3
theorem walk_body : ∃ p, defBody s_walk = [w1, w2, .While wT wB [] p] := ⟨_, rfl⟩
abbrev b1 : Stmt := wB.getD 0 wNone
abbrev b2 : Stmt := wB.getD 1 wNone
abbrev b3 : Stmt := wB.getD 2 wNone
theorem wB_eq : wB = [b1, b2, b3] := rfl
def yldE : Stmt → Expr
  | .Expr (.Yield (some e) _) _ => e
  | _ => .Constant .none 0 ⟨0, 0, 0, 0⟩
theorem b2_eq : ∃ p q, b2 = .Expr (.Yield (some (yldE b2)) p) q := ⟨_, _, rfl⟩
theorem walk_nc : NoCell (defScope s_walk) := by
  have h : ∀ n, cellsFrom n (defScope s_walk).names [] = [] := fun n => rfl
  exact ⟨h 0, h⟩
theorem walk_nf : ∀ y ∈ (defScope s_walk).names, y.2 ≠ .free ∧ y.2 ≠ .cell := by decide +kernel
section
variable {P : Program} {w : World} {K : PySem.W.Frag} {mg : Str → Option Value} {base : Heap} {f : Addr} {cd : Value} {A : Around} {outer : List Env} {L : Addr} {a : Addr} {go : Obj} {k : Nat}
  {Cn : Addr → Nat → Hp → Shared → Prop} {Dn : Addr → Nat → V → Hp → Shared → Prop} {Zn : Addr → Hp → Shared → Prop} {Er : Value → Shared → Prop} {items : List PyData}
abbrev wxW (P : Program) (w : World) (K : PySem.W.Frag) (mg : Str → Option Value) (base : Heap) (f : Addr) (cd : Value) (A : Around) (outer : List Env) (L a : Addr) (go : Obj) (s0 : Shared) (H0 : Hp) : Cx :=
  wx P w K mg base N_walk "walk" (defScope s_walk) f cd A outer L [(a, go)] s0 H0
abbrev wE (f : Addr) (cd : Value) (L : Addr) : Env := envOfC "walk" (defScope s_walk) L f cd
/-- the end of a run -/
def RP (Zn : Addr → Hp → Shared → Prop) (Er : Value → Shared → Prop) : GenEnd := fun _ _ r s1 => ((r = .ok (.ret .none) ∨ r = .ok .next) ∧ ∃ W H1, Zn W H1 s1) ∨ ∃ e, r = .error e ∧ Er e s1
/-- what the sleeper wants to find again -/
structure Asleep (L a : Addr) (go : Obj) (W : Addr) (vs : List V) (oL : Obj) (H : Hp) (s : Shared) : Prop where
  lst : H W = some (.lst vs)
  frm : s.heap.get? L = some oL
  frn : H L = none
  gen : s.heap.get? a = some go
  gnn : H a = none
/-- an item is handed out -/
def YP (Cn : Addr → Nat → Hp → Shared → Prop) (Dn : Addr → Nat → V → Hp → Shared → Prop) (L a : Addr) (go : Obj) (m : Nat) : Protocol := fun n _ v s1 kap => ∃ W i x vs oL H1, n + i = m ∧ RelV x v ∧ Dn W i x H1 s1 ∧ Asleep L a go W vs oL H1 s1 ∧ (∀ c, oL.data ≠ .cell c) ∧
  ∀ s' H', Cn W (i + 1) H' s' → Stay H1 H' → Asleep L a go W vs oL H' s' → kap (.send .none) s'
/-- where the loop's code stands -/
abbrev wCode (f : Addr) (cd : Value) (L : Addr) : Code := .whileLoop wT wB [] (wE f cd L)
theorem over_w {kk : Result → Sem PySem.Fin} {g : Bool} {l kp : List Value} {p : Pos} : A.over (wCode f cd L) [.ret kk none g l (.func (defBody s_walk) (wE f cd L)) p kp] = A.deeper (wE f cd L) :=
  (over_loop rfl rfl).trans over_func
/-- the state at the loop's head: i items are out -/
structure AtHead (P : Program) (w : World) (K : PySem.W.Frag) (mg : Str → Option Value) (base : Heap) (f : Addr) (cd : Value) (A : Around) (outer : List Env) (L a : Addr) (go : Obj) (items : List PyData) (i : Nat) (W : Addr) (s0 : Shared) (Hr H : Hp) (s : Shared) : Prop where
  st : ∃ t fx vs dvs, Inv (wxW P w K mg base f cd A outer L a go s0 Hr) [] [some t, some (.ref W), fx] H s ∧ H W = some (.lst vs) ∧ DpAll K H vs dvs ∧ (∀ d ∈ dvs, Tk d) ∧ dvs.reverse.flatMap pre = items.drop i
  sm : SmX [W] Hr H
theorem dpAll_snoc {H : Hp} : ∀ {vs : List V} {ds : List PyData} {d : PyData}, DpAll K H vs (ds ++ [d]) → ∃ us x, vs = us ++ [x] ∧ DpAll K H us ds ∧ Dp K H x d
  | _, [], d, h => by
    cases h with
    | cons h1 h2 => cases h2; exact ⟨[], _, rfl, .nil, h1⟩
  | _, e :: ds, d, h => by
    cases h with
    | cons h1 h2 =>
      obtain ⟨us, x, rfl, q1, q2⟩ := dpAll_snoc h2
      exact ⟨_ :: us, x, rfl, .cons h1 q1, q2⟩
theorem dpAll_rev {H : Hp} : ∀ {vs : List V} {ds : List PyData}, DpAll K H vs ds → DpAll K H vs.reverse ds.reverse
  | _, _, .nil => .nil
  | _, _, .cons h t => by
    rw [List.reverse_cons, List.reverse_cons]
    exact dpAll_app (dpAll_rev t) (.cons h .nil)
theorem tkAll_stay {H H' : Hp} (s : Stay H H') : ∀ {vs : List V} {ds : List PyData}, (∀ d ∈ ds, Tk d) → DpAll K H vs ds → DpAll K H' vs ds
  | _, _, _, .nil => .nil
  | _, _, h, .cons h1 t => .cons (kdp_stay s 8 _ _ (h _ List.mem_cons_self).kd h1) (tkAll_stay s (fun d hd => h d (List.mem_cons_of_mem _ hd)) t)
theorem walk_head (hc : Own P w K mg base k "is_compound" ["value"] (spIsCompound K)) (hr : Room k (A.deeper (wE f cd L))) (hfr : A.frames = some outer) (hh : A.handled = none) (hbl : base.objs.size ≤ L) (hol : ∀ b ∈ frs outer, b < L) (haL : a ≠ L) (hao : a ∉ frs outer) (hgo : ∀ v, go.data ≠ .cell v)
    (hC : ∀ W i H s, Cn W i H s → Env0 P w K mg base A outer s H ∧ L ≤ s.heap.objs.size)
    (hD : ∀ W i H s H1 s1 x d, Cn W i H s → Moved P w outer L [W] H H1 s s1 → items[i]? = some d → Tk d → Dp K H1 x d → Dn W i x H1 s1)
    (hZ : ∀ W H s H1 s1, Cn W items.length H s → Moved P w outer L [W] H H1 s s1 → Zn W H1 s1) (hlen : items.length ≤ 1200)
    {kk : Result → Sem PySem.Fin} {p : Pos} (hkk : kk (.ok .next) = .pure (.done (.ret .none))) :
    ∀ (n i : Nat) (W : Addr) (s0 sr s₀ s : Shared) (Hr H : Hp), n + i = items.length + 1 → i ≤ items.length → Cn W i Hr sr → Low L s0 sr → AtHead P w K mg base f cd A outer L a go items i W s0 Hr H s →
      Seg (model P w) A (RP Zn Er) (YP Cn Dn L a go items.length) n s₀ (wCode f cd L) ((model P w).den (wCode f cd L)) [.ret kk none false [] (.func (defBody s_walk) (wE f cd L)) p []] s := by
  have nd : N_walk.Nodup := sc_walk.nd
  intro n
  induction n with
  | zero =>
    intro i W s0 sr s₀ s Hr H hn hi _ _ _
    omega
  | succ n ih =>
    intro i W s0 sr s₀ s Hr H hn hi0 hCn lo ⟨⟨t, fx, vs, dvs, I, hW, hv, ht, hf⟩, sm⟩
    by_cases ne : dvs = []
    · subst ne
      have hi : i = items.length := by
        have z : items.drop i = [] := hf.symm
        have := List.drop_eq_nil_iff.mp z
        omega
      subst hi
      cases hv
      have pt : PT (wxW P w K mg base f cd A outer L a go s0 Hr) wT _ := pt_truth (pv 1) (fun _ => rfl)
      refine seg_whileLoop ?_
      rw [over_w]
      refine wpAny_mono (pt.run [] s _ H (fun b H' => b = false ∧ H' = H) I ⟨_, rfl, false, .inl ⟨[], SqL.of hW, rfl⟩, rfl, rfl⟩) (fun b s' hb => ?_) fun _ _ hx => hx.elim
      obtain ⟨H2, I2, rfl, rfl⟩ := hb
      rw [if_neg Bool.false_ne_true]
      refine seg_execs_nil (seg_leaf (.ok .next) ?_)
      rw [hkk]
      exact seg_end (.ok (.ret .none)) (.inl ⟨.inl rfl, W, H2, hZ W Hr sr H2 s' hCn (moved_of lo I2 sm)⟩)
    obtain ⟨dvs', dx, rfl⟩ : ∃ l d, dvs = l ++ [d] := ⟨dvs.dropLast, dvs.getLast ne, (List.dropLast_concat_getLast ne).symm⟩
    obtain ⟨us, x, rfl, hus, hx⟩ := dpAll_snoc hv
    have tx : Tk dx := ht dx (List.mem_append_right _ (List.mem_singleton.mpr rfl))
    have tus : ∀ d ∈ dvs', Tk d := fun d hd => ht d (List.mem_append_left _ hd)
    have hflat : items.drop i = pre dx ++ dvs'.reverse.flatMap pre := by
      rw [← hf, List.reverse_append, List.reverse_singleton, List.singleton_append, List.flatMap_cons]
    have hil : i < items.length := by
      have z := congrArg List.length hflat
      rw [List.length_append, List.length_drop, pre_eq, List.length_cons] at z
      omega
    have hit : items[i]? = some dx := by
      have z : (items.drop i)[0]? = some dx := by rw [hflat, pre_eq]; rfl
      rw [List.getElem?_drop, Nat.add_zero] at z
      exact z
    have hrest : items.drop (i + 1) = (if isCd dx = true then (parts dx).flatMap pre else []) ++ dvs'.reverse.flatMap pre := by
      have z : items.drop (i + 1) = (items.drop i).drop 1 := by rw [List.drop_drop]
      rw [z, hflat, pre_eq]
      rfl
    have pt : PT (wxW P w K mg base f cd A outer L a go s0 Hr) wT _ := pt_truth (pv 1) (fun _ => rfl)
    have p1 : PS (wxW P w K mg base f cd A outer L a go s0 Hr) b1 _ := ps_set (i := 2) nd rfl (.inl rfl) (pe_bm0 PySem.F.plainAttrs_list PySem.F.slot_list_pop PySem.F.type_list_pop mt_pop (pv 1))
    have p2 : PE (wxW P w K mg base f cd A outer L a go s0 Hr) (yldE b2) _ := pv 2
    refine seg_whileLoop ?_
    rw [over_w]
    refine wpAny_mono (pt.run [] s _ H (fun b H' => b = true ∧ H' = H) I ⟨_, rfl, true, .inl ⟨us ++ [x], SqL.of hW, by simp⟩, rfl, rfl⟩) (fun b s' hb => ?_) fun _ _ hx => hx.elim
    obtain ⟨H2, I2, rfl, rfl⟩ := hb
    rw [if_pos rfl]
    refine seg_execs_cons (st := b1) (rest := [b2, b3]) (seg_wrap ?_)
    rw [over_w]
    have last : (us ++ [x])[(us ++ [x]).length - 1]? = some x := by simp
    refine wpAny_mono (p1.run [] s' _ H2 { nx := fun σ H' => σ = [some t, some (.ref W), some x] ∧ H' = upd H2 W (.lst us), rt := fun _ _ => False } I2 ⟨_, rfl, .inl ⟨rfl, _, SqL.of hW⟩, W, us ++ [x], x, rfl, rfl, hW, last, rfl, by rw [List.dropLast_concat]⟩) (fun fl s3 h3 => ?_) fun _ _ hx => hx.elim
    cases fl with
    | brk => obtain ⟨_, _, _, q⟩ := h3; exact q.elim
    | cont => obtain ⟨_, _, _, q⟩ := h3; exact q.elim
    | ret u => obtain ⟨_, _, _, _, _, q⟩ := h3; exact q.elim
    | next =>
      obtain ⟨σ3, H3, I3, rfl, rfl⟩ := h3
      have stay3 : Stay H2 (upd H2 W (.lst us)) := stay_lst hW
      have sm3 : SmX [W] Hr (upd H2 W (.lst us)) := sm.put (List.mem_singleton.mpr rfl)
      have hx3 : Dp K (upd H2 W (.lst us)) x dx := kdp_stay stay3 8 dx x tx.kd hx
      have hus3 : DpAll K (upd H2 W (.lst us)) us dvs' := tkAll_stay stay3 tus hus
      refine seg_execs_cons (st := b2) (rest := [b3]) ?_
      refine seg_Expr_Yield (e := yldE b2) rfl rfl rfl ?_
      rw [over_w]
      refine wpAny_mono (p2.run [] s3 _ _ (fun y H' => y = x ∧ H' = upd H2 W (.lst us)) I3 ⟨_, rfl, rfl, rfl⟩) (fun v s4 h4 => ?_) fun _ _ hx => hx.elim
      obtain ⟨y, H4, I4, rv, rfl, rfl⟩ := h4
      intro kap hkap
      have mv := moved_of lo I4 sm3
      obtain ⟨m, ⟨oL, es, ep, hoL, hdL, hrL⟩, _⟩ := id I4.loc
      have gen4 := I4.pin (a, go) (List.mem_append_left _ (List.mem_singleton.mpr rfl))
      refine ⟨W, i, y, us, oL, _, by omega, rv, hD W i Hr sr _ s4 y dx hCn mv hit tx hx3, ⟨upd_same, hoL, I4.free, gen4.1, gen4.2.1⟩, fun c q => (by rw [hdL] at q; cases q), fun s5 H5 hC5 stay5 as5 => hkap .none s5 ?_⟩
      -- awake again
      obtain ⟨e05, hL5⟩ := hC W (i + 1) H5 s5 hC5
      obtain ⟨s05, lo5⟩ := low_of s5 hL5
      have I5 : Inv (wxW P w K mg base f cd A outer L a go s05 H5) [] [some t, some (.ref W), some y] H5 s5 := by
        refine wake_inv walk_nc sc_walk.kind walk_nf e05 hfr hh lo5 hbl hol ((holds_of I4).keep walk_nc hoL as5.frm) as5.frn fun q hq => ?_
        rw [List.mem_singleton.mp hq]
        exact ⟨as5.gen, as5.gnn, haL, hao, hgo⟩
      have hy5 : Dp K H5 y dx := kdp_stay stay5 8 dx y tx.kd hx3
      have hus5 : DpAll K H5 us dvs' := tkAll_stay stay5 tus hus3
      have p3 : PS (wxW P w K mg base f cd A outer L a go s05 H5) b3 _ := ps_if (pt_val (pe_own hc hr (by rfl) (pa_cons (pv 2) pa_nil))) (pss_one (ps_expr (pe_bm PySem.F.plainAttrs_list PySem.F.slot_list_extend PySem.F.type_list_extend mt_extendT (pv 1) (pa_cons (pe_backT (pv 2)) pa_nil)))) pss_nil
      show Seg _ _ _ _ n s5 _ _ _ s5
      refine seg_execs_cons (st := b3) (rest := []) (seg_wrap ?_)
      rw [over_w]
      have go3 : ∀ (H6 : Hp) (s6 : Shared), AtHead P w K mg base f cd A outer L a go items (i + 1) W s05 H5 H6 s6 → Seg (model P w) A (RP Zn Er) (YP Cn Dn L a go items.length) n s5 (wCode f cd L) (.pure (.again (wCode f cd L))) [.ret kk none false [] (.func (defBody s_walk) (wE f cd L)) p []] s6 := fun H6 s6 hA =>
        seg_again rfl (ih (i + 1) W s05 s5 s5 s6 H5 H6 (by omega) hil hC5 lo5 hA)
      have hlen5 : (dvs'.reverse.flatMap pre).length ≤ 1200 := by
        have z := congrArg List.length hrest
        rw [List.length_append, List.length_drop] at z
        omega
      have hul : us.length ≤ 1200 := by
        have z := FvG.flat_len dvs'.reverse
        rw [List.length_reverse] at z
        have := dpAll_len hus5
        omega
      refine wpAny_mono (p3.run [] s5 _ H5 { nx := fun σ H' => σ = [some t, some (.ref W), some y] ∧ SmX [W] H5 H' ∧ ∃ vs' dvs2, H' W = some (.lst vs') ∧ DpAll K H' vs' dvs2 ∧ (∀ d ∈ dvs2, Tk d) ∧ dvs2.reverse.flatMap pre = items.drop (i + 1), rt := fun _ _ => False } I5 ?_) (fun fl s6 h6 => ?_) fun _ _ hx => hx.elim
      · refine ⟨_, rfl, y, dx, rfl, hy5, tx.gd, _, rfl, ?_⟩
        refine ite2 (fun c => ?_) (fun c => ?_)
        · have c' : isCd dx = true := c
          rcases tx.inv with ⟨z, rfl, _⟩ | ⟨o, ds, rfl, _, h2, tds, esum⟩
          · cases c'
          cases hy5 with
          | @tup ay xs _ hs ha =>
            cases ha with
            | @cons v0 vr _ _ h0 hr' =>
              refine ⟨_, rfl, .inl ⟨rfl, _, SqL.of as5.lst⟩, _, rfl, ay, v0, vr, rfl, hs, fun p2 np => ?_⟩
              have lv : vr.length = ds.length := dpAll_len hr'
              have hdl : ds.length ≤ 1200 := by
                have z1 := FvG.flat_len ds
                have z := congrArg List.length hrest
                rw [if_pos c, List.length_append, List.length_drop] at z
                have z2 : ((parts (.tuple (.str o :: ds))).flatMap pre).length = (ds.flatMap pre).length := rfl
                omega
              have Wp : W ≠ p2 := ne_of_none as5.lst np
              have sz : us.length + vr.reverse.length ≤ sizeLine := by
                rw [List.length_reverse, lv]
                exact Nat.le_trans (by omega : us.length + ds.length ≤ 2400) (by rw [sizeLine_eq]; decide)
              refine ⟨W, p2, us, vr.reverse, rfl, rfl, by rw [upd_ne Wp]; exact as5.lst, SqT.of upd_same, sz, rfl, ?_, ?_⟩
              · exact ((SmX.new np).put (List.mem_singleton.mpr rfl))
              · have st1 : Stay H5 (upd H5 p2 (.tup vr.reverse)) := stay_new np
                have st2 : Stay (upd H5 p2 (.tup vr.reverse)) (upd (upd H5 p2 (.tup vr.reverse)) W (.lst (us ++ vr.reverse))) := stay_lst (by rw [upd_ne Wp]; exact as5.lst)
                have st := st1.trans st2
                refine ⟨us ++ vr.reverse, dvs' ++ ds.reverse, upd_same, dpAll_app (tkAll_stay st tus hus5) (tkAll_stay st (fun d hd => tds d (List.mem_reverse.mp hd)) (dpAll_rev hr')), fun d hd => ?_, ?_⟩
                · rcases List.mem_append.mp hd with z | z
                  · exact tus d z
                  · exact tds d (List.mem_reverse.mp z)
                · rw [hrest, if_pos c, List.reverse_append, List.reverse_reverse, List.flatMap_append]
                  rfl
        · have c' : isCd dx = false := Bool.eq_false_iff.mpr c
          refine ⟨rfl, SmX.refl _ _, us, dvs', as5.lst, hus5, tus, ?_⟩
          rw [hrest, c']
          rfl
      · cases fl with
        | brk => obtain ⟨_, _, _, q⟩ := h6; exact q.elim
        | cont => obtain ⟨_, _, _, q⟩ := h6; exact q.elim
        | ret u => obtain ⟨_, _, _, _, _, q⟩ := h6; exact q.elim
        | next =>
          obtain ⟨σ6, H6, I6, rfl, sm6, vs', dvs2, q1, q2, q3, q4⟩ := h6
          exact go3 H6 s6 ⟨⟨t, some y, vs', dvs2, I6, q1, q2, q3, q4⟩, sm6⟩
/-- the whole of it, from its first turn on -/
theorem walk_seg {s s' s2 : Shared} {H : Hp} {v0 : V} {d0 : PyData} {g : Nat} {E : XK} {CT : Addr} (C_ml : OwnR P w K mg base k "measured_long" (spLong K CT)) (hc : Own P w K mg base k "is_compound" ["value"] (spIsCompound K)) (hr : Room k (A.deeper (wE f cd s.heap.objs.size))) (hfr : A.frames = some outer) (hh : A.handled = none)
    (e0 : Env0 P w K mg base A outer s H) (B : Born P w K mg base N_walk "walk" (defScope s_walk) f cd (defBody s_walk) outer H [v0] s a g go s') (k2 : ∀ b o, s'.heap.get? b = some o → s2.heap.get? b = some o) (o2 : s2.os = s.os) (bare2 : AllBare s2.gens)
    (hd : Dp K H v0 d0) (hg : gd 20 d0 = true) (hbad : meas 9 d0 600 = none → errAt CT "InvalidTerm" H E)
    (hC : ∀ W i H s1, Cn W i H s1 → Env0 P w K mg base A outer s1 H ∧ s.heap.objs.size ≤ s1.heap.objs.size)
    (hD : ∀ W i H s0 H1 s1 x d, Cn W i H s0 → Moved P w outer s.heap.objs.size [W] H H1 s0 s1 → (pre d0)[i]? = some d → Tk d → Dp K H1 x d → Dn W i x H1 s1)
    (hZ : ∀ W H s0 H1 s1, Cn W (pre d0).length H s0 → Moved P w outer s.heap.objs.size [W] H H1 s0 s1 → Zn W H1 s1)
    (h0 : (meas 9 d0 600).isSome = true → ∀ W, H W = none → Cn W 0 H s) :
    Seg (model P w) A (RP Zn fun e s1 => L2.CX P w outer H s E e s1 ∧ s1.heap.IsGen a g) (YP Cn Dn s.heap.objs.size a go (pre d0).length) ((pre d0).length + 1) s2 (.func (defBody s_walk) (wE f cd s.heap.objs.size)) ((model P w).den (.func (defBody s_walk) (wE f cd s.heap.objs.size))) [] s2 := by
  have nd : N_walk.Nodup := sc_walk.nd
  have I0 := B.begin_ A E s2 hfr hh k2 o2 bare2
  have pass : Passes (L2.CX P w) (gcxOf P w K mg base N_walk "walk" (defScope s_walk) f cd A outer s H E [(a, go)]) E := passes_call takes_gcx fun _ _ _ _ h => h
  have p1 : PS (gcxOf P w K mg base N_walk "walk" (defScope s_walk) f cd A outer s H E [(a, go)]) w1 _ := ps_expr (pe_ownR C_ml hr (by rfl) pass (pa_cons (pv 0) pa_nil))
  have p2 : PS (gcxOf P w K mg base N_walk "walk" (defScope s_walk) f cd A outer s H E [(a, go)]) w2 _ := ps_set (i := 1) nd rfl (.inl rfl) (pe_lst (pa_cons (pv 0) pa_nil))
  have exc : ∀ {n : Nat} {t0 : Shared} {e : Value} {s1 : Shared}, (gcxOf P w K mg base N_walk "walk" (defScope s_walk) f cd A outer s H E [(a, go)]).xe e s1 → Seg (model P w) A (RP Zn fun e s1 => L2.CX P w outer H s E e s1 ∧ s1.heap.IsGen a g) (YP Cn Dn s.heap.objs.size a go (pre d0).length) n t0 (.func (defBody s_walk) (wE f cd s.heap.objs.size)) ((leaving (wE f cd s.heap.objs.size) e).wrap (fun _ => .raise e) .raise id id) [] s1 := fun {n t0 e s1} hx => by
    refine seg_wrap ?_
    rw [over_func]
    refine wpAny_mono (show wpAny (model P w) (A.deeper (wE f cd s.heap.objs.size)) (leaving (wE f cd s.heap.objs.size) e) (fun _ s2 => L2.CX P w outer H s E e s2 ∧ ∀ p ∈ [(a, go)], s2.heap.get? p.1 = some p.2) (fun _ _ => False) s1 from hx) (fun _ s3 q => ?_) fun _ _ q => q.elim
    exact seg_end (.error e) (.inr ⟨e, rfl, q.1, B.obj.is (q.2 (a, go) (List.mem_singleton.mpr rfl))⟩)
  refine seg_func ?_
  refine seg_execs_cons (st := w1) (rest := [w2, w3]) (seg_wrap ?_)
  rw [over_func]
  refine wpAny_mono (p1.run [] s2 _ H { nx := fun σ H' => σ = [some v0, none, none] ∧ Same H H' ∧ (meas 9 d0 600).isSome = true, rt := fun _ _ => False } I0 ⟨_, rfl, v0, d0, rfl, hd, hg, fun dp sz e H' p s' _ => ⟨rfl, s', by rw [e]; rfl⟩, hbad⟩) (fun fl s3 h3 => ?_) fun _ _ hx => exc hx
  cases fl with
  | brk => obtain ⟨_, _, _, q⟩ := h3; exact q.elim
  | cont => obtain ⟨_, _, _, q⟩ := h3; exact q.elim
  | ret u => obtain ⟨_, _, _, _, _, q⟩ := h3; exact q.elim
  | next =>
  obtain ⟨σ3, H3, I3, rfl, sm3, hm⟩ := h3
  have ms := meas_some 9 d0 600
  rw [hm] at ms
  have ms' := Bool.and_eq_true_iff.mp ms.symm
  have tk : Tk d0 := ⟨of_decide_eq_true ms'.1, of_decide_eq_true ms'.2, hg⟩
  refine seg_execs_cons (st := w2) (rest := [w3]) (seg_wrap ?_)
  rw [over_func]
  refine wpAny_mono (p2.run [] s3 _ H3 { nx := fun σ H' => ∃ W, H3 W = none ∧ σ = [some v0, some (.ref W), none] ∧ H' = upd H3 W (.lst [v0]), rt := fun _ _ => False } I3 ⟨_, rfl, by show 1 ≤ sizeLine; decide, fun W nW => ⟨W, nW, rfl, rfl⟩⟩) (fun fl s4 h4 => ?_) fun _ _ hx => exc hx
  cases fl with
  | brk => obtain ⟨_, _, _, q⟩ := h4; exact q.elim
  | cont => obtain ⟨_, _, _, q⟩ := h4; exact q.elim
  | ret u => obtain ⟨_, _, _, _, _, q⟩ := h4; exact q.elim
  | next =>
  obtain ⟨σ4, H4, I4, W, nW, rfl, rfl⟩ := h4
  have nW0 : H W = none := by
    cases e : H W with
    | none => rfl
    | some o => rw [sm3 W o e] at nW; cases nW
  have ns := same_upd (o := .lst [v0]) nW
  have I5 : Inv (wxW P w K mg base f cd A outer s.heap.objs.size a go s H) [] [some v0, some (.ref W), none] (upd H3 W (.lst [v0])) s4 :=
    ⟨⟨I4.ok.mod, I4.ok.kind, I4.ok.glob, I4.ok.blt, I4.ok.above, I4.ok.inj, I4.ok.has, I4.ok.cab, I4.ok.hd, I4.ok.frames, I4.ok.stk, I4.ok.exf, I4.ok.bs, I4.ok.bsz, I4.ok.noex, I4.ok.exfs, I4.ok.funs, I4.ok.frf⟩, I4.os, I4.bare, I4.base, I4.loc, I4.cell, I4.free, I4.freeC, I4.pin, I4.hok, I4.len⟩
  have hv4 : Dp K (upd H3 W (.lst [v0])) v0 d0 := dp_same ns d0 v0 (dp_same sm3 d0 v0 hd)
  have pinA := I4.pin (a, go) (List.mem_append_left _ (List.mem_singleton.mpr rfl))
  have hol : ∀ b ∈ frs outer, b < s.heap.objs.size := fun b hb => by
    obtain ⟨_, o, ho, _⟩ := e0.funs.mem hb
    exact Heap.lt_size ho
  refine seg_execs_cons (st := w3) (rest := []) (seg_While (test := wT) (body := wB) (orelse := []) fun p => ?_)
  exact walk_head hc hr hfr hh e0.bsz hol (Nat.ne_of_gt B.above) pinA.2.2.2.1 B.obj.nocell hC hD hZ (pre_small tk) rfl ((pre d0).length + 1) 0 W s s s2 s4 H _ rfl (Nat.zero_le _) (h0 hm W nW0) (Low.refl s)
    ⟨⟨v0, none, [v0], [d0], I5, upd_same, .cons hv4 .nil, fun d hd => by rw [List.mem_singleton.mp hd]; exact tk, by simp⟩, (SmX.of_same sm3).put (List.mem_singleton.mpr rfl)⟩
end
end Fv


set_option maxHeartbeats 2000000
namespace Fv
open PySem PySem.Spec PyProof.Rows L2 GenW FvX FvD FvG
/-! ### each one once, by the first occurrence -/
def addD (acc : List PyData) (d : PyData) : List PyData := if (acc.any fun e => decide (nk e = nk d)) = true then acc else acc ++ [d]
def onceD (l : List PyData) : List PyData := l.foldl addD []
theorem once_take {items : List PyData} {i : Nat} {d : PyData} (h : items[i]? = some d) : onceD (items.take (i + 1)) = addD (onceD (items.take i)) d := by
  unfold onceD
  rw [List.take_add_one, h, List.foldl_append]
  rfl
theorem put_keys (kvs : List NKV) (d : PyData) (y v : V) : (putN kvs d y v).map (·.1) = addD (kvs.map (·.1)) d := by
  unfold putN addD
  have e : (kvs.map (·.1)).any (fun e => decide (nk e = nk d)) = kvs.any fun p => decide (nk p.1 = nk d) := by
    rw [List.any_map]
    rfl
  rw [e]
  by_cases c : (kvs.any fun p => decide (nk p.1 = nk d)) = true
  · rw [if_pos c, if_pos c, List.map_map]
    refine List.map_congr_left fun p _ => ?_
    show (if nk p.1 = nk d then (p.1, p.2.1, v) else p).1 = p.1
    split <;> rfl
  · rw [if_neg c, if_neg c, List.map_append]
    rfl
theorem put_ok {K : PySem.W.Frag} {H : Hp} {kvs : List NKV} {d : PyData} {y v : V} (h : KyOk K H kvs) (hd : kd 8 d = true) (hy : Dp K H y d) : KyOk K H (putN kvs d y v) := fun p hp => by
  unfold putN at hp
  split at hp
  · obtain ⟨q, hq, rfl⟩ := List.mem_map.mp hp
    by_cases c : nk q.1 = nk d
    · rw [if_pos c]; exact h q hq
    · rw [if_neg c]; exact h q hq
  · rcases List.mem_append.mp hp with z | z
    · exact h p z
    · rw [List.mem_singleton.mp z]; exact ⟨hd, hy⟩
theorem ky_stay {K : PySem.W.Frag} {H H' : Hp} {kvs : List NKV} (s : Stay H H') (h : KyOk K H kvs) : KyOk K H' kvs := fun p hp => ⟨(h p hp).1, kdp_stay s 8 _ _ (h p hp).1 (h p hp).2⟩
theorem once_len (l : List PyData) : (onceD l).length ≤ l.length := by
  have gen : ∀ (l acc : List PyData), (l.foldl addD acc).length ≤ acc.length + l.length := by
    intro l
    induction l with
    | nil => intro acc; simp
    | cons d r ih =>
      intro acc
      rw [List.foldl_cons, List.length_cons]
      have a := ih (addD acc d)
      have b : (addD acc d).length ≤ acc.length + 1 := by
        unfold addD
        split
        · omega
        · simp
      omega
  have := gen l []
  unfold onceD
  simpa using this
/-! ### names, the state told -/
section
variable {X : Cx} {pins : List (Addr × Obj)} {σ : L2.St} {H : Hp} {s : Shared}
theorem ev_name {E : Value → Shared → Prop} {i : Nat} {x : Str} {v : V} {pos : Pos} {Q : Value → Shared → Prop} (I : Inv X pins σ H s) (hN : X.N[i]? = some x) (hk : X.env.scope.names.lookup x = some .local) (e : σ[i]? = some (some v)) (h : ∀ u, RelV v u → Q u s) (hd : (x == ("__debug__" : Str)) = false := by decide) :
    wpAny (model X.prog X.w) X.A (eval (.Name x pos) X.env) Q E s := by
  obtain ⟨m, hn, hl⟩ := I.loc
  obtain ⟨u, r, l⟩ := hl i x v hN e (.inl hk)
  rcases l with ⟨hk', hm⟩ | ⟨hk', _⟩
  · exact wpAny_Name (wpAny_loadName_local I.ok.kind hk' hn hm (h u r)) hd
  · have z : X.env.scope.names.lookup x = some .cell ∨ X.env.scope.names.lookup x = some .free := hk'
    rw [hk] at z
    rcases z with z | z <;> cases z
theorem inv_gens {s' : Shared} (I : Inv X pins σ H s) (hh : s'.heap = s.heap) (ho : s'.os = s.os) (hb : AllBare s'.gens) : Inv X pins σ H s' := by
  have k : ∀ b o, s.heap.get? b = some o → s'.heap.get? b = some o := fun b o e => by rw [hh]; exact e
  exact I.call' (ch := []) ho (Un.kept k) (I.hok.kept k) hb fun b z => absurd z (by simp)
theorem cx_kin {E : XK} {e : Value} {s' : Shared} (I : Inv X pins σ H s) (c : L2.CX X.prog X.w X.stack H s E e s') : X.K.In s'.heap := by
  obtain ⟨a, B, H', cls, d, _, fl, _, ub, _⟩ := c
  refine I.ok.mod.kin.keeps fun b o eb => ?_
  obtain ⟨e1, e2⟩ := I.bs b o eb
  refine fl.1 b o (ub.keep b o e1 e2 fun hm => ?_)
  rcases List.mem_cons.mp (I.stkSub b hm) with z | z
  · have a1 := Heap.lt_size eb
    rw [z] at a1
    exact absurd (Nat.lt_of_lt_of_le a1 (Nat.le_trans I.ok.bsz I.ok.above)) (Nat.lt_irrefl _)
  · exact I.ok.nofr eb z
end
/-! ### for x in walk(e): d[x] = True -/
structure LoopI (K : PySem.W.Frag) (w : World) (da : Addr) (H1 : Hp) (items : List PyData) (W : Addr) (i : Nat) (H : Hp) : Prop where
  ne : W ≠ da
  new : H1 W = none
  sm : SmX [da, W] H1 H
  stay : Stay H1 H
  dic : ∃ kvs, H da = some (NdO w da kvs) ∧ KyOk K H kvs ∧ kvs.map (·.1) = onceD (items.take i)
theorem LoopI.moved {K : PySem.W.Frag} {w : World} {da : Addr} {H1 : Hp} {items : List PyData} {W : Addr} {i : Nat} {H H2 : Hp} {P : Program} {outer : List Env} {L : Addr} {s s2 : Shared} (l : LoopI K w da H1 items W i H) (m : Moved P w outer L [W] H H2 s s2) : LoopI K w da H1 items W i H2 := by
  have st : Stay H H2 := ⟨m.un.tups, m.un.frzs⟩
  obtain ⟨kvs, q1, q2, q3⟩ := l.dic
  refine ⟨l.ne, l.new, l.sm.trans (m.sm.sub fun b hb => .inl (List.mem_cons_of_mem _ hb)), l.stay.trans st, kvs, m.sm da _ (fun z => l.ne (List.mem_singleton.mp z).symm) q1, ky_stay st q2, q3⟩
def tForW (K : PySem.W.Frag) (w : World) (CT : Addr) (E : XK) (i1 i2 : Nat) (ta : TA) : TS := fun D σ H => ta σ H fun vs H1 => ∃ v0 d0 da, vs = [v0] ∧ Dp K H1 v0 d0 ∧ gd 20 d0 = true ∧ σ[i1]? = some (some (.ref da)) ∧ H1 da = some (NdO w da []) ∧ (meas 9 d0 600 = none → errAt CT "InvalidTerm" H1 E) ∧
  ((meas 9 d0 600).isSome = true → ∀ (H' : Hp) (x : V) (kvs : List NKV) (W : Addr), H1 W = none → W ≠ da → SmX [da, W] H1 H' → Stay H1 H' → H' da = some (NdO w da kvs) → KyOk K H' kvs → kvs.map (·.1) = onceD (pre d0) → D.nx (σ.set i2 (some x)) H')
section
variable {X : Cx} {k : Nat} {fw CT : Addr} {fd : FuncData} {E : XK} {xf xp : Str} {i1 i2 j : Nat} {e : Expr} {ta : TA} {p1 p2 p3 p4 p5 p6 p7 pos : Pos}
theorem ps_forW (F : Fun X.K "walk" "walk" s_walk fw fd) (hmg : X.mg "walk" = some (.ref fw)) (hg : Gl X "walk") (C_ml : OwnR X.prog X.w X.K X.mg X.base k "measured_long" (spLong X.K CT)) (C_ic : Own X.prog X.w X.K X.mg X.base k "is_compound" ["value"] (spIsCompound X.K))
    (hr : Room (k + 3) X.A) (hp : PassesOwn (model X.prog X.w) X.A X.env X.xe) (hx : Passes (L2.CX X.prog X.w) X E) (hns : NoStop X.K E) (nd : X.N.Nodup) (hN1 : X.N[i1]? = some xf) (hN2 : X.N[i2]? = some xp) (hk1 : X.env.scope.names.lookup xf = some .local) (hk2 : X.env.scope.names.lookup xp = some .local) (h12 : i1 ≠ i2)
    (ha : PA X [e] ta) (hst : starEach [e] X.env = (false, eval e X.env) :: starEach [] X.env := by rfl) (hd1 : (xf == ("__debug__" : Str)) = false := by decide) (hd2 : (xp == ("__debug__" : Str)) = false := by decide) (hsw : swapsWith (.Constant (.bool true) j p6) (some (.Subscript (.Name xf p3) (.Name xp p4) p5)) p7.line X.env = pure false := by rfl) :
    PS X (.For (.Name xp p1) (.Call (.Name "walk" p2) [e] [] pos) [.Assign [.Subscript (.Name xf p3) (.Name xp p4) p5] (.Constant (.bool true) j p6) p7] [] pos') (tForW X.K X.w CT E i1 i2 ta) := by
  refine ⟨fun pins s σ H D I h => ?_⟩
  obtain ⟨oc, od, kV, doc, pm, an, cdv, ct, osl, rfl, lk, hcd⟩ := F.ex
  refine wpAny_For ?_ (fun _ => rfl)
  refine wpAny_Call_Name_kw (ld_glob I hg hmg ?_)
  refine PySem.W.callWith_K (h₀ := X.base) I.ok.mod.kin F.kp (thn (ha.run pos pins s σ H _ I h) fun us s1 z => ?_) hst rfl
  obtain ⟨vs, H1, I1, r, v0, d0, da, rfl, hd, hgd, hs1, hda, hbad, hgood⟩ := z
  refine ⟨I1.kIn, ?_⟩
  have hl : us.length = 1 := by rw [← r.length]; rfl
  have bnd : BindsTo s1 (PySem.W.fnOf "walk" "walk" (defArgs s_walk) (defBody s_walk) (defScope s_walk) .none kV doc pm an cdv ct) ⟨us, []⟩ ((["term"] : List Str).zip us) := by
    match us, hl with
    | [u], _ => exact .of_eq rfl
  refine wpAny_call (codeAny_mono (born_of (vs := [v0]) lk hcd sc_walk rfl hr.depth hr.hd I1.env0 bnd r) fun r2 s2 hq => ?_)
  obtain ⟨a, g, go, rfl, B⟩ := hq
  show wpAny _ _ (pyIter (.ref a)) _ _ s2
  refine wpAny_pyIter_gen (B.obj.is B.at_) ?_
  -- those who wait, and what they see
  have below : ∀ p ∈ X.pn ++ pins, p.1 < s1.heap.objs.size := fun p hp => Heap.lt_size (I1.pin p hp).1
  have lowL : X.env.locals < s1.heap.objs.size := I1.lt
  have hiOk : ∀ (t : Shared) (b : Addr), b ∈ high s1.heap.objs.size t → (b ∈ X.ex ∨ X.s_0.heap.objs.size ≤ b) ∧ b ≠ X.env.locals ∧ (∀ x c, X.env.cells.lookup x = some c → c ≠ b) ∧ ∀ p ∈ X.pn ++ pins, p.1 ≠ b := fun t b hb => by
    have lb := (high_mem.mp hb).1
    refine ⟨.inr (Nat.le_trans I1.sz lb), Nat.ne_of_gt (Nat.lt_of_lt_of_le lowL lb), fun x c hc z => ?_, fun p hp z => ?_⟩
    · obtain ⟨v, o, ho, _⟩ := I1.cell x c hc
      have := Heap.lt_size ho
      rw [z] at this
      exact absurd (Nat.lt_of_lt_of_le this lb) (Nat.lt_irrefl _)
    · have := below p hp
      rw [z] at this
      exact absurd (Nat.lt_of_lt_of_le this lb) (Nat.lt_irrefl _)
  have slots : ∀ x, (σ.set i2 (some x))[i1]? = some (some (.ref da)) := fun x => by rw [List.getElem?_set_ne (Ne.symm h12)]; exact hs1
  let Cn : Addr → Nat → Hp → Shared → Prop := fun W i H' t => ∃ σ', Inv X pins σ' H' t ∧ ((i = 0 ∧ σ' = σ) ∨ ∃ x, σ' = σ.set i2 (some x)) ∧ s1.heap.objs.size ≤ t.heap.objs.size ∧ LoopI X.K X.w da H1 (pre d0) W i H' ∧ (meas 9 d0 600).isSome = true
  let Dn : Addr → Nat → V → Hp → Shared → Prop := fun W i x H' t => ∃ σ', Inv X pins σ' H' t ∧ ((i = 0 ∧ σ' = σ) ∨ ∃ x, σ' = σ.set i2 (some x)) ∧ LoopI X.K X.w da H1 (pre d0) W i H' ∧ (∃ d, (pre d0)[i]? = some d ∧ Tk d ∧ Dp X.K H' x d) ∧ (meas 9 d0 600).isSome = true
  let Zn : Addr → Hp → Shared → Prop := fun W H' t => ∃ x, Inv X pins (σ.set i2 (some x)) H' t ∧ LoopI X.K X.w da H1 (pre d0) W (pre d0).length H' ∧ (meas 9 d0 600).isSome = true
  have small : (meas 9 d0 600).isSome = true → (pre d0).length ≤ 1200 := fun hm => by
    have ms := meas_some 9 d0 600
    rw [hm] at ms
    have ms' := Bool.and_eq_true_iff.mp ms.symm
    exact pre_small ⟨of_decide_eq_true ms'.1, of_decide_eq_true ms'.2, hgd⟩
  have pos0 : 0 < (pre d0).length := by rw [pre_eq]; exact Nat.succ_pos _
  have afterM : ∀ {W : Addr} {H' H2 : Hp} {t t2 : Shared} {σ' : L2.St}, Inv X pins σ' H' t → Moved X.prog X.w X.stack s1.heap.objs.size [W] H' H2 t t2 → Inv X pins σ' H2 t2 := fun {W H' H2 t t2 σ'} It m =>
    It.call' (ch := high s1.heap.objs.size t) m.os m.un m.hok m.bare fun b hb => hiOk t b hb
  have hfr : X.A.in1.frames = some X.stack := I1.ok.frames
  have hC : ∀ W i H' t, Cn W i H' t → Env0 X.prog X.w X.K X.mg X.base X.A.in1 X.stack t H' ∧ s1.heap.objs.size ≤ t.heap.objs.size := fun W i H' t ⟨σ', It, _, hL, _⟩ =>
    ⟨⟨hfr, It.env0.mod, It.env0.bs, It.env0.bsz, It.env0.funs, It.env0.frf, It.env0.hok, It.env0.bare⟩, hL⟩
  have e01 : Env0 X.prog X.w X.K X.mg X.base X.A.in1 X.stack s1 H1 := ⟨hfr, I1.env0.mod, I1.env0.bs, I1.env0.bsz, I1.env0.funs, I1.env0.frf, I1.env0.hok, I1.env0.bare⟩
  have hD : ∀ W i H' t H2 t2 x d, Cn W i H' t → Moved X.prog X.w X.stack s1.heap.objs.size [W] H' H2 t t2 → (pre d0)[i]? = some d → Tk d → Dp X.K H2 x d → Dn W i x H2 t2 := fun W i H' t H2 t2 x d ⟨σ', It, sl, hL, lp, hm⟩ m hi tk hdp =>
    ⟨σ', afterM It m, sl, lp.moved m, ⟨d, hi, tk, hdp⟩, hm⟩
  have hZ : ∀ W H' t H2 t2, Cn W (pre d0).length H' t → Moved X.prog X.w X.stack s1.heap.objs.size [W] H' H2 t t2 → Zn W H2 t2 := fun W H' t H2 t2 ⟨σ', It, sl, hL, lp, hm⟩ m => by
    rcases sl with ⟨z, _⟩ | ⟨x, rfl⟩
    · omega
    · exact ⟨x, afterM It m, lp.moved m, hm⟩
  have h0 : (meas 9 d0 600).isSome = true → ∀ W, H1 W = none → Cn W 0 H1 s1 := fun hm W nW =>
    ⟨σ, I1, .inl ⟨rfl, rfl⟩, Nat.le_refl _, ⟨(fun z => by rw [z, hda] at nW; cases nW), nW, SmX.refl _ _, Stay.refl _, [], hda, (fun p hp => nomatch hp), rfl⟩, hm⟩
  have seg := fun (t2 : Shared) (k2 : ∀ b o, s2.heap.get? b = some o → t2.heap.get? b = some o) (o2 : t2.os = s1.os) (b2 : AllBare t2.gens) =>
    walk_seg (A := X.A.in1) (Cn := Cn) (Dn := Dn) (Zn := Zn) (E := E) C_ml C_ic (((hr.mono (by omega : k + 2 ≤ k + 3)).in1).deeper _) hfr hr.hd e01 B k2 o2 b2 hd hgd hbad hC hD hZ h0
  refine codeAny_forLoop_any (fun n t => t.heap.NoLimit ∧ t.heap.get? a = some go ∧ ∃ gs, t.gens[g]? = some gs ∧ gs.Goes (model X.prog X.w) X.A.in1 (RP Zn fun e t1 => L2.CX X.prog X.w X.stack H1 s1 E e t1 ∧ t1.heap.IsGen a g) (YP Cn Dn s1.heap.objs.size a go (pre d0).length) n (.send .none) (t.setGen g .running)) ?_ ((pre d0).length + 1)
    ⟨B.lim, B.at_, _, B.gen, rfl, seg (s2.setGen g .running) (fun b o e => e) B.os (allBare_setGen B.bare rfl)⟩
  rintro n t ⟨lim, hat, gs, hgs, hgo⟩
  have hgl : g < t.gens.size := (Array.getElem?_eq_some_iff.mp hgs).1
  refine wpAny_passesOwn hp (wpAny_gsz (n := g + 1) hgl (next_genG (A := X.A) (F := fun _ _ t1 => ∃ W H', Zn W H' t1) (Er := fun e t1 => L2.CX X.prog X.w X.stack H1 s1 E e t1 ∧ t1.heap.IsGen a g) hr.hd lim hr.depth (B.obj.is hat) hgs hgo (fun v t1 gs' hbare hv => ?_) (fun t1 hz h' hk => ?_) fun ee t1 he => ?_))
  · intro hsz
    obtain ⟨W, i, x, vs, oL, H5, hni, rv, ⟨σ5, I5, sl5, lp5, ⟨d, hdi, tk, hdp⟩, hm⟩, as5, ncell, wake⟩ := hv
    have hsz1 : g < t1.gens.size := by
      have z : g + 1 ≤ (t1.setGen g gs').gens.size := hsz
      rw [setGen_size] at z
      omega
    obtain ⟨nm, qn, hdat⟩ := B.obj.dat
    refine go_of (o := go) (s := t1.setGen g gs') as5.gen B.obj.cls hdat (by decide) ?_
    have I6 : Inv X pins σ5 H5 (t1.setGen g gs') := inv_gens I5 rfl rfl (allBare_setGen I5.bare hbare)
    have nfs : ∀ b, s1.heap.objs.size ≤ b → b ∉ X.fs := fun b hb hm => by
      obtain ⟨_, o, ho, _⟩ := I1.ok.funs.mem hm
      have z := Heap.lt_size ho
      exact absurd (Nat.lt_of_lt_of_le z (Nat.le_trans I1.sz hb)) (Nat.lt_irrefl _)
    have I7 : Inv X (pins ++ [(s1.heap.objs.size, oL), (a, go)]) σ5 H5 (t1.setGen g gs') := I6.pins_of fun p hp => by
      rcases List.mem_append.mp hp with z | z
      · exact I6.pin p (List.mem_append_right _ z)
      · rcases List.mem_cons.mp z with z | z
        · rw [z]
          exact ⟨as5.frm, as5.frn, Nat.ne_of_gt lowL, nfs _ (Nat.le_refl _), ncell⟩
        · rw [List.mem_singleton.mp z]
          exact ⟨as5.gen, as5.gnn, Nat.ne_of_gt (Nat.lt_trans lowL B.above), nfs _ (Nat.le_of_lt B.above), B.obj.nocell⟩
    have hlσ : σ5.length = σ.length := by
      rcases sl5 with ⟨_, rfl⟩ | ⟨y, rfl⟩
      · rfl
      · exact List.length_set ..
    have set5 : σ5.set i2 (some x) = σ.set i2 (some x) := by
      rcases sl5 with ⟨_, rfl⟩ | ⟨y, rfl⟩
      · rfl
      · exact List.set_set ..
    have hi2 : i2 < σ.length := by rw [I1.len]; exact (List.getElem?_eq_some_iff.mp hN2).1
    refine wpAny_assign_Name (store_loc I7 nd hN2 hk2 rv fun h8 t8 I8 => ?_)
    rw [set5] at I8
    obtain ⟨kvs, q1, q2, q3⟩ := lp5.dic
    have kl : kvs.length < sizeLine := by
      have z1 := congrArg List.length q3
      rw [List.length_map] at z1
      have z2 := once_len ((pre d0).take i)
      have z3 : ((pre d0).take i).length ≤ (pre d0).length := by rw [List.length_take]; omega
      have z4 := small hm
      exact Nat.lt_of_le_of_lt (by omega : kvs.length ≤ 1200) (by rw [sizeLine_eq]; decide)
    refine wpAny_execs_cons (wpAny_Assign_Subscript (Constant_bool (ev_name I8 hN1 hk1 (slots x) (fun u1 r1 => ev_name I8 hN2 hk2 (by rw [List.getElem?_set_self hi2]) (fun u2 r2 => ?_) hd2) hd1)) hsw)
    obtain rfl : u1 = Value.ref da := r1
    refine d_setN (v := .bl true) (r := .bool true) (by have := hr.un; omega) I8 q1 q2 tk.kd hdp r2 rfl kl fun h9 t9 I9 => ?_
    refine wpAny_execs_nil ?_
    -- the sleeper finds all as it was
    have stay9 : Stay H5 (upd H5 da (NdO X.w da (putN kvs d x (.bl true)))) := Stay.put ⟨fun xs z => (by rw [q1] at z; cases z), fun u v z => (by rw [q1] at z; cases z)⟩
    have pL := I9.pin (s1.heap.objs.size, oL) (List.mem_append_right _ (List.mem_append_right _ List.mem_cons_self))
    have pA := I9.pin (a, go) (List.mem_append_right _ (List.mem_append_right _ (List.mem_cons_of_mem _ (List.mem_singleton.mpr rfl))))
    have I10 : Inv X pins (σ.set i2 (some x)) (upd H5 da (NdO X.w da (putN kvs d x (.bl true)))) _ := I9.pins_of fun p hp => I9.pin p (List.mem_append_right _ (List.mem_append_left _ hp))
    have lp9 : LoopI X.K X.w da H1 (pre d0) W (i + 1) (upd H5 da (NdO X.w da (putN kvs d x (.bl true)))) := by
      refine ⟨lp5.ne, lp5.new, lp5.sm.put List.mem_cons_self, lp5.stay.trans stay9, _, upd_same, ky_stay stay9 (put_ok q2 tk.kd hdp), ?_⟩
      rw [put_keys, q3, once_take hdi]
    have as9 : Asleep s1.heap.objs.size a go W vs oL (upd H5 da (NdO X.w da (putN kvs d x (.bl true)))) ({ t1.setGen g gs' with heap := h9, toks := t9 } : Shared) := ⟨by rw [upd_ne lp5.ne]; exact as5.lst, pL.1, pL.2.1, pA.1, pA.2.1⟩
    have aw := wake (({ t1.setGen g gs' with heap := h9, toks := t9 } : Shared).setGen g .running) _ ⟨_, inv_gens I10 rfl rfl (allBare_setGen I10.bare rfl), .inr ⟨x, rfl⟩, Nat.le_of_lt (Heap.lt_size pL.1), lp9, hm⟩ stay9 ⟨as9.lst, as9.frm, as9.frn, as9.gen, as9.gnn⟩
    cases n with
    | zero => exact aw.elim
    | succ m => exact ⟨m, Nat.lt_succ_self m, I10.nolimit, pA.1, gs', setGen_at hsz1, aw⟩
  · intro hsz
    obtain ⟨W, H2, x, I2, lp, hm⟩ := hz
    obtain ⟨kvs, q1, q2, q3⟩ := lp.dic
    rw [List.take_length] at q3
    have I3 : Inv X pins (σ.set i2 (some x)) H2 (t1.setGen g .finished) := inv_gens I2 rfl rfl (allBare_setGen I2.bare rfl)
    have I4 := I3.kept (t' := t1.toks) hk
    exact wpAny_execs_nil ⟨_, H2, I4, hgood hm H2 x kvs W lp.new lp.ne lp.sm lp.stay q1 q2 q3⟩
  · obtain ⟨hc, hi⟩ := he
    refine ⟨hi, notStop_of hns (cx_kin I1 hc) hc, fun _ => hx pins σ H1 s1 ee _ I1 ?_⟩
    obtain ⟨a', B', H', cls, d, z1, fl, z2, ub, z3, z4, z5, z6⟩ := hc
    exact ⟨a', B', H', cls, d, z1, fl, z2, ub, z3, z4, allBare_setGen z5 rfl, z6⟩
end
end Fv


namespace Fv
open PySem PySem.Spec PyProof.Rows L2 FvX TL




/-! ### turned terms, terms with letters replaced -/
def opT (o : Str) : Str := if o = "&" then "|" else "&"
def tnd : Nat → PyData → PyData
  | 0, d => d
  | m + 1, .tuple (.str o :: ds) => .tuple (.str (opT o) :: ds.map (tnd m))
  | _ + 1, d => d
def swp (f : Str → Option PyData) : Nat → PyData → PyData
  | 0, d => d
  | _ + 1, .str x => (f x).getD (.str x)
  | m + 1, .tuple (.str o :: ds) => .tuple (.str o :: ds.map (swp f m))
  | _ + 1, d => d
/-- the table at kvs: f -/
def tabOf (K : PySem.W.Frag) (H : Hp) (kvs : List (Key × V)) (f : Str → Option PyData) : Prop := ∀ x, (f x = none ∧ valV kvs (.inr x) = none) ∨ ∃ e u, f x = some e ∧ valV kvs (.inr x) = some u ∧ Dp K H u e
theorem tabOf.same {K : PySem.W.Frag} {H H' : Hp} {kvs : List (Key × V)} {f : Str → Option PyData} (h : tabOf K H kvs f) (s : Same H H') : tabOf K H' kvs f := fun x => by
  rcases h x with z | ⟨e, u, h1, h2, h3⟩
  · exact .inl z
  · exact .inr ⟨e, u, h1, h2, dp_same s _ _ h3⟩
def spTnd (K : PySem.W.Frag) (n : Nat) : Sp := fun vs H Q _ => ∃ (v : V) (d : PyData) (m : Nat) (M : List Addr), vs = [v] ∧ Dp K H v d ∧ gd 20 d = true ∧ m < n ∧ 1 ≤ lmeas m d ∧ Trk M H ∧
  ∀ H' v', Same H H' → Dp K (hide M H') v' (tnd m d) → Q v' H'
def spSwp (K : PySem.W.Frag) (n : Nat) : Sp := fun vs H Q _ => ∃ (v : V) (c : Addr) (d : PyData) (m : Nat) (M : List Addr) (kvs : List (Key × V)) (f : Str → Option PyData), vs = [v, .ref c] ∧ Dp K H v d ∧ gd 20 d = true ∧ m < n ∧ 1 ≤ lmeas m d ∧ Trk M H ∧
  H c = some (.dK kvs) ∧ tabOf K (hide M H) kvs f ∧ ∀ H' v', Same H H' → Dp K (hide M H') v' (swp f m d) → Q v' H'
theorem hid_more {M : List Addr} {H H1 : Hp} {D : Addr} (nD : H D = none) (s : Same H H1) : Same (hide M H) (hide (D :: M) H1) := fun b o e => by
  obtain ⟨nb, e⟩ := hide_some e
  have bD : b ≠ D := ne_of_none e nD
  rw [hide_ne (fun z => by
    rcases List.mem_cons.mp z with z | z
    · exact bD z
    · exact nb z)]
  exact s _ _ e
theorem hid_less {M : List Addr} {H H1 : Hp} {D : Addr} (s : Same H H1) : Same (hide (D :: M) H) (hide M H1) := (hide_sub fun b hb => List.mem_cons_of_mem _ hb).trans (SmX.of_same s).hid
theorem trk_cons {M : List Addr} {H H1 : Hp} {D : Addr} {o : HO} (t : Trk M H) (s : Same H H1) (e : H1 D = some o) : Trk (D :: M) H1 := fun b hb => by
  rcases List.mem_cons.mp hb with z | z
  · rw [z]; exact ⟨_, e⟩
  · exact t.same s b z
theorem amp_dec (o : Str) : decide (V.str o = V.str "&") = decide (o = "&") := by
  rw [Bool.eq_iff_iff, decide_eq_true_eq, decide_eq_true_eq]
  exact ⟨V.str.inj, congrArg V.str⟩
theorem ifC {b : Bool} {x y : Str} {σ : L2.St} {H : Hp} {Q : VK} (h : Q (.str (if b = true then x else y)) H) : if b = true then tC (.str x) σ H Q else tC (.str y) σ H Q := by
  cases b <;> exact h
theorem opT_eq (o : Str) : (if decide (o = "&") = true then ("|" : Str) else "&") = opT o := by
  unfold opT
  by_cases e : o = "&"
  · rw [if_pos e, if_pos (decide_eq_true e)]
  · rw [if_neg e, if_neg (fun z => e (of_decide_eq_true z))]
section
variable {P : Program} {w : World} {K : PySem.W.Frag} {mg : Str → Option Value} {base : Heap}
theorem tnd_zero {f : Addr} {fd : FuncData} {k : Nat} {ps : List Str} : FnOk P w K mg base CX0 k f fd ps (spTnd K 0) := by
  have no : ∀ vs H Q E, ¬ spTnd K 0 vs H Q E := fun vs H Q E h => by
    obtain ⟨v, d, m, M, _, _, _, h, _⟩ := h
    omega
  exact ⟨fun vs H Q E h => absurd h (no vs H Q E), fun A outer s H args us vs Q E _ _ _ _ h => absurd h (no vs H Q E)⟩
theorem swp_zero {f : Addr} {fd : FuncData} {k : Nat} {ps : List Str} : FnOk P w K mg base CX0 k f fd ps (spSwp K 0) := by
  have no : ∀ vs H Q E, ¬ spSwp K 0 vs H Q E := fun vs H Q E h => by
    obtain ⟨v, c, d, m, M, kvs, f, _, _, _, h, _⟩ := h
    omega
  exact ⟨fun vs H Q E h => absurd h (no vs H Q E), fun A outer s H args us vs Q E _ _ _ _ h => absurd h (no vs H Q E)⟩
end
end Fv


namespace Fv
open PySem PySem.Spec PyProof.Rows L2 GenW FvX FvD FvG
-- top 19  slots: 0:term 1:found 2:part
abbrev s_subterms : Stmt := topS 19
abbrev N_subterms : List Str := ["term", "found", "part"]
theorem sc_subterms : FnScope N_subterms ["term"] (defScope s_subterms) := ⟨rfl, rfl, rfl, by decide +kernel, rfl, by decide +kernel, by decide +kernel⟩





/-- a def that asks for a long term first: what it gives, or the error -/
def spLg (K : PySem.W.Frag) (CT : Addr) (good : V → PyData → Hp → VK → Prop) : Sp := fun vs H Q E => ∃ (v : V) (d : PyData), vs = [v] ∧ Dp K H v d ∧ gd 20 d = true ∧ ((meas 9 d 600).isSome = true → good v d H Q) ∧ (meas 9 d 600 = none → errAt CT "InvalidTerm" H E)
/-- a new list of the subterms -/
def gSubt (K : PySem.W.Frag) : V → PyData → Hp → VK → Prop := fun _ d H Q => ∀ (H' : Hp) (p : Addr) (vs : List V), Same H H' → H p = none → H' p = some (.lst vs) → DpAll K H' vs (onceD (pre d)) → Q (.ref p) H'
theorem tk_of {d : PyData} (hm : (meas 9 d 600).isSome = true) (hg : gd 20 d = true) : Tk d := by
  have ms := meas_some 9 d 600
  rw [hm] at ms
  have ms' := Bool.and_eq_true_iff.mp ms.symm
  exact ⟨of_decide_eq_true ms'.1, of_decide_eq_true ms'.2, hg⟩
theorem ky_all {K : PySem.W.Frag} {H : Hp} : ∀ {kvs : List NKV}, KyOk K H kvs → DpAll K H (kvs.map fun p => p.2.1) (kvs.map (·.1))
  | [], _ => .nil
  | p :: r, h => .cons (h p List.mem_cons_self).2 (ky_all fun q hq => h q (List.mem_cons_of_mem _ hq))
section
variable {P : Program} {w : World} {K : PySem.W.Frag} {mg : Str → Option Value} {base : Heap} {CT : Addr}
theorem ok_subterms {f fw : Addr} {fd fdw : FuncData} {k : Nat} (F : Fun K "subterms" "subterms" s_subterms f fd) (Fw : Fun K "walk" "walk" s_walk fw fdw) (g_walk : mg "walk" = some (.ref fw)) (m_list : mg "list" = none) (hstop : PySem.W.subIn K (.ref CT) (.type "StopIteration") = some false)
    (C_ml : OwnR P w K mg base k "measured_long" (spLong K CT)) (C_ic : Own P w K mg base k "is_compound" ["value"] (spIsCompound K)) :
    FnOk P w K mg base (L2.CX P w) (k + 4) f fd ["term"] (spLg K CT (gSubt K)) := by
  refine F.okX sc_subterms (fun vs H Q E h => ?_) (fun cdv A outer s H vs Q E hr h => ?_)
  · obtain ⟨v, d, rfl, _⟩ := h
    rfl
  · obtain ⟨v, d, rfl, hd, hg, good, bad⟩ := h
    refine ⟨_, (pss_cons (ps_set (i := 1) sc_subterms.nd rfl (.inl rfl) pe_dnewN)
      (pss_cons (ps_forW (E := fun cls d H' => cls = .ref CT ∧ E cls d H') (i1 := 1) (i2 := 2) Fw g_walk (by rfl) C_ml C_ic hr (passes_of rfl) (passes_call (takes_of rfl rfl rfl rfl) (fun _ _ _ _ h => h.2)) (fun cls d H' h => by rw [h.1]; exact hstop) sc_subterms.nd rfl rfl rfl rfl (by decide) (pa_cons (pv 0) pa_nil))
      (pss_one (ps_ret (pe_callTy (call_listN rfl) (by rfl) m_list (by decide +kernel) (pa_cons (pv 1) pa_nil)))))), ?_⟩
    intro da nda
    have s0 := same_upd (o := NdO w da []) nda
    refine ⟨_, rfl, v, d, da, rfl, dp_same s0 d v hd, hg, rfl, upd_same, fun e H' dd s' e' => ⟨rfl, bad e H' dd (s0.trans s') e'⟩, fun hm H' x kvs W nW nWd sm st hda hky hkeys => ?_⟩
    have nW' : upd H da (NdO w da []) W = none := nW
    have smH : Same H H' := fun b o e => sm b o (fun z => by
      rcases List.mem_cons.mp z with z | z
      · rw [z, nda] at e; cases e
      · have e' := s0 b o e
        rw [List.mem_singleton.mp z, nW'] at e'
        cases e') (s0 b o e)
    refine ⟨_, rfl, da, kvs, rfl, hda, fun p np => ?_⟩
    have s2 := same_upd (o := .lst (kvs.map fun kv => kv.2.1)) np
    have npH : H p = none := by
      cases e : H p with
      | none => rfl
      | some o => rw [smH p o e] at np; cases np
    refine good hm _ p _ (smH.trans s2) npH upd_same ?_
    rw [← hkeys]
    exact dpAll_same s2 _ _ (ky_all hky)
/-! ### depth, size -/
def gInt (g : PyData → Int) : V → PyData → Hp → VK → Prop := fun _ d H Q => ∀ H', Same H H' → Q (.int (g d)) H'
/-- the program's depth -/
def dpt (d : PyData) : Int := ((meas 9 d 600).getD (0, 0)).1
/-! ### turned, the error told -/
end
end Fv


namespace Fv
open PySem PySem.Spec PyProof.Rows L2 FvD FvG
/-! ### what stands in a walk -/
theorem pre_tk : ∀ (n : Nat) (d : PyData), 1 ≤ lmeas n d → Tk d → ∀ e ∈ pre d, Tk e
  | 0, d, h, _ => by simp only [lmeas] at h; omega
  | n + 1, d, h, t => by
    intro e he
    rw [pre_eq] at he
    rcases List.mem_cons.mp he with z | z
    · rw [z]; exact t
    · rcases t.inv with ⟨x, rfl, _⟩ | ⟨o, ds, rfl, hc, _, all, _⟩
      · rw [str_isCd] at z; cases z
      · rw [if_pos hc] at z
        obtain ⟨y, hy, hz⟩ := List.mem_flatMap.mp z
        have hy' : y ∈ ds := hy
        rcases lmeas_inv h with ⟨x, hx, _⟩ | ⟨o', ds', hd, _, _, _, all1, _⟩
        · cases hx
        · cases hd
          exact pre_tk n y (all1 y hy') (all y hy') e hz
theorem Tk.pre {d : PyData} (t : Tk d) : ∀ e ∈ pre d, Tk e := pre_tk 9 d t.one t
theorem once_sub : ∀ (l : List PyData), ∀ e ∈ onceD l, e ∈ l := by
  have gen : ∀ (l acc : List PyData), ∀ e ∈ l.foldl addD acc, e ∈ acc ∨ e ∈ l := by
    intro l
    induction l with
    | nil => intro acc e he; exact .inl he
    | cons d r ih =>
      intro acc e he
      rcases ih (addD acc d) e he with z | z
      · unfold addD at z
        split at z
        · exact .inl z
        · rcases List.mem_append.mp z with z | z
          · exact .inl z
          · rw [List.mem_singleton.mp z]; exact .inr List.mem_cons_self
      · exact .inr (List.mem_cons_of_mem _ z)
  intro l e he
  rcases gen l [] e he with z | z
  · cases z
  · exact z
theorem shaped_tk {d : PyData} (t : Tk d) : SeqAt.shaped d = true := gd_shaped t.gd (by decide)
theorem shaped_list {l : List PyData} (h : ∀ d ∈ l, gd 20 d = true) : SeqAt.shaped (.list l) = true := by
  have q := gdAll_lay 20 l (gdAll_iff.mpr h)
  show ((PyData.list l).canLay0 && decide ((PyData.list l).depth ≤ 64)) = true
  rw [Bool.and_eq_true]
  refine ⟨by simpa [PyData.canLay0] using q.1, decide_eq_true ?_⟩
  simp only [PyData.depth]
  omega
/-! ### == of keys -/
mutual
theorem eqv_iff : ∀ (n m : Nat) (z d : PyData), kd n z = true → kd m d = true → (PyData.eqv z d = true ↔ nk z = nk d)
  | n, m, .str x, .str y, _, _ => by
    simp only [nk, PyData.eqv]
    rw [beq_iff_eq]
    exact ⟨fun h => by rw [h], fun h => by injection h⟩
  | n + 1, m + 1, .tuple ds, .tuple es, hd, he => by
    simp only [nk, PyData.eqv]
    rw [eqvs_iff n m ds es (by simpa [kd] using hd) (by simpa [kd] using he)]
    exact ⟨fun h => by rw [h], fun h => by injection h⟩
  | n, m, .str x, .tuple es, _, _ => by
    simp only [nk, PyData.eqv]
    exact ⟨(fun h => nomatch h), (fun h => by cases h)⟩
  | n, m, .tuple es, .str x, _, _ => by
    simp only [nk, PyData.eqv]
    exact ⟨(fun h => nomatch h), (fun h => by cases h)⟩
  | 0, m, .tuple es, e, hd, _ => by simp [kd] at hd
  | n, 0, d, .tuple es, _, he => by simp [kd] at he
  | n, m, .none, e, hd, _ => by cases n <;> simp [kd] at hd
  | n, m, .bool _, e, hd, _ => by cases n <;> simp [kd] at hd
  | n, m, .int _, e, hd, _ => by cases n <;> simp [kd] at hd
  | n, m, .list _, e, hd, _ => by cases n <;> simp [kd] at hd
  | n, m, .dict _, e, hd, _ => by cases n <;> simp [kd] at hd
  | n, m, d, .none, _, he => by cases m <;> simp [kd] at he
  | n, m, d, .bool _, _, he => by cases m <;> simp [kd] at he
  | n, m, d, .int _, _, he => by cases m <;> simp [kd] at he
  | n, m, d, .list _, _, he => by cases m <;> simp [kd] at he
  | n, m, d, .dict _, _, he => by cases m <;> simp [kd] at he
theorem eqvs_iff : ∀ (n m : Nat) (ds es : List PyData), kdAll n ds = true → kdAll m es = true → (PyData.eqvAll ds es = true ↔ nks ds = nks es)
  | n, m, [], [], _, _ => by simp [PyData.eqvAll, nks]
  | n, m, d :: ds, e :: es, hd, he => by
    simp only [kdAll, Bool.and_eq_true] at hd he
    simp only [PyData.eqvAll, nks, Bool.and_eq_true]
    rw [eqv_iff n m d e hd.1 he.1, eqvs_iff n m ds es hd.2 he.2]
    exact ⟨fun h => by rw [h.1, h.2], fun h => by injection h with h1 h2; exact ⟨h1, h2⟩⟩
  | n, m, [], e :: es, _, _ => by simp [PyData.eqvAll, nks]
  | n, m, d :: ds, [], _, _ => by simp [PyData.eqvAll, nks]
end
theorem eqv_nk {n m : Nat} {z d : PyData} (hz : kd n z = true) (hd : kd m d = true) : PyData.eqv z d = decide (nk z = nk d) := by
  rw [Bool.eq_iff_iff, decide_eq_true_eq]
  exact eqv_iff n m z d hz hd
theorem any_eqv {l : List PyData} {d : PyData} (hl : ∀ z ∈ l, kd 8 z = true) (hd : kd 8 d = true) : (l.any fun z => PyData.eqv z d) = l.any fun e => decide (nk e = nk d) := by
  rw [Bool.eq_iff_iff, List.any_eq_true, List.any_eq_true]
  exact ⟨fun ⟨z, hz, e⟩ => ⟨z, hz, by rw [← eqv_nk (hl z hz) hd]; exact e⟩, fun ⟨z, hz, e⟩ => ⟨z, hz, by rw [eqv_nk (hl z hz) hd]; exact e⟩⟩
/-- a key is among those once told exactly if it is told -/
theorem once_any (l : List PyData) (k : NestedKey) : ((onceD l).any fun e => decide (nk e = k)) = l.any fun e => decide (nk e = k) := by
  have gen : ∀ (l acc : List PyData), ((l.foldl addD acc).any fun e => decide (nk e = k)) = (acc.any (fun e => decide (nk e = k)) || l.any fun e => decide (nk e = k)) := by
    intro l
    induction l with
    | nil => intro acc; simp
    | cons d r ih =>
      intro acc
      rw [List.foldl_cons, ih, List.any_cons, ← Bool.or_assoc]
      congr 1
      unfold addD
      by_cases c : (acc.any fun e => decide (nk e = nk d)) = true
      · rw [if_pos c]
        by_cases e : nk d = k
        · rw [e] at c
          rw [c]; rfl
        · rw [decide_eq_false e, Bool.or_false]
      · rw [if_neg c, List.any_append]
        simp
  have := gen l []
  simpa [onceD] using this
/-! ### depths -/
def maxI (l : List Int) : Int := l.foldl (fun a b => if b > a then b else a) 0
def ldp : Nat → PyData → Int
  | 0, _ => 0
  | n + 1, d => 1 + maxI ((if isCd d = true then parts d else []).map (ldp n))
theorem fold_max (l : List Int) : ∀ a : Int, a ≤ l.foldl (fun a b => if b > a then b else a) a ∧ (∀ y ∈ l, y ≤ l.foldl (fun a b => if b > a then b else a) a) ∧ (l.foldl (fun a b => if b > a then b else a) a = a ∨ l.foldl (fun a b => if b > a then b else a) a ∈ l) := by
  induction l with
  | nil => intro a; exact ⟨Int.le_refl _, (fun y hy => nomatch hy), .inl rfl⟩
  | cons x r ih =>
    intro a
    rw [List.foldl_cons]
    obtain ⟨h1, h2, h3⟩ := ih (if x > a then x else a)
    refine ⟨?_, fun y hy => ?_, ?_⟩
    · have z : a ≤ (if x > a then x else a) := by split <;> omega
      omega
    · rcases List.mem_cons.mp hy with z | z
      · have w : x ≤ (if x > a then x else a) := by split <;> omega
        rw [z]
        omega
      · exact h2 y z
    · rcases h3 with z | z
      · rw [z]
        split
        · exact .inr List.mem_cons_self
        · exact .inl rfl
      · exact .inr (List.mem_cons_of_mem _ z)
theorem max_is {l : List Int} {m : Int} (hm : m ∈ (0 : Int) :: l) (h : ∀ y ∈ (0 : Int) :: l, y ≤ m) : m = maxI l := by
  obtain ⟨h1, h2, h3⟩ := fold_max l 0
  unfold maxI
  have a : l.foldl (fun a b => if b > a then b else a) 0 ≤ m := by
    rcases h3 with z | z
    · rw [z]; exact h 0 List.mem_cons_self
    · exact h _ (List.mem_cons_of_mem _ z)
  have b : m ≤ l.foldl (fun a b => if b > a then b else a) 0 := by
    rcases List.mem_cons.mp hm with z | z
    · rw [z]; exact h1
    · exact h2 m z
  omega
theorem measL_dp {f : PyData → Int → Option (Int × Int)} {g : PyData → Int} (hf : ∀ d ms dp sz, f d ms = some (dp, sz) → dp = g d) : ∀ (ds : List PyData) (ms dp tot a b : Int), measL f ds ms dp tot = some (a, b) → a = 1 + (ds.map g).foldl (fun a b => if b > a then b else a) dp
  | [], ms, dp, tot, a, b, h => by
    simp only [measL, Option.some.injEq, Prod.mk.injEq] at h
    simp
    omega
  | d :: ds, ms, dp, tot, a, b, h => by
    simp only [measL] at h
    cases hd : f d (ms - tot) with
    | none => rw [hd] at h; cases h
    | some p =>
      obtain ⟨x, y⟩ := p
      rw [hd] at h
      dsimp only at h
      have e := hf d _ x y hd
      have q := measL_dp hf ds ms _ _ a b h
      rw [List.map_cons, List.foldl_cons, ← e]
      exact q
theorem meas_dp : ∀ (n : Nat) (d : PyData) (ms dp sz : Int), meas n d ms = some (dp, sz) → dp = ldp n d
  | 0, d, ms, dp, sz, h => by simp [meas] at h
  | n + 1, d, ms, dp, sz, h => by
    unfold meas at h
    unfold ldp
    by_cases h1 : ms < 1
    · rw [if_pos h1] at h; cases h
    · rw [if_neg h1] at h
      by_cases h2 : isLd d = true
      · rw [if_pos h2] at h
        cases h
        have hc : isCd d = false := by
          cases d with
          | str x => rfl
          | _ => simp [isLd] at h2
        rw [hc]
        rfl
      · rw [if_neg h2] at h
        by_cases h3 : isCd d = true
        · rw [if_pos h3] at h
          rw [if_pos h3]
          exact measL_dp (fun d ms dp sz e => meas_dp n d ms dp sz e) _ _ _ _ _ _ h
        · rw [if_neg h3] at h; cases h
end Fv


namespace Fv
open PySem PySem.Spec PyProof.Rows L2 GenW FvX FvD FvG
-- top 48  slots: 0:_law_word
abbrev s_law_parts : Stmt := topS 48
abbrev N_law_parts : List Str := ["_law_word"]
theorem sc_law_parts : FnScope N_law_parts ["_law_word"] (defScope s_law_parts) := ⟨rfl, rfl, rfl, by decide +kernel, rfl, by decide +kernel, by decide +kernel⟩


-- top 50  slots: 0:_law_word 1:_law_found 2:_law_one
abbrev s_law_walk : Stmt := topS 50
abbrev N_law_walk : List Str := ["_law_word", "_law_found", "_law_one"]
theorem sc_law_walk : FnScope N_law_walk ["_law_word"] (defScope s_law_walk) := ⟨rfl, rfl, rfl, by decide +kernel, rfl, by decide +kernel, by decide +kernel⟩


-- top 51  slots: 0:_law_word 1:_law_one
abbrev s_law_signs_in : Stmt := topS 51
abbrev N_law_signs_in : List Str := ["_law_word", "_law_one"]
theorem sc_law_signs_in : FnScope N_law_signs_in ["_law_word"] (defScope s_law_signs_in) := ⟨rfl, rfl, rfl, by decide +kernel, rfl, by decide +kernel, by decide +kernel⟩

theorem op_inDK {X : Cx} {K : PySem.W.Frag} (hK : X.K = K) (hu : X.A.units + 65 < cLine) : OpR X (compareOp .In) (rInD K) := by
  subst hK
  exact op_inD hu
/-- a new list of data -/
def newL (K : PySem.W.Frag) (ds : List PyData) (H : Hp) (Q : VK) : Prop := ∀ (H' : Hp) (p : Addr) (vs : List V), Same H H' → H p = none → H' p = some (.lst vs) → DpAll K H' vs ds → Q (.ref p) H'
/-- a new list of letters -/
def newLt (xs : List Str) (H : Hp) (Q : VK) : Prop := ∀ (H' : Hp) (p : Addr), Same H H' → H p = none → H' p = some (.lst (xs.map V.str)) → Q (.ref p) H'
theorem none_back {H H1 : Hp} {p : Addr} (s : Same H H1) (h : H1 p = none) : H p = none := by
  cases e : H p with
  | none => rfl
  | some o => rw [s p o e] at h; cases h
theorem take_filter {α : Type} (l : List α) (p : α → Bool) (i : Nat) (x : α) (h : l[i]? = some x) : (l.take (i + 1)).filter p = (l.take i).filter p ++ (if p x = true then [x] else []) := by
  rw [List.take_add_one, h, List.filter_append]
  congr 1
  show [x].filter p = _
  rw [List.filter_cons, List.filter_nil]
section
variable {P : Program} {w : World} {K : PySem.W.Frag} {mg : Str → Option Value} {base : Heap} {CT : Addr}
/-! ### the law's own -/
def spParts (K : PySem.W.Frag) : Sp := fun vs H Q _ => ∃ (v : V) (d : PyData), vs = [v] ∧ Dp K H v d ∧ Tk d ∧ newL K (if isCd d = true then parts d else []) H Q
theorem ok_lparts {f : Addr} {fd : FuncData} {k : Nat} (F : Fun K "_law_parts" "_law_parts" s_law_parts f fd) (m_isinstance : mg "isinstance" = none) (m_str : mg "str" = none) (m_list : mg "list" = none) : FnOk P w K mg base CX0 (k + 1) f fd ["_law_word"] (spParts K) := by
  refine F.ok sc_law_parts (fun vs H Q E h => ?_) (fun cdv A outer s H vs Q E hr h => ?_)
  · obtain ⟨v, d, rfl, _⟩ := h
    rfl
  · obtain ⟨v, d, rfl, hd, t, q⟩ := h
    refine ⟨_, (pss_one (ps_ret (pe_ifExp (pt_val (pe_isD (T := "str") (by rfl) m_isinstance (by rfl) m_str (pv 0))) (pe_lst pa_nil) (pe_callTy call_list_of (by rfl) m_list (by decide +kernel) (pa_cons (pe_slice sl_tup (pv 0) (po_some pe_int) po_none) pa_nil))))), ?_⟩
    rcases t.inv with ⟨x, rfl, _⟩ | ⟨o, ds, rfl, hc, h2, tds, _⟩
    · cases hd
      refine ⟨_, rfl, _, _, _, rfl, by decide, .str x, _, rfl, iteT ⟨Nat.zero_le _, fun p np => ?_⟩⟩
      exact q _ p [] (same_upd np) np upd_same .nil
    · rw [if_pos hc] at q
      cases hd with
      | @tup a xs _ hs ha =>
        cases ha with
        | @cons x0 xr _ _ h1 hA =>
        cases h1
        refine ⟨_, rfl, _, _, .tuple (.str o :: ds), rfl, by decide, .tup hs (.cons (.str o) hA), _, rfl, iteF ?_⟩
        refine ⟨_, rfl, 1, rfl, a, _, rfl, hs, ?_, fun p np => ?_⟩
        · rw [show HT.sIx (V.str o :: xr).length 0 (some 1) = min 1 (V.str o :: xr).length from HT.sIx_nat _ 0 1, List.length_cons]
          omega
        have ex : cutV (V.str o :: xr) (some 1) none = xr := by rw [cut_drop1]; rfl
        rw [ex]
        have sp := same_upd (o := .tup xr) np
        refine ⟨p, xr, rfl, .inr (SqT.of upd_same), fun l nl => ?_⟩
        have sl := same_upd (o := .lst xr) nl
        exact q _ l xr (sp.trans sl) (none_back sp nl) upd_same (dpAll_same (sp.trans sl) _ _ hA)
/-- deep, by the law -/
def spDeep (K : PySem.W.Frag) (n : Nat) : Sp := fun vs H Q _ => ∃ (v : V) (d : PyData) (m : Nat), vs = [v] ∧ Dp K H v d ∧ Tk d ∧ m < n ∧ 1 ≤ lmeas m d ∧ ∀ H', Same H H' → Q (.int (ldp m d)) H'
theorem deep_zero {f : Addr} {fd : FuncData} {k : Nat} {ps : List Str} : FnOk P w K mg base CX0 k f fd ps (spDeep K 0) := by
  have no : ∀ vs H Q E, ¬ spDeep K 0 vs H Q E := fun vs H Q E h => by
    obtain ⟨v, d, m, _, _, _, m1, _⟩ := h
    omega
  exact ⟨fun vs H Q E h => absurd h (no vs H Q E), fun A outer s H args us vs Q E _ _ _ _ h => absurd h (no vs H Q E)⟩
theorem tk_parts {m : Nat} {d : PyData} (t : Tk d) (h : 1 ≤ lmeas (m + 1) d) : ∀ x ∈ (if isCd d = true then parts d else []), Tk x ∧ 1 ≤ lmeas m x := by
  intro x hx
  rcases t.inv with ⟨z, rfl, _⟩ | ⟨o, ds, rfl, hc, _, tds, _⟩
  · rw [str_isCd] at hx; cases hx
  · rw [if_pos hc] at hx
    have hx' : x ∈ ds := hx
    rcases lmeas_inv h with ⟨y, hy, _⟩ | ⟨o', ds', hd, _, _, _, all1, _⟩
    · cases hy
    · cases hd
      exact ⟨tds x hx', all1 x hx'⟩
theorem parts_len {d : PyData} (t : Tk d) : (if isCd d = true then parts d else []).length ≤ 1200 := by
  have z := pre_small t
  rw [pre_eq, List.length_cons] at z
  have y := FvG.flat_len (if isCd d = true then parts d else [])
  by_cases c : isCd d = true
  · rw [if_pos c] at z y ⊢; omega
  · rw [if_neg c]; simp
/-! ### the law's walk, each one once, its letters -/
def spLWalk (K : PySem.W.Frag) (n : Nat) : Sp := fun vs H Q _ => ∃ (v : V) (d : PyData) (m : Nat), vs = [v] ∧ Dp K H v d ∧ Tk d ∧ m < n ∧ 1 ≤ lmeas m d ∧ newL K (pre d) H Q
theorem lwalk_zero {f : Addr} {fd : FuncData} {k : Nat} {ps : List Str} : FnOk P w K mg base CX0 k f fd ps (spLWalk K 0) := by
  have no : ∀ vs H Q E, ¬ spLWalk K 0 vs H Q E := fun vs H Q E h => by
    obtain ⟨v, d, m, _, _, _, m1, _⟩ := h
    omega
  exact ⟨fun vs H Q E h => absurd h (no vs H Q E), fun A outer s H args us vs Q E _ _ _ _ h => absurd h (no vs H Q E)⟩
theorem flat_take_len (l : List PyData) (i : Nat) : ((l.take i).flatMap pre).length ≤ (l.flatMap pre).length := by
  have e : l.flatMap pre = (l.take i).flatMap pre ++ (l.drop i).flatMap pre := by rw [← List.flatMap_append, List.take_append_drop]
  rw [e, List.length_append]
  omega
theorem ok_lwalk {f : Addr} {fd : FuncData} {k n : Nat} (F : Fun K "_law_walk" "_law_walk" s_law_walk f fd) (hk : 1 ≤ k) (C_law_parts : Own P w K mg base 1 "_law_parts" ["_law_word"] (spParts K)) (C_law_walk : Own P w K mg base k "_law_walk" ["_law_word"] (spLWalk K n)) :
    FnOk P w K mg base CX0 (k + 1) f fd ["_law_word"] (spLWalk K (n + 1)) := by
  refine F.ok sc_law_walk (fun vs H Q E h => ?_) (fun cdv A outer s H vs Q E hr h => ?_)
  · obtain ⟨v, d, m, rfl, _⟩ := h
    rfl
  · obtain ⟨v, d, m, rfl, hd, t, hm, l1, q⟩ := h
    refine ⟨_, (pss_cons (ps_set (i := 1) sc_law_walk.nd rfl (by first | exact .inl rfl | exact .inr rfl) (pe_lst (pa_cons (pv 0) pa_nil)))
      (pss_cons (ps_for PassesOwn.never rfl (pi_list (pe_own C_law_parts (hr.mono (by omega)) (by rfl) (pa_cons (pv 0) pa_nil))) (pg_name (i := 2) sc_law_walk.nd rfl (by first | exact .inl rfl | exact .inr rfl))
        (pss_one (ps_set (i := 1) sc_law_walk.nd rfl (by first | exact .inl rfl | exact .inr rfl) (pe_op op_cat (pv 1) (pe_own C_law_walk (hr.mono (by omega)) (by rfl) (pa_cons (pv 2) pa_nil))))))
      (pss_one (ps_ret (pv 1))))), ?_⟩
    cases m with
    | zero => simp only [lmeas] at l1; omega
    | succ m =>
    have tp := tk_parts t l1
    have pl := pre_small t
    have eq : pre d = d :: (if isCd d = true then parts d else []).flatMap pre := by
      rw [pre_eq]
      split <;> rfl
    have hnew : ∀ H0 : Hp, Dp K H0 v d → ∀ R : VK, newL K (if isCd d = true then parts d else []) H0 R → spParts K [v] H0 R E0 := fun H0 h0 R n => ⟨v, d, rfl, h0, t, n⟩
    generalize (if isCd d = true then parts d else []) = ps at tp eq hnew
    refine ⟨_, rfl, by show 1 ≤ sizeLine; decide, fun l0 n0 => ?_⟩
    have s0 := same_upd (o := .lst [v]) n0
    refine ⟨_, rfl, hnew _ (dp_same s0 d v hd) _ fun H1 p xs s1 np hp hA => ?_⟩
    have hl := dpAll_len hA
    refine ⟨p, rfl, ⟨_, SqL.of hp⟩, for_list (xs := xs) (fun i σ H2 => ∃ (fo : Addr) (ys : List V) (o : Option V), σ = [some v, some (.ref fo), o] ∧ Same H1 H2 ∧ H fo = none ∧ H2 fo = some (.lst ys) ∧ DpAll K H2 ys (d :: (ps.take i).flatMap pre)) ?_ ?_ ?_ ?_⟩
    · exact ⟨l0, [v], _, rfl, Same.refl _, n0, s1 _ _ upd_same, .cons (dp_same (s0.trans s1) d v hd) .nil⟩
    · rintro i σ H2 hi ⟨fo, ys, o, rfl, sm, _⟩
      exact SqL.of (sm _ _ hp)
    · rintro i x σ H2 hx ⟨fo, ys, o, rfl, sm, nfo, hfo, hys⟩
      obtain ⟨d', hd', hD'⟩ := dpAll_get hA hx
      have md : d' ∈ ps := List.mem_of_getElem? hd'
      refine ⟨_, rfl, _, rfl, x, d', m, rfl, dp_same sm d' x hD', (tp d' md).1, by omega, (tp d' md).2, fun H3 p3 zs s3 np3 hp3 hz => ?_⟩
      have ly := dpAll_len hys
      have lz := dpAll_len hz
      have est : (ps.take (i + 1)).flatMap pre = (ps.take i).flatMap pre ++ pre d' := by
        rw [List.take_add_one, hd', List.flatMap_append]
        simp
      have lens : ys.length + zs.length ≤ 1200 := by
        have z1 := flat_take_len ps (i + 1)
        rw [est, List.length_append] at z1
        rw [eq, List.length_cons] at pl
        rw [List.length_cons] at ly
        omega
      refine ⟨fo, p3, ys, zs, rfl, rfl, s3 _ _ hfo, hp3, Nat.le_trans lens (by rw [sizeLine_eq]; decide), fun cc ncc => ?_⟩
      have sc := same_upd (o := .lst (ys ++ zs)) ncc
      have sall := (s0.trans (s1.trans (sm.trans s3)))
      refine ⟨cc, ys ++ zs, _, rfl, sm.trans (s3.trans sc), none_back sall ncc, upd_same, ?_⟩
      rw [est, ← List.cons_append]
      exact dpAll_app (dpAll_same (s3.trans sc) _ _ hys) (dpAll_same sc _ _ hz)
    · rintro σ H2 ⟨fo, ys, o, rfl, sm, nfo, hfo, hys⟩
      have et : ps.take xs.length = ps := List.take_of_length_le (by omega)
      rw [et, ← eq] at hys
      exact ⟨_, rfl, q H2 fo ys (s0.trans (s1.trans sm)) nfo hfo hys⟩
end
end Fv


namespace FvW
open PySem PySem.Spec PyProof.Rows L2
/-! ### enumerate of a tuple -/
set_option maxHeartbeats 1000000 in
theorem new_enum {v : Value} {o : Obj} {B : Heap → Prop} (b : Begins v o B) : Meets (Builtin.«enumerate.__new__» ⟨[.type "enumerate", v], []⟩) (fun _ R s => B s.heap ∧ R (.ok (.ret (.ref (s.heap.push o).objs.size))) { s with heap := (s.heap.push o).push { cls := .type "enumerate", data := .fields #[.none, .bool false, .ref s.heap.objs.size, rawInt 0, .none, .none] } }) :=
  .of_wp fun prog w A R s z => by
    have hsub := sub_enumerate
    obtain ⟨hp, g, d, tk, os⟩ := s
    have it1 : ∀ {A' : Around} {E : Value → Shared → Prop} {Q : Value → Shared → Prop}, Q (.ref hp.objs.size) ⟨hp.push o, g, d, tk, os⟩ → wpAny (model prog w) A' (pyIter v) Q E ⟨hp, g, d, tk, os⟩ := fun q => b.iter prog w _ _ ⟨hp, g, d, tk, os⟩ _ z.1 q
    have fin := z.2
    wp_walk using it1
    refine wpAny_stack_any fun st => wpAny_pure ?_
    split
    next c _ _ _ _ _ =>
      cases (c == Value.type "enumerate") <;> (wp_walk using it1; exact ⟨_, rfl, fin⟩)
    next => wp_walk using it1; exact ⟨_, rfl, fin⟩
section
variable {P : Program} {w : World} {A : Around} {E : Value → Shared → Prop} {s : Shared}
theorem enum1 {v : Value} {o : Obj} {B : Heap → Prop} {Q : Value → Shared → Prop} (b : Begins v o B) (hb : B s.heap)
    (q : ∀ h1, IsEnum h1 (s.heap.objs.size + 1) s.heap.objs.size 0 .none → h1.get? s.heap.objs.size = some o → (∀ c x, s.heap.get? c = some x → h1.get? c = some x) → Q (.ref (s.heap.objs.size + 1)) { s with heap := h1 }) :
    wpAny (model P w) A (call (.type "enumerate") [v]) Q E s := by
  refine callType_new F.called_enumerate (by decide) (F.typeCall_enumerate_1 v) (F.newCall_enumerate_1 v) (fun obj => F.args_object_init_2 obj v) F.entry_enumerate_new (new_enum b) ⟨hb, ?_⟩
  have z1 : (s.heap.push o).objs.size = s.heap.objs.size + 1 := Heap.size_push ..
  have at1 := Heap.get?_push_size (s.heap.push o) (o := { cls := .type "enumerate", data := .fields #[.none, .bool false, .ref s.heap.objs.size, rawInt 0, .none, .none] }) rfl
  rw [z1] at at1
  show _ ∧ _
  rw [z1]
  exact ⟨⟨_, at1, rfl⟩, q _ at1 (Heap.get?_push_of_some _ (Heap.get?_push_size _ b.free)) fun c x e => Heap.get?_push_of_some _ (Heap.get?_push_of_some _ e)⟩
end
/-- behind the last item -/
theorem draws_end {P : Program} {w : World} {A : Around} (hh : A.handled = none) (it t : Addr) (items : Array Value) (i : Nat) (hi : items.size ≤ i) :
    Draws P w A it [it, t] i (fun _ _ => False) (fun j h => j = i ∧ h.IsTupleIter it t i ∧ h.IsTuple t items) where
  live := fun _ _ st => let ⟨o, ho, _⟩ := st.2.1; ⟨o, ho⟩
  frame := fun _ _ _ st hk => ⟨st.1, st.2.1.at fun o e => hk it (List.mem_cons_self ..) o e, st.2.2.at fun o e => hk t (List.mem_cons_of_mem _ (List.mem_singleton.mpr rfl)) o e⟩
  item := fun j s Q E hj st _ => by
    have := st.1
    omega
  done := fun s Q E st hE => wpAny_nextOf_tuple_end hh st.2.1 st.2.2 (Array.getElem?_eq_none hi) hE
/-- the tuple at a, each item in a new pair -/
def IteT (K : PySem.W.Frag) (a : Addr) : It where
  go := fun i H => ∃ (xs : List V) (x : V), SqT K H a xs ∧ xs[i]? = some x
  yld := fun i H v H' => ∃ T x, v = .ref T ∧ H T = none ∧ H' = upd H T (.tup [.int (i : Nat), x]) ∧ ∀ xs, SqT K H a xs → xs[i]? = some x
  stop := fun i H => ∃ xs : List V, SqT K H a xs ∧ xs.length ≤ i
theorem turn_enumT {P : Program} {w : World} {K : PySem.W.Frag} {elts : List Expr} {kk : Nat} {tpos : Pos} (a e it : Addr) (hai : a ≠ it) (hae : e ≠ a) :
    Turn P w K (.Tuple elts kk tpos) (IteT K a) [e, it] e (fun i h => (∃ old, IsEnum h e it ((i : Nat) : Int) old) ∧ h.IsTupleIter it a i ∧ e ≠ it) where
  mem := List.mem_cons_self ..
  obj := fun i h st b hb => by
    obtain ⟨⟨old, he⟩, ⟨o, ho, hc, hd⟩, _⟩ := st
    rcases List.mem_cons.mp hb with z | z
    · subst z
      exact ⟨_, he, fun v q => nomatch q⟩
    · exact ⟨o, (List.mem_singleton.mp z) ▸ ho, fun v q => by rw [hd] at q; cases q⟩
  keep := fun i h h' st k => ⟨st.1.imp fun old he => k e (List.mem_cons_self ..) _ he, st.2.1.at fun o q => k it (List.mem_cons_of_mem _ (List.mem_singleton.mpr rfl)) o q, st.2.2⟩
  item := by
    intro X hP hw hK hc i pins s σ H E I hf st hg
    subst hP
    subst hw
    subst hK
    obtain ⟨xs, x, hq, hx⟩ := hg
    obtain ⟨its, rv, p, hz⟩ := I.tuple hq
    obtain ⟨u, hu, ru⟩ := rv.get hx
    obtain ⟨⟨old, he⟩, hit, hne⟩ := st
    have le : e < s.heap.objs.size := Heap.lt_size he
    have li : it < s.heap.objs.size := let ⟨_, q, _⟩ := hit; Heap.lt_size q
    have hlt : i < its.toArray.size := by
      have := (List.getElem?_eq_some_iff.mp hu).1
      simpa using this
    have hin : e ∉ [it, a] := fun z => by
      rcases List.mem_cons.mp z with z | z
      · exact hne z
      · exact hae (List.mem_singleton.mp z)
    refine wpAny_pyNext_enum_itemD (Draws.tuple (A := X.A.in1) (I.ok.hd hc) it a hai its.toArray) he ⟨hit, (show s.heap.IsTuple a its.toArray from p)⟩ hlt hne hin fun y h1 tk hy ho st1 hT hsz hk => ?_
    have ey : y = u := by
      have e1 : its.toArray[i]? = some y := hy
      have e2 : its.toArray[i]? = some u := by simpa using hu
      exact Option.some.inj (e1.symm.trans e2)
    subst ey
    refine ⟨_, rfl, wpAny_letOwnedTupleGo_enum (s := { s with heap := h1, toks := tk + 1 }) ho fun h2 he2 sb => ?_⟩
    have hT2 := (sb.2 _ (Nat.ne_of_gt le)).trans hT
    have pair : ObjOk X.prog X.w (upd H s.heap.objs.size (.tup [.int (i : Nat), x])) h2 s.heap.objs.size (.tup [.int (i : Nat), x]) := ⟨by show 2 ≤ sizeLine; decide, [.int i tk, y], .cons ⟨_, rfl⟩ (.cons ru .nil), ⟨_, hT2, rfl, _, rfl⟩⟩
    have I1 : Inv X pins σ (upd H s.heap.objs.size (.tup [.int (i : Nat), x])) { s with heap := h2, toks := tk + 1 } := I.turnedNew (ch := [e, it]) (fun b ob hb q => by
      have b1 : b ≠ e := fun z => hb (z ▸ List.mem_cons_self ..)
      have b2 : b ≠ it := fun z => hb (z ▸ List.mem_cons_of_mem _ (List.mem_singleton.mpr rfl))
      exact (sb.2 b b1).trans (hk b ob b1 b2 q)) hf (Nat.le_refl _) pair
    refine ⟨.ref s.heap.objs.size, _, I1, rfl, ⟨_, x, rfl, I.hok.fresh (Nat.le_refl _), rfl, fun ys hys => by rw [I.tuple_inj hys hq]; exact hx⟩, ⟨⟨y, ?_⟩, st1.1.at fun o q => (sb.2 it (Ne.symm hne)).trans q, hne⟩, fun b hb => ?_⟩
    · rw [show ((i + 1 : Nat) : Int) = (i : Int) + 1 from by omega]
      exact he2
    · have lb : b < s.heap.objs.size := by
        rcases List.mem_cons.mp hb with z | z
        · exact z ▸ le
        · exact (List.mem_singleton.mp z) ▸ li
      rw [upd_ne (Nat.ne_of_lt lb)]
      exact (hf b hb).1
  done := by
    intro X hP hw hK hc i pins s σ H E I hf st hg
    subst hP
    subst hw
    subst hK
    obtain ⟨xs, hq, hx⟩ := hg
    obtain ⟨its, rv, p, hz⟩ := I.tuple hq
    obtain ⟨⟨old, he⟩, hit, hne⟩ := st
    have hl := rv.length
    obtain ⟨f0, f1, f2, f3, f4, f5⟩ := hf it (List.mem_cons_of_mem _ (List.mem_singleton.mpr rfl))
    have hsz : its.toArray.size ≤ i := by rw [List.size_toArray]; omega
    exact wpAny_pyNext_enum_endD (draws_end (A := X.A.in1) (I.ok.hd hc) it a its.toArray i hsz) he ⟨rfl, hit, (show s.heap.IsTuple a its.toArray from p)⟩ fun h1 eb => ⟨rfl, I.turned (t' := s.toks) (fun b o hb q => eb b o hb q) f0 f1 f3 f4 f5⟩
  self := fun _ _ _ _ _ st h => let ⟨⟨_, he⟩, _⟩ := st; wpAny_pyIter_enum he h
def iEnumT (K : PySem.W.Frag) (ta : TA) : TI := fun σ H R => ta σ H fun vs H1 => ∃ a xs, vs = [.ref a] ∧ SqT K H1 a xs ∧ R (IteT K a) H1
theorem pi_enumT {X : Cx} {e : Expr} {ta : TA} {p pos tpos : Pos} {elts : List Expr} {kk : Nat} (hg : Gl X "enumerate") (hm : X.mg "enumerate" = none) (ha : PA X [e] ta) (hs : starEach [e] X.env = [(false, eval e X.env)] := by rfl) : PI X (.Tuple elts kk tpos) (.Call (.Name "enumerate" p) [e] [] pos) (iEnumT X.K ta) := by
  refine ⟨fun pins s σ H R I h => ?_⟩
  refine Call_ (ld_blt I hg hm boot_enumerate (PyProof.Rows.callWith_type1 (thn (ha.run pos pins s σ H _ I h) fun us s1 ⟨vs, H1, I1, r1, a, xs, ex, hq, q⟩ => ?_) hs rfl))
  subst ex
  obtain ⟨u, rfl, rfl⟩ : ∃ u, us = [u] ∧ u = Value.ref a := by
    cases r1 with
    | cons r rr =>
      cases rr
      exact ⟨_, rfl, r⟩
  obtain ⟨its, rv, p1, hz⟩ := I1.tuple hq
  have la : a < s1.heap.objs.size := let ⟨_, e0, _⟩ := p1; Heap.lt_size e0
  refine enum1 (begins_tuple a its.toArray) p1 fun h1 he hit hk => wpAny_pyIter_enum he ?_
  have I2 : Inv X pins σ H1 { s1 with heap := h1 } := I1.kept (t' := s1.toks) hk
  refine ⟨s1.heap.objs.size + 1, [s1.heap.objs.size + 1, s1.heap.objs.size], _, _, H1, rfl, I2, turn_enumT a (s1.heap.objs.size + 1) s1.heap.objs.size (Nat.ne_of_lt la) (Nat.ne_of_gt (Nat.lt_succ_of_lt la)), ⟨⟨.none, he⟩, ⟨_, hit, rfl, rfl⟩, Nat.succ_ne_self _⟩, fun b hb => ?_, q⟩
  have lb : s1.heap.objs.size ≤ b := by
    rcases List.mem_cons.mp hb with z | z
    · rw [z]; exact Nat.le_succ _
    · rw [List.mem_singleton.mp z]; exact Nat.le_refl _
  exact I1.fpOk lb (I1.hok.fresh lb)
/-- one reading or the other -/
def iOr (w1 w2 : TI) : TI := fun σ H R => w1 σ H R ∨ w2 σ H R
theorem pi_or {X : Cx} {t e : Expr} {w1 w2 : TI} (h1 : PI X t e w1) (h2 : PI X t e w2) : PI X t e (iOr w1 w2) := ⟨fun pins s σ H R I h => h.elim (h1.run pins s σ H R I) (h2.run pins s σ H R I)⟩
end FvW


namespace FvW
open PySem PySem.Spec PyProof.Rows L2 FvX Fv
/-! ### lists and tuples alike -/
def isSeq : PyData → Bool
  | .list _ => true
  | .tuple _ => true
  | _ => false
def rows : PyData → List PyData
  | .list ds => ds
  | .tuple ds => ds
  | _ => []
theorem isSeq_ty (d : PyData) : (isB (tyN d) "list" || isB (tyN d) "tuple") = isSeq d := by
  cases d <;> (simp only [tyN, isSeq]; decide +kernel)
/-- isinstance(x, (list, tuple)) of data -/
def rIsDL (K : PySem.W.Frag) : List V → Hp → VK → Prop := fun xs H Q => ∃ (x : V) (tp : Addr) (d : PyData), xs = [x, .ref tp] ∧ H tp = some (.tup [.ty "list", .ty "tuple"]) ∧ Dp K H x d ∧ Q (.bl (isSeq d)) H
theorem call_isDL {X : Cx} : CallR X (.builtin "isinstance") (rIsDL X.K) := by
  intro pins s σ H xs us Q I r h
  obtain ⟨x, tp, d, rfl, htp, hd, q⟩ := h
  refine call_isiT pins s σ H _ us Q I r ⟨x, tp, _, _, _, isSeq d, rfl, htp, .cons (.ty "list") (.cons (.ty "tuple") .nil), dp_ty hd, ?_, q⟩
  have e := isSeq_ty d
  refine kitAny_cons (b := isB (tyN d) "list") (kit_ty (kitB_all (by decide))) (fun e1 => ?_) (fun e1 => ?_)
  · rw [e1, Bool.false_or] at e
    refine kitAny_cons (b := isB (tyN d) "tuple") (kit_ty (kitB_all (by decide))) (fun e2 => ?_) (fun e2 => ?_)
    · rw [← e, e2]; exact kitAny_nil
    · rw [← e, e2]
  · rw [← e, e1, Bool.true_or]
theorem walk_enumT {K : PySem.W.Frag} {a : Addr} {xs : List V} : Walk (IteT K a) xs.length (fun H => SqT K H a xs) (YPair (fun i => some (.int (i : Nat))) (fun i => xs[i]?)) where
  goes := fun i _ hi q => ⟨xs, xs[i], q, List.getElem?_eq_getElem hi⟩
  stops := fun _ q => ⟨xs, q, Nat.le_refl _⟩
  yields := fun i H v H' _ q y => let ⟨T, x, h1, h2, h3, h4⟩ := y; ⟨T, .int (i : Nat), x, h1, h2, h3, rfl, h4 xs q⟩
theorem enum_or {K : PySem.W.Frag} {H0 H1 : Hp} {v : V} {d : PyData} {R : It → Hp → Prop} (hd : Dp K H0 v d) (hs : isSeq d = true) (s : Same H0 H1)
    (h : ∀ (J : It) (G : Hp → Prop) (xs : List V), DpAll K H0 xs (rows d) → Walk J xs.length G (YPair (fun i => some (.int (i : Nat))) (fun i => xs[i]?)) → (∀ H', Same H0 H' → G H') → R J H1) :
    (∃ a xs, [v] = [V.ref a] ∧ SqL K H1 a xs ∧ R (Ite K a) H1) ∨ ∃ a xs, [v] = [V.ref a] ∧ SqT K H1 a xs ∧ R (IteT K a) H1 := by
  cases hd with
  | non => cases hs
  | bl => cases hs
  | int => cases hs
  | str => cases hs
  | lst hq ha => exact .inl ⟨_, _, rfl, s.seq hq, h _ _ _ ha walk_enum fun H' s' => s'.seq hq⟩
  | tup hq ha => exact .inr ⟨_, _, rfl, same_seqT s hq, h _ _ _ ha walk_enumT fun H' s' => same_seqT s' hq⟩
theorem i_enum {K : PySem.W.Frag} {H0 H1 : Hp} {v : V} {d : PyData} {R : It → Hp → Prop} {σ : L2.St} {j : Nat} (hv : σ[j]? = some (some v)) (hd : Dp K H0 v d) (hs : isSeq d = true) (s : Same H0 H1)
    (h : ∀ (J : It) (G : Hp → Prop) (xs : List V), DpAll K H0 xs (rows d) → Walk J xs.length G (YPair (fun i => some (.int (i : Nat))) (fun i => xs[i]?)) → (∀ H', Same H0 H' → G H') → R J H1) :
    iOr (iEnum K (tCons (tVar j) tNil)) (iEnumT K (tCons (tVar j) tNil)) σ H1 R := Or.imp (fun z => ⟨v, hv, z⟩) (fun z => ⟨v, hv, z⟩) (enum_or hd hs s h)
/-- what a for over a list or a tuple wants -/
theorem seq_or {K : PySem.W.Frag} {H0 H1 : Hp} {v : V} {d : PyData} {R : It → Hp → Prop} (hd : Dp K H0 v d) (hs : isSeq d = true) (s : Same H0 H1)
    (h : ∀ (J : It) (G : Hp → Prop) (xs : List V), DpAll K H0 xs (rows d) → Walk J xs.length G (YAt xs) → (∀ H', Same H0 H' → G H') → R J H1) :
    (∃ a, v = V.ref a ∧ (∃ xs, SqL K H1 a xs) ∧ R (Itl K a) H1) ∨ ∃ a, v = V.ref a ∧ (∃ xs, SqT K H1 a xs) ∧ R (Itt K a) H1 := by
  cases hd with
  | non => cases hs
  | bl => cases hs
  | int => cases hs
  | str => cases hs
  | lst hq ha => exact .inl ⟨_, rfl, ⟨_, s.seq hq⟩, h _ _ _ ha walk_list fun H' s' => s'.seq hq⟩
  | tup hq ha => exact .inr ⟨_, rfl, ⟨_, same_seqT s hq⟩, h _ _ _ ha walk_tup fun H' s' => same_seqT s' hq⟩
/-- an error with one field -/
def errF (C : Addr) (cod fl : Str) (v : V) (H : Hp) (E : XK) : Prop := ∀ (H' : Hp) (dd : Addr), Same H H' → H' dd = some (.xd [(fl, v), ("code", .str cod)]) → E (.ref C) (some dd) H'
theorem errF.mono {C : Addr} {cod fl : Str} {v : V} {H H1 : Hp} {E : XK} (h : errF C cod fl v H E) (s : Same H H1) : errF C cod fl v H1 E := fun H' dd s' e => h H' dd (s.trans s') e
end FvW


namespace Fv
open PySem PySem.Spec PyProof.Rows L2 FvX FvW TL
-- top 32  slots: 0:rules 1:names 2:at 3:rule
abbrev s_check_single_rules : Stmt := topS 32
abbrev N_check_single_rules : List Str := ["rules", "names", "at", "rule"]
theorem sc_check_single_rules : FnScope N_check_single_rules ["rules"] (defScope s_check_single_rules) := ⟨rfl, rfl, rfl, by decide +kernel, rfl, by decide +kernel, by decide +kernel⟩

/-! ### rules, one by one -/
def nameOf : PyData → Str
  | .tuple (.str n :: _) => n
  | _ => ""
def okR (ns : List Str) (r : PyData) : Bool := isRl r && !decide (nameOf r ∈ ns)
def badAt : List Str → Nat → List PyData → Option Nat
  | _, _, [] => none
  | ns, i, r :: rs => if okR ns r = true then badAt (ns ++ [nameOf r]) (i + 1) rs else some i
/-- where a list of rules is wrong -/
def rErr (d : PyData) : Option Int := if isSeq d = true then (if (rows d).length ≤ 12 then (badAt [] 0 (rows d)).map Int.ofNat else some 12) else some 0
def spSingle (K : PySem.W.Frag) (CR : Addr) : Sp := fun vs H Q E => ∃ (v : V) (d : PyData), vs = [v] ∧ Dp K H v d ∧ gd 20 d = true ∧ (rErr d = none → ∀ H', Same H H' → Q .non H') ∧ ∀ i, rErr d = some i → errF CR "InvalidRules" "index" (.int i) H E
theorem isRl_inv {d : PyData} (h : isRl d = true) : ∃ n l r, d = .tuple [.str n, l, r] ∧ nmS n = true ∧ tmB l = true ∧ tmB r = true := by
  unfold isRl at h
  split at h
  · rename_i n l r
    rw [Bool.and_eq_true, Bool.and_eq_true] at h
    cases n with
    | str x => exact ⟨x, l, r, rfl, h.1, h.2.1, h.2.2⟩
    | _ => cases h.1
  · cases h
theorem gd_rows {n : Nat} {d : PyData} (h : gd (n + 1) d = true) : ∀ x ∈ rows d, gd n x = true := by
  cases d with
  | tuple ds => exact (gd_tuple h).2
  | list ds =>
    simp only [gd, Bool.and_eq_true, decide_eq_true_eq] at h
    exact gdAll_iff.mp h.1
  | _ => exact fun x hx => nomatch hx
theorem dp_seq {K : PySem.W.Frag} {H : Hp} {v : V} {d : PyData} (h : Dp K H v d) (hs : isSeq d = true) : ∃ a xs, v = .ref a ∧ (SqL K H a xs ∨ SqT K H a xs) ∧ DpAll K H xs (rows d) := by
  cases h with
  | non => cases hs
  | bl => cases hs
  | int => cases hs
  | str => cases hs
  | lst hq ha => exact ⟨_, _, rfl, .inl hq, ha⟩
  | tup hq ha => exact ⟨_, _, rfl, .inr hq, ha⟩
theorem in_names (x : Str) : ∀ ss : List Str, inV (.str x) (ss.map V.str) = decide (x ∈ ss)
  | [] => rfl
  | s :: ss => by
    have ih := in_names x ss
    unfold inV at ih ⊢
    rw [List.map_cons, List.any_cons, ih]
    show ((s == x) || decide (x ∈ ss)) = decide (x ∈ s :: ss)
    by_cases e : s = x
    · subst e; simp
    · have e1 : (s == x) = false := beq_eq_false_iff_ne.mpr e
      rw [e1, Bool.false_or]
      simp [List.mem_cons, show ¬ x = s from fun z => e z.symm]
theorem flat_names (ss : List Str) : (ss.map V.str).all flatV = true := by
  rw [List.all_map]
  exact List.all_eq_true.mpr fun _ _ => rfl
theorem log12 (i : Nat) (h : i ≤ 12) : ((i : Nat) : Int).natAbs.log2 < 1920 := by
  have e : ((i : Nat) : Int).natAbs = i := Int.natAbs_natCast i
  rw [e]
  exact Nat.lt_of_le_of_lt (Nat.log2_le_self i) (by omega)
section
variable {P : Program} {w : World} {K : PySem.W.Frag} {mg : Str → Option Value} {base : Heap}
theorem ok_single {f CR fR : Addr} {fd : FuncData} {k : Nat} {qual : Str} {q : ErrPos1} {me : Expr} {j2 : Nat} {t12 : Tok} (F : Fun K "check_single_rules" "check_single_rules" s_check_single_rules f fd) (hk : 1 ≤ k)
    (T_IR : ErrC1 P.main.file K CR fR qual q me "InvalidRules" "index" j2) (hline : LineOk1 q me) (hargs : ArgsOk me) (hme : ∀ u, MsgV u → MsgOk me "index" u) (htop : (P.main.scope.names.lookup ("super" : Str)).isSome = false) (m_super : mg "super" = none) (g_IR : mg "InvalidRules" = some (.ref CR))
    (m_isinstance : mg "isinstance" = none) (m_list : mg "list" = none) (m_tuple : mg "tuple" = none) (m_len : mg "len" = none) (m_enumerate : mg "enumerate" = none) (g_MAX_RULES : mg "MAX_RULES" = some (.int 12 t12))
    (C_is_rule : Own P w K mg base k "is_rule" ["value"] (spIsRule K)) :
    FnOk P w K mg base (L2.CX P w) (k + 1) f fd ["rules"] (spSingle K CR) := by
  refine F.okX sc_check_single_rules (fun vs H Q E h => ?_) (fun cdv A outer s H vs Q E hr h => ?_)
  · obtain ⟨v, d, rfl, _⟩ := h
    rfl
  · obtain ⟨v, d, rfl, hd, hg, good, bad⟩ := h
    refine ⟨_, (pss_cons (ps_if (pt_not (pt_val (pe_callB FvW.call_isDL (by rfl) m_isinstance (by decide +kernel) (pa_cons (pv 0) (pa_cons (pe_tup (pa_cons (pe_bltn (v := .ty "list") (by rfl) m_list (by decide +kernel) rfl) (pa_cons (pe_bltn (v := .ty "tuple") (by rfl) m_tuple (by decide +kernel) rfl) pa_nil))) pa_nil)))))
        (pss_one (ps_raise rfl (takes_of rfl rfl rfl rfl) (pmk_err1 (k := 0) (by decide +kernel) T_IR hline hargs hme htop m_super (hr.mono (by omega)) (by rfl) g_IR (pa_cons pe_int pa_nil))))
        pss_nil)
      (pss_cons (ps_if (pt_cmpR op_gt (pe_callB call_len_seq (by rfl) m_len (by decide +kernel) (pa_cons (pv 0) pa_nil)) (pe_glob (v := .int 12) (by rfl) g_MAX_RULES (⟨_, rfl⟩)) (nomark _))
        (pss_one (ps_raise rfl (takes_of rfl rfl rfl rfl) (pmk_err1 (k := 0) (by decide +kernel) T_IR hline hargs hme htop m_super (hr.mono (by omega)) (by rfl) g_IR (pa_cons (pe_glob (v := .int 12) (by rfl) g_MAX_RULES (⟨_, rfl⟩)) pa_nil))))
        pss_nil)
      (pss_cons (ps_set (i := 1) sc_check_single_rules.nd rfl (by first | exact .inl rfl | exact .inr rfl) (pe_lst pa_nil))
      (pss_one (ps_for (passes_of rfl) rfl (FvW.pi_or (pi_enum (by rfl) m_enumerate (pa_cons (pv 0) pa_nil)) (FvW.pi_enumT (by rfl) m_enumerate (pa_cons (pv 0) pa_nil))) (pg_tup rfl (pgs_cons (pg_name (i := 2) sc_check_single_rules.nd rfl (by first | exact .inl rfl | exact .inr rfl)) (pgs_cons (pg_name (i := 3) sc_check_single_rules.nd rfl (by first | exact .inl rfl | exact .inr rfl)) pgs_nil)))
        (pss_cons (ps_if (PW.pt (pw_or (pt_not (pt_val (pe_own C_is_rule (hr.mono (by omega)) (by rfl) (pa_cons (pv 3) pa_nil)))) (pw_or1 (pt_cmpR op_in_seq (pe_ix ix_tup (pv 3) pe_int (fun _ _ => rfl)) (pv 1) (by rfl)))))
          (pss_one (ps_raise rfl (takes_of rfl rfl rfl rfl) (pmk_err1 (k := 0) (by decide +kernel) T_IR hline hargs hme htop m_super (hr.mono (by omega)) (by rfl) g_IR (pa_cons (pv 2) pa_nil))))
          pss_nil)
        (pss_one (ps_expr (pe_bm PySem.F.plainAttrs_list PySem.F.slot_list_append PySem.F.type_list_append mt_append (pv 1) (pa_cons (pe_ix ix_tup (pv 3) pe_int (fun _ _ => rfl)) pa_nil)))))))))), ?_⟩
    refine ⟨_, rfl, (by show 2 ≤ sizeLine; decide), fun tp ntp => ?_⟩
    have s1 := same_upd (o := .tup [.ty "list", .ty "tuple"]) ntp
    refine ⟨v, tp, d, rfl, upd_same, dp_same s1 _ _ hd, _, rfl, ?_⟩
    show if (!isSeq d) = true then _ else _
    cases hq : isSeq d with
    | false =>
      refine iteT ⟨_, rfl, .inr ⟨0, rfl, by decide⟩, fun dd nd => ?_⟩
      have e : rErr d = some 0 := by unfold rErr; rw [hq]; rfl
      exact bad 0 e _ dd (s1.trans (same_upd nd)) upd_same
    | true =>
      have e0 : rErr d = if (rows d).length ≤ 12 then (badAt [] 0 (rows d)).map Int.ofNat else some 12 := by unfold rErr; rw [hq]; rfl
      rw [e0] at good bad
      refine iteF ?_
      obtain ⟨a, xs, ev, hsq, hA⟩ := dp_seq (dp_same s1 _ _ hd) hq
      have hl := dpAll_len hA
      refine ⟨_, rfl, a, xs, by rw [ev], hsq, _, _, rfl, rfl, _, rfl, ?_⟩
      rw [hl]
      rcases Nat.lt_or_ge 12 (rows d).length with hlen | hlen
      · rw [decide_eq_true (by omega : (12 : Int) < (((rows d).length : Nat) : Int))]
        refine iteT ⟨_, rfl, .inr ⟨12, rfl, by decide⟩, fun dd nd => ?_⟩
        exact bad 12 (if_neg (by omega)) _ dd (s1.trans (same_upd nd)) upd_same
      rw [decide_eq_false (by omega : ¬ (12 : Int) < (((rows d).length : Nat) : Int))]
      rw [if_pos hlen] at good bad
      refine iteF ⟨Nat.zero_le _, fun l0 n0 => ?_⟩
      have s2 := same_upd (o := .lst []) n0
      have s12 := s1.trans s2
      have nl0 : H l0 = none := by
        cases e : H l0 with
        | none => rfl
        | some o => rw [s1 _ _ e] at n0; cases n0
      refine i_enum rfl hd hq s12 fun J G ys hys hW hG => ?_
      have hly := dpAll_len hys
      refine for_it hW (fun i σ H2 => ∃ (y2 y3 : Option V) (ns : List Str), σ = [some v, some (.ref l0), y2, y3] ∧ Same H H2 ∧ H2 l0 = some (.lst (ns.map V.str)) ∧ ns.length = i ∧ badAt [] 0 (rows d) = badAt ns i ((rows d).drop i)) ?_ ?_ ?_ ?_
      · exact ⟨none, none, [], rfl, s12, upd_same, rfl, rfl⟩
      · rintro i σ H2 _ ⟨y2, y3, ns, rfl, sm, _⟩
        exact hG H2 sm
      · rintro i x σ H2 H3 hi ⟨y2, y3, ns, rfl, sm, hl0, hn, eb⟩ ⟨T, x0, x1, rfl, nT, rfl, ex0, ex1⟩
        cases ex0
        obtain ⟨r, hr', hD⟩ := dpAll_get hys ex1
        have hir : i < (rows d).length := by omega
        have er : (rows d)[i] = r := Option.some.inj ((List.getElem?_eq_getElem hir).symm.trans hr')
        have ed : (rows d).drop i = r :: (rows d).drop (i + 1) := by rw [← er]; exact List.drop_eq_getElem_cons hir
        have mr : r ∈ rows d := List.mem_of_getElem? hr'
        have gr : gd 20 r = true := gd_le (gd_rows (n := 19) hg r mr) (by decide)
        have sT := same_upd (o := .tup [.int (i : Nat), x1]) nT
        have sm3 := sm.trans sT
        rw [ed] at eb
        have hD3 := dp_same sm3 _ _ hD
        have hl3 := sT _ _ hl0
        refine ⟨T, _, rfl, SqT.of upd_same, rfl, ?_⟩
        refine ⟨_, _, rfl, _, _, rfl, rfl, ?_⟩
        refine ⟨_, rfl, x1, r, rfl, hD3, gr, fun H4 s4 => ⟨_, rfl, ?_⟩⟩
        have hl4 := s4 _ _ hl3
        have sm4 := sm3.trans s4
        show if (!isRl r) = true then _ else _
        cases hrl : isRl r with
        | false =>
          have e : badAt [] 0 (rows d) = some i := by rw [eb]; unfold badAt okR; rw [hrl]; rfl
          refine iteT (iteT ⟨_, rfl, _, rfl, .inr ⟨i, rfl, log12 i (by omega)⟩, fun dd nd => ?_⟩)
          exact bad i (by rw [e]; rfl) _ dd (sm4.trans (same_upd nd)) upd_same
        | true =>
          obtain ⟨n, l, r', rfl, hnm, _⟩ := isRl_inv hrl
          have hD4 := dp_same s4 _ _ hD3
          obtain ⟨b, zs, ex, hsb, hz⟩ : ∃ b zs, x1 = .ref b ∧ SqT K H4 b (.str n :: zs) ∧ True := by
            cases hD4 with
            | tup hs ha =>
              cases ha with
              | cons h0 _ => cases h0; exact ⟨_, _, rfl, hs, trivial⟩
          subst ex
          refine iteF ⟨_, rfl, b, _, _, _, rfl, rfl, hsb, at0, _, rfl, l0, _, rfl, .inl (SqL.of hl4), rfl, flat_names _, _, rfl, ?_⟩
          have ein : (if false = true then !inV (V.str n) (ns.map V.str) else inV (V.str n) (ns.map V.str)) = decide (n ∈ ns) := by rw [if_neg Bool.false_ne_true, in_names]
          rw [ein]
          have ok1 : okR ns (.tuple [.str n, l, r']) = !decide (n ∈ ns) := by unfold okR; rw [hrl, Bool.true_and]; rfl
          cases hin : decide (n ∈ ns) with
          | true =>
            have e : badAt [] 0 (rows d) = some i := by rw [eb]; unfold badAt; rw [ok1, hin]; rfl
            refine iteT ⟨_, rfl, _, rfl, .inr ⟨i, rfl, log12 i (by omega)⟩, fun dd nd => ?_⟩
            exact bad i (by rw [e]; rfl) _ dd (sm4.trans (same_upd nd)) upd_same
          | false =>
            refine iteF ⟨_, rfl, .inl ⟨rfl, _, SqL.of hl4⟩, _, rfl, b, _, _, _, rfl, rfl, hsb, at0, l0, _, _, rfl, rfl, hl4, by rw [List.length_map]; exact small1000 (by omega), _, _, ns ++ [n], rfl, fun c o e => ?_, ?_, by rw [List.length_append, hn]; rfl, ?_⟩
            · rw [upd_ne (ne_of_none e nl0)]
              exact sm4 _ _ e
            · rw [upd_same, List.map_append]; rfl
            · rw [eb]
              show (if okR ns (.tuple [.str n, l, r']) = true then _ else _) = _
              rw [ok1, hin]
              rfl
      · rintro σ H2 ⟨y2, y3, ns, rfl, sm, hl0, hn, eb⟩
        rw [List.drop_of_length_le (by omega)] at eb
        exact good (by rw [eb]; rfl) H2 sm
end
end Fv


namespace FvW
open PySem PySem.Spec PyProof.Rows L2 FvX Fv
theorem pi_tupK {X : Cx} {K : PySem.W.Frag} {tg l : Expr} {tl : TE} (hK : X.K = K) (hl : PE X l tl) : PI X tg l (iTup K tl) := by
  subst hK
  exact pi_tup hl
theorem sl_tupK {X : Cx} {K : PySem.W.Frag} (hK : X.K = K) : SlR X (rSlT K) := by
  subst hK
  exact sl_tup
/-! ### [e for x in xs for y in ys]: the two loops -/
theorem in_it {J : It} {n : Nat} {G : Hp → Prop} {Y : Nat → Hp → V → Hp → Prop} (w : Walk J n G Y) {g : TG} {tt : TT} {te : TE} {vs : List Nat} {σ : L2.St} {H0 : Hp} {D : Addr} {N : Hp → Prop} (P : Nat → Hp → Prop) (h0 : P 0 H0) (hG : ∀ j H, j ≤ n → P j H → G H)
    (hs : ∀ j x H H', j < n → P j H → Y j H x H' → g x (wipe σ vs) H' fun σ3 H5 => wipe σ3 vs = wipe σ vs ∧ tt σ3 H5 fun b H6 => if b = true then te σ3 H6 fun y H7 => ∃ acc, H7 D = some (.lst acc) ∧ acc.length < sizeLine ∧ P (j + 1) (upd H7 D (.lst (acc ++ [y]))) else P (j + 1) H6)
    (hd : ∀ H, P n H → N H) :
    ∃ W : Nat → Nat → Hp → Prop, (∃ m, W 0 m H0) ∧ ∀ j k H, W j k H → (J.stop j H ∧ N H) ∨ (J.go j H ∧ ∃ Nx : Hp → Prop, (∀ H', Nx H' → ∃ k', k' < k ∧ W (j + 1) k' H') ∧ ∀ x H', J.yld j H x H' → g x (wipe σ vs) H' fun σ3 H5 => wipe σ3 vs = wipe σ vs ∧ tt σ3 H5 fun b H6 => if b = true then te σ3 H6 fun y H7 => ∃ acc, H7 D = some (.lst acc) ∧ acc.length < sizeLine ∧ Nx (upd H7 D (.lst (acc ++ [y]))) else Nx H6) := by
  refine ⟨fun j k H => k = n - j ∧ j ≤ n ∧ P j H, ⟨n - 0, rfl, Nat.zero_le n, h0⟩, fun j k H z => ?_⟩
  obtain ⟨ek, hj, p⟩ := z
  have hg := hG j H hj p
  rcases Nat.lt_or_ge j n with lt | ge
  · exact .inr ⟨w.goes j H lt hg, P (j + 1), fun H' p' => ⟨n - (j + 1), by omega, rfl, lt, p'⟩, fun x H' y => hs j x H H' lt p (w.yields j H x H' lt hg y)⟩
  · have e : n = j := Nat.le_antisymm ge hj
    subst e
    exact .inl ⟨w.stops H hg, hd H p⟩
theorem lc2_it {J : It} {n : Nat} {G : Hp → Prop} {Y : Nat → Hp → V → Hp → Prop} (w : Walk J n G Y) {g g1 : TG} {tt tt1 : TT} {te : TE} {wi1 : TI} {vs vs1 : List Nat} {σ : L2.St} {H1 : Hp} {D : Addr} {Qd : Hp → Prop} (P : Nat → Hp → Prop) (h0 : P 0 (upd H1 D (.lst []))) (hG : ∀ i H, i ≤ n → P i H → G H)
    (hs : ∀ i x H H', i < n → P i H → Y i H x H' → g x (wipe σ vs) H' fun σ2 H2 => wipe σ2 vs = wipe σ vs ∧ tt σ2 H2 fun b H3 => if b = true then wi1 σ2 H3 (fun J1 H4 => ∃ W1 : Nat → Nat → Hp → Prop, (∃ m, W1 0 m H4) ∧ ∀ j k H, W1 j k H → (J1.stop j H ∧ P (i + 1) H) ∨ (J1.go j H ∧ ∃ Nx1 : Hp → Prop, (∀ H', Nx1 H' → ∃ k', k' < k ∧ W1 (j + 1) k' H') ∧ ∀ x H', J1.yld j H x H' → g1 x (wipe σ2 vs1) H' fun σ3 H5 => wipe σ3 vs1 = wipe σ2 vs1 ∧ tt1 σ3 H5 fun b H6 => if b = true then te σ3 H6 fun y H7 => ∃ acc, H7 D = some (.lst acc) ∧ acc.length < sizeLine ∧ Nx1 (upd H7 D (.lst (acc ++ [y]))) else Nx1 H6)) else P (i + 1) H3)
    (hd : ∀ H, P n H → Qd H) :
    ∃ W : Nat → Nat → Hp → Prop, (∃ m, W 0 m (upd H1 D (.lst []))) ∧ ∀ i m H, W i m H → (J.stop i H ∧ Qd H) ∨ (J.go i H ∧ ∃ Nx : Hp → Prop, (∀ H', Nx H' → ∃ m', m' < m ∧ W (i + 1) m' H') ∧ ∀ x H', J.yld i H x H' → g x (wipe σ vs) H' fun σ2 H2 => wipe σ2 vs = wipe σ vs ∧ tt σ2 H2 fun b H3 => if b = true then wi1 σ2 H3 (fun J1 H4 => ∃ W1 : Nat → Nat → Hp → Prop, (∃ m, W1 0 m H4) ∧ ∀ j k H, W1 j k H → (J1.stop j H ∧ Nx H) ∨ (J1.go j H ∧ ∃ Nx1 : Hp → Prop, (∀ H', Nx1 H' → ∃ k', k' < k ∧ W1 (j + 1) k' H') ∧ ∀ x H', J1.yld j H x H' → g1 x (wipe σ2 vs1) H' fun σ3 H5 => wipe σ3 vs1 = wipe σ2 vs1 ∧ tt1 σ3 H5 fun b H6 => if b = true then te σ3 H6 fun y H7 => ∃ acc, H7 D = some (.lst acc) ∧ acc.length < sizeLine ∧ Nx1 (upd H7 D (.lst (acc ++ [y]))) else Nx1 H6)) else Nx H3) := by
  refine ⟨fun i m H => m = n - i ∧ i ≤ n ∧ P i H, ⟨n - 0, rfl, Nat.zero_le n, h0⟩, fun i m H z => ?_⟩
  obtain ⟨em, hi, p⟩ := z
  have hg := hG i H hi p
  rcases Nat.lt_or_ge i n with lt | ge
  · exact .inr ⟨w.goes i H lt hg, P (i + 1), fun H' p' => ⟨n - (i + 1), by omega, rfl, lt, p'⟩, fun x H' y => hs i x H H' lt p (w.yields i H x H' lt hg y)⟩
  · have e : n = i := Nat.le_antisymm ge hi
    subst e
    exact .inl ⟨w.stops H hg, hd H p⟩
/-- no if stands there -/
theorem yes_it {σ : L2.St} {H : Hp} {A B : Hp → Prop} (h : A H) : tYes σ H fun b H' => if b = true then A H' else B H' := by
  show if true = true then A H else B H
  rw [if_pos rfl]
  exact h
theorem i_seq {K : PySem.W.Frag} {H0 H1 : Hp} {v : V} {d : PyData} {R : It → Hp → Prop} {σ : L2.St} {j : Nat} (hv : σ[j]? = some (some v)) (hd : Dp K H0 v d) (hs : isSeq d = true) (s : Same H0 H1)
    (h : ∀ (J : It) (G : Hp → Prop) (xs : List V), DpAll K H0 xs (rows d) → Walk J xs.length G (YAt xs) → (∀ H', Same H0 H' → G H') → R J H1) :
    iOr (iList K (tVar j)) (iTup K (tVar j)) σ H1 R := Or.imp (fun z => ⟨v, hv, z⟩) (fun z => ⟨v, hv, z⟩) (seq_or hd hs s h)
end FvW


namespace Fv
open PySem PySem.Spec PyProof.Rows L2 GenW FvX FvD FvG FvW TL
-- top 33  slots: 0:rules 1:goal 2:sides 3:rule 4:term 5:found 6:side 7:part
abbrev s_all_terms : Stmt := topS 33
abbrev N_all_terms : List Str := ["rules", "goal", "sides", "rule", "term", "found", "side", "part"]
theorem sc_all_terms : FnScope N_all_terms ["rules", "goal"] (defScope s_all_terms) := ⟨rfl, rfl, rfl, by decide +kernel, rfl, by decide +kernel, by decide +kernel⟩

/-! ### all terms -/
def lr : PyData → List PyData
  | .tuple [_, l, r] => [l, r]
  | _ => []
def sidesG : Option (PyData × PyData) → List PyData
  | none => []
  | some (l, r) => [l, r]
def sidesOf (d : PyData) (g : Option (PyData × PyData)) : List PyData := (rows d).flatMap lr ++ sidesG g
def allD (ss : List PyData) : List PyData := onceD (ss.flatMap fun s => onceD (pre s))
def goalV (K : PySem.W.Frag) (H : Hp) (vg : V) (g : Option (PyData × PyData)) : Prop := (g = none ∧ vg = .non) ∨ ∃ l r, g = some (l, r) ∧ Dp K H vg (.tuple [l, r]) ∧ tmB l = true ∧ tmB r = true
def spAll (K : PySem.W.Frag) : Sp := fun vs H Q _ => ∃ (vr : V) (d : PyData) (vg : V) (g : Option (PyData × PyData)), vs = [vr, vg] ∧ Dp K H vr d ∧ isSeq d = true ∧ (rows d).length ≤ 12 ∧ (∀ r ∈ rows d, isRl r = true) ∧ goalV K H vg g ∧ newL K (allD (sidesOf d g)) H Q
theorem tm_tk {d : PyData} (h : tmB d = true) : Tk d := by
  unfold tmB at h
  rw [meas_some, Bool.and_eq_true] at h
  have h1 := of_decide_eq_true h.1
  have h2 := of_decide_eq_true h.2
  have e : ∀ m, 5 ≤ m → lmeas m d = lmeas 5 d := fun m hm => by
    induction hm with
    | refl => rfl
    | step _ ih => rw [lmeas_up _ _ (by rw [ih]; exact h1), ih]
  have e9 := e 9 (by decide)
  exact ⟨by omega, by omega, gd_le (gd_lmeas 5 d h1 (by omega)) (by decide)⟩
theorem lr_len : ∀ (l : List PyData), (l.flatMap lr).length ≤ 2 * l.length
  | [] => by simp
  | y :: l => by
    rw [List.flatMap_cons, List.length_append, List.length_cons]
    have : (lr y).length ≤ 2 := by unfold lr; split <;> simp
    have := lr_len l
    omega
theorem flat_once : ∀ (l : List PyData), (∀ y ∈ l, Tk y) → (l.flatMap fun s => onceD (pre s)).length ≤ 1200 * l.length
  | [], _ => by simp
  | y :: l, h => by
    rw [List.flatMap_cons, List.length_append, List.length_cons]
    have a : (onceD (pre y)).length ≤ 1200 := Nat.le_trans (once_len _) (pre_small (h y List.mem_cons_self))
    have b := flat_once l fun z hz => h z (List.mem_cons_of_mem _ hz)
    omega
section
variable {P : Program} {w : World} {K : PySem.W.Frag} {mg : Str → Option Value} {base : Heap} {CT : Addr}
theorem ok_all {f : Addr} {fd : FuncData} {k : Nat} (F : Fun K "all_terms" "all_terms" s_all_terms f fd) (m_list : mg "list" = none) (C_subterms : OwnR P w K mg base k "subterms" (spLg K CT (gSubt K))) :
    FnOk P w K mg base CX0 (k + 1) f fd ["rules", "goal"] (spAll K) := by
  refine F.ok sc_all_terms (fun vs H Q E h => ?_) (fun cdv A outer s H vs Q E hr h => ?_)
  · obtain ⟨vr, d, vg, g, rfl, _⟩ := h
    rfl
  · obtain ⟨vr, d, vg, g, rfl, hd, hq, hlen, hrl, hgv, good⟩ := h
    refine ⟨_, (pss_cons (ps_setLc2 (i := 2) (own := [("rule", 3), ("term", 4)]) (vs1 := [4]) (g := gName 3) (g1 := gName 4) (by rfl) sc_all_terms.nd rfl rfl (sw_true rfl rfl rfl (by decide +kernel)) (FvW.pi_or (pi_list (pv 0)) (pi_tup (pv 0))) (blkOk_by (own := [("rule", 3), ("term", 4)]) (N := N_all_terms) (sc := defScope s_all_terms) (by decide +kernel)) (by decide) (fun _ _ _ _ _ => pg_name (i := 3) sc_all_terms.nd rfl (Or.inl rfl)) (fun _ _ _ _ _ => pts_nil) (fun _ _ _ _ _ => FvW.pi_tupK (K := K) rfl (pe_slice (FvW.sl_tupK (K := K) rfl) (pv 3) (po_some pe_int) po_none)) (fun _ _ _ _ _ => pg_name (i := 4) sc_all_terms.nd rfl (Or.inl rfl)) (fun _ _ _ _ _ => pts_nil) (fun _ _ _ _ _ => pv 4))
      (C8.pss_cut (ps_if (pt_cmpR op_notN (pv 1) pe_non (nomark _))
        (pss_one (ps_expr (pe_bm PySem.F.plainAttrs_list PySem.F.slot_list_extend PySem.F.type_list_extend mt_extendT (pv 2) (pa_cons (pv 1) pa_nil))))
        pss_nil)
      (pss_cons (ps_set (i := 5) sc_all_terms.nd rfl (by first | exact .inl rfl | exact .inr rfl) (pe_dnewN))
      (pss_cons (ps_for PassesOwn.never rfl (pi_list (pv 2)) (pg_name (i := 6) sc_all_terms.nd rfl (by first | exact .inl rfl | exact .inr rfl))
        (pss_one (ps_for PassesOwn.never rfl (pi_list (pe_ownR C_subterms (hr.mono (by omega)) (by rfl) passE0 (pa_cons (pv 6) pa_nil))) (pg_name (i := 7) sc_all_terms.nd rfl (by first | exact .inl rfl | exact .inr rfl))
          (pss_one (ps_dputN (Nat.lt_of_le_of_lt (Nat.add_le_add_left (by decide : 9 ≤ 65) _) (hu65 hr)) (pv 5) (pv 7) pe_bl rfl)))))
      (pss_one (ps_ret (pe_callTy (call_listN rfl) (by rfl) m_list (by decide +kernel) (pa_cons (pv 5) pa_nil)))))))), ?_⟩
    refine i_seq rfl hd hq (Same.refl H) fun J G xs hxs hW hG D nD => lc2_it hW (fun i H2 => Same H H2 ∧ ∃ acc, H2 D = some (.lst acc) ∧ DpAll K H acc (((rows d).take i).flatMap lr)) ?_ ?_ ?_ ?_
    · exact ⟨same_upd nD, [], upd_same, .nil⟩
    · exact fun i H2 _ z => hG H2 z.1
    · rintro i x H2 H3 hi ⟨sm, acc, hD, ha⟩ ⟨rfl, hx⟩
      obtain ⟨r, hr1, hDr⟩ := dpAll_get hxs hx
      have mr : r ∈ rows d := List.mem_of_getElem? hr1
      obtain ⟨n, l, r2, rfl, _, tl, tr⟩ := isRl_inv (hrl r mr)
      obtain ⟨b, x0, x1, x2, rfl, hsb, h1, h2⟩ : ∃ b x0 x1 x2, x = .ref b ∧ SqT K H b [x0, x1, x2] ∧ Dp K H x1 l ∧ Dp K H x2 r2 := by
        cases hDr with
        | tup hs ha =>
          cases ha with
          | cons h0 ha => cases ha with
            | cons h1 ha => cases ha with
              | cons h2 ha => cases ha; exact ⟨_, _, _, _, rfl, hs, h1, h2⟩
      have elr : lr (.tuple [.str n, l, r2]) = [l, r2] := rfl
      have est : ((rows d).take (i + 1)).flatMap lr = ((rows d).take i).flatMap lr ++ [l, r2] := by
        rw [List.take_add_one, hr1, List.flatMap_append]
        simp [elr]
      have la : acc.length ≤ 24 := by
        have e := dpAll_len ha
        have := lr_len ((rows d).take i)
        rw [List.length_take] at this
        omega
      have ex : cutV [x0, x1, x2] (some 1) none = [x1, x2] := by rw [cut_drop1]; rfl
      refine ⟨rfl, yes_it ?_⟩
      refine ⟨_, rfl, 1, rfl, b, _, rfl, same_seqT sm hsb, ?_, fun p np => ?_⟩
      · rw [show HT.sIx [x0, x1, x2].length 0 (some 1) = min 1 [x0, x1, x2].length from HT.sIx_nat _ 0 1]
        simp
      rw [ex] at *
      have sp := same_upd (o := .tup [x1, x2]) np
      have pD : p ≠ D := fun z => by rw [z, hD] at np; cases np
      refine ⟨p, rfl, ⟨_, SqT.of upd_same⟩, in_it (walk_tup (xs := [x1, x2])) (fun j H4 => Same H H4 ∧ H4 p = some (.tup [x1, x2]) ∧ ∃ acc', H4 D = some (.lst acc') ∧ acc'.length = acc.length + j ∧ DpAll K H acc' (((rows d).take i).flatMap lr ++ [l, r2].take j)) ?_ ?_ ?_ ?_⟩
      · exact ⟨sm.trans sp, upd_same, acc, sp _ _ hD, rfl, by simpa using ha⟩
      · exact fun j H4 _ z => SqT.of z.2.1
      · rintro j y H4 H5 hj ⟨sm4, hp4, acc', hD4, le, ha4⟩ ⟨rfl, hy⟩
        have hj2 : j < 2 := hj
        refine ⟨rfl, yes_it ?_⟩
        refine ⟨_, rfl, acc', hD4, small1000 (by omega), fun c o e => ?_, ?_, acc' ++ [y], upd_same, ?_, ?_⟩
        · rw [upd_ne (ne_of_none e nD)]
          exact sm4 _ _ e
        · rw [upd_ne pD]; exact hp4
        · rw [List.length_append, le]; rfl
        · match j, hj2, hy with
          | 0, _, hy =>
            cases hy
            exact dpAll_app (by simpa using ha4) (.cons h1 .nil)
          | 1, _, hy =>
            cases hy
            have z := dpAll_app ha4 (DpAll.cons h2 .nil)
            rw [List.append_assoc] at z
            exact z
      · rintro H4 ⟨sm4, _, acc', hD4, _, ha4⟩
        refine ⟨sm4, acc', hD4, ?_⟩
        rw [est]
        exact ha4
    · rintro H2 ⟨sm2, acc, hD2, ha2⟩
      have lx := dpAll_len hxs
      rw [lx, List.take_length] at ha2
      refine ⟨fun σ' H' => ∃ vals, σ' = [some vr, some vg, some (.ref D), none, none, none, none, none] ∧ Same H H' ∧ H' D = some (.lst vals) ∧ DpAll K H vals (sidesOf d g), ?_, ?_⟩
      · have la2 : acc.length ≤ 24 := by
          have e := dpAll_len ha2
          have := lr_len (rows d)
          omega
        rcases hgv with ⟨rfl, rfl⟩ | ⟨l, r, rfl, hdg, tl, tr⟩
        · refine ⟨_, rfl, rfl, _, rfl, iteF ⟨acc, rfl, sm2, hD2, ?_⟩⟩
          unfold sidesOf sidesG
          rw [List.append_nil]
          exact ha2
        · obtain ⟨b, x1, x2, rfl, hsb, h1, h2⟩ : ∃ b x1 x2, vg = .ref b ∧ SqT K H b [x1, x2] ∧ Dp K H x1 l ∧ Dp K H x2 r := by
            cases hdg with
            | tup hs ha =>
              cases ha with
              | cons h1 ha => cases ha with
                | cons h2 ha => cases ha; exact ⟨_, _, _, rfl, hs, h1, h2⟩
          refine ⟨_, rfl, rfl, _, rfl, iteT ⟨_, rfl, .inl ⟨rfl, _, SqL.of hD2⟩, _, rfl, D, b, acc, [x1, x2], rfl, rfl, hD2, same_seqT sm2 hsb, ?_, acc ++ [x1, x2], rfl, fun c o e => ?_, upd_same, dpAll_app ha2 (.cons h1 (.cons h2 .nil))⟩⟩
          · exact Nat.le_trans (show acc.length + 2 ≤ 26 by omega) (by rw [sizeLine_eq]; decide)
          · rw [upd_ne (ne_of_none e nD)]
            exact sm2 _ _ e
      · rintro σ' H3 ⟨vals, rfl, sm3, hD3, hv3⟩
        intro da nda
        have nda0 : H da = none := none_back sm3 nda
        have Dda : D ≠ da := fun z => by rw [← z, hD3] at nda; cases nda
        have s4 := same_upd (o := NdO w da []) nda
        have lv := dpAll_len hv3
        have tks : ∀ x ∈ sidesOf d g, Tk x := fun x hx => by
          rcases List.mem_append.mp hx with z | z
          · obtain ⟨r, hr1, hx1⟩ := List.mem_flatMap.mp z
            obtain ⟨n, l, r2, rfl, _, tl, tr⟩ := isRl_inv (hrl r hr1)
            have hx2 : x ∈ [l, r2] := hx1
            simp only [List.mem_cons, List.not_mem_nil, or_false] at hx2
            rcases hx2 with rfl | rfl
            · exact tm_tk tl
            · exact tm_tk tr
          · rcases hgv with ⟨rfl, _⟩ | ⟨l, r, rfl, _, tl, tr⟩
            · cases z
            · have z' : x ∈ [l, r] := z
              simp only [List.mem_cons, List.not_mem_nil, or_false] at z'
              rcases z' with rfl | rfl
              · exact tm_tk tl
              · exact tm_tk tr
        have lss : (sidesOf d g).length ≤ 26 := by
          unfold sidesOf
          rw [List.length_append]
          have := lr_len (rows d)
          have : (sidesG g).length ≤ 2 := by unfold sidesG; split <;> simp
          omega
        generalize sidesOf d g = ss at *
        refine ⟨_, rfl, D, rfl, ⟨_, SqL.of (s4 _ _ hD3)⟩, for_list (xs := vals) (fun i σ H5 => ∃ (y6 y7 : Option V) (kvs : List NKV), σ = [some vr, some vg, some (.ref D), none, none, some (.ref da), y6, y7] ∧ Same H H5 ∧ H5 D = some (.lst vals) ∧ H5 da = some (NdO w da kvs) ∧ KyOk K H5 kvs ∧ kvs.map (·.1) = onceD ((ss.take i).flatMap fun s => onceD (pre s))) ?_ ?_ ?_ ?_⟩
        · exact ⟨none, none, [], rfl, sm3.trans s4, s4 _ _ hD3, upd_same, (fun p hp => nomatch hp), rfl⟩
        · rintro i σ H5 _ ⟨y6, y7, kvs, rfl, sm5, hD5, _⟩
          exact SqL.of hD5
        · rintro i x σ H5 hx ⟨y6, y7, kvs, rfl, sm5, hD5, hda5, hk5, hk6⟩
          obtain ⟨sd, hsd, hDs⟩ := dpAll_get hv3 hx
          have tk := tks sd (List.mem_of_getElem? hsd)
          have ms9 : (meas 9 sd 600).isSome = true := by
            rw [meas_some, decide_eq_true tk.one, decide_eq_true tk.top]
            rfl
          have tps : ∀ y ∈ onceD (pre sd), Tk y := fun y hy => Tk.pre tk y (once_sub _ y hy)
          refine ⟨_, rfl, x, sd, rfl, dp_same sm5 _ _ hDs, tk.gd, fun _ H6 p vs s6 np hp hv => ?_, fun e => by rw [e] at ms9; cases ms9⟩
          have lvs := dpAll_len hv
          have Dp1 : D ≠ p := fun z => by rw [← z, hD5] at np; cases np
          have dap : da ≠ p := fun z => by rw [← z, hda5] at np; cases np
          have hda6 := s6 _ _ hda5
          have hk60 := ky_stay (Stay.same s6) hk5
          refine ⟨p, rfl, ⟨_, SqL.of hp⟩, for_list (xs := vs) (fun j σ H7 => ∃ (y7 : Option V) (kvs : List NKV), σ = [some vr, some vg, some (.ref D), none, none, some (.ref da), some x, y7] ∧ Same H H7 ∧ H7 D = some (.lst vals) ∧ H7 p = some (.lst vs) ∧ DpAll K H7 vs (onceD (pre sd)) ∧ H7 da = some (NdO w da kvs) ∧ KyOk K H7 kvs ∧ kvs.map (·.1) = ((onceD (pre sd)).take j).foldl addD (onceD ((ss.take i).flatMap fun s => onceD (pre s)))) ?_ ?_ ?_ ?_⟩
          · exact ⟨y7, kvs, rfl, sm5.trans s6, s6 _ _ hD5, hp, hv, hda6, hk60, hk6⟩
          · rintro j σ H7 _ ⟨y7, kvs, rfl, _, _, hp7, _⟩
            exact SqL.of hp7
          · rintro j y σ H7 hy ⟨y7, kvs, rfl, sm7, hD7, hp7, hv7, hda7, hk7, hk8⟩
            obtain ⟨e, he, hDe⟩ := dpAll_get hv7 hy
            have te := tps e (List.mem_of_getElem? he)
            have lk : kvs.length ≤ 33000 := by
              have z1 := congrArg List.length hk8
              rw [List.length_map] at z1
              have z2 : ((onceD (pre sd)).take j).foldl addD (onceD ((ss.take i).flatMap fun s => onceD (pre s))) = onceD (((ss.take i).flatMap fun s => onceD (pre s)) ++ (onceD (pre sd)).take j) := by
                unfold onceD
                rw [List.foldl_append]
              rw [z2] at z1
              have z3 := once_len (((ss.take i).flatMap fun s => onceD (pre s)) ++ (onceD (pre sd)).take j)
              rw [List.length_append, List.length_take] at z3
              have z4 : (onceD (pre sd)).length ≤ 1200 := Nat.le_trans (once_len _) (pre_small tk)
              have z5 := flat_once (ss.take i) fun y hy => tks y (List.mem_of_mem_take hy)
              rw [List.length_take] at z5
              omega
            have st : Stay H7 (upd H7 da (NdO w da (putN kvs e y (.bl true)))) := Stay.put ⟨fun xs z => (by rw [hda7] at z; cases z), fun u v z => (by rw [hda7] at z; cases z)⟩
            refine ⟨_, rfl, _, rfl, da, kvs, e, rfl, hda7, hk7, te.kd, hDe, Nat.lt_of_le_of_lt lk (by rw [sizeLine_eq]; decide), ?_⟩
            refine ⟨some y, putN kvs e y (.bl true), rfl, fun c o ec => ?_, by rw [upd_ne Dda]; exact hD7, by rw [upd_ne dap.symm]; exact hp7, tkAll_stay st tps hv7, upd_same, ky_stay st (put_ok hk7 te.kd hDe), ?_⟩
            · rw [upd_ne (ne_of_none ec nda0)]
              exact sm7 _ _ ec
            · rw [put_keys, hk8, List.take_add_one, he, List.foldl_append]
              rfl
          · rintro σ H7 ⟨y7, kvs, rfl, sm7, hD7, hp7, hv7, hda7, hk7, hk8⟩
            have et : (onceD (pre sd)).take vs.length = onceD (pre sd) := List.take_of_length_le (by omega)
            rw [et] at hk8
            refine ⟨some x, y7, kvs, rfl, sm7, hD7, hda7, hk7, ?_⟩
            rw [hk8, List.take_add_one, hsd, List.flatMap_append]
            show _ = ((_ ++ _ : List PyData)).foldl addD []
            rw [List.foldl_append]
            simp [onceD]
        · rintro σ H5 ⟨y6, y7, kvs, rfl, sm5, hD5, hda5, hk5, hk6⟩
          rw [List.take_of_length_le (by omega)] at hk6
          refine ⟨_, rfl, da, kvs, rfl, hda5, fun p np => ?_⟩
          have sp := same_upd (o := .lst (kvs.map fun kv => kv.2.1)) np
          have z := ky_all hk5
          rw [hk6] at z
          exact good _ p _ (sm5.trans sp) (none_back sm5 np) upd_same (dpAll_same sp _ _ z)
end
end Fv


namespace Fv
open PySem PySem.Spec PyProof.Rows L2 GenW FvX FvD FvG FvW TL
-- top 31  slots: 0:rules 1:goal 2:count
abbrev s_check_rules : Stmt := topS 31
abbrev N_check_rules : List Str := ["rules", "goal", "count"]
theorem sc_check_rules : FnScope N_check_rules ["rules", "goal"] (defScope s_check_rules) := ⟨rfl, rfl, rfl, by decide +kernel, rfl, by decide +kernel, by decide +kernel⟩

/-! ### rules and a goal -/
def goalOf : PyData → Option (PyData × PyData)
  | .tuple [l, r] => some (l, r)
  | _ => none
def cnt (d dg : PyData) : Nat := (allD (sidesOf d (goalOf dg))).length
def isN : PyData → Bool
  | .none => true
  | _ => false
/-- what check_rules asks -/
structure ChQ (CR CG CM : Addr) (d dg : PyData) (H : Hp) (Q : VK) (E : XK) : Prop where
  rl : ∀ i, rErr d = some i → errF CR "InvalidRules" "index" (.int i) H E
  gl : rErr d = none → isN dg = false → isGl dg = false → errAt CG "InvalidGoal" H E
  tm : rErr d = none → (isN dg = true ∨ isGl dg = true) → 24 < cnt d dg → errF CM "TooManyTerms" "count" (.int (cnt d dg : Nat)) H E
  ok : rErr d = none → (isN dg = true ∨ isGl dg = true) → cnt d dg ≤ 24 → ∀ H', Same H H' → Q .non H'
theorem ChQ.mono {CR CG CM : Addr} {d dg : PyData} {H H1 : Hp} {Q : VK} {E : XK} (h : ChQ CR CG CM d dg H Q E) (s : Same H H1) : ChQ CR CG CM d dg H1 Q E :=
  ⟨fun i e => (h.rl i e).mono s, fun a b c => (h.gl a b c).mono s, fun a b c => (h.tm a b c).mono s, fun a b c H' s' => h.ok a b c H' (s.trans s')⟩
def spCheck (K : PySem.W.Frag) (CR CG CM : Addr) : Sp := fun vs H Q E => ∃ (vr vg : V) (d dg : PyData), vs = [vr, vg] ∧ Dp K H vr d ∧ gd 20 d = true ∧ Dp K H vg dg ∧ gd 20 dg = true ∧ ChQ CR CG CM d dg H Q E
theorem rErr_none {d : PyData} (h : rErr d = none) : isSeq d = true ∧ (rows d).length ≤ 12 ∧ badAt [] 0 (rows d) = none := by
  unfold rErr at h
  split at h
  · rename_i hq
    split at h
    · rename_i hl
      exact ⟨hq, hl, Option.map_eq_none_iff.mp h⟩
    · cases h
  · cases h
theorem bad_none : ∀ (ns : List Str) (i : Nat) (rs : List PyData), badAt ns i rs = none → ∀ r ∈ rs, isRl r = true
  | _, _, [], _ => fun r hr => nomatch hr
  | ns, i, x :: rs, h => by
    unfold badAt at h
    split at h
    · rename_i ok
      intro r hr
      rcases List.mem_cons.mp hr with z | z
      · rw [z]
        exact (Bool.and_eq_true_iff.mp ok).1
      · exact bad_none _ _ rs h r z
    · cases h
theorem isGl_inv {d : PyData} (h : isGl d = true) : ∃ l r, d = .tuple [l, r] ∧ tmB l = true ∧ tmB r = true := by
  unfold isGl at h
  split at h
  · rename_i l r
    have z := Bool.and_eq_true_iff.mp h
    exact ⟨l, r, rfl, z.1, z.2⟩
  · cases h
theorem dp_non {K : PySem.W.Frag} {H : Hp} {v : V} {d : PyData} (h : Dp K H v d) : decide (v = .non) = isN d := by
  cases h <;> rfl
theorem sides_tk {d : PyData} {g : Option (PyData × PyData)} (hrl : ∀ r ∈ rows d, isRl r = true) (hg : ∀ l r, g = some (l, r) → tmB l = true ∧ tmB r = true) : ∀ x ∈ sidesOf d g, Tk x := fun x hx => by
  rcases List.mem_append.mp hx with z | z
  · obtain ⟨r, hr1, hx1⟩ := List.mem_flatMap.mp z
    obtain ⟨n, l, r2, rfl, _, tl, tr⟩ := isRl_inv (hrl r hr1)
    have hx2 : x ∈ [l, r2] := hx1
    simp only [List.mem_cons, List.not_mem_nil, or_false] at hx2
    rcases hx2 with rfl | rfl
    · exact tm_tk tl
    · exact tm_tk tr
  · cases g with
    | none => cases z
    | some p =>
      have h := hg p.1 p.2 rfl
      have z' : x ∈ [p.1, p.2] := z
      simp only [List.mem_cons, List.not_mem_nil, or_false] at z'
      rcases z' with rfl | rfl
      · exact tm_tk h.1
      · exact tm_tk h.2
theorem sides_len (d : PyData) (g : Option (PyData × PyData)) : (sidesOf d g).length ≤ 2 * (rows d).length + 2 := by
  unfold sidesOf
  rw [List.length_append]
  have := lr_len (rows d)
  have : (sidesG g).length ≤ 2 := by unfold sidesG; split <;> simp
  omega
theorem cnt_small {d dg : PyData} (hl : (rows d).length ≤ 12) (hrl : ∀ r ∈ rows d, isRl r = true) (hx : isN dg = true ∨ isGl dg = true) : cnt d dg ≤ 31200 := by
  have tg : ∀ l r, goalOf dg = some (l, r) → tmB l = true ∧ tmB r = true := fun l r e => by
    rcases hx with hx | hx
    · cases dg with
      | none => cases e
      | _ => cases hx
    · obtain ⟨l', r', rfl, tl, tr⟩ := isGl_inv hx
      have e' : some (l', r') = some (l, r) := e
      cases e'
      exact ⟨tl, tr⟩
  have a := flat_once _ (sides_tk hrl tg)
  have b := sides_len d (goalOf dg)
  have c' := once_len ((sidesOf d (goalOf dg)).flatMap fun s => onceD (pre s))
  have e : cnt d dg = (onceD ((sidesOf d (goalOf dg)).flatMap fun s => onceD (pre s))).length := rfl
  omega
section
variable {P : Program} {w : World} {K : PySem.W.Frag} {mg : Str → Option Value} {base : Heap}
theorem ok_check {f CR CG CM fG fM : Addr} {fd : FuncData} {k : Nat} {qualG msgG qualM : Str} {qG : ErrPos} {jG1 jG2 jM : Nat} {qM : ErrPos1} {me : Expr} {t24 : Tok} (F : FunD K "check_rules" "check_rules" (defArgs s_check_rules) (defBody s_check_rules) (defScope s_check_rules) [.non] [] f fd) (hk : 1 ≤ k)
    (T_IG : ErrC P.main.file K CG fG qualG qG msgG "InvalidGoal" jG1 jG2) (hlineG : LineOk qG msgG jG1) (g_IG : mg "InvalidGoal" = some (.ref CG))
    (T_TM : ErrC1 P.main.file K CM fM qualM qM me "TooManyTerms" "count" jM) (hline : LineOk1 qM me) (hargs : ArgsOk me) (hme : ∀ u, MsgV u → MsgOk me "count" u) (g_TM : mg "TooManyTerms" = some (.ref CM))
    (htop : (P.main.scope.names.lookup ("super" : Str)).isSome = false) (m_super : mg "super" = none) (m_len : mg "len" = none) (g_MAX_TERMS : mg "MAX_TERMS" = some (.int 24 t24))
    (C_check_single_rules : OwnR P w K mg base k "check_single_rules" (spSingle K CR)) (C_is_goal : Own P w K mg base k "is_goal" ["value"] (spIsGoal K)) (C_all_terms : Own P w K mg base k "all_terms" ["rules", "goal"] (spAll K)) :
    FnOk P w K mg base (L2.CX P w) (k + 1) f fd ["rules", "goal"] (spCheck K CR CG CM) := by
  refine F.ok sc_check_rules (fun vs H Q E h => ?_) (fun cdv A outer s H vs Q E hr h => ?_)
  · obtain ⟨vr, vg, d, dg, rfl, _⟩ := h
    rfl
  · obtain ⟨vr, vg, d, dg, rfl, hd, hg, hdg, hgg, c⟩ := h
    refine ⟨_, (pss_cons (ps_expr (pe_ownR C_check_single_rules (hr.mono (by omega)) (by rfl) passX (pa_cons (pv 0) pa_nil)))
      (C8.pss_cut (ps_if (PW.pt (pw_and (pt_cmpR op_notN (pv 1) pe_non (nomark _)) (pw_and1 (pt_not (pt_val (pe_own C_is_goal (hr.mono (by omega)) (by rfl) (pa_cons (pv 1) pa_nil)))))))
        (pss_one (ps_raise rfl (takes_of rfl rfl rfl rfl) (pmk_err0 (k := 0) T_IG hlineG htop m_super (hr.mono (by omega)) (by rfl) g_IG)))
        pss_nil)
      (pss_cons (ps_set (i := 2) sc_check_rules.nd rfl (by first | exact .inl rfl | exact .inr rfl) (pe_callB call_len_seq (by rfl) m_len (by decide +kernel) (pa_cons (pe_own C_all_terms (hr.mono (by omega)) (by rfl) (pa_cons (pv 0) (pa_cons (pv 1) pa_nil))) pa_nil)))
      (pss_one (ps_if (pt_cmpR op_gt (pv 2) (pe_glob (v := .int 24) (by rfl) g_MAX_TERMS (⟨_, rfl⟩)) (nomark _))
        (pss_one (ps_raise rfl (takes_of rfl rfl rfl rfl) (pmk_err1 (k := 0) (by decide +kernel) T_TM hline hargs hme htop m_super (hr.mono (by omega)) (by rfl) g_TM (pa_cons (pv 2) pa_nil))))
        pss_nil))))), ?_⟩
    refine ⟨_, rfl, vr, d, rfl, hd, hg, fun e H1 s1 => ?_, c.rl⟩
    obtain ⟨hq, hl, hb⟩ := rErr_none e
    have hrl := bad_none _ _ _ hb
    have hdg1 := dp_same s1 _ _ hdg
    have hN := dp_non hdg1
    refine ⟨fun σ' H' => σ' = [some vr, some vg, none] ∧ Same H H' ∧ (isN dg = true ∨ isGl dg = true), ?_, ?_⟩
    · refine ⟨_, rfl, rfl, _, rfl, ?_⟩
      rw [hN]
      cases hn : isN dg with
      | true => exact iteF (iteF ⟨rfl, s1, .inl rfl⟩)
      | false =>
        refine iteT ⟨_, rfl, vg, dg, rfl, hdg1, hgg, fun H2 s2 => ⟨_, rfl, ?_⟩⟩
        show if (!isGl dg) = true then _ else _
        cases hgl : isGl dg with
        | true => exact iteF ⟨rfl, s1.trans s2, .inr rfl⟩
        | false => exact iteT fun dd nd => c.gl e hn hgl _ dd ((s1.trans s2).trans (same_upd nd)) upd_same
    · rintro σ' H2 ⟨rfl, s2, hx⟩
      have hgv : goalV K H2 vg (goalOf dg) := by
        rcases hx with hx | hx
        · cases dg <;> first | cases hx | skip
          cases hdg
          exact .inl ⟨rfl, rfl⟩
        · obtain ⟨l, r, rfl, tl, tr⟩ := isGl_inv hx
          exact .inr ⟨l, r, rfl, dp_same s2 _ _ hdg, tl, tr⟩
      refine ⟨_, rfl, _, rfl, vr, d, vg, goalOf dg, rfl, dp_same s2 _ _ hd, hq, hl, hrl, hgv, fun H3 p vs s3 np hp hv => ?_⟩
      have lv : vs.length = cnt d dg := dpAll_len hv
      refine ⟨p, vs, rfl, .inl (SqL.of hp), ?_⟩
      rw [lv]
      refine ⟨_, rfl, _, _, rfl, rfl, _, rfl, ?_⟩
      have s23 := s2.trans s3
      rcases Nat.lt_or_ge 24 (cnt d dg) with lt | ge
      · rw [decide_eq_true (by omega : (24 : Int) < ((cnt d dg : Nat) : Int))]
        refine iteT ⟨_, rfl, _, rfl, .inr ⟨_, rfl, ?_⟩, fun dd nd => ?_⟩
        · have z := cnt_small hl hrl hx
          rw [show ((cnt d dg : Nat) : Int).natAbs = cnt d dg from Int.natAbs_natCast _]
          exact Nat.lt_trans ((Nat.log2_lt (by omega)).mpr (show cnt d dg < 2 ^ 15 by omega)) (by decide)
        · exact c.tm e hx lt _ dd (s23.trans (same_upd nd)) upd_same
      · rw [decide_eq_false (by omega : ¬ (24 : Int) < ((cnt d dg : Nat) : Int))]
        exact iteF (c.ok e hx ge H3 s23)
end
end Fv


set_option maxHeartbeats 4000000
namespace FvW
open PySem PySem.Spec PyProof.Rows L2 SrtO
/-! ### sorted of a dict whose keys are texts, any number of them -/
def ltT (v u : Value) : Bool := decide ((PyProof.Rows.strOf v).cps.toList < (PyProof.Rows.strOf u).cps.toList)
theorem swo_txt : Swo ltT where
  asym := fun x y h => decide_eq_false fun z => List.lt_irrefl _ (List.lt_trans (of_decide_eq_true h) z)
  tr := fun x y z h1 h2 => by
    have a := of_decide_eq_false h1
    have b := of_decide_eq_false h2
    exact decide_eq_false (List.not_lt.mpr (List.le_trans (List.not_lt.mp a) (List.not_lt.mp b)))
section
variable {prog : Program} {w : World} {A : Around} {s : Shared}
theorem txt_cmp {vs : List Value} {ss : List Str} (hS : StrsAre vs ss) : SrtO.Cmp prog w A s oneType' (fun p => p.1 ∈ vs) (lt2 ltT) := by
  intro p q hp hq
  obtain ⟨x, t, e1⟩ := hS.all _ hp
  obtain ⟨y, u, e2⟩ := hS.all _ hq
  show wpAny (model prog w) A (keyLt' oneType' p.1 q.1) (fun r s1 => s1 = s ∧ r = ltT p.1 q.1) (fun _ _ => False) s
  rw [e1, e2, keyLt'_oneType]
  exact oneLt_str (And.intro rfl rfl)
theorem txt_sortable {a : Addr} {vs : List Value} {ss : List Str} (hS : StrsAre vs ss) (h2 : 2 ≤ vs.length) : SortableO prog w A s a vs ltT := fun h1 _ =>
  ⟨oneType', fun Q E hq => by
    match vs, hS, h2 with
    | v1 :: v2 :: rest, hS, _ =>
      rw [keyKind_strs hS]
      exact wpAny_pure hq
    | [], _, h => exact absurd h (by decide)
    | [v], _, h => exact absurd h (by simp), txt_cmp hS⟩
end
theorem txt_out {vs out : List Value} {ss : List Str} (hS : StrsAre vs ss) (hs : Srtd ltT out) (hb : Stb ltT out vs) : StrsAre out (out.map PyProof.Rows.strOf) ∧ (out.map PyProof.Rows.strOf).Perm ss ∧ sortedS (out.map PyProof.Rows.strOf) = true := by
  refine ⟨strsAre_map out fun v hv => hS.all _ (hb.perm.mem_iff.mp hv), ?_, ?_⟩
  · have q := hb.perm.map PyProof.Rows.strOf
    rw [hS.strs] at q
    exact q
  · refine sortedS_of_pairwise _ (List.pairwise_map.mpr (hs.imp fun {x y} h => ?_))
    rw [ltCps_eq]
    exact h
/-- sorted(d), the keys texts -/
def rSortDA : List V → Hp → VK → Prop := fun xs H Q => ∃ (a : Addr) (kvs : List (Key × V)) (ks : List Str), xs = [.ref a] ∧ Rd H a (.dK kvs) ∧ kvs.map (·.1) = ks.map Sum.inr ∧ ks.length ≤ sizeLine ∧ ∀ ys p, ys.Perm ks → sortedS ys = true → H p = none → Q (.ref p) (upd H p (.lst (ys.map V.str)))
theorem call_sortedDA {X : Cx} (hcalm : X.calm = true) : CallR X (.builtin "sorted") rSortDA := by
  intro pins s σ H xs us Q I r z
  obtain ⟨a, kvs, ks, rfl, hd, hks, hz, q⟩ := z
  obtain ⟨u, rfl, rx⟩ := vals1 r
  cases rx
  obtain ⟨_, lo, vs, rel, dd⟩ := dk_rd I.hok hd
  obtain ⟨ep, hat⟩ := dd.dictAt
  have keys : vs.map (·.1) = ks.map Sum.inr := rel.keys.symm.trans hks
  have len : vs.length = ks.length := by simpa using congrArg List.length keys
  refine Calls.call_function_entry kind_sorted plain_sorted entry_sorted (args_sorted1 _) ?_
  unfold Builtin.«sorted»
  refine wpAny_bind (wpAny_pure ?_)
  refine wpAny_bind (PySem.W.kdu_collect (A := X.A.in1) (PySem.W.kdl_dict (knd := mixKind X.prog X.w) (kvs := vs) (ep := ep) lo) (I.ok.hd hcalm) hat (by rw [len]; exact hz) fun h1 tk acc hk hacc => ?_)
  have lacc : acc.toList.length = ks.length := by rw [Array.length_toList, hacc.1, len]
  have hS : StrsAre acc.toList ks := strs_at lacc fun j v e => by
    obtain ⟨k, x, e1, e2⟩ := hacc.2 j v (by rw [← Array.getElem?_toList]; exact e)
    have e3 : (ks.map (Sum.inr : Str → Key))[j]? = some k := by
      rw [← keys, List.getElem?_map, e1]
      rfl
    rw [List.getElem?_map] at e3
    cases e4 : ks[j]? with
    | none => rw [e4] at e3; cases e3
    | some y =>
      rw [e4] at e3
      obtain rfl : Sum.inr y = k := Option.some.inj e3
      obtain ⟨t, ev⟩ := Value.isStrOf_shape (x := y) (v := v) e2
      exact ⟨y, t, rfl, ev⟩
  have I1 : Inv X pins σ H { s with heap := h1, toks := tk } := I.kept hk
  refine wpAny_bind (wpAny_newList ?_ (by rw [lacc]; exact hz))
  have oL : (h1.push (seqObj "list" acc.toList.toArray 0)).get? h1.objs.size = some (seqObj "list" acc.toList.toArray 0) := Heap.get?_push_size _ rfl
  show wpAny _ _ _ _ _ { s with heap := h1.push (seqObj "list" acc.toList.toArray 0), toks := tk }
  refine wpAny_bind (wpAny_holding (wpAny_call_entry slot_list_sort ⟨_, oL, rfl⟩ entry_list_sort
    (list_sort_ord swo_txt (s := { s with heap := h1.push (seqObj "list" acc.toList.toArray 0), toks := tk }) oL (by rw [lacc]; exact hz) (fun h2 => txt_sortable hS h2) fun out g1 g2 => ⟨_, rfl, ?_⟩) (args_list_sort _)))
  obtain ⟨k1, k2, k3⟩ := txt_out hS g1 g2
  obtain ⟨ep1, he1⟩ := sortedHeap_at (vs := acc.toList) (out := out.toArray) oL
  have small : ((out.map PyProof.Rows.strOf).map V.str).length ≤ sizeLine := by
    rw [List.length_map, k2.length_eq]
    exact hz
  refine wpAny_pure ⟨_, rfl, .ref h1.objs.size, upd H h1.objs.size (.lst ((out.map PyProof.Rows.strOf).map V.str)), I1.laid (t' := tk) (fun b o e => ?_) (Nat.le_refl _) (show ObjOk X.prog X.w _ _ _ (.lst _) from ⟨small, out, ep1, vals_of_strs k1, he1⟩), rfl, q _ _ k2 k3 (I1.hok.fresh (Nat.le_refl _))⟩
  have lb : b < h1.objs.size := Heap.lt_size e
  rw [sortedHeap_old (Nat.ne_of_lt lb) (by rw [size_push']; exact Nat.lt_succ_of_lt lb)]
  exact Heap.get?_push_of_some _ e
end FvW


namespace Fv
open PySem PySem.Spec PyProof.Rows L2 FvX
/-! ### dicts from texts to truth values -/
def kvB (ps : List (Str × Bool)) : List (Key × V) := ps.map fun p => (Sum.inr p.1, V.bl p.2)
def csB (ps : List (Str × Bool)) (x : Str) : Option Bool := (ps.find? fun p => decide (p.1 = x)).map (·.2)
theorem putK_new {kvs : List (Key × V)} {k : Key} {v : V} (h : ∀ kv ∈ kvs, kv.1 ≠ k) : putK kvs k v = kvs ++ [(k, v)] := by
  unfold putK
  rw [if_neg]
  intro z
  rw [List.any_eq_true] at z
  obtain ⟨kv, hk, e⟩ := z
  exact h kv hk (of_decide_eq_true e)
theorem merge_app : ∀ (more kvs : List (Key × V)), ((kvs ++ more).map (·.1)).Nodup → mergeK kvs more = kvs ++ more
  | [], kvs, _ => by rw [List.append_nil]; rfl
  | kv :: more, kvs, h => by
    have e : mergeK kvs (kv :: more) = mergeK (putK kvs kv.1 kv.2) more := rfl
    have h' : (((kvs ++ [kv]) ++ more).map (·.1)).Nodup := by rw [List.append_assoc]; exact h
    rw [e, putK_new, merge_app more (kvs ++ [kv]) h', List.append_assoc]
    · rfl
    · intro p hp z
      rw [List.map_append, List.map_cons] at h
      have := (List.nodup_append.mp h).2.2 p.1 (List.mem_map.mpr ⟨p, hp, rfl⟩) kv.1 (List.mem_cons_self ..)
      exact this z
theorem kvB_nodup {ps : List (Str × Bool)} (h : (ps.map (·.1)).Nodup) : ((kvB ps).map (·.1)).Nodup := by
  unfold kvB
  rw [List.map_map]
  have e : ps.map ((fun x : Key × V => x.1) ∘ fun p : Str × Bool => (Sum.inr p.1, V.bl p.2)) = (ps.map (·.1)).map (fun x => (Sum.inr x : Key)) := by
    rw [List.map_map]; rfl
  rw [e]
  exact List.Pairwise.map _ (fun a b hab z => hab (Sum.inr.inj z)) h
theorem merge_kvB {ps : List (Str × Bool)} (h : (ps.map (·.1)).Nodup) : mergeK [] (kvB ps) = kvB ps := by
  rw [merge_app _ _ (by rw [List.nil_append]; exact kvB_nodup h), List.nil_append]
theorem val_kvB : ∀ (ps : List (Str × Bool)) (x : Str), valV (kvB ps) (Sum.inr x) = (csB ps x).map V.bl
  | [], x => rfl
  | p :: ps, x => by
    have ih := val_kvB ps x
    unfold valV csB kvB at ih ⊢
    rw [List.map_cons, List.find?_cons, List.find?_cons]
    by_cases e : p.1 = x
    · rw [show decide ((Sum.inr p.1 : Key) = Sum.inr x) = true from decide_eq_true (congrArg _ e), decide_eq_true e]
      rfl
    · rw [show decide ((Sum.inr p.1 : Key) = Sum.inr x) = false from decide_eq_false (fun z => e (Sum.inr.inj z)), decide_eq_false e]
      exact ih
theorem cs_mem : ∀ {ps : List (Str × Bool)}, (ps.map (·.1)).Nodup → ∀ p ∈ ps, csB ps p.1 = some p.2
  | q :: ps, h, p, hp => by
    rw [List.map_cons, List.nodup_cons] at h
    unfold csB
    rw [List.find?_cons]
    rcases List.mem_cons.mp hp with e | e
    · subst e
      rw [decide_eq_true rfl]
      rfl
    · rw [decide_eq_false (fun z : q.1 = p.1 => h.1 (by rw [z]; exact List.mem_map.mpr ⟨p, e, rfl⟩))]
      exact cs_mem h.2 p e
theorem kvB_all {ps : List (Str × Bool)} (h : (ps.map (·.1)).Nodup) : ∀ p ∈ kvB ps, valV (kvB ps) p.1 = some p.2 ∧ flatB p.2 = true := fun p hp => by
  obtain ⟨q, hq, rfl⟩ := List.mem_map.mp hp
  exact ⟨by rw [val_kvB, cs_mem h q hq]; rfl, rfl⟩
/-! ### pairs that stay -/
theorem paired_smx {M : List Addr} {H H' : Hp} (s : SmX M H H') (hM : ∀ b ∈ M, ∃ xs, H b = some (.lst xs)) : ∀ {ps : List Addr} {kvs : List (Key × V)}, Paired (fun p kv => H p = some (.tup [kV kv.1, kv.2])) ps kvs → Paired (fun p kv => H' p = some (.tup [kV kv.1, kv.2])) ps kvs
  | _, _, .nil => .nil
  | _, _, .cons h t => .cons (s _ _ (fun hb => by
      obtain ⟨xs, e⟩ := hM _ hb
      rw [h] at e
      cases e) h) (paired_smx s hM t)
theorem paired_sqT {K : PySem.W.Frag} {H : Hp} : ∀ {ps : List Addr} {kvs : List (Key × V)}, Paired (fun p kv => H p = some (.tup [kV kv.1, kv.2])) ps kvs → Paired (fun p kv => SqT K H p [kV kv.1, kv.2]) ps kvs
  | _, _, .nil => .nil
  | _, _, .cons h t => .cons (SqT.of h) (paired_sqT t)
theorem paired_len {α β : Type} {F : α → β → Prop} : ∀ {ps : List α} {kvs : List β}, Paired F ps kvs → ps.length = kvs.length
  | _, _, .nil => rfl
  | _, _, .cons _ t => by rw [List.length_cons, List.length_cons, paired_len t]
/-! ### rows of texts -/
theorem lett_strs0 : ∀ {ys : List V}, (∀ y ∈ ys, lett y) → ∃ ss : List Str, ys = ss.map V.str ∧ ∀ x ∈ ss, x ∈ (["a", "b", "c", "d", "e", "f", "g", "h"] : List Str)
  | [], _ => ⟨[], rfl, fun x hx => nomatch hx⟩
  | y :: ys, h => by
    obtain ⟨x, rfl, hx⟩ := lett_data (h y (List.mem_cons_self ..))
    obtain ⟨ss, e, hs⟩ := lett_strs0 fun z hz => h z (List.mem_cons_of_mem _ hz)
    refine ⟨x :: ss, by rw [e]; rfl, fun z hz => ?_⟩
    rcases List.mem_cons.mp hz with q | q
    · rw [q]; exact hx
    · exact hs z q
theorem lett_strs {ys : List V} (h : ∀ y ∈ ys, lett y) (nd : ys.Nodup) : ∃ ss : List Str, ys = ss.map V.str ∧ ss.Nodup ∧ ∀ x ∈ ss, x ∈ (["a", "b", "c", "d", "e", "f", "g", "h"] : List Str) := by
  obtain ⟨ss, e, hs⟩ := lett_strs0 h
  refine ⟨ss, e, ?_, hs⟩
  rw [e] at nd
  exact List.Pairwise.of_map V.str (fun a b hab z => hab (congrArg V.str z)) nd
theorem inV_strs (x : Str) : ∀ ss : List Str, inV (.str x) (ss.map V.str) = decide (x ∈ ss)
  | [] => rfl
  | s :: ss => by
    have ih := inV_strs x ss
    unfold inV at ih ⊢
    rw [List.map_cons, List.any_cons, ih]
    show ((s == x) || decide (x ∈ ss)) = decide (x ∈ s :: ss)
    by_cases e : s = x
    · subst e; simp
    · have e1 : (s == x) = false := beq_eq_false_iff_ne.mpr e
      rw [e1, Bool.false_or]
      simp [List.mem_cons, show ¬ x = s from fun z => e z.symm]
theorem flat_strs (ss : List Str) : (ss.map V.str).all flatV = true := by
  rw [List.all_map]
  exact List.all_eq_true.mpr fun _ _ => rfl
end Fv


namespace Fv
open PySem PySem.Spec PyProof.Rows L2 GenW FvX FvD FvG FvW TL
-- top 52  slots: 0:_law_row 1:_law_texts 2:_law_one 3:_law_text_here
abbrev s_law_by_text : Stmt := topS 52
abbrev N_law_by_text : List Str := ["_law_row", "_law_texts", "_law_one", "_law_text_here"]
theorem sc_law_by_text : FnScope N_law_by_text ["_law_row"] (defScope s_law_by_text) := ⟨rfl, rfl, rfl, by decide +kernel, rfl, by decide +kernel, by decide +kernel⟩

/-! ### each term once, in the order of the texts -/
theorem txt_inj {d e : PyData} (hd : 1 ≤ lmeas 9 d) (he : 1 ≤ lmeas 9 e) (h : txt d = txt e) : d = e := by
  have a := lrT_txt 9 d hd
  rw [h, lrT_txt 9 e he] at a
  exact (Option.some.inj a).symm
section
variable {κ : Type} [DecidableEq κ]
theorem put_mem {kvs : List (κ × V)} {k : κ} {v : V} {R : κ × V → Prop} (h : ∀ p ∈ kvs, R p) (hk : R (k, v)) : ∀ p ∈ putK kvs k v, R p := fun p hp => by
  unfold putK at hp
  split at hp
  · obtain ⟨q, hq, rfl⟩ := List.mem_map.mp hp
    by_cases c : q.1 = k
    · rw [if_pos c, c]; exact hk
    · rw [if_neg c]; exact h q hq
  · rcases List.mem_append.mp hp with z | z
    · exact h p z
    · rw [List.mem_singleton.mp z]; exact hk
theorem put_names (kvs : List (κ × V)) (k : κ) (v : V) : (putK kvs k v).map (·.1) = if k ∈ kvs.map (·.1) then kvs.map (·.1) else kvs.map (·.1) ++ [k] := by
  unfold putK
  have e : ((kvs.any fun kv => decide (kv.1 = k)) = true) ↔ k ∈ kvs.map (·.1) := by
    rw [List.any_eq_true, List.mem_map]
    exact ⟨fun ⟨p, hp, q⟩ => ⟨p, hp, of_decide_eq_true q⟩, fun ⟨p, hp, q⟩ => ⟨p, hp, decide_eq_true q⟩⟩
  by_cases c : k ∈ kvs.map (·.1)
  · rw [if_pos (e.mpr c), if_pos c, List.map_map]
    refine List.map_congr_left fun p _ => ?_
    show (if p.1 = k then (p.1, v) else p).1 = p.1
    split <;> rfl
  · rw [if_neg (fun z => c (e.mp z)), if_neg c, List.map_append]
    rfl
end
theorem merge_ok {R : Key × V → Prop} : ∀ (more kvs : List (Key × V)), (∀ p ∈ kvs, R p) → (∀ p ∈ more, R p) → (kvs.map (·.1)).Nodup → (∀ p ∈ mergeK kvs more, R p) ∧ ((mergeK kvs more).map (·.1)).Nodup ∧ ∀ k, k ∈ (mergeK kvs more).map (·.1) ↔ k ∈ kvs.map (·.1) ∨ k ∈ more.map (·.1)
  | [], kvs, h, _, nd => ⟨h, nd, fun k => by simp [mergeK]⟩
  | p :: more, kvs, h, hm, nd => by
    have nd' : ((putK kvs p.1 p.2).map (·.1)).Nodup := by
      rw [put_names]
      split
      · exact nd
      · rename_i c
        rw [List.nodup_append]
        refine ⟨nd, by simp, fun a ha b hb z => c ?_⟩
        rw [← List.mem_singleton.mp hb, ← z]
        exact ha
    obtain ⟨a, b, c⟩ := merge_ok more (putK kvs p.1 p.2) (put_mem h (hm p List.mem_cons_self)) (fun q hq => hm q (List.mem_cons_of_mem _ hq)) nd'
    refine ⟨a, b, fun k => ?_⟩
    have e : mergeK kvs (p :: more) = mergeK (putK kvs p.1 p.2) more := rfl
    rw [e, c k, put_names, List.map_cons, List.mem_cons]
    split
    · rename_i i
      exact ⟨fun z => z.elim .inl (fun z => .inr (.inr z)), fun z => z.elim .inl (fun z => z.elim (fun z => .inl (z ▸ i)) .inr)⟩
    · rw [List.mem_append, List.mem_singleton]
      exact ⟨fun z => z.elim (fun z => z.elim .inl (fun z => .inr (.inl z))) (fun z => .inr (.inr z)), fun z => z.elim (fun z => .inl (.inl z)) (fun z => z.elim (fun z => .inl (.inr z)) .inr)⟩
theorem val_mem {kvs : List (Key × V)} {k : Key} (h : k ∈ kvs.map (·.1)) : ∃ v, valV kvs k = some v ∧ (k, v) ∈ kvs := by
  unfold valV
  cases e : kvs.find? fun kv => decide (kv.1 = k) with
  | none =>
    obtain ⟨p, hp, rfl⟩ := List.mem_map.mp h
    have := List.find?_eq_none.mp e p hp
    simp at this
  | some p =>
    have h1 := List.find?_some e
    have h2 := List.mem_of_find?_eq_some e
    have h3 : p.1 = k := of_decide_eq_true h1
    exact ⟨p.2, rfl, by rw [← h3]; exact h2⟩
theorem keys_txt : ∀ (M : List (Key × V)), (∀ p ∈ M, ∃ d : PyData, p.1 = .inr (txt d)) → ∃ ks : List Str, M.map (·.1) = ks.map Sum.inr
  | [], _ => ⟨[], rfl⟩
  | p :: M, h => by
    obtain ⟨ks, e⟩ := keys_txt M fun q hq => h q (List.mem_cons_of_mem _ hq)
    obtain ⟨d, ed⟩ := h p List.mem_cons_self
    exact ⟨txt d :: ks, by rw [List.map_cons, e, ed]; rfl⟩
/-- each text once, ascending -/
structure BT (ds es : List PyData) : Prop where
  srt : sortedS (es.map txt) = true
  nd : (es.map txt).Nodup
  mem : ∀ y, y ∈ es.map txt ↔ y ∈ ds.map txt
  sub : ∀ e ∈ es, e ∈ ds
def spByText (K : PySem.W.Frag) : Sp := fun vs H Q _ => ∃ (r : Addr) (xs : List V) (ds : List PyData), vs = [.ref r] ∧ SqL K H r xs ∧ DpAll K H xs ds ∧ (∀ d ∈ ds, Tk d) ∧ ds.length ≤ 32000 ∧
  ∀ (H' : Hp) (p : Addr) (ys : List V) (es : List PyData), Same H H' → H p = none → H' p = some (.lst ys) → DpAll K H' ys es → BT ds es → Q (.ref p) H'
section
variable {P : Program} {w : World} {K : PySem.W.Frag} {mg : Str → Option Value} {base : Heap}
theorem ok_by_text {f : Addr} {fd : FuncData} {k : Nat} (F : Fun K "_law_by_text" "_law_by_text" s_law_by_text f fd) (m_dict : mg "dict" = none) (m_sorted : mg "sorted" = none) (C_law_text : Own P w K mg base k "_law_text" ["_law_word"] (spText K 10)) :
    FnOk P w K mg base CX0 (k + 1) f fd ["_law_row"] (spByText K) := by
  refine F.ok sc_law_by_text (fun vs H Q E h => ?_) (fun cdv A outer s H vs Q E hr h => ?_)
  · obtain ⟨r, xs, ds, rfl, _⟩ := h
    rfl
  · obtain ⟨r, xs, ds, rfl, hr0, hA, ht, hl, good⟩ := h
    refine ⟨_, (pss_cons (ps_set (i := 1) sc_law_by_text.nd rfl (by first | exact .inl rfl | exact .inr rfl) (pe_callTy (call_dictP rfl) (by rfl) m_dict (by decide +kernel) (pa_cons (pe_lc (own := [("_law_one", 2)]) (g := gName 2) (by rfl) sc_law_by_text.nd (pi_list (pv 0)) (blkOk_by (own := [("_law_one", 2)]) (N := N_law_by_text) (sc := defScope s_law_by_text) (by decide +kernel)) (fun _ _ _ _ _ => pg_name (i := 2) sc_law_by_text.nd rfl (Or.inl rfl)) (fun _ _ _ _ _ => pts_nil) (fun _ _ _ _ _ => (pe_tup (pa_cons (pe_own C_law_text (hr.mono (by omega)) (by rfl) (pa_cons (pv 2) pa_nil)) (pa_cons (pv 2) pa_nil))))) pa_nil)))
      (pss_one (ps_ret (pe_lc (own := [("_law_text_here", 3)]) (g := gName 3) (by rfl) sc_law_by_text.nd (pi_list (pe_callB (FvW.call_sortedDA rfl) (by rfl) m_sorted (by decide +kernel) (pa_cons (pv 1) pa_nil))) (blkOk_by (own := [("_law_text_here", 3)]) (N := N_law_by_text) (sc := defScope s_law_by_text) (by decide +kernel)) (fun _ _ _ _ _ => pg_name (i := 3) sc_law_by_text.nd rfl (Or.inl rfl)) (fun _ _ _ _ _ => pts_nil) (fun _ _ _ _ _ => (pe_dget (hu_of hr) (pv 1) (pv 3) (fun _ _ => rfl))))))), ?_⟩
    have hlx := dpAll_len hA
    have z32 : 32000 < sizeLine := by rw [sizeLine_eq]; decide
    refine ⟨_, rfl, r, rfl, ⟨_, hr0⟩, fun D nD => lc_list (xs := xs) (fun i H2 => Same H H2 ∧ ∃ (ps : List Addr) (kvs : List (Key × V)), H2 D = some (.lst (ps.map V.ref)) ∧ ps.length = i ∧ Paired (fun p kv => H2 p = some (.tup [kV kv.1, kv.2])) ps kvs ∧ (∀ p ∈ kvs, ∃ d ∈ ds, p.1 = .inr (txt d) ∧ Dp K H p.2 d) ∧ kvs.map (·.1) = ((ds.take i).map fun d => (Sum.inr (txt d) : Key))) ?_ ?_ ?_ ?_⟩
    · exact ⟨same_upd nD, [], [], upd_same, rfl, .nil, (fun p hp => nomatch hp), rfl⟩
    · rintro i H2 _ ⟨sm, _⟩
      exact sm.seq hr0
    · rintro i x H2 hx ⟨sm, ps, kvs, hD, lp, pr, hk, ek⟩
      obtain ⟨d, hd, hDx⟩ := dpAll_get hA hx
      have md : d ∈ ds := List.mem_of_getElem? hd
      have td := ht d md
      refine ⟨rfl, ?_⟩
      dsimp only [tYes]
      rw [if_pos rfl]
      refine ⟨_, rfl, x, d, 9, rfl, dp_same sm _ _ hDx, td.gd, by decide, td.one, by have := td.top; omega, fun H3 s3 => ⟨_, rfl, (by show 2 ≤ sizeLine; decide), fun T nT => ?_⟩⟩
      have sT := same_upd (o := .tup [.str (txt d), x]) nT
      have s34 := s3.trans sT
      have hD4 := s34 _ _ hD
      have TD : T ≠ D := fun z => by rw [z, s3 _ _ hD] at nT; cases nT
      have pr4 := paired_smx (M := []) (SmX.of_same s34) (fun b hb => nomatch hb) pr
      have iL : i < ds.length := by
        have := (List.getElem?_eq_some_iff.mp hd).1
        exact this
      refine ⟨_, hD4, by rw [List.length_map, lp]; omega, fun b o e => ?_, ps ++ [T], kvs ++ [(.inr (txt d), x)], ?_, by rw [List.length_append, lp]; rfl, ?_, fun p hp => ?_, ?_⟩
      · rw [upd_ne (ne_of_none e nD)]
        exact s34 _ _ (sm _ _ e)
      · rw [upd_same, List.map_append]; rfl
      · refine (paired_smx (M := [D]) (SmX.put (SmX.refl _ _) (List.mem_singleton.mpr rfl)) (fun b hb => by rw [List.mem_singleton.mp hb]; exact ⟨_, hD4⟩) pr4).snoc ?_
        rw [upd_ne TD, upd_same]
        rfl
      · rcases List.mem_append.mp hp with z | z
        · exact hk p z
        · rw [List.mem_singleton.mp z]
          exact ⟨d, md, rfl, hDx⟩
      · rw [List.map_append, ek, List.take_add_one, hd, List.map_append]
        rfl
    · rintro H2 ⟨sm, ps, kvs, hD, lp, pr, hk, ek⟩
      rw [hlx, List.take_length] at ek
      obtain ⟨m1, m2, m3⟩ := merge_ok kvs [] (fun p hp => nomatch hp) hk List.nodup_nil
      have lm := length_mergeK kvs []
      have lk : kvs.length = ds.length := by
        have := congrArg List.length ek
        simpa using this
      refine ⟨D, ps, kvs, rfl, SqL.of hD, paired_sqT pr, fun c nc => ?_⟩
      generalize mergeK [] kvs = M at *
      obtain ⟨ks, hks⟩ := keys_txt M fun p hp => (m1 p hp).imp fun d z => z.2.1
      have nks : ks.Nodup := by
        rw [hks] at m2
        exact List.Pairwise.of_map Sum.inr (fun a b hab z => hab (congrArg Sum.inr z)) m2
      have mks : ∀ y, y ∈ ks ↔ y ∈ ds.map txt := fun y => by
        have e1 : y ∈ ks ↔ (Sum.inr y : Key) ∈ M.map (·.1) := by
          rw [hks, List.mem_map]
          exact ⟨fun h => ⟨y, h, rfl⟩, fun ⟨z, hz, e⟩ => by rw [← Sum.inr.inj e]; exact hz⟩
        rw [e1, m3, ek]
        refine ⟨fun h => ?_, fun h => .inr ?_⟩
        · rcases h with h | h
          · cases h
          · obtain ⟨d, hd, e⟩ := List.mem_map.mp h
            exact List.mem_map.mpr ⟨d, hd, Sum.inr.inj e⟩
        · obtain ⟨d, hd, e⟩ := List.mem_map.mp h
          exact List.mem_map.mpr ⟨d, hd, by rw [e]⟩
      have lks : ks.length ≤ 32000 := by
        have := congrArg List.length hks
        rw [List.length_map, List.length_map] at this
        have l0 : ([] : List (Key × V)).length = 0 := rfl
        omega
      have sc := same_upd (o := .dK M) nc
      refine ⟨_, rfl, c, M, ks, rfl, .inl upd_same, hks, by omega, fun ys p hp hsr np => ?_⟩
      have sp := same_upd (o := .lst (ys.map V.str)) np
      have lys : ys.length ≤ 32000 := by rw [hp.length_eq]; exact lks
      have hcp := sp _ _ (upd_same (H := H2) (a := c) (o := .dK M))
      refine ⟨p, rfl, ⟨_, SqL.of upd_same⟩, fun D2 nD2 => lc_list (xs := ys.map V.str) (fun j H5 => Same H H5 ∧ H5 c = some (.dK M) ∧ H5 p = some (.lst (ys.map V.str)) ∧ ∃ (us : List V) (es : List PyData), H5 D2 = some (.lst us) ∧ DpAll K H us es ∧ es.map txt = ys.take j ∧ ∀ e ∈ es, e ∈ ds) ?_ ?_ ?_ ?_⟩
      · have s2 := same_upd (o := .lst []) nD2
        exact ⟨sm.trans (sc.trans (sp.trans s2)), s2 _ _ hcp, s2 _ _ upd_same, [], [], upd_same, .nil, rfl, (fun e he => nomatch he)⟩
      · rintro j H5 _ ⟨_, _, hp5, _⟩
        exact SqL.of hp5
      · rintro j x H5 hx ⟨sm5, hc5, hp5, us, es, hD5, hu5, he5, hs5⟩
        obtain ⟨y, hy, rfl⟩ : ∃ y, ys[j]? = some y ∧ V.str y = x := by
          rw [List.getElem?_map] at hx
          cases hv : ys[j]? with
          | none => rw [hv] at hx; cases hx
          | some y => rw [hv] at hx; exact ⟨y, rfl, Option.some.inj hx⟩
        have my : (Sum.inr y : Key) ∈ M.map (·.1) := by
          rw [hks]
          exact List.mem_map.mpr ⟨y, hp.mem_iff.mp (List.mem_of_getElem? hy), rfl⟩
        obtain ⟨v, ev, hv⟩ := val_mem my
        obtain ⟨d, md, e1, hDv⟩ := m1 _ hv
        have ey : y = txt d := Sum.inr.inj e1
        have z := DGet.k (k := Sum.inr y) hc5
        rw [ev] at z
        have lu : us.length ≤ 32000 := by
          have a := dpAll_len hu5
          have b := congrArg List.length he5
          rw [List.length_map, List.length_take] at b
          omega
        have D2c : c ≠ D2 := fun q => by rw [← q, hcp] at nD2; cases nD2
        have D2p : p ≠ D2 := fun q => by rw [← q, upd_same] at nD2; cases nD2
        refine ⟨rfl, ?_⟩
        dsimp only [tYes]
        rw [if_pos rfl]
        refine ⟨_, rfl, _, rfl, c, v, rfl, z, us, hD5, by omega, fun b o e => ?_, by rw [upd_ne D2c]; exact hc5, by rw [upd_ne D2p]; exact hp5, us ++ [v], es ++ [d], upd_same, dpAll_app hu5 (.cons hDv .nil), ?_, fun e he => ?_⟩
        · rw [upd_ne (ne_of_none e (none_back (sm.trans (sc.trans sp)) nD2))]
          exact sm5 _ _ e
        · rw [List.map_append, he5, List.take_add_one, hy, ey]
          rfl
        · rcases List.mem_append.mp he with q | q
          · exact hs5 e q
          · rw [List.mem_singleton.mp q]; exact md
      · rintro H5 ⟨sm5, _, _, us, es, hD5, hu5, he5, hs5⟩
        rw [List.length_map, List.take_length] at he5
        refine good H5 D2 us es sm5 (none_back (sm.trans (sc.trans sp)) nD2) hD5 (dpAll_same sm5 _ _ hu5) ⟨by rw [he5]; exact hsr, by rw [he5]; exact hp.nodup_iff.mpr nks, fun y => ?_, hs5⟩
        rw [he5, hp.mem_iff, mks]
end
end Fv


namespace Fv
open PySem PySem.Spec PyProof.Rows L2 GenW FvX FvD FvG FvW TL
-- top 54  slots: 0:_law_pairs_here 1:_law_found 2:_law_left 3:_law_right
abbrev s_law_words : Stmt := topS 54
abbrev N_law_words : List Str := ["_law_pairs_here", "_law_found", "_law_left", "_law_right"]
theorem sc_law_words : FnScope N_law_words ["_law_pairs_here"] (defScope s_law_words) := ⟨rfl, rfl, rfl, by decide +kernel, rfl, by decide +kernel, by decide +kernel⟩

/-! ### the law's vocabulary -/
def preP (p : PyData × PyData) : List PyData := pre p.1 ++ pre p.2
def pairD (p : PyData × PyData) : PyData := .tuple [p.1, p.2]
def spWords (K : PySem.W.Frag) : Sp := fun vs H Q _ => ∃ (r : Addr) (xs : List V) (ps : List (PyData × PyData)), vs = [.ref r] ∧ SqL K H r xs ∧ DpAll K H xs (ps.map pairD) ∧ (∀ p ∈ ps, Tk p.1 ∧ Tk p.2) ∧ ps.length ≤ 13 ∧
  ∀ (H' : Hp) (p : Addr) (ys : List V) (es : List PyData), Same H H' → H p = none → H' p = some (.lst ys) → DpAll K H' ys es → BT (ps.flatMap preP) es → Q (.ref p) H'
theorem preP_len : ∀ (ps : List (PyData × PyData)), (∀ p ∈ ps, Tk p.1 ∧ Tk p.2) → (ps.flatMap preP).length ≤ 2400 * ps.length
  | [], _ => by simp
  | p :: ps, h => by
    rw [List.flatMap_cons, List.length_append, List.length_cons]
    have a := pre_small (h p List.mem_cons_self).1
    have b := pre_small (h p List.mem_cons_self).2
    have c := preP_len ps fun q hq => h q (List.mem_cons_of_mem _ hq)
    have e : (preP p).length = (pre p.1).length + (pre p.2).length := by unfold preP; rw [List.length_append]
    omega
/-! ### the two counts agree -/
theorem nodup_le {α : Type} [DecidableEq α] : ∀ (l m : List α), l.Nodup → (∀ x ∈ l, x ∈ m) → l.length ≤ m.length
  | [], m, _, _ => Nat.zero_le _
  | a :: l, m, hn, h => by
    have hn' := List.nodup_cons.mp hn
    have ha := h a List.mem_cons_self
    have sub : ∀ x ∈ l, x ∈ m.erase a := fun x hx => (List.mem_erase_of_ne (fun e => hn'.1 (by rw [← e]; exact hx))).mpr (h x (List.mem_cons_of_mem _ hx))
    have := nodup_le l (m.erase a) hn'.2 sub
    rw [List.length_erase_of_mem ha] at this
    have := List.length_pos_of_mem ha
    rw [List.length_cons]
    omega
theorem once_nd (l : List PyData) : ((onceD l).map nk).Nodup := by
  have gen : ∀ (l acc : List PyData), (acc.map nk).Nodup → ((l.foldl addD acc).map nk).Nodup := by
    intro l
    induction l with
    | nil => exact fun acc h => h
    | cons d l ih =>
      intro acc h
      refine ih (addD acc d) ?_
      unfold addD
      split
      · exact h
      · rename_i c
        rw [List.map_append, List.nodup_append]
        refine ⟨h, by simp, fun a ha b hb z => c ?_⟩
        obtain ⟨e, he, rfl⟩ := List.mem_map.mp ha
        have hb' : b = nk d := by simpa using hb
        exact List.any_eq_true.mpr ⟨e, he, decide_eq_true (z.trans hb')⟩
  exact gen l [] List.nodup_nil
theorem once_mem {l : List PyData} (h : ∀ d ∈ l, Tk d) {d : PyData} (hd : d ∈ l) : d ∈ onceD l := by
  have z := once_any l (nk d)
  have y : (l.any fun e => decide (nk e = nk d)) = true := List.any_eq_true.mpr ⟨d, hd, decide_eq_true rfl⟩
  rw [y, List.any_eq_true] at z
  obtain ⟨e, he, ee⟩ := z
  have := nk_inj 8 8 e d (h e (once_sub l e he)).kd (h d hd).kd (of_decide_eq_true ee)
  rw [← this]
  exact he
theorem count_eq {l ds es : List PyData} (ht : ∀ d ∈ l, Tk d) (hm : ∀ d, d ∈ l ↔ d ∈ ds) (b : BT ds es) : (onceD l).length = es.length := by
  have nd1 : ((onceD l).map txt).Nodup := by
    have n1 := once_nd l
    have n2 : (onceD l).Pairwise fun a b => nk a ≠ nk b := List.pairwise_map.mp n1
    refine List.pairwise_map.mpr (List.Pairwise.imp_of_mem (fun {a b} ha hb hab z => hab ?_) n2)
    rw [txt_inj (ht a (once_sub l a ha)).one (ht b (once_sub l b hb)).one z]
  have m1 : ∀ y, y ∈ (onceD l).map txt ↔ y ∈ ds.map txt := fun y => by
    rw [List.mem_map, List.mem_map]
    exact ⟨fun ⟨d, hd, e⟩ => ⟨d, (hm d).mp (once_sub l d hd), e⟩, fun ⟨d, hd, e⟩ => ⟨d, once_mem ht ((hm d).mpr hd), e⟩⟩
  have a1 := nodup_le ((onceD l).map txt) (es.map txt) nd1 fun y hy => (b.mem y).mpr ((m1 y).mp hy)
  have a2 := nodup_le (es.map txt) ((onceD l).map txt) b.nd fun y hy => (m1 y).mpr ((b.mem y).mp hy)
  rw [List.length_map, List.length_map] at a1 a2
  omega
section
variable {P : Program} {w : World} {K : PySem.W.Frag} {mg : Str → Option Value} {base : Heap}
theorem ok_words {f : Addr} {fd : FuncData} {k : Nat} (F : Fun K "_law_words" "_law_words" s_law_words f fd) (C_law_walk : Own P w K mg base k "_law_walk" ["_law_word"] (spLWalk K 10)) (C_law_by_text : Own P w K mg base k "_law_by_text" ["_law_row"] (spByText K)) :
    FnOk P w K mg base CX0 (k + 1) f fd ["_law_pairs_here"] (spWords K) := by
  refine F.ok sc_law_words (fun vs H Q E h => ?_) (fun cdv A outer s H vs Q E hr h => ?_)
  · obtain ⟨r, xs, ps, rfl, _⟩ := h
    rfl
  · obtain ⟨r, xs, ps, rfl, hr0, hA, ht, hl, good⟩ := h
    refine ⟨_, (pss_cons (ps_set (i := 1) sc_law_words.nd rfl (by first | exact .inl rfl | exact .inr rfl) (pe_lst pa_nil))
      (pss_cons (ps_for PassesOwn.never rfl (pi_list (pv 0)) (pg_tup rfl (pgs_cons (pg_name (i := 2) sc_law_words.nd rfl (by first | exact .inl rfl | exact .inr rfl)) (pgs_cons (pg_name (i := 3) sc_law_words.nd rfl (by first | exact .inl rfl | exact .inr rfl)) pgs_nil)))
        (pss_one (ps_set (i := 1) sc_law_words.nd rfl (by first | exact .inl rfl | exact .inr rfl) (pe_op op_cat (pe_op op_cat (pv 1) (pe_own C_law_walk (hr.mono (by omega)) (by rfl) (pa_cons (pv 2) pa_nil))) (pe_own C_law_walk (hr.mono (by omega)) (by rfl) (pa_cons (pv 3) pa_nil))))))
      (pss_one (ps_ret (pe_own C_law_by_text (hr.mono (by omega)) (by rfl) (pa_cons (pv 1) pa_nil)))))), ?_⟩
    have hlx := dpAll_len hA
    rw [List.length_map] at hlx
    refine ⟨Nat.zero_le _, fun l0 n0 => ?_⟩
    have s0 := same_upd (o := .lst []) n0
    refine ⟨_, rfl, r, rfl, ⟨_, s0.seq hr0⟩, for_list (xs := xs) (fun i σ H2 => ∃ (fo : Addr) (ys : List V) (y2 y3 : Option V), σ = [some (.ref r), some (.ref fo), y2, y3] ∧ Same H H2 ∧ H2 fo = some (.lst ys) ∧ DpAll K H2 ys ((ps.take i).flatMap preP)) ?_ ?_ ?_ ?_⟩
    · exact ⟨l0, [], none, none, rfl, s0, upd_same, .nil⟩
    · rintro i σ H2 _ ⟨fo, ys, y2, y3, rfl, sm, _⟩
      exact sm.seq hr0
    · rintro i x σ H2 hx ⟨fo, ys, y2, y3, rfl, sm, hfo, hys⟩
      obtain ⟨d, hd, hDx⟩ := dpAll_get hA hx
      obtain ⟨p, hp, rfl⟩ : ∃ p, ps[i]? = some p ∧ pairD p = d := by
        rw [List.getElem?_map] at hd
        cases hv : ps[i]? with
        | none => rw [hv] at hd; cases hd
        | some p => rw [hv] at hd; exact ⟨p, rfl, Option.some.inj hd⟩
      have tp := ht p (List.mem_of_getElem? hp)
      obtain ⟨b, x1, x2, rfl, hsb, h1, h2⟩ : ∃ b x1 x2, x = .ref b ∧ SqT K H b [x1, x2] ∧ Dp K H x1 p.1 ∧ Dp K H x2 p.2 := by
        cases hDx with
        | tup hs ha =>
          cases ha with
          | cons h1 ha => cases ha with
            | cons h2 ha => cases ha; exact ⟨_, _, _, rfl, hs, h1, h2⟩
      have ly := dpAll_len hys
      have l1 := pre_small tp.1
      have l2 := pre_small tp.2
      have lt0 := preP_len (ps.take i) fun q hq => ht q (List.mem_of_mem_take hq)
      rw [List.length_take] at lt0
      have zs : 40000 ≤ sizeLine := by rw [sizeLine_eq]; decide
      refine ⟨b, _, rfl, same_seqT sm hsb, rfl, ?_⟩
      refine ⟨_, _, rfl, _, _, rfl, rfl, ?_⟩
      refine ⟨_, rfl, _, rfl, x1, p.1, 9, rfl, dp_same sm _ _ h1, tp.1, by decide, tp.1.one, fun H3 p3 us s3 np3 hp3 hu => ?_⟩
      have lu := dpAll_len hu
      refine ⟨fo, p3, ys, us, rfl, rfl, s3 _ _ hfo, hp3, by omega, fun c1 n1 => ?_⟩
      have s4 := same_upd (o := .lst (ys ++ us)) n1
      refine ⟨_, rfl, x2, p.2, 9, rfl, dp_same (sm.trans (s3.trans s4)) _ _ h2, tp.2, by decide, tp.2.one, fun H5 p5 ws s5 np5 hp5 hw => ?_⟩
      have lw := dpAll_len hw
      refine ⟨c1, p5, ys ++ us, ws, rfl, rfl, s5 _ _ upd_same, hp5, by rw [List.length_append]; omega, fun c2 n2 => ?_⟩
      have s6 := same_upd (o := .lst (ys ++ us ++ ws)) n2
      refine ⟨c2, ys ++ us ++ ws, _, _, rfl, sm.trans (s3.trans (s4.trans (s5.trans s6))), upd_same, ?_⟩
      have est : (ps.take (i + 1)).flatMap preP = (ps.take i).flatMap preP ++ pre p.1 ++ pre p.2 := by
        rw [List.take_add_one, hp, List.flatMap_append]
        simp [preP]
      rw [est]
      exact dpAll_app (dpAll_app (dpAll_same (s3.trans (s4.trans (s5.trans s6))) _ _ hys) (dpAll_same (s4.trans (s5.trans s6)) _ _ hu)) (dpAll_same s6 _ _ hw)
    · rintro σ H2 ⟨fo, ys, y2, y3, rfl, sm, hfo, hys⟩
      rw [hlx, List.take_length] at hys
      have lp := preP_len ps ht
      refine ⟨_, rfl, fo, ys, ps.flatMap preP, rfl, SqL.of hfo, hys, fun d hd => ?_, by omega, fun H3 p3 zs es s3 np3 hp3 hz hb => good H3 p3 zs es (sm.trans s3) (none_back sm np3) hp3 hz hb⟩
      obtain ⟨p, hp, hd'⟩ := List.mem_flatMap.mp hd
      rcases List.mem_append.mp hd' with z | z
      · exact Tk.pre (ht p hp).1 d z
      · exact Tk.pre (ht p hp).2 d z
end
end Fv


namespace Fv
open PySem PySem.Spec PyProof.Rows L2 GenW FvX FvD FvG FvW TL

/-! ### what the law is due of rules and a goal -/
def dueD (d dg : PyData) : PyData := match rErr d with
  | some i => .tuple [.str "rules", .int i]
  | none => if (isN dg || isGl dg) = true then (if 24 < cnt d dg then .tuple [.str "terms", .int (cnt d dg : Nat)] else .str "") else .str "goal"
def spRDue (K : PySem.W.Frag) : Sp := fun vs H Q _ => ∃ (r : Addr) (xs : List V) (ds : List PyData) (va : V) (dg : PyData) (M : List Addr), vs = [.ref r, va] ∧ SqL K H r xs ∧ DpAll K H xs ds ∧ (∀ d ∈ ds, gd 19 d = true) ∧ ds.length ≤ 100 ∧ Dp K H va dg ∧ gd 20 dg = true ∧ Trk M H ∧
  ∀ (H' : Hp) (v : V), Same H H' → Dp K (hide M H') v (dueD (.list ds) dg) → Q v H'
def lrQ : PyData → PyData × PyData
  | .tuple [_, l, r] => (l, r)
  | d => (d, d)
def psOf (ds : List PyData) (g : Option (PyData × PyData)) : List (PyData × PyData) := ds.map lrQ ++ g.toList
theorem fits_tm' (d : PyData) : (decide (1 ≤ lmeas 5 d) && decide (lmeas 5 d ≤ 24)) = tmB d := by
  unfold tmB
  rw [meas_some]
theorem ps_sides {ds : List PyData} {g : Option (PyData × PyData)} (hrl : ∀ r ∈ ds, isRl r = true) (x : PyData) : (∃ p ∈ psOf ds g, x = p.1 ∨ x = p.2) ↔ x ∈ sidesOf (.list ds) g := by
  unfold psOf sidesOf
  rw [List.mem_append]
  constructor
  · rintro ⟨p, hp, hx⟩
    rcases List.mem_append.mp hp with z | z
    · obtain ⟨d, hd, rfl⟩ := List.mem_map.mp z
      obtain ⟨n, l, r, rfl, _⟩ := isRl_inv (hrl d hd)
      refine .inl (List.mem_flatMap.mpr ⟨_, hd, ?_⟩)
      show x ∈ [l, r]
      rcases hx with rfl | rfl
      · exact List.mem_cons_self ..
      · exact List.mem_cons_of_mem _ (List.mem_singleton.mpr rfl)
    · cases g with
      | none => cases z
      | some q =>
        have e : p = q := by simpa using z
        subst e
        refine .inr ?_
        show x ∈ [p.1, p.2]
        rcases hx with rfl | rfl
        · exact List.mem_cons_self ..
        · exact List.mem_cons_of_mem _ (List.mem_singleton.mpr rfl)
  · rintro (z | z)
    · obtain ⟨d, hd, hx⟩ := List.mem_flatMap.mp z
      obtain ⟨n, l, r, rfl, _⟩ := isRl_inv (hrl d hd)
      refine ⟨(l, r), List.mem_append_left _ (List.mem_map.mpr ⟨_, hd, rfl⟩), ?_⟩
      have hx' : x ∈ [l, r] := hx
      simpa using hx'
    · cases g with
      | none => cases z
      | some q =>
        refine ⟨q, List.mem_append_right _ (by simp), ?_⟩
        have hx' : x ∈ [q.1, q.2] := z
        simpa using hx'
/-- the law's count is the program's -/
theorem cnt_due {ds es : List PyData} {dg : PyData} (hrl : ∀ r ∈ ds, isRl r = true) (hx : isN dg = true ∨ isGl dg = true) (b : BT ((psOf ds (goalOf dg)).flatMap preP) es) : es.length = cnt (.list ds) dg := by
  have tg : ∀ l r, goalOf dg = some (l, r) → tmB l = true ∧ tmB r = true := fun l r e => by
    rcases hx with hx | hx
    · cases dg with
      | none => cases e
      | _ => cases hx
    · obtain ⟨l', r', rfl, tl, tr⟩ := isGl_inv hx
      have e' : some (l', r') = some (l, r) := e
      cases e'
      exact ⟨tl, tr⟩
  have tks := sides_tk (d := .list ds) hrl tg
  refine (count_eq (l := (sidesOf (.list ds) (goalOf dg)).flatMap fun s => onceD (pre s)) (fun d hd => ?_) (fun d => ?_) b).symm
  · obtain ⟨s, hs, h1⟩ := List.mem_flatMap.mp hd
    exact Tk.pre (tks s hs) d (once_sub _ d h1)
  · rw [List.mem_flatMap, List.mem_flatMap]
    constructor
    · rintro ⟨s, hs, h1⟩
      have h2 := once_sub _ d h1
      obtain ⟨p, hp, e⟩ := (ps_sides hrl s).mpr hs
      refine ⟨p, hp, ?_⟩
      rcases e with rfl | rfl
      · exact List.mem_append_left _ h2
      · exact List.mem_append_right _ h2
    · rintro ⟨p, hp, h1⟩
      rcases List.mem_append.mp h1 with z | z
      · have hs := (ps_sides hrl p.1).mp ⟨p, hp, .inl rfl⟩
        exact ⟨p.1, hs, once_mem (Tk.pre (tks _ hs)) z⟩
      · have hs := (ps_sides hrl p.2).mp ⟨p, hp, .inr rfl⟩
        exact ⟨p.2, hs, once_mem (Tk.pre (tks _ hs)) z⟩
theorem pair_kd {l r : PyData} (tl : Tk l) (tr : Tk r) : kd 9 (.tuple [l, r]) = true := by
  simp [kd, kdAll, tl.kd, tr.kd]
theorem kdl_stay {K : PySem.W.Frag} {H H1 : Hp} (s : Stay H H1) {n : Nat} : ∀ {vs : List V} {ds : List PyData}, (∀ d ∈ ds, kd n d = true) → DpAll K H vs ds → DpAll K H1 vs ds
  | _, _, _, .nil => .nil
  | _, _, h, .cons h1 t => .cons (kdp_stay s n _ _ (h _ List.mem_cons_self) h1) (kdl_stay s (fun d hd => h d (List.mem_cons_of_mem _ hd)) t)
section
variable {P : Program} {w : World} {K : PySem.W.Frag} {mg : Str → Option Value} {base : Heap}
end
end Fv


namespace Fv
open PySem PySem.Spec PyProof.Rows L2 GenW FvX FvD FvG FvW TL

/-! ### rules that are drawn -/
theorem stay_smx {M : List Addr} {H H1 : Hp} (s : SmX M H H1) (hM : ∀ b ∈ M, ∃ xs, H b = some (.lst xs)) : Stay H H1 where
  tup := fun b xs e => s b _ (fun hb => by
    obtain ⟨ys, e'⟩ := hM b hb
    rw [e] at e'; cases e') e
  frz := fun b o u e => s b _ (fun hb => by
    obtain ⟨ys, e'⟩ := hM b hb
    rw [e] at e'; cases e') e
theorem stay_hide {M : List Addr} {H : Hp} (hM : ∀ b ∈ M, ∃ xs, H b = some (.lst xs)) : Stay H (hide M H) :=
  stay_smx (M := M) (fun b o nb e => by rw [hide_ne nb]; exact e) hM
theorem new_tup {K : PySem.W.Frag} {M : List Addr} {H : Hp} {p : Addr} {vs : List V} {ds : List PyData} (tM : Trk M H) (np : H p = none) (h : DpAll K (hide M H) vs ds) : Dp K (hide M (upd H p (.tup vs))) (.ref p) (.tuple ds) :=
  .tup (SqT.of (hid_at tM np)) (dpAll_same (hid_new np) _ _ h)
theorem new_lst {K : PySem.W.Frag} {M : List Addr} {H : Hp} {p : Addr} {vs : List V} {ds : List PyData} (tM : Trk M H) (np : H p = none) (h : DpAll K (hide M H) vs ds) : Dp K (hide M (upd H p (.lst vs))) (.ref p) (.list ds) :=
  .lst (SqL.of (hid_at tM np)) (dpAll_same (hid_new np) _ _ h)
theorem rl_kd {d : PyData} (h : isRl d = true) : kd 9 d = true := by
  obtain ⟨n, l, r, rfl, _, tl, tr⟩ := isRl_inv h
  simp [kd, kdAll, (tm_tk tl).kd, (tm_tk tr).kd, kd_str]
theorem tm_of {n : Nat} {d : PyData} (hn : n ≤ 5) (h1 : 1 ≤ lmeas n d) (h2 : lmeas n d ≤ 24) : tmB d = true := by
  have e : ∀ m, n ≤ m → lmeas m d = lmeas n d := fun m hm => by
    induction hm with
    | refl => rfl
    | step _ ih => rw [lmeas_up _ _ (by rw [ih]; exact h1), ih]
  unfold tmB
  rw [meas_some, e 5 hn, decide_eq_true h1, decide_eq_true h2]
  rfl
theorem nm_ok {n : Str} (h : nmS n = true) : n.length ≤ 6 ∧ PyData.strOk n = true := by
  unfold nmS at h
  simp only [Bool.and_eq_true, decide_eq_true_eq] at h
  refine ⟨h.2.1, ?_⟩
  unfold PyData.strOk
  rw [← Array.all_toList, List.all_eq_true]
  intro c hc
  have := (List.all_eq_true.mp h.2.2) c hc
  have all : ∀ c ∈ tl NLs, decide (c < 0x110000) = true := by decide +kernel
  exact all c (of_decide_eq_true this)
theorem nm_gd {n : Str} (h : nmS n = true) (m : Nat) : gd m (.str n) = true := by
  have z := nm_ok h
  refine gd_le (n := 0) ?_ (Nat.zero_le _)
  simp only [gd, Bool.and_eq_true, decide_eq_true_eq]
  exact ⟨z.2, by omega⟩
theorem tm_gd {d : PyData} (h : tmB d = true) {m : Nat} (hm : 5 ≤ m) : gd m d = true := by
  unfold tmB at h
  rw [meas_some, Bool.and_eq_true] at h
  have h1 := of_decide_eq_true h.1
  have h2 := of_decide_eq_true h.2
  exact gd_le (gd_lmeas 5 d h1 (by omega)) hm
theorem rl_gd {d : PyData} (h : isRl d = true) : gd 19 d = true := by
  obtain ⟨n, l, r, rfl, hn, tl, tr⟩ := isRl_inv h
  refine gd_tup (n := 18) (fun x hx => ?_) (by show 3 ≤ 1000; decide)
  simp only [List.mem_cons, List.not_mem_nil, or_false] at hx
  rcases hx with rfl | rfl | rfl
  · exact nm_gd hn _
  · exact tm_gd tl (by decide)
  · exact tm_gd tr (by decide)
def spRough (K : PySem.W.Frag) : Sp := fun vs H Q _ => ∃ (a L : Addr) (ns : List Int), vs = [.ref a] ∧ Src H a L ns ∧
  ∀ (H' : Hp) (p : Addr) (xs : List V) (ds : List PyData), H p = none → H' p = some (.lst xs) → DpAll K H' xs ds → ds.length ≤ 13 → (∀ d ∈ ds, isRl d = true) → Src H' a L ns → SmX [a] H H' → Q (.ref p) H'
section
variable {P : Program} {w : World} {K : PySem.W.Frag} {mg : Str → Option Value} {base : Heap}
end
end Fv


namespace Fv
open PySem PySem.Spec PyProof.Rows L2
section
variable {K : PySem.W.Frag} {f : Addr} {fd : FuncData}
theorem check_b (F : FunD K "check_rules" "check_rules" (defArgs s_check_rules) (defBody s_check_rules) (defScope s_check_rules) [.non] [] f fd) : Binds K fd ["rules", "goal"] [] := by
  obtain ⟨ds, hv, hb⟩ := F.binds1 (ps := ["rules", "goal"]) 2 1 (fun z => nomatch z) rfl fun T kV doc pm an cdv ct us its h1 h2 => by
    match us, its, h1, h2 with
    | [a, b], [c], _, _ => exact ⟨_, rfl, rfl⟩
  cases hv
  exact hb
theorem check_1 (F : FunD K "check_rules" "check_rules" (defArgs s_check_rules) (defBody s_check_rules) (defScope s_check_rules) [.non] [] f fd) : ∃ ds, Vals [.non] ds ∧ Binds K fd ["rules", "goal"] ds := by
  obtain ⟨ds, hv, hb⟩ := F.binds1 (ps := ["rules", "goal"]) 1 0 (fun z => nomatch z) rfl fun T kV doc pm an cdv ct us its h1 h2 => by
    match us, its, h1, h2 with
    | [a], [c], _, _ => exact ⟨_, rfl, rfl⟩
  exact ⟨ds, hv, hb⟩
theorem check_k (F : FunD K "check_rules" "check_rules" (defArgs s_check_rules) (defBody s_check_rules) (defScope s_check_rules) [.non] [] f fd) : ∃ g, KBn K fd ["rules", "goal"] 0 ["rules"] g (fun _ zs => zs ++ [.non]) := by
  obtain ⟨oc, od, dV, kV, doc, pm, an, cdv, ct, osl, rfl, lk, hcd, hD, hK⟩ := F.ex
  rcases hD with ⟨e, _⟩ | ⟨_, T, o, its, m, rfl, lT, oT, rT⟩
  · cases e
  · refine ⟨fun _ ws => ws ++ its, ⟨fun s us ws X h1 h2 => BindsTo.of_looks fun M => ?_, fun r1 r2 => r2.append rT⟩⟩
    obtain ⟨it, rfl⟩ : ∃ it, its = [it] := by
      match its, rT with
      | [it], _ => exact ⟨it, rfl⟩
    match us, ws, h1, h2 with
    | [], [a], _, _ => exact looks_items X lT oT (.of_pure rfl)
end
end Fv


set_option maxHeartbeats 4000000
namespace FvW
open PySem PySem.Spec PyProof.Rows L2 SrtO
/-! ### sorted(xs, key=f), f an own def, the keys texts -/
/-- exactly this object -/
def exO (a : Addr) (o : Obj) : HO := .ext fun h => h.get? a = some o
theorem ex_ok {P : Program} {w : World} {H : Hp} {h : Heap} {a : Addr} {o : Obj} (e : h.get? a = some o) : ObjOk P w H h a (exO a o) := ⟨e, ⟨o, e⟩, fun _ _ e1 k => k _ e1⟩
theorem ex_get {P : Program} {w : World} {H : Hp} {h : Heap} {a : Addr} {o : Obj} (ok : HOk P w H h) (e : H a = some (exO a o)) : h.get? a = some o := (ok a _ e).1
theorem perm_pair {α β : Type} {R : α → β → Prop} {l' l : List β} (h : l'.Perm l) : ∀ {m : List α}, Paired R m l → ∃ m', m'.Perm m ∧ Paired R m' l' := by
  induction h with
  | nil =>
    intro m p
    cases p
    exact ⟨[], .nil, .nil⟩
  | cons x h ih =>
    intro m p
    cases p with
    | cons r p =>
      obtain ⟨m', h1, h2⟩ := ih p
      exact ⟨_ :: m', h1.cons _, .cons r h2⟩
  | swap x y l =>
    intro m p
    cases p with
    | cons r p => cases p with
      | cons r' p => exact ⟨_, List.Perm.swap _ _ _, .cons r' (.cons r p)⟩
  | trans h1 h2 ih1 ih2 =>
    intro m p
    obtain ⟨m2, a1, a2⟩ := ih2 p
    obtain ⟨m3, b1, b2⟩ := ih1 a2
    exact ⟨m3, b1.trans a1, b2⟩
/-- a key and its item, a text and a value -/
def PairKV (p : Str × V) (q : Keyed) : Prop := RelV (.str p.1) q.1 ∧ RelV p.2 q.2
theorem zip_pairs : ∀ {ks : List Str} {keys : List Value} {xs : List V} {vs : List Value}, Vals (ks.map V.str) keys → Vals xs vs → Paired PairKV (ks.zip xs) (keys.zip vs)
  | [], _, _, _, h, _ => by
    rw [List.map_nil] at h
    cases h
    exact .nil
  | k :: ks, _, _, _, h, g => by
    rw [List.map_cons] at h
    cases h with
    | cons r h => cases g with
      | nil => rw [List.zip_nil_right, List.zip_nil_right]; exact .nil
      | cons r' g => exact .cons ⟨r, r'⟩ (zip_pairs h g)
theorem pairs_vals : ∀ {ps : List (Str × V)} {qs : List Keyed}, Paired PairKV ps qs → Vals (ps.map (·.2)) (qs.map (·.2)) ∧ qs.map (fun q => PyProof.Rows.strOf q.1) = ps.map (·.1)
  | _, _, .nil => ⟨.nil, rfl⟩
  | p :: _, q :: _, .cons r h => by
    obtain ⟨a, b⟩ := pairs_vals h
    obtain ⟨t, e⟩ := (show ∃ t, q.1 = Value.str p.1 t from r.1)
    refine ⟨.cons r.2 a, ?_⟩
    rw [List.map_cons, List.map_cons, b, e]
    rfl
def rSortKey (K : PySem.W.Frag) (f : Addr) (sp : Sp) : List V → List V → Hp → VK → Prop := fun xs zs H Q => ∃ (a : Addr) (vs : List V) (ks : List Str), xs = [.ref a] ∧ zs = [.ref f] ∧ SqL K H a vs ∧ ks.length = vs.length ∧
  (∀ (i : Nat) (v : V) (x : Str), vs[i]? = some v → ks[i]? = some x → ∀ H1 : Hp, Same H H1 → ∀ R : VK, (∀ H2, Same H1 H2 → R (.str x) H2) → sp [v] H1 R E0) ∧
  ∀ (ps : List (Str × V)) (H' : Hp) (p : Addr), ps.Perm (ks.zip vs) → sortedS (ps.map (·.1)) = true → Same H H' → H p = none → H' p = some (.lst (ps.map (·.2))) → Q (.ref p) H'
theorem same_up {H : Hp} {p : Addr} {o : HO} (h : H p = none) : Same H (upd H p o) := fun b x e => by
  rw [upd_ne (ne_of_none e h)]
  exact e
section
variable {X : Cx} {f : Addr} {n : Nat} {sp : Sp} {pins : List (Addr × Obj)} {σ : L2.St} {H : Hp} {Q : VK} {a kS : Addr} {e1 : Nat} {its : List Value} {vs : List V} {ks : List Str} {A : Around} {E : Value → Shared → Prop}
/-- the sort's end -/
theorem key_tail {st : SortSt} {s : Shared} {H' : Hp} {keys : List Value} (I : Inv X pins σ H' s) (sm : Same H H') (na : H a = none) (nk : H kS = none) (hka : kS ≠ a) (ha : H' a = some (exO a (seqObj "list" #[] e1))) (hk : H' kS = some (.lst (ks.map V.str)))
    (hlen : ks.length = vs.length) (hz : vs.length ≤ sizeLine) (rk : Vals (ks.map V.str) keys) (rv : Vals vs its) (hfl : failedOf st = none) (hs : Srtd (lt2 ltT) (arrOf st).toList) (hp : (arrOf st).toList.Perm (keys.zip its))
    (q : ∀ (ps : List (Str × V)) (H' : Hp) (p : Addr), ps.Perm (ks.zip vs) → sortedS (ps.map (·.1)) = true → Same H H' → H p = none → H' p = some (.lst (ps.map (·.2))) → Q (.ref p) H') :
    wpAny (model X.prog X.w) A (ksk_tail a false e1 (.ref kS) st) (fun r s' => r = .done (.ret .none) ∧ EP X pins σ Q (.ref a) s') E s := by
  obtain ⟨ps, p1, p2⟩ := perm_pair hp (zip_pairs rk rv)
  obtain ⟨v1, v2⟩ := pairs_vals p2
  have srt : sortedS (ps.map (·.1)) = true := by
    rw [← v2]
    refine sortedS_of_pairwise _ (List.pairwise_map.mpr (hs.imp fun {x y} h => ?_))
    rw [ltCps_eq]
    exact h
  have ga := ex_get I.hok ha
  obtain ⟨zk, ik, nn, _, gk⟩ := I.hok kS _ hk
  have lps : ps.length = vs.length := by rw [p1.length_eq, List.length_zip, hlen, Nat.min_self]
  have eo : ((arrOf st).map (·.2)).toList = (arrOf st).toList.map (·.2) := by rw [Array.toList_map]
  have lo : ((arrOf st).map (·.2)).size ≤ sizeLine := by
    rw [← Array.length_toList, eo, ← v1.length, List.length_map, lps]
    exact hz
  unfold ksk_tail
  dsimp only
  rw [if_neg Bool.false_ne_true]
  have s1 := Heap.SameBut.update s.heap kS (Obj.mapSeq fun _ => (#[] : Array Value))
  have ga1 : (s.heap.update kS (Obj.mapSeq fun _ => (#[] : Array Value))).get? a = some (seqObj "list" #[] e1) := (s1.2 a hka.symm).trans ga
  obtain ⟨c1, hc1⟩ : ∃ c1, (s.heap.update kS (Obj.mapSeq fun _ => (#[] : Array Value))).get? kS = some (seqObj "list" #[] c1) := ⟨_, get?_update_seq gk fun _ => #[]⟩
  have s2 := Heap.SameBut.update (s.heap.update kS (Obj.mapSeq fun _ => (#[] : Array Value))) a (Obj.mapSeq fun _ => (arrOf st).map (·.2))
  obtain ⟨c2, hc2⟩ : ∃ c2, ((s.heap.update kS (Obj.mapSeq fun _ => (#[] : Array Value))).update a (Obj.mapSeq fun _ => (arrOf st).map (·.2))).get? a = some (seqObj "list" ((arrOf st).map (·.2)) c2) := ⟨_, get?_update_seq ga1 fun _ => (arrOf st).map (·.2)⟩
  have zk' : ik.length ≤ sizeLine := by
    rename_i rr
    rw [← rr.length]
    exact zk
  refine wpAny_bind (listUpdate_at gk rfl ?_ (by rw [List.size_toArray]; exact zk') (Nat.zero_le _))
  refine wpAny_bind (wpAny_letGo ?_)
  refine wpAny_bind (seqEpoch_at ga1 rfl ?_)
  refine wpAny_bind (listUpdate_at ga1 rfl ?_ (Nat.zero_le _) (Nat.le_succ_of_le lo))
  rw [hfl]
  simp only [bne_self_eq_false, Bool.false_eq_true, if_false]
  have I1 : Inv X pins σ (upd H' kS (.lst [])) { s with heap := s.heap.update kS (Obj.mapSeq fun _ => (#[] : Array Value)) } :=
    I.write (t' := s.toks) (e := kS) (by rw [hk]; trivial) (.inl rfl) (fun b u hb e => (s1.2 b hb).trans e) ⟨_, hc1⟩ ⟨Nat.zero_le _, [], c1, .nil, hc1⟩
  have I2 : Inv X pins σ (upd (upd H' kS (.lst [])) a (.lst (ps.map (·.2)))) { s with heap := (s.heap.update kS (Obj.mapSeq fun _ => (#[] : Array Value))).update a (Obj.mapSeq fun _ => (arrOf st).map (·.2)) } :=
    I1.write (t' := s.toks) (e := a) (by rw [upd_ne hka.symm, ha]; trivial) (.inl rfl) (fun b u hb e => (s2.2 b hb).trans e) ⟨_, hc2⟩ ⟨by rw [List.length_map, lps]; exact hz, ((arrOf st).map (·.2)).toList, c2, by rw [eo]; exact v1, by rw [Array.toArray_toList]; exact hc2⟩
  refine wpAny_pure ⟨rfl, .ref a, _, I2, rfl, q ps _ a p1 srt (fun b o e => ?_) na upd_same⟩
  rw [upd_ne (ne_of_none e na), upd_ne (ne_of_none e nk)]
  exact sm _ _ e
theorem key_end {s : Shared} {H' : Hp} {keys : List Value} (I : Inv X pins σ H' s) (sm : Same H H') (na : H a = none) (nk : H kS = none) (hka : kS ≠ a) (ha : H' a = some (exO a (seqObj "list" #[] e1))) (hk : H' kS = some (.lst (ks.map V.str)))
    (hlen : ks.length = vs.length) (hz : vs.length ≤ sizeLine) (rk : Vals (ks.map V.str) keys) (rv : Vals vs its)
    (q : ∀ (ps : List (Str × V)) (H' : Hp) (p : Addr), ps.Perm (ks.zip vs) → sortedS (ps.map (·.1)) = true → Same H H' → H p = none → H' p = some (.lst (ps.map (·.2))) → Q (.ref p) H') :
    wpAny (model X.prog X.w) A (ksk_end a false its.toArray e1 (.ref kS) keys.toArray) (fun r s' => r = .done (.ret .none) ∧ EP X pins σ Q (.ref a) s') E s := by
  have hS : StrsAre keys ks := rk.strs
  have lk : keys.length = its.length := by rw [← rk.length, List.length_map, hlen, rv.length]
  have ez : (keys.toArray.zip its.toArray).toList = keys.zip its := by simp
  unfold ksk_end
  dsimp only
  rw [if_neg Bool.false_ne_true, if_neg Bool.false_ne_true]
  by_cases h2 : its.toArray.size < 2
  · rw [if_pos h2, if_pos h2]
    refine wpAny_bind (wpAny_pure ?_)
    rw [StateT.run_pure]
    refine wpAny_bind (wpAny_pure ?_)
    refine key_tail (st := SortSt.mk' general' (keys.toArray.zip its.toArray) #[] 7 none) I sm na nk hka ha hk hlen hz rk rv rfl ?_ ?_ q
    · show Srtd (lt2 ltT) (keys.toArray.zip its.toArray).toList
      rw [ez]
      rw [List.size_toArray] at h2
      have lz : (keys.zip its).length < 2 := by rw [List.length_zip]; omega
      generalize keys.zip its = z at lz
      match z, lz with
      | [], _ => exact List.Pairwise.nil
      | [x], _ => exact List.pairwise_singleton _ _
      | _ :: _ :: _, h => exact absurd h (by simp)
    · show (keys.toArray.zip its.toArray).toList.Perm _
      rw [ez]
  · rw [if_neg h2, if_neg h2]
    rw [List.size_toArray] at h2
    have hkind : keyKind' keys.toArray = pure oneType' := by
      have l2 : 2 ≤ keys.length := by omega
      match keys, hS, l2 with
      | v1 :: v2 :: rest, hS, _ => exact keyKind_strs hS
      | [], _, h => exact absurd h (by simp)
      | [v], _, h => exact absurd h (by simp)
    rw [hkind]
    refine wpAny_bind (wpAny_pure ?_)
    have hall : AllL (fun p : Keyed => p.1 ∈ keys) (keys.toArray.zip its.toArray).toList := fun p hm => by
      rw [ez] at hm
      exact (List.of_mem_zip hm).1
    refine wpAny_bind (wpAny_mono (wpS_sortO (st0 := SortSt.mk' oneType' (keys.toArray.zip its.toArray) #[] 7 none)
      (Q := fun _ st' => Srtd (lt2 ltT) (arrOf st').toList ∧ Stb (lt2 ltT) (arrOf st').toList (keys.toArray.zip its.toArray).toList ∧ failedOf st' = none) (swo2 swo_txt) (txt_cmp hS) rfl hall rfl rfl fun st' a1 a2 a3 => ⟨a1, a2, a3⟩) ?_ fun _ _ e => e)
    rintro ⟨⟨⟩, st'⟩ s' ⟨rfl, hp1, hp2, hf⟩
    exact key_tail I sm na nk hka ha hk hlen hz rk rv hf hp1 (by rw [← ez]; exact hp2.perm) q
theorem call_sortKey (F : FnR X.prog X.w X.K X.mg X.base CX0 n f sp) (hr : Room (n + 2) X.A) : CallRK X (.builtin "sorted") [Str.ofString "key"] (rSortKey X.K f sp) := by
  intro pins s σ H xs zs us ws Q I r rz h
  obtain ⟨l, vs, ks, rfl, rfl, hs, hlen, turn, q⟩ := h
  obtain rfl := Vals.ref1 r
  obtain ⟨w1, rfl, e1⟩ := vals1 rz
  obtain rfl : w1 = Value.ref f := e1
  obtain ⟨its, rv, hl, hz⟩ := I.list hs
  have hr2 : Room n X.A.in1.in1 := (show Room (n + 1) X.A.in1 from Room.in1 hr).in1
  have lv := rv.length
  show wpAny _ _ (call (.builtin "sorted") [.ref l] [(Str.ofString "key", .ref f)]) _ _ _
  refine PySem.W.sorted_of_sort hl.isList (by rw [← lv]; exact hz) (ksk_s1 _ _) (fun _ => ksk_l1 _ _) fun E' => ?_
  rw [ksk_t1]
  have ho := PySem.W.copyHeap_at s.heap its
  have szc : (PySem.W.copyHeap s.heap its).objs.size = s.heap.objs.size + 2 := by
    unfold PySem.W.copyHeap
    rw [size_push', Heap.size_update, size_push']
  have old : ∀ b o, s.heap.get? b = some o → (PySem.W.copyHeap s.heap its).get? b = some o := fun b o e => PySem.W.copyHeap_old e
  generalize PySem.W.copyHeap s.heap its = h0 at *
  have na : H (s.heap.objs.size + 1) = none := I.hok.fresh (Nat.le_succ _)
  have lea : s.heap.objs.size ≤ s.heap.objs.size + 1 := Nat.le_succ _
  have aold : ∀ b o, s.heap.get? b = some o → b ≠ s.heap.objs.size + 1 := fun b o e => Nat.ne_of_lt (Nat.lt_succ_of_lt (Heap.lt_size e))
  generalize ea : s.heap.objs.size + 1 = a at *
  obtain ⟨e1, ho1⟩ : ∃ e1, (h0.update a (Obj.mapSeq fun _ => (#[] : Array Value))).get? a = some (seqObj "list" #[] e1) := ⟨_, get?_update_seq ho fun _ => #[]⟩
  have s1 := Heap.SameBut.update h0 a (Obj.mapSeq fun _ => (#[] : Array Value))
  unfold ksk_tree
  refine wpAny_bind (listItems_at (s := { s with heap := h0 }) ho rfl ?_)
  refine wpAny_bind (listUpdate_at (s := { s with heap := h0 }) ho rfl ?_ (by rw [List.size_toArray, ← lv]; exact hz) (Nat.zero_le _))
  refine wpAny_bind (seqEpoch_at ho1 rfl ?_)
  refine wpAny_bind (wpAny_newTuple ?_ (by show its.length ≤ _; rw [← lv]; exact hz))
  refine wpAny_bind (wpAny_newList ?_ (Nat.zero_le _))
  refine wpAny_holding ?_
  show wpAny _ _ _ _ _ { s with heap := ((h0.update a (Obj.mapSeq fun _ => (#[] : Array Value))).push (seqObj "tuple" its.toArray 0)).push (seqObj "list" #[] 0) }
  have szA : ((h0.update a (Obj.mapSeq fun _ => (#[] : Array Value))).push (seqObj "tuple" its.toArray 0)).objs.size = s.heap.objs.size + 3 := by
    rw [size_push', Heap.size_update, szc]
  have goA : ((h0.update a (Obj.mapSeq fun _ => (#[] : Array Value))).push (seqObj "tuple" its.toArray 0)).get? a = some (seqObj "list" #[] e1) := Heap.get?_push_of_some _ ho1
  have IA : Inv X pins σ (upd H a (exO a (seqObj "list" #[] e1))) { s with heap := (h0.update a (Obj.mapSeq fun _ => (#[] : Array Value))).push (seqObj "tuple" its.toArray 0) } :=
    I.laid (t' := s.toks) (fun b u e => Heap.get?_push_of_some _ ((s1.2 b (aold b u e)).trans (old b u e))) lea (ex_ok goA)
  generalize (h0.update a (Obj.mapSeq fun _ => (#[] : Array Value))).push (seqObj "tuple" its.toArray 0) = hA at *
  have gk : (hA.push (seqObj "list" #[] 0)).get? hA.objs.size = some (seqObj "list" #[] 0) := Heap.get?_push_size _ rfl
  have IB : Inv X pins σ (upd (upd H a (exO a (seqObj "list" #[] e1))) hA.objs.size (.lst [])) { s with heap := hA.push (seqObj "list" #[] 0) } :=
    IA.laid (t' := s.toks) (fun b u e => Heap.get?_push_of_some _ e) (Nat.le_refl _) ⟨Nat.zero_le _, [], 0, .nil, gk⟩
  have hka : hA.objs.size ≠ a := by omega
  have nk : H hA.objs.size = none := I.hok.fresh (by omega)
  generalize hA.objs.size = kS at *
  have smB : Same H (upd (upd H a (exO a (seqObj "list" #[] e1))) kS (.lst [])) := fun b o e => by
    rw [upd_ne (ne_of_none e nk), upd_ne (ne_of_none e na)]
    exact e
  unfold ksk_rest
  refine wpAny_bind (wpAny_rule ?_)
  rw [← Array.forIn_toList]
  refine wpAny_bind (ksk_fold (fun i s' => ∃ H', Inv X pins σ H' s' ∧ Same H H' ∧ H' a = some (exO a (seqObj "list" #[] e1)) ∧ H' kS = some (.lst ((ks.take i).map V.str))) its 0 _
    ⟨_, IB, smB, by rw [upd_ne hka.symm, upd_same], by rw [upd_same]; rfl⟩ ?step ?done)
  case step =>
    rintro j x s' hx ⟨H', I', sm', ha', hk'⟩
    simp only [Nat.zero_add] at hk' ⊢
    have hj : j < its.length := (List.getElem?_eq_some_iff.mp hx).1
    have hjv : j < vs.length := by omega
    have hjk : j < ks.length := by omega
    have ev : vs[j]? = some vs[j] := List.getElem?_eq_getElem hjv
    have ek : ks[j]? = some ks[j] := List.getElem?_eq_getElem hjk
    obtain ⟨x', ex', rx⟩ := rv.get ev
    obtain rfl : x = x' := Option.some.inj (hx.symm.trans ex')
    refine wpAny_bind (wpAny_attempt (wpAny_call (codeAny_mono (F X.A.in1.in1 X.stack s' H' [x] [vs[j]] (fun v H2 => v = .str ks[j] ∧ Same H' H2) E0 hr2 I'.env0.in1.in1 (.cons rx .nil) (turn j _ _ ev ek H' sm' _ fun H2 s2 => ⟨rfl, s2⟩)) fun r s'' hq => ?_)))
    cases r with
    | error e => exact False.elim hq
    | ok fl =>
      cases fl with
      | next => exact False.elim hq
      | brk => exact False.elim hq
      | cont => exact False.elim hq
      | ret u =>
        obtain ⟨v, H2, I2, ru, rfl, s2⟩ := I'.after hq
        dsimp only
        have hk2 := s2 _ _ hk'
        have ha2 := s2 _ _ ha'
        obtain ⟨zk, ik, nn, rr, gk2⟩ := I2.hok kS _ hk2
        have lik : ik.length = j := by
          rw [← rr.length, List.length_map, List.length_take]
          omega
        have sk := Heap.SameBut.update s''.heap kS (Obj.mapSeq (·.push u))
        obtain ⟨c2, hc2⟩ : ∃ c2, (s''.heap.update kS (Obj.mapSeq (·.push u))).get? kS = some (seqObj "list" (ik.toArray.push u) c2) := ⟨_, get?_update_seq gk2 (·.push u)⟩
        refine wpAny_bind (listUpdate_at gk2 rfl ?_ (by rw [List.size_toArray]; omega) (by rw [Array.size_push, List.size_toArray]; omega))
        have et : ((ks.take (j + 1)).map V.str) = (ks.take j).map V.str ++ [V.str ks[j]] := by
          rw [List.take_add_one, ek, List.map_append]
          rfl
        refine wpAny_pure ⟨rfl, upd H2 kS (.lst ((ks.take (j + 1)).map V.str)), I2.write (t' := s''.toks) (e := kS) (by rw [hk2]; trivial) (.inl rfl) (fun b o hb e => (sk.2 b hb).trans e) ⟨_, hc2⟩ ⟨?_, ik ++ [u], c2, ?_, ?_⟩, fun b o e => ?_, by rw [upd_ne hka.symm]; exact ha2, upd_same⟩
        · rw [List.length_map, List.length_take]
          omega
        · rw [et]
          exact Vals.append rr (.cons ru .nil)
        · rw [hc2]
          congr 2
          simp
        · rw [upd_ne (ne_of_none e nk)]
          exact s2 _ _ (sm' _ _ e)
  case done =>
    rintro s' ⟨H', I', sm', ha', hk'⟩
    rw [Nat.zero_add, ← lv, ← hlen, List.take_length] at hk'
    obtain ⟨zk, ik, nn, rr, gk2⟩ := I'.hok kS _ hk'
    refine wpAny_bind (listItems_at gk2 rfl ?_)
    exact key_end I' sm' na nk hka ha' hk' hlen hz rr rv q
end
end FvW


namespace Fv
open PySem PySem.Spec PyProof.Rows L2 GenW FvX FvD FvG FvW TL
-- top 34  slots: 0:rules 1:goal
abbrev s_vocabulary : Stmt := topS 34
abbrev N_vocabulary : List Str := ["rules", "goal"]
theorem sc_vocabulary : FnScope N_vocabulary ["rules", "goal"] (defScope s_vocabulary) := ⟨rfl, rfl, rfl, by decide +kernel, rfl, by decide +kernel, by decide +kernel⟩

/-! ### vocabularies -/
structure Voc (d dg : PyData) (es : List PyData) : Prop where
  srt : sortedS (es.map txt) = true
  prm : es.Perm (allD (sidesOf d (goalOf dg)))
/-- what vocabulary asks -/
structure VoQ (K : PySem.W.Frag) (CR CG CM : Addr) (d dg : PyData) (H : Hp) (Q : VK) (E : XK) : Prop where
  rl : ∀ i, rErr d = some i → errF CR "InvalidRules" "index" (.int i) H E
  gl : rErr d = none → isN dg = false → isGl dg = false → errAt CG "InvalidGoal" H E
  tm : rErr d = none → (isN dg = true ∨ isGl dg = true) → 24 < cnt d dg → errF CM "TooManyTerms" "count" (.int (cnt d dg : Nat)) H E
  ok : rErr d = none → (isN dg = true ∨ isGl dg = true) → cnt d dg ≤ 24 → ∀ (H' : Hp) (p : Addr) (ys : List V) (es : List PyData), Same H H' → H p = none → H' p = some (.lst ys) → DpAll K H' ys es → Voc d dg es → Q (.ref p) H'
def spVoc (K : PySem.W.Frag) (CR CG CM : Addr) : Sp := fun vs H Q E => ∃ (vr vg : V) (d dg : PyData), vs = [vr, vg] ∧ Dp K H vr d ∧ gd 20 d = true ∧ Dp K H vg dg ∧ gd 20 dg = true ∧ VoQ K CR CG CM d dg H Q E
theorem zip_txt {K : PySem.W.Frag} {H : Hp} : ∀ {vs : List V} {ds : List PyData}, DpAll K H vs ds → Paired (fun (d : PyData) (p : Str × V) => p.1 = txt d ∧ Dp K H p.2 d) ds ((ds.map txt).zip vs)
  | _, _, .nil => .nil
  | _, _, .cons h t => .cons ⟨rfl, h⟩ (zip_txt t)
theorem zip_back {K : PySem.W.Frag} {H : Hp} : ∀ {es : List PyData} {ps : List (Str × V)}, Paired (fun (d : PyData) (p : Str × V) => p.1 = txt d ∧ Dp K H p.2 d) es ps → DpAll K H (ps.map (·.2)) es ∧ es.map txt = ps.map (·.1)
  | _, _, .nil => ⟨.nil, rfl⟩
  | _, _, .cons h t => by
    obtain ⟨a, b⟩ := zip_back t
    exact ⟨.cons h.2 a, by rw [List.map_cons, List.map_cons, b, h.1]⟩
theorem goal_tm {dg : PyData} (hx : isN dg = true ∨ isGl dg = true) : ∀ l r, goalOf dg = some (l, r) → tmB l = true ∧ tmB r = true := fun l r e => by
  rcases hx with hx | hx
  · cases dg with
    | none => cases e
    | _ => cases hx
  · obtain ⟨l', r', rfl, tl, tr⟩ := isGl_inv hx
    have e' : some (l', r') = some (l, r) := e
    cases e'
    exact ⟨tl, tr⟩
theorem goal_v {K : PySem.W.Frag} {H : Hp} {vg : V} {dg : PyData} (h : Dp K H vg dg) (hx : isN dg = true ∨ isGl dg = true) : goalV K H vg (goalOf dg) := by
  rcases hx with hx | hx
  · cases dg <;> first | cases hx | skip
    cases h
    exact .inl ⟨rfl, rfl⟩
  · obtain ⟨l, r, rfl, tl, tr⟩ := isGl_inv hx
    exact .inr ⟨l, r, rfl, h, tl, tr⟩
theorem all_tk {d dg : PyData} (hrl : ∀ r ∈ rows d, isRl r = true) (hx : isN dg = true ∨ isGl dg = true) : ∀ x ∈ allD (sidesOf d (goalOf dg)), Tk x := fun x hx' => by
  obtain ⟨s, hs, h1⟩ := List.mem_flatMap.mp (once_sub _ x hx')
  exact Tk.pre (sides_tk hrl (goal_tm hx) s hs) x (once_sub _ x h1)
section
variable {P : Program} {w : World} {K : PySem.W.Frag} {mg : Str → Option Value} {base : Heap} {CR CG CM : Addr}
theorem ok_vocabulary {f ft : Addr} {fd : FuncData} {k n : Nat} (F : FunD K "vocabulary" "vocabulary" (defArgs s_vocabulary) (defBody s_vocabulary) (defScope s_vocabulary) [.non] [] f fd) (hn : n + 2 ≤ k) (m_sorted : mg "sorted" = none) (g_tt : mg "term_text" = some (.ref ft)) (F_tt : FnR P w K mg base CX0 n ft (spText K 10))
    (C_check_rules : OwnR P w K mg base k "check_rules" (spCheck K CR CG CM)) (C_all_terms : Own P w K mg base k "all_terms" ["rules", "goal"] (spAll K)) :
    FnOk P w K mg base (L2.CX P w) (k + 1) f fd ["rules", "goal"] (spVoc K CR CG CM) := by
  refine F.ok sc_vocabulary (fun vs H Q E h => ?_) (fun cdv A outer s H vs Q E hr h => ?_)
  · obtain ⟨vr, vg, d, dg, rfl, _⟩ := h
    rfl
  · obtain ⟨vr, vg, d, dg, rfl, hd, hg, hdg, hgg, c⟩ := h
    refine ⟨_, (pss_cons (ps_expr (pe_ownR C_check_rules (hr.mono (by omega)) (by rfl) passX (pa_cons (pv 0) (pa_cons (pv 1) pa_nil))))
      (pss_one (ps_ret (pe_callBK (FvW.call_sortKey F_tt (hr.mono (by omega))) (by rfl) m_sorted (by decide +kernel) (pa_cons (pe_own C_all_terms (hr.mono (by omega)) (by rfl) (pa_cons (pv 0) (pa_cons (pv 1) pa_nil))) pa_nil) (pk_cons (pe_glob (v := .ref ft) (by rfl) g_tt rfl) pk_nil))))), ?_⟩
    refine ⟨_, rfl, _, rfl, vr, vg, d, dg, rfl, hd, hg, hdg, hgg, ⟨c.rl, c.gl, c.tm, fun e hx hc H1 s1 => ?_⟩⟩
    obtain ⟨hq, hl, hb⟩ := rErr_none e
    have hrl := bad_none _ _ _ hb
    refine ⟨_, rfl, _, rfl, vr, d, vg, goalOf dg, rfl, dp_same s1 _ _ hd, hq, hl, hrl, goal_v (dp_same s1 _ _ hdg) hx, fun H3 p vs s3 np hp hv => ?_⟩
    have lv := dpAll_len hv
    have tks := all_tk hrl hx
    refine ⟨p, vs, (allD (sidesOf d (goalOf dg))).map txt, rfl, rfl, SqL.of hp, by rw [List.length_map]; exact lv.symm, fun i v x hv0 hx0 H4 s4 R hR => ?_, fun ps H' q hpm hsr s4 nq hq' => ?_⟩
    · obtain ⟨d', hd', hD⟩ := dpAll_get hv hv0
      rw [List.getElem?_map, hd'] at hx0
      obtain rfl : txt d' = x := Option.some.inj hx0
      have td := tks d' (List.mem_of_getElem? hd')
      exact ⟨v, d', 9, rfl, dp_same s4 _ _ hD, td.gd, by decide, td.one, by have := td.top; omega, hR⟩
    · obtain ⟨es, p1, p2⟩ := perm_pair hpm (zip_txt hv)
      obtain ⟨b1, b2⟩ := zip_back p2
      exact c.ok e hx hc H' q _ es (s1.trans (s3.trans s4)) (none_back (s1.trans s3) nq) hq' (dpAll_same s4 _ _ b1) ⟨by rw [b2]; exact hsr, p1⟩
end
section
variable {K : PySem.W.Frag} {f : Addr} {fd : FuncData}
theorem voc_b (F : FunD K "vocabulary" "vocabulary" (defArgs s_vocabulary) (defBody s_vocabulary) (defScope s_vocabulary) [.non] [] f fd) : Binds K fd ["rules", "goal"] [] := by
  obtain ⟨ds, hv, hb⟩ := F.binds1 (ps := ["rules", "goal"]) 2 1 (fun z => nomatch z) rfl fun T kV doc pm an cdv ct us its h1 h2 => by
    match us, its, h1, h2 with
    | [a, b], [c], _, _ => exact ⟨_, rfl, rfl⟩
  cases hv
  exact hb
theorem voc_1 (F : FunD K "vocabulary" "vocabulary" (defArgs s_vocabulary) (defBody s_vocabulary) (defScope s_vocabulary) [.non] [] f fd) : ∃ ds, Vals [.non] ds ∧ Binds K fd ["rules", "goal"] ds := by
  obtain ⟨ds, hv, hb⟩ := F.binds1 (ps := ["rules", "goal"]) 1 0 (fun z => nomatch z) rfl fun T kV doc pm an cdv ct us its h1 h2 => by
    match us, its, h1, h2 with
    | [a], [c], _, _ => exact ⟨_, rfl, rfl⟩
  exact ⟨ds, hv, hb⟩
def swapV : List V → List V → List V := fun _ zs => match zs with | [a, b] => [b, a] | _ => []
theorem voc_k (F : FunD K "vocabulary" "vocabulary" (defArgs s_vocabulary) (defBody s_vocabulary) (defScope s_vocabulary) [.non] [] f fd) : ∃ g, KBn K fd ["rules", "goal"] 0 ["goal", "rules"] g swapV := by
  obtain ⟨oc, od, dV, kV, doc, pm, an, cdv, ct, osl, rfl, lk, hcd, hD, hK⟩ := F.ex
  rcases hD with ⟨e, _⟩ | ⟨_, T, o, its, m, rfl, lT, oT, rT⟩
  · cases e
  · refine ⟨fun _ ws => match ws with | [a, b] => [b, a] | _ => [], ⟨fun s us ws X h1 h2 => BindsTo.of_looks fun M => ?_, fun r1 r2 => ?_⟩⟩
    · obtain ⟨it, rfl⟩ : ∃ it, its = [it] := by
        match its, rT with
        | [it], _ => exact ⟨it, rfl⟩
      match us, ws, h1, h2 with
      | [], [a, b], _, _ => exact looks_items X lT oT (.of_pure rfl)
    · cases r2 with
      | nil => exact .nil
      | cons a r => cases r with
        | nil => exact .nil
        | cons b r => cases r with
          | nil => exact .cons b (.cons a .nil)
          | cons => exact .nil
end
end Fv


namespace Fv
open PySem PySem.Spec PyProof.Rows L2 GenW FvX FvD FvG FvW TL
/-! ### texts in ascending order: one row for one set -/
def leT (a b : Str) : Prop := ltCps b.cps.toList a.cps.toList = false
theorem leT_iff {a b : Str} : leT a b ↔ ¬ b.cps.toList < a.cps.toList := by
  unfold leT
  rw [ltCps_eq, decide_eq_false_iff_not]
theorem leT_tr {a b c : Str} (h1 : leT a b) (h2 : leT b c) : leT a c := by
  rw [leT_iff] at h1 h2 ⊢
  exact List.not_lt.mpr (List.le_trans (List.not_lt.mp h1) (List.not_lt.mp h2))
theorem leT_anti {a b : Str} (h1 : leT a b) (h2 : leT b a) : a = b := by
  rw [leT_iff] at h1 h2
  exact ext_tl (List.le_antisymm (List.not_lt.mp h1) (List.not_lt.mp h2))
theorem rising_pw : ∀ (p : Str) (l : List Str), risingS p l = true → (p :: l).Pairwise leT
  | p, [], _ => List.pairwise_singleton _ _
  | p, x :: r, h => by
    have h' : (!ltCps x.cps.toList p.cps.toList && risingS x r) = true := h
    rw [Bool.and_eq_true, Bool.not_eq_true'] at h'
    have ih := rising_pw x r h'.2
    refine List.pairwise_cons.mpr ⟨fun y hy => ?_, ih⟩
    rcases List.mem_cons.mp hy with e | e
    · rw [e]; exact h'.1
    · exact leT_tr h'.1 ((List.pairwise_cons.mp ih).1 y e)
theorem sorted_pw : ∀ (l : List Str), sortedS l = true → l.Pairwise leT
  | [], _ => List.Pairwise.nil
  | x :: r, h => rising_pw x r h
theorem sorted_uniq : ∀ (l m : List Str), l.Pairwise leT → m.Pairwise leT → l.Nodup → m.Nodup → (∀ y, y ∈ l ↔ y ∈ m) → l = m
  | [], [], _, _, _, _, _ => rfl
  | [], b :: m, _, _, _, _, h => absurd ((h b).mpr List.mem_cons_self) (by simp)
  | a :: l, [], _, _, _, _, h => absurd ((h a).mp List.mem_cons_self) (by simp)
  | a :: l, b :: m, pl, pm, nl, nm, h => by
    have pl' := List.pairwise_cons.mp pl
    have pm' := List.pairwise_cons.mp pm
    have nl' := List.nodup_cons.mp nl
    have nm' := List.nodup_cons.mp nm
    have e : a = b := by
      rcases List.mem_cons.mp ((h a).mp List.mem_cons_self) with z | z
      · exact z
      · rcases List.mem_cons.mp ((h b).mpr List.mem_cons_self) with y | y
        · exact y.symm
        · exact leT_anti (pl'.1 b y) (pm'.1 a z)
    subst e
    rw [sorted_uniq l m pl'.2 pm'.2 nl'.2 nm'.2 fun y => ?_]
    have hy := h y
    rw [List.mem_cons, List.mem_cons] at hy
    constructor
    · intro q
      rcases hy.mp (.inr q) with z | z
      · exact absurd q (by rw [z]; exact nl'.1)
      · exact z
    · intro q
      rcases hy.mpr (.inr q) with z | z
      · exact absurd q (by rw [z]; exact nm'.1)
      · exact z
theorem voc_mem {ds : List PyData} {dg : PyData} (hrl : ∀ r ∈ ds, isRl r = true) (hx : isN dg = true ∨ isGl dg = true) (x : PyData) : x ∈ allD (sidesOf (.list ds) (goalOf dg)) ↔ x ∈ (psOf ds (goalOf dg)).flatMap preP := by
  have tks := sides_tk (d := .list ds) hrl (goal_tm hx)
  have m1 : x ∈ (sidesOf (.list ds) (goalOf dg)).flatMap (fun s => onceD (pre s)) ↔ x ∈ (psOf ds (goalOf dg)).flatMap preP := by
    rw [List.mem_flatMap, List.mem_flatMap]
    constructor
    · rintro ⟨s, hs, h1⟩
      have h2 := once_sub _ x h1
      obtain ⟨p, hp, e⟩ := (ps_sides hrl s).mpr hs
      refine ⟨p, hp, ?_⟩
      rcases e with rfl | rfl
      · exact List.mem_append_left _ h2
      · exact List.mem_append_right _ h2
    · rintro ⟨p, hp, h1⟩
      rcases List.mem_append.mp h1 with z | z
      · have hs := (ps_sides hrl p.1).mp ⟨p, hp, .inl rfl⟩
        exact ⟨p.1, hs, once_mem (Tk.pre (tks _ hs)) z⟩
      · have hs := (ps_sides hrl p.2).mp ⟨p, hp, .inr rfl⟩
        exact ⟨p.2, hs, once_mem (Tk.pre (tks _ hs)) z⟩
  rw [← m1]
  refine ⟨fun h => once_sub _ x h, fun h => once_mem (fun d hd => ?_) h⟩
  obtain ⟨s, hs, h1⟩ := List.mem_flatMap.mp hd
  exact Tk.pre (tks s hs) d (once_sub _ d h1)
theorem all_nd {ds : List PyData} {dg : PyData} (hrl : ∀ r ∈ ds, isRl r = true) (hx : isN dg = true ∨ isGl dg = true) : ((allD (sidesOf (.list ds) (goalOf dg))).map txt).Nodup := by
  have n2 : (allD (sidesOf (.list ds) (goalOf dg))).Pairwise fun a b => nk a ≠ nk b := List.pairwise_map.mp (once_nd _)
  have tks := all_tk (d := .list ds) hrl hx
  refine List.pairwise_map.mpr (List.Pairwise.imp_of_mem (fun {a b} ha hb hab z => hab ?_) n2)
  rw [txt_inj (tks a ha).one (tks b hb).one z]
theorem map_txt_inj : ∀ {l m : List PyData}, (∀ x ∈ l, Tk x) → (∀ x ∈ m, Tk x) → l.map txt = m.map txt → l = m
  | [], [], _, _, _ => rfl
  | [], _ :: _, _, _, h => by cases h
  | _ :: _, [], _, _, h => by cases h
  | a :: l, b :: m, hl, hm, h => by
    rw [List.map_cons, List.map_cons] at h
    have h1 := (List.cons.inj h).1
    have h2 := (List.cons.inj h).2
    rw [txt_inj (hl a List.mem_cons_self).one (hm b List.mem_cons_self).one h1, map_txt_inj (fun x hx => hl x (List.mem_cons_of_mem _ hx)) (fun x hx => hm x (List.mem_cons_of_mem _ hx)) h2]
/-- the program's vocabulary is the law's -/
theorem voc_uniq {d : PyData} {ds es es' : List PyData} {dg : PyData} (hd : rows d = ds) (hrl : ∀ r ∈ ds, isRl r = true) (hx : isN dg = true ∨ isGl dg = true) (v : Voc d dg es) (b : BT ((psOf ds (goalOf dg)).flatMap preP) es') : es = es' := by
  have es0 : sidesOf d (goalOf dg) = sidesOf (.list ds) (goalOf dg) := by
    unfold sidesOf
    rw [hd]
    rfl
  have pr := v.prm
  rw [es0] at pr
  have tks := all_tk (d := .list ds) hrl hx
  have te : ∀ x ∈ es, Tk x := fun x h => tks x (pr.mem_iff.mp h)
  have te' : ∀ x ∈ es', Tk x := fun x h => tks x ((voc_mem hrl hx x).mpr (b.sub x h))
  refine map_txt_inj te te' (sorted_uniq _ _ (sorted_pw _ v.srt) (sorted_pw _ b.srt) ((pr.map txt).nodup_iff.mpr (all_nd hrl hx)) b.nd fun y => ?_)
  rw [b.mem, List.mem_map, List.mem_map]
  constructor
  · rintro ⟨x, h, e⟩
    exact ⟨x, (voc_mem hrl hx x).mp (pr.mem_iff.mp h), e⟩
  · rintro ⟨x, h, e⟩
    exact ⟨x, pr.mem_iff.mpr ((voc_mem hrl hx x).mpr h), e⟩
theorem voc_tk {d : PyData} {dg : PyData} {es : List PyData} (hrl : ∀ r ∈ rows d, isRl r = true) (hx : isN dg = true ∨ isGl dg = true) (v : Voc d dg es) : ∀ x ∈ es, Tk x := fun x h => all_tk hrl hx x (v.prm.mem_iff.mp h)
theorem voc_len {d : PyData} {dg : PyData} {es : List PyData} (v : Voc d dg es) : es.length = cnt d dg := v.prm.length_eq
end Fv


namespace Fv
open PySem PySem.Spec PyProof.Rows L2 GenW FvX FvD FvG FvW TL
theorem due_ok {d dg : PyData} (e1 : rErr d = none) (hx : isN dg = true ∨ isGl dg = true) (hc : cnt d dg ≤ 24) : dueD d dg = .str "" := by
  unfold dueD
  rw [e1]
  show (if (isN dg || isGl dg) = true then _ else _) = _
  rw [if_pos (by rcases hx with h | h <;> rw [h] <;> simp), if_neg (by omega)]
theorem due_inv {d dg : PyData} (hx : isN dg = true ∨ isGl dg = true) (h : dueD d dg = .str "") : rErr d = none ∧ cnt d dg ≤ 24 := by
  unfold dueD at h
  split at h
  · cases h
  · rename_i e
    refine ⟨e, ?_⟩
    rw [if_pos (by rcases hx with h | h <;> rw [h] <;> simp)] at h
    split at h
    · cases h
    · omega
theorem due_eqv {d dg : PyData} (hx : isN dg = true ∨ isGl dg = true) : (dueD d dg = .str "" ∧ PyData.eqv (dueD d dg) (.str "") = true) ∨ (dueD d dg ≠ .str "" ∧ PyData.eqv (dueD d dg) (.str "") = false) := by
  unfold dueD
  split
  · exact .inr ⟨(fun z => by cases z), rfl⟩
  · rw [if_pos (by rcases hx with h | h <;> rw [h] <;> simp)]
    split
    · exact .inr ⟨(fun z => by cases z), rfl⟩
    · exact .inl ⟨rfl, by decide +kernel⟩
theorem due_gd1 {d dg : PyData} (hx : isN dg = true ∨ isGl dg = true) : gd 1 (dueD d dg) = true := by
  have two : ∀ (t : Str) (i : Int), gd 0 (.str t) = true → gd 1 (.tuple [.str t, .int i]) = true := fun t i ht => by
    refine gd_tup (n := 0) (fun x hx => ?_) (by simp)
    simp only [List.mem_cons, List.not_mem_nil, or_false] at hx
    rcases hx with rfl | rfl
    · exact ht
    · rfl
  unfold dueD
  split
  · exact two _ _ (by decide +kernel)
  · rw [if_pos (by rcases hx with h | h <;> rw [h] <;> simp)]
    split
    · exact two _ _ (by decide +kernel)
    · decide +kernel
theorem Src.neL {H : Hp} {a L l : Addr} {ns : List Int} (h : Src H a L ns) (n : H l = none) : l ≠ L := fun z => by
  obtain ⟨_, _, _, _, _, e2, _⟩ := h
  rw [← z, n] at e2; cases e2
theorem tm_up {d : PyData} {n : Nat} (hn : n ≤ 5) (h1 : 1 ≤ lmeas n d) (h2 : lmeas n d ≤ 24) : tmB d = true := by
  have e : lmeas 5 d = lmeas n d := by
    have : ∀ m, n ≤ m → lmeas m d = lmeas n d := fun m hm => by
      induction hm with
      | refl => rfl
      | step _ ih => rw [lmeas_up _ _ (by rw [ih]; exact h1), ih]
    exact this 5 hn
  rw [← fits_tm', e, decide_eq_true h1, decide_eq_true h2]
  rfl
/-- a rule as a value -/
theorem rl_v {K : PySem.W.Frag} {H : Hp} {x : V} {d : PyData} (h : Dp K H x d) (rl : isRl d = true) : ∃ b x1 x2 l r, x = .ref b ∧ SqT K H b [.str (nameOf d), x1, x2] ∧ d = .tuple [.str (nameOf d), l, r] ∧ Dp K H x1 l ∧ Dp K H x2 r ∧ tmB l = true ∧ tmB r = true ∧ nmS (nameOf d) = true := by
  obtain ⟨n, l, r, rfl, hn, tl, tr⟩ := isRl_inv rl
  cases h with
  | tup hs ha =>
    cases ha with
    | cons h0 ha => cases ha with
      | cons h1 ha => cases ha with
        | cons h2 ha =>
          cases ha
          cases h0
          exact ⟨_, _, _, l, r, rfl, hs, rfl, h1, h2, tl, tr, hn⟩
end Fv


namespace Fv
open PySem PySem.Spec PyProof.Rows L2 FvX TL
/-! ### truth under a case -/
def tOr (dec : Bool) (vs : List (Option Bool)) : Option Bool := if some dec ∈ vs then some dec else if none ∈ vs then none else some (!dec)
def isBar : PyData → Bool
  | .str s => decide (s = "|")
  | _ => false
def tru (cs : Str → Option Bool) : Nat → PyData → Option Bool
  | 0, _ => none
  | _ + 1, .str x => cs x
  | n + 1, .tuple (o :: ds) => tOr (isBar o) (ds.map (tru cs n))
  | _ + 1, _ => none
def oV : Option Bool → V
  | none => .non
  | some b => .bl b
theorem inV_bl (b : Bool) : ∀ vs : List (Option Bool), inV (.bl b) (vs.map oV) = decide (some b ∈ vs)
  | [] => rfl
  | v :: vs => by
    have ih := inV_bl b vs
    unfold inV at ih ⊢
    rw [List.map_cons, List.any_cons, ih]
    cases v with
    | none => simp [oV, eqV]
    | some c => cases b <;> cases c <;> simp [oV, eqV]
theorem inV_non : ∀ vs : List (Option Bool), inV .non (vs.map oV) = decide (none ∈ vs)
  | [] => rfl
  | v :: vs => by
    have ih := inV_non vs
    unfold inV at ih ⊢
    rw [List.map_cons, List.any_cons, ih]
    cases v with
    | none => simp [oV, eqV]
    | some c => simp [oV, eqV]
theorem flat_oV (vs : List (Option Bool)) : (vs.map oV).all flatV = true := by
  rw [List.all_map]
  exact List.all_eq_true.mpr fun v _ => by cases v <;> rfl
theorem flat_o (v : Option Bool) : flatV (oV v) = true := by cases v <;> rfl
-- top 37  slots: 0:term 1:case 2:found 3:part 4:decisive
abbrev s_truth_under : Stmt := topS 37
abbrev N_truth_under : List Str := ["term", "case", "found", "part", "decisive"]
theorem sc_truth_under : FnScope N_truth_under ["term", "case"] (defScope s_truth_under) := ⟨rfl, rfl, rfl, by decide +kernel, rfl, by decide +kernel, by decide +kernel⟩



def caseOf (kvs : List (Key × V)) (cs : Str → Option Bool) : Prop := ∀ x, valV kvs (Sum.inr x) = (cs x).map V.bl
def spTru (K : PySem.W.Frag) (n : Nat) : Sp := fun vs H Q _ => ∃ (v : V) (c : Addr) (d : PyData) (m : Nat) (kvs : List (Key × V)) (cs : Str → Option Bool), vs = [v, .ref c] ∧ Dp K H v d ∧ gd 20 d = true ∧ m < n ∧ 1 ≤ lmeas m d ∧ H c = some (.dK kvs) ∧ caseOf kvs cs ∧
  ∀ H', Same H H' → Q (oV (tru cs m d)) H'
def spTruth (K : PySem.W.Frag) (CT : Addr) : Sp := fun vs H Q E => ∃ (v : V) (c : Addr) (d : PyData) (kvs : List (Key × V)) (cs : Str → Option Bool), vs = [v, .ref c] ∧ Dp K H v d ∧ gd 20 d = true ∧ H c = some (.dK kvs) ∧ caseOf kvs cs ∧
  ((meas 9 d 600).isSome = true → ∀ H', Same H H' → Q (oV (tru cs 9 d)) H') ∧ (meas 9 d 600 = none → errAt CT "InvalidTerm" H E)
theorem getD_case {kvs : List (Key × V)} {cs : Str → Option Bool} (h : caseOf kvs cs) (x : Str) : (valV kvs (Sum.inr x)).getD .non = oV (cs x) := by
  rw [h x]
  cases cs x <;> rfl
theorem bar_dec (o : Str) : decide (V.str o = V.str "|") = isBar (.str o) := by
  show _ = decide (o = "|")
  rw [Bool.eq_iff_iff, decide_eq_true_eq, decide_eq_true_eq]
  exact ⟨V.str.inj, congrArg V.str⟩
/-- the last two statements of a truth -/
theorem tOr_eq (dec : Bool) (vs : List (Option Bool)) : tOr dec vs = if some dec ∈ vs then some dec else if none ∈ vs then none else some (!dec) := rfl
theorem any_dec (dec : Bool) (vs : List (Option Bool)) : (vs.map fun v => !decide (oV v = V.non) && decide (oV v = V.bl dec)).any id = decide (some dec ∈ vs) := by
  induction vs with
  | nil => rfl
  | cons v vs ih =>
    rw [List.map_cons, List.any_cons, ih]
    cases v with
    | none => simp [oV]
    | some c => cases dec <;> cases c <;> simp [oV]
theorem any_isN (vs : List (Option Bool)) : (vs.map fun v => decide (oV v = V.non)).any id = decide (none ∈ vs) := by
  induction vs with
  | nil => rfl
  | cons v vs ih =>
    rw [List.map_cons, List.any_cons, ih]
    cases v <;> simp [oV]
section
variable {P : Program} {w : World} {K : PySem.W.Frag} {mg : Str → Option Value} {base : Heap} {CT : Addr}
theorem tru_zero {f : Addr} {fd : FuncData} {k : Nat} {ps : List Str} : FnOk P w K mg base CX0 k f fd ps (spTru K 0) := by
  have no : ∀ vs H Q E, ¬ spTru K 0 vs H Q E := fun vs H Q E h => by
    obtain ⟨v, c, d, m, kvs, cs, _, _, _, h, _⟩ := h
    omega
  exact ⟨fun vs H Q E h => absurd h (no vs H Q E), fun A outer s H args us vs Q E _ _ _ _ h => absurd h (no vs H Q E)⟩
theorem ok_truth_under {f : Addr} {fd : FuncData} {k n : Nat} (F : Fun K "truth_under" "truth_under" s_truth_under f fd) (hk : 1 ≤ k)
    (C_is_letter : Own P w K mg base 1 "is_letter" ["value"] (spIsLetter K))
    (C_truth_under : Own P w K mg base k "truth_under" ["term", "case"] (spTru K n)) :
    FnOk P w K mg base CX0 (k + 1) f fd ["term", "case"] (spTru K (n + 1)) := by
  refine F.ok sc_truth_under (fun vs H Q E h => ?_) (fun cdv A outer s H vs Q E hr h => ?_)
  · obtain ⟨v, c, d, m, kvs, cs, rfl, _⟩ := h
    rfl
  · obtain ⟨v, c, d, m, kvs, cs, rfl, hd, hg, hm, l1, hc, hcs, q⟩ := h
    refine ⟨_, (pss_cons (ps_if (pt_val (pe_own C_is_letter (hr.mono (by omega)) (by rfl) (pa_cons (pv 0) pa_nil)))
        (pss_one (ps_ret (pe_dget1 (hu_of hr) (pv 1) (pv 0) ⟨rfl, rfl, rfl, rfl⟩)))
        pss_nil)
      (pss_cons (ps_setLc (i := 2) (own := [("part", 3)]) (g := gName 3) (by rfl) sc_truth_under.nd rfl rfl (sw_true rfl rfl rfl (by decide +kernel)) (pi_tup (pe_slice sl_tup (pv 0) (po_some pe_int) po_none)) (blkOk_by (own := [("part", 3)]) (N := N_truth_under) (sc := defScope s_truth_under) (by decide +kernel)) (fun _ _ _ _ _ => pg_name (i := 3) sc_truth_under.nd rfl (Or.inl rfl)) (fun _ _ _ _ _ => pts_nil) (fun _ _ _ _ _ => (pe_own C_truth_under (hr.mono (by omega)) (by rfl) (pa_cons (pv 3) (pa_cons (pv 1) pa_nil)))))
      (pss_cons (ps_set (i := 4) sc_truth_under.nd rfl (by first | exact .inl rfl | exact .inr rfl) (pe_cmpR op_eq (pe_ix ix_tup (pv 0) pe_int (fun _ _ => rfl)) pe_str (nomark _)))
      (pss_cons (ps_if (pt_cmpR op_in_seq (pv 4) (pv 2) (by rfl))
        (pss_one (ps_ret (pv 4)))
        pss_nil)
      (pss_one (ps_ret (pe_ifExp (pt_cmpR op_in_seq pe_non (pv 2) (by rfl)) pe_non (pe_not (pv 4))))))))), ?_⟩
    cases m with
    | zero => simp only [lmeas] at l1; omega
    | succ m =>
    rcases lmeas_inv l1 with ⟨x, rfl, hx⟩ | ⟨o, ds, rfl, nl, ho, h2, all1, e⟩
    · cases hd
      refine ⟨_, rfl, _, _, rfl, .str x, hg, _, rfl, ?_⟩
      show if isL x = true then _ else _
      rw [if_pos hx]
      refine ⟨_, rfl, c, rfl, .inl ⟨kvs, .inl hc⟩, _, rfl, _, DGet.k (k := Sum.inr x) hc, ?_⟩
      rw [getD_case hcs]
      exact q H (Same.refl H)
    · cases hd with
      | @tup a xs _ hs ha =>
        cases ha with
        | @cons x0 xr _ _ h1 hA =>
        cases h1
        have hl := dpAll_len hA
        refine ⟨_, rfl, _, _, rfl, .tup hs (.cons (.str o) hA), hg, _, rfl, iteF ?_⟩
        refine ⟨_, rfl, 1, rfl, a, _, rfl, hs, ?_, fun p np => ?_⟩
        · rw [show HT.sIx (V.str o :: xr).length 0 (some 1) = min 1 (V.str o :: xr).length from HT.sIx_nat _ 0 1, List.length_cons]
          omega
        have ex : cutV (V.str o :: xr) (some 1) none = xr := by rw [cut_drop1]; rfl
        rw [ex]
        have sp := same_upd (o := .tup xr) np
        have gp := (gd_parts hg).2
        refine ⟨p, rfl, ⟨_, SqT.of upd_same⟩, fun D nD => lc_tup (xs := xr) (fun i H1 => Same (upd H p (.tup xr)) H1 ∧ H1 D = some (.lst (((ds.take i).map (tru cs m)).map oV))) ?_ ?_ ?_ ?_⟩
        · exact ⟨same_upd nD, by rw [upd_same]; rfl⟩
        · rintro i H1 hi ⟨sm, e1⟩
          exact SqT.of (sm _ _ upd_same)
        · rintro i x H1 hx ⟨sm, e1⟩
          obtain ⟨d', hd', hD'⟩ := dpAll_get hA hx
          have hDs : Dp K H1 x d' := dp_same (sp.trans sm) d' x hD'
          have md : d' ∈ ds := List.mem_of_getElem? hd'
          refine ⟨rfl, ?_⟩
          dsimp only [tYes]
          rw [if_pos rfl]
          refine ⟨_, rfl, _, rfl, x, c, d', m, kvs, cs, rfl, hDs, gd_le (gp d' md) (by decide), by omega, all1 d' md, (sp.trans sm) _ _ hc, hcs, fun H2 s2 => ?_⟩
          refine ⟨_, s2 _ _ e1, ?_, ?_, ?_⟩
          · rw [List.length_map, List.length_map, List.length_take]
            have lds := (gd_tuple hg).1
            rw [List.length_cons] at lds
            exact small1000 (by omega)
          · intro b o' eb
            have bD : b ≠ D := ne_of_none eb nD
            rw [upd_ne bD]
            exact s2 _ _ (sm _ _ eb)
          · rw [upd_same, List.take_add_one, hd']
            simp
        · rintro H1 ⟨sm, e1⟩
          have et : ds.take xr.length = ds := List.take_of_length_le (by omega)
          rw [et] at e1
          have q' := q H1 (sp.trans sm)
          have eq : tru cs (m + 1) (.tuple (.str o :: ds)) = tOr (isBar (.str o)) (ds.map (tru cs m)) := by simp only [tru]
          rw [eq, tOr_eq] at q'
          generalize ds.map (tru cs m) = vs at *
          refine ⟨_, rfl, a, _, _, _, rfl, rfl, same_seqT (sp.trans sm) hs, at0, rfl, ?_⟩
          rw [bar_dec]
          refine ⟨_, rfl, _, rfl, D, _, rfl, .inl (SqL.of e1), rfl, flat_oV _, _, rfl, ?_⟩
          show if inV (.bl (isBar (.str o))) (vs.map oV) = true then _ else _
          rw [inV_bl]
          refine ite2 (fun c => ?_) (fun c => ?_)
          · rw [if_pos (of_decide_eq_true c)] at q'
            exact ⟨_, rfl, q'⟩
          · rw [if_neg (of_decide_eq_false (Bool.eq_false_iff.mpr c))] at q'
            refine ⟨_, rfl, D, _, rfl, .inl (SqL.of e1), rfl, flat_oV _, _, rfl, ?_⟩
            show if inV .non (vs.map oV) = true then _ else _
            rw [inV_non]
            refine ite2 (fun c => ?_) (fun c => ?_)
            · rw [if_pos (of_decide_eq_true c)] at q'
              exact q'
            · rw [if_neg (of_decide_eq_false (Bool.eq_false_iff.mpr c))] at q'
              exact ⟨_, rfl, _, rfl, q'⟩
end
end Fv


set_option maxHeartbeats 4000000
namespace FvW
open PySem PySem.Spec PyProof.Rows L2
/-! ### {**d, k: v} -/
section
variable {prog : Program} {w : World} {K : Type} [DecidableEq K] {knd : KeyKind prog w K} {A : Around} {E : Value → Shared → Prop} {s : Shared}
theorem dictPut_pairs {d : Addr} {kvs : List (K × Value)} {k : K} {key v : Value} {Q : Unit → Shared → Prop} (hkey : knd.is k key = true) (hm : s.heap.DictOf knd d kvs)
    (hQ : ∀ h', h'.DictOf knd d (stored kvs k v) → Heap.SameBut d s.heap h' → Q () { s with heap := h' }) (hsz : kvs.length ≤ sizeLine) :
    wpAny (model prog w) A (dictPut d (knd.hash k) key v) Q E s := by
  obtain ⟨o, es, ep, ho, hc, hd, hk, hp, hn⟩ := hm
  have hes : es.size ≤ sizeLine := by
    have e1 := hp.length
    have e2 : es.toList.length = es.size := by simp
    omega
  unfold dictPut
  refine wpAny_bind (wpAny_dictFind_of hkey ho hd hk ?_)
  have hidx : (es.findIdx? fun e => knd.is k e.key) = kvs.findIdx? fun kv => decide (kv.1 = k) := by
    rw [← hp.findIdx k]; obtain ⟨l⟩ := es; simp
  cases hi : es.findIdx? fun e => knd.is k e.key with
  | some i =>
    refine wpAny_updateDict ho hd (hQ _ ⟨_, _, ep, Heap.get?_update_self _ ho (Obj.isFreed_of_dict (Obj.data_mapDict hd _)), hc.mapDict _, Obj.data_mapDict hd _, hk.modify _ _, ?_, ?_⟩ (Heap.SameBut.update ..))
    · rw [stored, if_pos (any_of_findIdx_some (hidx ▸ hi))]
      have hl : (es.toList.findIdx? fun e => knd.is k e.key) = some i := by rw [← hi]; obtain ⟨l⟩ := es; simp
      have := hp.modify hn hl v
      obtain ⟨l⟩ := es
      simpa using this
    · rw [stored, if_pos (any_of_findIdx_some (hidx ▸ hi)), keys_map_store]; exact hn
  | none =>
    have hnot : k ∉ kvs.map (·.1) := not_mem_of_findIdx_none (hidx ▸ hi)
    have hany : ¬ (kvs.any fun kv => decide (kv.1 = k)) = true := by
      rw [List.any_eq_true]; rintro ⟨kv, hkv, he⟩
      exact hnot (List.mem_map.mpr ⟨kv, hkv, of_decide_eq_true he⟩)
    refine wpAny_updateDictKeys (hz := hes) ho hd (hQ _ ⟨_, _, ep + 1, Heap.get?_update_self _ ho (Obj.isFreed_of_dict (Obj.data_mapDictKeys hd _)), hc.mapDictKeys _, Obj.data_mapDictKeys hd _, hk.push hkey _, ?_, ?_⟩ (Heap.SameBut.update ..))
    · rw [stored, if_neg hany]
      have := hp.append hkey (knd.hash k) v
      obtain ⟨l⟩ := es
      simpa using this
    · rw [stored, if_neg hany, List.map_append, List.nodup_append]
      refine ⟨hn, by simp, ?_⟩
      intro a ha b hb
      simp only [List.map_cons, List.map_nil, List.mem_singleton] at hb
      subst hb
      exact fun e => hnot (e ▸ ha)
theorem mergeMap {d o : Addr} {kvs more : List (K × Value)} {Q : Unit → Shared → Prop} (hdo : d ≠ o) (hoS : (o == sysModules) = false) (hd : s.heap.DictOf knd d kvs) (ho : s.heap.DictOf knd o more)
    (hQ : ∀ h', h'.DictOf knd d (merged kvs more) → Heap.SameBut d s.heap h' → Q () { s with heap := h' }) (hsz : kvs.length + more.length ≤ sizeLine) :
    wpAny (model prog w) A (mergeMapping d (.ref o) false) Q E s := by
  have hT : s.TypeIs (.ref o) "dict" := ho.typeIs
  obtain ⟨od, esd, epd, hod, hcd, hdd, hkd, hpd, hnd⟩ := id hd
  obtain ⟨oo, eso, epo, hoo, hco, hdo', hko, hpo, hno⟩ := id ho
  have hlen : more.length = eso.size := by rw [← hpo.length]; simp
  unfold mergeMapping
  refine wpAny_bind (wpAny_isInstance hT isSubtype_dict_dict ?_)
  rw [if_pos rfl]
  refine wpAny_bind (wpAny_specialOf hT PySem.F.slot_dict_iter.lookup ?_)
  refine wpAny_bind (wpAny_pure ?_)
  rw [show (some (Value.builtin "dict.__iter__") == some (Value.builtin "dict.__iter__")) = true from by simp]
  dsimp only
  rw [if_neg (by rw [hoS]; exact Bool.false_ne_true)]
  refine wpAny_bind (wpAny_dictEntries hod hdd ?_)
  have main : wpAny (model prog w) A (do
      let l ← dictEntries o
      let epoch ← dictEpoch o
      forIn (List.range l.size) PUnit.unit fun i (_ : PUnit) => (do
          let l' ← dictEntries o
          match l'[i]? with
            | some e => do
              holding [e.key, e.val] (dictPut d e.hash e.key e.val)
              let ep' ← dictEpoch o
              if (ep' != epoch) = true then do
                  (unsupported "dict.changed-during-merge" : Sem PUnit)
                  pure (ForInStep.yield PUnit.unit)
                else pure (ForInStep.yield PUnit.unit)
            | _ => do
              (unsupported "dict.changed-during-merge" : Sem PUnit)
              pure (ForInStep.yield PUnit.unit) : Sem (ForInStep PUnit))
      pure ()) Q E s := by
    refine wpAny_bind (wpAny_dictEntries hoo hdo' ?_)
    refine wpAny_bind (wpAny_dictEpoch hoo hdo' ?_)
    refine wpAny_bind ?_
    rw [List.range_eq_range']
    refine wpAny_forIn_list _
      (fun rest _ s' => ∃ h' i, s' = { s with heap := h' } ∧ rest = List.range' i (eso.size - i) ∧ i ≤ eso.size ∧ h'.DictOf knd d (merged kvs (more.take i)) ∧ h'.get? o = some oo ∧ Heap.SameBut d s.heap h')
      _ ?_ ?_ _ _ ⟨s.heap, 0, rfl, by simp, Nat.zero_le _, by simpa [merged] using hd, hoo, Heap.SameBut.refl _ _⟩
    · rintro x rest b s' ⟨h', i, rfl, hr, hi, hd', hoo', hs'⟩
      have hlt : i < eso.size := by
        rcases Nat.lt_or_ge i eso.size with h | h
        · exact h
        · rw [Nat.sub_eq_zero_of_le h] at hr; simp at hr
      obtain ⟨rfl, hrest⟩ : x = i ∧ rest = List.range' (i + 1) (eso.size - (i + 1)) := by
        have e : eso.size - i = (eso.size - (i + 1)) + 1 := by omega
        rw [e, List.range'_succ] at hr
        injection hr with h1 h2
        exact ⟨h1, h2⟩
      refine wpAny_bind (wpAny_dictEntries hoo' hdo' ?_)
      rw [Array.getElem?_eq_getElem hlt]
      obtain ⟨kv, hkv⟩ : ∃ kv, more[x]? = some kv := ⟨more[x]'(by rw [hlen]; exact hlt), List.getElem?_eq_getElem _⟩
      obtain ⟨k, v⟩ := kv
      obtain ⟨hkey, hval⟩ := hpo.get? (e := eso[x]) (by simp [hlt]) hkv
      obtain ⟨k', hkey', hhash⟩ := hko eso[x] (Array.getElem_mem hlt)
      obtain rfl : k' = k := knd.inj _ _ _ hkey' hkey
      show wpAny _ _ (holding [eso[x].key, eso[x].val] (dictPut d eso[x].hash eso[x].key eso[x].val) >>= _) _ _ _
      rw [hhash, hval]
      have hmx : (merged kvs (more.take x)).length ≤ sizeLine := by
        have e1 := merged_length_le kvs (more.take x)
        have e2 : (more.take x).length ≤ more.length := by rw [List.length_take]; omega
        omega
      refine wpAny_bind (wpAny_holding (dictPut_pairs (hsz := hmx) hkey hd' fun h'' hd'' hs'' => ?_))
      have hoo'' : h''.get? o = some oo := (hs''.2 o (Ne.symm hdo)).trans hoo'
      refine wpAny_bind (wpAny_dictEpoch hoo'' hdo' ?_)
      rw [if_neg (by simp)]
      exact wpAny_pure ⟨h'', x + 1, rfl, hrest, hlt, by rw [merged_take_succ kvs more x (k', v) hkv]; exact hd'', hoo'', hs'.trans hs''⟩
    · rintro b s' ⟨h', i, rfl, hr, hi, hd', hoo', hs'⟩
      have hin : i = eso.size := by
        rcases Nat.lt_or_ge i eso.size with h | h
        · have e : eso.size - i = (eso.size - (i + 1)) + 1 := by omega
          rw [e, List.range'_succ] at hr; exact nomatch hr
        · exact Nat.le_antisymm hi h
      refine wpAny_pure (hQ h' ?_ hs')
      rw [hin, ← hlen, List.take_length] at hd'; exact hd'
  by_cases hemp : esd.isEmpty = true
  · rw [if_pos hemp]
    refine wpAny_bind (wpAny_dictEntries hoo hdo' ?_)
    refine wpAny_bind ?_
    rw [← Array.forIn_toList]
    refine wpAny_forIn_list _ (fun rest _ s' => s' = s ∧ ∀ e ∈ rest, e ∈ eso.toList) _ ?_ ?_ _ _ ⟨rfl, fun e he => he⟩
    · rintro e rest b s' ⟨rfl, hr⟩
      obtain ⟨k, hk, _⟩ := hko e (Array.mem_toList_iff.mp (hr e List.mem_cons_self))
      have hv := knd.byValue k _ hk
      cases he : e.key with
      | ref a => rw [he] at hv; cases hv
      | _ => exact wpAny_pure ⟨rfl, fun x hx => hr x (List.mem_cons_of_mem _ hx)⟩
    · rintro b s' ⟨rfl, _⟩
      exact main
  · rw [if_neg hemp]
    exact main
theorem star_walk {c : Sem Value} {pr : Sem Value × Sem Value} {Q : Value → Shared → Prop}
    (h : wpAny (model prog w) A c (fun m s1 => wpAny (model prog w) A (mergeMapping s.heap.objs.size m false) (fun _ s2 => wpAny (model prog w) A (subDict [pr]) (fun sub s3 => wpAny (model prog w) A (mergeMapping s.heap.objs.size (.ref sub) false) (fun _ s4 => Q (.ref s.heap.objs.size) s4) (fun _ _ => False) s3) E s2) (fun _ _ => False) s1) E
      { s with heap := s.heap.push { cls := .type "dict", data := .dict #[] } }) :
    wpAny (model prog w) A (dictDisplay [(none, c), (some pr.1, pr.2)]) Q E s := by
  unfold dictDisplay
  dsimp only
  rw [List.forIn_cons]
  refine wpAny_bind (wpAny_bind ?_)
  dsimp only [List.isEmpty_nil]
  rw [if_pos rfl]
  refine wpAny_bind (wpAny_pure ?_)
  dsimp only
  refine wpAny_bind (wpAny_alloc ?_)
  refine wpAny_bind (wpAny_holding (wpAny_mono h (fun m s1 h1 => ?_) fun _ _ e => e))
  refine wpAny_bind (wpAny_onRaise (wpAny_tryCatch (wpAny_onRaise (wpAny_holding (wpAny_mono h1 (fun _ s2 h2 => ?_) fun _ _ f => f.elim)))))
  refine wpAny_pure ?_
  dsimp only
  rw [List.forIn_cons]
  refine wpAny_bind ?_
  dsimp only
  rw [if_neg (by simp)]
  refine wpAny_pure ?_
  dsimp only
  rw [List.forIn_nil]
  refine wpAny_pure ?_
  dsimp only [List.nil_append, List.isEmpty_cons]
  rw [if_neg Bool.false_ne_true]
  refine wpAny_bind (wpAny_bind (wpAny_holding (wpAny_mono h2 (fun sub s3 h3 => ?_) fun _ _ e => e)))
  refine wpAny_bind (wpAny_onRaise (wpAny_holding (wpAny_mono h3 (fun _ s4 h4 => ?_) fun _ _ f => f.elim)))
  exact wpAny_pure (wpAny_pure h4)
end
/-- {**d, k: v}: a new dict stands empty while d is read; another one while the key and the value are read -/
def tDStar (tc tk tv : TE) : TE := fun σ H Q => ∀ d, H d = none → tc σ (upd H d (.dK [])) fun x H1 => ∃ a kvs, x = .ref a ∧ a ≠ d ∧ H1 a = some (.dK kvs) ∧ H1 d = some (.dK []) ∧ kvs.length ≤ 1000 ∧
  ∀ e, H1 e = none → tk σ (upd (upd H1 d (.dK (mergeK [] kvs))) e (.dK [])) fun y H2 => tv σ H2 fun z H3 => ∃ k : Key, y = kV k ∧ H3 d = some (.dK (mergeK [] kvs)) ∧ H3 e = some (.dK []) ∧ e ≠ d ∧
    Q (.ref d) (upd (upd H3 e (.dK (mergeK [] [(k, z)]))) d (.dK (mergeK (mergeK [] kvs) (mergeK [] [(k, z)]))))
theorem pe_dstar {X : Cx} {pos : Pos} {ce ke ve : Expr} {tc tk tv : TE} (hc : PE X ce tc) (hk : PE X ke tk) (hv : PE X ve tv) : PE X (.Dict [none, some ke] [ce, ve] pos) (tDStar tc tk tv) := by
  refine ⟨fun pins s σ H Q I q => ?_⟩
  have hn := I.hok.fresh (Nat.le_refl s.heap.objs.size)
  have I1 := I.laid (a := s.heap.objs.size) (o := .dK []) (h' := s.heap.push { cls := .type "dict", data := .dict #[] }) (t' := s.toks) (fun _ _ q => Heap.get?_push_of_some _ q) (Nat.le_refl _) (dk_empty s.heap I.big)
  have PP := pps_cons (pos := pos) hk hv (pps_nil (X := X) (pos := pos))
  rw [arm_eval_Dict]
  refine wpAny_bind (wpAny_standAt ?_)
  refine star_walk (c := do let x ← eval ce X.env; standAt pos; pure x) (pr := (eval ke X.env, do let x ← eval ve X.env; standAt pos; pure x)) ?_
  generalize s.heap.objs.size = d at *
  refine wpAny_bind (thn (hc.run pins _ σ _ _ I1 (q d hn)) fun m s1 ⟨x, H1, I2, rx, a, kvs, ex, ad, ha, hd, hl, q1⟩ => wpAny_bind (wpAny_standAt (wpAny_pure ?_)))
  subst ex
  obtain rfl : m = Value.ref a := rx
  obtain ⟨za, sa, va, ra, da⟩ := dk_of I2.hok ha
  obtain ⟨zd, sd, vd, rd, dd⟩ := dk_of I2.hok hd
  cases rd
  have la := ra.length
  refine mergeMap (knd := mixKind X.prog X.w) (fun z => ad z.symm) sa dd da (fun h2 dd2 hs2 => ?_) (by rw [List.length_nil, ← la, Nat.zero_add]; exact za)
  have lm : (mergeK [] kvs).length ≤ 1000 := by
    have := length_mergeK kvs []
    rw [List.length_nil] at this
    omega
  have z1000 : 1000 < sizeLine := by rw [sizeLine_eq]; decide
  have he2 : ∃ q, h2.get? d = some q := let ⟨q, _, _, hq, _⟩ := dd2; ⟨q, hq⟩
  have I3 : Inv X pins σ (upd H1 d (.dK (mergeK [] kvs))) { s1 with heap := h2 } := d_write I2 (by rw [hd]; exact True.intro) hs2 he2 (dk_new (by omega) sd (ra.merge .nil) dd2)
  have hn2 := I3.hok.fresh (Nat.le_refl h2.objs.size)
  have I4 := I3.laid (a := h2.objs.size) (o := .dK []) (h' := h2.push { cls := .type "dict", data := .dict #[] }) (t' := s1.toks) (fun _ _ q => Heap.get?_push_of_some _ q) (Nat.le_refl _) (dk_empty h2 I3.big)
  have hn1 : H1 h2.objs.size = none := by
    by_cases c : h2.objs.size = d
    · rw [c, upd_same] at hn2; cases hn2
    · rw [upd_ne c] at hn2; exact hn2
  generalize ee : h2.objs.size = e at *
  refine wpAny_subDict (knd := mixKind X.prog X.w) (by simp) (thn (PP.run pins _ σ _ (fun ps H3 => match ps with
    | [(y, z)] => ∃ k : Key, y = kV k ∧ H3 d = some (.dK (mergeK [] kvs)) ∧ H3 e = some (.dK []) ∧ e ≠ d ∧ Q (.ref d) (upd (upd H3 e (.dK (mergeK [] [(k, z)]))) d (.dK (mergeK (mergeK [] kvs) (mergeK [] [(k, z)]))))
    | _ => False) I4 (q1 e hn1)) fun ws s3 z => ?_)
  obtain ⟨ps, H3, I5, rel, q3⟩ := z
  obtain ⟨y, z, rfl⟩ : ∃ y z, ps = [(y, z)] := by
    match ps, q3 with
    | [(y, z)], _ => exact ⟨y, z, rfl⟩
  obtain ⟨k, rfl, hd3, he3, ed, q4⟩ := q3
  have rel' : VV ([(k, z)].map fun kv : Key × V => (kV kv.1, kv.2)) ws := rel
  obtain ⟨rs, cr, rk⟩ := carries_of (P := X.prog) (w := X.w) rel'
  obtain ⟨z3, se3, ve3, re3, de3⟩ := dk_of I5.hok he3
  cases re3
  show ∃ kvs', Carries (mixKind X.prog X.w) ws kvs' ∧ Heap.DictOf (mixKind X.prog X.w) s3.heap h2.objs.size [] ∧ ∀ h', Heap.DictOf (mixKind X.prog X.w) h' h2.objs.size (merged [] kvs') → Heap.SameBut h2.objs.size s3.heap h' → wpAny (model X.prog X.w) X.A (mergeMapping d (.ref h2.objs.size) false) (fun x s4 => EP X pins σ Q (.ref d) s4) (fun _ _ => False) { s3 with heap := h', toks := s3.toks + ws.length }
  rw [ee]
  refine ⟨rs, cr, de3, fun h4 de4 hs4 => ?_⟩
  have he4 : ∃ q, h4.get? e = some q := let ⟨q, _, _, hq, _⟩ := de4; ⟨q, hq⟩
  have I6 : Inv X pins σ (upd H3 e (.dK (mergeK [] [(k, z)]))) { s3 with heap := h4, toks := s3.toks + ws.length } := I5.write (t' := s3.toks + ws.length) (e := e) (by rw [he3]; exact True.intro) (.inl rfl) (fun b u hb eb => (hs4.2 b hb).trans eb) he4 (dk_new (by have := length_mergeK [(k, z)] []; rw [List.length_nil, List.length_singleton] at this; omega) se3 (rk.merge .nil) de4)
  have hd6 : upd H3 e (.dK (mergeK [] [(k, z)])) d = some (.dK (mergeK [] kvs)) := by rw [upd_ne ed.symm]; exact hd3
  obtain ⟨z6, sd6, vd6, rd6, dd6⟩ := dk_of I6.hok hd6
  have lr := rk.length
  have lmr : (merged [] rs).length ≤ 1 := by
    have := merged_length_le [] rs
    rw [List.length_nil, ← lr, List.length_singleton] at this
    omega
  have lv6 := rd6.length
  refine mergeMap (knd := mixKind X.prog X.w) ed.symm se3 dd6 de4 (fun h5 dd5 hs5 => ?_) (by omega)
  have he5 : ∃ q, h5.get? d = some q := let ⟨q, _, _, hq, _⟩ := dd5; ⟨q, hq⟩
  have l2 : (mergeK (mergeK [] kvs) (mergeK [] [(k, z)])).length ≤ 1001 := by
    have a1 := length_mergeK (mergeK [] [(k, z)]) (mergeK [] kvs)
    have a2 := length_mergeK [(k, z)] []
    rw [List.length_nil, List.length_singleton] at a2
    omega
  exact ⟨.ref d, _, d_write I6 (by rw [hd6]; exact True.intro) hs5 he5 (dk_new (by omega) sd6 ((rk.merge .nil).merge rd6) dd5), rfl, q4⟩
end FvW


namespace Fv
open PySem PySem.Spec PyProof.Rows L2 GenW FvX FvD FvG FvW TL
-- top 53  slots: 0:_law_premises_here 1:_law_aim 2:_law_name 3:_law_left 4:_law_right
abbrev s_law_pairs : Stmt := topS 53
abbrev N_law_pairs : List Str := ["_law_premises_here", "_law_aim", "_law_name", "_law_left", "_law_right"]
theorem sc_law_pairs : FnScope N_law_pairs ["_law_premises_here", "_law_aim"] (defScope s_law_pairs) := ⟨rfl, rfl, rfl, by decide +kernel, rfl, by decide +kernel, by decide +kernel⟩

-- top 58  slots: 0:_law_premises_here 1:_law_aim 2:_law_most 3:_law_found 4:_law_one
abbrev s_law_kept_few : Stmt := topS 58
abbrev N_law_kept_few : List Str := ["_law_premises_here", "_law_aim", "_law_most", "_law_found", "_law_one"]
theorem sc_law_kept_few : FnScope N_law_kept_few ["_law_premises_here", "_law_aim", "_law_most"] (defScope s_law_kept_few) := ⟨rfl, rfl, rfl, by decide +kernel, rfl, by decide +kernel, by decide +kernel⟩

/-! ### scenes: the pairs, and the rules that are kept -/
def spPairs (K : PySem.W.Frag) : Sp := fun vs H Q _ => ∃ (r : Addr) (xs : List V) (ds : List PyData) (va : V) (l r2 : PyData), vs = [.ref r, va] ∧ SqL K H r xs ∧ DpAll K H xs ds ∧ (∀ d ∈ ds, isRl d = true) ∧ ds.length ≤ 14 ∧ Dp K H va (.tuple [l, r2]) ∧ newL K ((psOf ds (some (l, r2))).map pairD) H Q
/-- few enough rules -/
def spKept (K : PySem.W.Frag) : Sp := fun vs H Q _ => ∃ (r : Addr) (xs : List V) (ds : List PyData) (va : V) (l r2 : PyData) (m : Nat), vs = [.ref r, va, .int (m : Nat)] ∧ SqL K H r xs ∧ DpAll K H xs ds ∧ (∀ d ∈ ds, isRl d = true) ∧ ds.length ≤ 12 ∧ Dp K H va (.tuple [l, r2]) ∧ tmB l = true ∧ tmB r2 = true ∧ m ≤ 24 ∧ cnt (.list []) (.tuple [l, r2]) ≤ m ∧
  ∀ (H' : Hp) (p : Addr) (ys : List V) (es : List PyData), Same H H' → H p = none → H' p = some (.lst ys) → DpAll K H' ys es → es.Sublist ds → cnt (.list es) (.tuple [l, r2]) ≤ m → Q (.ref p) H'
theorem gl_of {l r : PyData} (tl : tmB l = true) (tr : tmB r = true) : isGl (.tuple [l, r]) = true := by
  show (tmB l && tmB r) = true
  rw [tl, tr]; rfl
theorem ps_tk {ds : List PyData} {l r : PyData} (hrl : ∀ d ∈ ds, isRl d = true) (tl : tmB l = true) (tr : tmB r = true) : ∀ p ∈ psOf ds (some (l, r)), Tk p.1 ∧ Tk p.2 := fun p hp => by
  rcases List.mem_append.mp hp with z | z
  · obtain ⟨d, hd, rfl⟩ := List.mem_map.mp z
    obtain ⟨n, l, r2, rfl, _, tl, tr⟩ := isRl_inv (hrl d hd)
    exact ⟨tm_tk tl, tm_tk tr⟩
  · have e : p = (l, r) := by simpa using z
    rw [e]
    exact ⟨tm_tk tl, tm_tk tr⟩
section
variable {P : Program} {w : World} {K : PySem.W.Frag} {mg : Str → Option Value} {base : Heap}
theorem ok_pairs {f : Addr} {fd : FuncData} {k : Nat} (F : Fun K "_law_pairs" "_law_pairs" s_law_pairs f fd) :
    FnOk P w K mg base CX0 (k + 1) f fd ["_law_premises_here", "_law_aim"] (spPairs K) := by
  refine F.ok sc_law_pairs (fun vs H Q E h => ?_) (fun cdv A outer s H vs Q E hr h => ?_)
  · obtain ⟨r, xs, ds, va, l, r2, rfl, _⟩ := h
    rfl
  · obtain ⟨r, xs, ds, va, l, r2, rfl, hr0, hA, hrl, hl, hva, good⟩ := h
    refine ⟨_, (pss_one (ps_ret (pe_op op_cat (pe_lc (own := [("_law_name", 2), ("_law_left", 3), ("_law_right", 4)]) (g := gTup K 3 (gCons (gName 2) (gCons (gName 3) (gCons (gName 4) gNil)))) (by rfl) sc_law_pairs.nd (pi_list (pv 0)) (blkOk_by (own := [("_law_name", 2), ("_law_left", 3), ("_law_right", 4)]) (N := N_law_pairs) (sc := defScope s_law_pairs) (by decide +kernel)) (fun _ _ _ _ _ => (pg_tup rfl (pgs_cons (pg_name (i := 2) sc_law_pairs.nd rfl (Or.inl rfl) (hf := Or.inr rfl)) (pgs_cons (pg_name (i := 3) sc_law_pairs.nd rfl (Or.inl rfl) (hf := Or.inr rfl)) (pgs_cons (pg_name (i := 4) sc_law_pairs.nd rfl (Or.inl rfl) (hf := Or.inr rfl)) pgs_nil))))) (fun _ _ _ _ _ => pts_nil) (fun _ _ _ _ _ => (pe_tup (pa_cons (pv 3) (pa_cons (pv 4) pa_nil))))) (pe_lst (pa_cons (pv 1) pa_nil))))), ?_⟩
    have hlx := dpAll_len hA
    have kdp9 : ∀ d ∈ ds, kd 9 (pairD (lrQ d)) = true := fun d hd => by
      obtain ⟨n, l, r2, rfl, _, tl, tr⟩ := isRl_inv (hrl d hd)
      exact pair_kd (tm_tk tl) (tm_tk tr)
    refine ⟨_, rfl, r, rfl, ⟨_, hr0⟩, fun D nD => lc_list (xs := xs) (fun j H' => Same H H' ∧ ∃ us, H' D = some (.lst us) ∧ DpAll K H' us ((ds.take j).map fun d => pairD (lrQ d))) ?_ ?_ ?_ ?_⟩
    · exact ⟨same_upd nD, [], upd_same, .nil⟩
    · rintro j H' _ ⟨sm4, _⟩
      exact sm4.seq hr0
    · rintro j x H' hx4 ⟨sm4, us, hD4, hu4⟩
      obtain ⟨d, hd, hDx⟩ := dpAll_get hA hx4
      have md : d ∈ ds := List.mem_of_getElem? hd
      have kk := kdp9 d md
      obtain ⟨b, x1, x2, l', r', rfl, hsb, ed, h1, h2, _⟩ := rl_v hDx (hrl d md)
      have elr : lrQ d = (l', r') := by rw [ed]; rfl
      have lu := dpAll_len hu4
      rw [List.length_map, List.length_take] at lu
      refine ⟨b, _, rfl, same_seqT sm4 hsb, rfl, _, _, rfl, _, _, rfl, _, _, rfl, rfl, rfl, ?_⟩
      dsimp only [tYes]
      rw [if_pos rfl]
      refine ⟨_, rfl, _, rfl, (by show 2 ≤ sizeLine; decide), fun p np => ?_⟩
      have sp := same_upd (o := .tup [x1, x2]) np
      have hD5 := sp _ _ hD4
      have st : Stay _ (upd (upd H' p (.tup [x1, x2])) D (.lst (us ++ [.ref p]))) := stay_lst hD5
      refine ⟨us, hD5, small1000 (by omega), fun c o e => ?_, us ++ [.ref p], upd_same, ?_⟩
      · rw [upd_ne (ne_of_none e nD)]
        exact sp _ _ (sm4 _ _ e)
      · rw [List.take_add_one, hd, List.map_append]
        refine dpAll_app (kdl_stay (n := 9) st (fun e he => ?_) (dpAll_same sp _ _ hu4)) (.cons (kdp_stay st 9 _ _ kk ?_) .nil)
        · obtain ⟨d', hd', rfl⟩ := List.mem_map.mp he
          exact kdp9 d' (List.mem_of_mem_take hd')
        · show Dp K _ _ (pairD (lrQ d))
          rw [elr]
          exact .tup (SqT.of upd_same) (.cons (dp_same (sm4.trans sp) _ _ h1) (.cons (dp_same (sm4.trans sp) _ _ h2) .nil))
    rintro H5 ⟨s5, us, hD5, hu5⟩
    rw [hlx, List.take_length] at hu5
    have lu := dpAll_len hu5
    rw [List.length_map] at lu
    refine ⟨_, rfl, (by show 1 ≤ sizeLine; decide), fun q nq => ?_⟩
    have sq := same_upd (o := .lst [va]) nq
    refine ⟨D, q, us, [va], rfl, rfl, sq _ _ hD5, upd_same, Nat.le_trans (show us.length + 1 ≤ 15 by omega) (by rw [sizeLine_eq]; decide), fun c nc => ?_⟩
    have sc_ := same_upd (o := .lst (us ++ [va])) nc
    refine good _ c _ (s5.trans (sq.trans sc_)) (none_back (s5.trans sq) nc) upd_same ?_
    unfold psOf
    rw [List.map_append, List.map_map]
    exact dpAll_app (dpAll_same (sq.trans sc_) _ _ hu5) (.cons (dp_same (s5.trans (sq.trans sc_)) _ _ hva) .nil)
theorem ok_kept {f : Addr} {fd : FuncData} {k : Nat} (F : Fun K "_law_kept_few" "_law_kept_few" s_law_kept_few f fd) (m_len : mg "len" = none)
    (C_law_pairs : Own P w K mg base k "_law_pairs" ["_law_premises_here", "_law_aim"] (spPairs K)) (C_law_words : Own P w K mg base k "_law_words" ["_law_pairs_here"] (spWords K)) :
    FnOk P w K mg base CX0 (k + 1) f fd ["_law_premises_here", "_law_aim", "_law_most"] (spKept K) := by
  refine F.ok sc_law_kept_few (fun vs H Q E h => ?_) (fun cdv A outer s H vs Q E hr h => ?_)
  · obtain ⟨r, xs, ds, va, l, r2, m, rfl, _⟩ := h
    rfl
  · obtain ⟨r, xs, ds, va, l, r2, m, rfl, hr0, hA, hrl, hl, hva, tl, tr, hm, h0, good⟩ := h
    refine ⟨_, (pss_cons (ps_set (i := 3) sc_law_kept_few.nd rfl (by first | exact .inl rfl | exact .inr rfl) (pe_lst pa_nil))
      (pss_cons (ps_for PassesOwn.never rfl (pi_list (pv 0)) (pg_name (i := 4) sc_law_kept_few.nd rfl (by first | exact .inl rfl | exact .inr rfl))
        (pss_one (ps_if (pt_cmpR op_le (pe_callB call_len_seq (by rfl) m_len (by decide +kernel) (pa_cons (pe_own C_law_words (hr.mono (by omega)) (by rfl) (pa_cons (pe_own C_law_pairs (hr.mono (by omega)) (by rfl) (pa_cons (pe_op op_cat (pv 3) (pe_lst (pa_cons (pv 4) pa_nil))) (pa_cons (pv 1) pa_nil))) pa_nil)) pa_nil)) (pv 2) (nomark _))
          (pss_one (ps_expr (pe_bm PySem.F.plainAttrs_list PySem.F.slot_list_append PySem.F.type_list_append mt_append (pv 3) (pa_cons (pv 4) pa_nil))))
          pss_nil)))
      (pss_one (ps_ret (pv 3))))), ?_⟩
    have hlx := dpAll_len hA
    refine ⟨Nat.zero_le _, fun fo nfo => ?_⟩
    have s0 := same_upd (o := .lst []) nfo
    refine ⟨_, rfl, r, rfl, ⟨_, s0.seq hr0⟩, for_list (xs := xs) (fun i σ H2 => ∃ (y4 : Option V) (ys : List V) (es : List PyData), σ = [some (.ref r), some va, some (.int (m : Nat)), some (.ref fo), y4] ∧ Same H H2 ∧ H2 fo = some (.lst ys) ∧ DpAll K H2 ys es ∧ es.Sublist (ds.take i) ∧ cnt (.list es) (.tuple [l, r2]) ≤ m) ?_ ?_ ?_ ?_⟩
    · exact ⟨none, [], [], rfl, s0, upd_same, .nil, List.Sublist.refl _, h0⟩
    · rintro i σ H2 _ ⟨y4, ys, es, rfl, sm, _⟩
      exact sm.seq hr0
    · rintro i x σ H2 hx ⟨y4, ys, es, rfl, sm, hfo, hy, sub, hc⟩
      obtain ⟨d, hd, hDx⟩ := dpAll_get hA hx
      have md : d ∈ ds := List.mem_of_getElem? hd
      have rld := hrl d md
      have rle : ∀ e ∈ es, isRl e = true := fun e he => hrl e (List.mem_of_mem_take (sub.subset he))
      have rl' : ∀ e ∈ es ++ [d], isRl e = true := fun e he => by
        rcases List.mem_append.mp he with z | z
        · exact rle e z
        · rw [List.mem_singleton.mp z]; exact rld
      have les : es.length ≤ 12 := Nat.le_trans (sub.length_le) (by rw [List.length_take]; omega)
      have ly := dpAll_len hy
      have et : ds.take (i + 1) = ds.take i ++ [d] := by rw [List.take_add_one, hd]; rfl
      have sub1 : es.Sublist (ds.take (i + 1)) := by rw [et]; exact sub.trans (List.sublist_append_left _ _)
      have sub2 : (es ++ [d]).Sublist (ds.take (i + 1)) := by rw [et]; exact List.Sublist.append sub (List.Sublist.refl _)
      refine ⟨_, rfl, _, rfl, (by show 1 ≤ sizeLine; decide), fun q nq => ?_⟩
      have sq := same_upd (o := .lst [x]) nq
      refine ⟨fo, q, ys, [x], rfl, rfl, sq _ _ hfo, upd_same, Nat.le_trans (show ys.length + 1 ≤ 13 by omega) (by rw [sizeLine_eq]; decide), fun c nc => ?_⟩
      have sc_ := same_upd (o := .lst (ys ++ [x])) nc
      have s2c := sq.trans sc_
      have sHc := sm.trans s2c
      refine ⟨_, rfl, c, ys ++ [x], es ++ [d], va, l, r2, rfl, SqL.of upd_same, dpAll_app (dpAll_same s2c _ _ hy) (.cons (dp_same sHc _ _ hDx) .nil), rl', by rw [List.length_append, List.length_singleton]; omega, dp_same sHc _ _ hva, fun H5 p5 us s5 np5 hp5 hu5 => ?_⟩
      refine ⟨p5, us, psOf (es ++ [d]) (some (l, r2)), rfl, SqL.of hp5, hu5, ps_tk rl' tl tr, ?_, fun H6 p6 ws fs s6 np6 hp6 hw hb => ?_⟩
      · unfold psOf
        rw [List.length_append, List.length_map, List.length_append]
        have h1 := sub.length_le
        rw [List.length_take] at h1
        have h2 := (List.getElem?_eq_some_iff.mp hd).1
        show es.length + 1 + 1 ≤ 13
        omega
      have lw : ws.length = cnt (.list (es ++ [d])) (.tuple [l, r2]) := (dpAll_len hw).trans (cnt_due (dg := .tuple [l, r2]) rl' (.inr (gl_of tl tr)) hb)
      refine ⟨p6, ws, rfl, .inl (SqL.of hp6), _, rfl, _, _, rfl, rfl, _, rfl, ?_⟩
      rw [lw]
      have s26 := s2c.trans (s5.trans s6)
      have sH6 := sm.trans s26
      have hfo6 := s26 _ _ hfo
      by_cases cc : cnt (.list (es ++ [d])) (.tuple [l, r2]) ≤ m
      · rw [decide_eq_true (by omega : ((cnt (.list (es ++ [d])) (.tuple [l, r2]) : Nat) : Int) ≤ ((m : Nat) : Int))]
        have st : Stay H6 (upd H6 fo (.lst (ys ++ [x]))) := stay_lst hfo6
        refine iteT ⟨_, rfl, .inl ⟨rfl, _, SqL.of hfo6⟩, _, rfl, fo, _, _, rfl, rfl, hfo6, small1000 (by omega), _, ys ++ [x], es ++ [d], rfl, fun b o e => ?_, upd_same, dpAll_app (kdl_stay (n := 9) st (fun e he => rl_kd (rle e he)) (dpAll_same s26 _ _ hy)) (.cons (kdp_stay st 9 _ _ (rl_kd rld) (dp_same sH6 _ _ hDx)) .nil), sub2, cc⟩
        rw [upd_ne (ne_of_none e nfo)]
        exact sH6 _ _ e
      · rw [decide_eq_false (by omega : ¬ ((cnt (.list (es ++ [d])) (.tuple [l, r2]) : Nat) : Int) ≤ ((m : Nat) : Int))]
        exact iteF ⟨_, ys, es, rfl, sH6, hfo6, dpAll_same s26 _ _ hy, sub1, hc⟩
    · rintro σ H2 ⟨y4, ys, es, rfl, sm, hfo, hy, sub, hc⟩
      rw [List.take_of_length_le (by omega)] at sub
      exact ⟨_, rfl, good H2 fo ys es sm nfo hfo hy sub hc⟩
end
end Fv


namespace Fv
open PySem PySem.Spec PyProof.Rows L2 GenW FvX FvD FvG FvW TL
-- top 59  slots: 0:_law_source_here 1:_law_signs_here 2:_law_x 3:_law_y 4:_law_z 5:_law_k 6:_law_some
abbrev s_law_known_goal : Stmt := topS 59
abbrev N_law_known_goal : List Str := ["_law_source_here", "_law_signs_here", "_law_x", "_law_y", "_law_z", "_law_k", "_law_some"]
theorem sc_law_known_goal : FnScope N_law_known_goal ["_law_source_here", "_law_signs_here"] (defScope s_law_known_goal) := ⟨rfl, rfl, rfl, by decide +kernel, rfl, by decide +kernel, by decide +kernel⟩

-- top 60  slots: 0:_law_source_here 1:_law_signs_here 2:_law_premises_here 3:_law_way 4:_law_left 5:_law_right 6:_law_k
abbrev s_law_goal : Stmt := topS 60
abbrev N_law_goal : List Str := ["_law_source_here", "_law_signs_here", "_law_premises_here", "_law_way", "_law_left", "_law_right", "_law_k"]
theorem sc_law_goal : FnScope N_law_goal ["_law_source_here", "_law_signs_here", "_law_premises_here"] (defScope s_law_goal) := ⟨rfl, rfl, rfl, by decide +kernel, rfl, by decide +kernel, by decide +kernel⟩

-- top 61  slots: 0:_law_source_here 1:_law_signs_here 2:_law_most 3:_law_found 4:_law_name 5:_law_left 6:_law_right
abbrev s_law_premises : Stmt := topS 61
abbrev N_law_premises : List Str := ["_law_source_here", "_law_signs_here", "_law_most", "_law_found", "_law_name", "_law_left", "_law_right"]
theorem sc_law_premises : FnScope N_law_premises ["_law_source_here", "_law_signs_here", "_law_most"] (defScope s_law_premises) := ⟨rfl, rfl, rfl, by decide +kernel, rfl, by decide +kernel, by decide +kernel⟩

/-- a term is drawn with a room of its own: nothing that was there is changed but the source -/
theorem term_call {K : PySem.W.Frag} {n : Nat} {H0 H : Hp} {a L sg r : Addr} {ns : List Int} {deep m : Int} {ys : List V} {Q : VK} (hs : Src H a L ns) (hsg : H sg = some (.lst ys)) (y0 : 0 < ys.length) (y8 : ys.length ≤ 8) (hy : ∀ y ∈ ys, lett y)
    (hr : H r = some (.lst [.int m])) (s0 : SmX [a] H0 H) (nr : H0 r = none) (hs0 : Src H0 a L ns) (hsg0 : H0 sg = some (.lst ys)) (sga : sg ≠ a) (m0 : 0 ≤ m) (m9 : m ≤ 1000) (d1 : 1 ≤ deep) (dn : deep ≤ n)
    (q : ∀ (H' : Hp) (v : V) (d : PyData), SmX [a] H0 H' → Src H' a L ns → Dp K H' v d → 1 ≤ lmeas deep.toNat d → lmeas deep.toNat d ≤ m + 1 → Q v H') : spTerm K n [.ref a, .ref sg, .int deep, .ref r] H Q E0 := by
  have ra : r ≠ a := (hs0.ne nr).symm
  have sgr : sg ≠ r := fun z => by rw [z, nr] at hsg0; cases hsg0
  have rL : r ≠ L := fun z => by
    obtain ⟨_, _, _, _, _, e2, _⟩ := hs0
    rw [← z, nr] at e2; cases e2
  have ma : a ∈ [a] := List.mem_singleton.mpr rfl
  refine ⟨a, L, sg, r, ns, deep, m, ys, [r, a], rfl, hs, hsg, y0, y8, hy, hr, sga, sgr, ra, rL, m0, m9, d1, dn, List.mem_cons_of_mem _ ma, List.mem_cons_self .., fun b hb => ?_, fun H' v d m' hd hl m1 m2 _ hs' _ sm => q H' v d (fun b o nb e => ?_) hs' (dp_same hide_same _ _ hd) (by omega) (by omega)⟩
  · rcases List.mem_cons.mp hb with z | z
    · rw [z]; exact ⟨_, hr⟩
    · exact hs.trk b z
  · refine sm b o (fun z => ?_) (s0 b o nb e)
    rcases List.mem_cons.mp z with z | z
    · exact nb (z ▸ ma)
    · exact ne_of_none e nr (List.mem_singleton.mp z)
/-- small terms: at most three deep, at most four letters -/
def sml (d : PyData) : Prop := 1 ≤ lmeas 3 d ∧ lmeas 3 d ≤ 4
theorem lm_up {d : PyData} {n m : Nat} (hn : n ≤ m) (h1 : 1 ≤ lmeas n d) : lmeas m d = lmeas n d := by
  induction hn with
  | refl => rfl
  | step _ ih => rw [lmeas_up _ _ (by rw [ih]; exact h1), ih]
theorem sml_of {d : PyData} {n : Nat} (hn : n ≤ 3) (h1 : 1 ≤ lmeas n d) (h2 : lmeas n d ≤ 4) : sml d := by
  have e := lm_up hn h1
  exact ⟨by rw [e]; exact h1, by rw [e]; exact h2⟩
theorem sml_tm {d : PyData} (h : sml d) : tmB d = true := tm_up (n := 3) (by decide) h.1 (by have := h.2; omega)
theorem let_meas {x : Str} (n : Nat) (h : isL x = true) : lmeas (n + 1) (.str x) = 1 := by
  unfold lmeas
  rw [if_pos (show isLd (.str x) = true from h)]
theorem pair_meas {n : Nat} {op : Str} {a b : PyData} {s t : Int} (ho : isOp (.str op) = true) (ha : lmeas n a = s) (hb : lmeas n b = t) (hs : 1 ≤ s) (ht : 1 ≤ t) : lmeas (n + 1) (.tuple [.str op, a, b]) = s + t :=
  lmeas_tup ho (by simp) (fun d hd => by
    simp only [List.mem_cons, List.not_mem_nil, or_false] at hd
    rcases hd with rfl | rfl
    · rw [ha]; exact hs
    · rw [hb]; exact ht) (by simp [ha, hb])
theorem op_and : isOp (.str "&") = true := by decide +kernel
theorem op_or : isOp (.str "|") = true := by decide +kernel
/-- a small rule -/
def smR (r : PyData) : Prop := ∃ n l r', r = .tuple [.str n, l, r'] ∧ nmS n = true ∧ sml l ∧ sml r'
theorem smR.rl {r : PyData} (h : smR r) : isRl r = true := by
  obtain ⟨n, l, r', rfl, hn, hl, hr⟩ := h
  show (nmS n && (tmB l && tmB r')) = true
  rw [hn, sml_tm hl, sml_tm hr]; rfl
/-- letters to draw from -/
structure Sgs (H : Hp) (sg a : Addr) (ys : List V) : Prop where
  at_ : H sg = some (.lst ys)
  pos : 0 < ys.length
  top : ys.length ≤ 8
  let_ : ∀ y ∈ ys, lett y
  ne : sg ≠ a
theorem Sgs.smx {H H' : Hp} {sg a : Addr} {ys : List V} (h : Sgs H sg a ys) (s : SmX [a] H H') : Sgs H' sg a ys := ⟨s _ _ (fun z => h.ne (List.mem_singleton.mp z)) h.at_, h.pos, h.top, h.let_, h.ne⟩
theorem Sgs.same {H H' : Hp} {sg a : Addr} {ys : List V} (h : Sgs H sg a ys) (s : Same H H') : Sgs H' sg a ys := h.smx (SmX.of_same s)
theorem smx_none {a L : Addr} {ns : List Int} {H H' : Hp} {p : Addr} (s : SmX [a] H H') (hs : Src H' a L ns) (n : H' p = none) : H p = none := by
  cases e : H p with
  | none => rfl
  | some o =>
    by_cases c : p = a
    · obtain ⟨_, _, _, _, e', _⟩ := hs
      rw [c, e'] at n; cases n
    · rw [s _ _ (fun z => c (List.mem_singleton.mp z)) e] at n; cases n
def spPrem (K : PySem.W.Frag) : Sp := fun vs H Q _ => ∃ (a L sg : Addr) (ns : List Int) (ys : List V) (m : Int), vs = [.ref a, .ref sg, .int m] ∧ Src H a L ns ∧ Sgs H sg a ys ∧ 0 ≤ m ∧ m ≤ 11 ∧
  ∀ (H' : Hp) (p : Addr) (xs : List V) (ds : List PyData), H p = none → H' p = some (.lst xs) → DpAll K H' xs ds → (ds.length : Int) ≤ m → (∀ d ∈ ds, smR d) → (ds.map nameOf).Nodup → Src H' a L ns → SmX [a] H H' → Q (.ref p) H'
def spKnown (K : PySem.W.Frag) : Sp := fun vs H Q _ => ∃ (a L sg : Addr) (ns : List Int) (ys : List V), vs = [.ref a, .ref sg] ∧ Src H a L ns ∧ Sgs H sg a ys ∧
  ∀ (H' : Hp) (v : V) (l r : PyData), Dp K H' v (.tuple [l, r]) → tmB l = true → tmB r = true → Src H' a L ns → SmX [a] H H' → Q v H'
def spGoal (K : PySem.W.Frag) : Sp := fun vs H Q _ => ∃ (a L sg pr : Addr) (ns : List Int) (ys xs : List V) (ds : List PyData), vs = [.ref a, .ref sg, .ref pr] ∧ Src H a L ns ∧ Sgs H sg a ys ∧ H pr = some (.lst xs) ∧ pr ≠ a ∧ DpAll K H xs ds ∧ ds.length ≤ 12 ∧ (∀ d ∈ ds, smR d) ∧
  ∀ (H' : Hp) (v : V) (l r : PyData), Dp K H' v (.tuple [l, r]) → tmB l = true → tmB r = true → Src H' a L ns → SmX [a] H H' → Q v H'
section
variable {P : Program} {w : World} {K : PySem.W.Frag} {mg : Str → Option Value} {base : Heap}
theorem ok_premises {f : Addr} {fd : FuncData} {k : Nat} (F : Fun K "_law_premises" "_law_premises" s_law_premises f fd) (hk : 7 ≤ k)
    (C_law_take : Own P w K mg base 1 "_law_take" ["_law_source_here", "_law_many"] spTake)
    (C_law_pick : Own P w K mg base 2 "_law_pick" ["_law_source_here", "_law_row"] spPick)
    (C_law_names : Own P w K mg base 3 "_law_names" ["_law_source_here", "_law_many"] spNames)
    (C_law_term : Own P w K mg base 7 "_law_term" ["_law_source_here", "_law_signs_here", "_law_deep", "_law_room"] (spTerm K 5)) :
    FnOk P w K mg base CX0 (k + 1) f fd ["_law_source_here", "_law_signs_here", "_law_most"] (spPrem K) := by
  refine F.ok sc_law_premises (fun vs H Q E h => ?_) (fun cdv A outer s H vs Q E hr h => ?_)
  · obtain ⟨a, L, sg, ns, ys, m, rfl, _⟩ := h
    rfl
  · obtain ⟨a, L, sg, ns, ys, m, rfl, hs, hg, m0, m11, good⟩ := h
    refine ⟨_, (pss_cons (ps_set (i := 3) sc_law_premises.nd rfl (by first | exact .inl rfl | exact .inr rfl) (pe_lst pa_nil))
      (pss_cons (ps_for PassesOwn.never rfl (pi_list (pe_own C_law_names (hr.mono (by omega)) (by rfl) (pa_cons (pv 0) (pa_cons (pe_own C_law_take (hr.mono (by omega)) (by rfl) (pa_cons (pv 0) (pa_cons (pe_op op_add (pv 2) pe_int) pa_nil))) pa_nil)))) (pg_name (i := 4) sc_law_premises.nd rfl (by first | exact .inl rfl | exact .inr rfl))
        (pss_cons (ps_set (i := 5) sc_law_premises.nd rfl (by first | exact .inl rfl | exact .inr rfl) (pe_own C_law_term (hr.mono (by omega)) (by rfl) (pa_cons (pv 0) (pa_cons (pv 1) (pa_cons (pe_op op_add pe_int (pe_own C_law_take (hr.mono (by omega)) (by rfl) (pa_cons (pv 0) (pa_cons pe_int pa_nil)))) (pa_cons (pe_lst (pa_cons pe_int pa_nil)) pa_nil))))))
        (pss_cons (ps_set (i := 6) sc_law_premises.nd rfl (by first | exact .inl rfl | exact .inr rfl) (pe_own C_law_term (hr.mono (by omega)) (by rfl) (pa_cons (pv 0) (pa_cons (pv 1) (pa_cons (pe_op op_add pe_int (pe_own C_law_take (hr.mono (by omega)) (by rfl) (pa_cons (pv 0) (pa_cons pe_int pa_nil)))) (pa_cons (pe_lst (pa_cons pe_int pa_nil)) pa_nil))))))
        (C8.pss_cut (ps_if (PW.pt (pw_and (pt_cmpR (op_neD hr.units) (pv 3) (pe_lst pa_nil) (nomark _)) (pw_and1 (pt_cmpR op_eq (pe_own C_law_take (hr.mono (by omega)) (by rfl) (pa_cons (pv 0) (pa_cons pe_int pa_nil))) pe_int (nomark _)))))
          (pss_one (ps_set (i := 5) sc_law_premises.nd rfl (by first | exact .inl rfl | exact .inr rfl) (pe_ix ix_tup (pe_own C_law_pick (hr.mono (by omega)) (by rfl) (pa_cons (pv 0) (pa_cons (pv 3) pa_nil))) pe_int (fun _ _ => rfl))))
          pss_nil)
        (pss_one (ps_expr (pe_bm PySem.F.plainAttrs_list PySem.F.slot_list_append PySem.F.type_list_append mt_append (pv 3) (pa_cons (pe_tup (pa_cons (pv 4) (pa_cons (pv 5) (pa_cons (pv 6) pa_nil)))) pa_nil))))))))
      (pss_one (ps_ret (pv 3))))), ?_⟩
    have ma : ∀ {a : Addr}, a ∈ [a] := List.mem_singleton.mpr rfl
    refine ⟨Nat.zero_le _, fun fo nfo => ?_⟩
    have s1 := same_upd (o := .lst []) nfo
    have hs1 := hs.same s1
    have foa : fo ≠ a := (hs.ne nfo).symm
    have foL : fo ≠ L := hs.neL nfo
    have nf : ∀ {b : Addr}, b ≠ a → b ∉ [a] := fun h z => h (List.mem_singleton.mp z)
    have sgfo : sg ≠ fo := fun z => by have := hg.at_; rw [z, nfo] at this; cases this
    refine ⟨_, rfl, _, rfl, _, rfl, _, _, rfl, rfl, a, L, ns, m + 1, rfl, hs1, by omega, by omega, fun H2 t t0 tm hs2 off2 => ?_⟩
    have sm2 : SmX [a] H H2 := (SmX.of_same s1).trans (SmX.at off2 ma)
    have hfo2 : H2 fo = some (.lst []) := (off2 fo foa).trans upd_same
    refine ⟨a, L, ns, t, rfl, hs2, t0, by omega, fun H3 p0 ss lss nss ndss np0 hp0 hs3 sm3 => ?_⟩
    have p0a : p0 ≠ a := (hs2.ne np0).symm
    have p0fo : p0 ≠ fo := fun z => by rw [z, hfo2] at np0; cases np0
    refine ⟨p0, rfl, ⟨_, SqL.of hp0⟩, for_list (xs := ss.map V.str) (fun i σ H5 => ∃ (y4 y5 y6 : Option V) (xs : List V) (ds : List PyData), σ = [some (.ref a), some (.ref sg), some (.int m), some (.ref fo), y4, y5, y6] ∧ Src H5 a L ns ∧ SmX [a] H H5 ∧ H5 p0 = some (.lst (ss.map V.str)) ∧ H5 fo = some (.lst xs) ∧ DpAll K H5 xs ds ∧ ds.map nameOf = ss.take i ∧ ∀ d ∈ ds, smR d) ?_ ?_ ?_ ?_⟩
    · exact ⟨none, none, none, [], [], rfl, hs3, sm2.trans sm3, hp0, sm3 _ _ (nf foa) hfo2, .nil, rfl, (fun d hd => nomatch hd)⟩
    · rintro i σ H5 _ ⟨y4, y5, y6, xs, ds, rfl, _, _, hp5, _⟩
      exact SqL.of hp5
    · rintro i x σ H5 hx ⟨y4, y5, y6, xs, ds, rfl, hs5, sm5, hp5, hfo5, hA5, ed, hsm⟩
      obtain ⟨nm, hnm, rfl⟩ : ∃ nm, ss[i]? = some nm ∧ V.str nm = x := by
        rw [List.getElem?_map] at hx
        cases hv : ss[i]? with
        | none => rw [hv] at hx; cases hx
        | some y => rw [hv] at hx; exact ⟨y, rfl, Option.some.inj hx⟩
      have nmok := nss nm (List.mem_of_getElem? hnm)
      have iL : i < ss.length := (List.getElem?_eq_some_iff.mp hnm).1
      have ld : ds.length ≤ 11 := by
        have := congrArg List.length ed
        rw [List.length_map, List.length_take] at this
        omega
      have lx := dpAll_len hA5
      have kds : ∀ d ∈ ds, kd 9 d = true := fun d hd => rl_kd (hsm d hd).rl
      have hg5 := hg.smx sm5
      -- the left side
      refine ⟨_, rfl, _, rfl, _, rfl, a, L, ns, 3, rfl, hs5, by decide, by decide, fun H6 t1 t10 t13 hs6 off6 => ⟨_, _, rfl, rfl, (by show 1 ≤ sizeLine; decide), fun r nr => ?_⟩⟩
      have sm6 : SmX [a] H5 H6 := SmX.at off6 ma
      have sr := same_upd (o := .lst [.int 2]) nr
      have hg6 := hg5.smx sm6
      refine term_call (H0 := H6) (hs6.same sr) (sr _ _ hg6.at_) hg6.pos hg6.top hg6.let_ upd_same (SmX.of_same sr) nr hs6 hg6.at_ hg6.ne (by decide) (by decide) (by omega) (by omega) fun H7 vl dl sm7 hs7 hdl l1 l2 => ?_
      have sml1 : sml dl := sml_of (n := (1 + t1).toNat) (by omega) l1 (by omega)
      have sm57 := sm6.trans sm7
      have hg7 := hg6.smx sm7
      -- the right side
      refine ⟨_, rfl, _, rfl, _, rfl, a, L, ns, 3, rfl, hs7, by decide, by decide, fun H8 t2 t20 t23 hs8 off8 => ⟨_, _, rfl, rfl, (by show 1 ≤ sizeLine; decide), fun r' nr' => ?_⟩⟩
      have sm8 : SmX [a] H7 H8 := SmX.at off8 ma
      have sr' := same_upd (o := .lst [.int 2]) nr'
      have hg8 := hg7.smx sm8
      refine term_call (H0 := H8) (hs8.same sr') (sr' _ _ hg8.at_) hg8.pos hg8.top hg8.let_ upd_same (SmX.of_same sr') nr' hs8 hg8.at_ hg8.ne (by decide) (by decide) (by omega) (by omega) fun H9 vr dr sm9 hs9 hdr l1' l2' => ?_
      have sml2 : sml dr := sml_of (n := (1 + t2).toNat) (by omega) l1' (by omega)
      have sm79 := sm8.trans sm9
      have sm59 := sm57.trans sm79
      have hfo9 := sm59 _ _ (nf foa) hfo5
      have hA9 := kdl_stay (n := 9) (stay_smx sm59 hs5.lst) kds hA5
      have hdl9 := kdp_stay (stay_smx sm79 hs7.lst) 8 _ _ (tm_tk (sml_tm sml1)).kd hdl
      have hp9 := sm59 _ _ (nf p0a) hp5
      have smH9 := sm5.trans sm59
      clear hdl sm57 sm79 sm8 sm9 off8 off6 sm6 sm7 hg5 hg6 hg7 hg8 nr nr' sr sr' hs6 hs7 hs8 l1 l2 l1' l2'
      -- another left side
      refine ⟨fun σ' H' => ∃ (vl' : V) (dl' : PyData), σ' = [some (.ref a), some (.ref sg), some (.int m), some (.ref fo), some (.str nm), some vl', some vr] ∧ SmX [a] H9 H' ∧ Src H' a L ns ∧ Dp K H' vl' dl' ∧ sml dl', ?_, ?_⟩
      · refine ⟨_, rfl, Nat.zero_le _, fun e0 ne0 => ?_⟩
        have se := same_upd (o := .lst []) ne0
        have gld : gd 20 (.list ds) = true := gd_lst (n := 19) (fun d hd => rl_gd (hsm d hd).rl) (by omega)
        refine ⟨.list ds, .list [], .lst (SqL.of (se _ _ hfo9)) (dpAll_same se _ _ hA9), .lst (SqL.of upd_same) .nil, gd_shaped gld (by decide), by decide +kernel, _, rfl, ?_⟩
        have hsE := hs9.same se
        match ds, hA9, hfo9, hsm, lx, kds with
        | [], _, _, _, _, _ => exact iteF (iteF ⟨vl, dl, rfl, SmX.of_same se, hsE, dp_same se _ _ hdl9, sml1⟩)
        | d0 :: dr', hA9, hfo9, hsm, lx, kds =>
          refine iteT ⟨_, rfl, a, L, ns, 3, rfl, hsE, by decide, by decide, fun HA t3 t30 t33 hsA offA => ⟨rfl, _, rfl, ?_⟩⟩
          have smA : SmX [a] H9 HA := (SmX.of_same se).trans (SmX.at offA ma)
          cases decide (V.int t3 = V.int 0) with
          | false => exact iteF ⟨vl, dl, rfl, smA, hsA, kdp_stay (stay_smx smA hs9.lst) 8 _ _ (tm_tk (sml_tm sml1)).kd hdl9, sml1⟩
          | true =>
            have hfoA := smA _ _ (nf foa) hfo9
            refine iteT ⟨_, rfl, _, rfl, a, L, fo, ns, xs, rfl, hsA, foa, hfoA, by rw [lx]; exact Nat.succ_pos _, by rw [lx]; omega, fun HB v mv hsB offB => ?_⟩
            have smB : SmX [a] H9 HB := smA.trans (SmX.at offB ma)
            obtain ⟨j, hj, ev⟩ := List.mem_iff_getElem.mp mv
            have hAB := kdl_stay (n := 9) (stay_smx smB hs9.lst) kds hA9
            obtain ⟨d', hd', hDv⟩ := dpAll_get hAB (show xs[j]? = some v by rw [List.getElem?_eq_getElem hj, ev])
            have md' := List.mem_of_getElem? hd'
            obtain ⟨n', l', r', rfl, hn', sl', sr'⟩ := hsm d' md'
            obtain ⟨b, x1, x2, l2, r2, rfl, hsb, ed', h1, h2, _⟩ := rl_v hDv (hsm _ md').rl
            have e2 : r' = r2 := by
              have := (PyData.tuple.inj ed')
              simp at this
              exact this.2.2
            subst e2
            exact ⟨b, _, _, _, rfl, rfl, hsb, atI_nat (j := 2) rfl, x2, r', rfl, smB, hsB, h2, sr'⟩
      · rintro σ' HA ⟨vl', dl', rfl, smA, hsA, hdlA, sml1'⟩
        have hfoA := smA _ _ (nf foa) hfo9
        have hAA := kdl_stay (n := 9) (stay_smx smA hs9.lst) kds hA9
        have hdrA := kdp_stay (stay_smx smA hs9.lst) 8 _ _ (tm_tk (sml_tm sml2)).kd hdr
        have hpA := smA _ _ (nf p0a) hp9
        refine ⟨_, rfl, .inl ⟨rfl, _, SqL.of hfoA⟩, _, rfl, _, rfl, _, rfl, (by show 3 ≤ sizeLine; decide), fun T nT => ?_⟩
        have sT := same_upd (o := .tup [.str nm, vl', vr]) nT
        have hfoT := sT _ _ hfoA
        have rl' : smR (.tuple [.str nm, dl', dr]) := ⟨nm, dl', dr, rfl, nmok, sml1', sml2⟩
        have stP : Stay _ (upd (upd HA T (.tup [.str nm, vl', vr])) fo (.lst (xs ++ [.ref T]))) := stay_lst hfoT
        refine ⟨fo, xs, .ref T, rfl, rfl, hfoT, small1000 (by omega), ?_⟩
        refine ⟨_, _, _, xs ++ [.ref T], ds ++ [.tuple [.str nm, dl', dr]], rfl, (hsA.same sT).put foa foL, fun b o nb e => ?_, ?_, upd_same, ?_, ?_, fun d hd => ?_⟩
        · rw [upd_ne (ne_of_none e nfo)]
          exact sT _ _ (smA _ _ nb (smH9 _ _ nb e))
        · rw [upd_ne p0fo]
          exact sT _ _ hpA
        · exact dpAll_app (kdl_stay (n := 9) stP kds (dpAll_same sT _ _ hAA)) (.cons (kdp_stay stP 9 _ _ (rl_kd rl'.rl) (.tup (SqT.of upd_same) (.cons (.str _) (.cons (dp_same sT _ _ hdlA) (.cons (dp_same sT _ _ hdrA) .nil))))) .nil)
        · rw [List.map_append, ed, List.take_add_one, hnm]
          rfl
        · rcases List.mem_append.mp hd with z | z
          · exact hsm d z
          · rw [List.mem_singleton.mp z]; exact rl'
    · rintro σ H5 ⟨y4, y5, y6, xs, ds, rfl, hs5, sm5, hp5, hfo5, hA5, ed, hsm⟩
      rw [List.length_map, List.take_length] at ed
      have ld := congrArg List.length ed
      rw [List.length_map] at ld
      exact ⟨_, rfl, good H5 fo xs ds nfo hfo5 hA5 (by omega) hsm (by rw [ed]; exact ndss) hs5 sm5⟩
end
end Fv


namespace Fv
open PySem PySem.Spec PyProof.Rows L2 GenW FvX FvD FvG FvW TL
-- top 62  slots: 0:_law_source_here 1:_law_most 2:_law_words_here 3:_law_signs_here 4:_law_premises_here 5:_law_aim
abbrev s_law_scene : Stmt := topS 62
abbrev N_law_scene : List Str := ["_law_source_here", "_law_most", "_law_words_here", "_law_signs_here", "_law_premises_here", "_law_aim"]
theorem sc_law_scene : FnScope N_law_scene ["_law_source_here", "_law_most", "_law_words_here"] (defScope s_law_scene) := ⟨rfl, rfl, rfl, by decide +kernel, rfl, by decide +kernel, by decide +kernel⟩

theorem tm_eq {d : PyData} {t : Int} (h : lmeas 5 d = t) (h1 : 1 ≤ t) (h2 : t ≤ 24) : tmB d = true := tm_up (n := 5) (by decide) (by rw [h]; exact h1) (by rw [h]; exact h2)
theorem lett_L {v : V} (h : lett v) : ∃ x : Str, v = .str x ∧ isL x = true := by
  obtain ⟨x, e, hx⟩ := lett_data h
  exact ⟨x, e, (isL_lett hx).1⟩
theorem kn1 {x y z : Str} (hx : isL x = true) (hy : isL y = true) (hz : isL z = true) : tmB (.tuple [.str "&", .str x, .tuple [.str "|", .str y, .str z]]) = true ∧ tmB (.tuple [.str "|", .tuple [.str "&", .str x, .str y], .tuple [.str "&", .str x, .str z]]) = true :=
  ⟨tm_eq (pair_meas op_and (let_meas 3 hx) (pair_meas op_or (let_meas 2 hy) (let_meas 2 hz) (by decide) (by decide)) (by decide) (by decide)) (by decide) (by decide), tm_eq (pair_meas op_or (pair_meas op_and (let_meas 2 hx) (let_meas 2 hy) (by decide) (by decide)) (pair_meas op_and (let_meas 2 hx) (let_meas 2 hz) (by decide) (by decide)) (by decide) (by decide)) (by decide) (by decide)⟩
theorem kn2 {x y z : Str} (hx : isL x = true) (hy : isL y = true) (hz : isL z = true) : tmB (.tuple [.str "&", .tuple [.str "|", .str x, .tuple [.str "&", .str y, .str z]], .tuple [.str "|", .str y, .str z]]) = true ∧ tmB (.tuple [.str "|", .tuple [.str "&", .str x, .tuple [.str "|", .str y, .str z]], .tuple [.str "&", .str y, .str z]]) = true :=
  ⟨tm_eq (pair_meas op_and (pair_meas op_or (let_meas 2 hx) (pair_meas op_and (let_meas 1 hy) (let_meas 1 hz) (by decide) (by decide)) (by decide) (by decide)) (pair_meas op_or (let_meas 2 hy) (let_meas 2 hz) (by decide) (by decide)) (by decide) (by decide)) (by decide) (by decide), tm_eq (pair_meas op_or (pair_meas op_and (let_meas 2 hx) (pair_meas op_or (let_meas 1 hy) (let_meas 1 hz) (by decide) (by decide)) (by decide) (by decide)) (pair_meas op_and (let_meas 2 hy) (let_meas 2 hz) (by decide) (by decide)) (by decide) (by decide)) (by decide) (by decide)⟩
theorem kn3 {x y z : Str} (hx : isL x = true) (hy : isL y = true) (hz : isL z = true) : tmB (.tuple [.str "&", .tuple [.str "|", .str x, .str y], .tuple [.str "|", .str x, .str z]]) = true ∧ tmB (.tuple [.str "|", .str x, .tuple [.str "&", .str y, .str z]]) = true :=
  ⟨tm_eq (pair_meas op_and (pair_meas op_or (let_meas 2 hx) (let_meas 2 hy) (by decide) (by decide)) (pair_meas op_or (let_meas 2 hx) (let_meas 2 hz) (by decide) (by decide)) (by decide) (by decide)) (by decide) (by decide), tm_eq (pair_meas op_or (let_meas 3 hx) (pair_meas op_and (let_meas 2 hy) (let_meas 2 hz) (by decide) (by decide)) (by decide) (by decide)) (by decide) (by decide)⟩
theorem kn4 {x y z : Str} (hx : isL x = true) (hy : isL y = true) (hz : isL z = true) : tmB (.tuple [.str "&", .str x, .tuple [.str "|", .str y, .tuple [.str "&", .str x, .str z]]]) = true ∧ tmB (.tuple [.str "|", .tuple [.str "&", .str x, .str y], .tuple [.str "&", .str x, .str z]]) = true :=
  ⟨tm_eq (pair_meas op_and (let_meas 3 hx) (pair_meas op_or (let_meas 2 hy) (pair_meas op_and (let_meas 1 hx) (let_meas 1 hz) (by decide) (by decide)) (by decide) (by decide)) (by decide) (by decide)) (by decide) (by decide), tm_eq (pair_meas op_or (pair_meas op_and (let_meas 2 hx) (let_meas 2 hy) (by decide) (by decide)) (pair_meas op_and (let_meas 2 hx) (let_meas 2 hz) (by decide) (by decide)) (by decide) (by decide)) (by decide) (by decide)⟩
theorem bad_ok : ∀ (rs : List PyData) (ns : List Str) (i : Nat), (∀ r ∈ rs, isRl r = true) → (ns ++ rs.map nameOf).Nodup → badAt ns i rs = none
  | [], _, _, _, _ => rfl
  | r :: rs, ns, i, h, nd => by
    have nn : nameOf r ∉ ns := fun z => by
      rw [List.map_cons, List.nodup_append] at nd
      exact nd.2.2 _ z _ (List.mem_cons_self ..) rfl
    have ok : okR ns r = true := by
      unfold okR
      rw [h r List.mem_cons_self, decide_eq_false nn]
      rfl
    unfold badAt
    rw [if_pos ok]
    refine bad_ok rs _ _ (fun x hx => h x (List.mem_cons_of_mem _ hx)) ?_
    rw [List.append_assoc]
    exact nd
theorem rErr_ok {ds : List PyData} (h : ∀ r ∈ ds, isRl r = true) (nd : (ds.map nameOf).Nodup) (hl : ds.length ≤ 12) (d : PyData) (hd : d = .list ds ∨ d = .tuple ds) : rErr d = none := by
  have e : badAt [] 0 ds = none := bad_ok ds [] 0 h nd
  rcases hd with rfl | rfl
  · show (if ds.length ≤ 12 then (badAt [] 0 ds).map Int.ofNat else some 12) = none
    rw [if_pos hl, e]; rfl
  · show (if ds.length ≤ 12 then (badAt [] 0 ds).map Int.ofNat else some 12) = none
    rw [if_pos hl, e]; rfl
/-- a question: rules and a goal -/
structure Scn (K : PySem.W.Frag) (H : Hp) (p : Addr) (va : V) (ds : List PyData) (l r : PyData) (m w : Nat) : Prop where
  ls : ∃ xs, H p = some (.lst xs) ∧ DpAll K H xs ds
  rl : ∀ d ∈ ds, isRl d = true
  nd : (ds.map nameOf).Nodup
  ln : ds.length ≤ m
  gl : Dp K H va (.tuple [l, r])
  tl : tmB l = true
  tr : tmB r = true
  cn : cnt (.list ds) (.tuple [l, r]) ≤ w
def spScene (K : PySem.W.Frag) : Sp := fun vs H Q _ => ∃ (a L : Addr) (ns : List Int) (m w : Nat), vs = [.ref a, .int (m : Nat), .int (w : Nat)] ∧ Src H a L ns ∧ m ≤ 7 ∧ 4 ≤ w ∧ w ≤ 24 ∧
  ∀ (H' : Hp) (T p : Addr) (va : V) (ds : List PyData) (l r : PyData), H' T = some (.tup [.ref p, va]) → H p = none → Scn K H' p va ds l r m w → Src H' a L ns → SmX [a] H H' → Q (.ref T) H'
theorem cnt_small4 {x y z : Str} : cnt (.list []) (.tuple [.str x, .tuple [.str "|", .str y, .str z]]) ≤ 4 := by
  unfold cnt allD
  have a := once_len ((sidesOf (.list []) (goalOf (.tuple [.str x, .tuple [.str "|", .str y, .str z]]))).flatMap fun s => onceD (pre s))
  refine Nat.le_trans a ?_
  show (onceD (pre (.str x)) ++ (onceD (pre (.tuple [.str "|", .str y, .str z])) ++ [])).length ≤ 4
  have b := once_len (pre (.str x))
  have c := once_len (pre (.tuple [.str "|", .str y, .str z]))
  have b' : (pre (.str x)).length = 1 := rfl
  have c' : (pre (.tuple [.str "|", .str y, .str z])).length = 3 := rfl
  simp only [List.length_append, List.length_nil]
  omega
section
variable {P : Program} {w : World} {K : PySem.W.Frag} {mg : Str → Option Value} {base : Heap}
set_option maxHeartbeats 2000000 in
theorem ok_known {f : Addr} {fd : FuncData} {k : Nat} (F : Fun K "_law_known_goal" "_law_known_goal" s_law_known_goal f fd) (hk : 2 ≤ k) (m_range : mg "range" = none)
    (C_law_pick : Own P w K mg base 2 "_law_pick" ["_law_source_here", "_law_row"] spPick) :
    FnOk P w K mg base CX0 (k + 1) f fd ["_law_source_here", "_law_signs_here"] (spKnown K) := by
  refine F.ok sc_law_known_goal (fun vs H Q E h => ?_) (fun cdv A outer s H vs Q E hr h => ?_)
  · obtain ⟨a, L, sg, ns, ys, rfl, _⟩ := h
    rfl
  · obtain ⟨a, L, sg, ns, ys, rfl, hs, hg, good⟩ := h
    refine ⟨_, (pss_cons (ps_asg (pe_lc (own := [("_law_k", 5)]) (g := gName 5) (by rfl) sc_law_known_goal.nd (pi_range1 (by rfl) m_range (pa_cons pe_int pa_nil)) (blkOk_by (own := [("_law_k", 5)]) (N := N_law_known_goal) (sc := defScope s_law_known_goal) (by decide +kernel)) (fun _ _ _ _ _ => pg_name (i := 5) sc_law_known_goal.nd rfl (Or.inl rfl)) (fun _ _ _ _ _ => pts_nil) (fun _ _ _ _ _ => (pe_own C_law_pick (hr.mono (by omega)) (by rfl) (pa_cons (pv 0) (pa_cons (pv 1) pa_nil))))) (pg_lst rfl (pgs_cons (pg_name (i := 2) sc_law_known_goal.nd rfl (by first | exact .inl rfl | exact .inr rfl)) (pgs_cons (pg_name (i := 3) sc_law_known_goal.nd rfl (by first | exact .inl rfl | exact .inr rfl)) (pgs_cons (pg_name (i := 4) sc_law_known_goal.nd rfl (by first | exact .inl rfl | exact .inr rfl)) pgs_nil)))))
      (pss_cons (ps_set (i := 6) sc_law_known_goal.nd rfl (by first | exact .inl rfl | exact .inr rfl) (pe_lst (pa_cons (pe_tup (pa_cons (pe_tup (pa_cons pe_str (pa_cons (pv 2) (pa_cons (pe_tup (pa_cons pe_str (pa_cons (pv 3) (pa_cons (pv 4) pa_nil)))) pa_nil)))) (pa_cons (pe_tup (pa_cons pe_str (pa_cons (pe_tup (pa_cons pe_str (pa_cons (pv 2) (pa_cons (pv 3) pa_nil)))) (pa_cons (pe_tup (pa_cons pe_str (pa_cons (pv 2) (pa_cons (pv 4) pa_nil)))) pa_nil)))) pa_nil))) pa_nil)))
      (pss_cons (ps_expr (pe_bm PySem.F.plainAttrs_list PySem.F.slot_list_append PySem.F.type_list_append mt_append (pv 6) (pa_cons (pe_tup (pa_cons (pe_tup (pa_cons pe_str (pa_cons (pe_tup (pa_cons pe_str (pa_cons (pv 2) (pa_cons (pe_tup (pa_cons pe_str (pa_cons (pv 3) (pa_cons (pv 4) pa_nil)))) pa_nil)))) (pa_cons (pe_tup (pa_cons pe_str (pa_cons (pv 3) (pa_cons (pv 4) pa_nil)))) pa_nil)))) (pa_cons (pe_tup (pa_cons pe_str (pa_cons (pe_tup (pa_cons pe_str (pa_cons (pv 2) (pa_cons (pe_tup (pa_cons pe_str (pa_cons (pv 3) (pa_cons (pv 4) pa_nil)))) pa_nil)))) (pa_cons (pe_tup (pa_cons pe_str (pa_cons (pv 3) (pa_cons (pv 4) pa_nil)))) pa_nil)))) pa_nil))) pa_nil)))
      (pss_cons (ps_expr (pe_bm PySem.F.plainAttrs_list PySem.F.slot_list_append PySem.F.type_list_append mt_append (pv 6) (pa_cons (pe_tup (pa_cons (pe_tup (pa_cons pe_str (pa_cons (pe_tup (pa_cons pe_str (pa_cons (pv 2) (pa_cons (pv 3) pa_nil)))) (pa_cons (pe_tup (pa_cons pe_str (pa_cons (pv 2) (pa_cons (pv 4) pa_nil)))) pa_nil)))) (pa_cons (pe_tup (pa_cons pe_str (pa_cons (pv 2) (pa_cons (pe_tup (pa_cons pe_str (pa_cons (pv 3) (pa_cons (pv 4) pa_nil)))) pa_nil)))) pa_nil))) pa_nil)))
      (pss_cons (ps_expr (pe_bm PySem.F.plainAttrs_list PySem.F.slot_list_append PySem.F.type_list_append mt_append (pv 6) (pa_cons (pe_tup (pa_cons (pe_tup (pa_cons pe_str (pa_cons (pv 2) (pa_cons (pe_tup (pa_cons pe_str (pa_cons (pv 3) (pa_cons (pe_tup (pa_cons pe_str (pa_cons (pv 2) (pa_cons (pv 4) pa_nil)))) pa_nil)))) pa_nil)))) (pa_cons (pe_tup (pa_cons pe_str (pa_cons (pe_tup (pa_cons pe_str (pa_cons (pv 2) (pa_cons (pv 3) pa_nil)))) (pa_cons (pe_tup (pa_cons pe_str (pa_cons (pv 2) (pa_cons (pv 4) pa_nil)))) pa_nil)))) pa_nil))) pa_nil)))
      (pss_one (ps_ret (pe_own C_law_pick (hr.mono (by omega)) (by rfl) (pa_cons (pv 0) (pa_cons (pv 6) pa_nil)))))))))), ?_⟩
    have ma : ∀ {a : Addr}, a ∈ [a] := List.mem_singleton.mpr rfl
    refine ⟨3, rfl, by decide, by decide, fun D nD => lc_range (lo := 0) (n := (3 : Int).toNat) (fun i Hi => SmX [a] H Hi ∧ Src Hi a L ns ∧ ∃ zs, Hi D = some (.lst zs) ∧ zs.length = i ∧ ∀ z ∈ zs, lett z) ?_ ?_ ?_⟩
    · exact ⟨SmX.of_same (same_upd nD), hs.same (same_upd nD), [], upd_same, rfl, (fun z hz => nomatch hz)⟩
    · rintro i Hi hi ⟨smi, hsi, zs, hDi, li, lz⟩
      refine ⟨rfl, ?_⟩
      dsimp only [tYes]
      rw [if_pos rfl]
      have hgi := hg.smx smi
      refine ⟨_, rfl, _, rfl, a, L, sg, ns, ys, rfl, hsi, hgi.ne, hgi.at_, hgi.pos, by have := hgi.top; omega, fun Hj v mv hsj offj => ?_⟩
      have Da : D ≠ a := (hs.ne nD).symm
      have hDj : Hj D = some (.lst zs) := (offj D Da).trans hDi
      refine ⟨zs, hDj, small1000 (by have : i < 3 := hi; omega), fun b o nb e => ?_, hsj.put Da (hs.neL nD), zs ++ [v], upd_same, by rw [List.length_append, li]; rfl, fun z hz => ?_⟩
      · rw [upd_ne (ne_of_none e nD)]
        exact (SmX.at offj ma) _ _ nb (smi _ _ nb e)
      · rcases List.mem_append.mp hz with q | q
        · exact lz z q
        · rw [List.mem_singleton.mp q]; exact hgi.let_ v mv
    rintro H3 ⟨smc, hsc, zs, hD3, l3, lz⟩
    obtain ⟨z1, z2, z3, rfl⟩ : ∃ z1 z2 z3, zs = [z1, z2, z3] := by
      match zs, l3 with
      | [a, b, c], _ => exact ⟨a, b, c, rfl⟩
    obtain ⟨x, rfl, hx⟩ := lett_L (lz z1 (by simp))
    obtain ⟨y, rfl, hy⟩ := lett_L (lz z2 (by simp))
    obtain ⟨z, rfl, hz⟩ := lett_L (lz z3 (by simp))
    refine ⟨D, _, rfl, SqL.of hD3, rfl, _, _, rfl, _, _, rfl, _, _, rfl, rfl, ?_⟩
    clear hD3 lz l3
    refine ⟨_, rfl, _, rfl, _, rfl, (by show 3 ≤ sizeLine; decide), fun p1 np1 => ?_⟩
    have s1 := same_upd (o := .tup [.str "|", .str y, .str z]) np1
    have d1 : Dp K (upd H3 p1 (.tup [.str "|", .str y, .str z])) (.ref p1) (.tuple [.str "|", .str y, .str z]) := .tup (SqT.of upd_same) (dpAll_same s1 _ _ (.cons (.str _) (.cons (.str _) (.cons (.str _) .nil))))
    have smc := smc.trans (SmX.of_same (M := [a]) s1)
    have hsc := hsc.same s1
    generalize upd H3 p1 (.tup [.str "|", .str y, .str z]) = H_1 at *
    clear s1
    refine ⟨(by show 3 ≤ sizeLine; decide), fun p2 np2 => ?_⟩
    have s2 := same_upd (o := .tup [.str "&", .str x, .ref p1]) np2
    have d2 : Dp K (upd H_1 p2 (.tup [.str "&", .str x, .ref p1])) (.ref p2) (.tuple [.str "&", .str x, .tuple [.str "|", .str y, .str z]]) := .tup (SqT.of upd_same) (dpAll_same s2 _ _ (.cons (.str _) (.cons (.str _) (.cons d1 .nil))))
    have smc := smc.trans (SmX.of_same (M := [a]) s2)
    have hsc := hsc.same s2
    generalize upd H_1 p2 (.tup [.str "&", .str x, .ref p1]) = H_2 at *
    clear s2
    refine ⟨_, rfl, _, rfl, (by show 3 ≤ sizeLine; decide), fun p3 np3 => ?_⟩
    have s3 := same_upd (o := .tup [.str "&", .str x, .str y]) np3
    have d3 : Dp K (upd H_2 p3 (.tup [.str "&", .str x, .str y])) (.ref p3) (.tuple [.str "&", .str x, .str y]) := .tup (SqT.of upd_same) (dpAll_same s3 _ _ (.cons (.str _) (.cons (.str _) (.cons (.str _) .nil))))
    have d2 := dp_same s3 _ _ d2
    have smc := smc.trans (SmX.of_same (M := [a]) s3)
    have hsc := hsc.same s3
    generalize upd H_2 p3 (.tup [.str "&", .str x, .str y]) = H_3 at *
    clear s3
    refine ⟨_, rfl, _, rfl, (by show 3 ≤ sizeLine; decide), fun p4 np4 => ?_⟩
    have s4 := same_upd (o := .tup [.str "&", .str x, .str z]) np4
    have d4 : Dp K (upd H_3 p4 (.tup [.str "&", .str x, .str z])) (.ref p4) (.tuple [.str "&", .str x, .str z]) := .tup (SqT.of upd_same) (dpAll_same s4 _ _ (.cons (.str _) (.cons (.str _) (.cons (.str _) .nil))))
    have d2 := dp_same s4 _ _ d2
    have d3 := dp_same s4 _ _ d3
    have smc := smc.trans (SmX.of_same (M := [a]) s4)
    have hsc := hsc.same s4
    generalize upd H_3 p4 (.tup [.str "&", .str x, .str z]) = H_4 at *
    clear s4
    refine ⟨(by show 3 ≤ sizeLine; decide), fun p5 np5 => ?_⟩
    have s5 := same_upd (o := .tup [.str "|", .ref p3, .ref p4]) np5
    have d5 : Dp K (upd H_4 p5 (.tup [.str "|", .ref p3, .ref p4])) (.ref p5) (.tuple [.str "|", .tuple [.str "&", .str x, .str y], .tuple [.str "&", .str x, .str z]]) := .tup (SqT.of upd_same) (dpAll_same s5 _ _ (.cons (.str _) (.cons d3 (.cons d4 .nil))))
    have d2 := dp_same s5 _ _ d2
    have smc := smc.trans (SmX.of_same (M := [a]) s5)
    have hsc := hsc.same s5
    generalize upd H_4 p5 (.tup [.str "|", .ref p3, .ref p4]) = H_5 at *
    clear s5
    refine ⟨(by show 2 ≤ sizeLine; decide), fun p6 np6 => ?_⟩
    have s6 := same_upd (o := .tup [.ref p2, .ref p5]) np6
    have d6 : Dp K (upd H_5 p6 (.tup [.ref p2, .ref p5])) (.ref p6) (.tuple [.tuple [.str "&", .str x, .tuple [.str "|", .str y, .str z]], .tuple [.str "|", .tuple [.str "&", .str x, .str y], .tuple [.str "&", .str x, .str z]]]) := .tup (SqT.of upd_same) (dpAll_same s6 _ _ (.cons d2 (.cons d5 .nil)))
    have smc := smc.trans (SmX.of_same (M := [a]) s6)
    have hsc := hsc.same s6
    generalize upd H_5 p6 (.tup [.ref p2, .ref p5]) = H_6 at *
    clear s6
    refine ⟨(by show 1 ≤ sizeLine; decide), fun so nso => ?_⟩
    have sso := same_upd (o := .lst [.ref p6]) nso
    have nsoH : H so = none := smx_none smc hsc nso
    have soa : so ≠ a := (hsc.ne nso).symm
    have soL : so ≠ L := hsc.neL nso
    have d6 := dp_same sso _ _ d6
    have smc := smc.trans (SmX.of_same (M := [a]) sso)
    have hsc := hsc.same sso
    have hso : upd H_6 so (.lst [.ref p6]) so = some (.lst [.ref p6]) := upd_same
    generalize upd H_6 so (.lst [.ref p6]) = Hs0 at *
    clear sso
    refine ⟨_, rfl, .inl ⟨rfl, _, SqL.of hso⟩, _, rfl, _, rfl, _, rfl, (by show 3 ≤ sizeLine; decide), fun p7 np7 => ?_⟩
    have s7 := same_upd (o := .tup [.str "&", .str y, .str z]) np7
    have d7 : Dp K (upd Hs0 p7 (.tup [.str "&", .str y, .str z])) (.ref p7) (.tuple [.str "&", .str y, .str z]) := .tup (SqT.of upd_same) (dpAll_same s7 _ _ (.cons (.str _) (.cons (.str _) (.cons (.str _) .nil))))
    have d6 := dp_same s7 _ _ d6
    have smc := smc.trans (SmX.of_same (M := [a]) s7)
    have hsc := hsc.same s7
    have hso := s7 _ _ hso
    generalize upd Hs0 p7 (.tup [.str "&", .str y, .str z]) = H_7 at *
    clear s7
    refine ⟨(by show 3 ≤ sizeLine; decide), fun p8 np8 => ?_⟩
    have s8 := same_upd (o := .tup [.str "|", .str x, .ref p7]) np8
    have d8 : Dp K (upd H_7 p8 (.tup [.str "|", .str x, .ref p7])) (.ref p8) (.tuple [.str "|", .str x, .tuple [.str "&", .str y, .str z]]) := .tup (SqT.of upd_same) (dpAll_same s8 _ _ (.cons (.str _) (.cons (.str _) (.cons d7 .nil))))
    have d6 := dp_same s8 _ _ d6
    have smc := smc.trans (SmX.of_same (M := [a]) s8)
    have hsc := hsc.same s8
    have hso := s8 _ _ hso
    generalize upd H_7 p8 (.tup [.str "|", .str x, .ref p7]) = H_8 at *
    clear s8
    refine ⟨_, rfl, _, rfl, (by show 3 ≤ sizeLine; decide), fun p9 np9 => ?_⟩
    have s9 := same_upd (o := .tup [.str "|", .str y, .str z]) np9
    have d9 : Dp K (upd H_8 p9 (.tup [.str "|", .str y, .str z])) (.ref p9) (.tuple [.str "|", .str y, .str z]) := .tup (SqT.of upd_same) (dpAll_same s9 _ _ (.cons (.str _) (.cons (.str _) (.cons (.str _) .nil))))
    have d6 := dp_same s9 _ _ d6
    have d8 := dp_same s9 _ _ d8
    have smc := smc.trans (SmX.of_same (M := [a]) s9)
    have hsc := hsc.same s9
    have hso := s9 _ _ hso
    generalize upd H_8 p9 (.tup [.str "|", .str y, .str z]) = H_9 at *
    clear s9
    refine ⟨(by show 3 ≤ sizeLine; decide), fun p10 np10 => ?_⟩
    have s10 := same_upd (o := .tup [.str "&", .ref p8, .ref p9]) np10
    have d10 : Dp K (upd H_9 p10 (.tup [.str "&", .ref p8, .ref p9])) (.ref p10) (.tuple [.str "&", .tuple [.str "|", .str x, .tuple [.str "&", .str y, .str z]], .tuple [.str "|", .str y, .str z]]) := .tup (SqT.of upd_same) (dpAll_same s10 _ _ (.cons (.str _) (.cons d8 (.cons d9 .nil))))
    have d6 := dp_same s10 _ _ d6
    have smc := smc.trans (SmX.of_same (M := [a]) s10)
    have hsc := hsc.same s10
    have hso := s10 _ _ hso
    generalize upd H_9 p10 (.tup [.str "&", .ref p8, .ref p9]) = H_10 at *
    clear s10
    refine ⟨_, rfl, _, rfl, _, rfl, (by show 3 ≤ sizeLine; decide), fun p11 np11 => ?_⟩
    have s11 := same_upd (o := .tup [.str "|", .str y, .str z]) np11
    have d11 : Dp K (upd H_10 p11 (.tup [.str "|", .str y, .str z])) (.ref p11) (.tuple [.str "|", .str y, .str z]) := .tup (SqT.of upd_same) (dpAll_same s11 _ _ (.cons (.str _) (.cons (.str _) (.cons (.str _) .nil))))
    have d6 := dp_same s11 _ _ d6
    have d10 := dp_same s11 _ _ d10
    have smc := smc.trans (SmX.of_same (M := [a]) s11)
    have hsc := hsc.same s11
    have hso := s11 _ _ hso
    generalize upd H_10 p11 (.tup [.str "|", .str y, .str z]) = H_11 at *
    clear s11
    refine ⟨(by show 3 ≤ sizeLine; decide), fun p12 np12 => ?_⟩
    have s12 := same_upd (o := .tup [.str "&", .str x, .ref p11]) np12
    have d12 : Dp K (upd H_11 p12 (.tup [.str "&", .str x, .ref p11])) (.ref p12) (.tuple [.str "&", .str x, .tuple [.str "|", .str y, .str z]]) := .tup (SqT.of upd_same) (dpAll_same s12 _ _ (.cons (.str _) (.cons (.str _) (.cons d11 .nil))))
    have d6 := dp_same s12 _ _ d6
    have d10 := dp_same s12 _ _ d10
    have smc := smc.trans (SmX.of_same (M := [a]) s12)
    have hsc := hsc.same s12
    have hso := s12 _ _ hso
    generalize upd H_11 p12 (.tup [.str "&", .str x, .ref p11]) = H_12 at *
    clear s12
    refine ⟨_, rfl, _, rfl, (by show 3 ≤ sizeLine; decide), fun p13 np13 => ?_⟩
    have s13 := same_upd (o := .tup [.str "&", .str y, .str z]) np13
    have d13 : Dp K (upd H_12 p13 (.tup [.str "&", .str y, .str z])) (.ref p13) (.tuple [.str "&", .str y, .str z]) := .tup (SqT.of upd_same) (dpAll_same s13 _ _ (.cons (.str _) (.cons (.str _) (.cons (.str _) .nil))))
    have d6 := dp_same s13 _ _ d6
    have d10 := dp_same s13 _ _ d10
    have d12 := dp_same s13 _ _ d12
    have smc := smc.trans (SmX.of_same (M := [a]) s13)
    have hsc := hsc.same s13
    have hso := s13 _ _ hso
    generalize upd H_12 p13 (.tup [.str "&", .str y, .str z]) = H_13 at *
    clear s13
    refine ⟨(by show 3 ≤ sizeLine; decide), fun p14 np14 => ?_⟩
    have s14 := same_upd (o := .tup [.str "|", .ref p12, .ref p13]) np14
    have d14 : Dp K (upd H_13 p14 (.tup [.str "|", .ref p12, .ref p13])) (.ref p14) (.tuple [.str "|", .tuple [.str "&", .str x, .tuple [.str "|", .str y, .str z]], .tuple [.str "&", .str y, .str z]]) := .tup (SqT.of upd_same) (dpAll_same s14 _ _ (.cons (.str _) (.cons d12 (.cons d13 .nil))))
    have d6 := dp_same s14 _ _ d6
    have d10 := dp_same s14 _ _ d10
    have smc := smc.trans (SmX.of_same (M := [a]) s14)
    have hsc := hsc.same s14
    have hso := s14 _ _ hso
    generalize upd H_13 p14 (.tup [.str "|", .ref p12, .ref p13]) = H_14 at *
    clear s14
    refine ⟨(by show 2 ≤ sizeLine; decide), fun p15 np15 => ?_⟩
    have s15 := same_upd (o := .tup [.ref p10, .ref p14]) np15
    have d15 : Dp K (upd H_14 p15 (.tup [.ref p10, .ref p14])) (.ref p15) (.tuple [.tuple [.str "&", .tuple [.str "|", .str x, .tuple [.str "&", .str y, .str z]], .tuple [.str "|", .str y, .str z]], .tuple [.str "|", .tuple [.str "&", .str x, .tuple [.str "|", .str y, .str z]], .tuple [.str "&", .str y, .str z]]]) := .tup (SqT.of upd_same) (dpAll_same s15 _ _ (.cons d10 (.cons d14 .nil)))
    have d6 := dp_same s15 _ _ d6
    have smc := smc.trans (SmX.of_same (M := [a]) s15)
    have hsc := hsc.same s15
    have hso := s15 _ _ hso
    generalize upd H_14 p15 (.tup [.ref p10, .ref p14]) = H_15 at *
    clear s15
    refine ⟨so, _, _, rfl, rfl, hso, small1000 (by show 1 ≤ 1000; decide), ?_⟩
    have sta : Stay H_15 (upd H_15 so (.lst ([.ref p6] ++ [.ref p15]))) := stay_lst hso
    have d6 := kdp_stay sta 9 _ _ (pair_kd (tm_tk (kn1 hx hy hz).1) (tm_tk (kn1 hx hy hz).2)) d6
    have d15 := kdp_stay sta 9 _ _ (pair_kd (tm_tk (kn2 hx hy hz).1) (tm_tk (kn2 hx hy hz).2)) d15
    have smc : SmX [a] H (upd H_15 so (.lst ([.ref p6] ++ [.ref p15]))) := fun b o nb e => by rw [upd_ne (ne_of_none e nsoH)]; exact smc b o nb e
    have hsc := hsc.put (o := .lst ([.ref p6] ++ [.ref p15])) soa soL
    have hso : upd H_15 so (.lst ([.ref p6] ++ [.ref p15])) so = some (.lst [.ref p6, .ref p15]) := upd_same
    generalize upd H_15 so (.lst ([.ref p6] ++ [.ref p15])) = Hs1 at *
    clear sta
    refine ⟨_, rfl, .inl ⟨rfl, _, SqL.of hso⟩, _, rfl, _, rfl, (by show 3 ≤ sizeLine; decide), fun p16 np16 => ?_⟩
    have s16 := same_upd (o := .tup [.str "|", .str x, .str y]) np16
    have d16 : Dp K (upd Hs1 p16 (.tup [.str "|", .str x, .str y])) (.ref p16) (.tuple [.str "|", .str x, .str y]) := .tup (SqT.of upd_same) (dpAll_same s16 _ _ (.cons (.str _) (.cons (.str _) (.cons (.str _) .nil))))
    have d6 := dp_same s16 _ _ d6
    have d15 := dp_same s16 _ _ d15
    have smc := smc.trans (SmX.of_same (M := [a]) s16)
    have hsc := hsc.same s16
    have hso := s16 _ _ hso
    generalize upd Hs1 p16 (.tup [.str "|", .str x, .str y]) = H_16 at *
    clear s16
    refine ⟨_, rfl, _, rfl, (by show 3 ≤ sizeLine; decide), fun p17 np17 => ?_⟩
    have s17 := same_upd (o := .tup [.str "|", .str x, .str z]) np17
    have d17 : Dp K (upd H_16 p17 (.tup [.str "|", .str x, .str z])) (.ref p17) (.tuple [.str "|", .str x, .str z]) := .tup (SqT.of upd_same) (dpAll_same s17 _ _ (.cons (.str _) (.cons (.str _) (.cons (.str _) .nil))))
    have d6 := dp_same s17 _ _ d6
    have d15 := dp_same s17 _ _ d15
    have d16 := dp_same s17 _ _ d16
    have smc := smc.trans (SmX.of_same (M := [a]) s17)
    have hsc := hsc.same s17
    have hso := s17 _ _ hso
    generalize upd H_16 p17 (.tup [.str "|", .str x, .str z]) = H_17 at *
    clear s17
    refine ⟨(by show 3 ≤ sizeLine; decide), fun p18 np18 => ?_⟩
    have s18 := same_upd (o := .tup [.str "&", .ref p16, .ref p17]) np18
    have d18 : Dp K (upd H_17 p18 (.tup [.str "&", .ref p16, .ref p17])) (.ref p18) (.tuple [.str "&", .tuple [.str "|", .str x, .str y], .tuple [.str "|", .str x, .str z]]) := .tup (SqT.of upd_same) (dpAll_same s18 _ _ (.cons (.str _) (.cons d16 (.cons d17 .nil))))
    have d6 := dp_same s18 _ _ d6
    have d15 := dp_same s18 _ _ d15
    have smc := smc.trans (SmX.of_same (M := [a]) s18)
    have hsc := hsc.same s18
    have hso := s18 _ _ hso
    generalize upd H_17 p18 (.tup [.str "&", .ref p16, .ref p17]) = H_18 at *
    clear s18
    refine ⟨_, rfl, _, rfl, _, rfl, (by show 3 ≤ sizeLine; decide), fun p19 np19 => ?_⟩
    have s19 := same_upd (o := .tup [.str "&", .str y, .str z]) np19
    have d19 : Dp K (upd H_18 p19 (.tup [.str "&", .str y, .str z])) (.ref p19) (.tuple [.str "&", .str y, .str z]) := .tup (SqT.of upd_same) (dpAll_same s19 _ _ (.cons (.str _) (.cons (.str _) (.cons (.str _) .nil))))
    have d6 := dp_same s19 _ _ d6
    have d15 := dp_same s19 _ _ d15
    have d18 := dp_same s19 _ _ d18
    have smc := smc.trans (SmX.of_same (M := [a]) s19)
    have hsc := hsc.same s19
    have hso := s19 _ _ hso
    generalize upd H_18 p19 (.tup [.str "&", .str y, .str z]) = H_19 at *
    clear s19
    refine ⟨(by show 3 ≤ sizeLine; decide), fun p20 np20 => ?_⟩
    have s20 := same_upd (o := .tup [.str "|", .str x, .ref p19]) np20
    have d20 : Dp K (upd H_19 p20 (.tup [.str "|", .str x, .ref p19])) (.ref p20) (.tuple [.str "|", .str x, .tuple [.str "&", .str y, .str z]]) := .tup (SqT.of upd_same) (dpAll_same s20 _ _ (.cons (.str _) (.cons (.str _) (.cons d19 .nil))))
    have d6 := dp_same s20 _ _ d6
    have d15 := dp_same s20 _ _ d15
    have d18 := dp_same s20 _ _ d18
    have smc := smc.trans (SmX.of_same (M := [a]) s20)
    have hsc := hsc.same s20
    have hso := s20 _ _ hso
    generalize upd H_19 p20 (.tup [.str "|", .str x, .ref p19]) = H_20 at *
    clear s20
    refine ⟨(by show 2 ≤ sizeLine; decide), fun p21 np21 => ?_⟩
    have s21 := same_upd (o := .tup [.ref p18, .ref p20]) np21
    have d21 : Dp K (upd H_20 p21 (.tup [.ref p18, .ref p20])) (.ref p21) (.tuple [.tuple [.str "&", .tuple [.str "|", .str x, .str y], .tuple [.str "|", .str x, .str z]], .tuple [.str "|", .str x, .tuple [.str "&", .str y, .str z]]]) := .tup (SqT.of upd_same) (dpAll_same s21 _ _ (.cons d18 (.cons d20 .nil)))
    have d6 := dp_same s21 _ _ d6
    have d15 := dp_same s21 _ _ d15
    have smc := smc.trans (SmX.of_same (M := [a]) s21)
    have hsc := hsc.same s21
    have hso := s21 _ _ hso
    generalize upd H_20 p21 (.tup [.ref p18, .ref p20]) = H_21 at *
    clear s21
    refine ⟨so, _, _, rfl, rfl, hso, small1000 (by show 2 ≤ 1000; decide), ?_⟩
    have sta : Stay H_21 (upd H_21 so (.lst ([.ref p6, .ref p15] ++ [.ref p21]))) := stay_lst hso
    have d6 := kdp_stay sta 9 _ _ (pair_kd (tm_tk (kn1 hx hy hz).1) (tm_tk (kn1 hx hy hz).2)) d6
    have d15 := kdp_stay sta 9 _ _ (pair_kd (tm_tk (kn2 hx hy hz).1) (tm_tk (kn2 hx hy hz).2)) d15
    have d21 := kdp_stay sta 9 _ _ (pair_kd (tm_tk (kn3 hx hy hz).1) (tm_tk (kn3 hx hy hz).2)) d21
    have smc : SmX [a] H (upd H_21 so (.lst ([.ref p6, .ref p15] ++ [.ref p21]))) := fun b o nb e => by rw [upd_ne (ne_of_none e nsoH)]; exact smc b o nb e
    have hsc := hsc.put (o := .lst ([.ref p6, .ref p15] ++ [.ref p21])) soa soL
    have hso : upd H_21 so (.lst ([.ref p6, .ref p15] ++ [.ref p21])) so = some (.lst [.ref p6, .ref p15, .ref p21]) := upd_same
    generalize upd H_21 so (.lst ([.ref p6, .ref p15] ++ [.ref p21])) = Hs2 at *
    clear sta
    refine ⟨_, rfl, .inl ⟨rfl, _, SqL.of hso⟩, _, rfl, _, rfl, _, rfl, _, rfl, (by show 3 ≤ sizeLine; decide), fun p22 np22 => ?_⟩
    have s22 := same_upd (o := .tup [.str "&", .str x, .str z]) np22
    have d22 : Dp K (upd Hs2 p22 (.tup [.str "&", .str x, .str z])) (.ref p22) (.tuple [.str "&", .str x, .str z]) := .tup (SqT.of upd_same) (dpAll_same s22 _ _ (.cons (.str _) (.cons (.str _) (.cons (.str _) .nil))))
    have d6 := dp_same s22 _ _ d6
    have d15 := dp_same s22 _ _ d15
    have d21 := dp_same s22 _ _ d21
    have smc := smc.trans (SmX.of_same (M := [a]) s22)
    have hsc := hsc.same s22
    have hso := s22 _ _ hso
    generalize upd Hs2 p22 (.tup [.str "&", .str x, .str z]) = H_22 at *
    clear s22
    refine ⟨(by show 3 ≤ sizeLine; decide), fun p23 np23 => ?_⟩
    have s23 := same_upd (o := .tup [.str "|", .str y, .ref p22]) np23
    have d23 : Dp K (upd H_22 p23 (.tup [.str "|", .str y, .ref p22])) (.ref p23) (.tuple [.str "|", .str y, .tuple [.str "&", .str x, .str z]]) := .tup (SqT.of upd_same) (dpAll_same s23 _ _ (.cons (.str _) (.cons (.str _) (.cons d22 .nil))))
    have d6 := dp_same s23 _ _ d6
    have d15 := dp_same s23 _ _ d15
    have d21 := dp_same s23 _ _ d21
    have smc := smc.trans (SmX.of_same (M := [a]) s23)
    have hsc := hsc.same s23
    have hso := s23 _ _ hso
    generalize upd H_22 p23 (.tup [.str "|", .str y, .ref p22]) = H_23 at *
    clear s23
    refine ⟨(by show 3 ≤ sizeLine; decide), fun p24 np24 => ?_⟩
    have s24 := same_upd (o := .tup [.str "&", .str x, .ref p23]) np24
    have d24 : Dp K (upd H_23 p24 (.tup [.str "&", .str x, .ref p23])) (.ref p24) (.tuple [.str "&", .str x, .tuple [.str "|", .str y, .tuple [.str "&", .str x, .str z]]]) := .tup (SqT.of upd_same) (dpAll_same s24 _ _ (.cons (.str _) (.cons (.str _) (.cons d23 .nil))))
    have d6 := dp_same s24 _ _ d6
    have d15 := dp_same s24 _ _ d15
    have d21 := dp_same s24 _ _ d21
    have smc := smc.trans (SmX.of_same (M := [a]) s24)
    have hsc := hsc.same s24
    have hso := s24 _ _ hso
    generalize upd H_23 p24 (.tup [.str "&", .str x, .ref p23]) = H_24 at *
    clear s24
    refine ⟨_, rfl, _, rfl, (by show 3 ≤ sizeLine; decide), fun p25 np25 => ?_⟩
    have s25 := same_upd (o := .tup [.str "&", .str x, .str y]) np25
    have d25 : Dp K (upd H_24 p25 (.tup [.str "&", .str x, .str y])) (.ref p25) (.tuple [.str "&", .str x, .str y]) := .tup (SqT.of upd_same) (dpAll_same s25 _ _ (.cons (.str _) (.cons (.str _) (.cons (.str _) .nil))))
    have d6 := dp_same s25 _ _ d6
    have d15 := dp_same s25 _ _ d15
    have d21 := dp_same s25 _ _ d21
    have d24 := dp_same s25 _ _ d24
    have smc := smc.trans (SmX.of_same (M := [a]) s25)
    have hsc := hsc.same s25
    have hso := s25 _ _ hso
    generalize upd H_24 p25 (.tup [.str "&", .str x, .str y]) = H_25 at *
    clear s25
    refine ⟨_, rfl, _, rfl, (by show 3 ≤ sizeLine; decide), fun p26 np26 => ?_⟩
    have s26 := same_upd (o := .tup [.str "&", .str x, .str z]) np26
    have d26 : Dp K (upd H_25 p26 (.tup [.str "&", .str x, .str z])) (.ref p26) (.tuple [.str "&", .str x, .str z]) := .tup (SqT.of upd_same) (dpAll_same s26 _ _ (.cons (.str _) (.cons (.str _) (.cons (.str _) .nil))))
    have d6 := dp_same s26 _ _ d6
    have d15 := dp_same s26 _ _ d15
    have d21 := dp_same s26 _ _ d21
    have d24 := dp_same s26 _ _ d24
    have d25 := dp_same s26 _ _ d25
    have smc := smc.trans (SmX.of_same (M := [a]) s26)
    have hsc := hsc.same s26
    have hso := s26 _ _ hso
    generalize upd H_25 p26 (.tup [.str "&", .str x, .str z]) = H_26 at *
    clear s26
    refine ⟨(by show 3 ≤ sizeLine; decide), fun p27 np27 => ?_⟩
    have s27 := same_upd (o := .tup [.str "|", .ref p25, .ref p26]) np27
    have d27 : Dp K (upd H_26 p27 (.tup [.str "|", .ref p25, .ref p26])) (.ref p27) (.tuple [.str "|", .tuple [.str "&", .str x, .str y], .tuple [.str "&", .str x, .str z]]) := .tup (SqT.of upd_same) (dpAll_same s27 _ _ (.cons (.str _) (.cons d25 (.cons d26 .nil))))
    have d6 := dp_same s27 _ _ d6
    have d15 := dp_same s27 _ _ d15
    have d21 := dp_same s27 _ _ d21
    have d24 := dp_same s27 _ _ d24
    have smc := smc.trans (SmX.of_same (M := [a]) s27)
    have hsc := hsc.same s27
    have hso := s27 _ _ hso
    generalize upd H_26 p27 (.tup [.str "|", .ref p25, .ref p26]) = H_27 at *
    clear s27
    refine ⟨(by show 2 ≤ sizeLine; decide), fun p28 np28 => ?_⟩
    have s28 := same_upd (o := .tup [.ref p24, .ref p27]) np28
    have d28 : Dp K (upd H_27 p28 (.tup [.ref p24, .ref p27])) (.ref p28) (.tuple [.tuple [.str "&", .str x, .tuple [.str "|", .str y, .tuple [.str "&", .str x, .str z]]], .tuple [.str "|", .tuple [.str "&", .str x, .str y], .tuple [.str "&", .str x, .str z]]]) := .tup (SqT.of upd_same) (dpAll_same s28 _ _ (.cons d24 (.cons d27 .nil)))
    have d6 := dp_same s28 _ _ d6
    have d15 := dp_same s28 _ _ d15
    have d21 := dp_same s28 _ _ d21
    have smc := smc.trans (SmX.of_same (M := [a]) s28)
    have hsc := hsc.same s28
    have hso := s28 _ _ hso
    generalize upd H_27 p28 (.tup [.ref p24, .ref p27]) = H_28 at *
    clear s28
    refine ⟨so, _, _, rfl, rfl, hso, small1000 (by show 3 ≤ 1000; decide), ?_⟩
    have sta : Stay H_28 (upd H_28 so (.lst ([.ref p6, .ref p15, .ref p21] ++ [.ref p28]))) := stay_lst hso
    have d6 := kdp_stay sta 9 _ _ (pair_kd (tm_tk (kn1 hx hy hz).1) (tm_tk (kn1 hx hy hz).2)) d6
    have d15 := kdp_stay sta 9 _ _ (pair_kd (tm_tk (kn2 hx hy hz).1) (tm_tk (kn2 hx hy hz).2)) d15
    have d21 := kdp_stay sta 9 _ _ (pair_kd (tm_tk (kn3 hx hy hz).1) (tm_tk (kn3 hx hy hz).2)) d21
    have d28 := kdp_stay sta 9 _ _ (pair_kd (tm_tk (kn4 hx hy hz).1) (tm_tk (kn4 hx hy hz).2)) d28
    have smc : SmX [a] H (upd H_28 so (.lst ([.ref p6, .ref p15, .ref p21] ++ [.ref p28]))) := fun b o nb e => by rw [upd_ne (ne_of_none e nsoH)]; exact smc b o nb e
    have hsc := hsc.put (o := .lst ([.ref p6, .ref p15, .ref p21] ++ [.ref p28])) soa soL
    have hso : upd H_28 so (.lst ([.ref p6, .ref p15, .ref p21] ++ [.ref p28])) so = some (.lst [.ref p6, .ref p15, .ref p21, .ref p28]) := upd_same
    generalize upd H_28 so (.lst ([.ref p6, .ref p15, .ref p21] ++ [.ref p28])) = Hs3 at *
    clear sta
    refine ⟨_, rfl, _, rfl, a, L, so, ns, _, rfl, hsc, soa, hso, by show 0 < 4; decide, by show 4 ≤ 1000; decide, fun H' v mv hs' off' => ?_⟩
    have smf : SmX [a] Hs3 H' := SmX.at off' ma
    have stf := stay_smx smf hsc.lst
    have smT := smc.trans smf
    simp only [List.mem_cons, List.not_mem_nil, or_false] at mv
    rcases mv with e | e | e | e <;> subst e
    · exact good H' _ _ _ (kdp_stay stf 9 _ _ (pair_kd (tm_tk (kn1 hx hy hz).1) (tm_tk (kn1 hx hy hz).2)) d6) (kn1 hx hy hz).1 (kn1 hx hy hz).2 hs' smT
    · exact good H' _ _ _ (kdp_stay stf 9 _ _ (pair_kd (tm_tk (kn2 hx hy hz).1) (tm_tk (kn2 hx hy hz).2)) d15) (kn2 hx hy hz).1 (kn2 hx hy hz).2 hs' smT
    · exact good H' _ _ _ (kdp_stay stf 9 _ _ (pair_kd (tm_tk (kn3 hx hy hz).1) (tm_tk (kn3 hx hy hz).2)) d21) (kn3 hx hy hz).1 (kn3 hx hy hz).2 hs' smT
    · exact good H' _ _ _ (kdp_stay stf 9 _ _ (pair_kd (tm_tk (kn4 hx hy hz).1) (tm_tk (kn4 hx hy hz).2)) d28) (kn4 hx hy hz).1 (kn4 hx hy hz).2 hs' smT
theorem ok_goal {f : Addr} {fd : FuncData} {k : Nat} (F : Fun K "_law_goal" "_law_goal" s_law_goal f fd) (hk : 7 ≤ k) (m_range : mg "range" = none)
    (C_law_take : Own P w K mg base 1 "_law_take" ["_law_source_here", "_law_many"] spTake)
    (C_law_pick : Own P w K mg base 2 "_law_pick" ["_law_source_here", "_law_row"] spPick)
    (C_law_term : Own P w K mg base 7 "_law_term" ["_law_source_here", "_law_signs_here", "_law_deep", "_law_room"] (spTerm K 5)) (C_law_known_goal : Own P w K mg base 3 "_law_known_goal" ["_law_source_here", "_law_signs_here"] (spKnown K)) :
    FnOk P w K mg base CX0 (k + 1) f fd ["_law_source_here", "_law_signs_here", "_law_premises_here"] (spGoal K) := by
  refine F.ok sc_law_goal (fun vs H Q E h => ?_) (fun cdv A outer s H vs Q E hr h => ?_)
  · obtain ⟨a, L, sg, pr, ns, ys, xs, ds, rfl, _⟩ := h
    rfl
  · obtain ⟨a, L, sg, pr, ns, ys, xs, ds, rfl, hs, hg, hpr, pra, hA, l12, hsm, good⟩ := h
    refine ⟨_, (pss_cons (ps_set (i := 3) sc_law_goal.nd rfl (by first | exact .inl rfl | exact .inr rfl) (pe_own C_law_take (hr.mono (by omega)) (by rfl) (pa_cons (pv 0) (pa_cons pe_int pa_nil))))
      (pss_cons (ps_if (pt_cmpR op_eq (pv 3) pe_int (nomark _))
        (pss_one (ps_ret (pe_own C_law_known_goal (hr.mono (by omega)) (by rfl) (pa_cons (pv 0) (pa_cons (pv 1) pa_nil)))))
        pss_nil)
      (pss_cons (ps_asg (pe_lc (own := [("_law_k", 6)]) (g := gName 6) (by rfl) sc_law_goal.nd (pi_range1 (by rfl) m_range (pa_cons pe_int pa_nil)) (blkOk_by (own := [("_law_k", 6)]) (N := N_law_goal) (sc := defScope s_law_goal) (by decide +kernel)) (fun _ _ _ _ _ => pg_name (i := 6) sc_law_goal.nd rfl (Or.inl rfl)) (fun _ _ _ _ _ => pts_nil) (fun _ _ _ _ _ => (pe_own C_law_term (hr.mono (by omega)) (by rfl) (pa_cons (pv 0) (pa_cons (pv 1) (pa_cons (pe_op op_add pe_int (pe_own C_law_take (hr.mono (by omega)) (by rfl) (pa_cons (pv 0) (pa_cons pe_int pa_nil)))) (pa_cons (pe_lst (pa_cons pe_int pa_nil)) pa_nil))))))) (pg_lst rfl (pgs_cons (pg_name (i := 4) sc_law_goal.nd rfl (by first | exact .inl rfl | exact .inr rfl)) (pgs_cons (pg_name (i := 5) sc_law_goal.nd rfl (by first | exact .inl rfl | exact .inr rfl)) pgs_nil))))
      (C8.pss_cut (ps_if (PW.pt (pw_and (pt_cmpR (op_neD hr.units) (pv 2) (pe_lst pa_nil) (nomark _)) (pw_and1 (pt_cmpR op_lt (pv 3) pe_int (nomark _)))))
        (pss_cons (ps_set (i := 4) sc_law_goal.nd rfl (by first | exact .inl rfl | exact .inr rfl) (pe_ix ix_tup (pe_own C_law_pick (hr.mono (by omega)) (by rfl) (pa_cons (pv 0) (pa_cons (pv 2) pa_nil))) pe_int (fun _ _ => rfl)))
        (pss_one (ps_set (i := 5) sc_law_goal.nd rfl (by first | exact .inl rfl | exact .inr rfl) (pe_ix ix_tup (pe_own C_law_pick (hr.mono (by omega)) (by rfl) (pa_cons (pv 0) (pa_cons (pv 2) pa_nil))) pe_int (fun _ _ => rfl)))))
        pss_nil)
      (C8.pss_cut (ps_if (pt_cmpR op_eq (pv 3) pe_int (nomark _))
        (pss_one (ps_set (i := 5) sc_law_goal.nd rfl (by first | exact .inl rfl | exact .inr rfl) (pe_tup (pa_cons pe_str (pa_cons (pv 5) (pa_cons (pe_own C_law_pick (hr.mono (by omega)) (by rfl) (pa_cons (pv 0) (pa_cons (pv 1) pa_nil))) pa_nil))))))
        pss_nil)
      (pss_one (ps_ret (pe_tup (pa_cons (pv 4) (pa_cons (pv 5) pa_nil)))))))))), ?_⟩
    have ma : ∀ {a : Addr}, a ∈ [a] := List.mem_singleton.mpr rfl
    have nf : ∀ {b : Addr}, b ≠ a → b ∉ [a] := fun h z => h (List.mem_singleton.mp z)
    have kds : ∀ d ∈ ds, kd 9 d = true := fun d hd => rl_kd (hsm d hd).rl
    have lx := dpAll_len hA
    refine ⟨_, rfl, a, L, ns, 5, rfl, hs, by decide, by decide, fun H1 t t0 t5 hs1 off1 => ?_⟩
    have sm1 : SmX [a] H H1 := SmX.at off1 ma
    have hg1 := hg.smx sm1
    refine ⟨_, rfl, rfl, _, rfl, ?_⟩
    cases decide (V.int t = V.int 0) with
    | true => exact iteT ⟨_, rfl, _, rfl, a, L, sg, ns, ys, rfl, hs1, hg1, fun H2 v l r hd tl tr hs2 sm2 => good H2 v l r hd tl tr hs2 (sm1.trans sm2)⟩
    | false =>
      refine iteF ⟨2, rfl, by decide, by decide, fun D nD => lc_range (lo := 0) (n := (2 : Int).toNat) (fun i Hi => SmX [a] H1 Hi ∧ Src Hi a L ns ∧ ∃ zs es, Hi D = some (.lst zs) ∧ zs.length = i ∧ DpAll K Hi zs es ∧ ∀ e ∈ es, sml e) ?_ ?_ ?_⟩
      · exact ⟨SmX.of_same (same_upd nD), hs1.same (same_upd nD), [], [], upd_same, rfl, .nil, (fun z hz => nomatch hz)⟩
      · rintro i Hi hi ⟨smi, hsi, zs, es, hDi, li, hzi, lz⟩
        have i2 : i < 2 := hi
        refine ⟨rfl, ?_⟩
        dsimp only [tYes]
        rw [if_pos rfl]
        have hgi := hg1.smx smi
        refine ⟨_, rfl, _, rfl, _, rfl, a, L, ns, 3, rfl, hsi, by decide, by decide, fun H6 t1 t10 t13 hs6 off6 => ⟨_, _, rfl, rfl, (by show 1 ≤ sizeLine; decide), fun r nr => ?_⟩⟩
        have sm6 : SmX [a] Hi H6 := SmX.at off6 ma
        have sr := same_upd (o := .lst [.int 3]) nr
        have hg6 := hgi.smx sm6
        refine term_call (H0 := H6) (hs6.same sr) (sr _ _ hg6.at_) hg6.pos hg6.top hg6.let_ upd_same (SmX.of_same sr) nr hs6 hg6.at_ hg6.ne (by decide) (by decide) (by omega) (by omega) fun H7 vl dl sm7 hs7 hdl l1 l2 => ?_
        have smlD : sml dl := sml_of (n := (1 + t1).toNat) (by omega) l1 (by omega)
        have smij := sm6.trans sm7
        have Da : D ≠ a := (hs1.ne nD).symm
        have hDj := smij _ _ (nf Da) hDi
        have stD : Stay H7 (upd H7 D (.lst (zs ++ [vl]))) := stay_lst hDj
        have kz : ∀ e ∈ es, kd 8 e = true := fun e he => (tm_tk (sml_tm (lz e he))).kd
        refine ⟨zs, hDj, small1000 (by omega), fun b o nb e => ?_, hs7.put Da (hs1.neL nD), zs ++ [vl], es ++ [dl], upd_same, by rw [List.length_append, li]; rfl, dpAll_app (kdl_stay (n := 8) stD kz (kdl_stay (n := 8) (stay_smx smij hsi.lst) kz hzi)) (.cons (kdp_stay stD 8 _ _ (tm_tk (sml_tm smlD)).kd hdl) .nil), fun e he => ?_⟩
        · rw [upd_ne (ne_of_none e nD)]
          exact smij _ _ nb (smi _ _ nb e)
        · rcases List.mem_append.mp he with q | q
          · exact lz e q
          · rw [List.mem_singleton.mp q]; exact smlD
      rintro H3 ⟨sm3, hs3, zs, es, hD3, l3, hz3, lz⟩
      obtain ⟨vl, vr, rfl⟩ : ∃ z1 z2, zs = [z1, z2] := by
        match zs, l3 with
        | [a, b], _ => exact ⟨a, b, rfl⟩
      obtain ⟨dl, dr, hdl, hdr, sl, sr⟩ : ∃ dl dr, Dp K H3 vl dl ∧ Dp K H3 vr dr ∧ sml dl ∧ sml dr := by
        cases hz3 with
        | cons h1 h => cases h with
          | cons h2 h =>
            cases h
            exact ⟨_, _, h1, h2, lz _ (by simp), lz _ (by simp)⟩
      refine ⟨D, _, rfl, SqL.of hD3, rfl, _, _, rfl, _, _, rfl, rfl, ?_⟩
      have smH3 := sm1.trans sm3
      have hpr3 := smH3 _ _ (nf pra) hpr
      have hA3 := kdl_stay (n := 9) (stay_smx smH3 hs.lst) kds hA
      have hg3 := hg.smx smH3
      clear hD3 lz hz3 l3
      refine ⟨fun σ' H' => ∃ (vl vr : V) (dl dr : PyData) (y6 : Option V), σ' = [some (.ref a), some (.ref sg), some (.ref pr), some (.int t), some vl, some vr, y6] ∧ SmX [a] H3 H' ∧ Src H' a L ns ∧ Dp K H' vl dl ∧ Dp K H' vr dr ∧ sml dl ∧ sml dr, ?_, ?_⟩
      · refine ⟨_, rfl, Nat.zero_le _, fun e0 ne0 => ?_⟩
        have se := same_upd (o := .lst []) ne0
        have gld : gd 20 (.list ds) = true := gd_lst (n := 19) (fun d hd => rl_gd (hsm d hd).rl) (by omega)
        refine ⟨.list ds, .list [], .lst (SqL.of (se _ _ hpr3)) (dpAll_same se _ _ hA3), .lst (SqL.of upd_same) .nil, gd_shaped gld (by decide), by decide +kernel, _, rfl, ?_⟩
        have hsE := hs3.same se
        have keep : ∃ (vl' vr' : V) (dl' dr' : PyData) (y6 : Option V), [some (.ref a), some (.ref sg), some (.ref pr), some (.int t), some vl, some vr, none] = [some (V.ref a), some (.ref sg), some (.ref pr), some (.int t), some vl', some vr', y6] ∧ SmX [a] H3 (upd H3 e0 (.lst [])) ∧ Src (upd H3 e0 (.lst [])) a L ns ∧ Dp K (upd H3 e0 (.lst [])) vl' dl' ∧ Dp K (upd H3 e0 (.lst [])) vr' dr' ∧ sml dl' ∧ sml dr' :=
          ⟨vl, vr, dl, dr, none, rfl, SmX.of_same se, hsE, dp_same se _ _ hdl, dp_same se _ _ hdr, sl, sr⟩
        match ds, hA3, hsm, lx, kds, l12 with
        | [], _, _, _, _, _ => exact iteF (iteF keep)
        | d0 :: dr', hA3, hsm, lx, kds, l12 =>
          refine iteT ⟨_, rfl, _, _, rfl, rfl, _, rfl, ?_⟩
          cases decide (t < 4) with
          | false => exact iteF keep
          | true =>
            have hprE := se _ _ hpr3
            have side : ∀ {HB : Hp} {v : V}, SmX [a] H3 HB → v ∈ xs → ∃ b x1 x2 l r, v = .ref b ∧ SqT K HB b [.str (nameOf (.tuple [.str "", l, r])), x1, x2] ∧ Dp K HB x1 l ∧ Dp K HB x2 r ∧ sml l ∧ sml r ∨ ∃ n, v = .ref b ∧ SqT K HB b [.str n, x1, x2] ∧ Dp K HB x1 l ∧ Dp K HB x2 r ∧ sml l ∧ sml r := fun {HB v} smB mv => by
              obtain ⟨j, hj, ev⟩ := List.mem_iff_getElem.mp mv
              have hAB := kdl_stay (n := 9) (stay_smx smB hs3.lst) kds hA3
              obtain ⟨d', hd', hDv⟩ := dpAll_get hAB (show xs[j]? = some v by rw [List.getElem?_eq_getElem hj, ev])
              have md' := List.mem_of_getElem? hd'
              obtain ⟨n', l', r', rfl, hn', sl', sr'⟩ := hsm d' md'
              obtain ⟨b, x1, x2, l2, r2, rfl, hsb, ed', h1, h2, _⟩ := rl_v hDv (hsm _ md').rl
              have e2 : l' = l2 ∧ r' = r2 := by
                have := (PyData.tuple.inj ed')
                simp at this
                exact this.2
              obtain ⟨rfl, rfl⟩ := e2
              exact ⟨b, x1, x2, l', r', .inr ⟨_, rfl, hsb, h1, h2, sl', sr'⟩⟩
            refine iteT ⟨_, rfl, _, rfl, a, L, pr, ns, xs, rfl, hsE, pra, hprE, by rw [lx]; exact Nat.succ_pos _, by rw [lx]; omega, fun HB v mv hsB offB => ?_⟩
            have smB : SmX [a] H3 HB := (SmX.of_same se).trans (SmX.at offB ma)
            obtain ⟨b, x1, x2, l, r, hh⟩ := side smB mv
            obtain ⟨nb, rfl, hsb, h1, h2, sl', sr'⟩ : ∃ n, v = .ref b ∧ SqT K HB b [.str n, x1, x2] ∧ Dp K HB x1 l ∧ Dp K HB x2 r ∧ sml l ∧ sml r := by
              rcases hh with ⟨e, h, z⟩ | h
              · exact ⟨_, e, h, z⟩
              · exact h
            refine ⟨b, _, _, _, rfl, rfl, hsb, atI_nat (j := 1) rfl, ?_⟩
            have hprB := smB _ _ (nf pra) hpr3
            refine ⟨_, rfl, _, rfl, a, L, pr, ns, xs, rfl, hsB, pra, hprB, by rw [lx]; exact Nat.succ_pos _, by rw [lx]; omega, fun HC v' mv' hsC offC => ?_⟩
            have smC : SmX [a] HB HC := SmX.at offC ma
            obtain ⟨b', x1', x2', l', r', hh'⟩ := side (smB.trans smC) mv'
            obtain ⟨nb', rfl, hsb', h1', h2', sl2, sr2⟩ : ∃ n, v' = .ref b' ∧ SqT K HC b' [.str n, x1', x2'] ∧ Dp K HC x1' l' ∧ Dp K HC x2' r' ∧ sml l' ∧ sml r' := by
              rcases hh' with ⟨e, h, z⟩ | h
              · exact ⟨_, e, h, z⟩
              · exact h
            exact ⟨b', _, _, _, rfl, rfl, hsb', atI_nat (j := 2) rfl, x1, x2', l, r', _, rfl, smB.trans smC, hsC, kdp_stay (stay_smx smC hsB.lst) 8 _ _ (tm_tk (sml_tm sl')).kd h1, h2', sl', sr2⟩
      rintro σ' H4 ⟨vl, vr, dl, dr, y6, rfl, sm4, hs4, hdl, hdr, sl, sr⟩
      have hg4 := hg3.smx sm4
      have smH4 := smH3.trans sm4
      refine ⟨fun σ' H' => ∃ (vr : V) (dr : PyData) (y6 : Option V), σ' = [some (.ref a), some (.ref sg), some (.ref pr), some (.int t), some vl, some vr, y6] ∧ SmX [a] H4 H' ∧ Src H' a L ns ∧ Dp K H' vl dl ∧ Dp K H' vr dr ∧ tmB dr = true, ?_, ?_⟩
      · refine ⟨_, rfl, rfl, _, rfl, ?_⟩
        cases decide (V.int t = V.int 3) with
        | false => exact iteF ⟨vr, dr, y6, rfl, SmX.refl _ _, hs4, hdl, hdr, sml_tm sr⟩
        | true =>
          refine iteT ⟨_, rfl, _, rfl, _, rfl, a, L, sg, ns, ys, rfl, hs4, hg4.ne, hg4.at_, hg4.pos, by have := hg4.top; omega, fun H5 v mv hs5 off5 => ⟨(by show 3 ≤ sizeLine; decide), fun T nT => ?_⟩⟩
          have sm5 : SmX [a] H4 H5 := SmX.at off5 ma
          have sT := same_upd (o := .tup [.str "|", vr, v]) nT
          obtain ⟨x, rfl, hx⟩ := lett_L (hg4.let_ v mv)
          have kr := (tm_tk (sml_tm sr)).kd
          have kl := (tm_tk (sml_tm sl)).kd
          have st5 := stay_smx sm5 hs4.lst
          refine ⟨.ref T, .tuple [.str "|", dr, .str x], y6, rfl, sm5.trans (SmX.of_same sT), hs5.same sT, dp_same sT _ _ (kdp_stay st5 8 _ _ kl hdl), .tup (SqT.of upd_same) (.cons (.str _) (.cons (dp_same sT _ _ (kdp_stay st5 8 _ _ kr hdr)) (.cons (.str _) .nil))), ?_⟩
          exact tm_up (n := 4) (by decide) (by rw [pair_meas (n := 3) op_or rfl (let_meas 2 hx) sr.1 (by decide)]; have := sr.1; omega) (by rw [pair_meas (n := 3) op_or rfl (let_meas 2 hx) sr.1 (by decide)]; have := sr.2; omega)
      · rintro σ' H5 ⟨vr, dr, y6, rfl, sm5, hs5, hdl5, hdr5, tr⟩
        refine ⟨_, rfl, _, rfl, (by show 2 ≤ sizeLine; decide), fun T nT => ?_⟩
        have sT := same_upd (o := .tup [vl, vr]) nT
        exact good _ _ dl dr (.tup (SqT.of upd_same) (.cons (dp_same sT _ _ hdl5) (.cons (dp_same sT _ _ hdr5) .nil))) (sml_tm sl) tr (hs5.same sT) (smH4.trans (sm5.trans (SmX.of_same sT)))
end
end Fv


namespace Fv
open PySem PySem.Spec PyProof.Rows L2 GenW FvX FvD FvG FvW TL
-- top 35  slots: 0:rules 1:goal
abbrev s_question_terms : Stmt := topS 35
abbrev N_question_terms : List Str := ["rules", "goal"]
theorem sc_question_terms : FnScope N_question_terms ["rules", "goal"] (defScope s_question_terms) := ⟨rfl, rfl, rfl, by decide +kernel, rfl, by decide +kernel, by decide +kernel⟩

/-- what question_terms asks -/
structure QtQ (K : PySem.W.Frag) (CR CG CM : Addr) (d dg : PyData) (H : Hp) (Q : VK) (E : XK) : Prop where
  rl : ∀ i, rErr d = some i → errF CR "InvalidRules" "index" (.int i) H E
  gl : rErr d = none → isGl dg = false → errAt CG "InvalidGoal" H E
  tm : rErr d = none → isGl dg = true → 24 < cnt d dg → errF CM "TooManyTerms" "count" (.int (cnt d dg : Nat)) H E
  ok : rErr d = none → isGl dg = true → cnt d dg ≤ 24 → ∀ (H' : Hp) (p : Addr) (ys : List V) (es : List PyData), Same H H' → H p = none → H' p = some (.lst ys) → DpAll K H' ys es → Voc d dg es → Q (.ref p) H'
theorem QtQ.mono {K : PySem.W.Frag} {CR CG CM : Addr} {d dg : PyData} {H H1 : Hp} {Q : VK} {E : XK} (h : QtQ K CR CG CM d dg H Q E) (s : Same H H1) : QtQ K CR CG CM d dg H1 Q E :=
  ⟨fun i e => (h.rl i e).mono s, fun a b => (h.gl a b).mono s, fun a b c => (h.tm a b c).mono s, fun a b c H' p ys es s' np hp hy hv => h.ok a b c H' p ys es (s.trans s') (none_back s np) hp hy hv⟩
def spQt (K : PySem.W.Frag) (CR CG CM : Addr) : Sp := fun vs H Q E => ∃ (vr vg : V) (d dg : PyData), vs = [vr, vg] ∧ Dp K H vr d ∧ gd 20 d = true ∧ Dp K H vg dg ∧ gd 20 dg = true ∧ QtQ K CR CG CM d dg H Q E
theorem isN_gl {dg : PyData} (h : isN dg = true) : isGl dg = false := by
  cases dg with
  | none => rfl
  | _ => cases h
section
variable {P : Program} {w : World} {K : PySem.W.Frag} {mg : Str → Option Value} {base : Heap} {CR CG CM : Addr}
theorem ok_question {f fG : Addr} {fd : FuncData} {k : Nat} {qualG msgG : Str} {qG : ErrPos} {jG1 jG2 : Nat} (F : Fun K "question_terms" "question_terms" s_question_terms f fd) (hk : 1 ≤ k)
    (T_IG : ErrC P.main.file K CG fG qualG qG msgG "InvalidGoal" jG1 jG2) (hlineG : LineOk qG msgG jG1) (g_IG : mg "InvalidGoal" = some (.ref CG)) (htop : (P.main.scope.names.lookup ("super" : Str)).isSome = false) (m_super : mg "super" = none)
    (C_check_single_rules : OwnR P w K mg base k "check_single_rules" (spSingle K CR)) (C_vocabulary : OwnR P w K mg base k "vocabulary" (spVoc K CR CG CM)) :
    FnOk P w K mg base (L2.CX P w) (k + 1) f fd ["rules", "goal"] (spQt K CR CG CM) := by
  refine F.okX sc_question_terms (fun vs H Q E h => ?_) (fun cdv A outer s H vs Q E hr h => ?_)
  · obtain ⟨vr, vg, d, dg, rfl, _⟩ := h
    rfl
  · obtain ⟨vr, vg, d, dg, rfl, hd, hg, hdg, hgg, c⟩ := h
    refine ⟨_, (pss_cons (ps_expr (pe_ownR C_check_single_rules (hr.mono (by omega)) (by rfl) passX (pa_cons (pv 0) pa_nil)))
      (pss_cons (ps_if (pt_cmpR op_isN (pv 1) pe_non (nomark _))
        (pss_one (ps_raise rfl (takes_of rfl rfl rfl rfl) (pmk_err0 (k := 0) T_IG hlineG htop m_super (hr.mono (by omega)) (by rfl) g_IG)))
        pss_nil)
      (pss_one (ps_ret (pe_ownR C_vocabulary (hr.mono (by omega)) (by rfl) passX (pa_cons (pv 0) (pa_cons (pv 1) pa_nil))))))), ?_⟩
    refine ⟨_, rfl, vr, d, rfl, hd, hg, fun e H1 s1 => ?_, c.rl⟩
    have hdg1 := dp_same s1 _ _ hdg
    have hN := dp_non hdg1
    refine ⟨_, rfl, rfl, _, rfl, ?_⟩
    rw [hN]
    cases hn : isN dg with
    | true => exact iteT fun dd nd => c.gl e (isN_gl hn) _ dd (s1.trans (same_upd nd)) upd_same
    | false =>
      have c1 := c.mono s1
      refine iteF ⟨_, rfl, _, rfl, vr, vg, d, dg, rfl, dp_same s1 _ _ hd, hg, hdg1, hgg, ⟨c1.rl, fun e1 _ e3 => c1.gl e1 e3, fun e1 e2 e3 => c1.tm e1 ?_ e3, fun e1 e2 e3 => c1.ok e1 ?_ e3⟩⟩
      · rcases e2 with h | h
        · rw [hn] at h; cases h
        · exact h
      · rcases e2 with h | h
        · rw [hn] at h; cases h
        · exact h
theorem ok_scene {f : Addr} {fd : FuncData} {k : Nat} (F : Fun K "_law_scene" "_law_scene" s_law_scene f fd) (hk : 13 ≤ k) (m_len : mg "len" = none)
    (C_law_signs : Own P w K mg base 3 "_law_signs" ["_law_source_here", "_law_most"] spSigns)
    (C_law_premises : Own P w K mg base 8 "_law_premises" ["_law_source_here", "_law_signs_here", "_law_most"] (spPrem K)) (C_law_goal : Own P w K mg base 8 "_law_goal" ["_law_source_here", "_law_signs_here", "_law_premises_here"] (spGoal K))
    (C_law_words : Own P w K mg base 12 "_law_words" ["_law_pairs_here"] (spWords K)) (C_law_kept_few : Own P w K mg base 13 "_law_kept_few" ["_law_premises_here", "_law_aim", "_law_most"] (spKept K)) :
    FnOk P w K mg base CX0 (k + 1) f fd ["_law_source_here", "_law_most", "_law_words_here"] (spScene K) := by
  refine F.ok sc_law_scene (fun vs H Q E h => ?_) (fun cdv A outer s H vs Q E hr h => ?_)
  · obtain ⟨a, L, ns, m, wd, rfl, _⟩ := h
    rfl
  · obtain ⟨a, L, ns, m, wd, rfl, hs, hm, hw4, hw, good⟩ := h
    refine ⟨_, (pss_cons (ps_set (i := 3) sc_law_scene.nd rfl (by first | exact .inl rfl | exact .inr rfl) (pe_own C_law_signs (hr.mono (by omega)) (by rfl) (pa_cons (pv 0) (pa_cons pe_int pa_nil))))
      (C8.pss_cut (ps_if (pt_cmpR op_eq (pe_callB call_len_seq (by rfl) m_len (by decide +kernel) (pa_cons (pv 3) pa_nil)) pe_int (nomark _))
        (pss_one (ps_set (i := 3) sc_law_scene.nd rfl (by first | exact .inl rfl | exact .inr rfl) (pe_lst (pa_cons pe_str (pa_cons pe_str (pa_cons pe_str (pa_cons pe_str pa_nil)))))))
        pss_nil)
      (pss_cons (ps_set (i := 4) sc_law_scene.nd rfl (by first | exact .inl rfl | exact .inr rfl) (pe_own C_law_premises (hr.mono (by omega)) (by rfl) (pa_cons (pv 0) (pa_cons (pv 3) (pa_cons (pv 1) pa_nil)))))
      (pss_cons (ps_set (i := 5) sc_law_scene.nd rfl (by first | exact .inl rfl | exact .inr rfl) (pe_own C_law_goal (hr.mono (by omega)) (by rfl) (pa_cons (pv 0) (pa_cons (pv 3) (pa_cons (pv 4) pa_nil)))))
      (C8.pss_cut (ps_if (pt_cmpR op_gt (pe_callB call_len_seq (by rfl) m_len (by decide +kernel) (pa_cons (pe_own C_law_words (hr.mono (by omega)) (by rfl) (pa_cons (pe_lst (pa_cons (pv 5) pa_nil)) pa_nil)) pa_nil)) (pv 2) (nomark _))
        (pss_one (ps_set (i := 5) sc_law_scene.nd rfl (by first | exact .inl rfl | exact .inr rfl) (pe_tup (pa_cons (pe_ix ix_list (pv 3) pe_int (fun _ _ => rfl)) (pa_cons (pe_tup (pa_cons pe_str (pa_cons (pe_ix ix_list (pv 3) pe_int (fun _ _ => rfl)) (pa_cons (pe_ix ix_list (pv 3) (pe_un un_neg pe_int) (fun _ _ => rfl)) pa_nil)))) pa_nil)))))
        pss_nil)
      (pss_one (ps_ret (pe_tup (pa_cons (pe_own C_law_kept_few (hr.mono (by omega)) (by rfl) (pa_cons (pv 4) (pa_cons (pv 5) (pa_cons (pv 2) pa_nil)))) (pa_cons (pv 5) pa_nil)))))))))), ?_⟩
    have ma : ∀ {a : Addr}, a ∈ [a] := List.mem_singleton.mpr rfl
    have nf : ∀ {b : Addr}, b ≠ a → b ∉ [a] := fun h z => h (List.mem_singleton.mp z)
    refine ⟨_, rfl, a, L, ns, 4, rfl, hs, by decide, by decide, fun H1 sg ys y0 y4 hy _ nsg hsg hs1 sm1 => ?_⟩
    have sga : sg ≠ a := (hs.ne nsg).symm
    refine ⟨fun σ' H' => ∃ (sg : Addr) (ys : List V), σ' = [some (.ref a), some (.int (m : Nat)), some (.int (wd : Nat)), some (.ref sg), none, none] ∧ SmX [a] H H' ∧ Src H' a L ns ∧ Sgs H' sg a ys ∧ 2 ≤ ys.length, ?_, ?_⟩
    · refine ⟨_, rfl, sg, ys, rfl, .inl (SqL.of hsg), rfl, _, rfl, ?_⟩
      by_cases c : ys.length = 1
      · rw [decide_eq_true (show V.int ((ys.length : Nat) : Int) = V.int 1 by rw [c]; rfl)]
        refine iteT ⟨(by show 4 ≤ sizeLine; decide), fun p np => ?_⟩
        have sp := same_upd (o := .lst [.str "a", .str "b", .str "c", .str "d"]) np
        refine ⟨p, _, rfl, sm1.trans (SmX.of_same sp), hs1.same sp, ⟨upd_same, by decide, by decide, fun y hy => ?_, (hs1.ne np).symm⟩, by decide⟩
        have all : ∀ y ∈ ([.str "a", .str "b", .str "c", .str "d"] : List V), lett y := by
          unfold lett
          have e : signs "abcdefgh" = (["a", "b", "c", "d", "e", "f", "g", "h"] : List Str).map V.str := by decide +kernel
          rw [e]
          intro y hy
          simp only [List.mem_cons, List.not_mem_nil, or_false] at hy
          rcases hy with rfl | rfl | rfl | rfl <;> simp
        exact all y hy
      · rw [decide_eq_false (show ¬ V.int ((ys.length : Nat) : Int) = V.int 1 from fun z => c (by have := V.int.inj z; omega))]
        exact iteF ⟨sg, ys, rfl, sm1, hs1, ⟨hsg, y0, by omega, hy, sga⟩, by omega⟩
    clear hsg hy y0 y4 nsg sga hs1 sm1
    rintro σ' H2 ⟨sg, ys, rfl, sm2, hs2, hg2, l2⟩
    refine ⟨_, rfl, _, rfl, _, rfl, a, L, sg, ns, ys, (m : Nat), rfl, hs2, hg2, by omega, by omega, fun H3 pr xs ds npr hpr hA lds hsm hnd hs3 sm3 => ?_⟩
    have pra : pr ≠ a := (hs2.ne npr).symm
    have hg3 := hg2.smx sm3
    have kds : ∀ d ∈ ds, kd 9 d = true := fun d hd => rl_kd (hsm d hd).rl
    refine ⟨_, rfl, _, rfl, _, rfl, a, L, sg, pr, ns, ys, xs, ds, rfl, hs3, hg3, hpr, pra, hA, by omega, hsm, fun H4 va l r hva tl tr hs4 sm4 => ?_⟩
    have hg4 := hg3.smx sm4
    have hpr4 := sm4 _ _ (nf pra) hpr
    have hA4 := kdl_stay (n := 9) (stay_smx sm4 hs3.lst) kds hA
    have sm24 := sm2.trans (sm3.trans sm4)
    refine ⟨fun σ' H' => ∃ (va : V) (l r : PyData), σ' = [some (.ref a), some (.int (m : Nat)), some (.int (wd : Nat)), some (.ref sg), some (.ref pr), some va] ∧ Same H4 H' ∧ Dp K H' va (.tuple [l, r]) ∧ tmB l = true ∧ tmB r = true ∧ cnt (.list []) (.tuple [l, r]) ≤ wd, ?_, ?_⟩
    · refine ⟨_, rfl, (by show 1 ≤ sizeLine; decide), fun q nq => ?_⟩
      have sq := same_upd (o := .lst [va]) nq
      refine ⟨q, [va], [(l, r)], rfl, SqL.of upd_same, .cons (dp_same sq _ _ hva) .nil, fun p hp => ?_, by simp, fun H6 p6 ws fs s6 np6 hp6 hw' hb => ?_⟩
      · rw [List.mem_singleton.mp hp]
        exact ⟨tm_tk tl, tm_tk tr⟩
      have lw : ws.length = cnt (.list []) (.tuple [l, r]) := (dpAll_len hw').trans (cnt_due (ds := []) (dg := .tuple [l, r]) (fun r hr => nomatch hr) (.inr (gl_of tl tr)) hb)
      refine ⟨p6, ws, rfl, .inl (SqL.of hp6), _, rfl, _, _, rfl, rfl, _, rfl, ?_⟩
      rw [lw]
      have s46 := sq.trans s6
      rcases Nat.lt_or_ge wd (cnt (.list []) (.tuple [l, r])) with lt | ge
      · rw [decide_eq_true (by omega : ((wd : Nat) : Int) < ((cnt (.list []) (.tuple [l, r]) : Nat) : Int))]
        have hsg6 := s46 _ _ hg4.at_
        obtain ⟨v0, v1, zs, rfl⟩ : ∃ v0 v1 zs, ys = v0 :: v1 :: zs := by
          match ys, l2 with
          | a :: b :: c, _ => exact ⟨a, b, c, rfl⟩
        obtain ⟨vn, en, mn⟩ : ∃ vn, atI (v0 :: v1 :: zs) (-1) = some vn ∧ vn ∈ v0 :: v1 :: zs := by
          obtain ⟨M, z, e⟩ := SrtO.snoc_of (l := v0 :: v1 :: zs) (by simp)
          exact ⟨z, by rw [e]; exact atI_last _ _, by rw [e]; simp⟩
        obtain ⟨x, rfl, hx⟩ := lett_L (hg4.let_ v0 (by simp))
        obtain ⟨y, rfl, hy⟩ := lett_L (hg4.let_ v1 (by simp))
        obtain ⟨z, rfl, hz⟩ := lett_L (hg4.let_ vn mn)
        refine iteT ⟨_, rfl, sg, _, _, _, rfl, rfl, SqL.of hsg6, at0, _, rfl, sg, _, _, _, rfl, rfl, SqL.of hsg6, atI_nat (j := 1) rfl, _, rfl, _, rfl, sg, _, _, _, rfl, rfl, SqL.of hsg6, en, (by show 3 ≤ sizeLine; decide), fun p1 np1 => ⟨(by show 2 ≤ sizeLine; decide), fun p2 np2 => ?_⟩⟩
        have s1_ := same_upd (o := .tup [.str "|", .str y, .str z]) np1
        have s2_ := same_upd (o := .tup [.str x, .ref p1]) np2
        exact ⟨.ref p2, .str x, .tuple [.str "|", .str y, .str z], rfl, s46.trans (s1_.trans s2_), .tup (SqT.of upd_same) (.cons (.str _) (.cons (.tup (SqT.of (s2_ _ _ upd_same)) (.cons (.str _) (.cons (.str _) (.cons (.str _) .nil)))) .nil)), tm_eq (let_meas 4 hx) (by decide) (by decide), tm_eq (pair_meas op_or (let_meas 3 hy) (let_meas 3 hz) (by decide) (by decide)) (by decide) (by decide), Nat.le_trans cnt_small4 hw4⟩
      · rw [decide_eq_false (by omega : ¬ ((wd : Nat) : Int) < ((cnt (.list []) (.tuple [l, r]) : Nat) : Int))]
        exact iteF ⟨va, l, r, rfl, s46, dp_same s46 _ _ hva, tl, tr, ge⟩
    clear hva tl tr
    rintro σ' H5 ⟨va, l, r, rfl, s45, hva, tl, tr, hc⟩
    refine ⟨_, rfl, _, rfl, _, rfl, pr, xs, ds, va, l, r, wd, rfl, SqL.of (s45 _ _ hpr4), dpAll_same s45 _ _ hA4, fun d hd => (hsm d hd).rl, by omega, hva, tl, tr, hw, hc, fun H6 p zs es s56 np hp hz sub hcn => ?_⟩
    refine ⟨_, rfl, (by show 2 ≤ sizeLine; decide), fun T nT => ?_⟩
    have sT := same_upd (o := .tup [.ref p, va]) nT
    have s4T := s45.trans (s56.trans sT)
    have lsub := sub.length_le
    refine good _ T p va es l r upd_same (smx_none (sm24.trans (SmX.of_same s45)) (hs4.same s45) np) ⟨⟨zs, sT _ _ hp, dpAll_same sT _ _ hz⟩, fun d hd => (hsm d (sub.subset hd)).rl, ?_, by omega, dp_same (s56.trans sT) _ _ hva, tl, tr, hcn⟩ (hs4.same s4T) (sm24.trans (SmX.of_same s4T))
    exact (List.Sublist.map nameOf sub).nodup hnd
end
end Fv


namespace Fv
open PySem PySem.Spec PyProof.Rows L2 GenW FvX FvD FvG FvW TL
-- top 38  slots: 0:case 1:left 2:right
abbrev s_keeps_pair : Stmt := topS 38
abbrev N_keeps_pair : List Str := ["case", "left", "right"]
theorem sc_keeps_pair : FnScope N_keeps_pair ["case", "left", "right"] (defScope s_keeps_pair) := ⟨rfl, rfl, rfl, by decide +kernel, rfl, by decide +kernel, by decide +kernel⟩

-- top 39  slots: 0:case 1:left 2:right
abbrev s_breaks_pair : Stmt := topS 39
abbrev N_breaks_pair : List Str := ["case", "left", "right"]
theorem sc_breaks_pair : FnScope N_breaks_pair ["case", "left", "right"] (defScope s_breaks_pair) := ⟨rfl, rfl, rfl, by decide +kernel, rfl, by decide +kernel, by decide +kernel⟩

-- top 40  slots: 0:terms 1:term
abbrev s_letters_among : Stmt := topS 40
abbrev N_letters_among : List Str := ["terms", "term"]
theorem sc_letters_among : FnScope N_letters_among ["terms"] (defScope s_letters_among) := ⟨rfl, rfl, rfl, by decide +kernel, rfl, by decide +kernel, by decide +kernel⟩

-- top 41  slots: 0:rules 1:goal 2:names
abbrev s_case_tree : Stmt := topS 41
abbrev N_case_tree : List Str := ["rules", "goal", "names"]
theorem sc_case_tree : FnScope N_case_tree ["rules", "goal"] (defScope s_case_tree) := ⟨rfl, rfl, rfl, by decide +kernel, rfl, by decide +kernel, by decide +kernel⟩

-- top 42  slots: 0:rules 1:goal 2:case 3:names 4:name 5:left 6:right 7:one 8:other
abbrev s_tree_under : Stmt := topS 42
abbrev N_tree_under : List Str := ["rules", "goal", "case", "names", "name", "left", "right", "one", "other"]
theorem sc_tree_under : FnScope N_tree_under ["rules", "goal", "case", "names"] (defScope s_tree_under) := ⟨rfl, rfl, rfl, by decide +kernel, rfl, by decide +kernel, by decide +kernel⟩



theorem ix_tupK {X : Cx} {K : PySem.W.Frag} (hK : X.K = K) : IxR X (rIxT K) := by
  subst hK
  exact ix_tup
theorem op_eqDK {X : Cx} {K : PySem.W.Frag} (hK : X.K = K) (hu : X.A.units + 64 < cLine) : OpR X (compareOp .Eq) (rEqD K) := by
  subst hK
  exact op_eqD hu
/-- x is True, x a truth value or None -/
theorem op_isO {X : Cx} : OpR X (compareOp .Is) (fun x y H Q => ∃ (o : Option Bool) (b : Bool), x = oV o ∧ y = .bl b ∧ Q (.bl (decide (o = some b))) H) := by
  intro pins s σ H x y v u Q I rx ry h
  obtain ⟨o, b, rfl, rfl, q⟩ := h
  cases (show u = Value.bool b from ry)
  cases o with
  | none =>
    cases (show v = Value.none from rx)
    exact wpAny_is_other rfl (fun z => nomatch z) ⟨.bl false, H, I, rfl, by simpa using q⟩
  | some a =>
    cases (show v = Value.bool a from rx)
    by_cases e : a = b
    · subst e
      exact wpAny_is_self rfl ⟨.bl true, H, I, rfl, by simpa using q⟩
    · exact wpAny_is_other rfl (fun z => e (Value.bool.inj z)) ⟨.bl false, H, I, rfl, by simpa [e] using q⟩
theorem pe_ownS {X : Cx} {k : Nat} {x : Str} {ps : List Str} {sp : Sp} {e : Expr} {es : List Expr} {t : TA} {p pos : Pos} (C : Own X.prog X.w X.K X.mg X.base k x ps sp) (hr : Room k X.A) (hg : Gl X x) (ha : PA X (e :: es) t) (hdb : (x == ("__debug__" : Str)) = false := by decide)
    (he : starEach (e :: es) X.env = (false, eval e X.env) :: starEach es X.env := by rfl) (hst : (backTo pos (starEach es X.env)).any (·.1) = true := by rfl) : PE X (.Call (.Name x p) (e :: es) [] pos) (fun σ H Q => t σ H fun vs H1 => sp vs H1 Q E0) := by
  obtain ⟨f, fd, h1, h2, h3, h4⟩ := C.ex
  have F : FnR X.prog X.w X.K X.mg X.base CX0 k f sp := (FnOk.raw h4 h3 .nil).imp fun vs H Q E h => by rw [List.append_nil]; exact h
  exact StX.pe_callS2 F hr h2 hg h1 pass0 ha hdb he hst
/-- the texts among data -/
def txs0 : List PyData → List Str
  | [] => []
  | .str x :: r => x :: txs0 r
  | _ :: r => txs0 r
theorem txs0_app : ∀ (a b : List PyData), txs0 (a ++ b) = txs0 a ++ txs0 b
  | [], b => rfl
  | d :: r, b => by cases d <;> simp [txs0, txs0_app r b]
theorem txs0_len (l : List PyData) : (txs0 l).length ≤ l.length := by
  induction l with
  | nil => simp [txs0]
  | cons d r ih => cases d <;> simp [txs0] <;> omega
theorem txs0_nd : ∀ (l : List PyData), (l.map txt).Nodup → (txs0 l).Nodup ∧ ∀ x ∈ txs0 l, .str x ∈ l
  | [], _ => ⟨List.nodup_nil, fun x hx => nomatch hx⟩
  | d :: r, h => by
    rw [List.map_cons, List.nodup_cons] at h
    obtain ⟨a, b⟩ := txs0_nd r h.2
    cases d with
    | str x =>
      refine ⟨List.nodup_cons.mpr ⟨fun z => h.1 (List.mem_map.mpr ⟨_, b x z, rfl⟩), a⟩, fun y hy => ?_⟩
      rcases List.mem_cons.mp hy with e | e
      · rw [e]; exact List.mem_cons_self
      · exact List.mem_cons_of_mem _ (b y e)
    | _ => exact ⟨a, fun y hy => List.mem_cons_of_mem _ (b y hy)⟩
/-! ### trees -/
def kp (cs : Str → Option Bool) (l r : PyData) : Bool := decide (tru cs 5 l = some false) || decide (tru cs 5 r = some true)
def bk (cs : Str → Option Bool) (l r : PyData) : Bool := decide (tru cs 5 l = some true) && decide (tru cs 5 r = some false)
/-- a tree under a case, by a walk -/
def trB (rs : List PyData) (ps : List (Str × Bool)) (rec : List (Str × Bool) → PyData → Bool) : List PyData → Bool
  | [a, x] => if PyData.eqv a (.str "rule") = true then rs.any fun q => PyData.eqv (.str (nameOf q)) x && bk (csB ps) (lrQ q).1 (lrQ q).2 else false
  | [.str c, x, y] => if (isL c && (csB ps c).isNone) = true then rec (ps ++ [(c, false)]) x && rec (ps ++ [(c, true)]) y else false
  | _ => false
theorem trB2 {rs : List PyData} {ps : List (Str × Bool)} {rec : List (Str × Bool) → PyData → Bool} {a x : PyData} : trB rs ps rec [a, x] = if PyData.eqv a (.str "rule") = true then rs.any fun q => PyData.eqv (.str (nameOf q)) x && bk (csB ps) (lrQ q).1 (lrQ q).2 else false := by
  cases a <;> rfl
theorem trB3 {rs : List PyData} {ps : List (Str × Bool)} {rec : List (Str × Bool) → PyData → Bool} {c : Str} {x y : PyData} : trB rs ps rec [.str c, x, y] = if (isL c && (csB ps c).isNone) = true then rec (ps ++ [(c, false)]) x && rec (ps ++ [(c, true)]) y else false := rfl
def trU (rs : List PyData) (l r : PyData) : Nat → List (Str × Bool) → PyData → Bool
  | 0, _, _ => false
  | n + 1, ps, .tuple ds => if PyData.eqv (.tuple ds) (.tuple [.str "goal"]) = true then kp (csB ps) l r else trB rs ps (trU rs l r n) ds
  | _ + 1, _, _ => false
/-- proper trees -/
inductive Tr : Nat → PyData → Prop
  | goal {n : Nat} : Tr n (.tuple [.str "goal"])
  | rule {n : Nat} {x : Str} (h : nmS x = true) : Tr n (.tuple [.str "rule", .str x])
  | node {n : Nat} {c : Str} {a b : PyData} (hc : isL c = true) (ha : Tr n a) (hb : Tr n b) : Tr (n + 1) (.tuple [.str c, a, b])
theorem isL_gdn {x : Str} (h : isL x = true) (n : Nat) : gd n (.str x) = true := gd_le (n := 0) (isL_lett (isL_one h)).2 (Nat.zero_le _)
theorem Tr.gd {n : Nat} {t : PyData} (h : Tr n t) : Fv.gd (n + 1) t = true := by
  induction h with
  | goal => exact gd_le (n := 1) (by decide +kernel) (by omega)
  | @rule n x h =>
    refine gd_tup (n := n) (fun d hd => ?_) (by simp)
    simp only [List.mem_cons, List.not_mem_nil, or_false] at hd
    rcases hd with rfl | rfl
    · exact gd_le (n := 0) (by decide +kernel) (Nat.zero_le _)
    · exact nm_gd h _
  | @node n c a b hc ha hb ia ib =>
    refine gd_tup (n := n + 1) (fun d hd => ?_) (by simp)
    simp only [List.mem_cons, List.not_mem_nil, or_false] at hd
    rcases hd with rfl | rfl | rfl
    · exact isL_gdn hc _
    · exact ia
    · exact ib
theorem Tr.kd {n : Nat} {t : PyData} (h : Tr n t) : FvD.kd (n + 1) t = true := by
  induction h with
  | goal => rfl
  | rule h => simp [FvD.kd, FvD.kdAll, FvD.kd_str]
  | node hc ha hb ia ib => simp [FvD.kd, FvD.kdAll, FvD.kd_str, ia, ib]
theorem Tr.up {n : Nat} {t : PyData} (h : Tr n t) : Tr (n + 1) t := by
  induction h with
  | goal => exact .goal
  | rule h => exact .rule h
  | node hc ha hb ia ib => exact .node hc ia ib
/-- a case with one more letter -/
theorem kvB_more {ps : List (Str × Bool)} {c : Str} {b : Bool} (hn : (ps.map (·.1)).Nodup) (hc : c ∉ ps.map (·.1)) : mergeK (mergeK [] (kvB ps)) (mergeK [] [(Sum.inr c, V.bl b)]) = kvB (ps ++ [(c, b)]) := by
  rw [merge_kvB hn]
  have e : mergeK [] [((Sum.inr c : Key), V.bl b)] = kvB [(c, b)] := rfl
  rw [e]
  have e2 : kvB (ps ++ [(c, b)]) = kvB ps ++ kvB [(c, b)] := by unfold kvB; rw [List.map_append]
  rw [e2]
  refine merge_app _ _ ?_
  rw [← e2]
  refine kvB_nodup ?_
  rw [List.map_append, List.nodup_append]
  refine ⟨hn, by simp, fun a ha x hx z => hc ?_⟩
  have hx' : x = c := by simpa using hx
  rw [← hx', ← z]
  exact ha
theorem case_kvB (ps : List (Str × Bool)) : caseOf (kvB ps) (csB ps) := fun x => val_kvB ps x
theorem csB_none {ps : List (Str × Bool)} {c : Str} : (csB ps c).isNone = decide (c ∉ ps.map (·.1)) := by
  unfold csB
  cases h : ps.find? fun p => decide (p.1 = c) with
  | none =>
    have : c ∉ ps.map (·.1) := fun z => by
      obtain ⟨p, hp, e⟩ := List.mem_map.mp z
      have := List.find?_eq_none.mp h p hp
      rw [e] at this
      simp at this
    rw [decide_eq_true this]
    rfl
  | some p =>
    have h1 := List.find?_some h
    have h2 := List.mem_of_find?_eq_some h
    have : ¬ c ∉ ps.map (·.1) := fun z => z (List.mem_map.mpr ⟨p, h2, of_decide_eq_true h1⟩)
    rw [decide_eq_false this]
    rfl
/-- rules and a goal as values -/
structure Qs (K : PySem.W.Frag) (H : Hp) (vr vg : V) (d l r : PyData) : Prop where
  rs : Dp K H vr d
  sq : isSeq d = true
  rl : ∀ q ∈ rows d, isRl q = true
  ln : (rows d).length ≤ 12
  gl : Dp K H vg (.tuple [l, r])
  tl : tmB l = true
  tr : tmB r = true
theorem Qs.same {K : PySem.W.Frag} {H H' : Hp} {vr vg : V} {d l r : PyData} (h : Qs K H vr vg d l r) (s : Same H H') : Qs K H' vr vg d l r := ⟨dp_same s _ _ h.rs, h.sq, h.rl, h.ln, dp_same s _ _ h.gl, h.tl, h.tr⟩
theorem tm_one {d : PyData} (h : tmB d = true) : 1 ≤ lmeas 5 d := by
  rw [← fits_tm', Bool.and_eq_true] at h
  exact of_decide_eq_true h.1
def spPair (K : PySem.W.Frag) (f : (Str → Option Bool) → PyData → PyData → Bool) : Sp := fun vs H Q _ => ∃ (c : Addr) (v1 v2 : V) (d1 d2 : PyData) (kvs : List (Key × V)) (cs : Str → Option Bool), vs = [.ref c, v1, v2] ∧ H c = some (.dK kvs) ∧ caseOf kvs cs ∧ Dp K H v1 d1 ∧ Dp K H v2 d2 ∧ tmB d1 = true ∧ tmB d2 = true ∧ ∀ H', Same H H' → Q (.bl (f cs d1 d2)) H'
def spLetters (K : PySem.W.Frag) : Sp := fun vs H Q _ => ∃ (r : Addr) (xs : List V) (ds : List PyData), vs = [.ref r] ∧ SqL K H r xs ∧ DpAll K H xs ds ∧ (∀ d ∈ ds, gd 20 d = true) ∧ ds.length ≤ 1000 ∧
  ∀ (H' : Hp) (p : Addr) (ss : List Str), Same H H' → H p = none → H' p = some (.lst (ss.map V.str)) → ss.Sublist (txs0 ds) → (∀ x ∈ ss, isL x = true) → Q (.ref p) H'
def spTU (K : PySem.W.Frag) (n : Nat) : Sp := fun vs H Q _ => ∃ (vr vg : V) (c nm : Addr) (d l r : PyData) (ps : List (Str × Bool)) (ss : List Str), vs = [vr, vg, .ref c, .ref nm] ∧ Qs K H vr vg d l r ∧ H c = some (.dK (kvB ps)) ∧ H nm = some (.lst (ss.map V.str)) ∧ (ps.map (·.1) ++ ss).Nodup ∧ (∀ x ∈ ss, isL x = true) ∧ ps.length + ss.length ≤ 30 ∧ ss.length < n ∧
  ∀ (H' : Hp) (v : V), Same H H' → (v = .non ∨ ∃ t, Dp K H' v t ∧ Tr ss.length t) → Q v H'
def spIT (K : PySem.W.Frag) (n : Nat) : Sp := fun vs H Q _ => ∃ (vr vg vt : V) (c : Addr) (d l r t : PyData) (ps : List (Str × Bool)) (m : Nat), vs = [vr, vg, vt, .ref c] ∧ Qs K H vr vg d l r ∧ H c = some (.dK (kvB ps)) ∧ (ps.map (·.1)).Nodup ∧ ps.length + m ≤ 30 ∧ Dp K H vt t ∧ gd m t = true ∧ m < n ∧ m ≤ 20 ∧
  ∀ H', Same H H' → Q (.bl (trU (rows d) l r m ps t)) H'
section
variable {P : Program} {w : World} {K : PySem.W.Frag} {mg : Str → Option Value} {base : Heap}
theorem ok_keeps {f : Addr} {fd : FuncData} {k : Nat} (F : Fun K "keeps_pair" "keeps_pair" s_keeps_pair f fd) (C_truth_under : Own P w K mg base k "truth_under" ["term", "case"] (spTru K 6)) :
    FnOk P w K mg base CX0 (k + 1) f fd ["case", "left", "right"] (spPair K kp) := by
  refine F.ok sc_keeps_pair (fun vs H Q E h => ?_) (fun cdv A outer s H vs Q E hr h => ?_)
  · obtain ⟨c, v1, v2, d1, d2, kvs, cs, rfl, _⟩ := h
    rfl
  · obtain ⟨c, v1, v2, d1, d2, kvs, cs, rfl, hc, hcs, h1, h2, t1, t2, q⟩ := h
    refine ⟨_, (pss_one (ps_ret (pe_or (pe_cmpR op_isO (pe_own C_truth_under (hr.mono (by omega)) (by rfl) (pa_cons (pv 1) (pa_cons (pv 0) pa_nil))) pe_bl (nomark _)) (pe_one (pe_cmpR op_isO (pe_own C_truth_under (hr.mono (by omega)) (by rfl) (pa_cons (pv 2) (pa_cons (pv 0) pa_nil))) pe_bl (nomark _)))))), ?_⟩
    refine ⟨_, rfl, _, rfl, v1, c, d1, 5, kvs, cs, rfl, h1, tm_gd t1 (by decide), by decide, tm_one t1, hc, hcs, fun H1 s1 => ⟨_, false, rfl, rfl, _, rfl, ?_⟩⟩
    unfold kp at q
    cases e : decide (tru cs 5 d1 = some false) with
    | true =>
      rw [e, Bool.true_or] at q
      exact iteT (q H1 s1)
    | false =>
      rw [e, Bool.false_or] at q
      exact iteF ⟨_, rfl, _, rfl, v2, c, d2, 5, kvs, cs, rfl, dp_same s1 _ _ h2, tm_gd t2 (by decide), by decide, tm_one t2, s1 _ _ hc, hcs, fun H2 s2 => ⟨_, true, rfl, rfl, q H2 (s1.trans s2)⟩⟩
theorem ok_breaks {f : Addr} {fd : FuncData} {k : Nat} (F : Fun K "breaks_pair" "breaks_pair" s_breaks_pair f fd) (C_truth_under : Own P w K mg base k "truth_under" ["term", "case"] (spTru K 6)) :
    FnOk P w K mg base CX0 (k + 1) f fd ["case", "left", "right"] (spPair K bk) := by
  refine F.ok sc_breaks_pair (fun vs H Q E h => ?_) (fun cdv A outer s H vs Q E hr h => ?_)
  · obtain ⟨c, v1, v2, d1, d2, kvs, cs, rfl, _⟩ := h
    rfl
  · obtain ⟨c, v1, v2, d1, d2, kvs, cs, rfl, hc, hcs, h1, h2, t1, t2, q⟩ := h
    refine ⟨_, (pss_one (ps_ret (pe_and (pe_cmpR op_isO (pe_own C_truth_under (hr.mono (by omega)) (by rfl) (pa_cons (pv 1) (pa_cons (pv 0) pa_nil))) pe_bl (nomark _)) (pe_one (pe_cmpR op_isO (pe_own C_truth_under (hr.mono (by omega)) (by rfl) (pa_cons (pv 2) (pa_cons (pv 0) pa_nil))) pe_bl (nomark _)))))), ?_⟩
    refine ⟨_, rfl, _, rfl, v1, c, d1, 5, kvs, cs, rfl, h1, tm_gd t1 (by decide), by decide, tm_one t1, hc, hcs, fun H1 s1 => ⟨_, true, rfl, rfl, _, rfl, ?_⟩⟩
    unfold bk at q
    cases e : decide (tru cs 5 d1 = some true) with
    | false =>
      rw [e, Bool.false_and] at q
      exact iteF (q H1 s1)
    | true =>
      rw [e, Bool.true_and] at q
      exact iteT ⟨_, rfl, _, rfl, v2, c, d2, 5, kvs, cs, rfl, dp_same s1 _ _ h2, tm_gd t2 (by decide), by decide, tm_one t2, s1 _ _ hc, hcs, fun H2 s2 => ⟨_, false, rfl, rfl, q H2 (s1.trans s2)⟩⟩
theorem ok_letters {f : Addr} {fd : FuncData} {k : Nat} (F : Fun K "letters_among" "letters_among" s_letters_among f fd) (hk : 1 ≤ k) (C_is_letter : Own P w K mg base 1 "is_letter" ["value"] (spIsLetter K)) :
    FnOk P w K mg base CX0 (k + 1) f fd ["terms"] (spLetters K) := by
  refine F.ok sc_letters_among (fun vs H Q E h => ?_) (fun cdv A outer s H vs Q E hr h => ?_)
  · obtain ⟨r, xs, ds, rfl, _⟩ := h
    rfl
  · obtain ⟨r, xs, ds, rfl, hr0, hA, hg, hl, good⟩ := h
    refine ⟨_, (pss_one (ps_ret (pe_lc (own := [("term", 1)]) (g := gName 1) (by rfl) sc_letters_among.nd (pi_list (pv 0)) (blkOk_by (own := [("term", 1)]) (N := N_letters_among) (sc := defScope s_letters_among) (by decide +kernel)) (fun _ _ _ _ _ => pg_name (i := 1) sc_letters_among.nd rfl (Or.inl rfl)) (fun _ _ _ _ _ => pts_one (pt_val (pe_own C_is_letter (hr.mono (by omega)) (by rfl) (pa_cons (pv 1) pa_nil)))) (fun _ _ _ _ _ => (pv 1))))), ?_⟩
    have hlx := dpAll_len hA
    refine ⟨_, rfl, r, rfl, ⟨_, hr0⟩, fun D nD => lc_list (xs := xs) (fun i H' => Same H H' ∧ ∃ ss : List Str, H' D = some (.lst (ss.map V.str)) ∧ ss.Sublist (txs0 (ds.take i)) ∧ ∀ x ∈ ss, isL x = true) ?_ ?_ ?_ ?_⟩
    · exact ⟨same_upd nD, [], upd_same, List.Sublist.refl _, (fun x hx => nomatch hx)⟩
    · rintro i H' _ ⟨sm, _⟩
      exact sm.seq hr0
    · rintro i x H' hx ⟨sm, ss, hD, sub, hL⟩
      obtain ⟨d, hd, hDx⟩ := dpAll_get hA hx
      have md := List.mem_of_getElem? hd
      have et : txs0 (ds.take (i + 1)) = txs0 (ds.take i) ++ txs0 [d] := by
        rw [List.take_add_one, hd]
        exact txs0_app _ _
      refine ⟨rfl, _, rfl, x, d, rfl, dp_same sm _ _ hDx, hg d md, _, rfl, ?_⟩
      cases hq : isLd d with
      | false =>
        rw [if_neg Bool.false_ne_true]
        exact ⟨sm, ss, hD, by rw [et]; exact sub.trans (List.sublist_append_left _ _), hL⟩
      | true =>
        obtain ⟨y, rfl⟩ : ∃ y, d = .str y := by
          cases d with
          | str y => exact ⟨y, rfl⟩
          | _ => cases hq
        cases hDx
        have ls : ss.length ≤ 1000 := by
          have h1 := sub.length_le
          have h2 := txs0_len (ds.take i)
          rw [List.length_take] at h2
          omega
        refine iteT ⟨_, rfl, _, hD, by rw [List.length_map, sizeLine_eq]; omega, fun c o e => ?_, ss ++ [y], ?_, ?_, fun z hz => ?_⟩
        · rw [upd_ne (ne_of_none e nD)]
          exact sm _ _ e
        · rw [upd_same, List.map_append]; rfl
        · rw [et]
          exact List.Sublist.append sub (List.Sublist.refl _)
        · rcases List.mem_append.mp hz with q | q
          · exact hL z q
          · rw [List.mem_singleton.mp q]; exact hq
    · rintro H' ⟨sm, ss, hD, sub, hL⟩
      rw [List.take_of_length_le (by omega)] at sub
      exact good H' D ss sm nD hD sub hL
end
end Fv


namespace Fv
open PySem PySem.Spec PyProof.Rows L2 GenW FvX FvD FvG FvW TL
theorem dstar_run {σ : L2.St} {H : Hp} {c : Addr} {ps : List (Str × Bool)} {k : Str} {b : Bool} {Q : VK} {tk : TE} {i : Nat} (hi : σ[i]? = some (some (.ref c))) (hc : H c = some (.dK (kvB ps))) (hn : (ps.map (·.1)).Nodup) (hk : k ∉ ps.map (·.1)) (hl : ps.length ≤ 1000)
    (htk : ∀ H', Same H H' → ∀ R : VK, R (.str k) H' → tk σ H' R) (q : ∀ (d : Addr) (H' : Hp), Same H H' → H d = none → H' d = some (.dK (kvB (ps ++ [(k, b)]))) → Q (.ref d) H') : tDStar (tVar i) tk (tC (.bl b)) σ H Q := by
  intro d nd
  have s1 := same_upd (o := .dK []) nd
  have cd : c ≠ d := fun z => by rw [z, nd] at hc; cases hc
  refine ⟨_, hi, c, kvB ps, rfl, cd, s1 _ _ hc, upd_same, by unfold kvB; rw [List.length_map]; exact hl, fun e ne => ?_⟩
  have ed : e ≠ d := fun z => by rw [z, upd_same] at ne; cases ne
  have neH : H e = none := by rw [upd_ne ed] at ne; exact ne
  have sA : Same H (upd (upd (upd H d (.dK [])) d (.dK (mergeK [] (kvB ps)))) e (.dK [])) := fun x o ex => by
    rw [upd_ne (ne_of_none ex neH), upd_ne (ne_of_none ex nd), upd_ne (ne_of_none ex nd)]
    exact ex
  refine htk _ sA _ ⟨Sum.inr k, rfl, by rw [upd_ne ed.symm, upd_same], upd_same, ed, q d _ (fun x o ex => ?_) nd (by rw [upd_same, kvB_more hn hk])⟩
  rw [upd_ne (ne_of_none ex nd), upd_ne (ne_of_none ex neH)]
  exact sA _ _ ex
/-- what case_tree and is_tree ask -/
structure CtQ (CR CG CM : Addr) (d dg : PyData) (H : Hp) (E : XK) : Prop where
  rl : ∀ i, rErr d = some i → errF CR "InvalidRules" "index" (.int i) H E
  gl : rErr d = none → isGl dg = false → errAt CG "InvalidGoal" H E
  tm : rErr d = none → isGl dg = true → 24 < cnt d dg → errF CM "TooManyTerms" "count" (.int (cnt d dg : Nat)) H E
def spCT (K : PySem.W.Frag) (CR CG CM : Addr) : Sp := fun vs H Q E => ∃ (vr vg : V) (d dg : PyData), vs = [vr, vg] ∧ Dp K H vr d ∧ gd 20 d = true ∧ Dp K H vg dg ∧ gd 20 dg = true ∧ CtQ CR CG CM d dg H E ∧
  (rErr d = none → isGl dg = true → cnt d dg ≤ 24 → ∀ (H' : Hp) (v : V), Same H H' → (v = .non ∨ ∃ t, Dp K H' v t ∧ Tr (cnt d dg) t) → Q v H')
def spIsT (K : PySem.W.Frag) (CR CG CM : Addr) : Sp := fun vs H Q E => ∃ (vr vg vt : V) (d dg t : PyData) (m : Nat), vs = [vr, vg, vt] ∧ Dp K H vr d ∧ gd 20 d = true ∧ Dp K H vg dg ∧ gd 20 dg = true ∧ Dp K H vt t ∧ gd m t = true ∧ m ≤ 20 ∧ CtQ CR CG CM d dg H E ∧
  (rErr d = none → isGl dg = true → cnt d dg ≤ 24 → ∀ l r, dg = .tuple [l, r] → ∀ H', Same H H' → Q (.bl (trU (rows d) l r m [] t)) H')
theorem Tr.tup {n : Nat} {t : PyData} (h : Tr n t) : ∃ ds, t = .tuple ds := by
  cases h <;> exact ⟨_, rfl⟩
theorem Tr.le {n m : Nat} {t : PyData} (h : Tr n t) (hm : n ≤ m) : Tr m t := by
  induction hm with
  | refl => exact h
  | step _ ih => exact ih.up
theorem qs_of {K : PySem.W.Frag} {H : Hp} {vr vg : V} {d l r : PyData} (hd : Dp K H vr d) (hdg : Dp K H vg (.tuple [l, r])) (e : rErr d = none) (g : isGl (.tuple [l, r]) = true) : Qs K H vr vg d l r := by
  obtain ⟨hq, hl, hb⟩ := rErr_none e
  have g' : (tmB l && tmB r) = true := g
  rw [Bool.and_eq_true] at g'
  exact ⟨hd, hq, bad_none _ _ _ hb, hl, hdg, g'.1, g'.2⟩
theorem voc_nd {d dg : PyData} {es : List PyData} (hrl : ∀ r ∈ rows d, isRl r = true) (hx : isN dg = true ∨ isGl dg = true) (v : Voc d dg es) : (es.map txt).Nodup := by
  have e0 : sidesOf d (goalOf dg) = sidesOf (.list (rows d)) (goalOf dg) := rfl
  have pr := v.prm
  rw [e0] at pr
  exact (pr.map txt).nodup_iff.mpr (all_nd hrl hx)
section
variable {P : Program} {w : World} {K : PySem.W.Frag} {mg : Str → Option Value} {base : Heap}
theorem tu_zero {f : Addr} {fd : FuncData} {k : Nat} {ps : List Str} : FnOk P w K mg base CX0 k f fd ps (spTU K 0) := by
  have no : ∀ vs H Q E, ¬ spTU K 0 vs H Q E := fun vs H Q E h => by
    obtain ⟨_, _, _, _, _, _, _, _, _, _, _, _, _, _, _, _, m1, _⟩ := h
    omega
  exact ⟨fun vs H Q E h => absurd h (no vs H Q E), fun A outer s H args us vs Q E _ _ _ _ h => absurd h (no vs H Q E)⟩
theorem it_zero {f : Addr} {fd : FuncData} {k : Nat} {ps : List Str} : FnOk P w K mg base CX0 k f fd ps (spIT K 0) := by
  have no : ∀ vs H Q E, ¬ spIT K 0 vs H Q E := fun vs H Q E h => by
    obtain ⟨_, _, _, _, _, _, _, _, _, _, _, _, _, _, _, _, _, m1, _⟩ := h
    omega
  exact ⟨fun vs H Q E h => absurd h (no vs H Q E), fun A outer s H args us vs Q E _ _ _ _ h => absurd h (no vs H Q E)⟩
theorem ok_tree_under {f : Addr} {fd : FuncData} {k n : Nat} (F : Fun K "tree_under" "tree_under" s_tree_under f fd) (m_len : mg "len" = none)
    (C_breaks_pair : Own P w K mg base k "breaks_pair" ["case", "left", "right"] (spPair K bk)) (C_keeps_pair : Own P w K mg base k "keeps_pair" ["case", "left", "right"] (spPair K kp))
    (C_tree_under : Own P w K mg base k "tree_under" ["rules", "goal", "case", "names"] (spTU K n)) :
    FnOk P w K mg base CX0 (k + 1) f fd ["rules", "goal", "case", "names"] (spTU K (n + 1)) := by
  refine F.ok sc_tree_under (fun vs H Q E h => ?_) (fun cdv A outer s H vs Q E hr h => ?_)
  · obtain ⟨vr, vg, c, nm, d, l, r, ps, ss, rfl, _⟩ := h
    rfl
  · obtain ⟨vr, vg, c, nm, d, l, r, ps, ss, rfl, hQ, hc, hnm, hnd, hL, l30, ln, good⟩ := h
    refine ⟨_, (pss_cons (ps_for PassesOwn.never rfl (FvW.pi_or (pi_list (pv 0)) (pi_tup (pv 0))) (pg_tup rfl (pgs_cons (pg_name (i := 4) sc_tree_under.nd rfl (by first | exact .inl rfl | exact .inr rfl)) (pgs_cons (pg_name (i := 5) sc_tree_under.nd rfl (by first | exact .inl rfl | exact .inr rfl)) (pgs_cons (pg_name (i := 6) sc_tree_under.nd rfl (by first | exact .inl rfl | exact .inr rfl)) pgs_nil))))
        (pss_one (ps_if (pt_val (pe_own C_breaks_pair (hr.mono (by omega)) (by rfl) (pa_cons (pv 2) (pa_cons (pv 5) (pa_cons (pv 6) pa_nil)))))
          (pss_one (ps_ret (pe_tup (pa_cons pe_str (pa_cons (pv 4) pa_nil)))))
          pss_nil)))
      (pss_cons (ps_if (pt_val (pe_ownS C_keeps_pair (hr.mono (by omega)) (by rfl) (pa_cons (pv 2) (StX.pa_star (pv 1) pa_nil))))
        (pss_one (ps_ret (pe_tup (pa_cons pe_str pa_nil))))
        pss_nil)
      (pss_cons (ps_if (pt_cmpR op_eq (pe_callB call_len_seq (by rfl) m_len (by decide +kernel) (pa_cons (pv 3) pa_nil)) pe_int (nomark _))
        (pss_one (ps_ret pe_non))
        pss_nil)
      (pss_cons (ps_set (i := 7) sc_tree_under.nd rfl (by first | exact .inl rfl | exact .inr rfl) (pe_own C_tree_under (hr.mono (by omega)) (by rfl) (pa_cons (pv 0) (pa_cons (pv 1) (pa_cons (FvW.pe_dstar (pv 2) (pe_ix ix_list (pv 3) pe_int (fun _ _ => rfl)) pe_bl) (pa_cons (pe_slice sl_list (pv 3) (po_some pe_int) po_none) pa_nil))))))
      (pss_cons (ps_set (i := 8) sc_tree_under.nd rfl (by first | exact .inl rfl | exact .inr rfl) (pe_ifExp (pt_cmpR op_isN (pv 7) pe_non (nomark _)) pe_non (pe_own C_tree_under (hr.mono (by omega)) (by rfl) (pa_cons (pv 0) (pa_cons (pv 1) (pa_cons (FvW.pe_dstar (pv 2) (pe_ix ix_list (pv 3) pe_int (fun _ _ => rfl)) pe_bl) (pa_cons (pe_slice sl_list (pv 3) (po_some pe_int) po_none) pa_nil)))))))
      (pss_one (ps_ret (pe_ifExp (pt_cmpR op_isN (pv 8) pe_non (nomark _)) pe_non (pe_tup (pa_cons (pe_ix ix_list (pv 3) pe_int (fun _ _ => rfl)) (pa_cons (pv 7) (pa_cons (pv 8) pa_nil)))))))))))), ?_⟩
    have hcs := case_kvB ps
    refine i_seq rfl hQ.rs hQ.sq (Same.refl H) fun J G xs hxs hW hG => for_it hW (fun i σ H2 => ∃ y4 y5 y6 : Option V, σ = [some vr, some vg, some (.ref c), some (.ref nm), y4, y5, y6, none, none] ∧ Same H H2) ?_ ?_ ?_ ?_
    · exact ⟨none, none, none, rfl, Same.refl _⟩
    · rintro i σ H2 _ ⟨y4, y5, y6, rfl, sm⟩
      exact hG H2 sm
    · rintro i x σ H2 H3 hi ⟨y4, y5, y6, rfl, sm⟩ ⟨rfl, hx⟩
      obtain ⟨q, hq, hDq⟩ := dpAll_get hxs hx
      have rq := hQ.rl q (List.mem_of_getElem? hq)
      obtain ⟨b, x1, x2, l', r', rfl, hsb, _, h1, h2, t1, t2, hn⟩ := rl_v hDq rq
      refine ⟨b, _, rfl, same_seqT sm hsb, rfl, ?_⟩
      refine ⟨_, _, rfl, _, _, rfl, _, _, rfl, rfl, ?_⟩
      refine ⟨_, rfl, _, rfl, _, rfl, c, x1, x2, l', r', kvB ps, csB ps, rfl, sm _ _ hc, hcs, dp_same sm _ _ h1, dp_same sm _ _ h2, t1, t2, fun H4 s4 => ⟨_, rfl, ?_⟩⟩
      cases bk (csB ps) l' r' with
      | true =>
        refine iteT ⟨_, rfl, (by show 2 ≤ sizeLine; decide), fun T nT => ?_⟩
        exact good _ _ (sm.trans (s4.trans (same_upd nT))) (.inr ⟨_, .tup (SqT.of upd_same) (.cons (.str _) (.cons (.str _) .nil)), .rule hn⟩)
      | false => exact iteF ⟨_, _, _, rfl, sm.trans s4⟩
    · rintro σ H2 ⟨y4, y5, y6, rfl, sm⟩
      have hQ2 := hQ.same sm
      obtain ⟨g, g1, g2, rfl, hsg, hg1, hg2⟩ : ∃ g g1 g2, vg = .ref g ∧ SqT K H g [g1, g2] ∧ Dp K H g1 l ∧ Dp K H g2 r := by
        cases hQ.gl with
        | tup hs ha => cases ha with
          | cons h1 ha => cases ha with
            | cons h2 ha => cases ha; exact ⟨_, _, _, rfl, hs, h1, h2⟩
      refine ⟨_, rfl, _, rfl, g, [g1, g2], rfl, .inl (same_seqT sm hsg), c, g1, g2, l, r, kvB ps, csB ps, rfl, sm _ _ hc, hcs, dp_same sm _ _ hg1, dp_same sm _ _ hg2, hQ.tl, hQ.tr, fun H4 s4 => ⟨_, rfl, ?_⟩⟩
      have sm4 := sm.trans s4
      cases kp (csB ps) l r with
      | true =>
        refine iteT ⟨(by show 1 ≤ sizeLine; decide), fun T nT => ?_⟩
        exact good _ _ (sm4.trans (same_upd nT)) (.inr ⟨_, .tup (SqT.of upd_same) (.cons (.str _) .nil), .goal⟩)
      | false =>
        have hnm4 := sm4 _ _ hnm
        refine iteF ⟨_, rfl, nm, _, rfl, .inl (SqL.of hnm4), rfl, _, rfl, ?_⟩
        rw [List.length_map]
        match ss, hnm4, hnd, hL, l30, ln, good with
        | [], _, _, _, _, _, good => exact iteT (good H4 .non sm4 (.inl rfl))
        | n0 :: rest, hnm4, hnd, hL, l30, ln, good =>
          have hnd0 := hnd
          rw [List.nodup_append] at hnd
          have nps : n0 ∉ ps.map (·.1) := fun z => hnd.2.2 _ z _ (List.mem_cons_self ..) rfl
          have hn0 := hL n0 List.mem_cons_self
          have lt : (n0 :: rest).length = rest.length + 1 := rfl
          rw [lt] at l30 ln good
          rw [show decide (V.int (((n0 :: rest).length : Nat) : Int) = V.int 0) = false from decide_eq_false fun z => by have := V.int.inj z; simp only [List.length_cons] at this; omega]
          have nd2 : ∀ b : Bool, ((ps ++ [(n0, b)]).map (·.1) ++ rest).Nodup := fun b => by
            rw [List.map_append, List.append_assoc]
            exact hnd0
          have hL2 : ∀ x ∈ rest, isL x = true := fun x hx => hL x (List.mem_cons_of_mem _ hx)
          have cut : cutV ((n0 :: rest).map V.str) (some 1) none = rest.map V.str := by rw [cut_drop1]; rfl
          refine iteF ⟨_, rfl, _, rfl, dstar_run (σ := [some vr, some (.ref g), some (.ref c), some (.ref nm), y4, y5, y6, none, none]) (i := 2) rfl (sm4 _ _ hc) hnd.1 nps (by omega) (fun H' s' R hR => ⟨_, rfl, nm, _, _, _, rfl, rfl, SqL.of (s' _ _ hnm4), at0, hR⟩) fun d1 H5 s5 nd1 hd1 => ?_⟩
          have sm5 := sm4.trans s5
          refine ⟨_, rfl, 1, rfl, nm, _, rfl, SqL.of (s5 _ _ hnm4), fun q1 nq1 => ?_⟩
          rw [cut]
          have sq := same_upd (o := .lst (rest.map V.str)) nq1
          have sm6 := sm5.trans sq
          refine ⟨vr, .ref g, d1, q1, d, l, r, ps ++ [(n0, false)], rest, rfl, hQ.same sm6, sq _ _ hd1, upd_same, nd2 false, hL2, by rw [List.length_append, List.length_singleton]; omega, by omega, fun H7 v1 s7 hv1 => ?_⟩
          have sm7 := sm6.trans s7
          refine ⟨_, rfl, rfl, _, rfl, ?_⟩
          rcases hv1 with rfl | ⟨t1, ht1, tr1⟩
          · refine iteT ⟨_, rfl, rfl, _, rfl, iteT ?_⟩
            exact good H7 .non sm7 (.inl rfl)
          · have nv1 : decide (v1 = V.non) = false := decide_eq_false fun z => by obtain ⟨ds, e⟩ := tr1.tup; subst e; subst z; cases ht1
            rw [nv1]
            have hnm7 := sm7 _ _ hnm
            have hnm7' : H7 nm = some (.lst ((n0 :: rest).map V.str)) := (s5.trans (sq.trans s7)) _ _ hnm4
            refine iteF ⟨_, rfl, _, rfl, dstar_run (σ := [some vr, some (.ref g), some (.ref c), some (.ref nm), y4, y5, y6, some v1, none]) (i := 2) rfl (sm7 _ _ hc) hnd.1 nps (by omega) (fun H' s' R hR => ⟨_, rfl, nm, _, _, _, rfl, rfl, SqL.of (s' _ _ hnm7'), at0, hR⟩) fun d2 H8 s8 nd2' hd2 => ?_⟩
            have sm8 := sm7.trans s8
            refine ⟨_, rfl, 1, rfl, nm, _, rfl, SqL.of (s8 _ _ hnm7'), fun q2 nq2 => ?_⟩
            rw [cut]
            have sq2 := same_upd (o := .lst (rest.map V.str)) nq2
            have sm9 := sm8.trans sq2
            refine ⟨vr, .ref g, d2, q2, d, l, r, ps ++ [(n0, true)], rest, rfl, hQ.same sm9, sq2 _ _ hd2, upd_same, nd2 true, hL2, by rw [List.length_append, List.length_singleton]; omega, by omega, fun HA v2 sA hv2 => ?_⟩
            have smA := sm9.trans sA
            refine ⟨_, rfl, rfl, _, rfl, ?_⟩
            rcases hv2 with rfl | ⟨t2, ht2, tr2⟩
            · exact iteT (good HA .non smA (.inl rfl))
            · have nv2 : decide (v2 = V.non) = false := decide_eq_false fun z => by obtain ⟨ds, e⟩ := tr2.tup; subst e; subst z; cases ht2
              rw [nv2]
              have hnmA : HA nm = some (.lst ((n0 :: rest).map V.str)) := (s8.trans (sq2.trans sA)) _ _ hnm7'
              refine iteF ⟨_, rfl, nm, _, _, _, rfl, rfl, SqL.of hnmA, at0, _, rfl, _, rfl, (by show 3 ≤ sizeLine; decide), fun T nT => ?_⟩
              have sT := same_upd (o := .tup [.str n0, v1, v2]) nT
              exact good _ _ (smA.trans sT) (.inr ⟨_, .tup (SqT.of upd_same) (.cons (.str _) (.cons (dp_same (s8.trans (sq2.trans (sA.trans sT))) _ _ ht1) (.cons (dp_same sT _ _ ht2) .nil))), .node hn0 tr1 tr2⟩)
theorem ok_case_tree {f CR CG CM : Addr} {fd : FuncData} {k : Nat} (F : Fun K "case_tree" "case_tree" s_case_tree f fd)
    (C_question_terms : OwnR P w K mg base k "question_terms" (spQt K CR CG CM)) (C_letters_among : Own P w K mg base k "letters_among" ["terms"] (spLetters K))
    (C_tree_under : Own P w K mg base k "tree_under" ["rules", "goal", "case", "names"] (spTU K 25)) :
    FnOk P w K mg base (L2.CX P w) (k + 1) f fd ["rules", "goal"] (spCT K CR CG CM) := by
  refine F.okX sc_case_tree (fun vs H Q E h => ?_) (fun cdv A outer s H vs Q E hr h => ?_)
  · obtain ⟨vr, vg, d, dg, rfl, _⟩ := h
    rfl
  · obtain ⟨vr, vg, d, dg, rfl, hd, hg, hdg, hgg, c, good⟩ := h
    refine ⟨_, (pss_cons (ps_set (i := 2) sc_case_tree.nd rfl (by first | exact .inl rfl | exact .inr rfl) (pe_own C_letters_among (hr.mono (by omega)) (by rfl) (pa_cons (pe_ownR C_question_terms (hr.mono (by omega)) (by rfl) passX (pa_cons (pv 0) (pa_cons (pv 1) pa_nil))) pa_nil)))
      (pss_one (ps_ret (pe_own C_tree_under (hr.mono (by omega)) (by rfl) (pa_cons (pv 0) (pa_cons (pv 1) (pa_cons (pe_dnewK) (pa_cons (pv 2) pa_nil)))))))), ?_⟩
    refine ⟨_, rfl, _, rfl, vr, vg, d, dg, rfl, hd, hg, hdg, hgg, ⟨c.rl, c.gl, c.tm, fun e gl hc H1 p ys es s1 np hp hy hv => ?_⟩⟩
    obtain ⟨l, r, rfl, _, _⟩ := isGl_inv gl
    have hQ := (qs_of hd hdg e gl).same s1
    have tks := voc_tk hQ.rl (.inr gl) hv
    have les := voc_len hv
    have nd := voc_nd hQ.rl (.inr gl) hv
    refine ⟨p, ys, es, rfl, SqL.of hp, hy, fun x hx => (tks x hx).gd, by omega, fun H2 q ss s2 nq hq sub hL => ?_⟩
    have ndss : ss.Nodup := sub.nodup (txs0_nd es nd).1
    have lss : ss.length ≤ cnt d (.tuple [l, r]) := by
      have h1 := sub.length_le
      have h2 := txs0_len es
      omega
    refine ⟨_, rfl, _, rfl, fun cc ncc => ?_⟩
    have sc := same_upd (o := .dK []) ncc
    refine ⟨_, rfl, vr, vg, cc, q, d, l, r, [], ss, rfl, hQ.same (s2.trans sc), upd_same, sc _ _ hq, ndss, hL, by rw [List.length_nil]; omega, by omega, fun H4 v s4 hv4 => ?_⟩
    refine good e gl hc H4 v (s1.trans (s2.trans (sc.trans s4))) (hv4.imp id fun ⟨t, h1, h2⟩ => ⟨t, h1, h2.le lss⟩)
end
end Fv


namespace Fv
open PySem PySem.Spec PyProof.Rows L2 GenW FvX FvD FvG FvW TL



def spLPair (K : PySem.W.Frag) (f : (Str → Option Bool) → PyData → PyData → Bool) : Sp := fun vs H Q _ => ∃ (c : Addr) (v1 v2 : V) (d1 d2 : PyData) (kvs : List (Key × V)) (cs : Str → Option Bool), vs = [v1, v2, .ref c] ∧ H c = some (.dK kvs) ∧ caseOf kvs cs ∧ Dp K H v1 d1 ∧ Dp K H v2 d2 ∧ tmB d1 = true ∧ tmB d2 = true ∧ ∀ H', Same H H' → Q (.bl (f cs d1 d2)) H'
def spLT (K : PySem.W.Frag) (n : Nat) : Sp := fun vs H Q _ => ∃ (pr : Addr) (xs : List V) (rs : List PyData) (vg vt : V) (c : Addr) (l r t : PyData) (ps : List (Str × Bool)) (m : Nat), vs = [.ref pr, vg, vt, .ref c] ∧ SqL K H pr xs ∧ DpAll K H xs rs ∧ (∀ q ∈ rs, isRl q = true) ∧ rs.length ≤ 12 ∧ Dp K H vg (.tuple [l, r]) ∧ tmB l = true ∧ tmB r = true ∧
  H c = some (.dK (kvB ps)) ∧ (ps.map (·.1)).Nodup ∧ ps.length + m ≤ 30 ∧ Dp K H vt t ∧ gd m t = true ∧ m < n ∧ m ≤ 20 ∧ ∀ H', Same H H' → Q (.bl (trU rs l r m ps t)) H'
theorem lt_zero {P : Program} {w : World} {K : PySem.W.Frag} {mg : Str → Option Value} {base : Heap} {f : Addr} {fd : FuncData} {k : Nat} {ps : List Str} : FnOk P w K mg base CX0 k f fd ps (spLT K 0) := by
  have no : ∀ vs H Q E, ¬ spLT K 0 vs H Q E := fun vs H Q E h => by
    obtain ⟨_, _, _, _, _, _, _, _, _, _, _, _, _, _, _, _, _, _, _, _, _, _, _, _, m1, _⟩ := h
    omega
  exact ⟨fun vs H Q E h => absurd h (no vs H Q E), fun A outer s H args us vs Q E _ _ _ _ h => absurd h (no vs H Q E)⟩
theorem eqv_str {a : PyData} {x : Str} (h : PyData.eqv a (.str x) = true) : a = .str x := by
  cases a with
  | str y =>
    have : decide (y = x) = true := by
      have e : PyData.eqv (.str y) (.str x) = (y == x) := rfl
      rw [e] at h
      exact decide_eq_true (eq_of_beq h)
    rw [of_decide_eq_true this]
  | _ => cases h
theorem putK_kvB {ps : List (Str × Bool)} {c : Str} {b : Bool} (hc : c ∉ ps.map (·.1)) : putK (kvB ps) (Sum.inr c) (V.bl b) = kvB (ps ++ [(c, b)]) := by
  rw [putK_new]
  · unfold kvB; rw [List.map_append]; rfl
  · intro kv hkv z
    obtain ⟨p, hp, rfl⟩ := List.mem_map.mp hkv
    exact hc (List.mem_map.mpr ⟨p, hp, Sum.inr.inj z⟩)
section
variable {P : Program} {w : World} {K : PySem.W.Frag} {mg : Str → Option Value} {base : Heap}
end
end Fv


set_option maxHeartbeats 4000000
namespace FvB
open PySem PySem.Spec PyProof.Rows L2
/-! ### sets of texts: set(list of texts), sorted(set) -/
def keyS (e : Int × Value) : Str := match e.2 with | .str x _ => x | _ => Str.empty
def GoodS (P : Program) (w : World) (e : Int × Value) : Prop := ∃ x tk, e.2 = Value.str x tk ∧ e.1 = (PySem.strKind P w).hash x
/-- the set of texts at a: S its members, at most m of them; it can be walked -/
structure SetT (P : Program) (w : World) (h : Heap) (a : Addr) (S : Str → Bool) (m : Nat) : Prop where
  ex : ∃ o es ep t, h.get? a = some o ∧ o.ExactSet ∧ o.data = .set es ep t ∧ (∀ e ∈ es.toList, GoodS P w e) ∧ (es.toList.map keyS).Nodup ∧ (∀ k, S k = true ↔ k ∈ es.toList.map keyS) ∧ es.size < scanBound ∧ t.fits es.size = true ∧ es.size ≤ m ∧ Ris t.place.toList ∧
    (w.params.followText "set-order" = true ∨ t.led = true)
section
variable {P : Program} {w : World} {A : Around} {E : Value → Shared → Prop} {s : Shared} {a : Addr} {S : Str → Bool} {m : Nat} {h h' : Heap}
theorem SetT.at (R : SetT P w h a S m) (k : ∀ o, h.get? a = some o → h'.get? a = some o) : SetT P w h' a S m := by
  obtain ⟨o, es, ep, t, ho, r⟩ := R.ex
  exact ⟨o, es, ep, t, k o ho, r⟩
theorem goodS_elems {l : List (Int × Value)} (g : ∀ e ∈ l, GoodS P w e) : ElemsOf (PySem.strKind P w) l := fun e he => by
  obtain ⟨x, tk, h1, h2⟩ := g e he
  exact ⟨⟨x, by rw [h1]; exact strKind_is P w x tk, h2⟩, by rw [h1]; rfl⟩
theorem goodS_is {e : Int × Value} (g : GoodS P w e) (k : Str) : (PySem.strKind P w).is k e.2 = true ↔ keyS e = k := by
  obtain ⟨x, tk, h1, _⟩ := g
  have e1 : keyS e = x := by unfold keyS; rw [h1]
  rw [e1]
  constructor
  · intro z
    rw [h1] at z
    exact ((PySem.strKind P w).inj _ _ _ z (strKind_is P w x tk)).symm
  · intro z
    rw [h1, ← z]
    exact strKind_is P w x tk
theorem goodS_mem {l : List (Int × Value)} (g : ∀ e ∈ l, GoodS P w e) (k : Str) : k ∈ l.map keyS ↔ ∃ e ∈ l, (PySem.strKind P w).is k e.2 = true := by
  rw [List.mem_map]
  exact ⟨fun ⟨e, he, z⟩ => ⟨e, he, (goodS_is (g e he) k).mpr z⟩, fun ⟨e, he, z⟩ => ⟨e, he, (goodS_is (g e he) k).mp z⟩⟩
/-- what is stored at the end of an add -/
theorem addT_tail {gv : Bool → Sem Unit} (hg : ∀ (b : Bool) (s₁ : Shared) (Q' : Unit → Shared → Prop), Q' () s₁ → wpAny (model P w) A (gv b) Q' E s₁) {o : Obj} {es : Array (Int × Value)} {ep : Nat} {t : SetTable} (ho : s.heap.get? a = some o) (hex : o.ExactSet) (hd : o.data = .set es ep t)
    {es1 : Array (Int × Value)} {t2 : SetTable} {S' : Str → Bool} (g1 : ∀ e ∈ es1.toList, GoodS P w e) (nd1 : (es1.toList.map keyS).Nodup) (m1 : ∀ k, S' k = true ↔ k ∈ es1.toList.map keyS) (hb1 : es1.size < scanBound) (hm1 : es1.size ≤ m) (hf2 : t2.fits es1.size = true) (hr : Ris t2.place.toList)
    (hl : w.params.followText "set-order" = true ∨ t2.led = true) {wasDummy : Bool} {R : Option Bool → Shared → Prop} (hR : ∀ h', Heap.SameBut a s.heap h' → SetT P w h' a S' m → R (some true) { s with heap := h' }) {tr : Sem (Option Bool)}
    (et : tr = (storeSet a es1 t2 >>= fun _ => if (!wasDummy && t2.tooFull) = true then (gv (relayAll t2 es1 (SetTable.grown es1.size)).2.2 >>= fun _ => storeSet a (relayAll t2 es1 (SetTable.grown es1.size)).1 (relayAll t2 es1 (SetTable.grown es1.size)).2.1 >>= fun _ => pure (some true)) else pure (some true))) :
    wpAny (model P w) A tr R E s := by
  subst et
  refine wpAny_bind (wpAny_storeSet_of ho hd ?_ (fits_of_scanBound hb1))
  have at1 := store_at (es' := es1) (t' := t2) ho hd
  have sb := Heap.SameBut.update s.heap a (Obj.putSet es1 t2)
  by_cases c : (!wasDummy && t2.tooFull) = true
  · rw [if_pos c]
    have pm := relayAll_perm t2 es1 (SetTable.grown es1.size)
    have f3 := relayAll_fits t2 es1 (SetTable.grown es1.size)
    have r3 := relayAll_ris t2 es1 (SetTable.grown es1.size)
    have l3 := relayAll_led t2 es1 (SetTable.grown es1.size)
    generalize relayAll t2 es1 (SetTable.grown es1.size) = Z at pm f3 r3 l3 ⊢
    obtain ⟨es2, t3, gave⟩ := Z
    dsimp only at pm f3 r3 l3 ⊢
    have sz : es2.size = es1.size := by rw [← Array.length_toList, pm.length_eq, Array.length_toList]
    have hb2 : es2.size < scanBound := by rw [sz]; exact hb1
    refine wpAny_bind (hg _ _ _ (wpAny_bind (wpAny_storeSet_of at1 rfl ?_ (fits_of_scanBound hb2))))
    have at2 := store_at (es' := es2) (t' := t3) at1 rfl
    refine wpAny_pure (hR _ (sb.trans (Heap.SameBut.update _ a _)) ⟨_, es2, _, t3, at2, hex, rfl, fun e he => g1 e (pm.mem_iff.mp he), (pm.map keyS).nodup_iff.mpr nd1, fun k => (m1 k).trans (pm.map keyS).mem_iff.symm, hb2, f3, by rw [sz]; exact hm1, r3, hl.imp id fun z => by rw [l3]; exact z⟩)
  · rw [if_neg c]
    exact wpAny_pure (hR _ sb ⟨_, es1, _, t2, at1, hex, rfl, g1, nd1, m1, hb1, hf2, hm1, hr, hl⟩)
theorem addT {x : Str} {tk : Tok} {Q : Bool → Shared → Prop} (R : SetT P w s.heap a S m) (room : m + 1 < scanBound) (hQ : ∀ h' b, Heap.SameBut a s.heap h' → SetT P w h' a (fun j => S j || decide (j = x)) (m + 1) → Q b { s with heap := h' }) :
    wpAny (model P w) A (setAddHashed a (.str x tk) ((PySem.strKind P w).hash x)) Q E s := by
  obtain ⟨o, es, ep, t, ho, hex, hd, g, nd, hm, hb, hf, hn, hr, hl⟩ := R.ex
  have hk : (PySem.strKind P w).is x (.str x tk) = true := strKind_is P w x tk
  have sc : (Value.str x tk).scannable = true := rfl
  have el : ElemsOf (PySem.strKind P w) es.toList := goodS_elems g
  unfold setAddHashed
  unfold setAddHashedIn
  refine wpAny_holding (wpAny_bind (wpAny_setState_of ho hd hf ?_))
  dsimp only
  rw [byScan_of sc hb el]
  simp only [↓reduceIte]
  unfold setAddByScan
  refine wpAny_bind (wpAny_bind (wpAny_rule (wpAny_bind (wpAny_setScan_of hk ho hd hf el ?_))))
  cases fi : List.findIdx? (fun e => (PySem.strKind P w).is x e.2) es.toList with
  | some j =>
    dsimp only
    obtain ⟨hj, pj, _⟩ := List.findIdx?_eq_some_iff_getElem.mp fi
    have Sx : S x = true := (hm x).2 ((goodS_mem g x).2 ⟨es.toList[j], List.getElem_mem hj, pj⟩)
    refine wpAny_pure (wpAny_pure (hQ s.heap _ (Heap.SameBut.refl a s.heap) ⟨o, es, ep, t, ho, hex, hd, g, nd, fun i => ?_, hb, hf, by omega, hr, hl⟩))
    rw [Bool.or_eq_true, decide_eq_true_eq, ← hm i]
    exact ⟨fun z => z.elim id (fun e => e ▸ Sx), .inl⟩
  | none =>
    dsimp only
    have nx : x ∉ es.toList.map keyS := fun z => by
      obtain ⟨e, he, q⟩ := (goodS_mem (P := P) (w := w) g x).1 z
      have c := List.findIdx?_eq_none_iff.mp fi e he
      rw [q] at c
      cases c
    have say : ∀ (b : Bool) {s₁ : Shared} {Q' : Unit → Shared → Prop}, Q' () s₁ → wpAny (model P w) A (match b with | true => rule "set.scan.the-table-gave-way" | false => pure ()) Q' E s₁ :=
      fun b s₁ Q' q => by cases b <;> first | exact wpAny_pure q | exact wpAny_rule q
    have pm := layNew_perm t es ((PySem.strKind P w).hash x) (.str x tk)
    have f1 := layNew_fits t es ((PySem.strKind P w).hash x) (.str x tk)
    have r1 := layNew_ris t es ((PySem.strKind P w).hash x) (.str x tk) hr
    have l1 := layNew_led t es ((PySem.strKind P w).hash x) (.str x tk)
    generalize layNew t es ((PySem.strKind P w).hash x) (.str x tk) = Z at pm f1 r1 l1 ⊢
    obtain ⟨es1, t1, wasDummy, gave⟩ := Z
    dsimp only at pm f1 r1 l1 ⊢
    rw [Array.toList_push] at pm
    have pc : es1.toList.Perm (((PySem.strKind P w).hash x, Value.str x tk) :: es.toList) := pm.trans (List.perm_append_singleton _ _)
    have pk : (es1.toList.map keyS).Perm (x :: es.toList.map keyS) := pc.map keyS
    have g1 : ∀ e ∈ es1.toList, GoodS P w e := fun e he => by
      rcases List.mem_cons.mp (pc.mem_iff.mp he) with z | z
      · rw [z]; exact ⟨x, tk, rfl, rfl⟩
      · exact g e z
    have nd1 : (es1.toList.map keyS).Nodup := pk.nodup_iff.mpr (List.nodup_cons.mpr ⟨nx, nd⟩)
    have m1 : ∀ i, (S i || decide (i = x)) = true ↔ i ∈ es1.toList.map keyS := fun i => by
      rw [Bool.or_eq_true, decide_eq_true_eq, hm i, pk.mem_iff, List.mem_cons]
      exact Or.comm
    have sz : es1.size = es.size + 1 := by rw [← Array.length_toList, pc.length_eq, List.length_cons, Array.length_toList]
    have hb1 : es1.size < scanBound := by omega
    have led1 : w.params.followText "set-order" = true ∨ t1.led = true := hl.imp id fun z => by rw [l1]; exact z
    refine wpAny_bind (say _ ?_)
    split
    · refine wpAny_bind ?_
      rw [hashByValue_scannable 8 sc]
      refine wpAny_pure ?_
      refine addT_tail (m := m + 1) (fun b s₁ Q' q => ?_) ho hex hd g1 nd1 m1 hb1 (by omega) ?_ ?_ ?_ (fun h' sb r => ?_) rfl
      · cases b <;> first | exact wpAny_pure q | exact wpAny_rule q
      · first | (split <;> first | exact f1 | exact SetTable.fits_plain_off f1) | exact f1
      · first | (split <;> exact r1) | exact r1
      · first | (split <;> exact led1) | exact led1
      · dsimp only; exact wpAny_pure (hQ h' _ sb r)
    · refine wpAny_bind (wpAny_pure ?_)
      simp only [↓reduceIte]
      refine addT_tail (m := m + 1) (fun b s₁ Q' q => ?_) ho hex hd g1 nd1 m1 hb1 (by omega) f1 r1 led1 (fun h' sb r => ?_) rfl
      · cases b <;> first | exact wpAny_pure q | exact wpAny_rule q
      · dsimp only; exact wpAny_pure (hQ h' _ sb r)
end
end FvB


set_option maxHeartbeats 8000000
namespace FvB
open PySem PySem.Spec PyProof.Rows L2
/-! ### set(list of texts) -/
/-- members: what was there among the first i -/
def memT (xs : List Str) : Str → Bool := fun k => decide (k ∈ xs)
section
variable {P : Program} {w : World} {A : Around} {R : Result → Shared → Prop} {I : Addr} {fp wr : List Addr} {G : Array GenState → Array GenState → Prop} {n : Nat} {Pv : Nat → Value → Prop} {St : Nat → Shared → Prop}
theorem SetT.congr {h : Heap} {a : Addr} {S S' : Str → Bool} {m : Nat} (x : SetT P w h a S m) (e : ∀ k, S' k = S k) : SetT P w h a S' m := by
  obtain ⟨o, es, ep, t, h1, h2, h3, h4, h5, h6, r⟩ := x.ex
  exact ⟨o, es, ep, t, h1, h2, h3, h4, h5, fun k => by rw [e k]; exact h6 k, r⟩
theorem memT_snoc (xs : List Str) (i : Nat) (x : Str) (h : xs[i]? = some x) (k : Str) : memT (xs.take (i + 1)) k = (memT (xs.take i) k || decide (k = x)) := by
  unfold memT
  rw [List.take_add_one, h]
  by_cases a : k ∈ xs.take i
  · simp [a]
  · by_cases b : k = x
    · simp [b]
    · simp [a, b]
theorem fill (W : WalksS P w A.in1 I fp wr G n Pv St) (T : Addr) (hT : T ∉ fp) (xs : List Str) (hx : xs.length = n) (hn : n + 1 < scanBound) (hval : ∀ i v, Pv i v → ∃ t, v = .str (xs.getD i Str.empty) t) :
    ∀ (k i : Nat) (s : Shared), n - i = k → i ≤ n → St i s → SetT P w s.heap T (memT (xs.take i)) i → (∀ s', Moved (T :: wr) G s s' → SetT P w s'.heap T (memT (xs.take n)) n → R (.ok (.ret .none)) s') →
      codeAny (model P w) A (.builtin "set.update.loop" ⟨[.ref T, .ref I], []⟩) R s := by
  have hTw : T ∉ wr := fun h => hT (W.sub _ h)
  have more : ∀ b ∈ wr, b ∈ T :: wr := fun b hb => List.mem_cons_of_mem _ hb
  intro k
  induction k with
  | zero =>
    intro i s hk hi hst hS hR
    obtain rfl : i = n := by omega
    refine codeAny_builtin PyProof.Rows.F.entry_set_update_loop ?_
    rw [Around.under_plainId PyProof.Rows.F.plain_set_update_loop _]
    show wpAny _ A.in1 (pyNext (.ref I) >>= _) _ _ s
    refine wpAny_bind (W.done s _ _ hst fun s' hm => ?_)
    show wpAny _ A.in1 (ret Value.none) _ _ s'
    exact wpAny_pure (hR s' (hm.mono more) (hS.at fun o e => hm.heap T o hTw e))
  | succ k ih =>
    intro i s hk hi hst hS hR
    have il : i < n := by omega
    refine codeAny_builtin PyProof.Rows.F.entry_set_update_loop ?_
    rw [Around.under_plainId PyProof.Rows.F.plain_set_update_loop _]
    show wpAny _ A.in1 (pyNext (.ref I) >>= _) _ _ s
    refine wpAny_bind (W.item i s _ _ il hst fun v s' hP hst' hm => ?_)
    obtain ⟨t, rfl⟩ := hval i v hP
    have hg : xs[i]? = some (xs.getD i Str.empty) := by
      rw [List.getD_eq_getElem?_getD, List.getElem?_eq_getElem (by omega)]
      rfl
    have hS' : SetT P w s'.heap T (memT (xs.take i)) i := hS.at fun o e => hm.heap T o hTw e
    show wpAny _ A.in1 (holding [Value.str (xs.getD i Str.empty) t] (setAdd T (.str (xs.getD i Str.empty) t)) >>= _) _ _ s'
    refine wpAny_bind (wpAny_holding ?_)
    unfold setAdd
    refine wpAny_holding (wpAny_bind ((PySem.strKind P w).pyHash (k := xs.getD i Str.empty) (strKind_is _ _ _ _) ?_))
    refine addT (s := { s' with toks := s'.toks + 1 }) hS' (by omega) fun h' b sb S2 => ?_
    have S3 : SetT P w h' T (memT (xs.take (i + 1))) (i + 1) := S2.congr fun k' => memT_snoc xs i _ hg k'
    have keep : ∀ b o, b ≠ T → s'.heap.get? b = some o → h'.get? b = some o := fun b o hb e => (sb.2 b hb).trans e
    refine wpAny_pure ⟨plainId_quiet PyProof.Rows.F.plain_set_update_loop _, ih (i + 1) _ (by omega) il (W.frame _ s' _ _ hst' (Nat.le_succ _) fun b hb o e => keep b o (fun z => hT (z ▸ hb)) e) S3 fun s'' hm'' S'' => ?_⟩
    exact hR s'' (Moved.trans W.gtrans ((hm.mono more).then_heap (Nat.le_succ _) fun b o hb e => keep b o (fun z => hb (z ▸ List.mem_cons_self)) e) hm'') S''
end
/-- an empty set's object -/
abbrev emptyT (w : World) : Obj := { cls := .type "set", dict := none, data := .set #[] 0 (.fresh 0 0 (!w.params.followText "set-order")) }
theorem freshT {P : Program} {w : World} {h : Heap} {a : Addr} (e : h.get? a = some (emptyT w)) : SetT P w h a (memT []) 0 := by
  refine ⟨_, #[], 0, _, e, ⟨rfl, rfl, rfl⟩, rfl, fun e he => by simp at he, by simp, fun k => by simp [memT], by decide, by rfl, Nat.le_refl _, List.Pairwise.nil, ?_⟩
  show _ ∨ (!w.params.followText "set-order") = true
  cases w.params.followText "set-order" with
  | true => exact .inl rfl
  | false => exact .inr rfl
section
variable {P : Program} {w : World} {A : Around} {E : Value → Shared → Prop} {s : Shared}
theorem newT (x : Value) {Q₁ : Value → Shared → Prop} (h : Q₁ (.ref s.heap.objs.size) { s with heap := s.heap.push (emptyT w) }) :
    codeAny (model P w) A (.call (.builtin "set.__new__") ⟨[.type "set", x], []⟩) (wants Q₁ E) s := by
  refine codeAny_of_tree ?_
  show wpAny _ A.in1 (do checkBuiltinCall "set.__new__" ⟨[.type "set", x], []⟩; again (.builtin "set.__new__" ⟨[.type "set", x], []⟩)) _ _ s
  refine wpAny_bind (wpAny_of_eq (PySem.F.newCall_set_1 x) (wpAny_pure ⟨plainId_quiet PySem.F.plain_set_new _, codeAny_builtin PySem.F.entry_set_new ?_⟩))
  rw [Around.under_plainId PySem.F.plain_set_new _]
  unfold Builtin.«set.__new__»
  unfold Builtin.Frozenset.newClass
  have sub := sub_set_self
  obtain ⟨hp, g, d, tk, os⟩ := s
  dsimp only
  wp_walk
  refine wpAny_askSetting (wpAny_pure ?_)
  dsimp only
  simp only [newObj]
  exact wpAny_bind (wpAny_alloc (wpAny_pure (wpAny_pure h)))
theorem set_of_list {l : Addr} {items : Array Value} {xs : List Str} {Q : Value → Shared → Prop} (hh : A.handled = none) (hl : s.heap.IsList l items) (hi : PyProof.Rows.StrsAre items.toList xs) (hn : xs.length + 1 < scanBound)
    (h : ∀ (h' : Heap) (tk : Nat), SetT P w h' s.heap.objs.size (memT xs) xs.length → (∀ b o, s.heap.get? b = some o → h'.get? b = some o) → Q (.ref s.heap.objs.size) { s with heap := h', toks := tk }) :
    wpAny (model P w) A (call (.type "set") [.ref l]) Q E s := by
  obtain ⟨c, tl, mro⟩ := PySem.F.called_set.mro
  have made := PySem.F.called_set.made
  have sub := PySem.F.called_set.sub
  refine wpAny_call (codeAny_of_tree ?_)
  show wpAny _ _ (callAny (.type "set") _) _ _ _
  refine wpAny_pure ⟨Code.quiet_builtin _ (by decide +kernel), codeAny_builtin PySem.F.entry_type_call ?_⟩
  rw [Around.under_plain (weight_type_call_type "set" [.ref l] []) rfl]
  have n1 := PySem.F.called_set.notType
  have n2 := PySem.F.called_set.canCreate
  have n3 := PySem.F.typeCall_set_1 (.ref l)
  repeat (any_goals (first | assumption | wp_step))
  refine codeAny_mono (newT (.ref l) (E := E) (Q₁ := fun obj s₁ => obj = .ref s.heap.objs.size ∧ s₁ = { s with heap := s.heap.push (emptyT w) }) ⟨rfl, rfl⟩) fun r s₁ hr => ?_
  cases r with
  | error e => exact hr
  | ok fl =>
    cases fl with
    | ret obj =>
      obtain ⟨rfl, rfl⟩ := hr
      have at0 : (s.heap.push (emptyT w)).get? s.heap.objs.size = some (emptyT w) := Heap.get?_push_size _ rfl
      have ty : Shared.TypeIs { s with heap := s.heap.push (emptyT w) } (.ref s.heap.objs.size) "set" := ⟨_, at0, rfl⟩
      have i1 := PySem.F.called_set.init.lookup
      have i2 := PySem.F.called_set.init.bind (.ref s.heap.objs.size)
      repeat (any_goals (first | assumption | wp_step))
      refine codeAny_mono (codeAny_call_builtin (R := wants (fun r s₂ => r = .none ∧ ∃ h' tk, s₂ = { s with heap := h', toks := tk } ∧ SetT P w h' s.heap.objs.size (memT xs) xs.length ∧ (∀ b o, s.heap.get? b = some o → h'.get? b = some o)) E) PySem.F.called_set.init.plain PySem.F.entry_set_init (check_set_init_1 ty ?_)) fun r₂ s₂ hr₂ => ?_
      · obtain ⟨⟨oc, od, odt, osl⟩, ol, cl, nl, dl⟩ := hl
        simp only at cl dl
        subst cl
        subst dl
        have ol' : (s.heap.push (emptyT w)).get? l = some { cls := .type "list", dict := od, data := .seq items nl, slots := osl } := Heap.get?_push_of_some _ ol
        have a1 := PySem.F.sub_list_set
        have a2 := PySem.F.sub_list_frozenset
        have a3 : (Value.type "list" == Value.type "dict") = false := by decide
        have isl : (s.heap.push (emptyT w)).IsList l items := ⟨_, ol', rfl, nl, rfl⟩
        unfold Builtin.«set.__init__»
        unfold noKeywords
        unfold Builtin.Frozenset.updateFrom
        generalize hPI : pyIter = PI
        wp_walk
        subst hPI
        refine wpAny_pyIter_list isl ?_
        refine wpAny_bind (wpAny_runValue ?_)
        have ls : l < s.heap.objs.size := Heap.lt_size ol
        have hd3 : A.in1.in1.in1.handled = none := by simp [hh]
        have szp : (s.heap.push (emptyT w)).objs.size = s.heap.objs.size + 1 := Heap.size_push ..
        have nI : l ≠ (s.heap.push (emptyT w)).objs.size := by rw [szp]; exact Nat.ne_of_lt (Nat.lt_succ_of_lt ls)
        have nT : s.heap.objs.size ∉ [(s.heap.push (emptyT w)).objs.size, l] := by
          rw [szp]
          intro z
          rcases List.mem_cons.mp z with z | z
          · exact absurd z (Nat.ne_of_lt (Nat.lt_succ_self _))
          · exact absurd (List.mem_singleton.mp z) (Nat.ne_of_gt ls)
        have sz : xs.length = items.size := by rw [← StrsAre.len_eq hi, Array.length_toList]
        have vals : ∀ (i : Nat) (v : Value), items[i]? = some v → ∃ t, v = .str (xs.getD i Str.empty) t := fun i v hv => SS.strs_at hi i v (by rw [Array.getElem?_toList]; exact hv)
        refine fill ((Walks.list hd3 _ l nI items).toS) s.heap.objs.size nT xs sz (by rw [← sz]; exact hn) vals (items.size - 0) 0 _ (by omega) (Nat.zero_le _) ⟨⟨_, Heap.get?_push_size _ rfl, rfl, rfl⟩, (isl.push _)⟩ ?begin ?fin
        case begin => exact freshT (Heap.get?_push_of_some _ at0)
        case fin =>
          intro s' mv S'
          obtain ⟨h', g', d', tk', os'⟩ := s'
          obtain rfl : g' = s.gens := mv.gens
          obtain rfl : d' = s.drawn := mv.drawn
          obtain rfl : os' = s.os := mv.os
          show wpAny _ _ _ _ _ _
          refine wpAny_pure ?_
          show wpAny _ _ (ret Value.none) _ _ _
          refine wpAny_pure ⟨rfl, h', tk', rfl, by rw [← sz, List.take_length] at S'; exact S', fun b o e => ?_⟩
          have bl := Heap.lt_size e
          refine mv.heap b o (fun z => ?_) (Heap.get?_push_of_some _ (Heap.get?_push_of_some _ e))
          rcases List.mem_cons.mp z with z | z
          · exact absurd z (Nat.ne_of_lt bl)
          · have z' := List.mem_singleton.mp z
            rw [szp] at z'
            exact absurd z' (Nat.ne_of_lt (Nat.lt_succ_of_lt bl))
      · cases r₂ with
        | error e => exact hr₂
        | ok fl₂ =>
          cases fl₂ with
          | ret r =>
            obtain ⟨rfl, h', tk, rfl, hS', hk'⟩ := hr₂
            repeat (any_goals (first | assumption | wp_step))
            exact h _ _ hS' hk'
          | _ => exact hr₂.elim
    | _ => exact hr.elim
end
end FvB


set_option maxHeartbeats 4000000
namespace FvB
open PySem PySem.Spec PyProof.Rows L2
/-- a set of texts at a, tracked -/
def SetTO (P : Program) (w : World) (a : Addr) (S : Str → Bool) (m : Nat) : HO := .ext fun h => SetT P w h a S m
theorem setTO_ok {P : Program} {w : World} {H : Hp} {h : Heap} {a : Addr} {S : Str → Bool} {m : Nat} (x : SetT P w h a S m) : ObjOk P w H h a (SetTO P w a S m) :=
  ⟨x, let ⟨o, _, _, _, ho, _⟩ := x.ex; ⟨o, ho⟩, fun _ _ y k => y.at k⟩
section
variable {X : Cx}
theorem cr_setT (hc : X.calm = true) : CallR X (.type "set") (fun xs H Q => ∃ (l : Addr) (zs : List Str), xs = [.ref l] ∧ SqL X.K H l (zs.map V.str) ∧ zs.length ≤ 3000 ∧ ∀ p, H p = none → Q (.ref p) (upd H p (SetTO X.prog X.w p (memT zs) zs.length))) := by
  intro pins s σ H xs us Q I r h
  obtain ⟨l, zs, rfl, hl, hz, q⟩ := h
  obtain ⟨u, rfl, rx⟩ := r.one
  cases rx
  obtain ⟨its, rv, ht, _⟩ := I.list hl
  refine set_of_list (xs := zs) (I.ok.hd hc) ht.isList (by simpa using rv.strs) (by unfold scanBound; omega) fun h' tk S' k => ?_
  exact ⟨.ref s.heap.objs.size, _, I.laid (t' := tk) (o := SetTO X.prog X.w s.heap.objs.size (memT zs) zs.length) k (Nat.le_refl _) (setTO_ok S'), rfl, q _ (I.hok.fresh (Nat.le_refl _))⟩
theorem strs_of : ∀ (l : List Value), (∀ v ∈ l, ∃ x tk, v = Value.str x tk) → ∃ xs, StrsAre l xs ∧ xs = l.map (fun v => keyS (0, v))
  | [], _ => ⟨[], .nil, rfl⟩
  | v :: l, h => by
    obtain ⟨x, tk, rfl⟩ := h v List.mem_cons_self
    obtain ⟨xs, a, b⟩ := strs_of l fun u hu => h u (List.mem_cons_of_mem _ hu)
    exact ⟨x :: xs, .cons x tk a, by rw [List.map_cons, ← b]; rfl⟩
theorem cr_sortedSetT (hc : X.calm = true) : CallR X (.builtin "sorted") (fun vs H Q => ∃ (a : Addr) (S : Str → Bool) (m : Nat), vs = [.ref a] ∧ H a = some (SetTO X.prog X.w a S m) ∧ (∀ U : List Str, U.Nodup → (∀ k ∈ U, S k = true) → U.length < 64) ∧
    ∀ (ys : List Str) (p : Addr), sortedS ys = true → ys.Nodup → (∀ k, k ∈ ys ↔ S k = true) → H p = none → Q (.ref p) (upd H p (.lst (ys.map V.str)))) := by
  intro pins s σ H vs us Q I r h
  obtain ⟨a, S, m, rfl, ha, few, q⟩ := h
  obtain ⟨u, rfl, rx⟩ := r.one
  cases rx
  obtain ⟨R, _, _⟩ := I.hok a _ ha
  obtain ⟨o, es, ep, t, ho, hex, hd, g, nd, hm, hb, hf, hn, hr, hl⟩ := SetT.ex R
  refine Calls.call_function_entry kind_sorted plain_sorted entry_sorted (args_sorted1 _) ?_
  unfold Builtin.«sorted»
  refine wpAny_bind (m := checkCount "sorted" 1 1 _) (wpAny_pure ?_)
  refine wpAny_bind (collect_set (A := X.A.in1) (I.ok.hd hc) ⟨o, ho, hex.1, hd⟩ hf hb hr hl fun s1 out k1 hz g1 o1 pm => ?_)
  obtain ⟨xs, sx, ex⟩ := strs_of out fun v hv => by
    obtain ⟨e, he, z⟩ := List.mem_map.mp (pm.mem_iff.mp hv)
    obtain ⟨x, tk, h1, _⟩ := g e he
    exact ⟨x, tk, by rw [← z]; exact h1⟩
  have pk : xs.Perm (es.toList.map keyS) := by
    rw [ex]
    have z := pm.map fun v => keyS (0, v)
    rw [List.map_map] at z
    exact z
  have nx : xs.Nodup := pk.nodup_iff.mpr nd
  have mx : ∀ k, k ∈ xs ↔ S k = true := fun k => by rw [pk.mem_iff, hm k]
  have h64 : xs.length < 64 := few xs nx fun k hk => (mx k).mp hk
  have lo : out.length = xs.length := StrsAre.len_eq sx
  have I1 : Inv X pins σ H s1 := by
    obtain ⟨h1, gs, dr, tk, os⟩ := s1
    obtain rfl : gs = s.gens := g1
    obtain rfl : os = s.os := o1
    exact I.call (h' := h1) (g' := s.gens) (t' := tk) (d' := dr) (ch := []) (Un.kept k1) (I.hok.kept k1) I.bare fun _ z => nomatch z
  refine wpAny_bind (wpAny_newList ?_ (by rw [lo, sizeLine_eq]; omega))
  have hoL : (s1.heap.push (seqObj "list" out.toArray 0)).get? s1.heap.objs.size = some (seqObj "list" out.toArray 0) := Heap.get?_push_size _ rfl
  refine wpAny_bind (wpAny_holding (wpAny_call_entry slot_list_sort ⟨_, hoL, rfl⟩ entry_list_sort (list_sort_treeK strKind_oneLt (s := { s1 with heap := s1.heap.push (seqObj "list" out.toArray 0) }) hoL sx.keysOf (fun v₁ v₂ rest e => keyKind_strs (by rw [← e]; exact sx)) (by rw [lo]; exact h64) fun st' hp hs => ⟨_, rfl, ?_⟩) (args_list_sort _)))
  obtain ⟨ys, y1, y2, y3⟩ := sorted_out_str sx hp hs
  obtain ⟨ep', he'⟩ := sortedHeap_at (vs := out) (out := (arrOf st').map (·.2)) hoL
  have hlen : (ys.map V.str).length ≤ sizeLine := by
    rw [List.length_map, y2.length_eq]
    exact Nat.le_trans (Nat.le_of_lt h64) (by decide)
  refine wpAny_pure ⟨_, rfl, .ref s1.heap.objs.size, upd H s1.heap.objs.size (.lst (ys.map V.str)), I1.laid (t' := s1.toks) (fun b v e => ?_) (Nat.le_refl _) (show ObjOk X.prog X.w _ _ _ (.lst (ys.map V.str)) from ⟨hlen, ((arrOf st').map (·.2)).toList, ep', vals_of_strs y1, by rw [Array.toArray_toList]; exact he'⟩), rfl,
    q ys _ y3 (y2.nodup_iff.mpr nx) (fun k => by rw [y2.mem_iff, mx k]) (I1.hok.fresh (Nat.le_refl _))⟩
  have bl := Heap.lt_size e
  rw [sortedHeap_old (Nat.ne_of_lt bl) (by rw [size_push']; exact Nat.lt_succ_of_lt bl)]
  exact Heap.get?_push_of_some _ e
end
end FvB


namespace Fv
open PySem PySem.Spec PyProof.Rows L2 FvD FvG FvB
/-! ### the letters -/
def abc : List Str := ["a", "b", "c", "d", "e", "f", "g", "h"]
/-- the letters of a term, ascending -/
def lts (d : PyData) : List Str := abc.filter fun x => (pre d).any fun e => decide (nk e = .text x)
theorem nk_text {n : Nat} {e : PyData} {x : Str} (hk : kd n e = true) (h : nk e = .text x) : e = .str x := nk_inj n n e (.str x) hk kd_str (by rw [h]; rfl)
theorem lt_trans_abc : (abc.Pairwise fun a b => ltCps a.cps.toList b.cps.toList = true) ∧ abc.Nodup := by decide +kernel
theorem rising_all : ∀ (ls : List Str), ls.Pairwise (fun a b => ltCps a.cps.toList b.cps.toList = true ∧ ltCps b.cps.toList a.cps.toList = false) → ∀ (ys : List Str), sortedS ys = true → ys.Nodup → (∀ y ∈ ys, y ∈ ls) → ys = ls.filter fun x => decide (x ∈ ys)
  | [], _, ys, _, _, h => by
    cases ys with
    | nil => rfl
    | cons y r => exact absurd (h y List.mem_cons_self) (by simp)
  | a :: ls, hp, ys, hs, hn, h => by
    rw [List.pairwise_cons] at hp
    have tail : ∀ (p : Str) (r : List Str), risingS p r = true → sortedS r = true := fun p r z => by
      cases r with
      | nil => rfl
      | cons q r' =>
        simp only [risingS, Bool.and_eq_true] at z
        exact z.2
    by_cases ha : a ∈ ys
    · -- a is the first one
      have first : ∀ (r : List Str) (p : Str), risingS p r = true → (∀ y ∈ p :: r, y ∈ a :: ls) → a ∈ p :: r → (p :: r).Nodup → p = a := by
        intro r
        induction r with
        | nil =>
          intro p _ _ m _
          exact (List.mem_singleton.mp m).symm
        | cons q r ih =>
          intro p hr hm m nd
          rcases List.mem_cons.mp m with z | z
          · exact z.symm
          · simp only [risingS, Bool.and_eq_true] at hr
            have eq := ih q hr.2 (fun y hy => hm y (List.mem_cons_of_mem _ hy)) z (List.nodup_cons.mp nd).2
            rcases List.mem_cons.mp (hm p List.mem_cons_self) with w | w
            · exact w
            · have lt := (hp.1 p w).1
              rw [eq] at hr
              rw [lt] at hr
              cases hr.1
      cases ys with
      | nil => cases ha
      | cons y r =>
        have ey := first r y hs h ha hn
        subst ey
        have nr := List.nodup_cons.mp hn
        have rest : ∀ z ∈ r, z ∈ ls := fun z hz => by
          rcases List.mem_cons.mp (h z (List.mem_cons_of_mem _ hz)) with e | e
          · rw [e] at hz; exact absurd hz nr.1
          · exact e
        have q := rising_all ls hp.2 r (tail y r hs) nr.2 rest
        rw [List.filter_cons, if_pos (by simp)]
        congr 1
        rw [q]
        refine (List.filter_congr fun z hz => ?_).symm
        have ne : z ≠ y := fun e => by
          have := (hp.1 z hz)
          rw [e] at this
          rw [this.1] at this
          cases this.2
        rw [← q]
        simp [ne]
    · have rest : ∀ z ∈ ys, z ∈ ls := fun z hz => by
        rcases List.mem_cons.mp (h z hz) with e | e
        · rw [e] at hz; exact absurd hz ha
        · exact e
      rw [List.filter_cons, if_neg (by simpa using ha)]
      exact rising_all ls hp.2 ys hs hn rest
theorem abc_pair : abc.Pairwise (fun a b => ltCps a.cps.toList b.cps.toList = true ∧ ltCps b.cps.toList a.cps.toList = false) := by decide +kernel
theorem sorted_abc {ys : List Str} (hs : sortedS ys = true) (hn : ys.Nodup) (h : ∀ y ∈ ys, y ∈ abc) : ys = abc.filter fun x => decide (x ∈ ys) := rising_all abc abc_pair ys hs hn h
end Fv


namespace Fv
open PySem PySem.Spec PyProof.Rows L2 GenW FvX FvD FvG FvB
def spOnce (K : PySem.W.Frag) : Sp := fun vs H Q _ => ∃ (r : Addr) (xs : List V) (ds : List PyData), vs = [.ref r] ∧ SqL K H r xs ∧ DpAll K H xs ds ∧ (∀ d ∈ ds, Tk d) ∧ ds.length ≤ 1200 ∧ newL K (onceD ds) H Q
def spSignsIn (K : PySem.W.Frag) : Sp := fun vs H Q _ => ∃ (v : V) (d : PyData), vs = [v] ∧ Dp K H v d ∧ Tk d ∧ newLt (lts d) H Q
theorem isL_abc {x : Str} (h : isL x = true) : x ∈ abc := by
  exact isL_one h
/-- the texts among data -/
def txs : List PyData → List Str
  | [] => []
  | .str x :: r => x :: txs r
  | _ :: r => txs r
theorem txs_app : ∀ (a b : List PyData), txs (a ++ b) = txs a ++ txs b
  | [], b => rfl
  | .str x :: r, b => by simp [txs, txs_app r b]
  | .none :: r, b => by simp [txs, txs_app r b]
  | .bool _ :: r, b => by simp [txs, txs_app r b]
  | .int _ :: r, b => by simp [txs, txs_app r b]
  | .list _ :: r, b => by simp [txs, txs_app r b]
  | .tuple _ :: r, b => by simp [txs, txs_app r b]
  | .dict _ :: r, b => by simp [txs, txs_app r b]
theorem txs_mem : ∀ (l : List PyData) (x : Str), x ∈ txs l ↔ .str x ∈ l
  | [], x => by simp [txs]
  | .str y :: r, x => by simp [txs, txs_mem r x]
  | .none :: r, x => by simp [txs, txs_mem r x]
  | .bool _ :: r, x => by simp [txs, txs_mem r x]
  | .int _ :: r, x => by simp [txs, txs_mem r x]
  | .list _ :: r, x => by simp [txs, txs_mem r x]
  | .tuple _ :: r, x => by simp [txs, txs_mem r x]
  | .dict _ :: r, x => by simp [txs, txs_mem r x]
theorem txs_len (l : List PyData) : (txs l).length ≤ l.length := by
  induction l with
  | nil => simp [txs]
  | cons d r ih => cases d <;> simp [txs] <;> omega
theorem nodup_len {α : Type} [DecidableEq α] : ∀ (l m : List α), l.Nodup → (∀ x ∈ l, x ∈ m) → l.length ≤ m.length
  | [], m, _, _ => Nat.zero_le _
  | a :: l, m, hn, h => by
    have hn' := List.nodup_cons.mp hn
    have ha := h a List.mem_cons_self
    have sub : ∀ x ∈ l, x ∈ m.erase a := fun x hx => (List.mem_erase_of_ne (fun e => hn'.1 (by rw [← e]; exact hx))).mpr (h x (List.mem_cons_of_mem _ hx))
    have := nodup_len l (m.erase a) hn'.2 sub
    rw [List.length_erase_of_mem ha] at this
    have := List.length_pos_of_mem ha
    rw [List.length_cons]
    omega
theorem lts_mem {d : PyData} (t : Tk d) (x : Str) : ((pre d).any fun e => decide (nk e = .text x)) = true ↔ .str x ∈ pre d := by
  rw [List.any_eq_true]
  constructor
  · rintro ⟨e, he, z⟩
    have := nk_text (Tk.pre t e he).kd (of_decide_eq_true z)
    rw [← this]; exact he
  · intro h
    exact ⟨_, h, decide_eq_true rfl⟩
theorem lts_sorted {d : PyData} (t : Tk d) {ys : List Str} (hs : sortedS ys = true) (hn : ys.Nodup) (hm : ∀ k, k ∈ ys ↔ k ∈ txs (pre d)) : ys = lts d := by
  have sub : ∀ y ∈ ys, y ∈ abc := fun y hy => by
    have h1 := (txs_mem _ _).mp ((hm y).mp hy)
    rcases (Tk.pre t _ h1).inv with ⟨x, e, hx⟩ | ⟨o, ds, e, _⟩
    · cases e; exact isL_abc hx
    · cases e
  rw [sorted_abc hs hn sub]
  unfold lts
  refine List.filter_congr fun x _ => ?_
  rw [Bool.eq_iff_iff, lts_mem t x, decide_eq_true_eq]
  exact (hm x).trans (txs_mem _ _)
section
variable {P : Program} {w : World} {K : PySem.W.Frag} {mg : Str → Option Value} {base : Heap} {CT : Addr}
theorem ok_lsigns {f : Addr} {fd : FuncData} {k : Nat} (F : Fun K "_law_signs_in" "_law_signs_in" s_law_signs_in f fd) (m_isinstance : mg "isinstance" = none) (m_str : mg "str" = none) (m_set : mg "set" = none) (m_sorted : mg "sorted" = none) (C_law_walk : Own P w K mg base k "_law_walk" ["_law_word"] (spLWalk K 10)) :
    FnOk P w K mg base CX0 (k + 1) f fd ["_law_word"] (spSignsIn K) := by
  refine F.ok sc_law_signs_in (fun vs H Q E h => ?_) (fun cdv A outer s H vs Q E hr h => ?_)
  · obtain ⟨v, d, rfl, _⟩ := h
    rfl
  · obtain ⟨v, d, rfl, hd, t, q⟩ := h
    refine ⟨_, (pss_one (ps_ret (pe_callB (cr_sortedSetT rfl) (by rfl) m_sorted (by decide +kernel) (pa_cons (pe_callTy (cr_setT rfl) (by rfl) m_set (by decide +kernel) (pa_cons (pe_lc (own := [("_law_one", 1)]) (g := gName 1) (by rfl) sc_law_signs_in.nd (pi_list (pe_own C_law_walk (hr.mono (by omega)) (by rfl) (pa_cons (pv 0) pa_nil))) (blkOk_by (own := [("_law_one", 1)]) (N := N_law_signs_in) (sc := defScope s_law_signs_in) (by decide +kernel)) (fun _ _ _ _ _ => pg_name (i := 1) sc_law_signs_in.nd rfl (Or.inl rfl)) (fun _ _ _ _ _ => pts_one (pt_val (pe_isDc (K := K) (T := "str") rfl (by rfl) m_isinstance (by rfl) m_str (pv 1)))) (fun _ _ _ _ _ => (pv 1))) pa_nil)) pa_nil)))), ?_⟩
    refine ⟨_, rfl, v, d, 9, rfl, hd, t, by decide, t.one, fun H1 p xs s1 np hp hA => ?_⟩
    have hl := dpAll_len hA
    have ps := pre_small t
    refine ⟨p, rfl, ⟨_, SqL.of hp⟩, fun D nD => lc_list (xs := xs) (fun i H2 => Same H1 H2 ∧ H2 D = some (.lst ((txs ((pre d).take i)).map V.str))) ?_ ?_ ?_ ?_⟩
    · exact ⟨same_upd nD, by rw [upd_same]; rfl⟩
    · rintro i H2 hi ⟨sm, e1⟩
      exact SqL.of (sm _ _ hp)
    · rintro i x H2 hx ⟨sm, e1⟩
      obtain ⟨d', hd', hD'⟩ := dpAll_get hA hx
      have md : d' ∈ pre d := List.mem_of_getElem? hd'
      have hD2 := dp_same sm d' x hD'
      have tl1 := txs_len ((pre d).take i)
      rw [List.length_take] at tl1
      refine ⟨rfl, _, rfl, _, _, d', rfl, by decide, hD2, _, rfl, ?_⟩
      rcases (Tk.pre t d' md).inv with ⟨y, rfl, _⟩ | ⟨o, ds, rfl, _⟩
      · cases hD2
        refine iteT ⟨_, rfl, _, e1, ?_, fun b o' eb => ?_, ?_⟩
        · rw [List.length_map]
          exact Nat.lt_of_le_of_lt (by omega : (txs ((pre d).take i)).length ≤ 1200) (by rw [sizeLine_eq]; decide)
        · rw [upd_ne (ne_of_none eb nD)]
          exact sm b o' eb
        · rw [upd_same, List.take_add_one, hd', txs_app]
          simp [txs]
      · refine iteF ⟨sm, ?_⟩
        rw [e1, List.take_add_one, hd', txs_app]
        simp [txs]
    · rintro H2 ⟨sm, e1⟩
      have et : (pre d).take xs.length = pre d := List.take_of_length_le (by omega)
      rw [et] at e1
      have tl1 := txs_len (pre d)
      refine ⟨D, txs (pre d), rfl, SqL.of e1, by omega, fun p2 np2 => ?_⟩
      refine ⟨p2, memT (txs (pre d)), _, rfl, upd_same, fun U nU hU => ?_, fun ys p3 hs hn hm np3 => ?_⟩
      · have sub : ∀ y ∈ U, y ∈ abc := fun y hy => by
          have h1 := (txs_mem _ _).mp (of_decide_eq_true (hU y hy))
          rcases (Tk.pre t _ h1).inv with ⟨x, e, hx⟩ | ⟨o, ds, e, _⟩
          · cases e; exact isL_abc hx
          · cases e
        have := nodup_len U abc nU sub
        exact Nat.lt_of_le_of_lt this (by decide)
      · have ey : ys = lts d := lts_sorted t hs hn fun k => by rw [hm k]; simp [memT]
        have sA := s1.trans (sm.trans (same_upd (o := SetTO P w p2 (memT (txs (pre d))) (txs (pre d)).length) np2))
        have sB := sA.trans (same_upd (o := .lst (ys.map V.str)) np3)
        refine q _ p3 sB (none_back sA np3) ?_
        rw [upd_same, ey]
end
end Fv


namespace Fv
open PySem PySem.Spec PyProof.Rows L2 GenW FvX FvD FvG FvW TL



/-- the case with a number: the first letter is the highest digit -/
def bitsN (j : Nat) : List Str → List (Str × Bool)
  | [] => []
  | s :: ss => (s, decide (j / 2 ^ ss.length % 2 = 1)) :: bitsN j ss
theorem bits_keys (j : Nat) : ∀ ss : List Str, (bitsN j ss).map (·.1) = ss
  | [] => rfl
  | s :: ss => by
    show s :: (bitsN j ss).map (·.1) = s :: ss
    rw [bits_keys j ss]
theorem bits_len (j : Nat) (ss : List Str) : (bitsN j ss).length = ss.length := by
  rw [← List.length_map (f := (·.1)), bits_keys]
theorem bits_get (j : Nat) : ∀ (ss : List Str) (i : Nat) (x : Str), ss[i]? = some x → (bitsN j ss)[i]? = some (x, decide (j / 2 ^ (ss.length - 1 - i) % 2 = 1))
  | [], i, x, h => by simp at h
  | s :: ss, 0, x, h => by
    have e : s = x := by simpa using h
    subst e
    rfl
  | s :: ss, i + 1, x, h => by
    have h' : ss[i]? = some x := by simpa using h
    have z := bits_get j ss i x h'
    have e : (s :: ss).length - 1 - (i + 1) = ss.length - 1 - i := by rw [List.length_cons]; omega
    rw [e]
    exact z
theorem bits_snoc (j : Nat) : ∀ (ss : List Str) (s : Str), bitsN j (ss ++ [s]) = bitsN (j / 2) ss ++ [(s, decide (j % 2 = 1))]
  | [], s => by
    show [(s, decide (j / 2 ^ 0 % 2 = 1))] = [(s, decide (j % 2 = 1))]
    rw [Nat.pow_zero, Nat.div_one]
  | x :: ss, s => by
    show (x, decide (j / 2 ^ (ss ++ [s]).length % 2 = 1)) :: bitsN j (ss ++ [s]) = (x, decide (j / 2 / 2 ^ ss.length % 2 = 1)) :: (bitsN (j / 2) ss ++ [(s, decide (j % 2 = 1))])
    rw [bits_snoc j ss s, List.length_append, List.length_singleton, Nat.div_div_eq_div_mul, Nat.pow_succ, Nat.mul_comm 2]
theorem bit_and1 (n : Nat) : Builtin.bitAnd ((n : Nat) : Int) 1 = ((n % 2 : Nat) : Int) := by
  unfold Builtin.bitAnd
  rw [decide_eq_true (Int.natCast_nonneg n), decide_eq_true (show (0 : Int) ≤ 1 by decide)]
  show ((((n : Int).toNat &&& (1 : Int).toNat : Nat)) : Int) = _
  rw [Int.toNat_natCast, show (1 : Int).toNat = 1 from rfl, Nat.and_one_is_mod]
theorem small1000' {n : Nat} (h : n ≤ 1000) : n < sizeLine := by rw [sizeLine_eq]; omega
/-- a case counts against a question -/
def ctr (cs : Str → Option Bool) (ds : List PyData) (l r : PyData) : Bool := bk cs l r && ds.all fun q => kp cs (lrQ q).1 (lrQ q).2
def spNum (K : PySem.W.Frag) : Sp := fun vs H Q _ => ∃ (nm : Addr) (ss : List Str) (j : Nat), vs = [.ref nm, .int (j : Nat)] ∧ H nm = some (.lst (ss.map V.str)) ∧ ss.Nodup ∧ ss.length ≤ 30 ∧ ∀ (H' : Hp) (p : Addr), Same H H' → H p = none → H' p = some (.dK (kvB (bitsN j ss))) → Q (.ref p) H'
def spBG (K : PySem.W.Frag) : Sp := fun vs H Q _ => ∃ (c r : Addr) (xs : List V) (ds : List PyData) (vg : V) (l r2 : PyData) (kvs : List (Key × V)) (cs : Str → Option Bool), vs = [.ref c, .ref r, vg] ∧ H c = some (.dK kvs) ∧ caseOf kvs cs ∧ SqL K H r xs ∧ DpAll K H xs ds ∧ (∀ q ∈ ds, isRl q = true) ∧ ds.length ≤ 12 ∧ Dp K H vg (.tuple [l, r2]) ∧ tmB l = true ∧ tmB r2 = true ∧ ∀ H', Same H H' → Q (.bl (ctr cs ds l r2)) H'
def spLCt (K : PySem.W.Frag) : Sp := fun vs H Q E => ∃ a b c, vs = [b, c, a] ∧ spBG K [a, b, c] H Q E
/-- over enumerate of a list that stays -/
theorem dc_enum {K : PySem.W.Frag} {a : Addr} {xs : List V} {g : TG} {tt : TT} {tk tv : TE} {vs : List Nat} {σ : L2.St} {H1 : Hp} {D : Addr} {Qd : Hp → Prop} (Pv : Nat → Hp → Prop) (h0 : Pv 0 (upd H1 D (.dK []))) (hl : ∀ i H, i ≤ xs.length → Pv i H → SqL K H a xs)
    (hs : ∀ (i : Nat) (x : V) (H : Hp) (T : Addr), xs[i]? = some x → Pv i H → H T = none → g (.ref T) (wipe σ vs) (upd H T (.tup [.int (i : Nat), x])) fun σ2 H2 => wipe σ2 vs = wipe σ vs ∧ tt σ2 H2 fun b H3 =>
      if b = true then tk σ2 H3 fun y H4 => tv σ2 H4 fun z H5 => ∃ kvs k, y = kV k ∧ H5 D = some (.dK kvs) ∧ kvs.length < sizeLine ∧ Pv (i + 1) (upd H5 D (.dK (putK kvs k z))) else Pv (i + 1) H3) (hd : ∀ H, Pv xs.length H → Qd H) :
    ∃ W : Nat → Nat → Hp → Prop, (∃ m, W 0 m (upd H1 D (.dK []))) ∧ ∀ i m H, W i m H →
      ((Ite K a).stop i H ∧ Qd H) ∨ ((Ite K a).go i H ∧ ∃ Nx : Hp → Prop, (∀ H', Nx H' → ∃ m', m' < m ∧ W (i + 1) m' H') ∧ ∀ x H', (Ite K a).yld i H x H' → g x (wipe σ vs) H' fun σ2 H2 => wipe σ2 vs = wipe σ vs ∧ tt σ2 H2 fun b H3 =>
        if b = true then tk σ2 H3 fun y H4 => tv σ2 H4 fun z H5 => ∃ kvs k, y = kV k ∧ H5 D = some (.dK kvs) ∧ kvs.length < sizeLine ∧ Nx (upd H5 D (.dK (putK kvs k z))) else Nx H3) := by
  refine ⟨fun i m H => m = xs.length - i ∧ i ≤ xs.length ∧ Pv i H, ⟨xs.length, by simp, Nat.zero_le _, h0⟩, ?_⟩
  rintro i m H ⟨rfl, hi, p⟩
  have q := hl i H hi p
  by_cases hlt : i < xs.length
  · refine .inr ⟨⟨xs, xs[i], q, by simp [hlt]⟩, Pv (i + 1), fun H' p' => ⟨xs.length - (i + 1), by omega, rfl, hlt, p'⟩, fun x H' y => ?_⟩
    obtain ⟨T, x', rfl, nT, rfl, y⟩ := y
    exact hs i x' H T (y xs q) p nT
  · have e : i = xs.length := by omega
    subst e
    exact .inl ⟨⟨xs, q, Nat.le_refl _⟩, hd H p⟩
section
variable {P : Program} {w : World} {K : PySem.W.Frag} {mg : Str → Option Value} {base : Heap}
end
end Fv


namespace Fv
open PySem PySem.Spec PyProof.Rows L2 GenW FvX FvD FvG FvW FvB TL

-- top 74  slots: 0:_law_some 1:_law_found 2:_law_word
abbrev s_law_all_signs : Stmt := topS 74
abbrev N_law_all_signs : List Str := ["_law_some", "_law_found", "_law_word"]
theorem sc_law_all_signs : FnScope N_law_all_signs ["_law_some"] (defScope s_law_all_signs) := ⟨rfl, rfl, rfl, by decide +kernel, rfl, by decide +kernel, by decide +kernel⟩

/-- dicts from letters to truth values at addresses -/
inductive Al (H : Hp) : List Addr → List (List (Str × Bool)) → Prop
  | nil : Al H [] []
  | cons {a : Addr} {ps : List (Str × Bool)} {as : List Addr} {pss : List (List (Str × Bool))} (h : H a = some (.dK (kvB ps))) (t : Al H as pss) : Al H (a :: as) (ps :: pss)
def Kdk (H H' : Hp) : Prop := ∀ (a : Addr) (kvs : List (Key × V)), H a = some (.dK kvs) → H' a = some (.dK kvs)
theorem Kdk.same {H H' : Hp} (s : Same H H') : Kdk H H' := fun a kvs e => s _ _ e
theorem Kdk.lst {H : Hp} {M : Addr} {us : List V} {o : HO} (h : H M = some (.lst us)) : Kdk H (upd H M o) := fun a kvs e => by
  rw [upd_ne (fun z => by rw [z, h] at e; cases e)]
  exact e
theorem Kdk.new2 {H : Hp} {L : Addr} {o o' : HO} (h : H L = none) : Kdk H (upd (upd H L o) L o') := fun a kvs e => by
  rw [upd_ne (ne_of_none e h), upd_ne (ne_of_none e h)]
  exact e
theorem Kdk.trans {H H' H'' : Hp} (a : Kdk H H') (b : Kdk H' H'') : Kdk H H'' := fun x kvs e => b _ _ (a _ _ e)
theorem Al.imp {H H' : Hp} (k : Kdk H H') {as : List Addr} {pss : List (List (Str × Bool))} (h : Al H as pss) : Al H' as pss := by
  induction h with
  | nil => exact .nil
  | cons h t ih => exact .cons (k _ _ h) ih
theorem Al.app {H : Hp} {as bs : List Addr} {pss qss : List (List (Str × Bool))} (h : Al H as pss) (g : Al H bs qss) : Al H (as ++ bs) (pss ++ qss) := by
  induction h with
  | nil => exact g
  | cons h t ih => exact .cons h ih
theorem Al.len {H : Hp} {as : List Addr} {pss : List (List (Str × Bool))} (h : Al H as pss) : as.length = pss.length := by
  induction h with
  | nil => rfl
  | cons h t ih => rw [List.length_cons, List.length_cons, ih]
theorem Al.get {H : Hp} {as : List Addr} {pss : List (List (Str × Bool))} (h : Al H as pss) : ∀ {i : Nat} {a : Addr}, as[i]? = some a → ∃ ps, pss[i]? = some ps ∧ H a = some (.dK (kvB ps)) := by
  induction h with
  | nil => intro i a e; simp at e
  | @cons a0 ps as pss h t ih =>
    intro i a e
    cases i with
    | zero =>
      have e' : a0 = a := by simpa using e
      subst e'
      exact ⟨ps, rfl, h⟩
    | succ i => exact ih (i := i) (by simpa using e)
/-- all cases in their order -/
def casesL (ss : List Str) : List (List (Str × Bool)) := (List.range (2 ^ ss.length)).map fun j => bitsN j ss
theorem range_two {α : Type} (f : Nat → α) : ∀ n : Nat, (List.range (2 * n)).map f = (List.range n).flatMap fun j => [f (2 * j), f (2 * j + 1)]
  | 0 => rfl
  | n + 1 => by
    rw [show 2 * (n + 1) = 2 * n + 1 + 1 by omega, List.range_succ, List.range_succ, List.range_succ, List.map_append, List.map_append, range_two f n, List.flatMap_append, List.append_assoc]
    rfl
def two (s : Str) (ps : List (Str × Bool)) : List (List (Str × Bool)) := [ps ++ [(s, false)], ps ++ [(s, true)]]
theorem casesL_snoc (ss : List Str) (s : Str) : casesL (ss ++ [s]) = (casesL ss).flatMap (two s) := by
  unfold casesL
  rw [List.length_append, List.length_singleton, Nat.pow_succ, Nat.mul_comm, range_two, List.flatMap_map]
  refine congrArg (fun f => List.flatMap f _) (funext fun j => ?_)
  unfold two
  rw [bits_snoc, bits_snoc, show 2 * j / 2 = j by omega, show (2 * j + 1) / 2 = j by omega, show 2 * j % 2 = 0 by omega, show (2 * j + 1) % 2 = 1 by omega]
  rfl
theorem casesL_len (ss : List Str) : (casesL ss).length = 2 ^ ss.length := by
  unfold casesL
  rw [List.length_map, List.length_range]
theorem casesL_keys {ss : List Str} {ps : List (Str × Bool)} (h : ps ∈ casesL ss) : ps.map (·.1) = ss := by
  obtain ⟨j, _, rfl⟩ := List.mem_map.mp h
  exact bits_keys j ss
theorem two_len (s : Str) (l : List (List (Str × Bool))) : (l.flatMap (two s)).length = 2 * l.length := by
  induction l with
  | nil => rfl
  | cons x l ih => rw [List.flatMap_cons, List.length_append, ih, List.length_cons]; show 2 + _ = _; omega
def newC (pss : List (List (Str × Bool))) (H : Hp) (Q : VK) : Prop := ∀ (H' : Hp) (p : Addr) (as : List Addr), Same H H' → H p = none → H' p = some (.lst (as.map V.ref)) → Al H' as pss → Q (.ref p) H'
def spCases (K : PySem.W.Frag) : Sp := fun vs H Q _ => ∃ (r : Addr) (ss : List Str), vs = [.ref r] ∧ SqL K H r (ss.map V.str) ∧ ss.Nodup ∧ ss.length ≤ 8 ∧ newC (casesL ss) H Q
/-- the letters of some terms, ascending -/
def allS (ds : List PyData) : List Str := abc.filter fun x => ds.any fun d => decide (x ∈ lts d)
theorem lts_len (d : PyData) : (lts d).length ≤ 8 := List.length_filter_le _ abc
theorem flat_lts : ∀ ds : List PyData, (ds.flatMap lts).length ≤ 8 * ds.length
  | [] => Nat.le_refl _
  | d :: ds => by
    have a := lts_len d
    have b := flat_lts ds
    rw [List.flatMap_cons, List.length_append, List.length_cons]
    omega
def spAllS (K : PySem.W.Frag) : Sp := fun vs H Q _ => ∃ (r : Addr) (xs : List V) (ds : List PyData), vs = [.ref r] ∧ SqL K H r xs ∧ DpAll K H xs ds ∧ (∀ d ∈ ds, Tk d) ∧ ds.length ≤ 60 ∧ newLt (allS ds) H Q
section
variable {P : Program} {w : World} {K : PySem.W.Frag} {mg : Str → Option Value} {base : Heap}
set_option maxHeartbeats 800000 in
theorem ok_all_signs {f : Addr} {fd : FuncData} {k : Nat} (F : Fun K "_law_all_signs" "_law_all_signs" s_law_all_signs f fd) (m_set : mg "set" = none) (m_sorted : mg "sorted" = none)
    (C_law_signs_in : Own P w K mg base k "_law_signs_in" ["_law_word"] (spSignsIn K)) :
    FnOk P w K mg base CX0 (k + 1) f fd ["_law_some"] (spAllS K) := by
  refine F.ok sc_law_all_signs (fun vs H Q E h => ?_) (fun cdv A outer s H vs Q E hr h => ?_)
  · obtain ⟨r, xs, ds, rfl, _⟩ := h
    rfl
  · obtain ⟨r, xs, ds, rfl, hr0, hA, htk, l60, good⟩ := h
    refine ⟨_, (pss_cons (ps_set (i := 1) sc_law_all_signs.nd rfl (by first | exact .inl rfl | exact .inr rfl) (pe_lst pa_nil))
      (pss_cons (ps_for PassesOwn.never rfl (pi_list (pv 0)) (pg_name (i := 2) sc_law_all_signs.nd rfl (by first | exact .inl rfl | exact .inr rfl))
        (pss_one (ps_set (i := 1) sc_law_all_signs.nd rfl (by first | exact .inl rfl | exact .inr rfl) (pe_op op_cat (pv 1) (pe_own C_law_signs_in (hr.mono (by omega)) (by rfl) (pa_cons (pv 2) pa_nil))))))
      (pss_one (ps_ret (pe_callB (cr_sortedSetT rfl) (by rfl) m_sorted (by decide +kernel) (pa_cons (pe_callTy (cr_setT rfl) (by rfl) m_set (by decide +kernel) (pa_cons (pv 1) pa_nil)) pa_nil)))))), ?_⟩
    have lxs := dpAll_len hA
    refine ⟨Nat.zero_le _, fun F0 nF0 => ?_⟩
    have s0 := same_upd (o := .lst []) nF0
    refine ⟨_, rfl, r, rfl, ⟨_, s0.seq hr0⟩, for_list (xs := xs) (fun i σ H' => ∃ (F : Addr) (y2 : Option V), σ = [some (.ref r), some (.ref F), y2] ∧ Same H H' ∧ H' F = some (.lst (((ds.take i).flatMap lts).map V.str))) ?_ ?_ ?_ ?_⟩
    · exact ⟨F0, _, rfl, s0, upd_same⟩
    · rintro i σ H' _ ⟨F, y2, rfl, sm, _⟩
      exact sm.seq hr0
    · rintro i x σ H' hx ⟨F, y2, rfl, sm, hF⟩
      obtain ⟨d, hd, hDx⟩ := dpAll_get hA hx
      have l1 := flat_lts (ds.take i)
      rw [List.length_take] at l1
      have l2 := lts_len d
      refine ⟨_, rfl, _, rfl, x, d, rfl, dp_same sm _ _ hDx, htk d (List.mem_of_getElem? hd), fun H2 p s2 np hp => ?_⟩
      refine ⟨F, p, _, _, rfl, rfl, s2 _ _ hF, hp, Nat.le_trans (show _ ≤ 1000 by rw [List.length_map, List.length_map]; omega) (by rw [sizeLine_eq]; decide), fun q nq => ?_⟩
      refine ⟨q, _, rfl, sm.trans (s2.trans (same_upd nq)), ?_⟩
      rw [upd_same, List.take_add_one, hd, List.flatMap_append, List.map_append]
      simp
    · rintro σ H' ⟨F, y2, rfl, sm, hF⟩
      rw [lxs, List.take_length] at hF
      have l1 := flat_lts ds
      refine ⟨_, rfl, F, _, rfl, SqL.of hF, by omega, fun p2 np2 => ?_⟩
      refine ⟨p2, memT (ds.flatMap lts), _, rfl, upd_same, fun U nU hU => ?_, fun ys p3 hs hn hm np3 => ?_⟩
      · have sub : ∀ y ∈ U, y ∈ abc := fun y hy => by
          obtain ⟨d, _, h⟩ := List.mem_flatMap.mp (of_decide_eq_true (hU y hy))
          exact (List.mem_filter.mp h).1
        have := nodup_len U abc nU sub
        exact Nat.lt_of_le_of_lt this (by decide)
      · have ey : ys = allS ds := by
          have sub : ∀ y ∈ ys, y ∈ abc := fun y hy => by
            obtain ⟨d, _, h⟩ := List.mem_flatMap.mp (of_decide_eq_true ((hm y).mp hy))
            exact (List.mem_filter.mp h).1
          rw [sorted_abc hs hn sub]
          unfold allS
          refine List.filter_congr fun x _ => ?_
          rw [Bool.eq_iff_iff, decide_eq_true_eq, hm x, List.any_eq_true]
          unfold memT
          rw [decide_eq_true_eq, List.mem_flatMap]
          exact ⟨fun ⟨d, h1, h2⟩ => ⟨d, h1, decide_eq_true h2⟩, fun ⟨d, h1, h2⟩ => ⟨d, h1, of_decide_eq_true h2⟩⟩
        have sA := sm.trans (same_upd (o := SetTO P w p2 (memT (ds.flatMap lts)) (ds.flatMap lts).length) np2)
        have sB := sA.trans (same_upd (o := .lst (ys.map V.str)) np3)
        refine good _ p3 sB (none_back sA np3) ?_
        rw [upd_same, ey]
end
end Fv


namespace Fv
open PySem PySem.Spec PyProof.Rows L2 TL
/-! ### families of sets as boards -/
def subM (a b : Nat) : Bool := decide (a &&& b = a)
theorem subM_iff {a b : Nat} : subM a b = true ↔ a &&& b = a := decide_eq_true_iff
theorem subM_refl (a : Nat) : subM a a = true := subM_iff.mpr (Nat.and_self a)
theorem subM_trans {a b c : Nat} (h : subM a b = true) (g : subM b c = true) : subM a c = true := by
  rw [subM_iff] at h g ⊢
  rw [← h, Nat.and_assoc, g]
theorem subM_anti {a b : Nat} (h : subM a b = true) (g : subM b a = true) : a = b := by
  rw [subM_iff] at h g
  rw [← h, Nat.and_comm, g]
theorem subM_and {z a b : Nat} : subM z (a &&& b) = true ↔ subM z a = true ∧ subM z b = true := by
  constructor
  · intro h
    have h1 : subM (a &&& b) a = true := subM_iff.mpr (by rw [Nat.and_comm a b, Nat.and_assoc, Nat.and_self])
    have h2 : subM (a &&& b) b = true := subM_iff.mpr (by rw [Nat.and_assoc, Nat.and_self])
    exact ⟨subM_trans h h1, subM_trans h h2⟩
  · rintro ⟨h, g⟩
    rw [subM_iff] at h g ⊢
    rw [← Nat.and_assoc, h, g]
/-- at most 16 sets, with a greatest one and with all meets -/
structure Fam (ms : List Nat) : Prop where
  nd : ms.Nodup
  cl : ∀ a ∈ ms, ∀ b ∈ ms, a &&& b ∈ ms
  top : ∃ t ∈ ms, ∀ a ∈ ms, subM a t = true
  ln : ms.length ≤ 16
theorem Fam.perm {ms ns : List Nat} (h : Fam ms) (p : ns.Perm ms) : Fam ns :=
  ⟨p.nodup_iff.mpr h.nd, fun a ha b hb => p.mem_iff.mpr (h.cl a (p.mem_iff.mp ha) b (p.mem_iff.mp hb)), by
    obtain ⟨t, ht, h1⟩ := h.top
    exact ⟨t, p.mem_iff.mpr ht, fun a ha => h1 a (p.mem_iff.mp ha)⟩, by rw [p.length_eq]; exact h.ln⟩
def msAt (ms : List Nat) (x : Nat) : Nat := ms.getD x 0
theorem msAt_get {ms : List Nat} {x : Nat} (h : x < ms.length) : ms[x]? = some (msAt ms x) := by
  unfold msAt
  rw [List.getD_eq_getElem?_getD, List.getElem?_eq_getElem h]
  rfl
theorem msAt_mem {ms : List Nat} {x : Nat} (h : x < ms.length) : msAt ms x ∈ ms := List.mem_of_getElem? (msAt_get h)
theorem msAt_ex {ms : List Nat} {a : Nat} (h : a ∈ ms) : ∃ x, x < ms.length ∧ msAt ms x = a := by
  obtain ⟨x, hx, e⟩ := List.getElem_of_mem h
  refine ⟨x, hx, ?_⟩
  have := msAt_get hx
  rw [List.getElem?_eq_getElem hx, e] at this
  exact (Option.some.inj this).symm
theorem msAt_inj {ms : List Nat} (nd : ms.Nodup) {x y : Nat} (hx : x < ms.length) (hy : y < ms.length) (h : msAt ms x = msAt ms y) : x = y := by
  have e1 := msAt_get hx
  have e2 := msAt_get hy
  rw [List.getElem?_eq_getElem hx] at e1
  rw [List.getElem?_eq_getElem hy] at e2
  have e3 : ms[x] = ms[y] := by rw [Option.some.inj e1, Option.some.inj e2, h]
  exact (List.getElem_inj nd).mp e3
def leI (ms : List Nat) (x y : Nat) : Bool := subM (msAt ms x) (msAt ms y)
def lowL (ms : List Nat) (x y : Nat) : List Nat := (List.range ms.length).filter fun z => leI ms z x && leI ms z y
def upL (ms : List Nat) (x y : Nat) : List Nat := (List.range ms.length).filter fun z => leI ms x z && leI ms y z
def lowM (ms : List Nat) (x y : Nat) : List Nat := (lowL ms x y).filter fun z => (lowL ms x y).all fun w => leI ms w z
def upM (ms : List Nat) (x y : Nat) : List Nat := (upL ms x y).filter fun z => (upL ms x y).all fun w => leI ms z w
def lowI (ms : List Nat) (x y : Nat) : Nat := (lowM ms x y).headD 0
def upI (ms : List Nat) (x y : Nat) : Nat := (upM ms x y).headD 0
theorem mem_lowL {ms : List Nat} {x y z : Nat} : z ∈ lowL ms x y ↔ z < ms.length ∧ leI ms z x = true ∧ leI ms z y = true := by
  unfold lowL
  rw [List.mem_filter, List.mem_range, Bool.and_eq_true]
theorem mem_upL {ms : List Nat} {x y z : Nat} : z ∈ upL ms x y ↔ z < ms.length ∧ leI ms x z = true ∧ leI ms y z = true := by
  unfold upL
  rw [List.mem_filter, List.mem_range, Bool.and_eq_true]
theorem head_mem {l : List Nat} {z : Nat} (h : z ∈ l) : l.headD 0 ∈ l ∧ ∃ r, l = l.headD 0 :: r := by
  cases l with
  | nil => cases h
  | cons a r => exact ⟨List.mem_cons_self, r, rfl⟩
theorem low_ex {ms : List Nat} (F : Fam ms) {x y : Nat} (hx : x < ms.length) (hy : y < ms.length) : ∃ z, z ∈ lowM ms x y := by
  obtain ⟨z, hz, e⟩ := msAt_ex (F.cl _ (msAt_mem hx) _ (msAt_mem hy))
  have key : ∀ w, leI ms w z = true ↔ leI ms w x = true ∧ leI ms w y = true := fun w => by
    unfold leI
    rw [e]
    exact subM_and
  refine ⟨z, List.mem_filter.mpr ⟨mem_lowL.mpr ⟨hz, (key z).mp (subM_refl _)⟩, List.all_eq_true.mpr fun w hw => (key w).mpr (mem_lowL.mp hw).2⟩⟩
theorem inf_ex {ms : List Nat} (cl : ∀ a ∈ ms, ∀ b ∈ ms, a &&& b ∈ ms) : ∀ (l : List Nat) (t : Nat), t ∈ ms → (∀ a ∈ l, a ∈ ms) → ∃ j ∈ ms, subM j t = true ∧ (∀ a ∈ l, subM j a = true) ∧ ∀ z, subM z t = true → (∀ a ∈ l, subM z a = true) → subM z j = true
  | [], t, ht, _ => ⟨t, ht, subM_refl t, fun a ha => (nomatch ha), fun z h _ => h⟩
  | b :: l, t, ht, hl => by
    obtain ⟨j, hj, h1, h2, h3⟩ := inf_ex cl l t ht fun a ha => hl a (List.mem_cons_of_mem _ ha)
    have q := subM_and.mp (subM_refl (j &&& b))
    refine ⟨j &&& b, cl _ hj _ (hl b List.mem_cons_self), subM_trans q.1 h1, fun a ha => ?_, fun z hz hzl => subM_and.mpr ⟨h3 z hz fun a ha => hzl a (List.mem_cons_of_mem _ ha), hzl b List.mem_cons_self⟩⟩
    rcases List.mem_cons.mp ha with e | e
    · rw [e]; exact q.2
    · exact subM_trans q.1 (h2 a e)
theorem up_ex {ms : List Nat} (F : Fam ms) {x y : Nat} (hx : x < ms.length) (hy : y < ms.length) : ∃ z, z ∈ upM ms x y := by
  obtain ⟨t, ht, h1⟩ := F.top
  obtain ⟨j, hj, j1, j2, j3⟩ := inf_ex F.cl (ms.filter fun c => subM (msAt ms x) c && subM (msAt ms y) c) t ht fun a ha => (List.mem_filter.mp ha).1
  obtain ⟨z, hz, e⟩ := msAt_ex hj
  have ux : subM (msAt ms x) j = true := j3 _ (h1 _ (msAt_mem hx)) fun a ha => (Bool.and_eq_true_iff.mp (List.mem_filter.mp ha).2).1
  have uy : subM (msAt ms y) j = true := j3 _ (h1 _ (msAt_mem hy)) fun a ha => (Bool.and_eq_true_iff.mp (List.mem_filter.mp ha).2).2
  refine ⟨z, List.mem_filter.mpr ⟨mem_upL.mpr ⟨hz, ?_, ?_⟩, List.all_eq_true.mpr fun w hw => ?_⟩⟩
  · unfold leI; rw [e]; exact ux
  · unfold leI; rw [e]; exact uy
  · obtain ⟨w1, w2, w3⟩ := mem_upL.mp hw
    unfold leI at w2 w3 ⊢
    rw [e]
    exact j2 _ (List.mem_filter.mpr ⟨msAt_mem w1, by rw [w2, w3]; rfl⟩)
theorem low_cons {ms : List Nat} (F : Fam ms) {x y : Nat} (hx : x < ms.length) (hy : y < ms.length) : lowI ms x y ∈ lowM ms x y ∧ ∃ r, lowM ms x y = lowI ms x y :: r := by
  obtain ⟨z, hz⟩ := low_ex F hx hy
  exact head_mem hz
theorem up_cons {ms : List Nat} (F : Fam ms) {x y : Nat} (hx : x < ms.length) (hy : y < ms.length) : upI ms x y ∈ upM ms x y ∧ ∃ r, upM ms x y = upI ms x y :: r := by
  obtain ⟨z, hz⟩ := up_ex F hx hy
  exact head_mem hz
theorem low_spec {ms : List Nat} (F : Fam ms) {x y : Nat} (hx : x < ms.length) (hy : y < ms.length) : lowI ms x y < ms.length ∧ ∀ w, w < ms.length → (leI ms w (lowI ms x y) = true ↔ leI ms w x = true ∧ leI ms w y = true) := by
  obtain ⟨h1, h2⟩ := List.mem_filter.mp (low_cons F hx hy).1
  obtain ⟨a, b, c⟩ := mem_lowL.mp h1
  refine ⟨a, fun w hw => ⟨fun h => ⟨subM_trans h b, subM_trans h c⟩, fun h => ?_⟩⟩
  exact List.all_eq_true.mp h2 w (mem_lowL.mpr ⟨hw, h⟩)
theorem up_spec {ms : List Nat} (F : Fam ms) {x y : Nat} (hx : x < ms.length) (hy : y < ms.length) : upI ms x y < ms.length ∧ ∀ w, w < ms.length → (leI ms (upI ms x y) w = true ↔ leI ms x w = true ∧ leI ms y w = true) := by
  obtain ⟨h1, h2⟩ := List.mem_filter.mp (up_cons F hx hy).1
  obtain ⟨a, b, c⟩ := mem_upL.mp h1
  refine ⟨a, fun w hw => ⟨fun h => ⟨subM_trans b h, subM_trans c h⟩, fun h => ?_⟩⟩
  exact List.all_eq_true.mp h2 w (mem_upL.mpr ⟨hw, h⟩)
theorem leI_refl {ms : List Nat} (x : Nat) : leI ms x x = true := subM_refl _
theorem leI_trans {ms : List Nat} {x y z : Nat} (h : leI ms x y = true) (g : leI ms y z = true) : leI ms x z = true := subM_trans h g
theorem leI_anti {ms : List Nat} (F : Fam ms) {x y : Nat} (hx : x < ms.length) (hy : y < ms.length) (h : leI ms x y = true) (g : leI ms y x = true) : x = y := msAt_inj F.nd hx hy (subM_anti h g)
/-- all triples -/
def Spr (ms : List Nat) : Prop := ∀ x, x < ms.length → ∀ y, y < ms.length → ∀ z, z < ms.length → lowI ms x (upI ms y z) = upI ms (lowI ms x y) (lowI ms x z)
theorem low_ms {ms : List Nat} (F : Fam ms) {x y : Nat} (hx : x < ms.length) (hy : y < ms.length) : msAt ms (lowI ms x y) = msAt ms x &&& msAt ms y := by
  obtain ⟨h1, h2⟩ := low_spec F hx hy
  obtain ⟨z, hz, e⟩ := msAt_ex (F.cl _ (msAt_mem hx) _ (msAt_mem hy))
  have a := (h2 _ h1).mp (leI_refl _)
  refine subM_anti (subM_and.mpr a) ?_
  have q := subM_and.mp (subM_refl (msAt ms x &&& msAt ms y))
  have b := (h2 z hz).mpr (by unfold leI; rw [e]; exact q)
  unfold leI at b
  rw [e] at b
  exact b
/-- all subsets spread -/
theorem spr_range {ms : List Nat} {k : Nat} (F : Fam ms) (h : ∀ a, a ∈ ms ↔ a < 2 ^ k) : Spr ms := by
  have up_ms : ∀ {x y : Nat}, x < ms.length → y < ms.length → msAt ms (upI ms x y) = msAt ms x ||| msAt ms y := fun {x y} hx hy => by
    obtain ⟨h1, h2⟩ := up_spec F hx hy
    obtain ⟨z, hz, e⟩ := msAt_ex ((h _).mpr (Nat.or_lt_two_pow ((h _).mp (msAt_mem hx)) ((h _).mp (msAt_mem hy))))
    have a := (h2 _ h1).mp (leI_refl _)
    have b1 : subM (msAt ms x) (msAt ms x ||| msAt ms y) = true := subM_iff.mpr (by rw [Nat.and_or_distrib_left, Nat.and_self]; apply Nat.eq_of_testBit_eq; intro i; rw [Nat.testBit_or, Nat.testBit_and]; cases Nat.testBit (msAt ms x) i <;> simp)
    have b2 : subM (msAt ms y) (msAt ms x ||| msAt ms y) = true := subM_iff.mpr (by apply Nat.eq_of_testBit_eq; intro i; rw [Nat.testBit_and, Nat.testBit_or]; cases Nat.testBit (msAt ms y) i <;> simp)
    have b := (h2 z hz).mpr (by unfold leI; rw [e]; exact ⟨b1, b2⟩)
    unfold leI at a b
    rw [e] at b
    refine subM_anti b ?_
    rw [subM_iff]
    obtain ⟨a1, a2⟩ := a
    rw [subM_iff] at a1 a2
    rw [Nat.and_comm, Nat.and_or_distrib_left, Nat.and_comm _ (msAt ms x), a1, Nat.and_comm _ (msAt ms y), a2]
  intro x hx y hy z hz
  have u1 := (up_spec F hy hz).1
  have l1 := (low_spec F hx hy).1
  have l2 := (low_spec F hx hz).1
  refine msAt_inj F.nd (low_spec F hx u1).1 (up_spec F l1 l2).1 ?_
  rw [low_ms F hx u1, up_ms hy hz, up_ms l1 l2, low_ms F hx hy, low_ms F hx hz, Nat.and_or_distrib_left]
/-- a cut over a board that spreads -/
theorem spr_cut {ms : List Nat} (F : Fam ms) (S : Spr ms) {u v a : Nat} (hu : u < ms.length) (hv : v < ms.length) (ha : a < ms.length) (h1 : leI ms u (upI ms v a) = true) (h2 : leI ms (lowI ms u a) v = true) : leI ms u v = true := by
  have e := S u hu v hv a ha
  have uva := up_spec F hv ha
  have luv := low_spec F hu hv
  have lua := low_spec F hu ha
  have t1 : leI ms u (lowI ms u (upI ms v a)) = true := ((low_spec F hu uva.1).2 u hu).mpr ⟨leI_refl _, h1⟩
  rw [e] at t1
  refine leI_trans t1 ?_
  refine ((up_spec F luv.1 lua.1).2 v hv).mpr ⟨((luv.2 _ luv.1).mp (leI_refl _)).2, h2⟩
/-! ### rows as texts -/
def rowC (ms : List Nat) (a : Nat) : List Nat := ms.map fun b => if subM a b = true then 49 else 48
def rowsOf (ms : List Nat) : List Str := ms.map fun a => mk (rowC ms a)
theorem rowC_at {ms : List Nat} {a x : Nat} (h : x < ms.length) : (rowC ms a)[x]? = some (if subM a (msAt ms x) = true then 49 else 48) := by
  unfold rowC
  rw [List.getElem?_map, msAt_get h]
  rfl
theorem rows_at {ms : List Nat} {x : Nat} (h : x < ms.length) : ((rowsOf ms).map V.str)[x]? = some (.str (mk (rowC ms (msAt ms x)))) := by
  unfold rowsOf
  rw [List.getElem?_map, List.getElem?_map, msAt_get h]
  rfl
theorem one_dec (b : Bool) : decide (V.str (⟨#[if b = true then 49 else 48]⟩ : Str) = V.str "1") = b := by
  cases b <;> decide +kernel
end Fv


namespace Fv
open PySem PySem.Spec PyProof.Rows L2 FvX FvW TL
-- top 63  slots: 0:_law_row 1:_law_one
abbrev s_law_copied : Stmt := topS 63
abbrev N_law_copied : List Str := ["_law_row", "_law_one"]
theorem sc_law_copied : FnScope N_law_copied ["_law_row"] (defScope s_law_copied) := ⟨rfl, rfl, rfl, by decide +kernel, rfl, by decide +kernel, by decide +kernel⟩

-- top 64  slots: 0:_law_source_here 1:_law_wide 2:_law_many 3:_law_found 4:_law_k 5:_law_mask 6:_law_other
abbrev s_law_family : Stmt := topS 64
abbrev N_law_family : List Str := ["_law_source_here", "_law_wide", "_law_many", "_law_found", "_law_k", "_law_mask", "_law_other"]
theorem sc_law_family : FnScope N_law_family ["_law_source_here", "_law_wide", "_law_many"] (defScope s_law_family) := ⟨rfl, rfl, rfl, by decide +kernel, rfl, by decide +kernel, by decide +kernel⟩

-- top 65  slots: 0:_law_masks 1:_law_other 2:_law_one
abbrev s_law_rows : Stmt := topS 65
abbrev N_law_rows : List Str := ["_law_masks", "_law_other", "_law_one"]
theorem sc_law_rows : FnScope N_law_rows ["_law_masks"] (defScope s_law_rows) := ⟨rfl, rfl, rfl, by decide +kernel, rfl, by decide +kernel, by decide +kernel⟩

-- top 66  slots: 0:_law_source_here 1:_law_way
abbrev s_law_some_rows : Stmt := topS 66
abbrev N_law_some_rows : List Str := ["_law_source_here", "_law_way"]
theorem sc_law_some_rows : FnScope N_law_some_rows ["_law_source_here"] (defScope s_law_some_rows) := ⟨rfl, rfl, rfl, by decide +kernel, rfl, by decide +kernel, by decide +kernel⟩

theorem pi_listK {X : Cx} {K : PySem.W.Frag} {tg l : Expr} {tl : TE} (hK : X.K = K) (hl : PE X l tl) : PI X tg l (iList K tl) := by
  subst hK
  exact pi_list hl
theorem cr_allK {X : Cx} {K : PySem.W.Frag} (hK : X.K = K) (hc : X.calm = true) : CallR X (.builtin "all") (rAll K) := by
  subst hK
  exact cr_all hc
theorem pe_joinK {X : Cx} {K : PySem.W.Frag} {o e : Expr} {to te : TE} {apos pos : Pos} (hK : X.K = K) (ho : PE X o to) (he : PE X e te) (hs : starEach [e] X.env = [(false, eval e X.env)] := by rfl) (hbase : attributeBase o "join" X.env (eval o X.env) = eval o X.env := by rfl) (hline : (apos.endLine == pos.line) = true := by rfl) :
    PE X (.Call (.Attribute o "join" apos) [e] [] pos) (tM1 (fun x xs H Q => ∃ a p, ∃ ys : List Str, x = .str a ∧ xs = [.ref p] ∧ (SqL K H p (ys.map V.str) ∨ SqT K H p (ys.map V.str)) ∧
      (ys.map (·.length)).sum + ys.length * a.length ≤ 16777216 ∧ Q (.str (Txt.join a ys)) H) to te) := by
  subst hK
  exact pe_join ho he hs hbase hline
theorem smx_none' {a L : Addr} {ns : List Int} {H H' : Hp} {p : Addr} (s : SmX [a] H H') (hs : Src H' a L ns) (n : H' p = none) : H p = none := by
  cases e : H p with
  | none => rfl
  | some o =>
    by_cases c : p = a
    · obtain ⟨_, _, _, _, e', _⟩ := hs
      rw [c, e'] at n; cases n
    · rw [s _ _ (fun z => c (List.mem_singleton.mp z)) e] at n; cases n
theorem Src.neL' {H : Hp} {a L l : Addr} {ns : List Int} (h : Src H a L ns) (n : H l = none) : l ≠ L := fun z => by
  obtain ⟨_, _, _, _, _, e, _⟩ := h
  rw [← z, n] at e; cases e
def natsV (ms : List Nat) : List V := ms.map fun x => V.int (x : Nat)
theorem bitAnd_nat (a b : Nat) : Builtin.bitAnd ((a : Nat) : Int) ((b : Nat) : Int) = ((a &&& b : Nat) : Int) := by
  unfold Builtin.bitAnd
  rw [decide_eq_true (Int.natCast_nonneg a), decide_eq_true (Int.natCast_nonneg b)]
  show ((((a : Int).toNat &&& (b : Int).toNat : Nat)) : Int) = _
  rw [Int.toNat_natCast, Int.toNat_natCast]
theorem inV_nats (x : Nat) : ∀ ms : List Nat, inV (.int (x : Nat)) (natsV ms) = decide (x ∈ ms)
  | [] => rfl
  | a :: ms => by
    have ih := inV_nats x ms
    unfold inV natsV at ih ⊢
    rw [List.map_cons, List.any_cons, ih, Bool.eq_iff_iff, Bool.or_eq_true, decide_eq_true_eq, decide_eq_true_eq, List.mem_cons]
    refine or_congr ?_ Iff.rfl
    show decide ((a : Int) = (x : Int)) = true ↔ _
    rw [decide_eq_true_eq]
    omega
theorem flat_nats (ms : List Nat) : (natsV ms).all flatV = true := by
  unfold natsV
  rw [List.all_map]
  exact List.all_eq_true.mpr fun v _ => rfl
theorem nats_get {ms : List Nat} {j : Nat} {x : V} (h : (natsV ms)[j]? = some x) : ∃ a, ms[j]? = some a ∧ x = .int (a : Nat) := by
  unfold natsV at h
  rw [List.getElem?_map] at h
  cases e : ms[j]? with
  | none => rw [e] at h; cases h
  | some a => rw [e] at h; exact ⟨a, rfl, (Option.some.inj h).symm⟩
theorem nats_len (ms : List Nat) : (natsV ms).length = ms.length := by unfold natsV; rw [List.length_map]
theorem nodup_lt : ∀ (n : Nat) (ms : List Nat), ms.Nodup → (∀ a ∈ ms, a < n) → ms.length ≤ n
  | 0, [], _, _ => Nat.le_refl _
  | 0, a :: ms, _, h => absurd (h a List.mem_cons_self) (Nat.not_lt_zero _)
  | n + 1, ms, nd, h => by
    have ih := nodup_lt n (ms.erase n) (nd.erase n) fun a ha => by
      have h1 := h a (List.mem_of_mem_erase ha)
      have h2 : a ≠ n := fun z => by
        rw [z] at ha
        exact (List.Nodup.mem_erase_iff nd).mp ha |>.1 rfl
      omega
    have h3 := List.length_erase (a := n) (l := ms)
    by_cases c : n ∈ ms
    · rw [if_pos c] at h3; omega
    · rw [if_neg c] at h3; omega
/-- a family under way -/
structure FI (w : Nat) (fs : List Nat) : Prop where
  nd : fs.Nodup
  cl : ∀ a ∈ fs, ∀ b ∈ fs, a &&& b ∈ fs
  full : 2 ^ w - 1 ∈ fs
  lt : ∀ a ∈ fs, a < 2 ^ w
theorem FI.fam {w : Nat} {fs : List Nat} (h : FI w fs) (hw : w ≤ 4) : Fam fs := by
  refine ⟨h.nd, h.cl, ⟨_, h.full, fun a ha => ?_⟩, ?_⟩
  · rw [subM_iff, Nat.and_two_pow_sub_one_eq_mod, Nat.mod_eq_of_lt (h.lt a ha)]
  · refine Nat.le_trans (nodup_lt _ _ h.nd h.lt) ?_
    exact Nat.pow_le_pow_right (show 0 < 2 by decide) hw
theorem FI.one (w : Nat) : FI w [2 ^ w - 1] := by
  have p : 0 < 2 ^ w := Nat.two_pow_pos w
  refine ⟨by simp, fun a ha b hb => ?_, List.mem_singleton.mpr rfl, fun a ha => ?_⟩
  · rw [List.mem_singleton.mp ha, List.mem_singleton.mp hb, Nat.and_self]; exact List.mem_singleton.mpr rfl
  · rw [List.mem_singleton.mp ha]; omega
/-- between two families: what is met with m -/
structure FJ (w m : Nat) (fs : List Nat) (j : Nat) (gs : List Nat) : Prop where
  nd : gs.Nodup
  old : ∀ a ∈ fs, a ∈ gs
  done : ∀ a ∈ fs.take j, m &&& a ∈ gs
  all : ∀ a ∈ gs, a ∈ fs ∨ ∃ b ∈ fs, a = m &&& b
theorem FJ.fi {w m : Nat} {fs gs : List Nat} (F : FI w fs) (h : FJ w m fs fs.length gs) (hm : m < 2 ^ w) : FI w gs := by
  have dn : ∀ a ∈ fs, m &&& a ∈ gs := fun a ha => h.done a (by rw [List.take_length]; exact ha)
  refine ⟨h.nd, fun a ha b hb => ?_, h.old _ F.full, fun a ha => ?_⟩
  · rcases h.all a ha with ha' | ⟨c, hc, rfl⟩ <;> rcases h.all b hb with hb' | ⟨e, he, rfl⟩
    · exact h.old _ (F.cl a ha' b hb')
    · have := dn _ (F.cl a ha' e he)
      rw [← Nat.and_assoc, Nat.and_comm m a, Nat.and_assoc] at this
      exact this
    · rw [Nat.and_assoc]; exact dn _ (F.cl c hc b hb')
    · have := dn _ (F.cl c hc e he)
      have z : (m &&& c) &&& (m &&& e) = m &&& (c &&& e) := by
        rw [Nat.and_assoc, ← Nat.and_assoc c m e, Nat.and_comm c m, Nat.and_assoc, ← Nat.and_assoc m m, Nat.and_self]
      rw [z]; exact this
  · rcases h.all a ha with z | ⟨c, hc, rfl⟩
    · exact F.lt a z
    · exact Nat.and_lt_two_pow _ (F.lt c hc)
theorem FJ.len {w m : Nat} {fs gs : List Nat} {j : Nat} (F : FI w fs) (h : FJ w m fs j gs) (hw : w ≤ 4) : gs.length ≤ 16 := by
  refine Nat.le_trans (nodup_lt _ _ h.nd fun a ha => ?_) (Nat.pow_le_pow_right (show 0 < 2 by decide) hw)
  rcases h.all a ha with z | ⟨c, hc, rfl⟩
  · exact F.lt a z
  · exact Nat.and_lt_two_pow _ (F.lt c hc)
def spCopied (K : PySem.W.Frag) : Sp := fun vs H Q _ => ∃ (r : Addr) (xs : List V), vs = [.ref r] ∧ SqL K H r xs ∧ xs.length ≤ 1000 ∧ ∀ (H' : Hp) (p : Addr), Same H H' → H p = none → H' p = some (.lst xs) → Q (.ref p) H'
def spFamily : Sp := fun vs H Q _ => ∃ (a L : Addr) (ns : List Int) (wd m : Nat), vs = [.ref a, .int (wd : Nat), .int (m : Nat)] ∧ Src H a L ns ∧ wd ≤ 4 ∧ m ≤ 100 ∧
  ∀ (H' : Hp) (p : Addr) (ms : List Nat), Fam ms → H p = none → H' p = some (.lst (natsV ms)) → Src H' a L ns → SmX [a] H H' → Q (.ref p) H'
def spRows (K : PySem.W.Frag) : Sp := fun vs H Q _ => ∃ (r : Addr) (ms : List Nat), vs = [.ref r] ∧ SqL K H r (natsV ms) ∧ ms.length ≤ 60 ∧ ∀ (H' : Hp) (p : Addr), Same H H' → H p = none → H' p = some (.lst ((rowsOf ms).map V.str)) → Q (.ref p) H'
def spSomeRows : Sp := fun vs H Q _ => ∃ (a L : Addr) (ns : List Int), vs = [.ref a] ∧ Src H a L ns ∧
  ∀ (H' : Hp) (p : Addr) (ms : List Nat), Fam ms → H p = none → H' p = some (.lst ((rowsOf ms).map V.str)) → Src H' a L ns → SmX [a] H H' → Q (.ref p) H'
theorem str01 (b : Bool) : ((toString (if b = true then (1 : Int) else 0) : String) : Str) = ⟨#[if b = true then 49 else 48]⟩ := by
  cases b <;> decide +kernel
theorem log01 (b : Bool) : (if b = true then (1 : Int) else 0).natAbs.log2 < 1920 := by
  cases b <;> decide +kernel
theorem subM_dec (a b : Nat) : decide (V.int ((a &&& b : Nat) : Int) = V.int ((a : Nat) : Int)) = subM a b := by
  unfold subM
  rw [Bool.eq_iff_iff, decide_eq_true_eq, decide_eq_true_eq]
  exact ⟨fun h => by have := V.int.inj h; omega, fun h => by rw [h]⟩
theorem shl_nat {wd : Nat} (h : wd ≤ 4) : (1 : Int) * 2 ^ ((wd : Nat) : Int).toNat = ((2 ^ wd : Nat) : Int) := by
  have all : ∀ wd ≤ 4, (1 : Int) * 2 ^ ((wd : Nat) : Int).toNat = ((2 ^ wd : Nat) : Int) := by decide
  exact all wd h
theorem fam_a : Fam [0, 1, 2, 4, 7] := ⟨by decide, by decide, ⟨7, by decide, by decide⟩, by decide⟩
theorem fam_b : Fam [0, 1, 3, 4, 7] := ⟨by decide, by decide, ⟨7, by decide, by decide⟩, by decide⟩
def unI : V → Nat
  | .int i => i.toNat
  | _ => 0
theorem perm_nats {ys : List V} {ms : List Nat} (h : ys.Perm (natsV ms)) : ∃ ns, ns.Perm ms ∧ ys = natsV ns := by
  refine ⟨ys.map unI, ?_, ?_⟩
  · have z := h.map unI
    unfold natsV at z
    rw [List.map_map] at z
    have e : ms.map (unI ∘ fun x : Nat => V.int (x : Nat)) = ms := by
      refine Eq.trans (List.map_congr_left (g := id) fun x _ => ?_) (List.map_id ms)
      show ((x : Nat) : Int).toNat = x
      exact Int.toNat_natCast x
    rw [e] at z
    exact z
  · unfold natsV
    rw [List.map_map]
    refine Eq.trans (List.map_id ys).symm (List.map_congr_left fun y hy => ?_)
    obtain ⟨x, _, rfl⟩ := List.mem_map.mp (h.mem_iff.mp hy)
    show V.int (x : Nat) = V.int ((((x : Nat) : Int).toNat : Nat) : Int)
    rw [Int.toNat_natCast]
section
variable {P : Program} {w : World} {K : PySem.W.Frag} {mg : Str → Option Value} {base : Heap}
theorem ok_copied {f : Addr} {fd : FuncData} {k : Nat} (F : Fun K "_law_copied" "_law_copied" s_law_copied f fd) :
    FnOk P w K mg base CX0 (k + 1) f fd ["_law_row"] (spCopied K) := by
  refine F.ok sc_law_copied (fun vs H Q E h => ?_) (fun cdv A outer s H vs Q E hr h => ?_)
  · obtain ⟨r, xs, rfl, _⟩ := h
    rfl
  · obtain ⟨r, xs, rfl, hr0, hl, good⟩ := h
    refine ⟨_, (pss_one (ps_ret (pe_lc (own := [("_law_one", 1)]) (g := gName 1) (by rfl) sc_law_copied.nd (pi_list (pv 0)) (blkOk_by (own := [("_law_one", 1)]) (N := N_law_copied) (sc := defScope s_law_copied) (by decide +kernel)) (fun _ _ _ _ _ => pg_name (i := 1) sc_law_copied.nd rfl (Or.inl rfl)) (fun _ _ _ _ _ => pts_nil) (fun _ _ _ _ _ => (pv 1))))), ?_⟩
    refine ⟨_, rfl, r, rfl, ⟨_, hr0⟩, fun D nD => lc_list (xs := xs) (fun j H' => Same H H' ∧ H' D = some (.lst (xs.take j))) ?_ ?_ ?_ ?_⟩
    · exact ⟨same_upd nD, upd_same⟩
    · rintro j H' _ ⟨sm, _⟩
      exact sm.seq hr0
    · rintro j x H' hx ⟨sm, hD⟩
      refine ⟨rfl, ?_⟩
      dsimp only [tYes]
      rw [if_pos rfl]
      refine ⟨_, rfl, _, hD, small1000 (by rw [List.length_take]; omega), fun c o e => ?_, ?_⟩
      · rw [upd_ne (ne_of_none e nD)]; exact sm _ _ e
      · rw [upd_same, List.take_add_one, hx]; rfl
    · rintro H' ⟨sm, hD⟩
      rw [List.take_length] at hD
      exact good H' D sm nD hD
theorem ok_rows {f : Addr} {fd : FuncData} {k : Nat} (F : Fun K "_law_rows" "_law_rows" s_law_rows f fd) (m_str : mg "str" = none) (m_int : mg "int" = none) :
    FnOk P w K mg base CX0 (k + 1) f fd ["_law_masks"] (spRows K) := by
  refine F.ok sc_law_rows (fun vs H Q E h => ?_) (fun cdv A outer s H vs Q E hr h => ?_)
  · obtain ⟨r, ms, rfl, _⟩ := h
    rfl
  · obtain ⟨r, ms, rfl, hr0, hl, good⟩ := h
    refine ⟨_, (pss_one (ps_ret (pe_lc (own := [("_law_one", 2)]) (g := gName 2) (by rfl) sc_law_rows.nd (pi_listK (K := K) rfl (pv 0)) (blkOk_by (own := [("_law_one", 2)]) (N := N_law_rows) (sc := defScope s_law_rows) (by decide +kernel)) (fun _ _ _ _ _ => pg_name (i := 2) sc_law_rows.nd rfl (Or.inr rfl)) (fun _ _ _ _ _ => pts_nil) (fun _ _ _ _ _ => (pe_joinK (K := K) rfl pe_str (pe_lc (own := [("_law_other", 1)]) (g := gName 1) (by rfl) sc_law_rows.nd (pi_listK (K := K) rfl (pv 0)) (blkOk_by (own := [("_law_other", 1)]) (N := N_law_rows) (by exact rfl)) (fun _ _ _ _ _ => pg_name (i := 1) sc_law_rows.nd rfl (Or.inl rfl)) (fun _ _ _ _ _ => pts_nil) (fun _ _ _ _ _ => (pe_callTy call_str_int (by rfl) m_str (by decide +kernel) (pa_cons (pe_callTy call_int1 (by rfl) m_int (by decide +kernel) (pa_cons (pe_cmpR op_eq (pe_op L2.op_and (pv 2) (pv 1)) (pv 2) (nomark _)) pa_nil)) pa_nil))))))))), ?_⟩
    refine ⟨_, rfl, r, rfl, ⟨_, hr0⟩, fun D nD => lc_list (xs := natsV ms) (fun j H' => Same H H' ∧ H' D = some (.lst ((ms.take j).map fun a => V.str (mk (rowC ms a))))) ?_ ?_ ?_ ?_⟩
    · exact ⟨same_upd nD, upd_same⟩
    · rintro j H' _ ⟨sm, _⟩
      exact sm.seq hr0
    · rintro j x H' hx ⟨sm, hD⟩
      obtain ⟨a, ha, rfl⟩ := nats_get hx
      refine ⟨rfl, ?_⟩
      refine yes_it ⟨⟨_, rfl⟩, _, rfl, r, rfl, ⟨_, sm.seq hr0⟩, fun D2 nD2 => lc_list (xs := natsV ms) (fun i H2 => Same H' H2 ∧ H2 D2 = some (.lst ((ms.take i).map fun b => V.str ⟨#[if subM a b = true then 49 else 48]⟩))) ?_ ?_ ?_ ?_⟩
      · exact ⟨same_upd nD2, upd_same⟩
      · rintro i H2 _ ⟨sm2, _⟩
        exact (sm.trans sm2).seq hr0
      · rintro i y H2 hy ⟨sm2, hD2⟩
        obtain ⟨b, hb, rfl⟩ := nats_get hy
        refine ⟨rfl, ?_⟩
        refine yes_it ⟨_, rfl, _, rfl, _, _, rfl, rfl, ?_⟩
        dsimp only
        rw [bitAnd_nat]
        refine ⟨_, rfl, rfl, .inr ⟨_, rfl, _, rfl, log01 _, ?_⟩⟩
        rw [subM_dec, str01]
        refine ⟨_, hD2, small1000 (by rw [List.length_map, List.length_take]; omega), fun c o e => ?_, ?_⟩
        · rw [upd_ne (ne_of_none e nD2)]; exact sm2 _ _ e
        · rw [upd_same, List.take_add_one, hb, List.map_append]; rfl
      · rintro H2 ⟨sm2, hD2⟩
        rw [nats_len, List.take_length] at hD2
        have ej : (ms.map fun b => V.str (⟨#[if subM a b = true then 49 else 48]⟩ : Str)) = ((rowC ms a).map fun c => (⟨#[c]⟩ : Str)).map V.str := by
          unfold rowC
          rw [List.map_map, List.map_map]
          rfl
        rw [ej] at hD2
        refine ⟨"", D2, (rowC ms a).map fun c => (⟨#[c]⟩ : Str), rfl, rfl, .inl (SqL.of hD2), ?_, ?_⟩
        · rw [sum_ones, List.length_map]
          unfold rowC
          rw [List.length_map]
          show ms.length + ms.length * 0 ≤ _
          omega
        · rw [join_empty]
          refine ⟨_, sm2 _ _ hD, small1000 (by rw [List.length_map, List.length_take]; omega), fun c o e => ?_, ?_⟩
          · rw [upd_ne (ne_of_none e nD)]; exact sm2 _ _ (sm _ _ e)
          · rw [upd_same, List.take_add_one, ha, List.map_append]; rfl
    · rintro H' ⟨sm, hD⟩
      rw [nats_len, List.take_length] at hD
      refine good H' D sm nD ?_
      rw [hD]
      unfold rowsOf
      rw [List.map_map]
      rfl
theorem ok_family {f : Addr} {fd : FuncData} {k : Nat} (F : Fun K "_law_family" "_law_family" s_law_family f fd) (m_range : mg "range" = none) (hk : 2 ≤ k)
    (C_law_take : Own P w K mg base 1 "_law_take" ["_law_source_here", "_law_many"] spTake)
    (C_law_mixed : Own P w K mg base 2 "_law_mixed" ["_law_source_here", "_law_row"] spMixed)
    (C_law_copied : Own P w K mg base 1 "_law_copied" ["_law_row"] (spCopied K)) :
    FnOk P w K mg base CX0 (k + 1) f fd ["_law_source_here", "_law_wide", "_law_many"] spFamily := by
  refine F.ok sc_law_family (fun vs H Q E h => ?_) (fun cdv A outer s H vs Q E hr h => ?_)
  · obtain ⟨a, L, ns, wd, m, rfl, _⟩ := h
    rfl
  · obtain ⟨a, L, ns, wd, m, rfl, hs, hw, hm, good⟩ := h
    refine ⟨_, (pss_cons (ps_set (i := 3) sc_law_family.nd rfl (by first | exact .inl rfl | exact .inr rfl) (pe_lst (pa_cons (pe_op op_sub (pe_op op_shl pe_int (pv 1)) pe_int) pa_nil)))
      (pss_cons (ps_for PassesOwn.never rfl (pi_range1 (by rfl) m_range (pa_cons (pv 2) pa_nil)) (pg_name (i := 4) sc_law_family.nd rfl (by first | exact .inl rfl | exact .inr rfl))
        (pss_cons (ps_set (i := 5) sc_law_family.nd rfl (by first | exact .inl rfl | exact .inr rfl) (pe_own C_law_take (hr.mono (by omega)) (by rfl) (pa_cons (pv 0) (pa_cons (pe_op op_shl pe_int (pv 1)) pa_nil))))
        (pss_one (ps_for PassesOwn.never rfl (pi_list (pe_own C_law_copied (hr.mono (by omega)) (by rfl) (pa_cons (pv 3) pa_nil))) (pg_name (i := 6) sc_law_family.nd rfl (by first | exact .inl rfl | exact .inr rfl))
          (pss_one (ps_if (pt_cmpR op_notIn_seq (pe_op L2.op_and (pv 5) (pv 6)) (pv 3) (by rfl))
            (pss_one (ps_expr (pe_bm PySem.F.plainAttrs_list PySem.F.slot_list_append PySem.F.type_list_append mt_append (pv 3) (pa_cons (pe_op L2.op_and (pv 5) (pv 6)) pa_nil))))
            pss_nil))))))
      (pss_one (ps_ret (pe_own C_law_mixed (hr.mono (by omega)) (by rfl) (pa_cons (pv 0) (pa_cons (pv 3) pa_nil))))))), ?_⟩
    have p2 : 2 ^ wd ≤ 16 := Nat.pow_le_pow_right (show 0 < 2 by decide) hw
    have p1 : 0 < 2 ^ wd := Nat.two_pow_pos wd
    refine ⟨_, rfl, _, _, rfl, rfl, ⟨by omega, by omega, by decide⟩, _, _, rfl, rfl, (by show 1 ≤ sizeLine; decide), fun fo nfo => ?_⟩
    have e0 : upd H fo (.lst [V.int ((1 : Int) * 2 ^ ((wd : Nat) : Int).toNat - 1)]) fo = some (.lst (natsV [2 ^ wd - 1])) := by
      rw [upd_same, shl_nat hw, show ((2 ^ wd : Nat) : Int) - 1 = ((2 ^ wd - 1 : Nat) : Int) by omega]
      rfl
    have fa : fo ≠ a := (hs.ne nfo).symm
    have fL : fo ≠ L := hs.neL' nfo
    refine ⟨_, rfl, (m : Nat), rfl, by omega, by omega, for_range (lo := 0) (n := ((m : Nat) : Int).toNat) (fun i σ H1 => ∃ (y4 y5 y6 : Option V) (fs : List Nat), σ = [some (.ref a), some (.int (wd : Nat)), some (.int (m : Nat)), some (.ref fo), y4, y5, y6] ∧ FI wd fs ∧ H1 fo = some (.lst (natsV fs)) ∧ Src H1 a L ns ∧ SmX [a] H H1) ?_ ?_ ?_⟩
    · exact ⟨none, none, none, _, rfl, FI.one wd, e0, hs.off nfo fun c hc => upd_ne hc, SmX.new nfo⟩
    · rintro i σ H1 hi ⟨y4, y5, y6, fs, rfl, hF, hfo, hs1, sm1⟩
      refine ⟨_, rfl, _, rfl, _, _, rfl, rfl, ⟨by omega, by omega, by decide⟩, ?_⟩
      have pw := shl_nat hw
      refine ⟨a, L, ns, (1 : Int) * 2 ^ ((wd : Nat) : Int).toNat, rfl, hs1, (by rw [pw]; omega), (by rw [pw]; omega), fun H2 d d0 d1 hs2 off2 => ?_⟩
      rw [pw] at d1
      have hfo2 : H2 fo = some (.lst (natsV fs)) := (off2 fo fa).trans hfo
      have lf := (hF.fam hw).ln
      obtain ⟨md, rfl⟩ : ∃ md : Nat, d = (md : Nat) := ⟨d.toNat, by omega⟩
      refine ⟨_, rfl, fo, _, rfl, SqL.of hfo2, by rw [nats_len]; omega, fun H3 cp s3 ncp hcp => ?_⟩
      have hfo3 := s3 _ _ hfo2
      have cpf : cp ≠ fo := (ne_of_none hfo2 ncp).symm
      have sm2 : SmX [a] H H2 := sm1.trans (SmX.at off2 (List.mem_singleton.mpr rfl))
      refine ⟨cp, rfl, ⟨_, SqL.of hcp⟩, for_list (xs := natsV fs) (fun j σ H4 => ∃ (y6 : Option V) (gs : List Nat), σ = [some (.ref a), some (.int (wd : Nat)), some (.int (m : Nat)), some (.ref fo), some (.int (0 + (i : Nat))), some (.int (md : Nat)), y6] ∧ FJ wd md fs j gs ∧ H4 fo = some (.lst (natsV gs)) ∧ H4 cp = some (.lst (natsV fs)) ∧ Src H4 a L ns ∧ SmX [a] H H4) ?_ ?_ ?_ ?_⟩
      · exact ⟨_, fs, rfl, ⟨hF.nd, fun a ha => ha, fun a ha => (by cases ha), fun a ha => .inl ha⟩, hfo3, hcp, hs2.same s3, sm2.trans (SmX.of_same s3)⟩
      · rintro j σ H4 _ ⟨y6, gs, rfl, _, _, h4, _⟩
        exact SqL.of h4
      · rintro j x σ H4 hx ⟨y6, gs, rfl, hJ, hfo4, hcp4, hs4, sm4⟩
        obtain ⟨b, hb, rfl⟩ := nats_get hx
        have mb : b ∈ fs := List.mem_of_getElem? hb
        have lg := hJ.len hF hw
        have et : fs.take (j + 1) = fs.take j ++ [b] := by rw [List.take_add_one, hb]; rfl
        refine ⟨_, rfl, _, rfl, _, _, rfl, rfl, ?_⟩
        dsimp only
        rw [bitAnd_nat]
        refine ⟨_, rfl, fo, _, rfl, .inl (SqL.of hfo4), rfl, flat_nats gs, _, rfl, ?_⟩
        rw [inV_nats]
        by_cases c : md &&& b ∈ gs
        · rw [decide_eq_true c]
          refine iteF ⟨_, gs, rfl, ⟨hJ.nd, hJ.old, fun x hx => ?_, hJ.all⟩, hfo4, hcp4, hs4, sm4⟩
          rw [et] at hx
          rcases List.mem_append.mp hx with z | z
          · exact hJ.done x z
          · rw [List.mem_singleton.mp z]; exact c
        · rw [decide_eq_false c]
          refine iteT ⟨_, rfl, .inl ⟨rfl, _, SqL.of hfo4⟩, _, rfl, _, rfl, _, _, rfl, rfl, ?_⟩
          dsimp only
          rw [bitAnd_nat]
          refine ⟨fo, _, _, rfl, rfl, hfo4, small1000 (by rw [nats_len]; omega), _, gs ++ [md &&& b], rfl, ⟨?_, fun x hx => List.mem_append_left _ (hJ.old x hx), fun x hx => ?_, fun x hx => ?_⟩, ?_, ?_, ?_, ?_⟩
          · rw [List.nodup_append]
            refine ⟨hJ.nd, by simp, fun x hx y hy z => c ?_⟩
            rw [← List.mem_singleton.mp hy, ← z]; exact hx
          · rw [et] at hx
            rcases List.mem_append.mp hx with z | z
            · exact List.mem_append_left _ (hJ.done x z)
            · rw [List.mem_singleton.mp z]; exact List.mem_append_right _ (List.mem_singleton.mpr rfl)
          · rcases List.mem_append.mp hx with z | z
            · exact hJ.all x z
            · exact .inr ⟨b, mb, List.mem_singleton.mp z⟩
          · rw [upd_same]; unfold natsV; rw [List.map_append]; rfl
          · rw [upd_ne cpf]; exact hcp4
          · exact hs4.put fa fL
          · exact fun x o n e => by
              have nx : x ≠ fo := ne_of_none e nfo
              rw [upd_ne nx]; exact sm4 x o n e
      · rintro σ H4 ⟨y6, gs, rfl, hJ, hfo4, hcp4, hs4, sm4⟩
        rw [nats_len] at hJ
        exact ⟨_, _, _, gs, rfl, hJ.fi hF (by omega), hfo4, hs4, sm4⟩
    · rintro σ H1 ⟨y4, y5, y6, fs, rfl, hF, hfo, hs1, sm1⟩
      have lf := (hF.fam hw).ln
      refine ⟨_, rfl, _, rfl, a, L, fo, ns, _, rfl, hs1, fa, hfo, by rw [nats_len]; omega, fun H2 p ys pm np hp hs2 off2 => ?_⟩
      obtain ⟨gs, pg, rfl⟩ := perm_nats pm
      refine good H2 p gs ((hF.fam hw).perm pg) (smx_none' sm1 hs1 np) hp hs2 (sm1.trans fun x o n e => ?_)
      rw [off2 x (fun z => n (List.mem_singleton.mpr z)) (ne_of_none e np)]; exact e
theorem ok_some_rows {f : Addr} {fd : FuncData} {k : Nat} (F : Fun K "_law_some_rows" "_law_some_rows" s_law_some_rows f fd) (hk : 3 ≤ k)
    (C_law_take : Own P w K mg base 1 "_law_take" ["_law_source_here", "_law_many"] spTake)
    (C_law_mixed : Own P w K mg base 2 "_law_mixed" ["_law_source_here", "_law_row"] spMixed)
    (C_law_rows : Own P w K mg base 1 "_law_rows" ["_law_masks"] (spRows K))
    (C_law_family : Own P w K mg base 3 "_law_family" ["_law_source_here", "_law_wide", "_law_many"] spFamily) :
    FnOk P w K mg base CX0 (k + 1) f fd ["_law_source_here"] spSomeRows := by
  refine F.ok sc_law_some_rows (fun vs H Q E h => ?_) (fun cdv A outer s H vs Q E hr h => ?_)
  · obtain ⟨a, L, ns, rfl, _⟩ := h
    rfl
  · obtain ⟨a, L, ns, rfl, hs, good⟩ := h
    refine ⟨_, (pss_cons (ps_set (i := 1) sc_law_some_rows.nd rfl (by first | exact .inl rfl | exact .inr rfl) (pe_own C_law_take (hr.mono (by omega)) (by rfl) (pa_cons (pv 0) (pa_cons pe_int pa_nil))))
      (pss_cons (ps_if (pt_cmpR op_eq (pv 1) pe_int (nomark _))
        (pss_one (ps_ret (pe_own C_law_rows (hr.mono (by omega)) (by rfl) (pa_cons (pe_own C_law_mixed (hr.mono (by omega)) (by rfl) (pa_cons (pv 0) (pa_cons (pe_lst (pa_cons pe_int (pa_cons pe_int (pa_cons pe_int (pa_cons pe_int (pa_cons pe_int pa_nil)))))) pa_nil))) pa_nil))))
        pss_nil)
      (pss_cons (ps_if (pt_cmpR op_eq (pv 1) pe_int (nomark _))
        (pss_one (ps_ret (pe_own C_law_rows (hr.mono (by omega)) (by rfl) (pa_cons (pe_own C_law_mixed (hr.mono (by omega)) (by rfl) (pa_cons (pv 0) (pa_cons (pe_lst (pa_cons pe_int (pa_cons pe_int (pa_cons pe_int (pa_cons pe_int (pa_cons pe_int pa_nil)))))) pa_nil))) pa_nil))))
        pss_nil)
      (pss_one (ps_ret (pe_own C_law_rows (hr.mono (by omega)) (by rfl) (pa_cons (pe_own C_law_family (hr.mono (by omega)) (by rfl) (pa_cons (pv 0) (pa_cons (pe_op op_add pe_int (pe_op op_fdiv (pv 1) pe_int)) (pa_cons (pe_own C_law_take (hr.mono (by omega)) (by rfl) (pa_cons (pv 0) (pa_cons pe_int pa_nil))) pa_nil)))) pa_nil))))))), ?_⟩
    have five : ∀ (H1 : Hp) (ms : List Nat), Fam ms → Src H1 a L ns → SmX [a] H H1 → ∀ p, H1 p = none → ∀ (R : VK), (∀ H' v, (∃ (q : Addr) (gs : List Nat), v = .ref q ∧ Fam gs ∧ H q = none ∧ H' q = some (.lst ((rowsOf gs).map V.str)) ∧ Src H' a L ns ∧ SmX [a] H H') → R v H') → spMixed [.ref a, .ref p] (upd H1 p (.lst (natsV ms))) (fun v H' => spRows K [v] H' R (fun _ _ _ => False)) (fun _ _ _ => False) := by
      intro H1 ms fm hs1 sm1 p np R hR
      have pa : p ≠ a := (hs1.ne np).symm
      have lf := fm.ln
      refine ⟨a, L, p, ns, _, rfl, hs1.off np fun c hc => upd_ne hc, pa, upd_same, by rw [nats_len]; omega, fun H2 q ys pm nq hq hs2 off2 => ?_⟩
      obtain ⟨gs, pg, rfl⟩ := perm_nats pm
      have fg := fm.perm pg
      have lg := fg.ln
      have sm2 : SmX [a] H H2 := (sm1.trans (SmX.new np)).trans fun x o n e => by rw [off2 x (fun z => n (List.mem_singleton.mpr z)) (ne_of_none e nq)]; exact e
      refine ⟨q, gs, rfl, SqL.of hq, by omega, fun H3 t s3 nt ht => hR _ _ ⟨t, gs, rfl, fg, ?_, ht, hs2.same s3, sm2.trans (SmX.of_same s3)⟩⟩
      exact smx_none' sm2 hs2 nt
    refine ⟨_, rfl, a, L, ns, 4, rfl, hs, by decide, by decide, fun H1 d d0 d1 hs1 off1 => ?_⟩
    have sm1 : SmX [a] H H1 := SmX.at off1 (List.mem_singleton.mpr rfl)
    have hR : ∀ H' v, (∃ (q : Addr) (gs : List Nat), v = .ref q ∧ Fam gs ∧ H q = none ∧ H' q = some (.lst ((rowsOf gs).map V.str)) ∧ Src H' a L ns ∧ SmX [a] H H') → Q v H' := fun H' v ⟨q, gs, e, fg, nq, hq, h1, h2⟩ => by
      rw [e]; exact good H' q gs fg nq hq h1 h2
    refine ⟨_, rfl, rfl, _, rfl, ?_⟩
    refine ite2 (fun c0 => ?_) (fun c0 => ?_)
    · refine ⟨_, rfl, (by show 5 ≤ sizeLine; decide), fun p np => ?_⟩
      exact five H1 [0, 1, 2, 4, 7] fam_a hs1 sm1 p np _ hR
    refine ⟨_, rfl, rfl, _, rfl, ?_⟩
    refine ite2 (fun c1 => ?_) (fun c1 => ?_)
    · refine ⟨_, rfl, (by show 5 ≤ sizeLine; decide), fun p np => ?_⟩
      exact five H1 [0, 1, 3, 4, 7] fam_b hs1 sm1 p np _ hR
    refine ⟨_, rfl, _, rfl, _, _, rfl, rfl, ⟨by decide, by decide⟩, _, _, rfl, rfl, _, rfl, a, L, ns, 4, rfl, hs1, by decide, by decide, fun H2 m m0 m1 hs2 off2 => ?_⟩
    have sm2 : SmX [a] H H2 := sm1.trans (SmX.at off2 (List.mem_singleton.mpr rfl))
    obtain ⟨mn, rfl⟩ : ∃ mn : Nat, m = (mn : Nat) := ⟨m.toNat, by omega⟩
    obtain ⟨wn, ew, hw⟩ : ∃ wn : Nat, 3 + d / 3 = ((wn : Nat) : Int) ∧ wn ≤ 4 := ⟨(3 + d / 3).toNat, by omega, by omega⟩
    refine ⟨a, L, ns, wn, mn, (show [V.ref a, V.int (3 + d / 3), V.int (mn : Nat)] = [V.ref a, V.int (wn : Nat), V.int (mn : Nat)] by rw [ew]), hs2, hw, by omega, fun H3 p ms fm np hp hs3 sm3 => ?_⟩
    have sm23 := sm2.trans sm3
    have lf := fm.ln
    refine ⟨p, ms, rfl, SqL.of hp, by omega, fun H4 t s4 nt ht => good H4 t ms fm ?_ ht (hs3.same s4) (sm23.trans (SmX.of_same s4))⟩
    exact smx_none' sm23 hs3 nt
end
end Fv


namespace Fv
open PySem PySem.Spec PyProof.Rows L2 FvX FvW TL
-- top 67  slots: 0:_law_rows_here 1:_law_x 2:_law_y 3:_law_some 4:_law_z 5:_law_w
abbrev s_law_low : Stmt := topS 67
abbrev N_law_low : List Str := ["_law_rows_here", "_law_x", "_law_y", "_law_some", "_law_z", "_law_w"]
theorem sc_law_low : FnScope N_law_low ["_law_rows_here", "_law_x", "_law_y"] (defScope s_law_low) := ⟨rfl, rfl, rfl, by decide +kernel, rfl, by decide +kernel, by decide +kernel⟩

-- top 68  slots: 0:_law_rows_here 1:_law_x 2:_law_y 3:_law_some 4:_law_z 5:_law_w
abbrev s_law_up : Stmt := topS 68
abbrev N_law_up : List Str := ["_law_rows_here", "_law_x", "_law_y", "_law_some", "_law_z", "_law_w"]
theorem sc_law_up : FnScope N_law_up ["_law_rows_here", "_law_x", "_law_y"] (defScope s_law_up) := ⟨rfl, rfl, rfl, by decide +kernel, rfl, by decide +kernel, by decide +kernel⟩

-- top 69  slots: 0:_law_rows_here 1:_law_every 2:_law_lows 3:_law_y 4:_law_x
abbrev s_law_tables : Stmt := topS 69
abbrev N_law_tables : List Str := ["_law_rows_here", "_law_every", "_law_lows", "_law_y", "_law_x"]
theorem sc_law_tables : FnScope N_law_tables ["_law_rows_here"] (defScope s_law_tables) := ⟨rfl, rfl, rfl, by decide +kernel, rfl, by decide +kernel, by decide +kernel⟩

def spLow (K : PySem.W.Frag) (g : List Nat → Nat → Nat → Nat) : Sp := fun vs H Q _ => ∃ (r : Addr) (ms : List Nat) (x y : Nat), vs = [.ref r, .int (x : Nat), .int (y : Nat)] ∧ SqL K H r ((rowsOf ms).map V.str) ∧ Fam ms ∧ x < ms.length ∧ y < ms.length ∧ ∀ H', Same H H' → Q (.int (g ms x y : Nat)) H'
def rowD (n : Nat) (g : Nat → Nat) : PyData := .list ((List.range n).map fun y => .int (g y : Nat))
def tabD (n : Nat) (g : Nat → Nat → Nat) : PyData := .list ((List.range n).map fun x => rowD n (g x))
def tabsD (ms : List Nat) : PyData := .tuple [tabD ms.length (lowI ms), tabD ms.length (upI ms)]
/-- what is new -/
def nw (H H' : Hp) : Hp := fun b => if H b = none then H' b else none
theorem nw_at {H H' : Hp} {b : Addr} (h : H b = none) : nw H H' b = H' b := by unfold nw; rw [if_pos h]
theorem nw_some {H H' : Hp} {b : Addr} {o : HO} (h : nw H H' b = some o) : H b = none ∧ H' b = some o := by
  unfold nw at h
  by_cases c : H b = none
  · rw [if_pos c] at h; exact ⟨c, h⟩
  · rw [if_neg c] at h; cases h
theorem nw_hide {H H' : Hp} {a L : Addr} {ns : List Int} (hs : Src H a L ns) : Same (nw H H') (hide [a] H') := fun b o h => by
  obtain ⟨n, e⟩ := nw_some h
  rw [hide_ne (fun z => hs.ne n (List.mem_singleton.mp z).symm)]
  exact e
theorem nw_same {H H' : Hp} : Same (nw H H') H' := fun b o h => (nw_some h).2
theorem dpAll_of {K : PySem.W.Frag} {H : Hp} : ∀ {vs : List V} {ds : List PyData}, vs.length = ds.length → (∀ (i : Nat) (v : V) (d : PyData), vs[i]? = some v → ds[i]? = some d → Dp K H v d) → DpAll K H vs ds
  | [], [], _, _ => .nil
  | [], _ :: _, h, _ => by simp at h
  | _ :: _, [], h, _ => by simp at h
  | v :: vs, d :: ds, h, f => .cons (f 0 v d rfl rfl) (dpAll_of (by simpa using h) fun i v d h1 h2 => f (i + 1) v d (by simpa using h1) (by simpa using h2))
theorem dp_nats {K : PySem.W.Frag} {H : Hp} : ∀ l : List Nat, DpAll K H (natsV l) (l.map fun y => .int (y : Nat))
  | [] => .nil
  | y :: l => .cons (.int _) (dp_nats l)
structure Rws (H0 H : Hp) (D : Addr) (n : Nat) (g : Nat → Nat → Nat) (as : List Addr) : Prop where
  at_ : H D = some (.lst (as.map V.ref))
  rw_ : ∀ (i : Nat) (a : Addr), as[i]? = some a → a ≠ D ∧ H0 a = none ∧ H a = some (.lst (natsV ((List.range n).map (g i))))
theorem Rws.same {H0 H H' : Hp} {D : Addr} {n : Nat} {g : Nat → Nat → Nat} {as : List Addr} (h : Rws H0 H D n g as) (s : Same H H') : Rws H0 H' D n g as :=
  ⟨s _ _ h.at_, fun i a e => ⟨(h.rw_ i a e).1, (h.rw_ i a e).2.1, s _ _ (h.rw_ i a e).2.2⟩⟩
theorem Rws.put {H0 H : Hp} {D D2 : Addr} {n : Nat} {g : Nat → Nat → Nat} {as : List Addr} (h : Rws H0 H D n g as) (e : H D2 = some (.lst (natsV ((List.range n).map (g as.length))))) (ne : D2 ≠ D) (n0 : H0 D2 = none) : Rws H0 (upd H D (.lst (as.map V.ref ++ [.ref D2]))) D n g (as ++ [D2]) := by
  refine ⟨by rw [upd_same, List.map_append]; rfl, fun i a ha => ?_⟩
  rcases Nat.lt_or_ge i as.length with lt | ge
  · rw [List.getElem?_append_left lt] at ha
    obtain ⟨h1, h2, h3⟩ := h.rw_ i a ha
    exact ⟨h1, h2, by rw [upd_ne h1]; exact h3⟩
  · rw [List.getElem?_append_right ge] at ha
    have hi : i - as.length = 0 := by
      have := (List.getElem?_eq_some_iff.mp ha).1
      simp at this; omega
    rw [hi] at ha
    have ea : D2 = a := by simpa using ha
    subst ea
    refine ⟨ne, n0, ?_⟩
    rw [upd_ne ne, e, show i = as.length by omega]
theorem Rws.dp {K : PySem.W.Frag} {H0 H : Hp} {D : Addr} {n : Nat} {g : Nat → Nat → Nat} {as : List Addr} (h : Rws H0 H D n g as) (nD : H0 D = none) (la : as.length = n) : Dp K (nw H0 H) (.ref D) (tabD n g) := by
  refine .lst (SqL.of (by rw [nw_at nD]; exact h.at_)) (dpAll_of (by simp [la]) fun i v d hv hd => ?_)
  rw [List.getElem?_map] at hv hd
  cases ea : as[i]? with
  | none => rw [ea] at hv; cases hv
  | some a =>
    rw [ea] at hv
    have ev : V.ref a = v := by simpa using hv
    have li : i < n := by rw [← la]; exact (List.getElem?_eq_some_iff.mp ea).1
    rw [List.getElem?_range li] at hd
    have ed : rowD n (g i) = d := by simpa using hd
    rw [← ev, ← ed]
    obtain ⟨_, h2, h3⟩ := h.rw_ i a ea
    have z := dp_nats (K := K) (H := nw H0 H) ((List.range n).map (g i))
    rw [List.map_map] at z
    exact .lst (SqL.of (by rw [nw_at h2]; exact h3)) z
theorem rgV_nats (n : Nat) : rgV 0 ((n : Nat) : Int) = natsV (List.range n) := by
  unfold rgV natsV
  rw [show (((n : Nat) : Int) - 0).toNat = n by omega]
  refine List.map_congr_left fun x _ => ?_
  show V.int (0 + (x : Int)) = V.int (x : Int)
  rw [Int.zero_add]
def spTables (K : PySem.W.Frag) : Sp := fun vs H Q _ => ∃ (r : Addr) (ms : List Nat), vs = [.ref r] ∧ SqL K H r ((rowsOf ms).map V.str) ∧ Fam ms ∧ ∀ (H' : Hp) (p : Addr), Same H H' → H p = none → Dp K (nw H H') (.ref p) (tabsD ms) → Q (.ref p) H'
theorem rows_len (ms : List Nat) : ((rowsOf ms).map V.str).length = ms.length := by unfold rowsOf; rw [List.length_map, List.length_map]
/-- one sign of a row -/
theorem row_ix {ms : List Nat} {x y : Nat} (hx : x < ms.length) (hy : y < ms.length) (l : ms.length ≤ 16) : atI ((rowsOf ms).map V.str) ((x : Nat) : Int) = some (.str (mk (rowC ms (msAt ms x)))) ∧ (mk (rowC ms (msAt ms x))).length ≤ sizeLine ∧ atI (mk (rowC ms (msAt ms x))).cps.toList ((y : Nat) : Int) = some (if leI ms x y = true then 49 else 48) := by
  refine ⟨atI_nat (rows_at hx), ?_, ?_⟩
  · rw [mk_len]; unfold rowC; rw [List.length_map]; exact le1000 (by omega)
  · exact atI_nat (xs := rowC ms (msAt ms x)) (rowC_at hy)
theorem filt_add {p : Nat → Bool} {l : List Nat} {j z : Nat} (h : l[j]? = some z) : (l.take (j + 1)).filter p = (l.take j).filter p ++ (if p z = true then [z] else []) := by
  rw [List.take_add_one, h, List.filter_append]
  cases e : p z <;> simp [e]
section
variable {P : Program} {w : World} {K : PySem.W.Frag} {mg : Str → Option Value} {base : Heap}
theorem ok_low {f : Addr} {fd : FuncData} {k : Nat} (F : Fun K "_law_low" "_law_low" s_law_low f fd) (m_len : mg "len" = none) (m_range : mg "range" = none) (m_all : mg "all" = none) :
    FnOk P w K mg base CX0 (k + 1) f fd ["_law_rows_here", "_law_x", "_law_y"] (spLow K lowI) := by
  refine F.ok sc_law_low (fun vs H Q E h => ?_) (fun cdv A outer s H vs Q E hr h => ?_)
  · obtain ⟨r, ms, x, y, rfl, _⟩ := h
    rfl
  · obtain ⟨r, ms, x, y, rfl, hr0, Fm, hx, hy, good⟩ := h
    have l16 := Fm.ln
    have lr := rows_len ms
    refine ⟨_, (pss_cons (ps_set (i := 3) sc_law_low.nd rfl (by first | exact .inl rfl | exact .inr rfl) (pe_lc (own := [("_law_z", 4)]) (g := gName 4) (by rfl) sc_law_low.nd (pi_range1 (by rfl) m_range (pa_cons (pe_callB call_len_seq (by rfl) m_len (by decide +kernel) (pa_cons (pv 0) pa_nil)) pa_nil)) (blkOk_by (own := [("_law_z", 4)]) (N := N_law_low) (sc := defScope s_law_low) (by decide +kernel)) (fun _ _ _ _ _ => pg_name (i := 4) sc_law_low.nd rfl (Or.inl rfl)) (fun _ _ _ _ _ => pts_one (PW.pt (pw_and (pt_cmpR op_eq (pe_ix ix_str (pe_ix (ix_listK (K := K) rfl) (pv 0) (pv 4) (fun _ _ => rfl)) (pv 1) (fun _ _ => rfl)) pe_str (nomark _)) (pw_and1 (pt_cmpR op_eq (pe_ix ix_str (pe_ix (ix_listK (K := K) rfl) (pv 0) (pv 4) (fun _ _ => rfl)) (pv 2) (fun _ _ => rfl)) pe_str (nomark _)))))) (fun _ _ _ _ _ => (pv 4))))
      (pss_one (ps_ret (pe_ix ix_list (pe_lc (own := [("_law_z", 4)]) (g := gName 4) (by rfl) sc_law_low.nd (pi_listK (K := K) rfl (pv 3)) (blkOk_by (own := [("_law_z", 4)]) (N := N_law_low) (sc := defScope s_law_low) (by decide +kernel)) (fun _ _ _ _ _ => pg_name (i := 4) sc_law_low.nd rfl (Or.inr rfl)) (fun _ _ _ _ _ => pts_one (pt_val (pe_callB (cr_allK (K := K) rfl rfl) (by rfl) m_all (by decide +kernel) (pa_cons (pe_lc (own := [("_law_w", 5)]) (g := gName 5) (by rfl) sc_law_low.nd (pi_listK (K := K) rfl (pv 3)) (blkOk_by (own := [("_law_w", 5)]) (N := N_law_low) (by exact rfl)) (fun _ _ _ _ _ => pg_name (i := 5) sc_law_low.nd rfl (Or.inl rfl)) (fun _ _ _ _ _ => pts_nil) (fun _ _ _ _ _ => (pe_cmpR op_eq (pe_ix ix_str (pe_ix (ix_listK (K := K) rfl) (pv 0) (pv 5) (fun _ _ => rfl)) (pv 4) (fun _ _ => rfl)) pe_str (nomark _)))) pa_nil)))) (fun _ _ _ _ _ => (pv 4))) pe_int (fun _ _ => rfl))))), ?_⟩
    refine ⟨_, rfl, r, _, rfl, .inl hr0, _, rfl, (by rw [lr]; omega), (by rw [lr]; omega), fun D nD => lc_range (lo := 0) (n := (((rowsOf ms).map V.str).length : Int).toNat) (fun j H' => Same H H' ∧ H' D = some (.lst (natsV (((List.range ms.length).take j).filter fun z => leI ms z x && leI ms z y)))) ?_ ?_ ?_⟩
    · exact ⟨same_upd nD, upd_same⟩
    · rintro j H' hj ⟨sm, hD⟩
      rw [lr, Int.toNat_natCast] at hj
      have hz : (List.range ms.length)[j]? = some j := by rw [List.getElem?_range hj]
      obtain ⟨a1, a2, a3⟩ := row_ix hj hx l16
      obtain ⟨b1, b2, b3⟩ := row_ix hj hy l16
      have ej : (0 : Int) + (j : Nat) = ((j : Nat) : Int) := by omega
      rw [ej]
      refine ⟨rfl, _, rfl, _, rfl, r, _, _, _, rfl, rfl, sm.seq hr0, a1, _, rfl, _, _, _, rfl, rfl, a2, a3, rfl, _, rfl, ?_⟩
      rw [one_dec]
      have fa := filt_add (p := fun z => leI ms z x && leI ms z y) hz
      have lf : (natsV (((List.range ms.length).take j).filter fun z => leI ms z x && leI ms z y)).length ≤ 16 := by
        rw [nats_len]
        refine Nat.le_trans (List.length_filter_le _ _) ?_
        rw [List.length_take, List.length_range]
        omega
      cases e1 : leI ms j x with
      | false =>
        refine iteF (iteF ⟨sm, ?_⟩)
        rw [fa, hD, e1]
        simp
      | true =>
        refine iteT ⟨_, rfl, _, rfl, r, _, _, _, rfl, rfl, sm.seq hr0, b1, _, rfl, _, _, _, rfl, rfl, b2, b3, rfl, _, rfl, ?_⟩
        rw [one_dec]
        cases e2 : leI ms j y with
        | false =>
          refine iteF ⟨sm, ?_⟩
          rw [fa, hD, e1, e2]
          simp
        | true =>
          refine iteT ⟨_, rfl, _, hD, small1000 (by omega), fun c o e => ?_, ?_⟩
          · rw [upd_ne (ne_of_none e nD)]; exact sm _ _ e
          · rw [upd_same, fa, e1, e2]
            unfold natsV
            simp
    rintro H1 ⟨s1, hD1⟩
    rw [lr, Int.toNat_natCast, show (List.range ms.length).take ms.length = List.range ms.length from List.take_of_length_le (by rw [List.length_range]; exact Nat.le_refl _)] at hD1
    change H1 D = some (.lst (natsV (lowL ms x y))) at hD1
    have lL : (lowL ms x y).length ≤ 16 := by
      unfold lowL
      refine Nat.le_trans (List.length_filter_le _ _) ?_
      rw [List.length_range]; exact l16
    refine ⟨_, rfl, D, rfl, ⟨_, SqL.of hD1⟩, fun D2 nD2 => lc_list (xs := natsV (lowL ms x y)) (fun j H' => Same H1 H' ∧ H' D2 = some (.lst (natsV (((lowL ms x y).take j).filter fun z => (lowL ms x y).all fun w => leI ms w z)))) ?_ ?_ ?_ ?_⟩
    · exact ⟨same_upd nD2, upd_same⟩
    · rintro j H' _ ⟨sm, _⟩
      exact SqL.of (sm _ _ hD1)
    · rintro j v H' hv ⟨sm, hD2⟩
      obtain ⟨z, hz, rfl⟩ := nats_get hv
      have zn : z < ms.length := (mem_lowL.mp (List.mem_of_getElem? hz)).1
      have fa := filt_add (p := fun z => (lowL ms x y).all fun w => leI ms w z) hz
      refine ⟨rfl, _, rfl, D, rfl, ⟨_, SqL.of (sm _ _ hD1)⟩, fun D3 nD3 => lc_list (xs := natsV (lowL ms x y)) (fun i H3 => Same H' H3 ∧ H3 D3 = some (.lst (((lowL ms x y).take i).map fun w => V.bl (leI ms w z)))) ?_ ?_ ?_ ?_⟩
      · exact ⟨same_upd nD3, upd_same⟩
      · rintro i H3 _ ⟨sm3, _⟩
        exact SqL.of ((sm.trans sm3) _ _ hD1)
      · rintro i u H3 hu ⟨sm3, hD3⟩
        obtain ⟨w, hw, rfl⟩ := nats_get hu
        have wn : w < ms.length := (mem_lowL.mp (List.mem_of_getElem? hw)).1
        obtain ⟨a1, a2, a3⟩ := row_ix wn zn l16
        refine ⟨rfl, yes_it ⟨_, rfl, _, rfl, r, _, _, _, rfl, rfl, (s1.trans (sm.trans sm3)).seq hr0, a1, _, rfl, _, _, _, rfl, rfl, a2, a3, rfl, _, hD3, small1000 (by rw [List.length_map, List.length_take]; omega), fun c o e => ?_, ?_⟩⟩
        · rw [upd_ne (ne_of_none e nD3)]; exact sm3 _ _ e
        · rw [upd_same, List.take_add_one, hw, List.map_append, one_dec]; rfl
      · rintro H3 ⟨sm3, hD3⟩
        rw [nats_len, List.take_length] at hD3
        have eb : ((lowL ms x y).map fun w => V.bl (leI ms w z)) = ((lowL ms x y).map fun w => leI ms w z).map V.bl := by rw [List.map_map]; rfl
        rw [eb] at hD3
        refine ⟨D3, _, rfl, SqL.of hD3, _, rfl, ?_⟩
        have ea : ((lowL ms x y).map fun w => leI ms w z).all id = (lowL ms x y).all fun w => leI ms w z := by rw [List.all_map]; rfl
        rw [ea]
        have sm4 := sm.trans sm3
        have lf : (natsV (((lowL ms x y).take j).filter fun z => (lowL ms x y).all fun w => leI ms w z)).length ≤ 16 := by
          rw [nats_len]
          refine Nat.le_trans (List.length_filter_le _ _) ?_
          rw [List.length_take]
          omega
        cases e1 : (lowL ms x y).all fun w => leI ms w z with
        | false =>
          refine iteF ⟨sm4, ?_⟩
          rw [fa, sm3 _ _ hD2, e1]
          simp
        | true =>
          refine iteT ⟨_, rfl, _, sm3 _ _ hD2, small1000 (by omega), fun c o e => ?_, ?_⟩
          · rw [upd_ne (ne_of_none e nD2)]; exact sm4 _ _ e
          · rw [upd_same, fa, e1]
            unfold natsV
            simp
    · rintro H2 ⟨s2, hD2⟩
      rw [nats_len, List.take_length] at hD2
      change H2 D2 = some (.lst (natsV (lowM ms x y))) at hD2
      obtain ⟨_, rr, er⟩ := low_cons Fm hx hy
      rw [er] at hD2
      exact ⟨D2, _, _, _, rfl, rfl, SqL.of hD2, at0, good H2 (s1.trans s2)⟩
theorem ok_up {f : Addr} {fd : FuncData} {k : Nat} (F : Fun K "_law_up" "_law_up" s_law_up f fd) (m_len : mg "len" = none) (m_range : mg "range" = none) (m_all : mg "all" = none) :
    FnOk P w K mg base CX0 (k + 1) f fd ["_law_rows_here", "_law_x", "_law_y"] (spLow K upI) := by
  refine F.ok sc_law_up (fun vs H Q E h => ?_) (fun cdv A outer s H vs Q E hr h => ?_)
  · obtain ⟨r, ms, x, y, rfl, _⟩ := h
    rfl
  · obtain ⟨r, ms, x, y, rfl, hr0, Fm, hx, hy, good⟩ := h
    have l16 := Fm.ln
    have lr := rows_len ms
    refine ⟨_, (pss_cons (ps_set (i := 3) sc_law_up.nd rfl (by first | exact .inl rfl | exact .inr rfl) (pe_lc (own := [("_law_z", 4)]) (g := gName 4) (by rfl) sc_law_up.nd (pi_range1 (by rfl) m_range (pa_cons (pe_callB call_len_seq (by rfl) m_len (by decide +kernel) (pa_cons (pv 0) pa_nil)) pa_nil)) (blkOk_by (own := [("_law_z", 4)]) (N := N_law_up) (sc := defScope s_law_up) (by decide +kernel)) (fun _ _ _ _ _ => pg_name (i := 4) sc_law_up.nd rfl (Or.inl rfl)) (fun _ _ _ _ _ => pts_one (PW.pt (pw_and (pt_cmpR op_eq (pe_ix ix_str (pe_ix (ix_listK (K := K) rfl) (pv 0) (pv 1) (fun _ _ => rfl)) (pv 4) (fun _ _ => rfl)) pe_str (nomark _)) (pw_and1 (pt_cmpR op_eq (pe_ix ix_str (pe_ix (ix_listK (K := K) rfl) (pv 0) (pv 2) (fun _ _ => rfl)) (pv 4) (fun _ _ => rfl)) pe_str (nomark _)))))) (fun _ _ _ _ _ => (pv 4))))
      (pss_one (ps_ret (pe_ix ix_list (pe_lc (own := [("_law_z", 4)]) (g := gName 4) (by rfl) sc_law_up.nd (pi_listK (K := K) rfl (pv 3)) (blkOk_by (own := [("_law_z", 4)]) (N := N_law_up) (sc := defScope s_law_up) (by decide +kernel)) (fun _ _ _ _ _ => pg_name (i := 4) sc_law_up.nd rfl (Or.inr rfl)) (fun _ _ _ _ _ => pts_one (pt_val (pe_callB (cr_allK (K := K) rfl rfl) (by rfl) m_all (by decide +kernel) (pa_cons (pe_lc (own := [("_law_w", 5)]) (g := gName 5) (by rfl) sc_law_up.nd (pi_listK (K := K) rfl (pv 3)) (blkOk_by (own := [("_law_w", 5)]) (N := N_law_up) (by exact rfl)) (fun _ _ _ _ _ => pg_name (i := 5) sc_law_up.nd rfl (Or.inl rfl)) (fun _ _ _ _ _ => pts_nil) (fun _ _ _ _ _ => (pe_cmpR op_eq (pe_ix ix_str (pe_ix (ix_listK (K := K) rfl) (pv 0) (pv 4) (fun _ _ => rfl)) (pv 5) (fun _ _ => rfl)) pe_str (nomark _)))) pa_nil)))) (fun _ _ _ _ _ => (pv 4))) pe_int (fun _ _ => rfl))))), ?_⟩
    refine ⟨_, rfl, r, _, rfl, .inl hr0, _, rfl, (by rw [lr]; omega), (by rw [lr]; omega), fun D nD => lc_range (lo := 0) (n := (((rowsOf ms).map V.str).length : Int).toNat) (fun j H' => Same H H' ∧ H' D = some (.lst (natsV (((List.range ms.length).take j).filter fun z => leI ms x z && leI ms y z)))) ?_ ?_ ?_⟩
    · exact ⟨same_upd nD, upd_same⟩
    · rintro j H' hj ⟨sm, hD⟩
      rw [lr, Int.toNat_natCast] at hj
      have hz : (List.range ms.length)[j]? = some j := by rw [List.getElem?_range hj]
      obtain ⟨a1, a2, a3⟩ := row_ix hx hj l16
      obtain ⟨b1, b2, b3⟩ := row_ix hy hj l16
      have ej : (0 : Int) + (j : Nat) = ((j : Nat) : Int) := by omega
      rw [ej]
      refine ⟨rfl, _, rfl, _, rfl, r, _, _, _, rfl, rfl, sm.seq hr0, a1, _, rfl, _, _, _, rfl, rfl, a2, a3, rfl, _, rfl, ?_⟩
      rw [one_dec]
      have fa := filt_add (p := fun z => leI ms x z && leI ms y z) hz
      have lf : (natsV (((List.range ms.length).take j).filter fun z => leI ms x z && leI ms y z)).length ≤ 16 := by
        rw [nats_len]
        refine Nat.le_trans (List.length_filter_le _ _) ?_
        rw [List.length_take, List.length_range]
        omega
      cases e1 : leI ms x j with
      | false =>
        refine iteF (iteF ⟨sm, ?_⟩)
        rw [fa, hD, e1]
        simp
      | true =>
        refine iteT ⟨_, rfl, _, rfl, r, _, _, _, rfl, rfl, sm.seq hr0, b1, _, rfl, _, _, _, rfl, rfl, b2, b3, rfl, _, rfl, ?_⟩
        rw [one_dec]
        cases e2 : leI ms y j with
        | false =>
          refine iteF ⟨sm, ?_⟩
          rw [fa, hD, e1, e2]
          simp
        | true =>
          refine iteT ⟨_, rfl, _, hD, small1000 (by omega), fun c o e => ?_, ?_⟩
          · rw [upd_ne (ne_of_none e nD)]; exact sm _ _ e
          · rw [upd_same, fa, e1, e2]
            unfold natsV
            simp
    rintro H1 ⟨s1, hD1⟩
    rw [lr, Int.toNat_natCast, show (List.range ms.length).take ms.length = List.range ms.length from List.take_of_length_le (by rw [List.length_range]; exact Nat.le_refl _)] at hD1
    change H1 D = some (.lst (natsV (upL ms x y))) at hD1
    have lL : (upL ms x y).length ≤ 16 := by
      unfold upL
      refine Nat.le_trans (List.length_filter_le _ _) ?_
      rw [List.length_range]; exact l16
    refine ⟨_, rfl, D, rfl, ⟨_, SqL.of hD1⟩, fun D2 nD2 => lc_list (xs := natsV (upL ms x y)) (fun j H' => Same H1 H' ∧ H' D2 = some (.lst (natsV (((upL ms x y).take j).filter fun z => (upL ms x y).all fun w => leI ms z w)))) ?_ ?_ ?_ ?_⟩
    · exact ⟨same_upd nD2, upd_same⟩
    · rintro j H' _ ⟨sm, _⟩
      exact SqL.of (sm _ _ hD1)
    · rintro j v H' hv ⟨sm, hD2⟩
      obtain ⟨z, hz, rfl⟩ := nats_get hv
      have zn : z < ms.length := (mem_upL.mp (List.mem_of_getElem? hz)).1
      have fa := filt_add (p := fun z => (upL ms x y).all fun w => leI ms z w) hz
      refine ⟨rfl, _, rfl, D, rfl, ⟨_, SqL.of (sm _ _ hD1)⟩, fun D3 nD3 => lc_list (xs := natsV (upL ms x y)) (fun i H3 => Same H' H3 ∧ H3 D3 = some (.lst (((upL ms x y).take i).map fun w => V.bl (leI ms z w)))) ?_ ?_ ?_ ?_⟩
      · exact ⟨same_upd nD3, upd_same⟩
      · rintro i H3 _ ⟨sm3, _⟩
        exact SqL.of ((sm.trans sm3) _ _ hD1)
      · rintro i u H3 hu ⟨sm3, hD3⟩
        obtain ⟨w, hw, rfl⟩ := nats_get hu
        have wn : w < ms.length := (mem_upL.mp (List.mem_of_getElem? hw)).1
        obtain ⟨a1, a2, a3⟩ := row_ix zn wn l16
        refine ⟨rfl, yes_it ⟨_, rfl, _, rfl, r, _, _, _, rfl, rfl, (s1.trans (sm.trans sm3)).seq hr0, a1, _, rfl, _, _, _, rfl, rfl, a2, a3, rfl, _, hD3, small1000 (by rw [List.length_map, List.length_take]; omega), fun c o e => ?_, ?_⟩⟩
        · rw [upd_ne (ne_of_none e nD3)]; exact sm3 _ _ e
        · rw [upd_same, List.take_add_one, hw, List.map_append, one_dec]; rfl
      · rintro H3 ⟨sm3, hD3⟩
        rw [nats_len, List.take_length] at hD3
        have eb : ((upL ms x y).map fun w => V.bl (leI ms z w)) = ((upL ms x y).map fun w => leI ms z w).map V.bl := by rw [List.map_map]; rfl
        rw [eb] at hD3
        refine ⟨D3, _, rfl, SqL.of hD3, _, rfl, ?_⟩
        have ea : ((upL ms x y).map fun w => leI ms z w).all id = (upL ms x y).all fun w => leI ms z w := by rw [List.all_map]; rfl
        rw [ea]
        have sm4 := sm.trans sm3
        have lf : (natsV (((upL ms x y).take j).filter fun z => (upL ms x y).all fun w => leI ms z w)).length ≤ 16 := by
          rw [nats_len]
          refine Nat.le_trans (List.length_filter_le _ _) ?_
          rw [List.length_take]
          omega
        cases e1 : (upL ms x y).all fun w => leI ms z w with
        | false =>
          refine iteF ⟨sm4, ?_⟩
          rw [fa, sm3 _ _ hD2, e1]
          simp
        | true =>
          refine iteT ⟨_, rfl, _, sm3 _ _ hD2, small1000 (by omega), fun c o e => ?_, ?_⟩
          · rw [upd_ne (ne_of_none e nD2)]; exact sm4 _ _ e
          · rw [upd_same, fa, e1]
            unfold natsV
            simp
    · rintro H2 ⟨s2, hD2⟩
      rw [nats_len, List.take_length] at hD2
      change H2 D2 = some (.lst (natsV (upM ms x y))) at hD2
      obtain ⟨_, rr, er⟩ := up_cons Fm hx hy
      rw [er] at hD2
      exact ⟨D2, _, _, _, rfl, rfl, SqL.of hD2, at0, good H2 (s1.trans s2)⟩
theorem ok_tables {f : Addr} {fd : FuncData} {k : Nat} (F : Fun K "_law_tables" "_law_tables" s_law_tables f fd) (m_len : mg "len" = none) (m_list : mg "list" = none) (m_range : mg "range" = none)
    (C_law_low : Own P w K mg base k "_law_low" ["_law_rows_here", "_law_x", "_law_y"] (spLow K lowI)) (C_law_up : Own P w K mg base k "_law_up" ["_law_rows_here", "_law_x", "_law_y"] (spLow K upI)) :
    FnOk P w K mg base CX0 (k + 1) f fd ["_law_rows_here"] (spTables K) := by
  refine F.ok sc_law_tables (fun vs H Q E h => ?_) (fun cdv A outer s H vs Q E hr h => ?_)
  · obtain ⟨r, ms, rfl, _⟩ := h
    rfl
  · obtain ⟨r, ms, rfl, hr0, Fm, good⟩ := h
    have l16 := Fm.ln
    have lr := rows_len ms
    refine ⟨_, (pss_cons (ps_set (i := 1) sc_law_tables.nd rfl (by first | exact .inl rfl | exact .inr rfl) (pe_listRg rfl (by rfl) m_list (prg_1 (by rfl) m_range (pe_callB call_len_seq (by rfl) m_len (by decide +kernel) (pa_cons (pv 0) pa_nil)))))
      (pss_cons (ps_setLc (i := 2) (own := [("_law_x", 4)]) (g := gName 4) (by rfl) sc_law_tables.nd rfl rfl (sw_true rfl rfl rfl (by decide +kernel)) (pi_listK (K := K) rfl (pv 1)) (blkOk_by (own := [("_law_x", 4)]) (N := N_law_tables) (sc := defScope s_law_tables) (by decide +kernel)) (fun _ _ _ _ _ => pg_name (i := 4) sc_law_tables.nd rfl (Or.inr rfl)) (fun _ _ _ _ _ => pts_nil) (fun _ _ _ _ _ => (pe_lc (own := [("_law_y", 3)]) (g := gName 3) (by rfl) sc_law_tables.nd (pi_listK (K := K) rfl (pv 1)) (blkOk_by (own := [("_law_y", 3)]) (N := N_law_tables) (by exact rfl)) (fun _ _ _ _ _ => pg_name (i := 3) sc_law_tables.nd rfl (Or.inl rfl)) (fun _ _ _ _ _ => pts_nil) (fun _ _ _ _ _ => (pe_own C_law_low (hr.mono (by omega)) (by rfl) (pa_cons (pv 0) (pa_cons (pv 4) (pa_cons (pv 3) pa_nil))))))))
      (pss_one (ps_ret (pe_tup (pa_cons (pv 2) (pa_cons (pe_lc (own := [("_law_x", 4)]) (g := gName 4) (by rfl) sc_law_tables.nd (pi_listK (K := K) rfl (pv 1)) (blkOk_by (own := [("_law_x", 4)]) (N := N_law_tables) (sc := defScope s_law_tables) (by decide +kernel)) (fun _ _ _ _ _ => pg_name (i := 4) sc_law_tables.nd rfl (Or.inr rfl)) (fun _ _ _ _ _ => pts_nil) (fun _ _ _ _ _ => (pe_lc (own := [("_law_y", 3)]) (g := gName 3) (by rfl) sc_law_tables.nd (pi_listK (K := K) rfl (pv 1)) (blkOk_by (own := [("_law_y", 3)]) (N := N_law_tables) (by exact rfl)) (fun _ _ _ _ _ => pg_name (i := 3) sc_law_tables.nd rfl (Or.inl rfl)) (fun _ _ _ _ _ => pts_nil) (fun _ _ _ _ _ => (pe_own C_law_up (hr.mono (by omega)) (by rfl) (pa_cons (pv 0) (pa_cons (pv 4) (pa_cons (pv 3) pa_nil)))))))) pa_nil))))))), ?_⟩
    refine ⟨_, rfl, r, _, rfl, .inl hr0, _, rfl, (by rw [lr]; exact RgOk.of_le (by decide) (by omega) (by decide) (by omega)), fun ev nev => ?_⟩
    rw [lr, rgV_nats]
    have s1 := same_upd (o := .lst (natsV (List.range ms.length))) nev
    have hev1 : upd H ev (.lst (natsV (List.range ms.length))) ev = some (.lst (natsV (List.range ms.length))) := upd_same
    generalize upd H ev (.lst (natsV (List.range ms.length))) = H1 at s1 hev1
    refine ⟨_, rfl, ev, rfl, ⟨_, SqL.of hev1⟩, fun D1 nD1 => lc_list (xs := natsV (List.range ms.length)) (fun j H' => Same H1 H' ∧ ∃ as : List Addr, as.length = j ∧ Rws H H' D1 ms.length (lowI ms) as) ?_ ?_ ?_ ?_⟩
    · exact ⟨same_upd nD1, [], rfl, ⟨upd_same, fun i a e => (by cases e)⟩⟩
    · rintro j H' _ ⟨sm, _⟩
      exact SqL.of (sm _ _ hev1)
    · rintro j v H' hv ⟨sm, as, la, hR⟩
      obtain ⟨x, hx, rfl⟩ := nats_get hv
      have xn : x < ms.length := List.mem_range.mp (List.mem_of_getElem? hx)
      have jx : x = j := by
        rw [List.getElem?_range (by have := (List.getElem?_eq_some_iff.mp hx).1; rw [List.length_range] at this; exact this)] at hx
        exact (Option.some.inj hx).symm
      refine ⟨rfl, yes_it ⟨_, rfl, ev, rfl, ⟨_, SqL.of (sm _ _ hev1)⟩, fun D2 nD2 => lc_list (xs := natsV (List.range ms.length)) (fun i H3 => Same H' H3 ∧ H3 D2 = some (.lst (natsV (((List.range ms.length).take i).map (lowI ms j))))) ?_ ?_ ?_ ?_⟩⟩
      · exact ⟨same_upd nD2, upd_same⟩
      · rintro i H3 _ ⟨sm3, _⟩
        exact SqL.of ((sm.trans sm3) _ _ hev1)
      · rintro i u H3 hu ⟨sm3, hD3⟩
        obtain ⟨y, hy, rfl⟩ := nats_get hu
        have yn : y < ms.length := List.mem_range.mp (List.mem_of_getElem? hy)
        refine ⟨rfl, yes_it ⟨_, rfl, _, rfl, _, rfl, r, ms, x, y, rfl, (s1.trans (sm.trans sm3)).seq hr0, Fm, xn, yn, fun H4 s4 => ⟨_, s4 _ _ hD3, small1000 (by rw [nats_len, List.length_map, List.length_take, List.length_range]; omega), fun c o e => ?_, ?_⟩⟩⟩
        · rw [upd_ne (ne_of_none e nD2)]; exact s4 _ _ (sm3 _ _ e)
        · rw [upd_same, List.take_add_one, hy, List.map_append, jx]
          unfold natsV
          rw [List.map_append]
          rfl
      · rintro H3 ⟨sm3, hD3⟩
        rw [nats_len, List.length_range, show (List.range ms.length).take ms.length = List.range ms.length from List.take_of_length_le (by rw [List.length_range]; exact Nat.le_refl _)] at hD3
        have hR3 := hR.same sm3
        have ne2 : D2 ≠ D1 := fun z => by rw [z, hR.at_] at nD2; cases nD2
        have jn : j < ms.length := by rw [← jx]; exact xn
        refine ⟨_, hR3.at_, small1000 (by rw [List.length_map]; omega), fun c o e => ?_, as ++ [D2], by rw [List.length_append, List.length_singleton, la], hR3.put (by rw [la]; exact hD3) ne2 (Same.free (s1.trans sm) nD2)⟩
        rw [upd_ne (ne_of_none e nD1)]
        exact sm3 _ _ (sm _ _ e)
    · rintro H2 ⟨s12, as1, la1, hR1⟩
      rw [nats_len, List.length_range] at la1
      have s2 := s1.trans s12
      have hev2 := s12 _ _ hev1
      refine ⟨_, rfl, _, rfl, ev, rfl, ⟨_, SqL.of hev2⟩, fun D2 nD2 => lc_list (xs := natsV (List.range ms.length)) (fun j H' => Same H2 H' ∧ ∃ as : List Addr, as.length = j ∧ Rws H H' D2 ms.length (upI ms) as) ?_ ?_ ?_ ?_⟩
      · exact ⟨same_upd nD2, [], rfl, ⟨upd_same, fun i a e => (by cases e)⟩⟩
      · rintro j H' _ ⟨sm, _⟩
        exact SqL.of (sm _ _ hev2)
      · rintro j v H' hv ⟨sm, as, la, hR⟩
        obtain ⟨x, hx, rfl⟩ := nats_get hv
        have xn : x < ms.length := List.mem_range.mp (List.mem_of_getElem? hx)
        have jx : x = j := by
          rw [List.getElem?_range (by have := (List.getElem?_eq_some_iff.mp hx).1; rw [List.length_range] at this; exact this)] at hx
          exact (Option.some.inj hx).symm
        refine ⟨rfl, yes_it ⟨_, rfl, ev, rfl, ⟨_, SqL.of (sm _ _ hev2)⟩, fun D5 nD5 => lc_list (xs := natsV (List.range ms.length)) (fun i H3 => Same H' H3 ∧ H3 D5 = some (.lst (natsV (((List.range ms.length).take i).map (upI ms j))))) ?_ ?_ ?_ ?_⟩⟩
        · exact ⟨same_upd nD5, upd_same⟩
        · rintro i H3 _ ⟨sm3, _⟩
          exact SqL.of ((sm.trans sm3) _ _ hev2)
        · rintro i u H3 hu ⟨sm3, hD3⟩
          obtain ⟨y, hy, rfl⟩ := nats_get hu
          have yn : y < ms.length := List.mem_range.mp (List.mem_of_getElem? hy)
          refine ⟨rfl, yes_it ⟨_, rfl, _, rfl, _, rfl, r, ms, x, y, rfl, (s2.trans (sm.trans sm3)).seq hr0, Fm, xn, yn, fun H4 s4 => ⟨_, s4 _ _ hD3, small1000 (by rw [nats_len, List.length_map, List.length_take, List.length_range]; omega), fun c o e => ?_, ?_⟩⟩⟩
          · rw [upd_ne (ne_of_none e nD5)]; exact s4 _ _ (sm3 _ _ e)
          · rw [upd_same, List.take_add_one, hy, List.map_append, jx]
            unfold natsV
            rw [List.map_append]
            rfl
        · rintro H3 ⟨sm3, hD3⟩
          rw [nats_len, List.length_range, show (List.range ms.length).take ms.length = List.range ms.length from List.take_of_length_le (by rw [List.length_range]; exact Nat.le_refl _)] at hD3
          have hR3 := hR.same sm3
          have ne2 : D5 ≠ D2 := fun z => by rw [z, hR.at_] at nD5; cases nD5
          have jn : j < ms.length := by rw [← jx]; exact xn
          refine ⟨_, hR3.at_, small1000 (by rw [List.length_map]; omega), fun c o e => ?_, as ++ [D5], by rw [List.length_append, List.length_singleton, la], hR3.put (by rw [la]; exact hD3) ne2 (Same.free (s2.trans sm) nD5)⟩
          rw [upd_ne (ne_of_none e nD2)]
          exact sm3 _ _ (sm _ _ e)
      · rintro H3 ⟨s23, as2, la2, hR2⟩
        rw [nats_len, List.length_range] at la2
        refine ⟨(by show 2 ≤ sizeLine; decide), fun T nT => ?_⟩
        have sT := same_upd (o := .tup [.ref D1, .ref D2]) nT
        have s3 := s2.trans s23
        have nTH : H T = none := Same.free s3 nT
        refine good _ T (s3.trans sT) nTH (.tup (SqT.of (by rw [nw_at nTH]; exact upd_same)) (.cons ?_ (.cons ?_ .nil)))
        · exact ((hR1.same s23).same sT).dp (Same.free s1 nD1) la1
        · exact (hR2.same sT).dp (Same.free s2 nD2) la2
end
end Fv


namespace Fv
open PySem PySem.Spec PyProof.Rows L2 FvX FvW TL
-- top 70  slots: 0:_law_tables_here 1:_law_word 2:_law_places 3:_law_table 4:_law_found 5:_law_one
abbrev s_law_value : Stmt := topS 70
abbrev N_law_value : List Str := ["_law_tables_here", "_law_word", "_law_places", "_law_table", "_law_found", "_law_one"]
theorem sc_law_value : FnScope N_law_value ["_law_tables_here", "_law_word", "_law_places"] (defScope s_law_value) := ⟨rfl, rfl, rfl, by decide +kernel, rfl, by decide +kernel, by decide +kernel⟩

-- top 71  slots: 0:_law_tables_here 1:_law_lows 2:_law_ups 3:_law_every 4:_law_x 5:_law_y 6:_law_z 7:_law_whole
abbrev s_law_spreads : Stmt := topS 71
abbrev N_law_spreads : List Str := ["_law_tables_here", "_law_lows", "_law_ups", "_law_every", "_law_x", "_law_y", "_law_z", "_law_whole"]
theorem sc_law_spreads : FnScope N_law_spreads ["_law_tables_here"] (defScope s_law_spreads) := ⟨rfl, rfl, rfl, by decide +kernel, rfl, by decide +kernel, by decide +kernel⟩

-- top 72  slots: 0:_law_source_here 1:_law_signs_here 2:_law_rows_here 3:_law_sign
abbrev s_law_placed : Stmt := topS 72
abbrev N_law_placed : List Str := ["_law_source_here", "_law_signs_here", "_law_rows_here", "_law_sign"]
theorem sc_law_placed : FnScope N_law_placed ["_law_source_here", "_law_signs_here", "_law_rows_here"] (defScope s_law_placed) := ⟨rfl, rfl, rfl, by decide +kernel, rfl, by decide +kernel, by decide +kernel⟩

-- top 73  slots: 0:_law_rows_here 1:_law_tables_here 2:_law_left 3:_law_right 4:_law_places
abbrev s_law_keeps : Stmt := topS 73
abbrev N_law_keeps : List Str := ["_law_rows_here", "_law_tables_here", "_law_left", "_law_right", "_law_places"]
theorem sc_law_keeps : FnScope N_law_keeps ["_law_rows_here", "_law_tables_here", "_law_left", "_law_right", "_law_places"] (defScope s_law_keeps) := ⟨rfl, rfl, rfl, by decide +kernel, rfl, by decide +kernel, by decide +kernel⟩

theorem call_lenK {X : Cx} {K : PySem.W.Frag} (hK : X.K = K) : CallR X (.builtin "len") (fun xs H Q => ∃ p ys, xs = [.ref p] ∧ (SqL K H p ys ∨ SqT K H p ys) ∧ Q (.int (ys.length : Nat)) H) := by
  subst hK
  exact call_len_seq
/-! ### values -/
def isBr : PyData → Bool
  | .str s => decide (s = "|")
  | _ => false
def opI' (ms : List Nat) (b : Bool) : Nat → Nat → Nat := if b = true then upI ms else lowI ms
def vl (ms : List Nat) (pl : Str → Nat) : Nat → PyData → Nat
  | 0, _ => 0
  | _ + 1, .str x => pl x
  | n + 1, .tuple (o :: d :: ds) => (ds.map (vl ms pl n)).foldl (opI' ms (isBr o)) (vl ms pl n d)
  | _ + 1, _ => 0
/-- a letter of a term -/
def ltIn : Nat → PyData → Str → Prop
  | 0, _, _ => False
  | _ + 1, .str y, x => x = y
  | n + 1, .tuple (_ :: ds), x => ∃ d ∈ ds, ltIn n d x
  | _ + 1, _, _ => False
def plOf (kvs : List (Key × V)) (pl : Str → Nat) (N m : Nat) (d : PyData) : Prop := ∀ x, ltIn m d x → valV kvs (Sum.inr x) = some (.int (pl x : Nat)) ∧ pl x < N
theorem op_lt {ms : List Nat} (F : Fam ms) (b : Bool) {x y : Nat} (hx : x < ms.length) (hy : y < ms.length) : opI' ms b x y < ms.length := by
  unfold opI'
  cases b
  · exact (low_spec F hx hy).1
  · exact (up_spec F hx hy).1
theorem fold_lt {ms : List Nat} (F : Fam ms) (b : Bool) : ∀ (l : List Nat) (x : Nat), x < ms.length → (∀ y ∈ l, y < ms.length) → l.foldl (opI' ms b) x < ms.length
  | [], x, hx, _ => hx
  | y :: l, x, hx, h => fold_lt F b l _ (op_lt F b hx (h y List.mem_cons_self)) fun z hz => h z (List.mem_cons_of_mem _ hz)
theorem vl_lt {ms : List Nat} (F : Fam ms) {pl : Str → Nat} : ∀ (m : Nat) (d : PyData), 1 ≤ lmeas m d → (∀ x, ltIn m d x → pl x < ms.length) → vl ms pl m d < ms.length
  | 0, d, h, _ => by simp only [lmeas] at h; omega
  | m + 1, d, h, hp => by
    rcases lmeas_inv h with ⟨x, rfl, hx⟩ | ⟨o, ds, rfl, nl, ho, h2, all1, e⟩
    · exact hp x rfl
    · match ds, h2, all1, hp with
      | d0 :: ds, h2, all1, hp =>
        refine fold_lt F _ _ _ (vl_lt F m d0 (all1 d0 List.mem_cons_self) fun x hx => hp x ⟨d0, List.mem_cons_self, hx⟩) fun y hy => ?_
        obtain ⟨d', hd', rfl⟩ := List.mem_map.mp hy
        exact vl_lt F m d' (all1 d' (List.mem_cons_of_mem _ hd')) fun x hx => hp x ⟨d', List.mem_cons_of_mem _ hd', hx⟩
theorem br_dec (o : Str) : decide (V.str o = V.str "|") = isBr (.str o) := by
  show _ = decide (o = "|")
  rw [Bool.eq_iff_iff, decide_eq_true_eq, decide_eq_true_eq]
  exact ⟨V.str.inj, congrArg V.str⟩
theorem dpAll_getD {K : PySem.W.Frag} {H : Hp} : ∀ {vs : List V} {ds : List PyData} {i : Nat} {d : PyData}, DpAll K H vs ds → ds[i]? = some d → ∃ v, vs[i]? = some v ∧ Dp K H v d
  | _, _, _, _, .nil, e => by simp at e
  | _, _, 0, _, .cons h _, e => by simp at e; subst e; exact ⟨_, rfl, h⟩
  | _ :: vs, _ :: ds, i + 1, _, .cons _ h, e => by
    have e' : ds[i]? = some _ := e
    obtain ⟨v, hv, hD⟩ := dpAll_getD (vs := vs) (ds := ds) h e'
    exact ⟨v, hv, hD⟩
/-- the tables of a board -/
theorem tabs_inv {K : PySem.W.Frag} {H : Hp} {v : V} {ms : List Nat} (h : Dp K H v (tabsD ms)) : ∃ T lo up, v = .ref T ∧ SqT K H T [.ref lo, .ref up] ∧ Dp K H (.ref lo) (tabD ms.length (lowI ms)) ∧ Dp K H (.ref up) (tabD ms.length (upI ms)) := by
  cases h with
  | tup hs ha => cases ha with
    | cons h1 ha => cases ha with
      | cons h2 ha =>
        cases ha
        cases h1 with
        | lst a b => cases h2 with
          | lst c d => exact ⟨_, _, _, rfl, hs, .lst a b, .lst c d⟩
theorem tab_ix {K : PySem.W.Frag} {H : Hp} {ta : Addr} {n x : Nat} {g : Nat → Nat → Nat} (h : Dp K H (.ref ta) (tabD n g)) (hx : x < n) : ∃ xs b, SqL K H ta xs ∧ xs.length = n ∧ atI xs ((x : Nat) : Int) = some (.ref b) ∧ Dp K H (.ref b) (rowD n (g x)) := by
  cases h with
  | lst hs ha =>
    have hd : ((List.range n).map fun x => rowD n (g x))[x]? = some (rowD n (g x)) := by rw [List.getElem?_map, List.getElem?_range hx]; rfl
    obtain ⟨v, hv, hD⟩ := dpAll_getD ha hd
    have hl := dpAll_len ha
    rw [List.length_map, List.length_range] at hl
    have hD' := hD
    cases hD with
    | lst a b => exact ⟨_, _, hs, hl, atI_nat hv, hD'⟩
theorem row_ix' {K : PySem.W.Frag} {H : Hp} {b : Addr} {n y : Nat} {g : Nat → Nat} (h : Dp K H (.ref b) (rowD n g)) (hy : y < n) : ∃ ys, SqL K H b ys ∧ atI ys ((y : Nat) : Int) = some (.int (g y : Nat)) := by
  cases h with
  | lst hs ha =>
    have hd : ((List.range n).map fun y => PyData.int (g y : Nat))[y]? = some (.int (g y : Nat)) := by rw [List.getElem?_map, List.getElem?_range hy]; rfl
    obtain ⟨v, hv, hD⟩ := dpAll_getD ha hd
    cases hD
    exact ⟨_, hs, atI_nat hv⟩
theorem Src.lst0 {H : Hp} {a L : Addr} {ns : List Int} (h : Src H a L ns) : ∀ b ∈ [a], ∃ xs, H b = some (.lst xs) := fun b hb => by
  obtain ⟨_, _, _, _, e, _⟩ := h
  rw [List.mem_singleton.mp hb]
  exact ⟨_, e⟩
theorem cut_drop2 (xs : List V) : cutV xs (some 2) none = xs.drop 2 := by
  unfold cutV
  rw [show HT.sIx xs.length 0 (some 2) = min 2 xs.length from HT.sIx_nat xs.length 0 2, HT.sIx_none]
  match xs with
  | [] => rfl
  | [a] => rfl
  | a :: b :: r =>
    rw [show min 2 (a :: b :: r).length = 2 by simp only [List.length_cons]; omega]
    exact List.take_of_length_le (by simp)
def kvI (ps : List (Str × Nat)) : List (Key × V) := ps.map fun p => (Sum.inr p.1, V.int (p.2 : Nat))
def spVal (K : PySem.W.Frag) (n : Nat) : Sp := fun vs H Q _ => ∃ (vt v : V) (c : Addr) (d : PyData) (m : Nat) (kvs : List (Key × V)) (pl : Str → Nat) (ms : List Nat), vs = [vt, v, .ref c] ∧ Dp K H vt (tabsD ms) ∧ Fam ms ∧ Dp K H v d ∧ m < n ∧ 1 ≤ lmeas m d ∧ H c = some (.dK kvs) ∧ plOf kvs pl ms.length m d ∧
  ∀ H', Same H H' → Q (.int (vl ms pl m d : Nat)) H'
def spSpr (K : PySem.W.Frag) : Sp := fun vs H Q _ => ∃ (vt : V) (ms : List Nat), vs = [vt] ∧ Dp K H vt (tabsD ms) ∧ Fam ms ∧ ∀ (H' : Hp) (b : Bool), Same H H' → (b = true ↔ Spr ms) → Q (.bl b) H'
def spKeeps (K : PySem.W.Frag) : Sp := fun vs H Q _ => ∃ (r c : Addr) (vt v1 v2 : V) (d1 d2 : PyData) (kvs : List (Key × V)) (pl : Str → Nat) (ms : List Nat), vs = [.ref r, vt, v1, v2, .ref c] ∧ SqL K H r ((rowsOf ms).map V.str) ∧ Dp K H vt (tabsD ms) ∧ Fam ms ∧ Dp K H v1 d1 ∧ Dp K H v2 d2 ∧ 1 ≤ lmeas 5 d1 ∧ 1 ≤ lmeas 5 d2 ∧ H c = some (.dK kvs) ∧ plOf kvs pl ms.length 5 d1 ∧ plOf kvs pl ms.length 5 d2 ∧
  ∀ H', Same H H' → Q (.bl (leI ms (vl ms pl 5 d1) (vl ms pl 5 d2))) H'
def spPlaced (K : PySem.W.Frag) : Sp := fun vs H Q _ => ∃ (a L sg r : Addr) (ns : List Int) (ss : List Str) (xs : List V), vs = [.ref a, .ref sg, .ref r] ∧ Src H a L ns ∧ H sg = some (.lst (ss.map V.str)) ∧ sg ≠ a ∧ ss.Nodup ∧ ss.length ≤ 8 ∧ H r = some (.lst xs) ∧ r ≠ a ∧ 1 ≤ xs.length ∧ xs.length ≤ 60 ∧
  ∀ (H' : Hp) (c : Addr) (ps : List (Str × Nat)), ps.map (·.1) = ss → (∀ p ∈ ps, p.2 < xs.length) → H c = none → H' c = some (.dK (kvI ps)) → Src H' a L ns → SmX [a] H H' → Q (.ref c) H'
theorem kvI_nodup {ps : List (Str × Nat)} (h : (ps.map (·.1)).Nodup) : ((kvI ps).map (·.1)).Nodup := by
  unfold kvI
  rw [List.map_map]
  have e : ps.map ((fun x : Key × V => x.1) ∘ fun p : Str × Nat => (Sum.inr p.1, V.int (p.2 : Nat))) = (ps.map (·.1)).map (fun x => (Sum.inr x : Key)) := by
    rw [List.map_map]; rfl
  rw [e]
  exact List.Pairwise.map _ (fun a b hab z => hab (Sum.inr.inj z)) h
theorem merge_kvI {ps : List (Str × Nat)} (h : (ps.map (·.1)).Nodup) : mergeK [] (kvI ps) = kvI ps := by
  rw [merge_app _ _ (by rw [List.nil_append]; exact kvI_nodup h), List.nil_append]
def plI (ps : List (Str × Nat)) (x : Str) : Nat := ((ps.find? fun p => decide (p.1 = x)).map (·.2)).getD 0
theorem val_kvI : ∀ (ps : List (Str × Nat)) (x : Str), x ∈ ps.map (·.1) → valV (kvI ps) (Sum.inr x) = some (.int (plI ps x : Nat)) ∧ ∃ p ∈ ps, plI ps x = p.2
  | [], x, h => by cases h
  | p :: ps, x, h => by
    by_cases e : p.1 = x
    · refine ⟨?_, p, List.mem_cons_self, ?_⟩
      · unfold valV kvI plI
        rw [List.map_cons, List.find?_cons, List.find?_cons, show decide ((Sum.inr p.1 : Key) = Sum.inr x) = true from decide_eq_true (congrArg _ e), decide_eq_true e]
        rfl
      · unfold plI
        rw [List.find?_cons, decide_eq_true e]
        rfl
    · have h' : x ∈ ps.map (·.1) := by
        rcases List.mem_cons.mp h with z | z
        · exact absurd z.symm e
        · exact z
      obtain ⟨a, q, hq, b⟩ := val_kvI ps x h'
      have e2 : plI (p :: ps) x = plI ps x := by
        unfold plI
        rw [List.find?_cons, decide_eq_false e]
      refine ⟨?_, q, List.mem_cons_of_mem _ hq, by rw [e2]; exact b⟩
      rw [e2, ← a]
      unfold valV kvI
      rw [List.map_cons, List.find?_cons, show decide ((Sum.inr p.1 : Key) = Sum.inr x) = false from decide_eq_false (fun z => e (Sum.inr.inj z))]
theorem bl_int {lo up : Addr} (b : Bool) : atI ([.ref lo, .ref up] : List V) (if b = true then (1 : Int) else 0) = some (.ref (if b = true then up else lo)) := by
  cases b
  · exact at0
  · exact atI_nat (j := 1) rfl
section
variable {P : Program} {w : World} {K : PySem.W.Frag} {mg : Str → Option Value} {base : Heap}
theorem val_zero {f : Addr} {fd : FuncData} {k : Nat} {ps : List Str} : FnOk P w K mg base CX0 k f fd ps (spVal K 0) := by
  have no : ∀ vs H Q E, ¬ spVal K 0 vs H Q E := fun vs H Q E h => by
    obtain ⟨_, _, _, _, _, _, _, _, _, _, _, _, h, _⟩ := h
    omega
  exact ⟨fun vs H Q E h => absurd h (no vs H Q E), fun A outer s H args us vs Q E _ _ _ _ h => absurd h (no vs H Q E)⟩
theorem ok_value {f : Addr} {fd : FuncData} {k n : Nat} (F : Fun K "_law_value" "_law_value" s_law_value f fd) (m_isinstance : mg "isinstance" = none) (m_str : mg "str" = none) (m_int : mg "int" = none)
    (C_law_value : Own P w K mg base k "_law_value" ["_law_tables_here", "_law_word", "_law_places"] (spVal K n)) :
    FnOk P w K mg base CX0 (k + 1) f fd ["_law_tables_here", "_law_word", "_law_places"] (spVal K (n + 1)) := by
  refine F.ok sc_law_value (fun vs H Q E h => ?_) (fun cdv A outer s H vs Q E hr h => ?_)
  · obtain ⟨vt, v, c, d, m, kvs, pl, ms, rfl, _⟩ := h
    rfl
  · obtain ⟨vt, v, c, d, m, kvs, pl, ms, rfl, ht, Fm, hd, hm, l1, hc, hpl, good⟩ := h
    refine ⟨_, (pss_cons (ps_if (pt_val (pe_isD (T := "str") (by rfl) m_isinstance (by rfl) m_str (pv 1)))
        (pss_one (ps_ret (pe_dget (hu_of hr) (pv 2) (pv 1) (fun _ _ => rfl))))
        pss_nil)
      (pss_cons (ps_set (i := 3) sc_law_value.nd rfl (by first | exact .inl rfl | exact .inr rfl) (pe_ix ix_tup (pv 0) (pe_callTy call_int1 (by rfl) m_int (by decide +kernel) (pa_cons (pe_cmpR op_eq (pe_ix ix_tup (pv 1) pe_int (fun _ _ => rfl)) pe_str (nomark _)) pa_nil)) (fun _ _ => rfl)))
      (pss_cons (ps_set (i := 4) sc_law_value.nd rfl (by first | exact .inl rfl | exact .inr rfl) (pe_own C_law_value (hr.mono (by omega)) (by rfl) (pa_cons (pv 0) (pa_cons (pe_ix ix_tup (pv 1) pe_int (fun _ _ => rfl)) (pa_cons (pv 2) pa_nil)))))
      (pss_cons (ps_for PassesOwn.never rfl (pi_tup (pe_slice sl_tup (pv 1) (po_some pe_int) po_none)) (pg_name (i := 5) sc_law_value.nd rfl (by first | exact .inl rfl | exact .inr rfl))
        (pss_one (ps_set (i := 4) sc_law_value.nd rfl (by first | exact .inl rfl | exact .inr rfl) (pe_ix ix_list (pe_ix ix_list (pv 3) (pv 4) (fun _ _ => rfl)) (pe_own C_law_value (hr.mono (by omega)) (by rfl) (pa_cons (pv 0) (pa_cons (pv 5) (pa_cons (pv 2) pa_nil)))) (fun _ _ => rfl)))))
      (pss_one (ps_ret (pv 4))))))), ?_⟩
    cases m with
    | zero => simp only [lmeas] at l1; omega
    | succ m =>
    refine ⟨_, rfl, _, _, d, rfl, by decide, hd, _, rfl, ?_⟩
    rcases lmeas_inv l1 with ⟨x, rfl, hx⟩ | ⟨o, ds, rfl, nl, ho, h2, all1, e⟩
    · cases hd
      refine iteT ⟨_, rfl, _, rfl, c, .int (pl x : Nat), rfl, ?_, good H (Same.refl H)⟩
      have z := DGet.k (k := Sum.inr x) hc
      rw [(hpl x rfl).1] at z
      exact z
    · match ds, h2, all1, hpl, good, hd with
      | d0 :: ds, h2, all1, hpl, good, hd =>
      refine iteF ?_
      obtain ⟨T, lo, up, rfl, hsT, hlo, hup⟩ := tabs_inv ht
      cases hd with
      | @tup a xs _ hs ha =>
      cases ha with
      | @cons x0 xr _ _ h1 hA =>
      cases h1
      cases hA with
      | @cons x1 xr _ _ h1 hA =>
      have lx := dpAll_len hA
      refine ⟨_, rfl, _, rfl, a, _, _, _, rfl, rfl, hs, at0, rfl, .inr ⟨_, rfl, T, _, _, _, rfl, rfl, hsT, bl_int _, ?_⟩⟩
      rw [br_dec]
      have gd2 : ∀ H', Same H H' → Q (.int (((ds.map (vl ms pl m)).foldl (opI' ms (isBr (.str o))) (vl ms pl m d0) : Nat) : Int)) H' := good
      generalize isBr (.str o) = b at gd2
      have htb : Dp K H (.ref (if b = true then up else lo)) (tabD ms.length (opI' ms b)) := by
        cases b
        · exact hlo
        · exact hup
      generalize (if b = true then up else lo) = tb at htb
      have p0 : plOf kvs pl ms.length m d0 := fun x hx => hpl x ⟨d0, List.mem_cons_self, hx⟩
      have pr : ∀ d' ∈ ds, plOf kvs pl ms.length m d' := fun d' hd' x hx => hpl x ⟨d', List.mem_cons_of_mem _ hd', hx⟩
      have v0 : vl ms pl m d0 < ms.length := vl_lt Fm m d0 (all1 d0 List.mem_cons_self) fun x hx => (p0 x hx).2
      have vr : ∀ d' ∈ ds, vl ms pl m d' < ms.length := fun d' hd' => vl_lt Fm m d' (all1 d' (List.mem_cons_of_mem _ hd')) fun x hx => (pr d' hd' x hx).2
      refine ⟨_, rfl, _, rfl, a, _, _, _, rfl, rfl, hs, atI_nat (j := 1) rfl, _, rfl, .ref T, x1, c, d0, m, kvs, pl, ms, rfl, ht, Fm, h1, by omega, all1 d0 List.mem_cons_self, hc, p0, fun H1 s1 => ?_⟩
      refine ⟨_, rfl, 2, rfl, a, _, rfl, same_seqT s1 hs, ?_, fun p np => ?_⟩
      · rw [show HT.sIx (V.str o :: x1 :: xr).length 0 (some 2) = min 2 (V.str o :: x1 :: xr).length from HT.sIx_nat _ 0 2, List.length_cons, List.length_cons]
        omega
      have ex : cutV (V.str o :: x1 :: xr) (some 2) none = xr := by
        rw [cut_drop2]; rfl
      rw [ex]
      have sp := same_upd (o := .tup xr) np
      have hp : upd H1 p (.tup xr) p = some (.tup xr) := upd_same
      have s2 := s1.trans sp
      generalize upd H1 p (.tup xr) = H2 at sp hp s2
      refine ⟨p, rfl, ⟨_, SqT.of hp⟩, for_tup (xs := xr) (fun i σ H3 => ∃ y5 : Option V, σ = [some (.ref T), some (.ref a), some (.ref c), some (.ref tb), some (.int (((((ds.take i).map (vl ms pl m)).foldl (opI' ms b) (vl ms pl m d0)) : Nat) : Int)), y5] ∧ Same H2 H3) ?_ ?_ ?_ ?_⟩
      · exact ⟨_, rfl, Same.refl _⟩
      · rintro i σ H3 _ ⟨y5, rfl, sm⟩
        exact SqT.of (sm _ _ hp)
      · rintro i x σ H3 hx ⟨y5, rfl, sm⟩
        obtain ⟨d', hd', hD'⟩ := dpAll_get hA hx
        have md : d' ∈ ds := List.mem_of_getElem? hd'
        have s3 := s2.trans sm
        have ft : ((ds.take i).map (vl ms pl m)).foldl (opI' ms b) (vl ms pl m d0) < ms.length := fold_lt Fm b _ _ v0 fun y hy => by
          obtain ⟨d2, hd2, rfl⟩ := List.mem_map.mp hy
          exact vr d2 (List.mem_of_mem_take hd2)
        obtain ⟨xs, rb, q1, q2, q3, q4⟩ := tab_ix (dp_same s3 _ _ htb) ft
        refine ⟨_, rfl, _, rfl, tb, _, _, _, rfl, rfl, q1, q3, _, rfl, _, rfl, _, rfl, .ref T, x, c, d', m, kvs, pl, ms, rfl, dp_same s3 _ _ ht, Fm, dp_same s3 _ _ hD', by omega, all1 d' (List.mem_cons_of_mem _ md), s3 _ _ hc, pr d' md, fun H4 s4 => ?_⟩
        obtain ⟨ys, r1, r2⟩ := row_ix' (dp_same s4 _ _ q4) (vr d' md)
        refine ⟨rb, _, _, _, rfl, rfl, r1, r2, some x, ?_, sm.trans s4⟩
        rw [List.take_add_one, hd', List.map_append, List.foldl_append]
        rfl
      · rintro σ H3 ⟨y5, rfl, sm⟩
        rw [lx, List.take_length]
        exact ⟨_, rfl, gd2 H3 (s2.trans sm)⟩
theorem ok_keepsB {f : Addr} {fd : FuncData} {k : Nat} (F : Fun K "_law_keeps" "_law_keeps" s_law_keeps f fd)
    (C_law_value : Own P w K mg base k "_law_value" ["_law_tables_here", "_law_word", "_law_places"] (spVal K 6)) :
    FnOk P w K mg base CX0 (k + 1) f fd ["_law_rows_here", "_law_tables_here", "_law_left", "_law_right", "_law_places"] (spKeeps K) := by
  refine F.ok sc_law_keeps (fun vs H Q E h => ?_) (fun cdv A outer s H vs Q E hr h => ?_)
  · obtain ⟨r, c, vt, v1, v2, d1, d2, kvs, pl, ms, rfl, _⟩ := h
    rfl
  · obtain ⟨r, c, vt, v1, v2, d1, d2, kvs, pl, ms, rfl, hr0, ht, Fm, h1, h2, l1, l2, hc, p1, p2, good⟩ := h
    refine ⟨_, (pss_one (ps_ret (pe_cmpR op_eq (pe_ix ix_str (pe_ix ix_list (pv 0) (pe_own C_law_value (hr.mono (by omega)) (by rfl) (pa_cons (pv 1) (pa_cons (pv 2) (pa_cons (pv 4) pa_nil)))) (fun _ _ => rfl)) (pe_own C_law_value (hr.mono (by omega)) (by rfl) (pa_cons (pv 1) (pa_cons (pv 3) (pa_cons (pv 4) pa_nil)))) (fun _ _ => rfl)) pe_str (nomark _)))), ?_⟩
    have x1 := vl_lt Fm 5 d1 l1 fun x hx => (p1 x hx).2
    have x2 := vl_lt Fm 5 d2 l2 fun x hx => (p2 x hx).2
    obtain ⟨a1, a2, a3⟩ := row_ix x1 x2 Fm.ln
    refine ⟨_, rfl, _, rfl, _, rfl, _, rfl, vt, v1, c, d1, 5, kvs, pl, ms, rfl, ht, Fm, h1, by decide, l1, hc, p1, fun H1 s1 => ?_⟩
    refine ⟨r, _, _, _, rfl, rfl, s1.seq hr0, a1, _, rfl, _, rfl, _, rfl, vt, v2, c, d2, 5, kvs, pl, ms, rfl, dp_same s1 _ _ ht, Fm, dp_same s1 _ _ h2, by decide, l2, s1 _ _ hc, p2, fun H2 s2 => ?_⟩
    refine ⟨_, _, _, rfl, rfl, a2, a3, rfl, ?_⟩
    rw [one_dec]
    exact good H2 (s1.trans s2)
theorem ok_spreads {f : Addr} {fd : FuncData} {k : Nat} (F : Fun K "_law_spreads" "_law_spreads" s_law_spreads f fd) (m_len : mg "len" = none) (m_list : mg "list" = none) (m_range : mg "range" = none) :
    FnOk P w K mg base CX0 (k + 1) f fd ["_law_tables_here"] (spSpr K) := by
  refine F.ok sc_law_spreads (fun vs H Q E h => ?_) (fun cdv A outer s H vs Q E hr h => ?_)
  · obtain ⟨vt, ms, rfl, _⟩ := h
    rfl
  · obtain ⟨vt, ms, rfl, ht, Fm, good⟩ := h
    have l16 := Fm.ln
    refine ⟨_, (pss_cons (ps_asg (pv 0) (pg_tup rfl (pgs_cons (pg_name (i := 1) sc_law_spreads.nd rfl (by first | exact .inl rfl | exact .inr rfl)) (pgs_cons (pg_name (i := 2) sc_law_spreads.nd rfl (by first | exact .inl rfl | exact .inr rfl)) pgs_nil))))
      (pss_cons (ps_set (i := 3) sc_law_spreads.nd rfl (by first | exact .inl rfl | exact .inr rfl) (pe_listRg rfl (by rfl) m_list (prg_1 (by rfl) m_range (pe_callB call_len_seq (by rfl) m_len (by decide +kernel) (pa_cons (pv 1) pa_nil)))))
      (pss_cons (ps_for PassesOwn.never rfl (pi_list (pv 3)) (pg_name (i := 4) sc_law_spreads.nd rfl (by first | exact .inl rfl | exact .inr rfl))
        (pss_one (ps_for PassesOwn.never rfl (pi_list (pv 3)) (pg_name (i := 5) sc_law_spreads.nd rfl (by first | exact .inl rfl | exact .inr rfl))
          (pss_one (ps_for PassesOwn.never rfl (pi_list (pv 3)) (pg_name (i := 6) sc_law_spreads.nd rfl (by first | exact .inl rfl | exact .inr rfl))
            (pss_cons (ps_set (i := 7) sc_law_spreads.nd rfl (by first | exact .inl rfl | exact .inr rfl) (pe_ix ix_list (pe_ix ix_list (pv 2) (pe_ix ix_list (pe_ix ix_list (pv 1) (pv 4) (fun _ _ => rfl)) (pv 5) (fun _ _ => rfl)) (fun _ _ => rfl)) (pe_ix ix_list (pe_ix ix_list (pv 1) (pv 4) (fun _ _ => rfl)) (pv 6) (fun _ _ => rfl)) (fun _ _ => rfl)))
            (pss_one (ps_if (pt_cmpR op_ne (pe_ix ix_list (pe_ix ix_list (pv 1) (pv 4) (fun _ _ => rfl)) (pe_ix ix_list (pe_ix ix_list (pv 2) (pv 5) (fun _ _ => rfl)) (pv 6) (fun _ _ => rfl)) (fun _ _ => rfl)) (pv 7) (nomark _))
              (pss_one (ps_ret pe_bl))
              pss_nil))))))))
      (pss_one (ps_ret pe_bl))))), ?_⟩
    obtain ⟨T, lo, up, rfl, hsT, hlo, hup⟩ := tabs_inv ht
    refine ⟨_, rfl, T, _, rfl, hsT, rfl, _, _, rfl, _, _, rfl, rfl, ?_⟩
    obtain ⟨xs, hxs, lxs⟩ : ∃ xs, SqL K H lo xs ∧ xs.length = ms.length := by
      cases hlo with
      | lst hs ha =>
        have hl := dpAll_len ha
        rw [List.length_map, List.length_range] at hl
        exact ⟨_, hs, hl⟩
    refine ⟨_, rfl, lo, _, rfl, .inl hxs, _, rfl, (by rw [lxs]; exact RgOk.of_le (by decide) (by omega) (by decide) (by omega)), fun ev nev => ?_⟩
    rw [lxs, rgV_nats]
    have s1 := same_upd (o := .lst (natsV (List.range ms.length))) nev
    have hev1 : upd H ev (.lst (natsV (List.range ms.length))) ev = some (.lst (natsV (List.range ms.length))) := upd_same
    generalize upd H ev (.lst (natsV (List.range ms.length))) = H1 at s1 hev1
    have rg : ∀ {i : Nat} {v : V}, (natsV (List.range ms.length))[i]? = some v → i < ms.length ∧ v = .int (i : Nat) := fun {i v} h => by
      obtain ⟨a, ha, e⟩ := nats_get h
      have hi := (List.getElem?_eq_some_iff.mp ha).1
      rw [List.length_range] at hi
      rw [List.getElem?_range hi] at ha
      rw [Option.some.inj ha]
      exact ⟨by rw [← Option.some.inj ha]; exact hi, e⟩
    have ln : (natsV (List.range ms.length)).length = ms.length := by rw [nats_len, List.length_range]
    have hlo1 := dp_same s1 _ _ hlo
    have hup1 := dp_same s1 _ _ hup
    refine ⟨_, rfl, ev, rfl, ⟨_, SqL.of hev1⟩, for_list (xs := natsV (List.range ms.length)) (fun i σ H2 => H2 = H1 ∧ (∃ y4 y5 y6 y7 : Option V, σ = [some (.ref T), some (.ref lo), some (.ref up), some (.ref ev), y4, y5, y6, y7]) ∧ ∀ x, x < i → ∀ y, y < ms.length → ∀ z, z < ms.length → lowI ms x (upI ms y z) = upI ms (lowI ms x y) (lowI ms x z)) ?_ ?_ ?_ ?_⟩
    · exact ⟨rfl, ⟨none, none, none, none, rfl⟩, fun x hx => absurd hx (Nat.not_lt_zero _)⟩
    · rintro i σ H2 _ ⟨rfl, _⟩
      exact SqL.of hev1
    · rintro i v σ H2 hv ⟨rfl, ⟨y4, y5, y6, y7, rfl⟩, don⟩
      obtain ⟨hi, rfl⟩ := rg hv
      refine ⟨_, rfl, ev, rfl, ⟨_, SqL.of hev1⟩, for_list (xs := natsV (List.range ms.length)) (fun j σ H3 => H3 = H2 ∧ (∃ y5 y6 y7 : Option V, σ = [some (.ref T), some (.ref lo), some (.ref up), some (.ref ev), some (.int (i : Nat)), y5, y6, y7]) ∧ ∀ y, y < j → ∀ z, z < ms.length → lowI ms i (upI ms y z) = upI ms (lowI ms i y) (lowI ms i z)) ?_ ?_ ?_ ?_⟩
      · exact ⟨rfl, ⟨_, _, _, rfl⟩, fun x hx => absurd hx (Nat.not_lt_zero _)⟩
      · rintro j σ H3 _ ⟨rfl, _⟩
        exact SqL.of hev1
      · rintro j v σ H3 hv ⟨rfl, ⟨y5, y6, y7, rfl⟩, donj⟩
        obtain ⟨hj, rfl⟩ := rg hv
        refine ⟨_, rfl, ev, rfl, ⟨_, SqL.of hev1⟩, for_list (xs := natsV (List.range ms.length)) (fun l σ H4 => H4 = H3 ∧ (∃ y6 y7 : Option V, σ = [some (.ref T), some (.ref lo), some (.ref up), some (.ref ev), some (.int (i : Nat)), some (.int (j : Nat)), y6, y7]) ∧ ∀ z, z < l → lowI ms i (upI ms j z) = upI ms (lowI ms i j) (lowI ms i z)) ?_ ?_ ?_ ?_⟩
        · exact ⟨rfl, ⟨_, _, rfl⟩, fun x hx => absurd hx (Nat.not_lt_zero _)⟩
        · rintro l σ H4 _ ⟨rfl, _⟩
          exact SqL.of hev1
        · rintro l v σ H4 hv ⟨rfl, ⟨y6, y7, rfl⟩, donl⟩
          obtain ⟨hl, rfl⟩ := rg hv
          have a1 := (low_spec Fm hi hj).1
          have a2 := (low_spec Fm hi hl).1
          have a3 := (up_spec Fm hj hl).1
          obtain ⟨_, b1, t1, _, t2, t3⟩ := tab_ix hlo1 hi
          obtain ⟨_, t4, t5⟩ := row_ix' t3 hj
          obtain ⟨_, t6, t7⟩ := row_ix' t3 hl
          obtain ⟨_, b2, u1, _, u2, u3⟩ := tab_ix hup1 a1
          obtain ⟨_, u4, u5⟩ := row_ix' u3 a2
          obtain ⟨_, b3, w1, _, w2, w3⟩ := tab_ix hup1 hj
          obtain ⟨_, w4, w5⟩ := row_ix' w3 hl
          obtain ⟨_, z1, z2⟩ := row_ix' t3 a3
          refine ⟨_, rfl, _, rfl, _, rfl, lo, _, _, _, rfl, rfl, t1, t2, _, rfl, b1, _, _, _, rfl, rfl, t4, t5, up, _, _, _, rfl, rfl, u1, u2, _, rfl, _, rfl, lo, _, _, _, rfl, rfl, t1, t2, _, rfl, b1, _, _, _, rfl, rfl, t6, t7, b2, _, _, _, rfl, rfl, u4, u5, ?_⟩
          refine ⟨_, rfl, _, rfl, lo, _, _, _, rfl, rfl, t1, t2, _, rfl, _, rfl, up, _, _, _, rfl, rfl, w1, w2, _, rfl, b3, _, _, _, rfl, rfl, w4, w5, b1, _, _, _, rfl, rfl, z1, z2, _, rfl, rfl, _, rfl, ?_⟩
          by_cases c : lowI ms i (upI ms j l) = upI ms (lowI ms i j) (lowI ms i l)
          · rw [decide_eq_true (show V.int ((lowI ms i (upI ms j l) : Nat) : Int) = V.int ((upI ms (lowI ms i j) (lowI ms i l) : Nat) : Int) by rw [c])]
            refine iteF ⟨rfl, ⟨_, _, rfl⟩, fun z hz => ?_⟩
            rcases Nat.lt_or_ge z l with q | q
            · exact donl z q
            · rw [show z = l by omega]; exact c
          · rw [decide_eq_false (show ¬ V.int ((lowI ms i (upI ms j l) : Nat) : Int) = V.int ((upI ms (lowI ms i j) (lowI ms i l) : Nat) : Int) from fun z => c (by have := V.int.inj z; omega))]
            exact iteT (good _ false s1 ⟨fun z => (nomatch z), fun S => absurd (S i hi j hj l hl) c⟩)
        · rintro σ H4 ⟨rfl, ⟨y6, y7, rfl⟩, donl⟩
          rw [ln] at donl
          refine ⟨rfl, ⟨_, _, _, rfl⟩, fun y hy => ?_⟩
          rcases Nat.lt_or_ge y j with q | q
          · exact donj y q
          · rw [show y = j by omega]; exact donl
      · rintro σ H3 ⟨rfl, ⟨y5, y6, y7, rfl⟩, donj⟩
        rw [ln] at donj
        refine ⟨rfl, ⟨_, _, _, _, rfl⟩, fun x hx => ?_⟩
        rcases Nat.lt_or_ge x i with q | q
        · exact don x q
        · rw [show x = i by omega]; exact donj
    · rintro σ H2 ⟨rfl, ⟨y4, y5, y6, y7, rfl⟩, don⟩
      rw [ln] at don
      exact good _ true s1 ⟨fun _ => don, fun _ => rfl⟩
theorem ok_placed {f : Addr} {fd : FuncData} {k : Nat} (F : Fun K "_law_placed" "_law_placed" s_law_placed f fd) (m_len : mg "len" = none) (m_dict : mg "dict" = none)
    (C_law_take : Own P w K mg base k "_law_take" ["_law_source_here", "_law_many"] spTake) :
    FnOk P w K mg base CX0 (k + 1) f fd ["_law_source_here", "_law_signs_here", "_law_rows_here"] (spPlaced K) := by
  refine F.ok sc_law_placed (fun vs H Q E h => ?_) (fun cdv A outer s H vs Q E hr h => ?_)
  · obtain ⟨a, L, sg, r, ns, ss, xs, rfl, _⟩ := h
    rfl
  · obtain ⟨a, L, sg, r, ns, ss, xs, rfl, hs, hsg, sga, nds, l8, hR, ra, x1, x60, good⟩ := h
    refine ⟨_, (pss_one (ps_ret (pe_callTy (call_dictP rfl) (by rfl) m_dict (by decide +kernel) (pa_cons (pe_lc (own := [("_law_sign", 3)]) (g := gName 3) (by rfl) sc_law_placed.nd (pi_list (pv 1)) (blkOk_by (own := [("_law_sign", 3)]) (N := N_law_placed) (sc := defScope s_law_placed) (by decide +kernel)) (fun _ _ _ _ _ => pg_name (i := 3) sc_law_placed.nd rfl (Or.inl rfl)) (fun _ _ _ _ _ => pts_nil) (fun _ _ _ _ _ => (pe_tup (pa_cons (pv 3) (pa_cons (pe_own C_law_take (hr.mono (by omega)) (by rfl) (pa_cons (pv 0) (pa_cons (pe_callB (call_lenK (K := K) rfl) (by rfl) m_len (by decide +kernel) (pa_cons (pv 2) pa_nil)) pa_nil))) pa_nil))))) pa_nil)))), ?_⟩
    have ma : ∀ {a : Addr}, a ∈ [a] := List.mem_singleton.mpr rfl
    have sgA : sg ∉ [a] := fun z => sga (List.mem_singleton.mp z)
    have rA : r ∉ [a] := fun z => ra (List.mem_singleton.mp z)
    refine ⟨_, rfl, sg, rfl, ⟨_, SqL.of hsg⟩, fun D nD => lc_list (xs := ss.map V.str) (fun j Hj => Src Hj a L ns ∧ SmX [a] H Hj ∧ ∃ (ps : List Addr) (bs : List (Str × Nat)), Hj D = some (.lst (ps.map V.ref)) ∧ bs.map (·.1) = ss.take j ∧ (∀ p ∈ bs, p.2 < xs.length) ∧ Paired (fun p kv => Hj p = some (.tup [kV kv.1, kv.2])) ps (kvI bs)) ?_ ?_ ?_ ?_⟩
    · exact ⟨hs.new nD, SmX.new nD, [], [], upd_same, rfl, fun p hp => (nomatch hp), .nil⟩
    · rintro j Hj _ ⟨hsj, smj, _⟩
      exact SqL.of (smj _ _ sgA hsg)
    · rintro j y Hj hy ⟨hsj, smj, ps, bs, hD, eb, hlt, pr⟩
      obtain ⟨x, hx, rfl⟩ : ∃ x, ss[j]? = some x ∧ V.str x = y := by
        rw [List.getElem?_map] at hy
        cases hv : ss[j]? with
        | none => rw [hv] at hy; cases hy
        | some x => rw [hv] at hy; exact ⟨x, rfl, Option.some.inj hy⟩
      have aD : a ≠ D := hs.ne nD
      have LD : D ≠ L := hs.neL' nD
      refine ⟨rfl, yes_it ⟨_, rfl, _, rfl, _, rfl, r, _, rfl, .inl (SqL.of (smj _ _ rA hR)), a, L, ns, _, rfl, hsj, by omega, by omega, fun H5 t t0 t2 hs5 off5 => ⟨(by show 2 ≤ sizeLine; decide), fun T nT => ?_⟩⟩⟩
      obtain ⟨tn, rfl⟩ : ∃ tn : Nat, t = (tn : Nat) := ⟨t.toNat, by omega⟩
      have sm5 : SmX [a] Hj H5 := SmX.at off5 ma
      have hD5 : H5 D = some (.lst (ps.map V.ref)) := (off5 D aD.symm).trans hD
      have s6 := same_upd (o := .tup [.str x, .int (tn : Nat)]) nT
      have hD6 := s6 _ _ hD5
      have lps : ps.length ≤ 8 := by
        have e1 : ps.length = (kvI bs).length := paired_len pr
        have e2 : (kvI bs).length = bs.length := List.length_map ..
        have e3 : bs.length = (ss.take j).length := by rw [← eb, List.length_map]
        rw [List.length_take] at e3
        omega
      have pr5 := paired_smx sm5 hsj.lst0 pr
      have pr6 := paired_smx (M := []) (SmX.of_same s6) (fun b hb => nomatch hb) pr5
      have smP : ∀ xs, SmX [D] (upd H5 T (.tup [.str x, .int (tn : Nat)])) (upd (upd H5 T (.tup [.str x, .int (tn : Nat)])) D (.lst xs)) := fun xs => SmX.put (SmX.refl _ _) (List.mem_singleton.mpr rfl)
      have TD : T ≠ D := fun z => by rw [z, hD5] at nT; cases nT
      refine ⟨_, hD6, by rw [List.length_map]; exact small1000 (by omega), (hs5.same s6).put aD.symm LD, ?_, ps ++ [T], bs ++ [(x, tn)], ?_, ?_, ?_, ?_⟩
      · intro b o nb e
        rw [upd_ne (ne_of_none e nD)]
        exact s6 _ _ (sm5 _ _ nb (smj _ _ nb e))
      · rw [upd_same, List.map_append]; rfl
      · rw [List.map_append, eb, List.take_add_one, hx]; rfl
      · intro p hp
        rcases List.mem_append.mp hp with z | z
        · exact hlt p z
        · rw [List.mem_singleton.mp z]
          show tn < xs.length
          omega
      · have e : kvI (bs ++ [(x, tn)]) = kvI bs ++ [(Sum.inr x, V.int (tn : Nat))] := List.map_append ..
        rw [e]
        refine (paired_smx (smP _) (fun b hb => by rw [List.mem_singleton.mp hb]; exact ⟨_, hD6⟩) pr6).snoc ?_
        rw [upd_ne TD, upd_same]
        rfl
    · rintro H5 ⟨hs5, sm5, ps, bs, hD, eb, hlt, pr⟩
      rw [List.length_map, List.take_length] at eb
      have ndb : (bs.map (·.1)).Nodup := by rw [eb]; exact nds
      refine ⟨D, ps, kvI bs, rfl, SqL.of hD, paired_sqT pr, fun cn ncn => ?_⟩
      rw [merge_kvI ndb]
      exact good _ cn bs eb hlt (smx_none' sm5 hs5 ncn) upd_same (hs5.new ncn) (sm5.trans (SmX.new ncn))
end
end Fv


namespace Fv
open PySem PySem.Spec PyProof.Rows L2 GenW FvX FvD FvG FvW TL
/-- a case for all letters under which no rule is broken and the goal is not kept -/
def Opn (rs : List PyData) (l r : PyData) (ps : List (Str × Bool)) (ss : List Str) : Prop := ∃ qs : List (Str × Bool), qs.map (·.1) = ss ∧ (∀ q ∈ rs, bk (csB (ps ++ qs)) (lrQ q).1 (lrQ q).2 = false) ∧ kp (csB (ps ++ qs)) l r = false
theorem Opn.cons {rs : List PyData} {l r : PyData} {ps : List (Str × Bool)} {x : Str} {b : Bool} {ss : List Str} (h : Opn rs l r (ps ++ [(x, b)]) ss) : Opn rs l r ps (x :: ss) := by
  obtain ⟨qs, h1, h2⟩ := h
  refine ⟨(x, b) :: qs, by rw [List.map_cons, h1], ?_⟩
  rw [List.append_assoc] at h2
  exact h2
theorem trU_goal {rs : List PyData} {l r : PyData} {n : Nat} {ps : List (Str × Bool)} (h : kp (csB ps) l r = true) : trU rs l r (n + 1) ps (.tuple [.str "goal"]) = true := by
  unfold trU
  rw [if_pos (by decide +kernel)]
  exact h
theorem trU_rule {rs : List PyData} {l r : PyData} {n : Nat} {ps : List (Str × Bool)} {q : PyData} (hq : q ∈ rs) (h : bk (csB ps) (lrQ q).1 (lrQ q).2 = true) : trU rs l r (n + 1) ps (.tuple [.str "rule", .str (nameOf q)]) = true := by
  unfold trU
  rw [if_neg (by simp [PyData.eqv, PyData.eqvAll]), trB2, if_pos (by decide +kernel)]
  refine List.any_eq_true.mpr ⟨q, hq, ?_⟩
  rw [h, Bool.and_true]
  simp [PyData.eqv]
theorem trU_node0 {rs : List PyData} {l r : PyData} {n : Nat} {ps : List (Str × Bool)} {c : Str} {a b : PyData} : trU rs l r (n + 1) ps (.tuple [.str c, a, b]) = if (isL c && (csB ps c).isNone) = true then trU rs l r n (ps ++ [(c, false)]) a && trU rs l r n (ps ++ [(c, true)]) b else false := by
  conv => lhs; unfold trU
  rw [if_neg (by simp [PyData.eqv, PyData.eqvAll]), trB3]
theorem trU_node {rs : List PyData} {l r : PyData} {n : Nat} {ps : List (Str × Bool)} {c : Str} {a b : PyData} (hc : isL c = true) (nps : c ∉ ps.map (·.1)) (ha : trU rs l r n (ps ++ [(c, false)]) a = true) (hb : trU rs l r n (ps ++ [(c, true)]) b = true) : trU rs l r (n + 1) ps (.tuple [.str c, a, b]) = true := by
  rw [trU_node0, csB_none, decide_eq_true nps, hc, ha, hb]
  rfl
theorem trU_le {rs : List PyData} {l r : PyData} {n : Nat} {t : PyData} (h : Tr n t) : ∀ {m : Nat} {ps : List (Str × Bool)}, n + 1 ≤ m → trU rs l r m ps t = trU rs l r (n + 1) ps t := by
  induction h with
  | @goal n =>
    intro m ps hm
    match m, hm with
    | m + 1, _ => unfold trU; rw [if_pos (by decide +kernel), if_pos (by decide +kernel)]
  | @rule n x h =>
    intro m ps hm
    match m, hm with
    | m + 1, _ => unfold trU; rw [if_neg (by simp [PyData.eqv, PyData.eqvAll]), if_neg (by simp [PyData.eqv, PyData.eqvAll]), trB2, trB2]
  | @node n c a b hc ha hb ia ib =>
    intro m ps hm
    match m, hm with
    | m + 1, hm => rw [trU_node0, trU_node0, ia (by omega), ib (by omega)]
def spLettersZ (K : PySem.W.Frag) : Sp := fun vs H Q _ => ∃ (r : Addr) (xs : List V) (ds : List PyData), vs = [.ref r] ∧ SqL K H r xs ∧ DpAll K H xs ds ∧ (∀ d ∈ ds, gd 20 d = true) ∧ ds.length ≤ 1000 ∧ newLt ((txs0 ds).filter isL) H Q
def spTUs (K : PySem.W.Frag) (n : Nat) : Sp := fun vs H Q _ => ∃ (vr vg : V) (c nm : Addr) (d l r : PyData) (ps : List (Str × Bool)) (ss : List Str), vs = [vr, vg, .ref c, .ref nm] ∧ Qs K H vr vg d l r ∧ H c = some (.dK (kvB ps)) ∧ H nm = some (.lst (ss.map V.str)) ∧ (ps.map (·.1) ++ ss).Nodup ∧ (∀ x ∈ ss, isL x = true) ∧ ps.length + ss.length ≤ 30 ∧ ss.length < n ∧
  ∀ (H' : Hp) (v : V), Same H H' → ((v = .non ∧ Opn (rows d) l r ps ss) ∨ ∃ t, Dp K H' v t ∧ Tr ss.length t ∧ trU (rows d) l r (ss.length + 1) ps t = true) → Q v H'
def spCTs (K : PySem.W.Frag) (CR CG CM : Addr) : Sp := fun vs H Q E => ∃ (vr vg : V) (d dg : PyData), vs = [vr, vg] ∧ Dp K H vr d ∧ gd 20 d = true ∧ Dp K H vg dg ∧ gd 20 dg = true ∧ CtQ CR CG CM d dg H E ∧
  (rErr d = none → isGl dg = true → cnt d dg ≤ 24 → ∀ l r, dg = .tuple [l, r] → ∀ es, Voc d dg es → ∀ (H' : Hp) (v : V), Same H H' → ((v = .non ∧ Opn (rows d) l r [] ((txs0 es).filter isL)) ∨ ∃ t, Dp K H' v t ∧ Tr (cnt d dg) t ∧ trU (rows d) l r (cnt d dg + 1) [] t = true) → Q v H')
section
variable {P : Program} {w : World} {K : PySem.W.Frag} {mg : Str → Option Value} {base : Heap}
theorem tus_zero {f : Addr} {fd : FuncData} {k : Nat} {ps : List Str} : FnOk P w K mg base CX0 k f fd ps (spTUs K 0) := by
  have no : ∀ vs H Q E, ¬ spTUs K 0 vs H Q E := fun vs H Q E h => by
    obtain ⟨_, _, _, _, _, _, _, _, _, _, _, _, _, _, _, _, m1, _⟩ := h
    omega
  exact ⟨fun vs H Q E h => absurd h (no vs H Q E), fun A outer s H args us vs Q E _ _ _ _ h => absurd h (no vs H Q E)⟩
theorem ok_lettersZ {f : Addr} {fd : FuncData} {k : Nat} (F : Fun K "letters_among" "letters_among" s_letters_among f fd) (hk : 1 ≤ k) (C_is_letter : Own P w K mg base 1 "is_letter" ["value"] (spIsLetter K)) :
    FnOk P w K mg base CX0 (k + 1) f fd ["terms"] (spLettersZ K) := by
  refine F.ok sc_letters_among (fun vs H Q E h => ?_) (fun cdv A outer s H vs Q E hr h => ?_)
  · obtain ⟨r, xs, ds, rfl, _⟩ := h
    rfl
  · obtain ⟨r, xs, ds, rfl, hr0, hA, hg, hl, good⟩ := h
    refine ⟨_, (pss_one (ps_ret (pe_lc (own := [("term", 1)]) (g := gName 1) (by rfl) sc_letters_among.nd (pi_list (pv 0)) (blkOk_by (own := [("term", 1)]) (N := N_letters_among) (sc := defScope s_letters_among) (by decide +kernel)) (fun _ _ _ _ _ => pg_name (i := 1) sc_letters_among.nd rfl (Or.inl rfl)) (fun _ _ _ _ _ => pts_one (pt_val (pe_own C_is_letter (hr.mono (by omega)) (by rfl) (pa_cons (pv 1) pa_nil)))) (fun _ _ _ _ _ => (pv 1))))), ?_⟩
    have hlx := dpAll_len hA
    refine ⟨_, rfl, r, rfl, ⟨_, hr0⟩, fun D nD => lc_list (xs := xs) (fun i H' => Same H H' ∧ H' D = some (.lst (((txs0 (ds.take i)).filter isL).map V.str))) ?_ ?_ ?_ ?_⟩
    · exact ⟨same_upd nD, upd_same⟩
    · rintro i H' _ ⟨sm, _⟩
      exact sm.seq hr0
    · rintro i x H' hx ⟨sm, hD⟩
      obtain ⟨d, hd, hDx⟩ := dpAll_get hA hx
      have md := List.mem_of_getElem? hd
      have et : txs0 (ds.take (i + 1)) = txs0 (ds.take i) ++ txs0 [d] := by
        rw [List.take_add_one, hd]
        exact txs0_app _ _
      refine ⟨rfl, _, rfl, x, d, rfl, dp_same sm _ _ hDx, hg d md, _, rfl, ?_⟩
      rw [et, List.filter_append]
      cases hq : isLd d with
      | false =>
        rw [if_neg Bool.false_ne_true]
        have e0 : (txs0 [d]).filter isL = [] := by
          cases d with
          | str y => show List.filter isL [y] = []; rw [List.filter_cons, if_neg (by rw [show isL y = false from hq]; exact Bool.false_ne_true)]; rfl
          | _ => rfl
        exact ⟨sm, by rw [e0, List.append_nil]; exact hD⟩
      | true =>
        obtain ⟨y, rfl⟩ : ∃ y, d = .str y := by
          cases d with
          | str y => exact ⟨y, rfl⟩
          | _ => cases hq
        cases hDx
        have ls : ((txs0 (ds.take i)).filter isL).length ≤ 1000 := by
          have h1 := List.length_filter_le isL (txs0 (ds.take i))
          have h2 := txs0_len (ds.take i)
          rw [List.length_take] at h2
          omega
        refine iteT ⟨_, rfl, _, hD, by rw [List.length_map, sizeLine_eq]; omega, fun c o e => ?_, ?_⟩
        · rw [upd_ne (ne_of_none e nD)]
          exact sm _ _ e
        · rw [upd_same, List.map_append]
          show some (HO.lst _) = some (HO.lst (_ ++ (List.filter isL [y]).map V.str))
          rw [List.filter_cons, if_pos (show isL y = true from hq)]
          rfl
    · rintro H' ⟨sm, hD⟩
      rw [hlx, List.take_length] at hD
      exact good H' D sm nD hD
theorem ok_tree_underS {f : Addr} {fd : FuncData} {k n : Nat} (F : Fun K "tree_under" "tree_under" s_tree_under f fd) (m_len : mg "len" = none)
    (C_breaks_pair : Own P w K mg base k "breaks_pair" ["case", "left", "right"] (spPair K bk)) (C_keeps_pair : Own P w K mg base k "keeps_pair" ["case", "left", "right"] (spPair K kp))
    (C_tree_under : Own P w K mg base k "tree_under" ["rules", "goal", "case", "names"] (spTUs K n)) :
    FnOk P w K mg base CX0 (k + 1) f fd ["rules", "goal", "case", "names"] (spTUs K (n + 1)) := by
  refine F.ok sc_tree_under (fun vs H Q E h => ?_) (fun cdv A outer s H vs Q E hr h => ?_)
  · obtain ⟨vr, vg, c, nm, d, l, r, ps, ss, rfl, _⟩ := h
    rfl
  · obtain ⟨vr, vg, c, nm, d, l, r, ps, ss, rfl, hQ, hc, hnm, hnd, hL, l30, ln, good⟩ := h
    refine ⟨_, (pss_cons (ps_for PassesOwn.never rfl (FvW.pi_or (pi_list (pv 0)) (pi_tup (pv 0))) (pg_tup rfl (pgs_cons (pg_name (i := 4) sc_tree_under.nd rfl (by first | exact .inl rfl | exact .inr rfl)) (pgs_cons (pg_name (i := 5) sc_tree_under.nd rfl (by first | exact .inl rfl | exact .inr rfl)) (pgs_cons (pg_name (i := 6) sc_tree_under.nd rfl (by first | exact .inl rfl | exact .inr rfl)) pgs_nil))))
        (pss_one (ps_if (pt_val (pe_own C_breaks_pair (hr.mono (by omega)) (by rfl) (pa_cons (pv 2) (pa_cons (pv 5) (pa_cons (pv 6) pa_nil)))))
          (pss_one (ps_ret (pe_tup (pa_cons pe_str (pa_cons (pv 4) pa_nil)))))
          pss_nil)))
      (pss_cons (ps_if (pt_val (pe_ownS C_keeps_pair (hr.mono (by omega)) (by rfl) (pa_cons (pv 2) (StX.pa_star (pv 1) pa_nil))))
        (pss_one (ps_ret (pe_tup (pa_cons pe_str pa_nil))))
        pss_nil)
      (pss_cons (ps_if (pt_cmpR op_eq (pe_callB call_len_seq (by rfl) m_len (by decide +kernel) (pa_cons (pv 3) pa_nil)) pe_int (nomark _))
        (pss_one (ps_ret pe_non))
        pss_nil)
      (pss_cons (ps_set (i := 7) sc_tree_under.nd rfl (by first | exact .inl rfl | exact .inr rfl) (pe_own C_tree_under (hr.mono (by omega)) (by rfl) (pa_cons (pv 0) (pa_cons (pv 1) (pa_cons (FvW.pe_dstar (pv 2) (pe_ix ix_list (pv 3) pe_int (fun _ _ => rfl)) pe_bl) (pa_cons (pe_slice sl_list (pv 3) (po_some pe_int) po_none) pa_nil))))))
      (pss_cons (ps_set (i := 8) sc_tree_under.nd rfl (by first | exact .inl rfl | exact .inr rfl) (pe_ifExp (pt_cmpR op_isN (pv 7) pe_non (nomark _)) pe_non (pe_own C_tree_under (hr.mono (by omega)) (by rfl) (pa_cons (pv 0) (pa_cons (pv 1) (pa_cons (FvW.pe_dstar (pv 2) (pe_ix ix_list (pv 3) pe_int (fun _ _ => rfl)) pe_bl) (pa_cons (pe_slice sl_list (pv 3) (po_some pe_int) po_none) pa_nil)))))))
      (pss_one (ps_ret (pe_ifExp (pt_cmpR op_isN (pv 8) pe_non (nomark _)) pe_non (pe_tup (pa_cons (pe_ix ix_list (pv 3) pe_int (fun _ _ => rfl)) (pa_cons (pv 7) (pa_cons (pv 8) pa_nil)))))))))))), ?_⟩
    have hcs := case_kvB ps
    refine i_seq rfl hQ.rs hQ.sq (Same.refl H) fun J G xs hxs hW hG => for_it hW (fun i σ H2 => ∃ y4 y5 y6 : Option V, σ = [some vr, some vg, some (.ref c), some (.ref nm), y4, y5, y6, none, none] ∧ Same H H2 ∧ ∀ q ∈ (rows d).take i, bk (csB ps) (lrQ q).1 (lrQ q).2 = false) ?_ ?_ ?_ ?_
    · exact ⟨none, none, none, rfl, Same.refl _, fun q hq => (by cases hq)⟩
    · rintro i σ H2 _ ⟨y4, y5, y6, rfl, sm, _⟩
      exact hG H2 sm
    · rintro i x σ H2 H3 hi ⟨y4, y5, y6, rfl, sm, nob⟩ ⟨rfl, hx⟩
      obtain ⟨q, hq, hDq⟩ := dpAll_get hxs hx
      have rq := hQ.rl q (List.mem_of_getElem? hq)
      obtain ⟨b, x1, x2, l', r', rfl, hsb, eq', h1, h2, t1, t2, hn⟩ := rl_v hDq rq
      have elr : lrQ q = (l', r') := by rw [eq']; rfl
      refine ⟨b, _, rfl, same_seqT sm hsb, rfl, ?_⟩
      refine ⟨_, _, rfl, _, _, rfl, _, _, rfl, rfl, ?_⟩
      refine ⟨_, rfl, _, rfl, _, rfl, c, x1, x2, l', r', kvB ps, csB ps, rfl, sm _ _ hc, hcs, dp_same sm _ _ h1, dp_same sm _ _ h2, t1, t2, fun H4 s4 => ⟨_, rfl, ?_⟩⟩
      cases ebk : bk (csB ps) l' r' with
      | true =>
        refine iteT ⟨_, rfl, (by show 2 ≤ sizeLine; decide), fun T nT => ?_⟩
        exact good _ _ (sm.trans (s4.trans (same_upd nT))) (.inr ⟨_, .tup (SqT.of upd_same) (.cons (.str _) (.cons (.str _) .nil)), .rule hn, trU_rule (List.mem_of_getElem? hq) (by rw [elr]; exact ebk)⟩)
      | false =>
        refine iteF ⟨_, _, _, rfl, sm.trans s4, fun q' hq' => ?_⟩
        rw [List.take_add_one, hq] at hq'
        rcases List.mem_append.mp hq' with z | z
        · exact nob q' z
        · have e : q' = q := by simpa using z
          rw [e, elr]; exact ebk
    · rintro σ H2 ⟨y4, y5, y6, rfl, sm, nob0⟩
      have nob : ∀ q ∈ rows d, bk (csB ps) (lrQ q).1 (lrQ q).2 = false := by
        have lx := dpAll_len hxs
        rw [lx, List.take_length] at nob0
        exact nob0
      have hQ2 := hQ.same sm
      obtain ⟨g, g1, g2, rfl, hsg, hg1, hg2⟩ : ∃ g g1 g2, vg = .ref g ∧ SqT K H g [g1, g2] ∧ Dp K H g1 l ∧ Dp K H g2 r := by
        cases hQ.gl with
        | tup hs ha => cases ha with
          | cons h1 ha => cases ha with
            | cons h2 ha => cases ha; exact ⟨_, _, _, rfl, hs, h1, h2⟩
      refine ⟨_, rfl, _, rfl, g, [g1, g2], rfl, .inl (same_seqT sm hsg), c, g1, g2, l, r, kvB ps, csB ps, rfl, sm _ _ hc, hcs, dp_same sm _ _ hg1, dp_same sm _ _ hg2, hQ.tl, hQ.tr, fun H4 s4 => ⟨_, rfl, ?_⟩⟩
      have sm4 := sm.trans s4
      cases ekp : kp (csB ps) l r with
      | true =>
        refine iteT ⟨(by show 1 ≤ sizeLine; decide), fun T nT => ?_⟩
        exact good _ _ (sm4.trans (same_upd nT)) (.inr ⟨_, .tup (SqT.of upd_same) (.cons (.str _) .nil), .goal, trU_goal ekp⟩)
      | false =>
        have hnm4 := sm4 _ _ hnm
        refine iteF ⟨_, rfl, nm, _, rfl, .inl (SqL.of hnm4), rfl, _, rfl, ?_⟩
        rw [List.length_map]
        match ss, hnm4, hnd, hL, l30, ln, good with
        | [], _, _, _, _, _, good => exact iteT (good H4 .non sm4 (.inl ⟨rfl, [], rfl, by rw [List.append_nil]; exact ⟨nob, ekp⟩⟩))
        | n0 :: rest, hnm4, hnd, hL, l30, ln, good =>
          have hnd0 := hnd
          rw [List.nodup_append] at hnd
          have nps : n0 ∉ ps.map (·.1) := fun z => hnd.2.2 _ z _ (List.mem_cons_self ..) rfl
          have hn0 := hL n0 List.mem_cons_self
          have lt : (n0 :: rest).length = rest.length + 1 := rfl
          rw [lt] at l30 ln good
          rw [show decide (V.int (((n0 :: rest).length : Nat) : Int) = V.int 0) = false from decide_eq_false fun z => by have := V.int.inj z; simp only [List.length_cons] at this; omega]
          have nd2 : ∀ b : Bool, ((ps ++ [(n0, b)]).map (·.1) ++ rest).Nodup := fun b => by
            rw [List.map_append, List.append_assoc]
            exact hnd0
          have hL2 : ∀ x ∈ rest, isL x = true := fun x hx => hL x (List.mem_cons_of_mem _ hx)
          have cut : cutV ((n0 :: rest).map V.str) (some 1) none = rest.map V.str := by rw [cut_drop1]; rfl
          refine iteF ⟨_, rfl, _, rfl, dstar_run (σ := [some vr, some (.ref g), some (.ref c), some (.ref nm), y4, y5, y6, none, none]) (i := 2) rfl (sm4 _ _ hc) hnd.1 nps (by omega) (fun H' s' R hR => ⟨_, rfl, nm, _, _, _, rfl, rfl, SqL.of (s' _ _ hnm4), at0, hR⟩) fun d1 H5 s5 nd1 hd1 => ?_⟩
          have sm5 := sm4.trans s5
          refine ⟨_, rfl, 1, rfl, nm, _, rfl, SqL.of (s5 _ _ hnm4), fun q1 nq1 => ?_⟩
          rw [cut]
          have sq := same_upd (o := .lst (rest.map V.str)) nq1
          have sm6 := sm5.trans sq
          refine ⟨vr, .ref g, d1, q1, d, l, r, ps ++ [(n0, false)], rest, rfl, hQ.same sm6, sq _ _ hd1, upd_same, nd2 false, hL2, by rw [List.length_append, List.length_singleton]; omega, by omega, fun H7 v1 s7 hv1 => ?_⟩
          have sm7 := sm6.trans s7
          refine ⟨_, rfl, rfl, _, rfl, ?_⟩
          rcases hv1 with ⟨rfl, op1⟩ | ⟨t1, ht1, tr1, tu1⟩
          · refine iteT ⟨_, rfl, rfl, _, rfl, iteT ?_⟩
            exact good H7 .non sm7 (.inl ⟨rfl, op1.cons⟩)
          · have nv1 : decide (v1 = V.non) = false := decide_eq_false fun z => by obtain ⟨ds, e⟩ := tr1.tup; subst e; subst z; cases ht1
            rw [nv1]
            have hnm7 := sm7 _ _ hnm
            have hnm7' : H7 nm = some (.lst ((n0 :: rest).map V.str)) := (s5.trans (sq.trans s7)) _ _ hnm4
            refine iteF ⟨_, rfl, _, rfl, dstar_run (σ := [some vr, some (.ref g), some (.ref c), some (.ref nm), y4, y5, y6, some v1, none]) (i := 2) rfl (sm7 _ _ hc) hnd.1 nps (by omega) (fun H' s' R hR => ⟨_, rfl, nm, _, _, _, rfl, rfl, SqL.of (s' _ _ hnm7'), at0, hR⟩) fun d2 H8 s8 nd2' hd2 => ?_⟩
            have sm8 := sm7.trans s8
            refine ⟨_, rfl, 1, rfl, nm, _, rfl, SqL.of (s8 _ _ hnm7'), fun q2 nq2 => ?_⟩
            rw [cut]
            have sq2 := same_upd (o := .lst (rest.map V.str)) nq2
            have sm9 := sm8.trans sq2
            refine ⟨vr, .ref g, d2, q2, d, l, r, ps ++ [(n0, true)], rest, rfl, hQ.same sm9, sq2 _ _ hd2, upd_same, nd2 true, hL2, by rw [List.length_append, List.length_singleton]; omega, by omega, fun HA v2 sA hv2 => ?_⟩
            have smA := sm9.trans sA
            refine ⟨_, rfl, rfl, _, rfl, ?_⟩
            rcases hv2 with ⟨rfl, op2⟩ | ⟨t2, ht2, tr2, tu2⟩
            · exact iteT (good HA .non smA (.inl ⟨rfl, op2.cons⟩))
            · have nv2 : decide (v2 = V.non) = false := decide_eq_false fun z => by obtain ⟨ds, e⟩ := tr2.tup; subst e; subst z; cases ht2
              rw [nv2]
              have hnmA : HA nm = some (.lst ((n0 :: rest).map V.str)) := (s8.trans (sq2.trans sA)) _ _ hnm7'
              refine iteF ⟨_, rfl, nm, _, _, _, rfl, rfl, SqL.of hnmA, at0, _, rfl, _, rfl, (by show 3 ≤ sizeLine; decide), fun T nT => ?_⟩
              have sT := same_upd (o := .tup [.str n0, v1, v2]) nT
              exact good _ _ (smA.trans sT) (.inr ⟨_, .tup (SqT.of upd_same) (.cons (.str _) (.cons (dp_same (s8.trans (sq2.trans (sA.trans sT))) _ _ ht1) (.cons (dp_same sT _ _ ht2) .nil))), .node hn0 tr1 tr2, trU_node hn0 nps tu1 tu2⟩)
theorem ok_case_treeS {f CR CG CM : Addr} {fd : FuncData} {k : Nat} (F : Fun K "case_tree" "case_tree" s_case_tree f fd)
    (C_question_terms : OwnR P w K mg base k "question_terms" (spQt K CR CG CM)) (C_letters_among : Own P w K mg base k "letters_among" ["terms"] (spLettersZ K))
    (C_tree_under : Own P w K mg base k "tree_under" ["rules", "goal", "case", "names"] (spTUs K 25)) :
    FnOk P w K mg base (L2.CX P w) (k + 1) f fd ["rules", "goal"] (spCTs K CR CG CM) := by
  refine F.okX sc_case_tree (fun vs H Q E h => ?_) (fun cdv A outer s H vs Q E hr h => ?_)
  · obtain ⟨vr, vg, d, dg, rfl, _⟩ := h
    rfl
  · obtain ⟨vr, vg, d, dg, rfl, hd, hg, hdg, hgg, c, good⟩ := h
    refine ⟨_, (pss_cons (ps_set (i := 2) sc_case_tree.nd rfl (by first | exact .inl rfl | exact .inr rfl) (pe_own C_letters_among (hr.mono (by omega)) (by rfl) (pa_cons (pe_ownR C_question_terms (hr.mono (by omega)) (by rfl) passX (pa_cons (pv 0) (pa_cons (pv 1) pa_nil))) pa_nil)))
      (pss_one (ps_ret (pe_own C_tree_under (hr.mono (by omega)) (by rfl) (pa_cons (pv 0) (pa_cons (pv 1) (pa_cons (pe_dnewK) (pa_cons (pv 2) pa_nil)))))))), ?_⟩
    refine ⟨_, rfl, _, rfl, vr, vg, d, dg, rfl, hd, hg, hdg, hgg, ⟨c.rl, c.gl, c.tm, fun e gl hc H1 p ys es s1 np hp hy hv => ?_⟩⟩
    obtain ⟨l, r, rfl, _, _⟩ := isGl_inv gl
    have hQ := (qs_of hd hdg e gl).same s1
    have tks := voc_tk hQ.rl (.inr gl) hv
    have les := voc_len hv
    have nd := voc_nd hQ.rl (.inr gl) hv
    refine ⟨p, ys, es, rfl, SqL.of hp, hy, fun x hx => (tks x hx).gd, by omega, fun H2 q s2 nq hq => ?_⟩
    have sub : ((txs0 es).filter isL).Sublist (txs0 es) := List.filter_sublist
    have hL : ∀ x ∈ (txs0 es).filter isL, isL x = true := fun x hx => (List.mem_filter.mp hx).2
    obtain ⟨ss, ess⟩ : ∃ ss, (txs0 es).filter isL = ss := ⟨_, rfl⟩
    rw [ess] at hq sub hL
    have ndss : ss.Nodup := sub.nodup (txs0_nd es nd).1
    have lss : ss.length ≤ cnt d (.tuple [l, r]) := by
      have h1 := sub.length_le
      have h2 := txs0_len es
      omega
    refine ⟨_, rfl, _, rfl, fun cc ncc => ?_⟩
    have sc := same_upd (o := .dK []) ncc
    refine ⟨_, rfl, vr, vg, cc, q, d, l, r, [], ss, rfl, hQ.same (s2.trans sc), upd_same, sc _ _ hq, ndss, hL, by rw [List.length_nil]; omega, by omega, fun H4 v s4 hv4 => ?_⟩
    refine good e gl hc l r rfl es hv H4 v (s1.trans (s2.trans (sc.trans s4))) ?_
    rw [ess]
    rcases hv4 with z | ⟨t, h1, h2, h3⟩
    · exact .inl z
    · exact .inr ⟨t, h1, h2.le lss, by rw [trU_le h2 (show ss.length + 1 ≤ cnt d (.tuple [l, r]) + 1 by omega)]; exact h3⟩
end
end Fv


namespace Fv
open PySem PySem.Spec PyProof.Rows L2 GenW FvX FvD FvG FvW TL
/-! ### trees on boards that spread -/
theorem bar_br (o : PyData) : isBar o = isBr o := by cases o <;> rfl
theorem fold_up {ms : List Nat} (F : Fam ms) : ∀ (l : List Nat) (x y : Nat), x < ms.length → y < ms.length → (∀ z ∈ l, z < ms.length) → (leI ms (l.foldl (upI ms) x) y = true ↔ leI ms x y = true ∧ ∀ z ∈ l, leI ms z y = true)
  | [], x, y, _, _, _ => by simp
  | a :: l, x, y, hx, hy, h => by
    have ha := h a List.mem_cons_self
    have u := up_spec F hx ha
    have ih := fold_up F l (upI ms x a) y u.1 hy fun z hz => h z (List.mem_cons_of_mem _ hz)
    rw [List.foldl_cons, ih, u.2 y hy]
    constructor
    · rintro ⟨⟨p, q⟩, r⟩
      refine ⟨p, fun z hz => ?_⟩
      rcases List.mem_cons.mp hz with e | e
      · rw [e]; exact q
      · exact r z e
    · rintro ⟨p, q⟩
      exact ⟨⟨p, q a List.mem_cons_self⟩, fun z hz => q z (List.mem_cons_of_mem _ hz)⟩
theorem fold_low {ms : List Nat} (F : Fam ms) : ∀ (l : List Nat) (x y : Nat), x < ms.length → y < ms.length → (∀ z ∈ l, z < ms.length) → (leI ms y (l.foldl (lowI ms) x) = true ↔ leI ms y x = true ∧ ∀ z ∈ l, leI ms y z = true)
  | [], x, y, _, _, _ => by simp
  | a :: l, x, y, hx, hy, h => by
    have ha := h a List.mem_cons_self
    have u := low_spec F hx ha
    have ih := fold_low F l (lowI ms x a) y u.1 hy fun z hz => h z (List.mem_cons_of_mem _ hz)
    rw [List.foldl_cons, ih, u.2 y hy]
    constructor
    · rintro ⟨⟨p, q⟩, r⟩
      refine ⟨p, fun z hz => ?_⟩
      rcases List.mem_cons.mp hz with e | e
      · rw [e]; exact q
      · exact r z e
    · rintro ⟨p, q⟩
      exact ⟨⟨p, q a List.mem_cons_self⟩, fun z hz => q z (List.mem_cons_of_mem _ hz)⟩
/-- x below what is true, y above what is false -/
def Bel (ms : List Nat) (pl : Str → Nat) (cs : Str → Option Bool) (x y : Nat) : Prop := (∀ c, cs c = some true → leI ms x (pl c) = true) ∧ ∀ c, cs c = some false → leI ms (pl c) y = true
theorem tru_val {ms : List Nat} (F : Fam ms) {pl : Str → Nat} (hp : ∀ c, pl c < ms.length) {cs : Str → Option Bool} {x y : Nat} (hx : x < ms.length) (hy : y < ms.length) (B : Bel ms pl cs x y) : ∀ (n : Nat) (d : PyData), 1 ≤ lmeas n d → (tru cs n d = some true → leI ms x (vl ms pl n d) = true) ∧ (tru cs n d = some false → leI ms (vl ms pl n d) y = true)
  | 0, d, h => by simp only [lmeas] at h; omega
  | n + 1, d, h => by
    rcases lmeas_inv h with ⟨c, rfl, hc⟩ | ⟨o, ds, rfl, nl, ho, h2, all1, e⟩
    · exact ⟨fun z => B.1 c z, fun z => B.2 c z⟩
    · match ds, h2, all1 with
      | d0 :: ds, h2, all1 =>
      have ih := fun d' (hd' : d' ∈ d0 :: ds) => tru_val F hp hx hy B n d' (all1 d' hd')
      have v0 := vl_lt F n d0 (all1 d0 List.mem_cons_self) fun x _ => hp x
      have vr : ∀ z ∈ ds.map (vl ms pl n), z < ms.length := fun z hz => by
        obtain ⟨d', hd', rfl⟩ := List.mem_map.mp hz
        exact vl_lt F n d' (all1 d' (List.mem_cons_of_mem _ hd')) fun x _ => hp x
      have et : tru cs (n + 1) (.tuple (.str o :: d0 :: ds)) = tOr (isBar (.str o)) ((d0 :: ds).map (tru cs n)) := by simp only [tru]
      have ev : vl ms pl (n + 1) (.tuple (.str o :: d0 :: ds)) = (ds.map (vl ms pl n)).foldl (opI' ms (isBr (.str o))) (vl ms pl n d0) := rfl
      rw [et, ev, bar_br]
      have lt := fold_lt F (isBr (.str o)) _ _ v0 vr
      have mem : ∀ (b : Bool), some b ∈ (d0 :: ds).map (tru cs n) → ∃ d' ∈ d0 :: ds, tru cs n d' = some b := fun b hb => by
        obtain ⟨d', h1, h2⟩ := List.mem_map.mp hb
        exact ⟨d', h1, h2⟩
      have oth : ∀ (b : Bool), some b ∉ (d0 :: ds).map (tru cs n) → none ∉ (d0 :: ds).map (tru cs n) → ∀ d' ∈ d0 :: ds, tru cs n d' = some (!b) := fun b h1 h2 d' hd' => by
        cases e : tru cs n d' with
        | none => exact absurd (List.mem_map.mpr ⟨d', hd', e⟩) h2
        | some b' =>
          cases b <;> cases b'
          · exact absurd (List.mem_map.mpr ⟨d', hd', e⟩) h1
          · rfl
          · rfl
          · exact absurd (List.mem_map.mpr ⟨d', hd', e⟩) h1
      cases eb : isBr (.str o) with
      | true =>
        rw [eb] at lt
        have up := (fold_up F (ds.map (vl ms pl n)) (vl ms pl n d0) _ v0 lt vr).mp (leI_refl _)
        unfold tOr
        by_cases c1 : some true ∈ (d0 :: ds).map (tru cs n)
        · rw [if_pos c1]
          refine ⟨fun _ => ?_, fun z => (by cases z)⟩
          obtain ⟨d', hd', e'⟩ := mem true c1
          have q := (ih d' hd').1 e'
          rcases List.mem_cons.mp hd' with z | z
          · rw [z] at q; exact leI_trans q up.1
          · exact leI_trans q (up.2 _ (List.mem_map.mpr ⟨d', z, rfl⟩))
        · rw [if_neg c1]
          by_cases c2 : none ∈ (d0 :: ds).map (tru cs n)
          · rw [if_pos c2]
            exact ⟨fun z => (by cases z), fun z => (by cases z)⟩
          · rw [if_neg c2]
            have al := oth true c1 c2
            refine ⟨fun z => (by cases z), fun _ => (fold_up F _ _ y v0 hy vr).mpr ⟨(ih d0 List.mem_cons_self).2 (al d0 List.mem_cons_self), fun z hz => ?_⟩⟩
            obtain ⟨d', hd', rfl⟩ := List.mem_map.mp hz
            exact (ih d' (List.mem_cons_of_mem _ hd')).2 (al d' (List.mem_cons_of_mem _ hd'))
      | false =>
        rw [eb] at lt
        have lo := (fold_low F (ds.map (vl ms pl n)) (vl ms pl n d0) _ v0 lt vr).mp (leI_refl _)
        unfold tOr
        by_cases c1 : some false ∈ (d0 :: ds).map (tru cs n)
        · rw [if_pos c1]
          refine ⟨fun z => (by cases z), fun _ => ?_⟩
          obtain ⟨d', hd', e'⟩ := mem false c1
          have q := (ih d' hd').2 e'
          rcases List.mem_cons.mp hd' with z | z
          · rw [z] at q; exact leI_trans lo.1 q
          · exact leI_trans (lo.2 _ (List.mem_map.mpr ⟨d', z, rfl⟩)) q
        · rw [if_neg c1]
          by_cases c2 : none ∈ (d0 :: ds).map (tru cs n)
          · rw [if_pos c2]
            exact ⟨fun z => (by cases z), fun z => (by cases z)⟩
          · rw [if_neg c2]
            have al := oth false c1 c2
            refine ⟨fun _ => (fold_low F _ _ x v0 hx vr).mpr ⟨(ih d0 List.mem_cons_self).1 (al d0 List.mem_cons_self), fun z hz => ?_⟩, fun z => (by cases z)⟩
            obtain ⟨d', hd', rfl⟩ := List.mem_map.mp hz
            exact (ih d' (List.mem_cons_of_mem _ hd')).1 (al d' (List.mem_cons_of_mem _ hd'))
theorem csB_snoc {ps : List (Str × Bool)} {c : Str} {b : Bool} {x : Str} {v : Bool} (h : csB (ps ++ [(c, b)]) x = some v) : csB ps x = some v ∨ (x = c ∧ v = b) := by
  unfold csB at h ⊢
  rw [List.find?_append] at h
  cases e : ps.find? fun p => decide (p.1 = x) with
  | some p => rw [e] at h; exact .inl h
  | none =>
    rw [e, Option.none_or, List.find?_cons] at h
    by_cases q : c = x
    · rw [decide_eq_true q] at h
      exact .inr ⟨q.symm, (Option.some.inj h).symm⟩
    · rw [decide_eq_false q] at h
      cases h
theorem tree_keeps {ms : List Nat} (F : Fam ms) (S : Spr ms) {pl : Str → Nat} (hp : ∀ c, pl c < ms.length) {rs : List PyData} {l r : PyData} (l1 : 1 ≤ lmeas 5 l) (r1 : 1 ≤ lmeas 5 r) (hrs : ∀ q ∈ rs, 1 ≤ lmeas 5 (lrQ q).1 ∧ 1 ≤ lmeas 5 (lrQ q).2 ∧ leI ms (vl ms pl 5 (lrQ q).1) (vl ms pl 5 (lrQ q).2) = true) :
    ∀ (n : Nat) (ps : List (Str × Bool)) (t : PyData), trU rs l r n ps t = true → ∀ x y, x < ms.length → y < ms.length → Bel ms pl (csB ps) x y → leI ms (lowI ms x (vl ms pl 5 l)) (upI ms y (vl ms pl 5 r)) = true
  | 0, ps, t, h => by cases h
  | n + 1, ps, t, h => fun x y hx hy B => by
    have vL := vl_lt F 5 l l1 fun x _ => hp x
    have vR := vl_lt F 5 r r1 fun x _ => hp x
    have lo := low_spec F hx vL
    have up := up_spec F hy vR
    have lo1 := (lo.2 _ lo.1).mp (leI_refl _)
    have up1 := (up.2 _ up.1).mp (leI_refl _)
    cases t with
    | tuple ds =>
      unfold trU at h
      by_cases eg : PyData.eqv (.tuple ds) (.tuple [.str "goal"]) = true
      · rw [if_pos eg] at h
        unfold kp at h
        rw [Bool.or_eq_true, decide_eq_true_eq, decide_eq_true_eq] at h
        rcases h with h | h
        · exact leI_trans lo1.2 (leI_trans ((tru_val F hp hx hy B 5 l l1).2 h) up1.1)
        · exact leI_trans lo1.1 (leI_trans ((tru_val F hp hx hy B 5 r r1).1 h) up1.2)
      · rw [if_neg eg] at h
        match ds, h with
        | [a, z], h =>
          rw [trB2] at h
          by_cases er : PyData.eqv a (.str "rule") = true
          · rw [if_pos er] at h
            obtain ⟨q, hq, hb⟩ := List.any_eq_true.mp h
            rw [Bool.and_eq_true] at hb
            have hb2 := hb.2
            unfold bk at hb2
            rw [Bool.and_eq_true, decide_eq_true_eq, decide_eq_true_eq] at hb2
            obtain ⟨q1, q2, q3⟩ := hrs q hq
            exact leI_trans lo1.1 (leI_trans ((tru_val F hp hx hy B 5 _ q1).1 hb2.1) (leI_trans q3 (leI_trans ((tru_val F hp hx hy B 5 _ q2).2 hb2.2) up1.1)))
          · rw [if_neg er] at h; cases h
        | [.str c, a, b], h =>
          rw [trB3] at h
          by_cases ec : (isL c && (csB ps c).isNone) = true
          · rw [if_pos ec, Bool.and_eq_true] at h
            have pc := hp c
            have ya := up_spec F hy pc
            have xa := low_spec F hx pc
            have ya1 := (ya.2 _ ya.1).mp (leI_refl _)
            have xa1 := (xa.2 _ xa.1).mp (leI_refl _)
            have t1 := tree_keeps F S hp l1 r1 hrs n _ a h.1 x (upI ms y (pl c)) hx ya.1 ⟨fun c' e => (csB_snoc e).elim (fun z => B.1 c' z) (fun z => (nomatch z.2)), fun c' e => (csB_snoc e).elim (fun z => leI_trans (B.2 c' z) ya1.1) (fun z => by rw [z.1]; exact ya1.2)⟩
            have t2 := tree_keeps F S hp l1 r1 hrs n _ b h.2 (lowI ms x (pl c)) y xa.1 hy ⟨fun c' e => (csB_snoc e).elim (fun z => leI_trans xa1.1 (B.1 c' z)) (fun z => (by rw [z.1]; exact xa1.2)), fun c' e => (csB_snoc e).elim (fun z => B.2 c' z) (fun z => (nomatch z.2))⟩
            refine spr_cut F S lo.1 up.1 pc ?_ ?_
            · have u2 := up_spec F up.1 pc
              have u21 := (u2.2 _ u2.1).mp (leI_refl _)
              refine leI_trans t1 (((up_spec F ya.1 vR).2 _ u2.1).mpr ⟨(ya.2 _ u2.1).mpr ⟨leI_trans up1.1 u21.1, u21.2⟩, leI_trans up1.2 u21.1⟩)
            · have l2 := low_spec F lo.1 pc
              have l21 := (l2.2 _ l2.1).mp (leI_refl _)
              refine leI_trans (((low_spec F xa.1 vL).2 _ l2.1).mpr ⟨(xa.2 _ l2.1).mpr ⟨leI_trans l21.1 lo1.1, l21.2⟩, leI_trans l21.1 lo1.2⟩) t2
          · rw [if_neg ec] at h; cases h
        | [], h => cases h
        | [_], h => cases h
        | [.none, _, _], h => cases h
        | [.bool _, _, _], h => cases h
        | [.int _, _, _], h => cases h
        | [.list _, _, _], h => cases h
        | [.tuple _, _, _], h => cases h
        | [.dict _, _, _], h => cases h
        | _ :: _ :: _ :: _ :: _, h => cases h
    | _ => cases h
theorem tree_goal {ms : List Nat} (F : Fam ms) (S : Spr ms) {pl : Str → Nat} (hp : ∀ c, pl c < ms.length) {rs : List PyData} {l r : PyData} (l1 : 1 ≤ lmeas 5 l) (r1 : 1 ≤ lmeas 5 r) (hrs : ∀ q ∈ rs, 1 ≤ lmeas 5 (lrQ q).1 ∧ 1 ≤ lmeas 5 (lrQ q).2 ∧ leI ms (vl ms pl 5 (lrQ q).1) (vl ms pl 5 (lrQ q).2) = true) {n : Nat} {t : PyData} (h : trU rs l r n [] t = true) : leI ms (vl ms pl 5 l) (vl ms pl 5 r) = true := by
  have vL := vl_lt F 5 l l1 fun x _ => hp x
  have vR := vl_lt F 5 r r1 fun x _ => hp x
  have z := tree_keeps F S hp l1 r1 hrs n [] t h _ _ vL vR ⟨fun c e => (by cases e), fun c e => (by cases e)⟩
  exact leI_trans (((low_spec F vL vL).2 _ vL).mpr ⟨leI_refl _, leI_refl _⟩) (leI_trans z (((up_spec F vR vR).2 _ vR).mpr ⟨leI_refl _, leI_refl _⟩))
/-- letters of a term stand in it -/
theorem lt_pre : ∀ (n : Nat) (d : PyData) (x : Str), 1 ≤ lmeas n d → ltIn n d x → PyData.str x ∈ pre d
  | 0, d, x, h, _ => by simp only [lmeas] at h; omega
  | n + 1, d, x, h, hx => by
    rcases lmeas_inv h with ⟨c, rfl, hc⟩ | ⟨o, ds, rfl, nl, ho, h2, all1, e⟩
    · rw [show x = c from hx]; exact List.mem_singleton.mpr rfl
    · obtain ⟨d', hd', hx'⟩ := hx
      by_cases hc : isCd (.tuple (.str o :: ds)) = true
      · rw [pre_eq, if_pos hc]
        exact List.mem_cons_of_mem _ (List.mem_flatMap.mpr ⟨d', hd', lt_pre n d' x (all1 d' hd') hx'⟩)
      · simp only [lmeas] at h
        rw [if_neg (by rw [nl]; exact Bool.false_ne_true), if_neg hc] at h
        omega
theorem lt_isL : ∀ (n : Nat) (d : PyData) (x : Str), 1 ≤ lmeas n d → ltIn n d x → isL x = true
  | 0, d, x, h, _ => by simp only [lmeas] at h; omega
  | n + 1, d, x, h, hx => by
    rcases lmeas_inv h with ⟨c, rfl, hc⟩ | ⟨o, ds, rfl, nl, ho, h2, all1, e⟩
    · rw [show x = c from hx]; exact hc
    · obtain ⟨d', hd', hx'⟩ := hx
      exact lt_isL n d' x (all1 d' hd') hx'
/-- the letters of a question's sides are among the letters of its words -/
theorem lt_all {ps : List (PyData × PyData)} {es : List PyData} (hT : ∀ p ∈ ps, Tk p.1 ∧ Tk p.2) (b : BT (ps.flatMap preP) es) {d : PyData} {x : Str} (hd : ∃ p ∈ ps, d = p.1 ∨ d = p.2) (h1 : 1 ≤ lmeas 5 d) (h : ltIn 5 d x) : x ∈ allS es := by
  have hp := lt_pre 5 d x h1 h
  have hl := lt_isL 5 d x h1 h
  obtain ⟨p, hp', hd'⟩ := hd
  have td : Tk d := by
    rcases hd' with e | e
    · rw [e]; exact (hT p hp').1
    · rw [e]; exact (hT p hp').2
  have m : PyData.str x ∈ ps.flatMap preP := List.mem_flatMap.mpr ⟨p, hp', by
    unfold preP
    rcases hd' with e | e
    · rw [← e]; exact List.mem_append_left _ hp
    · rw [← e]; exact List.mem_append_right _ hp⟩
  obtain ⟨e, he, ee⟩ := List.mem_map.mp ((b.mem _).mpr (List.mem_map.mpr ⟨_, m, rfl⟩))
  have te : Tk e := by
    obtain ⟨q, hq, hq'⟩ := List.mem_flatMap.mp (b.sub e he)
    rcases List.mem_append.mp hq' with z | z
    · exact pre_tk 9 _ (hT q hq).1.one (hT q hq).1 e z
    · exact pre_tk 9 _ (hT q hq).2.one (hT q hq).2 e z
  have tx : Tk (.str x) := pre_tk 9 _ td.one td _ hp
  have ex : e = .str x := txt_inj te.1 tx.1 ee
  have ha : x ∈ abc := isL_abc hl
  refine List.mem_filter.mpr ⟨ha, List.any_eq_true.mpr ⟨e, he, decide_eq_true ?_⟩⟩
  unfold lts
  rw [List.mem_filter, lts_mem te x, ex]
  exact ⟨ha, List.mem_singleton.mpr rfl⟩
end Fv


namespace Fv
open PySem PySem.Spec PyProof.Rows L2 GenW FvX FvD FvG FvW TL
-- top 75  slots: 0:_law_script 1:_law_source_here 2:_law_rows_here 3:_law_other 4:_law_tables_here 5:_law_turn 6:_law_premises_here 7:_law_aim 8:_law_shape 9:_law_signs_here 10:_law_again 11:_law_places 12:_law_good 13:_law_name 14:_law_left 15:_law_right
abbrev s_law : Stmt := topS 75
abbrev N_law : List Str := ["_law_script", "_law_source_here", "_law_rows_here", "_law_other", "_law_tables_here", "_law_turn", "_law_premises_here", "_law_aim", "_law_shape", "_law_signs_here", "_law_again", "_law_places", "_law_good", "_law_name", "_law_left", "_law_right"]
theorem sc_law : FnScope N_law ["_law_script"] (defScope s_law) := ⟨rfl, rfl, rfl, by decide +kernel, rfl, by decide +kernel, by decide +kernel⟩

def spLaw (K : PySem.W.Frag) : Sp := fun vs H Q _ => ∃ (a : Addr) (ns : List Int), vs = [.ref a] ∧ SqL K H a (ns.map V.int) ∧ ns.length ≤ 63 ∧ ∀ H', Q (.bl true) H'
theorem hide_stay {H : Hp} {a L : Addr} {ns : List Int} (h : Src H a L ns) : Stay H (hide [a] H) := stay_smx (M := [a]) (fun b o m e => by rw [hide_ne m]; exact e) h.lst
theorem ctq_ok {CR CG CM : Addr} {d dg : PyData} {H : Hp} {E : XK} (e1 : rErr d = none) (e2 : isGl dg = true) (e3 : cnt d dg ≤ 24) : CtQ CR CG CM d dg H E :=
  ⟨fun i e => (by rw [e1] at e; cases e), fun _ e => (by rw [e2] at e; cases e), fun _ _ e => (by omega)⟩
theorem fam_range {k : Nat} (hk : k ≤ 3) : Fam (List.range (2 ^ k)) := by
  have all : ∀ k ≤ 3, (List.range (2 ^ k)).Nodup ∧ (∀ a ∈ List.range (2 ^ k), ∀ b ∈ List.range (2 ^ k), a &&& b ∈ List.range (2 ^ k)) ∧ (2 ^ k - 1 ∈ List.range (2 ^ k) ∧ ∀ a ∈ List.range (2 ^ k), subM a (2 ^ k - 1) = true) ∧ (List.range (2 ^ k)).length ≤ 16 := by decide
  obtain ⟨h1, h2, h3, h4⟩ := all k hk
  exact ⟨h1, h2, ⟨_, h3⟩, h4⟩
theorem pick_range {d : Int} (d0 : 0 ≤ d) (d1 : d < 3) : ∃ k : Nat, k ≤ 3 ∧ atI ([.int 2, .int 4, .int 8] : List V) d = some (.int ((2 ^ k : Nat) : Int)) := by
  have h : d = 0 ∨ d = 1 ∨ d = 2 := by omega
  rcases h with rfl | rfl | rfl
  · exact ⟨1, by decide, rfl⟩
  · exact ⟨2, by decide, rfl⟩
  · exact ⟨3, by decide, rfl⟩
/-- what holds while questions are asked -/
structure Iv (K : PySem.W.Frag) (a L : Addr) (ns : List Int) (r T : Addr) (ms : List Nat) (H : Hp) : Prop where
  src : Src H a L ns
  ra : r ≠ a
  rw_ : H r = some (.lst ((rowsOf ms).map V.str))
  tab : Dp K (hide [a] H) (.ref T) (tabsD ms)
theorem Iv.smx {K : PySem.W.Frag} {a L : Addr} {ns : List Int} {r T : Addr} {ms : List Nat} {H H' : Hp} (h : Iv K a L ns r T ms H) (s : SmX [a] H H') (hs : Src H' a L ns) : Iv K a L ns r T ms H' :=
  ⟨hs, h.ra, s _ _ (fun z => h.ra (List.mem_singleton.mp z)) h.rw_, dp_same s.hid _ _ h.tab⟩
theorem Iv.same {K : PySem.W.Frag} {a L : Addr} {ns : List Int} {r T : Addr} {ms : List Nat} {H H' : Hp} (h : Iv K a L ns r T ms H) (s : Same H H') : Iv K a L ns r T ms H' := h.smx (SmX.of_same s) (h.src.same s)
section
variable {P : Program} {w : World} {K : PySem.W.Frag} {mg : Str → Option Value} {base : Heap} {CR CG CM : Addr}
set_option maxHeartbeats 1600000 in
theorem ok_law {f : Addr} {fd : FuncData} {k : Nat} (F : Fun K "law" "law" s_law f fd) (hk : 35 ≤ k) (m_range : mg "range" = none) (m_list : mg "list" = none) (m_all : mg "all" = none)
    (C_law_source : Own P w K mg base 1 "_law_source" ["_law_script"] (spSource K))
    (C_law_take : Own P w K mg base 1 "_law_take" ["_law_source_here", "_law_many"] spTake)
    (C_law_mixed : Own P w K mg base 2 "_law_mixed" ["_law_source_here", "_law_row"] spMixed)
    (C_law_rows : Own P w K mg base 1 "_law_rows" ["_law_masks"] (spRows K))
    (C_law_some_rows : Own P w K mg base 4 "_law_some_rows" ["_law_source_here"] spSomeRows)
    (C_law_tables : Own P w K mg base 2 "_law_tables" ["_law_rows_here"] (spTables K))
    (C_law_spreads : Own P w K mg base 1 "_law_spreads" ["_law_tables_here"] (spSpr K))
    (C_law_scene : Own P w K mg base 14 "_law_scene" ["_law_source_here", "_law_most", "_law_words_here"] (spScene K))
    (C_ct : OwnR P w K mg base 34 "case_tree" (spCTs K CR CG CM))
    (C_law_pairs : Own P w K mg base 1 "_law_pairs" ["_law_premises_here", "_law_aim"] (spPairs K)) (C_law_words : Own P w K mg base 12 "_law_words" ["_law_pairs_here"] (spWords K))
    (C_law_all_signs : Own P w K mg base 33 "_law_all_signs" ["_law_some"] (spAllS K))
    (C_law_placed : Own P w K mg base 2 "_law_placed" ["_law_source_here", "_law_signs_here", "_law_rows_here"] (spPlaced K))
    (C_law_keeps : Own P w K mg base 7 "_law_keeps" ["_law_rows_here", "_law_tables_here", "_law_left", "_law_right", "_law_places"] (spKeeps K)) :
    FnOk P w K mg base CX0 (k + 1) f fd ["_law_script"] (spLaw K) := by
  refine F.ok sc_law (fun vs H Q E h => ?_) (fun cdv A outer s H vs Q E hr h => ?_)
  · obtain ⟨a, ns, rfl, _⟩ := h
    rfl
  · obtain ⟨sc, ns, rfl, hS, h63, done⟩ := h
    refine ⟨_, (pss_cons (ps_set (i := 1) sc_law.nd rfl (by first | exact .inl rfl | exact .inr rfl) (pe_own C_law_source (hr.mono (by omega)) (by rfl) (pa_cons (pv 0) pa_nil)))
      (pss_cons (ps_set (i := 2) sc_law.nd rfl (by first | exact .inl rfl | exact .inr rfl) (pe_own C_law_rows (hr.mono (by omega)) (by rfl) (pa_cons (pe_own C_law_mixed (hr.mono (by omega)) (by rfl) (pa_cons (pv 1) (pa_cons (pe_listRg rfl (by rfl) m_list (prg_1 (by rfl) m_range (pe_ix ix_list (pe_lst (pa_cons pe_int (pa_cons pe_int (pa_cons pe_int pa_nil)))) (pe_own C_law_take (hr.mono (by omega)) (by rfl) (pa_cons (pv 1) (pa_cons pe_int pa_nil))) (fun _ _ => rfl)))) pa_nil))) pa_nil)))
      (C8.pss_cut (ps_if (pt_cmpR op_eq (pe_own C_law_take (hr.mono (by omega)) (by rfl) (pa_cons (pv 1) (pa_cons pe_int pa_nil))) pe_int (nomark _))
        (pss_cons (ps_set (i := 3) sc_law.nd rfl (by first | exact .inl rfl | exact .inr rfl) (pe_own C_law_some_rows (hr.mono (by omega)) (by rfl) (pa_cons (pv 1) pa_nil)))
        (pss_one (ps_set (i := 2) sc_law.nd rfl (by first | exact .inl rfl | exact .inr rfl) (pe_ifExp (pt_val (pe_own C_law_spreads (hr.mono (by omega)) (by rfl) (pa_cons (pe_own C_law_tables (hr.mono (by omega)) (by rfl) (pa_cons (pv 3) pa_nil)) pa_nil))) (pv 3) (pv 2)))))
        pss_nil)
      (pss_cons (ps_set (i := 4) sc_law.nd rfl (by first | exact .inl rfl | exact .inr rfl) (pe_own C_law_tables (hr.mono (by omega)) (by rfl) (pa_cons (pv 2) pa_nil)))
      (pss_cons (ps_for PassesOwn.never rfl (pi_range1 (by rfl) m_range (pa_cons pe_int pa_nil)) (pg_name (i := 5) sc_law.nd rfl (by first | exact .inl rfl | exact .inr rfl))
        (pss_cons (ps_asg (pe_own C_law_scene (hr.mono (by omega)) (by rfl) (pa_cons (pv 1) (pa_cons pe_int (pa_cons pe_int pa_nil)))) (pg_tup rfl (pgs_cons (pg_name (i := 6) sc_law.nd rfl (by first | exact .inl rfl | exact .inr rfl)) (pgs_cons (pg_name (i := 7) sc_law.nd rfl (by first | exact .inl rfl | exact .inr rfl)) pgs_nil))))
        (pss_cons (ps_set (i := 8) sc_law.nd rfl (by first | exact .inl rfl | exact .inr rfl) (pe_ownR C_ct (hr.mono (by omega)) (by rfl) passE0 (pa_cons (pv 6) (pa_cons (pv 7) pa_nil))))
        (pss_cons (ps_set (i := 9) sc_law.nd rfl (by first | exact .inl rfl | exact .inr rfl) (pe_own C_law_all_signs (hr.mono (by omega)) (by rfl) (pa_cons (pe_own C_law_words (hr.mono (by omega)) (by rfl) (pa_cons (pe_own C_law_pairs (hr.mono (by omega)) (by rfl) (pa_cons (pv 6) (pa_cons (pv 7) pa_nil))) pa_nil)) pa_nil)))
        (pss_one (ps_for PassesOwn.never rfl (pi_range1 (by rfl) m_range (pa_cons pe_int pa_nil)) (pg_name (i := 10) sc_law.nd rfl (by first | exact .inl rfl | exact .inr rfl))
          (pss_cons (ps_set (i := 11) sc_law.nd rfl (by first | exact .inl rfl | exact .inr rfl) (pe_own C_law_placed (hr.mono (by omega)) (by rfl) (pa_cons (pv 1) (pa_cons (pv 9) (pa_cons (pv 2) pa_nil)))))
          (pss_cons (ps_set (i := 12) sc_law.nd rfl (by first | exact .inl rfl | exact .inr rfl) (pe_callB (cr_all rfl) (by rfl) m_all (by decide +kernel) (pa_cons (pe_lc (own := [("_law_name", 13), ("_law_left", 14), ("_law_right", 15)]) (g := gTup K 3 (gCons (gName 13) (gCons (gName 14) (gCons (gName 15) gNil)))) (by rfl) sc_law.nd (pi_list (pv 6)) (blkOk_by (own := [("_law_name", 13), ("_law_left", 14), ("_law_right", 15)]) (N := N_law) (sc := defScope s_law) (by decide +kernel)) (fun _ _ _ _ _ => (pg_tup rfl (pgs_cons (pg_name (i := 13) sc_law.nd rfl (Or.inl rfl) (hf := Or.inr rfl)) (pgs_cons (pg_name (i := 14) sc_law.nd rfl (Or.inl rfl) (hf := Or.inr rfl)) (pgs_cons (pg_name (i := 15) sc_law.nd rfl (Or.inl rfl) (hf := Or.inr rfl)) pgs_nil))))) (fun _ _ _ _ _ => pts_nil) (fun _ _ _ _ _ => (pe_own C_law_keeps (hr.mono (by omega)) (by rfl) (pa_cons (pv 2) (pa_cons (pv 4) (pa_cons (pv 14) (pa_cons (pv 15) (pa_cons (pv 11) pa_nil)))))))) pa_nil)))
          (pss_one (ps_if (PW.pt (pw_and (pt_cmpR op_notN (pv 8) pe_non (nomark _)) (pw_and (pt_val (pv 12)) (pw_and1 (pt_not (pt_val (pe_own C_law_keeps (hr.mono (by omega)) (by rfl) (pa_cons (pv 2) (pa_cons (pv 4) (pa_cons (pe_ix ix_tup (pv 7) pe_int (fun _ _ => rfl)) (pa_cons (pe_ix ix_tup (pv 7) pe_int (fun _ _ => rfl)) (pa_cons (pv 11) pa_nil))))))))))))
            (pss_one (ps_ret pe_bl))
            pss_nil))))))))))
      (pss_one (ps_ret pe_bl))))))), ?_⟩
    have ma : ∀ {a : Addr}, a ∈ [a] := List.mem_singleton.mpr rfl
    refine ⟨_, rfl, sc, ns, rfl, hS, h63, fun H0 a L s0 na nL hs0 => ?_⟩
    have u : ∀ {H : Hp} {v : V} {d : PyData}, Dp K (hide [a] H) v d → Dp K H v d := fun h => dp_same hide_same _ _ h
    -- all subsets
    refine ⟨_, rfl, (by show 3 ≤ sizeLine; decide), fun p3 np3 => ⟨_, rfl, a, L, ns, 3, rfl, hs0.new np3, by decide, by decide, fun H1 d d0 d1 hs1 off1 => ?_⟩⟩
    obtain ⟨kk, hkk, ek⟩ := pick_range d0 d1
    have p3a : p3 ≠ a := (hs0.ne np3).symm
    have hp31 : H1 p3 = some (.lst [.int 2, .int 4, .int 8]) := (off1 p3 p3a).trans upd_same
    have fr := fam_range hkk
    have l2 : 2 ^ kk ≤ 16 := by have := fr.ln; rw [List.length_range] at this; exact this
    refine ⟨p3, _, _, _, rfl, rfl, SqL.of hp31, ek, _, rfl, RgOk.of_le (by decide) (by omega) (by decide) (Int.natCast_nonneg _), fun q nq => ?_⟩
    rw [rgV_nats]
    have qa : q ≠ a := (hs1.ne nq).symm
    refine ⟨a, L, q, ns, _, rfl, hs1.new nq, qa, upd_same, by rw [nats_len, List.length_range]; omega, fun H2 p ys pm np hp hs2 off2 => ?_⟩
    obtain ⟨gs, pg, rfl⟩ := perm_nats pm
    have fg := fr.perm pg
    have sg : Spr gs := spr_range (k := kk) fg fun x => by rw [pg.mem_iff, List.mem_range]
    have lg := fg.ln
    refine ⟨p, gs, rfl, SqL.of hp, by omega, fun H3 r0 s3 nr0 hr0 => ?_⟩
    have hs3 := hs2.same s3
    have r0a : r0 ≠ a := (hs2.ne nr0).symm
    -- other boards
    refine ⟨fun σ' H' => ∃ (y3 : Option V) (r : Addr) (ms : List Nat), σ' = [some (.ref sc), some (.ref a), some (.ref r), y3, none, none, none, none, none, none, none, none, none, none, none, none] ∧ Src H' a L ns ∧ r ≠ a ∧ H' r = some (.lst ((rowsOf ms).map V.str)) ∧ Fam ms ∧ Spr ms, ?_, ?_⟩
    · refine ⟨_, rfl, a, L, ns, 2, rfl, hs3, by decide, by decide, fun H4 d' _ _ hs4 off4 => ⟨rfl, _, rfl, ?_⟩⟩
      have hr4 : H4 r0 = some (.lst ((rowsOf gs).map V.str)) := (off4 r0 r0a).trans hr0
      refine ite2 (fun _ => ?_) (fun _ => ⟨none, r0, gs, rfl, hs4, r0a, hr4, fg, sg⟩)
      refine ⟨_, rfl, a, L, ns, rfl, hs4, fun H5 o fs ff no ho hs5 sm5 => ?_⟩
      have oa : o ≠ a := (hs4.ne no).symm
      refine ⟨_, rfl, o, fs, rfl, SqL.of ho, ff, fun H6 T s6 nT hT => ?_⟩
      refine ⟨_, fs, rfl, dp_same nw_same _ _ hT, ff, fun H7 b s7 hb => ⟨_, rfl, ?_⟩⟩
      have s57 := s6.trans s7
      have hs7 := hs5.same s57
      cases b with
      | true => exact iteT ⟨_, rfl, _, o, fs, rfl, hs7, oa, s57 _ _ ho, ff, hb.mp rfl⟩
      | false => exact iteF ⟨_, rfl, _, r0, gs, rfl, hs7, r0a, s57 _ _ (sm5 _ _ (fun z => r0a (List.mem_singleton.mp z)) hr4), fg, sg⟩
    rintro σ' H4 ⟨y3, r, ms, rfl, hs4, ra, hr4, Fm, Sm⟩
    clear hs3 hr0 r0a
    have l16 := Fm.ln
    have l1 : 1 ≤ ms.length := by
      obtain ⟨t, ht, _⟩ := Fm.top
      cases ms with
      | nil => cases ht
      | cons => simp
    refine ⟨_, rfl, r, ms, rfl, SqL.of hr4, Fm, fun H5 T s5 nT hT => ?_⟩
    have iv0 : Iv K a L ns r T ms H5 := ⟨hs4.same s5, ra, s5 _ _ hr4, dp_same (nw_hide hs4) _ _ hT⟩
    refine ⟨3, rfl, by decide, by decide, for_range (lo := 0) (n := (3 : Int).toNat) (fun i σ Hi => ∃ y5 y6 y7 y8 y9 y10 y11 y12 y13 y14 y15 : Option V, σ = [some (.ref sc), some (.ref a), some (.ref r), y3, some (.ref T), y5, y6, y7, y8, y9, y10, y11, y12, y13, y14, y15] ∧ Iv K a L ns r T ms Hi) ?_ ?_ ?_⟩
    · exact ⟨_, _, _, _, _, _, _, _, _, _, _, rfl, iv0⟩
    · rintro i σ Hi hi ⟨y5, y6, y7, y8, y9, y10, y11, y12, y13, y14, y15, rfl, ivi⟩
      refine ⟨_, rfl, a, L, ns, 5, 14, rfl, ivi.src, by decide, by decide, by decide, fun H1 T2 p va ds l r2 hT2 np S hs1 sm1 => ⟨T2, _, rfl, SqT.of hT2, rfl, _, _, rfl, _, _, rfl, rfl, ?_⟩⟩
      have iv1 := ivi.smx sm1 hs1
      have pa : p ≠ a := (ivi.src.ne np).symm
      obtain ⟨⟨xs, hp1, hA1⟩, hrl, nd, ln, gl1, tl, tr, cn⟩ := S
      have kds : ∀ d ∈ ds, kd 9 d = true := fun d hd => rl_kd (hrl d hd)
      have gds : ∀ d ∈ ds, gd 19 d = true := fun d hd => rl_gd (hrl d hd)
      have hAh : DpAll K (hide [a] H1) xs ds := kdl_stay (hide_stay hs1) kds hA1
      have glh : Dp K (hide [a] H1) va (.tuple [l, r2]) := kdp_stay (hide_stay hs1) 9 _ _ (pair_kd (tm_tk tl) (tm_tk tr)) gl1
      have hlx := dpAll_len hA1
      have gdl : gd 20 (.list ds) = true := gd_lst (n := 19) gds (by omega)
      have gdg : gd 20 (.tuple [l, r2]) = true := gd_tup (n := 19) (fun x hx => by
        simp only [List.mem_cons, List.not_mem_nil, or_false] at hx
        rcases hx with rfl | rfl
        · exact tm_gd tl (by decide)
        · exact tm_gd tr (by decide)) (by simp)
      have egl := gl_of tl tr
      have er1 := rErr_ok hrl nd (by omega) (.list ds) (.inl rfl)
      have cn1 : cnt (.list ds) (.tuple [l, r2]) ≤ 24 := by omega
      -- its tree
      refine ⟨_, rfl, _, rfl, .ref p, va, .list ds, .tuple [l, r2], rfl, .lst (SqL.of hp1) hA1, gdl, gl1, gdg, ctq_ok er1 egl cn1, fun _ _ _ l' r' elr es hv H2 vt s2 hvt => ?_⟩
      have iv2 := iv1.same s2
      have hp2 := s2 _ _ hp1
      -- its letters
      refine ⟨_, rfl, _, rfl, p, xs, ds, va, l, r2, rfl, SqL.of hp2, dpAll_same s2 _ _ hA1, hrl, by omega, dp_same s2 _ _ gl1, fun H3 p3 us s3 np3 hp3 hu3 => ?_⟩
      have tks := ps_tk (ds := ds) (l := l) (r := r2) hrl tl tr
      refine ⟨p3, us, psOf ds (some (l, r2)), rfl, SqL.of hp3, hu3, tks, ?_, fun H6 p6 ws fs s6 np6 hp6 hw hb => ?_⟩
      · unfold psOf
        rw [List.length_append, List.length_map]
        show ds.length + 1 ≤ 13
        omega
      have lw : fs.length = cnt (.list ds) (.tuple [l, r2]) := cnt_due (dg := .tuple [l, r2]) hrl (.inr egl) hb
      have tkf : ∀ e ∈ fs, Tk e := fun e he => by
        obtain ⟨q', hq', h1⟩ := List.mem_flatMap.mp (hb.sub e he)
        rcases List.mem_append.mp h1 with z | z
        · exact pre_tk 9 _ (tks q' hq').1.one (tks q' hq').1 e z
        · exact pre_tk 9 _ (tks q' hq').2.one (tks q' hq').2 e z
      refine ⟨p6, ws, fs, rfl, SqL.of hp6, hw, tkf, by omega, fun H7 sgn s7 nsgn hsgn => ?_⟩
      have s17 := s2.trans (s3.trans (s6.trans s7))
      have iv7 := iv1.same s17
      have hp7 := s17 _ _ hp1
      have sga : sgn ≠ a := ((iv2.same (s3.trans s6)).src.ne nsgn).symm
      have nds : (allS fs).Nodup := (show abc.Nodup by decide +kernel).sublist List.filter_sublist
      have l8 : (allS fs).length ≤ 8 := List.length_filter_le _ abc
      have ah7 : DpAll K (hide [a] H7) xs ds := dpAll_same (SmX.of_same s17).hid _ _ hAh
      have gh7 : Dp K (hide [a] H7) va (.tuple [l, r2]) := dp_same (SmX.of_same s17).hid _ _ glh
      have ltl : ∀ {d : PyData}, (∃ q ∈ psOf ds (some (l, r2)), d = q.1 ∨ d = q.2) → 1 ≤ lmeas 5 d → ∀ x, ltIn 5 d x → x ∈ allS fs := fun hd h1 x hx => lt_all tks hb hd h1 hx
      -- eight readings
      refine ⟨8, rfl, by decide, by decide, for_range (lo := 0) (n := (8 : Int).toNat) (fun j σ Hj => ∃ y10 y11 y12 y13 y14 y15 : Option V, σ = [some (.ref sc), some (.ref a), some (.ref r), y3, some (.ref T), some (.int (0 + (i : Nat))), some (.ref p), some va, some vt, some (.ref sgn), y10, y11, y12, y13, y14, y15] ∧ Src Hj a L ns ∧ SmX [a] H7 Hj) ?_ ?_ ?_⟩
      · exact ⟨_, _, _, _, _, _, rfl, iv7.src, SmX.refl _ _⟩
      · rintro j σ Hj hj ⟨y10, y11, y12, y13, y14, y15, rfl, hsj, smj⟩
        have nA : ∀ {b : Addr}, b ≠ a → b ∉ [a] := fun h z => h (List.mem_singleton.mp z)
        have ivj := iv7.smx smj hsj
        refine ⟨_, rfl, _, rfl, _, rfl, a, L, sgn, r, ns, allS fs, _, rfl, hsj, smj _ _ (nA sga) hsgn, sga, nds, l8, ivj.rw_, ra, by rw [rows_len]; omega, by rw [rows_len]; omega, fun H8 c ps eps hlt nc hc hs8 sm8 => ?_⟩
        rw [rows_len] at hlt
        have iv8 := ivj.smx sm8 hs8
        have sm78 := smj.trans sm8
        have hpl : ∀ x, plI ps x < ms.length := fun x => by
          unfold plI
          cases e : ps.find? fun p => decide (p.1 = x) with
          | none => show 0 < ms.length; omega
          | some p' => exact hlt p' (List.mem_of_find?_eq_some e)
        have plo : ∀ {d : PyData}, (∃ q ∈ psOf ds (some (l, r2)), d = q.1 ∨ d = q.2) → 1 ≤ lmeas 5 d → plOf (kvI ps) (plI ps) ms.length 5 d := fun hd h1 x hx => by
          have hx' : x ∈ ps.map (·.1) := by rw [eps]; exact ltl hd h1 x hx
          exact ⟨(val_kvI ps x hx').1, hpl x⟩
        have hp8 : H8 p = some (.lst xs) := sm78 _ _ (nA pa) hp7
        have ah8 : DpAll K H8 xs ds := dpAll_same hide_same _ _ (dpAll_same sm78.hid _ _ ah7)
        have gh8 : Dp K H8 va (.tuple [l, r2]) := u (dp_same sm78.hid _ _ gh7)
        -- the rules
        refine ⟨_, rfl, p, rfl, ⟨_, SqL.of hp8⟩, fun D nD => lc_list (xs := xs) (fun i' H' => Same H8 H' ∧ H' D = some (.lst ((ds.take i').map fun d => V.bl (leI ms (vl ms (plI ps) 5 (lrQ d).1) (vl ms (plI ps) 5 (lrQ d).2))))) ?_ ?_ ?_ ?_⟩
        · exact ⟨same_upd nD, upd_same⟩
        · rintro i' H' _ ⟨sm4, _⟩
          exact SqL.of (sm4 _ _ hp8)
        · rintro i' x H' hx4 ⟨sm4, hD4⟩
          obtain ⟨d, hd, hDx⟩ := dpAll_get ah8 hx4
          have md : d ∈ ds := List.mem_of_getElem? hd
          obtain ⟨b, x1, x2, l', r', rfl, hsb, ed, h1, h2, t1, t2, hn⟩ := rl_v hDx (hrl d md)
          have elr : lrQ d = (l', r') := by rw [ed]; rfl
          have mq : lrQ d ∈ psOf ds (some (l, r2)) := List.mem_append_left _ (List.mem_map.mpr ⟨d, md, rfl⟩)
          refine ⟨b, _, rfl, same_seqT sm4 hsb, rfl, _, _, rfl, _, _, rfl, _, _, rfl, rfl, rfl, yes_it ?_⟩
          refine ⟨_, rfl, _, rfl, _, rfl, _, rfl, _, rfl, r, c, .ref T, x1, x2, l', r', kvI ps, plI ps, ms, rfl, SqL.of (sm4 _ _ iv8.rw_), dp_same sm4 _ _ (u iv8.tab), Fm, dp_same sm4 _ _ h1, dp_same sm4 _ _ h2, tm_one t1, tm_one t2, sm4 _ _ hc, plo ⟨_, mq, .inl (by rw [elr])⟩ (tm_one t1), plo ⟨_, mq, .inr (by rw [elr])⟩ (tm_one t2), fun H5 s5 => ⟨_, s5 _ _ hD4, small1000 (by rw [List.length_map, List.length_take]; omega), fun c o e => ?_, ?_⟩⟩
          · rw [upd_ne (ne_of_none e nD)]
            exact s5 _ _ (sm4 _ _ e)
          · rw [upd_same, List.take_add_one, hd, List.map_append]
            show some _ = some (HO.lst (_ ++ [V.bl (leI ms (vl ms (plI ps) 5 (lrQ d).1) (vl ms (plI ps) 5 (lrQ d).2))]))
            rw [elr]
        rintro H9 ⟨s9, hD9⟩
        rw [hlx, List.take_length] at hD9
        have eb : (ds.map fun d => V.bl (leI ms (vl ms (plI ps) 5 (lrQ d).1) (vl ms (plI ps) 5 (lrQ d).2))) = (ds.map fun d => leI ms (vl ms (plI ps) 5 (lrQ d).1) (vl ms (plI ps) 5 (lrQ d).2)).map V.bl := by rw [List.map_map]; rfl
        rw [eb] at hD9
        refine ⟨D, _, rfl, SqL.of hD9, ?_⟩
        have iv9 := iv8.same s9
        have sm79 : SmX [a] H7 H9 := sm78.trans (SmX.of_same s9)
        have fin : ∀ (Hx : Hp) (y : Option V), Same H9 Hx → ∃ y10 y11 y12 y13 y14 y15 : Option V, [some (.ref sc), some (.ref a), some (.ref r), y3, some (.ref T), some (.int (0 + (i : Nat))), some (.ref p), some va, some vt, some (.ref sgn), some (V.int (0 + (j : Nat))), some (V.ref c), y, y13, y14, y15] = [some (.ref sc), some (.ref a), some (.ref r), y3, some (.ref T), some (.int (0 + (i : Nat))), some (.ref p), some va, some vt, some (.ref sgn), y10, y11, y12, y13, y14, y15] ∧ Src Hx a L ns ∧ SmX [a] H7 Hx := fun Hx y sx => ⟨_, _, _, y13, y14, y15, rfl, iv9.src.same sx, sm79.trans (SmX.of_same sx)⟩
        refine ⟨_, rfl, rfl, _, rfl, ?_⟩
        rcases hvt with ⟨rfl, _⟩ | ⟨t, ht, trt, tu⟩
        · refine iteF (iteF ?_)
          exact ⟨_, _, _, _, _, _, rfl, iv9.src, sm79⟩
        · have nv : decide (vt = V.non) = false := decide_eq_false fun z => by obtain ⟨ds', e⟩ := trt.tup; subst e; subst z; cases ht
          rw [nv]
          refine iteT ⟨_, rfl, _, rfl, ?_⟩
          cases ea : (ds.map fun d => leI ms (vl ms (plI ps) 5 (lrQ d).1) (vl ms (plI ps) 5 (lrQ d).2)).all id with
          | false => exact iteF (iteF ⟨_, _, _, _, _, _, rfl, iv9.src, sm79⟩)
          | true =>
            have hrs : ∀ q ∈ ds, 1 ≤ lmeas 5 (lrQ q).1 ∧ 1 ≤ lmeas 5 (lrQ q).2 ∧ leI ms (vl ms (plI ps) 5 (lrQ q).1) (vl ms (plI ps) 5 (lrQ q).2) = true := fun q hq => by
              obtain ⟨n, l', r', rfl, _, t1, t2⟩ := isRl_inv (hrl q hq)
              have e := List.all_eq_true.mp ea _ (List.mem_map.mpr ⟨_, hq, rfl⟩)
              exact ⟨tm_one t1, tm_one t2, e⟩
            have elr' : l' = l ∧ r' = r2 := by
              have z := elr
              simp only [PyData.tuple.injEq, List.cons.injEq, and_true] at z
              exact ⟨z.1.symm, z.2.symm⟩
            rw [elr'.1, elr'.2] at tu
            have kg := tree_goal Fm Sm hpl (tm_one tl) (tm_one tr) hrs tu
            have mg' : (l, r2) ∈ psOf ds (some (l, r2)) := List.mem_append_right _ (List.mem_singleton.mpr rfl)
            have gh9 := dp_same s9 _ _ gh8
            obtain ⟨g, g1, g2, rfl, hsg, hg1, hg2⟩ : ∃ g g1 g2, va = .ref g ∧ SqT K H9 g [g1, g2] ∧ Dp K H9 g1 l ∧ Dp K H9 g2 r2 := by
              cases gh9 with
              | tup hs ha => cases ha with
                | cons h1 ha => cases ha with
                  | cons h2 ha => cases ha; exact ⟨_, _, _, rfl, hs, h1, h2⟩
            refine iteT ⟨_, rfl, _, rfl, _, rfl, g, _, _, _, rfl, rfl, hsg, at0, _, rfl, g, _, _, _, rfl, rfl, hsg, atI_nat (j := 1) rfl, _, rfl, r, c, .ref T, g1, g2, l, r2, kvI ps, plI ps, ms, rfl, SqL.of iv9.rw_, u iv9.tab, Fm, hg1, hg2, tm_one tl, tm_one tr, s9 _ _ hc, plo ⟨_, mg', .inl rfl⟩ (tm_one tl), plo ⟨_, mg', .inr rfl⟩ (tm_one tr), fun HA sA => ⟨_, rfl, ?_⟩⟩
            rw [kg]
            exact iteF ⟨_, _, _, _, _, _, rfl, iv9.src.same sA, sm79.trans (SmX.of_same sA)⟩
      · rintro σ Hj ⟨y10, y11, y12, y13, y14, y15, rfl, hsj, smj⟩
        exact ⟨_, _, _, _, _, _, _, _, _, _, _, rfl, iv7.smx smj hsj⟩
    · rintro σ Hi ⟨y5, y6, y7, y8, y9, y10, y11, y12, y13, y14, y15, rfl, ivi⟩
      exact done Hi
end
end Fv


namespace Fv
open PySem PySem.Spec PyProof.Rows L2 FvX
abbrev s_InvalidTerm : Stmt := inClass (topS 2) 0
def q_InvalidTerm : ErrPos := { p0 := ⟨7, 8, 7, 13⟩, p1 := ⟨7, 8, 7, 15⟩, p2 := ⟨7, 8, 7, 24⟩, p3 := ⟨7, 25, 7, 45⟩, p4 := ⟨7, 8, 7, 46⟩, p5 := ⟨7, 8, 7, 46⟩, p6 := ⟨8, 8, 8, 12⟩, p7 := ⟨8, 8, 8, 17⟩, p8 := ⟨8, 20, 8, 33⟩, p9 := ⟨8, 8, 8, 33⟩, pp := ⟨6, 17, 6, 21⟩ }
abbrev s_InvalidGoal : Stmt := inClass (topS 4) 0
def q_InvalidGoal : ErrPos := { p0 := ⟨18, 8, 18, 13⟩, p1 := ⟨18, 8, 18, 15⟩, p2 := ⟨18, 8, 18, 24⟩, p3 := ⟨18, 25, 18, 58⟩, p4 := ⟨18, 8, 18, 59⟩, p5 := ⟨18, 8, 18, 59⟩, p6 := ⟨19, 8, 19, 12⟩, p7 := ⟨19, 8, 19, 17⟩, p8 := ⟨19, 20, 19, 33⟩, p9 := ⟨19, 8, 19, 33⟩, pp := ⟨17, 17, 17, 21⟩ }
abbrev s_InvalidRules : Stmt := inClass (topS 3) 0
def me_InvalidRules : Expr := match defBody s_InvalidRules with
  | .Expr (.Call _ [e] _ _) _ :: _ => e
  | _ => .Constant .none 0 ⟨0, 0, 0, 0⟩
def q_InvalidRules : ErrPos1 := { p0 := ⟨12, 8, 12, 13⟩, p1 := ⟨12, 8, 12, 15⟩, p2 := ⟨12, 8, 12, 24⟩, p4 := ⟨12, 8, 12, 71⟩, p5 := ⟨12, 8, 12, 71⟩, p6 := ⟨13, 8, 13, 12⟩, p7 := ⟨13, 8, 13, 17⟩, p8 := ⟨13, 20, 13, 34⟩, p9 := ⟨13, 8, 13, 34⟩, p10 := ⟨14, 8, 14, 12⟩, p11 := ⟨14, 8, 14, 18⟩, p12 := ⟨14, 21, 14, 26⟩, p13 := ⟨14, 8, 14, 26⟩, pp := ⟨11, 17, 11, 21⟩, pp2 := ⟨11, 23, 11, 28⟩ }
theorem hme_InvalidRules : ∀ u, MsgV u → MsgOk me_InvalidRules "index" u := fun u hu => (msg2 (pre := "the rules are wrong at the index ") (by decide +kernel) hu : MsgOk me_InvalidRules "index" u)
abbrev s_TooManyTerms : Stmt := inClass (topS 5) 0
def me_TooManyTerms : Expr := match defBody s_TooManyTerms with
  | .Expr (.Call _ [e] _ _) _ :: _ => e
  | _ => .Constant .none 0 ⟨0, 0, 0, 0⟩
def q_TooManyTerms : ErrPos1 := { p0 := ⟨23, 8, 23, 13⟩, p1 := ⟨23, 8, 23, 15⟩, p2 := ⟨23, 8, 23, 24⟩, p4 := ⟨23, 8, 23, 73⟩, p5 := ⟨23, 8, 23, 73⟩, p6 := ⟨24, 8, 24, 12⟩, p7 := ⟨24, 8, 24, 17⟩, p8 := ⟨24, 20, 24, 34⟩, p9 := ⟨24, 8, 24, 34⟩, p10 := ⟨25, 8, 25, 12⟩, p11 := ⟨25, 8, 25, 18⟩, p12 := ⟨25, 21, 25, 26⟩, p13 := ⟨25, 8, 25, 26⟩, pp := ⟨22, 17, 22, 21⟩, pp2 := ⟨22, 23, 22, 28⟩ }
theorem hme_TooManyTerms : ∀ u, MsgV u → MsgOk me_TooManyTerms "count" u := fun u hu => (msg2 (pre := "the vocabulary has too many terms: ") (by decide +kernel) hu : MsgOk me_TooManyTerms "count" u)
theorem kw_all {K : PySem.W.Frag} {D : Addr} {kws : List (Str × V)} (h : ∀ q ∈ kws, ∃ u, PySem.W.nsIn K D q.1 = some (some u) ∧ RelV q.2 u) : ∀ q ∈ kws, ∃ u, PySem.W.nsIn K D q.1 = some (some u) ∧ RelV q.2 u := h
set_option maxHeartbeats 8000000 in
theorem all_mk {l : PySem.W.OpenLaw} {w : World} {K : PySem.W.Frag} {h : Heap} {mg : Str → Option Value} {fa : Addr} (X : K.In h) (G : h.Ns mainGlobals mg) (hfa : mg "law" = some (.ref fa))
    {f1 : Addr} {od1 an1 : Option Addr} {sl1 : Array (Option Value)} {oc1 dc1 pm1 cd1 ct1 : Value}
    {kV1 : Value}
    {f2 : Addr} {od2 an2 : Option Addr} {sl2 : Array (Option Value)} {oc2 dc2 pm2 cd2 ct2 : Value}
    {kV2 : Value}
    {f3 : Addr} {od3 an3 : Option Addr} {sl3 : Array (Option Value)} {oc3 dc3 pm3 cd3 ct3 : Value}
    {kV3 : Value}
    {f4 : Addr} {od4 an4 : Option Addr} {sl4 : Array (Option Value)} {oc4 dc4 pm4 cd4 ct4 : Value}
    {D4 : Addr} {w4_0 : Tok} {w4_1 : Tok}
    {f5 : Addr} {od5 an5 : Option Addr} {sl5 : Array (Option Value)} {oc5 dc5 pm5 cd5 ct5 : Value}
    {kV5 : Value}
    {f6 : Addr} {od6 an6 : Option Addr} {sl6 : Array (Option Value)} {oc6 dc6 pm6 cd6 ct6 : Value}
    {kV6 : Value}
    {f7 : Addr} {od7 an7 : Option Addr} {sl7 : Array (Option Value)} {oc7 dc7 pm7 cd7 ct7 : Value}
    {kV7 : Value}
    {f8 : Addr} {od8 an8 : Option Addr} {sl8 : Array (Option Value)} {oc8 dc8 pm8 cd8 ct8 : Value}
    {kV8 : Value}
    {f9 : Addr} {od9 an9 : Option Addr} {sl9 : Array (Option Value)} {oc9 dc9 pm9 cd9 ct9 : Value}
    {kV9 : Value}
    {f10 : Addr} {od10 an10 : Option Addr} {sl10 : Array (Option Value)} {oc10 dc10 pm10 cd10 ct10 : Value}
    {kV10 : Value}
    {f11 : Addr} {od11 an11 : Option Addr} {sl11 : Array (Option Value)} {oc11 dc11 pm11 cd11 ct11 : Value}
    {kV11 : Value}
    {f12 : Addr} {od12 an12 : Option Addr} {sl12 : Array (Option Value)} {oc12 dc12 pm12 cd12 ct12 : Value}
    {kV12 : Value}
    {f13 : Addr} {od13 an13 : Option Addr} {sl13 : Array (Option Value)} {oc13 dc13 pm13 cd13 ct13 : Value}
    {kV13 : Value}
    {dT13 : Addr} {db13 : Option Addr} {dn13 : Nat} {dz13 : Array (Option Value)}
    {f14 : Addr} {od14 an14 : Option Addr} {sl14 : Array (Option Value)} {oc14 dc14 pm14 cd14 ct14 : Value}
    {kV14 : Value}
    {f15 : Addr} {od15 an15 : Option Addr} {sl15 : Array (Option Value)} {oc15 dc15 pm15 cd15 ct15 : Value}
    {kV15 : Value}
    {f16 : Addr} {od16 an16 : Option Addr} {sl16 : Array (Option Value)} {oc16 dc16 pm16 cd16 ct16 : Value}
    {kV16 : Value}
    {dT16 : Addr} {db16 : Option Addr} {dn16 : Nat} {dz16 : Array (Option Value)}
    {f17 : Addr} {od17 an17 : Option Addr} {sl17 : Array (Option Value)} {oc17 dc17 pm17 cd17 ct17 : Value}
    {kV17 : Value}
    {f18 : Addr} {od18 an18 : Option Addr} {sl18 : Array (Option Value)} {oc18 dc18 pm18 cd18 ct18 : Value}
    {kV18 : Value}
    {f19 : Addr} {od19 an19 : Option Addr} {sl19 : Array (Option Value)} {oc19 dc19 pm19 cd19 ct19 : Value}
    {kV19 : Value}
    {f20 : Addr} {od20 an20 : Option Addr} {sl20 : Array (Option Value)} {oc20 dc20 pm20 cd20 ct20 : Value}
    {kV20 : Value}
    {f21 : Addr} {od21 an21 : Option Addr} {sl21 : Array (Option Value)} {oc21 dc21 pm21 cd21 ct21 : Value}
    {kV21 : Value}
    {f22 : Addr} {od22 an22 : Option Addr} {sl22 : Array (Option Value)} {oc22 dc22 pm22 cd22 ct22 : Value}
    {kV22 : Value}
    {f23 : Addr} {od23 an23 : Option Addr} {sl23 : Array (Option Value)} {oc23 dc23 pm23 cd23 ct23 : Value}
    {kV23 : Value}
    {f24 : Addr} {od24 an24 : Option Addr} {sl24 : Array (Option Value)} {oc24 dc24 pm24 cd24 ct24 : Value}
    {kV24 : Value}
    {f25 : Addr} {od25 an25 : Option Addr} {sl25 : Array (Option Value)} {oc25 dc25 pm25 cd25 ct25 : Value}
    {kV25 : Value}
    {f26 : Addr} {od26 an26 : Option Addr} {sl26 : Array (Option Value)} {oc26 dc26 pm26 cd26 ct26 : Value}
    {kV26 : Value}
    {f27 : Addr} {od27 an27 : Option Addr} {sl27 : Array (Option Value)} {oc27 dc27 pm27 cd27 ct27 : Value}
    {kV27 : Value}
    {f28 : Addr} {od28 an28 : Option Addr} {sl28 : Array (Option Value)} {oc28 dc28 pm28 cd28 ct28 : Value}
    {kV28 : Value}
    {f29 : Addr} {od29 an29 : Option Addr} {sl29 : Array (Option Value)} {oc29 dc29 pm29 cd29 ct29 : Value}
    {kV29 : Value}
    {f30 : Addr} {od30 an30 : Option Addr} {sl30 : Array (Option Value)} {oc30 dc30 pm30 cd30 ct30 : Value}
    {kV30 : Value}
    {f31 : Addr} {od31 an31 : Option Addr} {sl31 : Array (Option Value)} {oc31 dc31 pm31 cd31 ct31 : Value}
    {kV31 : Value}
    {f32 : Addr} {od32 an32 : Option Addr} {sl32 : Array (Option Value)} {oc32 dc32 pm32 cd32 ct32 : Value}
    {kV32 : Value}
    {f33 : Addr} {od33 an33 : Option Addr} {sl33 : Array (Option Value)} {oc33 dc33 pm33 cd33 ct33 : Value}
    {kV33 : Value}
    {f34 : Addr} {od34 an34 : Option Addr} {sl34 : Array (Option Value)} {oc34 dc34 pm34 cd34 ct34 : Value}
    {kV34 : Value}
    {f35 : Addr} {od35 an35 : Option Addr} {sl35 : Array (Option Value)} {oc35 dc35 pm35 cd35 ct35 : Value}
    {kV35 : Value}
    {f36 : Addr} {od36 an36 : Option Addr} {sl36 : Array (Option Value)} {oc36 dc36 pm36 cd36 ct36 : Value}
    {kV36 : Value}
    {f37 : Addr} {od37 an37 : Option Addr} {sl37 : Array (Option Value)} {oc37 dc37 pm37 cd37 ct37 : Value}
    {kV37 : Value}
    {f38 : Addr} {od38 an38 : Option Addr} {sl38 : Array (Option Value)} {oc38 dc38 pm38 cd38 ct38 : Value}
    {kV38 : Value}
    {f39 : Addr} {od39 an39 : Option Addr} {sl39 : Array (Option Value)} {oc39 dc39 pm39 cd39 ct39 : Value}
    {kV39 : Value}
    {f40 : Addr} {od40 an40 : Option Addr} {sl40 : Array (Option Value)} {oc40 dc40 pm40 cd40 ct40 : Value}
    {kV40 : Value}
    {f41 : Addr} {od41 an41 : Option Addr} {sl41 : Array (Option Value)} {oc41 dc41 pm41 cd41 ct41 : Value}
    {kV41 : Value}
    {f42 : Addr} {od42 an42 : Option Addr} {sl42 : Array (Option Value)} {oc42 dc42 pm42 cd42 ct42 : Value}
    {kV42 : Value}
    {f43 : Addr} {od43 an43 : Option Addr} {sl43 : Array (Option Value)} {oc43 dc43 pm43 cd43 ct43 : Value}
    {kV43 : Value}
    {f44 : Addr} {od44 an44 : Option Addr} {sl44 : Array (Option Value)} {oc44 dc44 pm44 cd44 ct44 : Value}
    {kV44 : Value}
    {f45 : Addr} {od45 an45 : Option Addr} {sl45 : Array (Option Value)} {oc45 dc45 pm45 cd45 ct45 : Value}
    {kV45 : Value}
    {f46 : Addr} {od46 an46 : Option Addr} {sl46 : Array (Option Value)} {oc46 dc46 pm46 cd46 ct46 : Value}
    {kV46 : Value}
    {f47 : Addr} {od47 an47 : Option Addr} {sl47 : Array (Option Value)} {oc47 dc47 pm47 cd47 ct47 : Value}
    {kV47 : Value}
    {f48 : Addr} {od48 an48 : Option Addr} {sl48 : Array (Option Value)} {oc48 dc48 pm48 cd48 ct48 : Value}
    {kV48 : Value}
    {f49 : Addr} {od49 an49 : Option Addr} {sl49 : Array (Option Value)} {oc49 dc49 pm49 cd49 ct49 : Value}
    {kV49 : Value}
    {f50 : Addr} {od50 an50 : Option Addr} {sl50 : Array (Option Value)} {oc50 dc50 pm50 cd50 ct50 : Value}
    {kV50 : Value}
    {f51 : Addr} {od51 an51 : Option Addr} {sl51 : Array (Option Value)} {oc51 dc51 pm51 cd51 ct51 : Value}
    {kV51 : Value}
    {f52 : Addr} {od52 an52 : Option Addr} {sl52 : Array (Option Value)} {oc52 dc52 pm52 cd52 ct52 : Value}
    {kV52 : Value}
    {f53 : Addr} {od53 an53 : Option Addr} {sl53 : Array (Option Value)} {oc53 dc53 pm53 cd53 ct53 : Value}
    {kV53 : Value}
    {f54 : Addr} {od54 an54 : Option Addr} {sl54 : Array (Option Value)} {oc54 dc54 pm54 cd54 ct54 : Value}
    {kV54 : Value}
    {f55 : Addr} {od55 an55 : Option Addr} {sl55 : Array (Option Value)} {oc55 dc55 pm55 cd55 ct55 : Value}
    {kV55 : Value}
    {ctLETTERS : Tok}
    {oA1 : Addr} {ob1 : Option Addr} {on1 : Nat} {os1 : Array (Option Value)} {ot1_0 : Tok} {ot1_1 : Tok}
    {ctMAX_DEPTH : Tok}
    {ctMAX_SIZE : Tok}
    {ctLONG_DEPTH : Tok}
    {ctLONG_SIZE : Tok}
    {ctNAME_LETTERS : Tok}
    {ctMAX_NAME : Tok}
    {ctMAX_RULES : Tok}
    {ctMAX_TERMS : Tok}
    {CF : Addr}
    {C_InvalidTerm f_InvalidTerm : Addr} {eoc_InvalidTerm : Value} {eod_InvalidTerm ean_InvalidTerm : Option Addr} {eosl_InvalidTerm : Array (Option Value)} {ekV_InvalidTerm edoc_InvalidTerm epm_InvalidTerm ect_InvalidTerm : Value} {cda_InvalidTerm ecc_InvalidTerm : Addr} {eccl_InvalidTerm ecl_InvalidTerm : Value} {ecdd_InvalidTerm ecld_InvalidTerm : Option Addr} {evs_InvalidTerm : Array Value} {eccs_InvalidTerm ecsl_InvalidTerm : Array (Option Value)} {efile_InvalidTerm : Str} {etf_InvalidTerm : Tok}
    {nm_InvalidTerm eq_InvalidTerm : Str} {eN_InvalidTerm : Addr} {ebs_InvalidTerm ebm_InvalidTerm : List Value} {esn_InvalidTerm : List Str} {esub_InvalidTerm : List Value} {eab_InvalidTerm : Bool} {ecol_InvalidTerm : Option Bool} {edd_InvalidTerm : Option Addr} {ek0_InvalidTerm ek1_InvalidTerm ek2_InvalidTerm ek3_InvalidTerm ek5_InvalidTerm : Option Value}
    {C_InvalidGoal f_InvalidGoal : Addr} {eoc_InvalidGoal : Value} {eod_InvalidGoal ean_InvalidGoal : Option Addr} {eosl_InvalidGoal : Array (Option Value)} {ekV_InvalidGoal edoc_InvalidGoal epm_InvalidGoal ect_InvalidGoal : Value} {cda_InvalidGoal ecc_InvalidGoal : Addr} {eccl_InvalidGoal ecl_InvalidGoal : Value} {ecdd_InvalidGoal ecld_InvalidGoal : Option Addr} {evs_InvalidGoal : Array Value} {eccs_InvalidGoal ecsl_InvalidGoal : Array (Option Value)} {efile_InvalidGoal : Str} {etf_InvalidGoal : Tok}
    {nm_InvalidGoal eq_InvalidGoal : Str} {eN_InvalidGoal : Addr} {ebs_InvalidGoal ebm_InvalidGoal : List Value} {esn_InvalidGoal : List Str} {esub_InvalidGoal : List Value} {eab_InvalidGoal : Bool} {ecol_InvalidGoal : Option Bool} {edd_InvalidGoal : Option Addr} {ek0_InvalidGoal ek1_InvalidGoal ek2_InvalidGoal ek3_InvalidGoal ek5_InvalidGoal : Option Value}
    {C_InvalidRules f_InvalidRules : Addr} {eoc_InvalidRules : Value} {eod_InvalidRules ean_InvalidRules : Option Addr} {eosl_InvalidRules : Array (Option Value)} {ekV_InvalidRules edoc_InvalidRules epm_InvalidRules ect_InvalidRules : Value} {cda_InvalidRules ecc_InvalidRules : Addr} {eccl_InvalidRules ecl_InvalidRules : Value} {ecdd_InvalidRules ecld_InvalidRules : Option Addr} {evs_InvalidRules : Array Value} {eccs_InvalidRules ecsl_InvalidRules : Array (Option Value)} {efile_InvalidRules : Str} {etf_InvalidRules : Tok}
    {nm_InvalidRules eq_InvalidRules : Str} {eN_InvalidRules : Addr} {ebs_InvalidRules ebm_InvalidRules : List Value} {esn_InvalidRules : List Str} {esub_InvalidRules : List Value} {eab_InvalidRules : Bool} {ecol_InvalidRules : Option Bool} {edd_InvalidRules : Option Addr} {ek0_InvalidRules ek1_InvalidRules ek2_InvalidRules ek3_InvalidRules ek5_InvalidRules : Option Value}
    {C_TooManyTerms f_TooManyTerms : Addr} {eoc_TooManyTerms : Value} {eod_TooManyTerms ean_TooManyTerms : Option Addr} {eosl_TooManyTerms : Array (Option Value)} {ekV_TooManyTerms edoc_TooManyTerms epm_TooManyTerms ect_TooManyTerms : Value} {cda_TooManyTerms ecc_TooManyTerms : Addr} {eccl_TooManyTerms ecl_TooManyTerms : Value} {ecdd_TooManyTerms ecld_TooManyTerms : Option Addr} {evs_TooManyTerms : Array Value} {eccs_TooManyTerms ecsl_TooManyTerms : Array (Option Value)} {efile_TooManyTerms : Str} {etf_TooManyTerms : Tok}
    {nm_TooManyTerms eq_TooManyTerms : Str} {eN_TooManyTerms : Addr} {ebs_TooManyTerms ebm_TooManyTerms : List Value} {esn_TooManyTerms : List Str} {esub_TooManyTerms : List Value} {eab_TooManyTerms : Bool} {ecol_TooManyTerms : Option Bool} {edd_TooManyTerms : Option Addr} {ek0_TooManyTerms ek1_TooManyTerms ek2_TooManyTerms ek3_TooManyTerms ek5_TooManyTerms : Option Value}
    (a1 : PySem.W.nsIn K mainGlobals "is_letter" = some (some (.ref f1))) (l1 : K.lookup f1 = some ⟨oc1, od1, .func (PySem.W.fnOf "is_letter" "is_letter" (defArgs s_is_letter) (defBody s_is_letter) (defScope s_is_letter) .none kV1 dc1 pm1 an1 cd1 ct1), sl1⟩) (c1 : PySem.W.codeIn K cd1 "is_letter" = true) (k1 : PySem.W.keepIn K (.ref f1) = true)
    (a2 : PySem.W.nsIn K mainGlobals "is_compound" = some (some (.ref f2))) (l2 : K.lookup f2 = some ⟨oc2, od2, .func (PySem.W.fnOf "is_compound" "is_compound" (defArgs s_is_compound) (defBody s_is_compound) (defScope s_is_compound) .none kV2 dc2 pm2 an2 cd2 ct2), sl2⟩) (c2 : PySem.W.codeIn K cd2 "is_compound" = true) (k2 : PySem.W.keepIn K (.ref f2) = true)
    (a3 : PySem.W.nsIn K mainGlobals "measured" = some (some (.ref f3))) (l3 : K.lookup f3 = some ⟨oc3, od3, .func (PySem.W.fnOf "measured" "measured" (defArgs s_measured) (defBody s_measured) (defScope s_measured) .none kV3 dc3 pm3 an3 cd3 ct3), sl3⟩) (c3 : PySem.W.codeIn K cd3 "measured" = true) (k3 : PySem.W.keepIn K (.ref f3) = true)
    (a4 : PySem.W.nsIn K mainGlobals "is_term" = some (some (.ref f4))) (l4 : K.lookup f4 = some ⟨oc4, od4, .func (PySem.W.fnOf "is_term" "is_term" (defArgs s_is_term) (defBody s_is_term) (defScope s_is_term) .none (.ref D4) dc4 pm4 an4 cd4 ct4), sl4⟩) (c4 : PySem.W.codeIn K cd4 "is_term" = true) (k4 : PySem.W.keepIn K (.ref f4) = true)
    (x4_0 : PySem.W.nsIn K D4 "max_depth" = some (some (.int 5 w4_0)))
    (x4_1 : PySem.W.nsIn K D4 "max_size" = some (some (.int 24 w4_1)))
    (a5 : PySem.W.nsIn K mainGlobals "measured_long" = some (some (.ref f5))) (l5 : K.lookup f5 = some ⟨oc5, od5, .func (PySem.W.fnOf "measured_long" "measured_long" (defArgs s_measured_long) (defBody s_measured_long) (defScope s_measured_long) .none kV5 dc5 pm5 an5 cd5 ct5), sl5⟩) (c5 : PySem.W.codeIn K cd5 "measured_long" = true) (k5 : PySem.W.keepIn K (.ref f5) = true)
    (a6 : PySem.W.nsIn K mainGlobals "walk" = some (some (.ref f6))) (l6 : K.lookup f6 = some ⟨oc6, od6, .func (PySem.W.fnOf "walk" "walk" (defArgs s_walk) (defBody s_walk) (defScope s_walk) .none kV6 dc6 pm6 an6 cd6 ct6), sl6⟩) (c6 : PySem.W.codeIn K cd6 "walk" = true) (k6 : PySem.W.keepIn K (.ref f6) = true)
    (a7 : PySem.W.nsIn K mainGlobals "subterms" = some (some (.ref f7))) (l7 : K.lookup f7 = some ⟨oc7, od7, .func (PySem.W.fnOf "subterms" "subterms" (defArgs s_subterms) (defBody s_subterms) (defScope s_subterms) .none kV7 dc7 pm7 an7 cd7 ct7), sl7⟩) (c7 : PySem.W.codeIn K cd7 "subterms" = true) (k7 : PySem.W.keepIn K (.ref f7) = true)
    (a8 : PySem.W.nsIn K mainGlobals "is_name" = some (some (.ref f8))) (l8 : K.lookup f8 = some ⟨oc8, od8, .func (PySem.W.fnOf "is_name" "is_name" (defArgs s_is_name) (defBody s_is_name) (defScope s_is_name) .none kV8 dc8 pm8 an8 cd8 ct8), sl8⟩) (c8 : PySem.W.codeIn K cd8 "is_name" = true) (k8 : PySem.W.keepIn K (.ref f8) = true)
    (a9 : PySem.W.nsIn K mainGlobals "is_goal" = some (some (.ref f9))) (l9 : K.lookup f9 = some ⟨oc9, od9, .func (PySem.W.fnOf "is_goal" "is_goal" (defArgs s_is_goal) (defBody s_is_goal) (defScope s_is_goal) .none kV9 dc9 pm9 an9 cd9 ct9), sl9⟩) (c9 : PySem.W.codeIn K cd9 "is_goal" = true) (k9 : PySem.W.keepIn K (.ref f9) = true)
    (a10 : PySem.W.nsIn K mainGlobals "is_rule" = some (some (.ref f10))) (l10 : K.lookup f10 = some ⟨oc10, od10, .func (PySem.W.fnOf "is_rule" "is_rule" (defArgs s_is_rule) (defBody s_is_rule) (defScope s_is_rule) .none kV10 dc10 pm10 an10 cd10 ct10), sl10⟩) (c10 : PySem.W.codeIn K cd10 "is_rule" = true) (k10 : PySem.W.keepIn K (.ref f10) = true)
    (a11 : PySem.W.nsIn K mainGlobals "term_text" = some (some (.ref f11))) (l11 : K.lookup f11 = some ⟨oc11, od11, .func (PySem.W.fnOf "term_text" "term_text" (defArgs s_term_text) (defBody s_term_text) (defScope s_term_text) .none kV11 dc11 pm11 an11 cd11 ct11), sl11⟩) (c11 : PySem.W.codeIn K cd11 "term_text" = true) (k11 : PySem.W.keepIn K (.ref f11) = true)
    (a12 : PySem.W.nsIn K mainGlobals "part_text" = some (some (.ref f12))) (l12 : K.lookup f12 = some ⟨oc12, od12, .func (PySem.W.fnOf "part_text" "part_text" (defArgs s_part_text) (defBody s_part_text) (defScope s_part_text) .none kV12 dc12 pm12 an12 cd12 ct12), sl12⟩) (c12 : PySem.W.codeIn K cd12 "part_text" = true) (k12 : PySem.W.keepIn K (.ref f12) = true)
    (a13 : PySem.W.nsIn K mainGlobals "check_rules" = some (some (.ref f13))) (l13 : K.lookup f13 = some ⟨oc13, od13, .func (PySem.W.fnOf "check_rules" "check_rules" (defArgs s_check_rules) (defBody s_check_rules) (defScope s_check_rules) (.ref dT13) kV13 dc13 pm13 an13 cd13 ct13), sl13⟩) (c13 : PySem.W.codeIn K cd13 "check_rules" = true) (k13 : PySem.W.keepIn K (.ref f13) = true)
    (dl13 : K.lookup dT13 = some ⟨.type "tuple", db13, .seq #[.none] dn13, dz13⟩)
    (a14 : PySem.W.nsIn K mainGlobals "check_single_rules" = some (some (.ref f14))) (l14 : K.lookup f14 = some ⟨oc14, od14, .func (PySem.W.fnOf "check_single_rules" "check_single_rules" (defArgs s_check_single_rules) (defBody s_check_single_rules) (defScope s_check_single_rules) .none kV14 dc14 pm14 an14 cd14 ct14), sl14⟩) (c14 : PySem.W.codeIn K cd14 "check_single_rules" = true) (k14 : PySem.W.keepIn K (.ref f14) = true)
    (a15 : PySem.W.nsIn K mainGlobals "all_terms" = some (some (.ref f15))) (l15 : K.lookup f15 = some ⟨oc15, od15, .func (PySem.W.fnOf "all_terms" "all_terms" (defArgs s_all_terms) (defBody s_all_terms) (defScope s_all_terms) .none kV15 dc15 pm15 an15 cd15 ct15), sl15⟩) (c15 : PySem.W.codeIn K cd15 "all_terms" = true) (k15 : PySem.W.keepIn K (.ref f15) = true)
    (a16 : PySem.W.nsIn K mainGlobals "vocabulary" = some (some (.ref f16))) (l16 : K.lookup f16 = some ⟨oc16, od16, .func (PySem.W.fnOf "vocabulary" "vocabulary" (defArgs s_vocabulary) (defBody s_vocabulary) (defScope s_vocabulary) (.ref dT16) kV16 dc16 pm16 an16 cd16 ct16), sl16⟩) (c16 : PySem.W.codeIn K cd16 "vocabulary" = true) (k16 : PySem.W.keepIn K (.ref f16) = true)
    (dl16 : K.lookup dT16 = some ⟨.type "tuple", db16, .seq #[.none] dn16, dz16⟩)
    (a17 : PySem.W.nsIn K mainGlobals "question_terms" = some (some (.ref f17))) (l17 : K.lookup f17 = some ⟨oc17, od17, .func (PySem.W.fnOf "question_terms" "question_terms" (defArgs s_question_terms) (defBody s_question_terms) (defScope s_question_terms) .none kV17 dc17 pm17 an17 cd17 ct17), sl17⟩) (c17 : PySem.W.codeIn K cd17 "question_terms" = true) (k17 : PySem.W.keepIn K (.ref f17) = true)
    (a18 : PySem.W.nsIn K mainGlobals "truth_under" = some (some (.ref f18))) (l18 : K.lookup f18 = some ⟨oc18, od18, .func (PySem.W.fnOf "truth_under" "truth_under" (defArgs s_truth_under) (defBody s_truth_under) (defScope s_truth_under) .none kV18 dc18 pm18 an18 cd18 ct18), sl18⟩) (c18 : PySem.W.codeIn K cd18 "truth_under" = true) (k18 : PySem.W.keepIn K (.ref f18) = true)
    (a19 : PySem.W.nsIn K mainGlobals "keeps_pair" = some (some (.ref f19))) (l19 : K.lookup f19 = some ⟨oc19, od19, .func (PySem.W.fnOf "keeps_pair" "keeps_pair" (defArgs s_keeps_pair) (defBody s_keeps_pair) (defScope s_keeps_pair) .none kV19 dc19 pm19 an19 cd19 ct19), sl19⟩) (c19 : PySem.W.codeIn K cd19 "keeps_pair" = true) (k19 : PySem.W.keepIn K (.ref f19) = true)
    (a20 : PySem.W.nsIn K mainGlobals "breaks_pair" = some (some (.ref f20))) (l20 : K.lookup f20 = some ⟨oc20, od20, .func (PySem.W.fnOf "breaks_pair" "breaks_pair" (defArgs s_breaks_pair) (defBody s_breaks_pair) (defScope s_breaks_pair) .none kV20 dc20 pm20 an20 cd20 ct20), sl20⟩) (c20 : PySem.W.codeIn K cd20 "breaks_pair" = true) (k20 : PySem.W.keepIn K (.ref f20) = true)
    (a21 : PySem.W.nsIn K mainGlobals "letters_among" = some (some (.ref f21))) (l21 : K.lookup f21 = some ⟨oc21, od21, .func (PySem.W.fnOf "letters_among" "letters_among" (defArgs s_letters_among) (defBody s_letters_among) (defScope s_letters_among) .none kV21 dc21 pm21 an21 cd21 ct21), sl21⟩) (c21 : PySem.W.codeIn K cd21 "letters_among" = true) (k21 : PySem.W.keepIn K (.ref f21) = true)
    (a22 : PySem.W.nsIn K mainGlobals "case_tree" = some (some (.ref f22))) (l22 : K.lookup f22 = some ⟨oc22, od22, .func (PySem.W.fnOf "case_tree" "case_tree" (defArgs s_case_tree) (defBody s_case_tree) (defScope s_case_tree) .none kV22 dc22 pm22 an22 cd22 ct22), sl22⟩) (c22 : PySem.W.codeIn K cd22 "case_tree" = true) (k22 : PySem.W.keepIn K (.ref f22) = true)
    (a23 : PySem.W.nsIn K mainGlobals "tree_under" = some (some (.ref f23))) (l23 : K.lookup f23 = some ⟨oc23, od23, .func (PySem.W.fnOf "tree_under" "tree_under" (defArgs s_tree_under) (defBody s_tree_under) (defScope s_tree_under) .none kV23 dc23 pm23 an23 cd23 ct23), sl23⟩) (c23 : PySem.W.codeIn K cd23 "tree_under" = true) (k23 : PySem.W.keepIn K (.ref f23) = true)
    (a24 : PySem.W.nsIn K mainGlobals "_law_source" = some (some (.ref f24))) (l24 : K.lookup f24 = some ⟨oc24, od24, .func (PySem.W.fnOf "_law_source" "_law_source" (defArgs s_law_source) (defBody s_law_source) (defScope s_law_source) .none kV24 dc24 pm24 an24 cd24 ct24), sl24⟩) (c24 : PySem.W.codeIn K cd24 "_law_source" = true) (k24 : PySem.W.keepIn K (.ref f24) = true)
    (a25 : PySem.W.nsIn K mainGlobals "_law_take" = some (some (.ref f25))) (l25 : K.lookup f25 = some ⟨oc25, od25, .func (PySem.W.fnOf "_law_take" "_law_take" (defArgs s_law_take) (defBody s_law_take) (defScope s_law_take) .none kV25 dc25 pm25 an25 cd25 ct25), sl25⟩) (c25 : PySem.W.codeIn K cd25 "_law_take" = true) (k25 : PySem.W.keepIn K (.ref f25) = true)
    (a26 : PySem.W.nsIn K mainGlobals "_law_pick" = some (some (.ref f26))) (l26 : K.lookup f26 = some ⟨oc26, od26, .func (PySem.W.fnOf "_law_pick" "_law_pick" (defArgs s_law_pick) (defBody s_law_pick) (defScope s_law_pick) .none kV26 dc26 pm26 an26 cd26 ct26), sl26⟩) (c26 : PySem.W.codeIn K cd26 "_law_pick" = true) (k26 : PySem.W.keepIn K (.ref f26) = true)
    (a27 : PySem.W.nsIn K mainGlobals "_law_mixed" = some (some (.ref f27))) (l27 : K.lookup f27 = some ⟨oc27, od27, .func (PySem.W.fnOf "_law_mixed" "_law_mixed" (defArgs s_law_mixed) (defBody s_law_mixed) (defScope s_law_mixed) .none kV27 dc27 pm27 an27 cd27 ct27), sl27⟩) (c27 : PySem.W.codeIn K cd27 "_law_mixed" = true) (k27 : PySem.W.keepIn K (.ref f27) = true)
    (a28 : PySem.W.nsIn K mainGlobals "_law_parts" = some (some (.ref f28))) (l28 : K.lookup f28 = some ⟨oc28, od28, .func (PySem.W.fnOf "_law_parts" "_law_parts" (defArgs s_law_parts) (defBody s_law_parts) (defScope s_law_parts) .none kV28 dc28 pm28 an28 cd28 ct28), sl28⟩) (c28 : PySem.W.codeIn K cd28 "_law_parts" = true) (k28 : PySem.W.keepIn K (.ref f28) = true)
    (a29 : PySem.W.nsIn K mainGlobals "_law_text" = some (some (.ref f29))) (l29 : K.lookup f29 = some ⟨oc29, od29, .func (PySem.W.fnOf "_law_text" "_law_text" (defArgs s_law_text) (defBody s_law_text) (defScope s_law_text) .none kV29 dc29 pm29 an29 cd29 ct29), sl29⟩) (c29 : PySem.W.codeIn K cd29 "_law_text" = true) (k29 : PySem.W.keepIn K (.ref f29) = true)
    (a30 : PySem.W.nsIn K mainGlobals "_law_walk" = some (some (.ref f30))) (l30 : K.lookup f30 = some ⟨oc30, od30, .func (PySem.W.fnOf "_law_walk" "_law_walk" (defArgs s_law_walk) (defBody s_law_walk) (defScope s_law_walk) .none kV30 dc30 pm30 an30 cd30 ct30), sl30⟩) (c30 : PySem.W.codeIn K cd30 "_law_walk" = true) (k30 : PySem.W.keepIn K (.ref f30) = true)
    (a31 : PySem.W.nsIn K mainGlobals "_law_signs_in" = some (some (.ref f31))) (l31 : K.lookup f31 = some ⟨oc31, od31, .func (PySem.W.fnOf "_law_signs_in" "_law_signs_in" (defArgs s_law_signs_in) (defBody s_law_signs_in) (defScope s_law_signs_in) .none kV31 dc31 pm31 an31 cd31 ct31), sl31⟩) (c31 : PySem.W.codeIn K cd31 "_law_signs_in" = true) (k31 : PySem.W.keepIn K (.ref f31) = true)
    (a32 : PySem.W.nsIn K mainGlobals "_law_by_text" = some (some (.ref f32))) (l32 : K.lookup f32 = some ⟨oc32, od32, .func (PySem.W.fnOf "_law_by_text" "_law_by_text" (defArgs s_law_by_text) (defBody s_law_by_text) (defScope s_law_by_text) .none kV32 dc32 pm32 an32 cd32 ct32), sl32⟩) (c32 : PySem.W.codeIn K cd32 "_law_by_text" = true) (k32 : PySem.W.keepIn K (.ref f32) = true)
    (a33 : PySem.W.nsIn K mainGlobals "_law_pairs" = some (some (.ref f33))) (l33 : K.lookup f33 = some ⟨oc33, od33, .func (PySem.W.fnOf "_law_pairs" "_law_pairs" (defArgs s_law_pairs) (defBody s_law_pairs) (defScope s_law_pairs) .none kV33 dc33 pm33 an33 cd33 ct33), sl33⟩) (c33 : PySem.W.codeIn K cd33 "_law_pairs" = true) (k33 : PySem.W.keepIn K (.ref f33) = true)
    (a34 : PySem.W.nsIn K mainGlobals "_law_words" = some (some (.ref f34))) (l34 : K.lookup f34 = some ⟨oc34, od34, .func (PySem.W.fnOf "_law_words" "_law_words" (defArgs s_law_words) (defBody s_law_words) (defScope s_law_words) .none kV34 dc34 pm34 an34 cd34 ct34), sl34⟩) (c34 : PySem.W.codeIn K cd34 "_law_words" = true) (k34 : PySem.W.keepIn K (.ref f34) = true)
    (a35 : PySem.W.nsIn K mainGlobals "_law_term" = some (some (.ref f35))) (l35 : K.lookup f35 = some ⟨oc35, od35, .func (PySem.W.fnOf "_law_term" "_law_term" (defArgs s_law_term) (defBody s_law_term) (defScope s_law_term) .none kV35 dc35 pm35 an35 cd35 ct35), sl35⟩) (c35 : PySem.W.codeIn K cd35 "_law_term" = true) (k35 : PySem.W.keepIn K (.ref f35) = true)
    (a36 : PySem.W.nsIn K mainGlobals "_law_signs" = some (some (.ref f36))) (l36 : K.lookup f36 = some ⟨oc36, od36, .func (PySem.W.fnOf "_law_signs" "_law_signs" (defArgs s_law_signs) (defBody s_law_signs) (defScope s_law_signs) .none kV36 dc36 pm36 an36 cd36 ct36), sl36⟩) (c36 : PySem.W.codeIn K cd36 "_law_signs" = true) (k36 : PySem.W.keepIn K (.ref f36) = true)
    (a37 : PySem.W.nsIn K mainGlobals "_law_names" = some (some (.ref f37))) (l37 : K.lookup f37 = some ⟨oc37, od37, .func (PySem.W.fnOf "_law_names" "_law_names" (defArgs s_law_names) (defBody s_law_names) (defScope s_law_names) .none kV37 dc37 pm37 an37 cd37 ct37), sl37⟩) (c37 : PySem.W.codeIn K cd37 "_law_names" = true) (k37 : PySem.W.keepIn K (.ref f37) = true)
    (a38 : PySem.W.nsIn K mainGlobals "_law_kept_few" = some (some (.ref f38))) (l38 : K.lookup f38 = some ⟨oc38, od38, .func (PySem.W.fnOf "_law_kept_few" "_law_kept_few" (defArgs s_law_kept_few) (defBody s_law_kept_few) (defScope s_law_kept_few) .none kV38 dc38 pm38 an38 cd38 ct38), sl38⟩) (c38 : PySem.W.codeIn K cd38 "_law_kept_few" = true) (k38 : PySem.W.keepIn K (.ref f38) = true)
    (a39 : PySem.W.nsIn K mainGlobals "_law_known_goal" = some (some (.ref f39))) (l39 : K.lookup f39 = some ⟨oc39, od39, .func (PySem.W.fnOf "_law_known_goal" "_law_known_goal" (defArgs s_law_known_goal) (defBody s_law_known_goal) (defScope s_law_known_goal) .none kV39 dc39 pm39 an39 cd39 ct39), sl39⟩) (c39 : PySem.W.codeIn K cd39 "_law_known_goal" = true) (k39 : PySem.W.keepIn K (.ref f39) = true)
    (a40 : PySem.W.nsIn K mainGlobals "_law_goal" = some (some (.ref f40))) (l40 : K.lookup f40 = some ⟨oc40, od40, .func (PySem.W.fnOf "_law_goal" "_law_goal" (defArgs s_law_goal) (defBody s_law_goal) (defScope s_law_goal) .none kV40 dc40 pm40 an40 cd40 ct40), sl40⟩) (c40 : PySem.W.codeIn K cd40 "_law_goal" = true) (k40 : PySem.W.keepIn K (.ref f40) = true)
    (a41 : PySem.W.nsIn K mainGlobals "_law_premises" = some (some (.ref f41))) (l41 : K.lookup f41 = some ⟨oc41, od41, .func (PySem.W.fnOf "_law_premises" "_law_premises" (defArgs s_law_premises) (defBody s_law_premises) (defScope s_law_premises) .none kV41 dc41 pm41 an41 cd41 ct41), sl41⟩) (c41 : PySem.W.codeIn K cd41 "_law_premises" = true) (k41 : PySem.W.keepIn K (.ref f41) = true)
    (a42 : PySem.W.nsIn K mainGlobals "_law_scene" = some (some (.ref f42))) (l42 : K.lookup f42 = some ⟨oc42, od42, .func (PySem.W.fnOf "_law_scene" "_law_scene" (defArgs s_law_scene) (defBody s_law_scene) (defScope s_law_scene) .none kV42 dc42 pm42 an42 cd42 ct42), sl42⟩) (c42 : PySem.W.codeIn K cd42 "_law_scene" = true) (k42 : PySem.W.keepIn K (.ref f42) = true)
    (a43 : PySem.W.nsIn K mainGlobals "_law_copied" = some (some (.ref f43))) (l43 : K.lookup f43 = some ⟨oc43, od43, .func (PySem.W.fnOf "_law_copied" "_law_copied" (defArgs s_law_copied) (defBody s_law_copied) (defScope s_law_copied) .none kV43 dc43 pm43 an43 cd43 ct43), sl43⟩) (c43 : PySem.W.codeIn K cd43 "_law_copied" = true) (k43 : PySem.W.keepIn K (.ref f43) = true)
    (a44 : PySem.W.nsIn K mainGlobals "_law_family" = some (some (.ref f44))) (l44 : K.lookup f44 = some ⟨oc44, od44, .func (PySem.W.fnOf "_law_family" "_law_family" (defArgs s_law_family) (defBody s_law_family) (defScope s_law_family) .none kV44 dc44 pm44 an44 cd44 ct44), sl44⟩) (c44 : PySem.W.codeIn K cd44 "_law_family" = true) (k44 : PySem.W.keepIn K (.ref f44) = true)
    (a45 : PySem.W.nsIn K mainGlobals "_law_rows" = some (some (.ref f45))) (l45 : K.lookup f45 = some ⟨oc45, od45, .func (PySem.W.fnOf "_law_rows" "_law_rows" (defArgs s_law_rows) (defBody s_law_rows) (defScope s_law_rows) .none kV45 dc45 pm45 an45 cd45 ct45), sl45⟩) (c45 : PySem.W.codeIn K cd45 "_law_rows" = true) (k45 : PySem.W.keepIn K (.ref f45) = true)
    (a46 : PySem.W.nsIn K mainGlobals "_law_some_rows" = some (some (.ref f46))) (l46 : K.lookup f46 = some ⟨oc46, od46, .func (PySem.W.fnOf "_law_some_rows" "_law_some_rows" (defArgs s_law_some_rows) (defBody s_law_some_rows) (defScope s_law_some_rows) .none kV46 dc46 pm46 an46 cd46 ct46), sl46⟩) (c46 : PySem.W.codeIn K cd46 "_law_some_rows" = true) (k46 : PySem.W.keepIn K (.ref f46) = true)
    (a47 : PySem.W.nsIn K mainGlobals "_law_low" = some (some (.ref f47))) (l47 : K.lookup f47 = some ⟨oc47, od47, .func (PySem.W.fnOf "_law_low" "_law_low" (defArgs s_law_low) (defBody s_law_low) (defScope s_law_low) .none kV47 dc47 pm47 an47 cd47 ct47), sl47⟩) (c47 : PySem.W.codeIn K cd47 "_law_low" = true) (k47 : PySem.W.keepIn K (.ref f47) = true)
    (a48 : PySem.W.nsIn K mainGlobals "_law_up" = some (some (.ref f48))) (l48 : K.lookup f48 = some ⟨oc48, od48, .func (PySem.W.fnOf "_law_up" "_law_up" (defArgs s_law_up) (defBody s_law_up) (defScope s_law_up) .none kV48 dc48 pm48 an48 cd48 ct48), sl48⟩) (c48 : PySem.W.codeIn K cd48 "_law_up" = true) (k48 : PySem.W.keepIn K (.ref f48) = true)
    (a49 : PySem.W.nsIn K mainGlobals "_law_tables" = some (some (.ref f49))) (l49 : K.lookup f49 = some ⟨oc49, od49, .func (PySem.W.fnOf "_law_tables" "_law_tables" (defArgs s_law_tables) (defBody s_law_tables) (defScope s_law_tables) .none kV49 dc49 pm49 an49 cd49 ct49), sl49⟩) (c49 : PySem.W.codeIn K cd49 "_law_tables" = true) (k49 : PySem.W.keepIn K (.ref f49) = true)
    (a50 : PySem.W.nsIn K mainGlobals "_law_value" = some (some (.ref f50))) (l50 : K.lookup f50 = some ⟨oc50, od50, .func (PySem.W.fnOf "_law_value" "_law_value" (defArgs s_law_value) (defBody s_law_value) (defScope s_law_value) .none kV50 dc50 pm50 an50 cd50 ct50), sl50⟩) (c50 : PySem.W.codeIn K cd50 "_law_value" = true) (k50 : PySem.W.keepIn K (.ref f50) = true)
    (a51 : PySem.W.nsIn K mainGlobals "_law_spreads" = some (some (.ref f51))) (l51 : K.lookup f51 = some ⟨oc51, od51, .func (PySem.W.fnOf "_law_spreads" "_law_spreads" (defArgs s_law_spreads) (defBody s_law_spreads) (defScope s_law_spreads) .none kV51 dc51 pm51 an51 cd51 ct51), sl51⟩) (c51 : PySem.W.codeIn K cd51 "_law_spreads" = true) (k51 : PySem.W.keepIn K (.ref f51) = true)
    (a52 : PySem.W.nsIn K mainGlobals "_law_placed" = some (some (.ref f52))) (l52 : K.lookup f52 = some ⟨oc52, od52, .func (PySem.W.fnOf "_law_placed" "_law_placed" (defArgs s_law_placed) (defBody s_law_placed) (defScope s_law_placed) .none kV52 dc52 pm52 an52 cd52 ct52), sl52⟩) (c52 : PySem.W.codeIn K cd52 "_law_placed" = true) (k52 : PySem.W.keepIn K (.ref f52) = true)
    (a53 : PySem.W.nsIn K mainGlobals "_law_keeps" = some (some (.ref f53))) (l53 : K.lookup f53 = some ⟨oc53, od53, .func (PySem.W.fnOf "_law_keeps" "_law_keeps" (defArgs s_law_keeps) (defBody s_law_keeps) (defScope s_law_keeps) .none kV53 dc53 pm53 an53 cd53 ct53), sl53⟩) (c53 : PySem.W.codeIn K cd53 "_law_keeps" = true) (k53 : PySem.W.keepIn K (.ref f53) = true)
    (a54 : PySem.W.nsIn K mainGlobals "_law_all_signs" = some (some (.ref f54))) (l54 : K.lookup f54 = some ⟨oc54, od54, .func (PySem.W.fnOf "_law_all_signs" "_law_all_signs" (defArgs s_law_all_signs) (defBody s_law_all_signs) (defScope s_law_all_signs) .none kV54 dc54 pm54 an54 cd54 ct54), sl54⟩) (c54 : PySem.W.codeIn K cd54 "_law_all_signs" = true) (k54 : PySem.W.keepIn K (.ref f54) = true)
    (a55 : PySem.W.nsIn K mainGlobals "law" = some (some (.ref f55))) (l55 : K.lookup f55 = some ⟨oc55, od55, .func (PySem.W.fnOf "law" "law" (defArgs s_law) (defBody s_law) (defScope s_law) .none kV55 dc55 pm55 an55 cd55 ct55), sl55⟩) (c55 : PySem.W.codeIn K cd55 "law" = true) (k55 : PySem.W.keepIn K (.ref f55) = true)
    (y0 : PySem.W.nsIn K mainGlobals "LETTERS" = some (some (.str "abcdefgh" ctLETTERS)))
    (y1 : PySem.W.nsIn K mainGlobals "OPERATORS" = some (some (.ref oA1))) (yl1 : K.lookup oA1 = some ⟨.type "tuple", ob1, .seq #[.str "&" ot1_0, .str "|" ot1_1] on1, os1⟩)
    (y2 : PySem.W.nsIn K mainGlobals "MAX_DEPTH" = some (some (.int 5 ctMAX_DEPTH)))
    (y3 : PySem.W.nsIn K mainGlobals "MAX_SIZE" = some (some (.int 24 ctMAX_SIZE)))
    (y4 : PySem.W.nsIn K mainGlobals "LONG_DEPTH" = some (some (.int 9 ctLONG_DEPTH)))
    (y5 : PySem.W.nsIn K mainGlobals "LONG_SIZE" = some (some (.int 600 ctLONG_SIZE)))
    (y6 : PySem.W.nsIn K mainGlobals "NAME_LETTERS" = some (some (.str "abcdefghijklmnopqrstuvwxyz" ctNAME_LETTERS)))
    (y7 : PySem.W.nsIn K mainGlobals "MAX_NAME" = some (some (.int 6 ctMAX_NAME)))
    (y8 : PySem.W.nsIn K mainGlobals "MAX_RULES" = some (some (.int 12 ctMAX_RULES)))
    (y9 : PySem.W.nsIn K mainGlobals "MAX_TERMS" = some (some (.int 24 ctMAX_TERMS)))
    (z_len : PySem.W.nsIn K mainGlobals "len" = some none)
    (z_int : PySem.W.nsIn K mainGlobals "int" = some none)
    (z_list : PySem.W.nsIn K mainGlobals "list" = some none)
    (z_str : PySem.W.nsIn K mainGlobals "str" = some none)
    (z_tuple : PySem.W.nsIn K mainGlobals "tuple" = some none)
    (z_isinstance : PySem.W.nsIn K mainGlobals "isinstance" = some none)
    (z_dict : PySem.W.nsIn K mainGlobals "dict" = some none)
    (z_all : PySem.W.nsIn K mainGlobals "all" = some none)
    (z_max : PySem.W.nsIn K mainGlobals "max" = some none)
    (z_range : PySem.W.nsIn K mainGlobals "range" = some none)
    (z_super : PySem.W.nsIn K mainGlobals "super" = some none)
    (z_sorted : PySem.W.nsIn K mainGlobals "sorted" = some none)
    (z_set : PySem.W.nsIn K mainGlobals "set" = some none)
    (z_enumerate : PySem.W.nsIn K mainGlobals "enumerate" = some none)
    (e1 : PySem.W.nsIn K mainGlobals "FaultError" = some (some (.ref CF)))
    (e23a : PySem.W.subIn K (.ref CF) (.type "BaseException") = some true)
    (e23b : PySem.W.isClsIn K CF = true)
    (e23c : PySem.W.typeIn K (.ref CF) = some (.type "type"))
    (e20 : PySem.W.nsIn K cStatics "thirdparty.any" = some none)
    (e27 : (l.prog.main.scope.names.lookup ("super" : Str)).isSome = false)
    (e2_InvalidTerm : PySem.W.nsIn K mainGlobals "InvalidTerm" = some (some (.ref C_InvalidTerm)))
    (e3_InvalidTerm : K.lookup C_InvalidTerm = some (excClassObj nm_InvalidTerm eq_InvalidTerm C_InvalidTerm eN_InvalidTerm ebs_InvalidTerm ebm_InvalidTerm true esn_InvalidTerm esub_InvalidTerm eab_InvalidTerm ecol_InvalidTerm edd_InvalidTerm ek0_InvalidTerm ek1_InvalidTerm ek2_InvalidTerm ek3_InvalidTerm ek5_InvalidTerm "ValueError.__new__"))
    (e4_InvalidTerm : PySem.HandSPX.refsVE ebm_InvalidTerm = true)
    (e5_InvalidTerm : PySem.W.findIn K (.ref C_InvalidTerm) "__setattr__" = some (some (.builtin "object.__setattr__")))
    (e6_InvalidTerm : PySem.W.subIn K (.ref C_InvalidTerm) (.type "BaseException") = some true)
    (e7_InvalidTerm : PySem.W.typeIn K (.ref C_InvalidTerm) = some (.type "type"))
    (e8_InvalidTerm : PySem.W.keepIn K (.ref C_InvalidTerm) = true)
    (e13_InvalidTerm : PySem.W.findIn K (.ref C_InvalidTerm) "__init__" = some (some (.ref f_InvalidTerm)))
    (e9_InvalidTerm : K.lookup f_InvalidTerm = some ⟨eoc_InvalidTerm, eod_InvalidTerm, .func (PySem.W.ksFn "__init__" "InvalidTerm.__init__" (defArgs s_InvalidTerm) (defBody s_InvalidTerm) (defScope s_InvalidTerm) .none ekV_InvalidTerm edoc_InvalidTerm epm_InvalidTerm ean_InvalidTerm (.ref cda_InvalidTerm) ect_InvalidTerm ecc_InvalidTerm), eosl_InvalidTerm⟩)
    (e10_InvalidTerm : PySem.W.codeIn K (.ref cda_InvalidTerm) "InvalidTerm.__init__" = true)
    (e11_InvalidTerm : K.lookup cda_InvalidTerm = some ⟨eccl_InvalidTerm, ecdd_InvalidTerm, .fields evs_InvalidTerm, eccs_InvalidTerm⟩)
    (e12_InvalidTerm : evs_InvalidTerm[2]? = some (.str efile_InvalidTerm etf_InvalidTerm))
    (e14_InvalidTerm : (l.prog.main.file == efile_InvalidTerm) = true)
    (e15_InvalidTerm : K.lookup ecc_InvalidTerm = some ⟨ecl_InvalidTerm, ecld_InvalidTerm, .cell (some (.ref C_InvalidTerm)), ecsl_InvalidTerm⟩)
    (e16_InvalidTerm : PySem.W.ks_superIn K C_InvalidTerm C_InvalidTerm "__init__" = some (some (.builtin "ValueError.__init__")))
    (e17_InvalidTerm : PySem.W.mroIn K C_InvalidTerm (.ref C_InvalidTerm) = some true)
    (e18_InvalidTerm : PySem.W.subIn K (.ref C_InvalidTerm) (.type "ValueError") = some true)
    (e19t_InvalidTerm : PySem.W.excTail FvX.veTail4 ebm_InvalidTerm = true)
    (e21_InvalidTerm : PySem.W.findIn K (.ref C_InvalidTerm) "code" = some none)
    (e22_InvalidTerm : PySem.W.typeIn K (.ref f_InvalidTerm) = some (.type "function"))
    (e23d_InvalidTerm : PySem.W.subIn K (.ref C_InvalidTerm) (.ref CF) = some true)
    (e24_InvalidTerm : PySem.W.findIn K (.ref C_InvalidTerm) "__getattribute__" = some (some (.builtin "BaseException.__getattribute__")))
    (e25_InvalidTerm : PySem.W.findIn K (.ref C_InvalidTerm) "__getattr__" = some none)
    (e26_InvalidTerm : PySem.W.hasDictIn K C_InvalidTerm = true)
    (e31_InvalidTerm : PySem.W.subIn K (.ref C_InvalidTerm) (.type "StopIteration") = some false)
    (e2_InvalidGoal : PySem.W.nsIn K mainGlobals "InvalidGoal" = some (some (.ref C_InvalidGoal)))
    (e3_InvalidGoal : K.lookup C_InvalidGoal = some (excClassObj nm_InvalidGoal eq_InvalidGoal C_InvalidGoal eN_InvalidGoal ebs_InvalidGoal ebm_InvalidGoal true esn_InvalidGoal esub_InvalidGoal eab_InvalidGoal ecol_InvalidGoal edd_InvalidGoal ek0_InvalidGoal ek1_InvalidGoal ek2_InvalidGoal ek3_InvalidGoal ek5_InvalidGoal "ValueError.__new__"))
    (e4_InvalidGoal : PySem.HandSPX.refsVE ebm_InvalidGoal = true)
    (e5_InvalidGoal : PySem.W.findIn K (.ref C_InvalidGoal) "__setattr__" = some (some (.builtin "object.__setattr__")))
    (e6_InvalidGoal : PySem.W.subIn K (.ref C_InvalidGoal) (.type "BaseException") = some true)
    (e7_InvalidGoal : PySem.W.typeIn K (.ref C_InvalidGoal) = some (.type "type"))
    (e8_InvalidGoal : PySem.W.keepIn K (.ref C_InvalidGoal) = true)
    (e13_InvalidGoal : PySem.W.findIn K (.ref C_InvalidGoal) "__init__" = some (some (.ref f_InvalidGoal)))
    (e9_InvalidGoal : K.lookup f_InvalidGoal = some ⟨eoc_InvalidGoal, eod_InvalidGoal, .func (PySem.W.ksFn "__init__" "InvalidGoal.__init__" (defArgs s_InvalidGoal) (defBody s_InvalidGoal) (defScope s_InvalidGoal) .none ekV_InvalidGoal edoc_InvalidGoal epm_InvalidGoal ean_InvalidGoal (.ref cda_InvalidGoal) ect_InvalidGoal ecc_InvalidGoal), eosl_InvalidGoal⟩)
    (e10_InvalidGoal : PySem.W.codeIn K (.ref cda_InvalidGoal) "InvalidGoal.__init__" = true)
    (e11_InvalidGoal : K.lookup cda_InvalidGoal = some ⟨eccl_InvalidGoal, ecdd_InvalidGoal, .fields evs_InvalidGoal, eccs_InvalidGoal⟩)
    (e12_InvalidGoal : evs_InvalidGoal[2]? = some (.str efile_InvalidGoal etf_InvalidGoal))
    (e14_InvalidGoal : (l.prog.main.file == efile_InvalidGoal) = true)
    (e15_InvalidGoal : K.lookup ecc_InvalidGoal = some ⟨ecl_InvalidGoal, ecld_InvalidGoal, .cell (some (.ref C_InvalidGoal)), ecsl_InvalidGoal⟩)
    (e16_InvalidGoal : PySem.W.ks_superIn K C_InvalidGoal C_InvalidGoal "__init__" = some (some (.builtin "ValueError.__init__")))
    (e17_InvalidGoal : PySem.W.mroIn K C_InvalidGoal (.ref C_InvalidGoal) = some true)
    (e18_InvalidGoal : PySem.W.subIn K (.ref C_InvalidGoal) (.type "ValueError") = some true)
    (e19t_InvalidGoal : PySem.W.excTail FvX.veTail4 ebm_InvalidGoal = true)
    (e21_InvalidGoal : PySem.W.findIn K (.ref C_InvalidGoal) "code" = some none)
    (e22_InvalidGoal : PySem.W.typeIn K (.ref f_InvalidGoal) = some (.type "function"))
    (e23d_InvalidGoal : PySem.W.subIn K (.ref C_InvalidGoal) (.ref CF) = some true)
    (e24_InvalidGoal : PySem.W.findIn K (.ref C_InvalidGoal) "__getattribute__" = some (some (.builtin "BaseException.__getattribute__")))
    (e25_InvalidGoal : PySem.W.findIn K (.ref C_InvalidGoal) "__getattr__" = some none)
    (e26_InvalidGoal : PySem.W.hasDictIn K C_InvalidGoal = true)
    (e31_InvalidGoal : PySem.W.subIn K (.ref C_InvalidGoal) (.type "StopIteration") = some false)
    (e2_InvalidRules : PySem.W.nsIn K mainGlobals "InvalidRules" = some (some (.ref C_InvalidRules)))
    (e3_InvalidRules : K.lookup C_InvalidRules = some (excClassObj nm_InvalidRules eq_InvalidRules C_InvalidRules eN_InvalidRules ebs_InvalidRules ebm_InvalidRules true esn_InvalidRules esub_InvalidRules eab_InvalidRules ecol_InvalidRules edd_InvalidRules ek0_InvalidRules ek1_InvalidRules ek2_InvalidRules ek3_InvalidRules ek5_InvalidRules "ValueError.__new__"))
    (e4_InvalidRules : PySem.HandSPX.refsVE ebm_InvalidRules = true)
    (e5_InvalidRules : PySem.W.findIn K (.ref C_InvalidRules) "__setattr__" = some (some (.builtin "object.__setattr__")))
    (e6_InvalidRules : PySem.W.subIn K (.ref C_InvalidRules) (.type "BaseException") = some true)
    (e7_InvalidRules : PySem.W.typeIn K (.ref C_InvalidRules) = some (.type "type"))
    (e8_InvalidRules : PySem.W.keepIn K (.ref C_InvalidRules) = true)
    (e13_InvalidRules : PySem.W.findIn K (.ref C_InvalidRules) "__init__" = some (some (.ref f_InvalidRules)))
    (e9_InvalidRules : K.lookup f_InvalidRules = some ⟨eoc_InvalidRules, eod_InvalidRules, .func (PySem.W.ksFn "__init__" "InvalidRules.__init__" (defArgs s_InvalidRules) (defBody s_InvalidRules) (defScope s_InvalidRules) .none ekV_InvalidRules edoc_InvalidRules epm_InvalidRules ean_InvalidRules (.ref cda_InvalidRules) ect_InvalidRules ecc_InvalidRules), eosl_InvalidRules⟩)
    (e10_InvalidRules : PySem.W.codeIn K (.ref cda_InvalidRules) "InvalidRules.__init__" = true)
    (e11_InvalidRules : K.lookup cda_InvalidRules = some ⟨eccl_InvalidRules, ecdd_InvalidRules, .fields evs_InvalidRules, eccs_InvalidRules⟩)
    (e12_InvalidRules : evs_InvalidRules[2]? = some (.str efile_InvalidRules etf_InvalidRules))
    (e14_InvalidRules : (l.prog.main.file == efile_InvalidRules) = true)
    (e15_InvalidRules : K.lookup ecc_InvalidRules = some ⟨ecl_InvalidRules, ecld_InvalidRules, .cell (some (.ref C_InvalidRules)), ecsl_InvalidRules⟩)
    (e16_InvalidRules : PySem.W.ks_superIn K C_InvalidRules C_InvalidRules "__init__" = some (some (.builtin "ValueError.__init__")))
    (e17_InvalidRules : PySem.W.mroIn K C_InvalidRules (.ref C_InvalidRules) = some true)
    (e18_InvalidRules : PySem.W.subIn K (.ref C_InvalidRules) (.type "ValueError") = some true)
    (e19t_InvalidRules : PySem.W.excTail FvX.veTail4 ebm_InvalidRules = true)
    (e21_InvalidRules : PySem.W.findIn K (.ref C_InvalidRules) "code" = some none)
    (e28_InvalidRules : PySem.W.findIn K (.ref C_InvalidRules) "index" = some none)
    (e29_InvalidRules : PySem.W.isClsIn K C_InvalidRules = true)
    (e30_InvalidRules : PySem.W.subIn K (.ref C_InvalidRules) (.ref C_InvalidRules) = some true)
    (e22_InvalidRules : PySem.W.typeIn K (.ref f_InvalidRules) = some (.type "function"))
    (e23d_InvalidRules : PySem.W.subIn K (.ref C_InvalidRules) (.ref CF) = some true)
    (e24_InvalidRules : PySem.W.findIn K (.ref C_InvalidRules) "__getattribute__" = some (some (.builtin "BaseException.__getattribute__")))
    (e25_InvalidRules : PySem.W.findIn K (.ref C_InvalidRules) "__getattr__" = some none)
    (e26_InvalidRules : PySem.W.hasDictIn K C_InvalidRules = true)
    (e31_InvalidRules : PySem.W.subIn K (.ref C_InvalidRules) (.type "StopIteration") = some false)
    (e2_TooManyTerms : PySem.W.nsIn K mainGlobals "TooManyTerms" = some (some (.ref C_TooManyTerms)))
    (e3_TooManyTerms : K.lookup C_TooManyTerms = some (excClassObj nm_TooManyTerms eq_TooManyTerms C_TooManyTerms eN_TooManyTerms ebs_TooManyTerms ebm_TooManyTerms true esn_TooManyTerms esub_TooManyTerms eab_TooManyTerms ecol_TooManyTerms edd_TooManyTerms ek0_TooManyTerms ek1_TooManyTerms ek2_TooManyTerms ek3_TooManyTerms ek5_TooManyTerms "ValueError.__new__"))
    (e4_TooManyTerms : PySem.HandSPX.refsVE ebm_TooManyTerms = true)
    (e5_TooManyTerms : PySem.W.findIn K (.ref C_TooManyTerms) "__setattr__" = some (some (.builtin "object.__setattr__")))
    (e6_TooManyTerms : PySem.W.subIn K (.ref C_TooManyTerms) (.type "BaseException") = some true)
    (e7_TooManyTerms : PySem.W.typeIn K (.ref C_TooManyTerms) = some (.type "type"))
    (e8_TooManyTerms : PySem.W.keepIn K (.ref C_TooManyTerms) = true)
    (e13_TooManyTerms : PySem.W.findIn K (.ref C_TooManyTerms) "__init__" = some (some (.ref f_TooManyTerms)))
    (e9_TooManyTerms : K.lookup f_TooManyTerms = some ⟨eoc_TooManyTerms, eod_TooManyTerms, .func (PySem.W.ksFn "__init__" "TooManyTerms.__init__" (defArgs s_TooManyTerms) (defBody s_TooManyTerms) (defScope s_TooManyTerms) .none ekV_TooManyTerms edoc_TooManyTerms epm_TooManyTerms ean_TooManyTerms (.ref cda_TooManyTerms) ect_TooManyTerms ecc_TooManyTerms), eosl_TooManyTerms⟩)
    (e10_TooManyTerms : PySem.W.codeIn K (.ref cda_TooManyTerms) "TooManyTerms.__init__" = true)
    (e11_TooManyTerms : K.lookup cda_TooManyTerms = some ⟨eccl_TooManyTerms, ecdd_TooManyTerms, .fields evs_TooManyTerms, eccs_TooManyTerms⟩)
    (e12_TooManyTerms : evs_TooManyTerms[2]? = some (.str efile_TooManyTerms etf_TooManyTerms))
    (e14_TooManyTerms : (l.prog.main.file == efile_TooManyTerms) = true)
    (e15_TooManyTerms : K.lookup ecc_TooManyTerms = some ⟨ecl_TooManyTerms, ecld_TooManyTerms, .cell (some (.ref C_TooManyTerms)), ecsl_TooManyTerms⟩)
    (e16_TooManyTerms : PySem.W.ks_superIn K C_TooManyTerms C_TooManyTerms "__init__" = some (some (.builtin "ValueError.__init__")))
    (e17_TooManyTerms : PySem.W.mroIn K C_TooManyTerms (.ref C_TooManyTerms) = some true)
    (e18_TooManyTerms : PySem.W.subIn K (.ref C_TooManyTerms) (.type "ValueError") = some true)
    (e19t_TooManyTerms : PySem.W.excTail FvX.veTail4 ebm_TooManyTerms = true)
    (e21_TooManyTerms : PySem.W.findIn K (.ref C_TooManyTerms) "code" = some none)
    (e28_TooManyTerms : PySem.W.findIn K (.ref C_TooManyTerms) "count" = some none)
    (e29_TooManyTerms : PySem.W.isClsIn K C_TooManyTerms = true)
    (e30_TooManyTerms : PySem.W.subIn K (.ref C_TooManyTerms) (.ref C_TooManyTerms) = some true)
    (e22_TooManyTerms : PySem.W.typeIn K (.ref f_TooManyTerms) = some (.type "function"))
    (e23d_TooManyTerms : PySem.W.subIn K (.ref C_TooManyTerms) (.ref CF) = some true)
    (e24_TooManyTerms : PySem.W.findIn K (.ref C_TooManyTerms) "__getattribute__" = some (some (.builtin "BaseException.__getattribute__")))
    (e25_TooManyTerms : PySem.W.findIn K (.ref C_TooManyTerms) "__getattr__" = some none)
    (e26_TooManyTerms : PySem.W.hasDictIn K C_TooManyTerms = true)
    (e31_TooManyTerms : PySem.W.subIn K (.ref C_TooManyTerms) (.type "StopIteration") = some false)
    : ∃ fd : FuncData, (∀ (s : Shared) (v : Value), BindsTo s fd ⟨[v], []⟩ [("_law_script", v)]) ∧ ∀ base : Heap, K.In base → base.Ns mainGlobals mg → FnOk l.prog w K mg base CX0 36 fa fd ["_law_script"] (spLaw K) := by
  have e := hfa.symm.trans (PySem.W.mg_of X G a55)
  cases e
  have F1 := fun_mk (st := s_is_letter) l1 c1 k1
  have g1 := PySem.W.mg_of X G a1
  have b1 := F1.binds (ps := ["value"]) fun _ _ _ _ _ _ us hl => match us, hl with | [_], _ => rfl
  have F2 := fun_mk (st := s_is_compound) l2 c2 k2
  have g2 := PySem.W.mg_of X G a2
  have b2 := F2.binds (ps := ["value"]) fun _ _ _ _ _ _ us hl => match us, hl with | [_], _ => rfl
  have F3 := fun_mk (st := s_measured) l3 c3 k3
  have g3 := PySem.W.mg_of X G a3
  have b3 := F3.binds (ps := ["value", "max_depth", "max_size"]) fun _ _ _ _ _ _ us hl => match us, hl with | [_, _, _], _ => rfl
  have F4 : FunD K "is_term" "is_term" (defArgs s_is_term) (defBody s_is_term) (defScope s_is_term) [] [("max_depth", .int 5), ("max_size", .int 24)] f4 _ := ⟨⟨_, _, _, _, _, _, _, _, _, _, rfl, l4, c4, .inl ⟨rfl, rfl⟩, .inr ⟨D4, rfl, kw_all (by
    simp only [List.mem_cons, List.not_mem_nil, or_false, forall_eq_or_imp, forall_eq]
    exact ⟨⟨_, x4_0, ⟨_, rfl⟩⟩, ⟨_, x4_1, ⟨_, rfl⟩⟩⟩)⟩⟩, k4⟩
  have g4 := PySem.W.mg_of X G a4
  have F5 := fun_mk (st := s_measured_long) l5 c5 k5
  have g5 := PySem.W.mg_of X G a5
  have b5 := F5.binds (ps := ["value"]) fun _ _ _ _ _ _ us hl => match us, hl with | [_], _ => rfl
  have F6 := fun_mk (st := s_walk) l6 c6 k6
  have g6 := PySem.W.mg_of X G a6
  have b6 := F6.binds (ps := ["term"]) fun _ _ _ _ _ _ us hl => match us, hl with | [_], _ => rfl
  have F7 := fun_mk (st := s_subterms) l7 c7 k7
  have g7 := PySem.W.mg_of X G a7
  have b7 := F7.binds (ps := ["term"]) fun _ _ _ _ _ _ us hl => match us, hl with | [_], _ => rfl
  have F8 := fun_mk (st := s_is_name) l8 c8 k8
  have g8 := PySem.W.mg_of X G a8
  have b8 := F8.binds (ps := ["text"]) fun _ _ _ _ _ _ us hl => match us, hl with | [_], _ => rfl
  have F9 := fun_mk (st := s_is_goal) l9 c9 k9
  have g9 := PySem.W.mg_of X G a9
  have b9 := F9.binds (ps := ["value"]) fun _ _ _ _ _ _ us hl => match us, hl with | [_], _ => rfl
  have F10 := fun_mk (st := s_is_rule) l10 c10 k10
  have g10 := PySem.W.mg_of X G a10
  have b10 := F10.binds (ps := ["value"]) fun _ _ _ _ _ _ us hl => match us, hl with | [_], _ => rfl
  have F11 := fun_mk (st := s_term_text) l11 c11 k11
  have g11 := PySem.W.mg_of X G a11
  have b11 := F11.binds (ps := ["term"]) fun _ _ _ _ _ _ us hl => match us, hl with | [_], _ => rfl
  have F12 := fun_mk (st := s_part_text) l12 c12 k12
  have g12 := PySem.W.mg_of X G a12
  have b12 := F12.binds (ps := ["part"]) fun _ _ _ _ _ _ us hl => match us, hl with | [_], _ => rfl
  have F13 : FunD K "check_rules" "check_rules" (defArgs s_check_rules) (defBody s_check_rules) (defScope s_check_rules) [.non] [] f13 _ := ⟨⟨_, _, _, _, _, _, _, _, _, _, rfl, l13, c13, .inr ⟨(fun z => nomatch z), dT13, _, [.none], _, rfl, dl13, rfl, (.cons rfl .nil)⟩, .inl rfl⟩, k13⟩
  have g13 := PySem.W.mg_of X G a13
  have F14 := fun_mk (st := s_check_single_rules) l14 c14 k14
  have g14 := PySem.W.mg_of X G a14
  have b14 := F14.binds (ps := ["rules"]) fun _ _ _ _ _ _ us hl => match us, hl with | [_], _ => rfl
  have F15 := fun_mk (st := s_all_terms) l15 c15 k15
  have g15 := PySem.W.mg_of X G a15
  have b15 := F15.binds (ps := ["rules", "goal"]) fun _ _ _ _ _ _ us hl => match us, hl with | [_, _], _ => rfl
  have F16 : FunD K "vocabulary" "vocabulary" (defArgs s_vocabulary) (defBody s_vocabulary) (defScope s_vocabulary) [.non] [] f16 _ := ⟨⟨_, _, _, _, _, _, _, _, _, _, rfl, l16, c16, .inr ⟨(fun z => nomatch z), dT16, _, [.none], _, rfl, dl16, rfl, (.cons rfl .nil)⟩, .inl rfl⟩, k16⟩
  have g16 := PySem.W.mg_of X G a16
  have F17 := fun_mk (st := s_question_terms) l17 c17 k17
  have g17 := PySem.W.mg_of X G a17
  have b17 := F17.binds (ps := ["rules", "goal"]) fun _ _ _ _ _ _ us hl => match us, hl with | [_, _], _ => rfl
  have F18 := fun_mk (st := s_truth_under) l18 c18 k18
  have g18 := PySem.W.mg_of X G a18
  have b18 := F18.binds (ps := ["term", "case"]) fun _ _ _ _ _ _ us hl => match us, hl with | [_, _], _ => rfl
  have F19 := fun_mk (st := s_keeps_pair) l19 c19 k19
  have g19 := PySem.W.mg_of X G a19
  have b19 := F19.binds (ps := ["case", "left", "right"]) fun _ _ _ _ _ _ us hl => match us, hl with | [_, _, _], _ => rfl
  have F20 := fun_mk (st := s_breaks_pair) l20 c20 k20
  have g20 := PySem.W.mg_of X G a20
  have b20 := F20.binds (ps := ["case", "left", "right"]) fun _ _ _ _ _ _ us hl => match us, hl with | [_, _, _], _ => rfl
  have F21 := fun_mk (st := s_letters_among) l21 c21 k21
  have g21 := PySem.W.mg_of X G a21
  have b21 := F21.binds (ps := ["terms"]) fun _ _ _ _ _ _ us hl => match us, hl with | [_], _ => rfl
  have F22 := fun_mk (st := s_case_tree) l22 c22 k22
  have g22 := PySem.W.mg_of X G a22
  have b22 := F22.binds (ps := ["rules", "goal"]) fun _ _ _ _ _ _ us hl => match us, hl with | [_, _], _ => rfl
  have F23 := fun_mk (st := s_tree_under) l23 c23 k23
  have g23 := PySem.W.mg_of X G a23
  have b23 := F23.binds (ps := ["rules", "goal", "case", "names"]) fun _ _ _ _ _ _ us hl => match us, hl with | [_, _, _, _], _ => rfl
  have F24 := fun_mk (st := s_law_source) l24 c24 k24
  have g24 := PySem.W.mg_of X G a24
  have b24 := F24.binds (ps := ["_law_script"]) fun _ _ _ _ _ _ us hl => match us, hl with | [_], _ => rfl
  have F25 := fun_mk (st := s_law_take) l25 c25 k25
  have g25 := PySem.W.mg_of X G a25
  have b25 := F25.binds (ps := ["_law_source_here", "_law_many"]) fun _ _ _ _ _ _ us hl => match us, hl with | [_, _], _ => rfl
  have F26 := fun_mk (st := s_law_pick) l26 c26 k26
  have g26 := PySem.W.mg_of X G a26
  have b26 := F26.binds (ps := ["_law_source_here", "_law_row"]) fun _ _ _ _ _ _ us hl => match us, hl with | [_, _], _ => rfl
  have F27 := fun_mk (st := s_law_mixed) l27 c27 k27
  have g27 := PySem.W.mg_of X G a27
  have b27 := F27.binds (ps := ["_law_source_here", "_law_row"]) fun _ _ _ _ _ _ us hl => match us, hl with | [_, _], _ => rfl
  have F28 := fun_mk (st := s_law_parts) l28 c28 k28
  have g28 := PySem.W.mg_of X G a28
  have b28 := F28.binds (ps := ["_law_word"]) fun _ _ _ _ _ _ us hl => match us, hl with | [_], _ => rfl
  have F29 := fun_mk (st := s_law_text) l29 c29 k29
  have g29 := PySem.W.mg_of X G a29
  have b29 := F29.binds (ps := ["_law_word"]) fun _ _ _ _ _ _ us hl => match us, hl with | [_], _ => rfl
  have F30 := fun_mk (st := s_law_walk) l30 c30 k30
  have g30 := PySem.W.mg_of X G a30
  have b30 := F30.binds (ps := ["_law_word"]) fun _ _ _ _ _ _ us hl => match us, hl with | [_], _ => rfl
  have F31 := fun_mk (st := s_law_signs_in) l31 c31 k31
  have g31 := PySem.W.mg_of X G a31
  have b31 := F31.binds (ps := ["_law_word"]) fun _ _ _ _ _ _ us hl => match us, hl with | [_], _ => rfl
  have F32 := fun_mk (st := s_law_by_text) l32 c32 k32
  have g32 := PySem.W.mg_of X G a32
  have b32 := F32.binds (ps := ["_law_row"]) fun _ _ _ _ _ _ us hl => match us, hl with | [_], _ => rfl
  have F33 := fun_mk (st := s_law_pairs) l33 c33 k33
  have g33 := PySem.W.mg_of X G a33
  have b33 := F33.binds (ps := ["_law_premises_here", "_law_aim"]) fun _ _ _ _ _ _ us hl => match us, hl with | [_, _], _ => rfl
  have F34 := fun_mk (st := s_law_words) l34 c34 k34
  have g34 := PySem.W.mg_of X G a34
  have b34 := F34.binds (ps := ["_law_pairs_here"]) fun _ _ _ _ _ _ us hl => match us, hl with | [_], _ => rfl
  have F35 := fun_mk (st := s_law_term) l35 c35 k35
  have g35 := PySem.W.mg_of X G a35
  have b35 := F35.binds (ps := ["_law_source_here", "_law_signs_here", "_law_deep", "_law_room"]) fun _ _ _ _ _ _ us hl => match us, hl with | [_, _, _, _], _ => rfl
  have F36 := fun_mk (st := s_law_signs) l36 c36 k36
  have g36 := PySem.W.mg_of X G a36
  have b36 := F36.binds (ps := ["_law_source_here", "_law_most"]) fun _ _ _ _ _ _ us hl => match us, hl with | [_, _], _ => rfl
  have F37 := fun_mk (st := s_law_names) l37 c37 k37
  have g37 := PySem.W.mg_of X G a37
  have b37 := F37.binds (ps := ["_law_source_here", "_law_many"]) fun _ _ _ _ _ _ us hl => match us, hl with | [_, _], _ => rfl
  have F38 := fun_mk (st := s_law_kept_few) l38 c38 k38
  have g38 := PySem.W.mg_of X G a38
  have b38 := F38.binds (ps := ["_law_premises_here", "_law_aim", "_law_most"]) fun _ _ _ _ _ _ us hl => match us, hl with | [_, _, _], _ => rfl
  have F39 := fun_mk (st := s_law_known_goal) l39 c39 k39
  have g39 := PySem.W.mg_of X G a39
  have b39 := F39.binds (ps := ["_law_source_here", "_law_signs_here"]) fun _ _ _ _ _ _ us hl => match us, hl with | [_, _], _ => rfl
  have F40 := fun_mk (st := s_law_goal) l40 c40 k40
  have g40 := PySem.W.mg_of X G a40
  have b40 := F40.binds (ps := ["_law_source_here", "_law_signs_here", "_law_premises_here"]) fun _ _ _ _ _ _ us hl => match us, hl with | [_, _, _], _ => rfl
  have F41 := fun_mk (st := s_law_premises) l41 c41 k41
  have g41 := PySem.W.mg_of X G a41
  have b41 := F41.binds (ps := ["_law_source_here", "_law_signs_here", "_law_most"]) fun _ _ _ _ _ _ us hl => match us, hl with | [_, _, _], _ => rfl
  have F42 := fun_mk (st := s_law_scene) l42 c42 k42
  have g42 := PySem.W.mg_of X G a42
  have b42 := F42.binds (ps := ["_law_source_here", "_law_most", "_law_words_here"]) fun _ _ _ _ _ _ us hl => match us, hl with | [_, _, _], _ => rfl
  have F43 := fun_mk (st := s_law_copied) l43 c43 k43
  have g43 := PySem.W.mg_of X G a43
  have b43 := F43.binds (ps := ["_law_row"]) fun _ _ _ _ _ _ us hl => match us, hl with | [_], _ => rfl
  have F44 := fun_mk (st := s_law_family) l44 c44 k44
  have g44 := PySem.W.mg_of X G a44
  have b44 := F44.binds (ps := ["_law_source_here", "_law_wide", "_law_many"]) fun _ _ _ _ _ _ us hl => match us, hl with | [_, _, _], _ => rfl
  have F45 := fun_mk (st := s_law_rows) l45 c45 k45
  have g45 := PySem.W.mg_of X G a45
  have b45 := F45.binds (ps := ["_law_masks"]) fun _ _ _ _ _ _ us hl => match us, hl with | [_], _ => rfl
  have F46 := fun_mk (st := s_law_some_rows) l46 c46 k46
  have g46 := PySem.W.mg_of X G a46
  have b46 := F46.binds (ps := ["_law_source_here"]) fun _ _ _ _ _ _ us hl => match us, hl with | [_], _ => rfl
  have F47 := fun_mk (st := s_law_low) l47 c47 k47
  have g47 := PySem.W.mg_of X G a47
  have b47 := F47.binds (ps := ["_law_rows_here", "_law_x", "_law_y"]) fun _ _ _ _ _ _ us hl => match us, hl with | [_, _, _], _ => rfl
  have F48 := fun_mk (st := s_law_up) l48 c48 k48
  have g48 := PySem.W.mg_of X G a48
  have b48 := F48.binds (ps := ["_law_rows_here", "_law_x", "_law_y"]) fun _ _ _ _ _ _ us hl => match us, hl with | [_, _, _], _ => rfl
  have F49 := fun_mk (st := s_law_tables) l49 c49 k49
  have g49 := PySem.W.mg_of X G a49
  have b49 := F49.binds (ps := ["_law_rows_here"]) fun _ _ _ _ _ _ us hl => match us, hl with | [_], _ => rfl
  have F50 := fun_mk (st := s_law_value) l50 c50 k50
  have g50 := PySem.W.mg_of X G a50
  have b50 := F50.binds (ps := ["_law_tables_here", "_law_word", "_law_places"]) fun _ _ _ _ _ _ us hl => match us, hl with | [_, _, _], _ => rfl
  have F51 := fun_mk (st := s_law_spreads) l51 c51 k51
  have g51 := PySem.W.mg_of X G a51
  have b51 := F51.binds (ps := ["_law_tables_here"]) fun _ _ _ _ _ _ us hl => match us, hl with | [_], _ => rfl
  have F52 := fun_mk (st := s_law_placed) l52 c52 k52
  have g52 := PySem.W.mg_of X G a52
  have b52 := F52.binds (ps := ["_law_source_here", "_law_signs_here", "_law_rows_here"]) fun _ _ _ _ _ _ us hl => match us, hl with | [_, _, _], _ => rfl
  have F53 := fun_mk (st := s_law_keeps) l53 c53 k53
  have g53 := PySem.W.mg_of X G a53
  have b53 := F53.binds (ps := ["_law_rows_here", "_law_tables_here", "_law_left", "_law_right", "_law_places"]) fun _ _ _ _ _ _ us hl => match us, hl with | [_, _, _, _, _], _ => rfl
  have F54 := fun_mk (st := s_law_all_signs) l54 c54 k54
  have g54 := PySem.W.mg_of X G a54
  have b54 := F54.binds (ps := ["_law_some"]) fun _ _ _ _ _ _ us hl => match us, hl with | [_], _ => rfl
  have F55 := fun_mk (st := s_law) l55 c55 k55
  have g55 := PySem.W.mg_of X G a55
  have g_LETTERS := PySem.W.mg_of X G y0
  have h_OPERATORS : ∀ H, SqT K H oA1 [.str "&", .str "|"] := fun H => .inr ⟨_, _, _, yl1, rfl, rfl, (Nat.le_of_ble_eq_true rfl), (.cons ⟨_, rfl⟩ (.cons ⟨_, rfl⟩ .nil))⟩
  have g_OPERATORS := PySem.W.mg_of X G y1
  have g_MAX_DEPTH := PySem.W.mg_of X G y2
  have g_MAX_SIZE := PySem.W.mg_of X G y3
  have g_LONG_DEPTH := PySem.W.mg_of X G y4
  have g_LONG_SIZE := PySem.W.mg_of X G y5
  have g_NAME_LETTERS := PySem.W.mg_of X G y6
  have g_MAX_NAME := PySem.W.mg_of X G y7
  have g_MAX_RULES := PySem.W.mg_of X G y8
  have g_MAX_TERMS := PySem.W.mg_of X G y9
  have m_len := PySem.W.mg_none_of X G z_len
  have m_int := PySem.W.mg_none_of X G z_int
  have m_list := PySem.W.mg_none_of X G z_list
  have m_str := PySem.W.mg_none_of X G z_str
  have m_tuple := PySem.W.mg_none_of X G z_tuple
  have m_isinstance := PySem.W.mg_none_of X G z_isinstance
  have m_dict := PySem.W.mg_none_of X G z_dict
  have m_all := PySem.W.mg_none_of X G z_all
  have m_max := PySem.W.mg_none_of X G z_max
  have m_range := PySem.W.mg_none_of X G z_range
  have m_super := PySem.W.mg_none_of X G z_super
  have m_sorted := PySem.W.mg_none_of X G z_sorted
  have m_set := PySem.W.mg_none_of X G z_set
  have m_enumerate := PySem.W.mg_none_of X G z_enumerate
  have g_FE := PySem.W.mg_of X G e1
  have e19_InvalidTerm : PySem.W.excInitIn K C_InvalidTerm FvX.veTail4 "ValueError.__new__" = true := by
    unfold PySem.W.excInitIn
    rw [e3_InvalidTerm]
    simp [excClassObj, e19t_InvalidTerm]
  have ex23_InvalidTerm : PySem.W.exmOne K (.ref C_InvalidTerm) (.ref CF) = some true := by
    unfold PySem.W.exmOne PySem.W.kitCls
    simp [e23a, show (PySem.W.clsIn K CF).isSome = true from e23b, e23c, e23d_InvalidTerm]
  have g_E_InvalidTerm := PySem.W.mg_of X G e2_InvalidTerm
  have OX_InvalidTerm : L2.OexC K C_InvalidTerm := ⟨⟨_, _, _, _, _, _, _, _, _, _, _, _, _, _, _, e3_InvalidTerm, e4_InvalidTerm⟩, e5_InvalidTerm, e6_InvalidTerm, e7_InvalidTerm, e8_InvalidTerm⟩
  have TI_InvalidTerm : FvX.ErrC l.prog.main.file K C_InvalidTerm f_InvalidTerm "InvalidTerm.__init__" q_InvalidTerm "this is not a term" "InvalidTerm" 0 0 := ⟨OX_InvalidTerm, ⟨_, _, _, _, _, _, _, _, _, _, _, _, _, _, _, _, _, _, _, e9_InvalidTerm, e10_InvalidTerm, e11_InvalidTerm, e12_InvalidTerm, e14_InvalidTerm, e15_InvalidTerm⟩, e16_InvalidTerm, e17_InvalidTerm, e18_InvalidTerm, e19_InvalidTerm, e20, e21_InvalidTerm, e13_InvalidTerm, e22_InvalidTerm⟩
  have LI_InvalidTerm : FvX.LineOk q_InvalidTerm "this is not a term" 0 := fun env => ⟨_, rfl⟩
  have XF_InvalidTerm : XfC K C_InvalidTerm := ⟨e24_InvalidTerm, e25_InvalidTerm, e6_InvalidTerm, e26_InvalidTerm⟩
  have e19_InvalidGoal : PySem.W.excInitIn K C_InvalidGoal FvX.veTail4 "ValueError.__new__" = true := by
    unfold PySem.W.excInitIn
    rw [e3_InvalidGoal]
    simp [excClassObj, e19t_InvalidGoal]
  have ex23_InvalidGoal : PySem.W.exmOne K (.ref C_InvalidGoal) (.ref CF) = some true := by
    unfold PySem.W.exmOne PySem.W.kitCls
    simp [e23a, show (PySem.W.clsIn K CF).isSome = true from e23b, e23c, e23d_InvalidGoal]
  have g_E_InvalidGoal := PySem.W.mg_of X G e2_InvalidGoal
  have OX_InvalidGoal : L2.OexC K C_InvalidGoal := ⟨⟨_, _, _, _, _, _, _, _, _, _, _, _, _, _, _, e3_InvalidGoal, e4_InvalidGoal⟩, e5_InvalidGoal, e6_InvalidGoal, e7_InvalidGoal, e8_InvalidGoal⟩
  have TI_InvalidGoal : FvX.ErrC l.prog.main.file K C_InvalidGoal f_InvalidGoal "InvalidGoal.__init__" q_InvalidGoal "the goal is not a pair of terms" "InvalidGoal" 0 0 := ⟨OX_InvalidGoal, ⟨_, _, _, _, _, _, _, _, _, _, _, _, _, _, _, _, _, _, _, e9_InvalidGoal, e10_InvalidGoal, e11_InvalidGoal, e12_InvalidGoal, e14_InvalidGoal, e15_InvalidGoal⟩, e16_InvalidGoal, e17_InvalidGoal, e18_InvalidGoal, e19_InvalidGoal, e20, e21_InvalidGoal, e13_InvalidGoal, e22_InvalidGoal⟩
  have LI_InvalidGoal : FvX.LineOk q_InvalidGoal "the goal is not a pair of terms" 0 := fun env => ⟨_, rfl⟩
  have XF_InvalidGoal : XfC K C_InvalidGoal := ⟨e24_InvalidGoal, e25_InvalidGoal, e6_InvalidGoal, e26_InvalidGoal⟩
  have e19_InvalidRules : PySem.W.excInitIn K C_InvalidRules FvX.veTail4 "ValueError.__new__" = true := by
    unfold PySem.W.excInitIn
    rw [e3_InvalidRules]
    simp [excClassObj, e19t_InvalidRules]
  have ex23_InvalidRules : PySem.W.exmOne K (.ref C_InvalidRules) (.ref CF) = some true := by
    unfold PySem.W.exmOne PySem.W.kitCls
    simp [e23a, show (PySem.W.clsIn K CF).isSome = true from e23b, e23c, e23d_InvalidRules]
  have ex30_InvalidRules : PySem.W.exmOne K (.ref C_InvalidRules) (.ref C_InvalidRules) = some true := by
    unfold PySem.W.exmOne PySem.W.kitCls
    simp [e6_InvalidRules, show (PySem.W.clsIn K C_InvalidRules).isSome = true from e29_InvalidRules, e7_InvalidRules, e30_InvalidRules]
  have g_E_InvalidRules := PySem.W.mg_of X G e2_InvalidRules
  have OX_InvalidRules : L2.OexC K C_InvalidRules := ⟨⟨_, _, _, _, _, _, _, _, _, _, _, _, _, _, _, e3_InvalidRules, e4_InvalidRules⟩, e5_InvalidRules, e6_InvalidRules, e7_InvalidRules, e8_InvalidRules⟩
  have TI_InvalidRules : FvX.ErrC1 l.prog.main.file K C_InvalidRules f_InvalidRules "InvalidRules.__init__" q_InvalidRules me_InvalidRules "InvalidRules" "index" 0 := ⟨OX_InvalidRules, ⟨_, _, _, _, _, _, _, _, _, _, _, _, _, _, _, _, _, _, _, e9_InvalidRules, e10_InvalidRules, e11_InvalidRules, e12_InvalidRules, e14_InvalidRules, e15_InvalidRules⟩, e16_InvalidRules, e17_InvalidRules, e18_InvalidRules, e19_InvalidRules, e20, e21_InvalidRules, e28_InvalidRules, e13_InvalidRules, e22_InvalidRules⟩
  have LI_InvalidRules : FvX.LineOk1 q_InvalidRules me_InvalidRules := fun env => ⟨_, rfl⟩
  have AI_InvalidRules : FvX.ArgsOk me_InvalidRules := fun env => rfl
  have XF_InvalidRules : XfC K C_InvalidRules := ⟨e24_InvalidRules, e25_InvalidRules, e6_InvalidRules, e26_InvalidRules⟩
  have e19_TooManyTerms : PySem.W.excInitIn K C_TooManyTerms FvX.veTail4 "ValueError.__new__" = true := by
    unfold PySem.W.excInitIn
    rw [e3_TooManyTerms]
    simp [excClassObj, e19t_TooManyTerms]
  have ex23_TooManyTerms : PySem.W.exmOne K (.ref C_TooManyTerms) (.ref CF) = some true := by
    unfold PySem.W.exmOne PySem.W.kitCls
    simp [e23a, show (PySem.W.clsIn K CF).isSome = true from e23b, e23c, e23d_TooManyTerms]
  have ex30_TooManyTerms : PySem.W.exmOne K (.ref C_TooManyTerms) (.ref C_TooManyTerms) = some true := by
    unfold PySem.W.exmOne PySem.W.kitCls
    simp [e6_TooManyTerms, show (PySem.W.clsIn K C_TooManyTerms).isSome = true from e29_TooManyTerms, e7_TooManyTerms, e30_TooManyTerms]
  have g_E_TooManyTerms := PySem.W.mg_of X G e2_TooManyTerms
  have OX_TooManyTerms : L2.OexC K C_TooManyTerms := ⟨⟨_, _, _, _, _, _, _, _, _, _, _, _, _, _, _, e3_TooManyTerms, e4_TooManyTerms⟩, e5_TooManyTerms, e6_TooManyTerms, e7_TooManyTerms, e8_TooManyTerms⟩
  have TI_TooManyTerms : FvX.ErrC1 l.prog.main.file K C_TooManyTerms f_TooManyTerms "TooManyTerms.__init__" q_TooManyTerms me_TooManyTerms "TooManyTerms" "count" 0 := ⟨OX_TooManyTerms, ⟨_, _, _, _, _, _, _, _, _, _, _, _, _, _, _, _, _, _, _, e9_TooManyTerms, e10_TooManyTerms, e11_TooManyTerms, e12_TooManyTerms, e14_TooManyTerms, e15_TooManyTerms⟩, e16_TooManyTerms, e17_TooManyTerms, e18_TooManyTerms, e19_TooManyTerms, e20, e21_TooManyTerms, e28_TooManyTerms, e13_TooManyTerms, e22_TooManyTerms⟩
  have LI_TooManyTerms : FvX.LineOk1 q_TooManyTerms me_TooManyTerms := fun env => ⟨_, rfl⟩
  have AI_TooManyTerms : FvX.ArgsOk me_TooManyTerms := fun env => rfl
  have XF_TooManyTerms : XfC K C_TooManyTerms := ⟨e24_TooManyTerms, e25_TooManyTerms, e6_TooManyTerms, e26_TooManyTerms⟩
  refine ⟨PySem.W.fnOf "law" "law" (defArgs s_law) (defBody s_law) (defScope s_law) .none kV55 dc55 pm55 an55 cd55 ct55, fun s v => .of_eq rfl, fun base _ _ => ?_⟩
  have own : ∀ {k : Nat} {x : Str} {f : Addr} {fd : FuncData} {ps : List Str} {sp : Sp}, mg x = some (.ref f) → PySem.W.keepIn K (.ref f) = true → Binds K fd ps [] → FnOk l.prog w K mg base CX0 k f fd ps sp → Own l.prog w K mg base k x ps sp := fun a b c d => ⟨_, _, a, b, c, d⟩
  have ownR : ∀ {k : Nat} {x : Str} {f : Addr} {sp : Sp}, mg x = some (.ref f) → PySem.W.keepIn K (.ref f) = true → FnR l.prog w K mg base (L2.CX l.prog w) k f sp → OwnR l.prog w K mg base k x sp := fun a b c => ⟨_, a, b, c⟩
  have raw : ∀ {k : Nat} {f : Addr} {fd : FuncData} {ps : List Str} {sp : Sp}, FnOk l.prog w K mg base (L2.CX l.prog w) k f fd ps sp → Binds K fd ps [] → FnR l.prog w K mg base (L2.CX l.prog w) k f sp := fun F b => (FnOk.raw F b .nil).imp fun vs H Q E h => by rw [List.append_nil]; exact h
  have Csource := own g24 k24 b24 (ok_source (k := 0) F24 m_list)
  have Ctake := own g25 k25 b25 (ok_take (k := 0) F25 m_len m_int)
  have Cpick := own g26 k26 b26 (ok_pick (k := 1) F26 m_len Ctake)
  have Cmixed := own g27 k27 b27 (ok_mixed (k := 1) F27 m_len Ctake)
  have Ctake2 : Own l.prog w K mg base 2 _ _ spTake := own g25 k25 b25 (ok_take (k := 1) F25 m_len m_int)
  have Csigns := own g36 k36 b36 (ok_signs (k := 2) F36 m_list Ctake2 Cmixed)
  have Tn : ∀ n : Nat, FnOk l.prog w K mg base CX0 (2 + n) f35 _ _ (spTerm K n) := fun n => by
    induction n with
    | zero => exact term_zero
    | succ n ih => exact ok_term F35 m_tuple m_range (Nat.le_add_right 2 n) Ctake Cpick (own g35 k35 b35 ih)
  have Cterm := own g35 k35 b35 (Tn 5)
  have Clet := own g1 k1 b1 (ok_is_letter (k := 0) F1 m_isinstance m_str m_len g_LETTERS)
  have Ccom := own g2 k2 b2 (ok_is_compound (k := 0) F2 m_isinstance m_tuple m_len g_OPERATORS h_OPERATORS)
  have Dn : ∀ n : Nat, FnOk l.prog w K mg base CX0 (1 + n) f3 _ _ (spMeas K n) := fun n => by
    induction n with
    | zero => exact meas_zero
    | succ n ih => exact ok_measured F3 m_max (Nat.le_add_right 1 n) Clet Ccom (own g3 k3 b3 ih)
  have Cmeasd := own g3 k3 b3 (Dn 20)
  have T := ok_is_term (P := l.prog) (w := w) (mg := mg) (base := base) (k := 21) F4 Cmeasd
  obtain ⟨ds0, vd0, bd0⟩ := binds_T F4
  have CT0 : OwnD l.prog w K mg base 22 "is_term" PsT [.int 5, .int 24] (spIsTerm K) := ⟨_, _, _, g4, k4, bd0, vd0, T⟩
  have Xn : ∀ n : Nat, FnOk l.prog w K mg base CX0 (n) f29 _ _ (spText K n) := fun n => by
    induction n with
    | zero => exact text_zero
    | succ n ih => exact ok_law_text F29 m_isinstance m_str (own g29 k29 b29 ih)
  have Ctext := own g29 k29 b29 (Xn 10)
  have TTn : ∀ n : Nat, FnOk l.prog w K mg base CX0 (2 * n + 1) f11 _ _ (spText K n) := fun n => by
    induction n with
    | zero => exact text_zero
    | succ n ih => exact ok_term_text (k := 2 * n + 2) F11 Clet (by omega) (own g12 k12 b12 (ok_part_text (k := 2 * n + 1) F12 Clet (by omega) (own g11 k11 b11 ih)))
  have Ctt := own g11 k11 b11 ((TTn 10).mono (k := 22) (by decide))
  have Clong := ownR g5 k5 (raw (ok_measured_long (k := 21) F5 g_LONG_DEPTH g_LONG_SIZE (by decide) TI_InvalidTerm LI_InvalidTerm e27 m_super g_E_InvalidTerm Cmeasd) b5)
  have Cnm := own g8 k8 b8 (ok_is_name (k := 0) F8 m_isinstance m_str m_len m_all g_MAX_NAME g_NAME_LETTERS)
  have Cgl := own g9 k9 b9 (ok_is_goal (k := 22) F9 m_isinstance m_tuple m_len CT0)
  have Crl := own g10 k10 b10 (ok_is_rule (k := 23) F10 m_isinstance m_tuple m_len (own g8 k8 b8 ((ok_is_name (k := 0) F8 m_isinstance m_str m_len m_all g_MAX_NAME g_NAME_LETTERS).mono (k := 23) (by decide))) Cgl)
  have Cnames := own g37 k37 b37 (ok_names (k := 2) F37 m_range m_int (by decide) Ctake Cpick)
  have Cparts := own g28 k28 b28 (ok_lparts (k := 0) F28 m_isinstance m_str m_list)
  have Wn : ∀ n : Nat, FnOk l.prog w K mg base CX0 (1 + n) f30 _ _ (spLWalk K n) := fun n => by
    induction n with
    | zero => exact lwalk_zero
    | succ n ih => exact ok_lwalk (k := 1 + n) F30 (by omega) Cparts (own g30 k30 b30 ih)
  have Cw := own g30 k30 b30 (Wn 10)
  have Cbt := own g32 k32 b32 (ok_by_text (k := 10) F32 m_dict m_sorted Ctext)
  have Fwo := ok_words (k := 11) F34 Cw Cbt
  have Cwo := own g34 k34 b34 Fwo
  have Cic := own g2 k2 b2 ((ok_is_compound (k := 0) F2 m_isinstance m_tuple m_len g_OPERATORS h_OPERATORS).mono (k := 22) (by decide))
  have Fsu := ok_subterms (k := 22) F7 F6 g6 m_list e31_InvalidTerm Clong Cic
  have Fal := ok_all (k := 26) F15 m_list (ownR g7 k7 (raw Fsu b7))
  have Fsi := ok_single (k := 24) F14 (by decide) TI_InvalidRules LI_InvalidRules AI_InvalidRules hme_InvalidRules e27 m_super g_E_InvalidRules m_isinstance m_list m_tuple m_len m_enumerate g_MAX_RULES Crl
  have Fch := ok_check (k := 28) F13 (by decide) TI_InvalidGoal LI_InvalidGoal g_E_InvalidGoal TI_TooManyTerms LI_TooManyTerms AI_TooManyTerms hme_TooManyTerms g_E_TooManyTerms e27 m_super m_len g_MAX_TERMS (ownR g14 k14 (raw (Fsi.mono (k := 28) (by decide)) b14)) (own g9 k9 b9 ((ok_is_goal (k := 22) F9 m_isinstance m_tuple m_len CT0).mono (k := 28) (by decide))) (own g15 k15 b15 (Fal.mono (k := 28) (by decide)))
  have Rtt : FnR l.prog w K mg base CX0 21 f11 (spText K 10) := (FnOk.raw (TTn 10) b11 .nil).imp fun vs H Q E h => by rw [List.append_nil]; exact h
  have Fvo := ok_vocabulary (k := 29) (n := 21) F16 (by decide) m_sorted g11 Rtt (ownR g13 k13 (raw Fch (check_b F13))) (own g15 k15 b15 (Fal.mono (k := 29) (by decide)))
  have Fqt := ok_question (k := 30) F17 (by decide) TI_InvalidGoal LI_InvalidGoal g_E_InvalidGoal e27 m_super (ownR g14 k14 (raw (Fsi.mono (k := 30) (by decide)) b14)) (ownR g16 k16 (raw Fvo (voc_b F16)))
  have Un : ∀ n : Nat, FnOk l.prog w K mg base CX0 (1 + n) f18 _ _ (spTru K n) := fun n => by
    induction n with
    | zero => exact tru_zero
    | succ n ih => exact ok_truth_under (k := 1 + n) F18 (by omega) Clet (own g18 k18 b18 ih)
  have Cun := own g18 k18 b18 (Un 6)
  have Fke := ok_keeps (k := 7) F19 Cun
  have Fbr := ok_breaks (k := 7) F20 Cun
  have Fle := ok_lettersZ (k := 1) F21 (by decide) Clet
  have TUn : ∀ n : Nat, FnOk l.prog w K mg base CX0 (8 + n) f23 _ _ (spTUs K n) := fun n => by
    induction n with
    | zero => exact tus_zero
    | succ n ih => exact ok_tree_underS (k := 8 + n) F23 m_len (own g20 k20 b20 (Fbr.mono (k := 8 + n) (by omega))) (own g19 k19 b19 (Fke.mono (k := 8 + n) (by omega))) (own g23 k23 b23 ih)
  have Fct := ok_case_treeS (k := 33) F22 (ownR g17 k17 (raw (Fqt.mono (k := 33) (by decide)) b17)) (own g21 k21 b21 (Fle.mono (k := 33) (by decide))) (own g23 k23 b23 (TUn 25))
  have Cpr := own g41 k41 b41 (ok_premises (k := 7) F41 (by decide) Ctake Cpick Cnames Cterm)
  have Ckn := own g39 k39 b39 (ok_known (k := 2) F39 (by decide) m_range Cpick)
  have Cgo := own g40 k40 b40 (ok_goal (k := 7) F40 (by decide) m_range Ctake Cpick Cterm Ckn)
  have Cpa := own g33 k33 b33 ((ok_pairs (k := 0) F33).mono (k := 12) (by decide))
  have Ckf := own g38 k38 b38 (ok_kept (k := 12) F38 m_len Cpa Cwo)
  have Csc := own g42 k42 b42 (ok_scene (k := 13) F42 (by decide) m_len Csigns Cpr Cgo Cwo Ckf)
  have Fsn := ok_lsigns (k := 11) F31 m_isinstance m_str m_set m_sorted Cw
  have Cas := own g54 k54 b54 ((ok_all_signs (k := 12) F54 m_set m_sorted (own g31 k31 b31 Fsn)).mono (k := 33) (by decide))
  have Ccp := own g43 k43 b43 (ok_copied (k := 0) F43)
  have Cro := own g45 k45 b45 (ok_rows (k := 0) F45 m_str m_int)
  have Cfa := own g44 k44 b44 (ok_family (k := 2) F44 m_range (by decide) Ctake Cmixed Ccp)
  have Csr := own g46 k46 b46 (ok_some_rows (k := 3) F46 (by decide) Ctake Cmixed Cro Cfa)
  have Clo := own g47 k47 b47 (ok_low (k := 0) F47 m_len m_range m_all)
  have Cup := own g48 k48 b48 (ok_up (k := 0) F48 m_len m_range m_all)
  have Cta := own g49 k49 b49 (ok_tables (k := 1) F49 m_len m_list m_range Clo Cup)
  have Csp := own g51 k51 b51 (ok_spreads (k := 0) F51 m_len m_list m_range)
  have VLn : ∀ n : Nat, FnOk l.prog w K mg base CX0 (n) f50 _ _ (spVal K n) := fun n => by
    induction n with
    | zero => exact val_zero
    | succ n ih => exact ok_value F50 m_isinstance m_str m_int (own g50 k50 b50 ih)
  have Cke := own g53 k53 b53 (ok_keepsB (k := 6) F53 (own g50 k50 b50 (VLn 6)))
  have Cpl := own g52 k52 b52 (ok_placed (k := 1) F52 m_len m_dict Ctake)
  exact ok_law (k := 35) F55 (by decide) m_range m_list m_all Csource Ctake Cmixed Cro Csr Cta Csp Csc (ownR g22 k22 (raw Fct b22)) (own g33 k33 b33 (ok_pairs (k := 0) F33)) Cwo Cas Cpl Cke
theorem walk {l : PySem.W.OpenLaw} {q : Program} {loose : List Str} {XP : (Str → Option Value) → Heap → Prop} {YP : World → Heap → Prop} {d : DefRec} {K : Params → PySem.W.Frag} (hn : l.most = some 63) (hdf : d.params.defaults = [])
    (hY : ∀ (w : World) (h : Heap), YP w h → (K w.params).In h)
    (F : ∀ (w : World) (mg : Str → Option Value) (fa : Addr) (h : Heap), (K w.params).In h → h.Ns mainGlobals mg → mg d.name = some (.ref fa) →
      ∃ fd : FuncData, (∀ (s : Shared) (u : Value), BindsTo s fd ⟨[u], []⟩ [("_law_script", u)]) ∧ ∀ base : Heap, (K w.params).In base → base.Ns mainGlobals mg → FnOk l.prog w (K w.params) mg base CX0 36 fa fd ["_law_script"] (spLaw (K w.params))) :
    PySem.W.WalkO q loose XP YP l.row.toRowW d [] (fun f vs => PySem.call f vs) :=
  L2.walk_of (n := 63) (k := 36) (x := "_law_script") (CX := fun _ => CX0) (sp := fun w => spLaw (K w.params)) hn (by decide) hdf ⟨rfl, by decide, by decide⟩ hY F (fun _ _ a ns hl _ hS => ⟨a, ns, rfl, hS, hl, fun _ => rfl⟩) fun _ _ _ _ _ z => z
end Fv
open PySem PySem.W PyProof.Rows
set_option maxRecDepth 100000 in
set_option maxHeartbeats 0 in
theorem PySem.Challenge.cw_fivefault_k34_whole_trees_hold_on_spread_holds : PySem.Challenge.rw_fivefault_k34_whole_trees_hold_on_spread.Holds := by
  w_on; o_law; k_head; (case hw => w_witness2)
  k_fill
  refine Fv.walk (l := PySem.Challenge.rw_fivefault_k34_whole_trees_hold_on_spread) rfl rfl (fun w h Y => PySem.W.kIn_of Y) ?F
  case F =>
    intro w mg fa h KX G hmg
    refine' Fv.all_mk KX G hmg ?a1 ?l1 ?c1 ?k1 ?a2 ?l2 ?c2 ?k2 ?a3 ?l3 ?c3 ?k3 ?a4 ?l4 ?c4 ?k4 ?x4_0 ?x4_1 ?a5 ?l5 ?c5 ?k5 ?a6 ?l6 ?c6 ?k6 ?a7 ?l7 ?c7 ?k7 ?a8 ?l8 ?c8 ?k8 ?a9 ?l9 ?c9 ?k9 ?a10 ?l10 ?c10 ?k10 ?a11 ?l11 ?c11 ?k11 ?a12 ?l12 ?c12 ?k12 ?a13 ?l13 ?c13 ?k13 ?dl13 ?a14 ?l14 ?c14 ?k14 ?a15 ?l15 ?c15 ?k15 ?a16 ?l16 ?c16 ?k16 ?dl16 ?a17 ?l17 ?c17 ?k17 ?a18 ?l18 ?c18 ?k18 ?a19 ?l19 ?c19 ?k19 ?a20 ?l20 ?c20 ?k20 ?a21 ?l21 ?c21 ?k21 ?a22 ?l22 ?c22 ?k22 ?a23 ?l23 ?c23 ?k23 ?a24 ?l24 ?c24 ?k24 ?a25 ?l25 ?c25 ?k25 ?a26 ?l26 ?c26 ?k26 ?a27 ?l27 ?c27 ?k27 ?a28 ?l28 ?c28 ?k28 ?a29 ?l29 ?c29 ?k29 ?a30 ?l30 ?c30 ?k30 ?a31 ?l31 ?c31 ?k31 ?a32 ?l32 ?c32 ?k32 ?a33 ?l33 ?c33 ?k33 ?a34 ?l34 ?c34 ?k34 ?a35 ?l35 ?c35 ?k35 ?a36 ?l36 ?c36 ?k36 ?a37 ?l37 ?c37 ?k37 ?a38 ?l38 ?c38 ?k38 ?a39 ?l39 ?c39 ?k39 ?a40 ?l40 ?c40 ?k40 ?a41 ?l41 ?c41 ?k41 ?a42 ?l42 ?c42 ?k42 ?a43 ?l43 ?c43 ?k43 ?a44 ?l44 ?c44 ?k44 ?a45 ?l45 ?c45 ?k45 ?a46 ?l46 ?c46 ?k46 ?a47 ?l47 ?c47 ?k47 ?a48 ?l48 ?c48 ?k48 ?a49 ?l49 ?c49 ?k49 ?a50 ?l50 ?c50 ?k50 ?a51 ?l51 ?c51 ?k51 ?a52 ?l52 ?c52 ?k52 ?a53 ?l53 ?c53 ?k53 ?a54 ?l54 ?c54 ?k54 ?a55 ?l55 ?c55 ?k55 ?y0 ?y1 ?yl1 ?y2 ?y3 ?y4 ?y5 ?y6 ?y7 ?y8 ?y9 ?z_len ?z_int ?z_list ?z_str ?z_tuple ?z_isinstance ?z_dict ?z_all ?z_max ?z_range ?z_super ?z_sorted ?z_set ?z_enumerate ?e1 ?e23a ?e23b ?e23c ?e20 ?e27 ?e2_InvalidTerm ?e3_InvalidTerm ?e4_InvalidTerm ?e5_InvalidTerm ?e6_InvalidTerm ?e7_InvalidTerm ?e8_InvalidTerm ?e13_InvalidTerm ?e9_InvalidTerm ?e10_InvalidTerm ?e11_InvalidTerm ?e12_InvalidTerm ?e14_InvalidTerm ?e15_InvalidTerm ?e16_InvalidTerm ?e17_InvalidTerm ?e18_InvalidTerm ?e19t_InvalidTerm ?e21_InvalidTerm ?e22_InvalidTerm ?e23d_InvalidTerm ?e24_InvalidTerm ?e25_InvalidTerm ?e26_InvalidTerm ?e31_InvalidTerm ?e2_InvalidGoal ?e3_InvalidGoal ?e4_InvalidGoal ?e5_InvalidGoal ?e6_InvalidGoal ?e7_InvalidGoal ?e8_InvalidGoal ?e13_InvalidGoal ?e9_InvalidGoal ?e10_InvalidGoal ?e11_InvalidGoal ?e12_InvalidGoal ?e14_InvalidGoal ?e15_InvalidGoal ?e16_InvalidGoal ?e17_InvalidGoal ?e18_InvalidGoal ?e19t_InvalidGoal ?e21_InvalidGoal ?e22_InvalidGoal ?e23d_InvalidGoal ?e24_InvalidGoal ?e25_InvalidGoal ?e26_InvalidGoal ?e31_InvalidGoal ?e2_InvalidRules ?e3_InvalidRules ?e4_InvalidRules ?e5_InvalidRules ?e6_InvalidRules ?e7_InvalidRules ?e8_InvalidRules ?e13_InvalidRules ?e9_InvalidRules ?e10_InvalidRules ?e11_InvalidRules ?e12_InvalidRules ?e14_InvalidRules ?e15_InvalidRules ?e16_InvalidRules ?e17_InvalidRules ?e18_InvalidRules ?e19t_InvalidRules ?e21_InvalidRules ?e28_InvalidRules ?e29_InvalidRules ?e30_InvalidRules ?e22_InvalidRules ?e23d_InvalidRules ?e24_InvalidRules ?e25_InvalidRules ?e26_InvalidRules ?e31_InvalidRules ?e2_TooManyTerms ?e3_TooManyTerms ?e4_TooManyTerms ?e5_TooManyTerms ?e6_TooManyTerms ?e7_TooManyTerms ?e8_TooManyTerms ?e13_TooManyTerms ?e9_TooManyTerms ?e10_TooManyTerms ?e11_TooManyTerms ?e12_TooManyTerms ?e14_TooManyTerms ?e15_TooManyTerms ?e16_TooManyTerms ?e17_TooManyTerms ?e18_TooManyTerms ?e19t_TooManyTerms ?e21_TooManyTerms ?e28_TooManyTerms ?e29_TooManyTerms ?e30_TooManyTerms ?e22_TooManyTerms ?e23d_TooManyTerms ?e24_TooManyTerms ?e25_TooManyTerms ?e26_TooManyTerms ?e31_TooManyTerms
    (case a1 => k_is)
    (case l1 => k_is)
    (case c1 => k_is)
    (case k1 => k_is)
    (case a2 => k_is)
    (case l2 => k_is)
    (case c2 => k_is)
    (case k2 => k_is)
    (case a3 => k_is)
    (case l3 => k_is)
    (case c3 => k_is)
    (case k3 => k_is)
    (case a4 => k_is)
    (case l4 => k_is)
    (case c4 => k_is)
    (case k4 => k_is)
    (case x4_0 => k_is)
    (case x4_1 => k_is)
    (case a5 => k_is)
    (case l5 => k_is)
    (case c5 => k_is)
    (case k5 => k_is)
    (case a6 => k_is)
    (case l6 => k_is)
    (case c6 => k_is)
    (case k6 => k_is)
    (case a7 => k_is)
    (case l7 => k_is)
    (case c7 => k_is)
    (case k7 => k_is)
    (case a8 => k_is)
    (case l8 => k_is)
    (case c8 => k_is)
    (case k8 => k_is)
    (case a9 => k_is)
    (case l9 => k_is)
    (case c9 => k_is)
    (case k9 => k_is)
    (case a10 => k_is)
    (case l10 => k_is)
    (case c10 => k_is)
    (case k10 => k_is)
    (case a11 => k_is)
    (case l11 => k_is)
    (case c11 => k_is)
    (case k11 => k_is)
    (case a12 => k_is)
    (case l12 => k_is)
    (case c12 => k_is)
    (case k12 => k_is)
    (case a13 => k_is)
    (case l13 => k_is)
    (case c13 => k_is)
    (case k13 => k_is)
    (case dl13 => k_is)
    (case a14 => k_is)
    (case l14 => k_is)
    (case c14 => k_is)
    (case k14 => k_is)
    (case a15 => k_is)
    (case l15 => k_is)
    (case c15 => k_is)
    (case k15 => k_is)
    (case a16 => k_is)
    (case l16 => k_is)
    (case c16 => k_is)
    (case k16 => k_is)
    (case dl16 => k_is)
    (case a17 => k_is)
    (case l17 => k_is)
    (case c17 => k_is)
    (case k17 => k_is)
    (case a18 => k_is)
    (case l18 => k_is)
    (case c18 => k_is)
    (case k18 => k_is)
    (case a19 => k_is)
    (case l19 => k_is)
    (case c19 => k_is)
    (case k19 => k_is)
    (case a20 => k_is)
    (case l20 => k_is)
    (case c20 => k_is)
    (case k20 => k_is)
    (case a21 => k_is)
    (case l21 => k_is)
    (case c21 => k_is)
    (case k21 => k_is)
    (case a22 => k_is)
    (case l22 => k_is)
    (case c22 => k_is)
    (case k22 => k_is)
    (case a23 => k_is)
    (case l23 => k_is)
    (case c23 => k_is)
    (case k23 => k_is)
    (case a24 => k_is)
    (case l24 => k_is)
    (case c24 => k_is)
    (case k24 => k_is)
    (case a25 => k_is)
    (case l25 => k_is)
    (case c25 => k_is)
    (case k25 => k_is)
    (case a26 => k_is)
    (case l26 => k_is)
    (case c26 => k_is)
    (case k26 => k_is)
    (case a27 => k_is)
    (case l27 => k_is)
    (case c27 => k_is)
    (case k27 => k_is)
    (case a28 => k_is)
    (case l28 => k_is)
    (case c28 => k_is)
    (case k28 => k_is)
    (case a29 => k_is)
    (case l29 => k_is)
    (case c29 => k_is)
    (case k29 => k_is)
    (case a30 => k_is)
    (case l30 => k_is)
    (case c30 => k_is)
    (case k30 => k_is)
    (case a31 => k_is)
    (case l31 => k_is)
    (case c31 => k_is)
    (case k31 => k_is)
    (case a32 => k_is)
    (case l32 => k_is)
    (case c32 => k_is)
    (case k32 => k_is)
    (case a33 => k_is)
    (case l33 => k_is)
    (case c33 => k_is)
    (case k33 => k_is)
    (case a34 => k_is)
    (case l34 => k_is)
    (case c34 => k_is)
    (case k34 => k_is)
    (case a35 => k_is)
    (case l35 => k_is)
    (case c35 => k_is)
    (case k35 => k_is)
    (case a36 => k_is)
    (case l36 => k_is)
    (case c36 => k_is)
    (case k36 => k_is)
    (case a37 => k_is)
    (case l37 => k_is)
    (case c37 => k_is)
    (case k37 => k_is)
    (case a38 => k_is)
    (case l38 => k_is)
    (case c38 => k_is)
    (case k38 => k_is)
    (case a39 => k_is)
    (case l39 => k_is)
    (case c39 => k_is)
    (case k39 => k_is)
    (case a40 => k_is)
    (case l40 => k_is)
    (case c40 => k_is)
    (case k40 => k_is)
    (case a41 => k_is)
    (case l41 => k_is)
    (case c41 => k_is)
    (case k41 => k_is)
    (case a42 => k_is)
    (case l42 => k_is)
    (case c42 => k_is)
    (case k42 => k_is)
    (case a43 => k_is)
    (case l43 => k_is)
    (case c43 => k_is)
    (case k43 => k_is)
    (case a44 => k_is)
    (case l44 => k_is)
    (case c44 => k_is)
    (case k44 => k_is)
    (case a45 => k_is)
    (case l45 => k_is)
    (case c45 => k_is)
    (case k45 => k_is)
    (case a46 => k_is)
    (case l46 => k_is)
    (case c46 => k_is)
    (case k46 => k_is)
    (case a47 => k_is)
    (case l47 => k_is)
    (case c47 => k_is)
    (case k47 => k_is)
    (case a48 => k_is)
    (case l48 => k_is)
    (case c48 => k_is)
    (case k48 => k_is)
    (case a49 => k_is)
    (case l49 => k_is)
    (case c49 => k_is)
    (case k49 => k_is)
    (case a50 => k_is)
    (case l50 => k_is)
    (case c50 => k_is)
    (case k50 => k_is)
    (case a51 => k_is)
    (case l51 => k_is)
    (case c51 => k_is)
    (case k51 => k_is)
    (case a52 => k_is)
    (case l52 => k_is)
    (case c52 => k_is)
    (case k52 => k_is)
    (case a53 => k_is)
    (case l53 => k_is)
    (case c53 => k_is)
    (case k53 => k_is)
    (case a54 => k_is)
    (case l54 => k_is)
    (case c54 => k_is)
    (case k54 => k_is)
    (case a55 => k_is)
    (case l55 => k_is)
    (case c55 => k_is)
    (case k55 => k_is)
    (case y0 => k_is)
    (case y1 => k_is)
    (case yl1 => k_is)
    (case y2 => k_is)
    (case y3 => k_is)
    (case y4 => k_is)
    (case y5 => k_is)
    (case y6 => k_is)
    (case y7 => k_is)
    (case y8 => k_is)
    (case y9 => k_is)
    (case z_len => k_is)
    (case z_int => k_is)
    (case z_list => k_is)
    (case z_str => k_is)
    (case z_tuple => k_is)
    (case z_isinstance => k_is)
    (case z_dict => k_is)
    (case z_all => k_is)
    (case z_max => k_is)
    (case z_range => k_is)
    (case z_super => k_is)
    (case z_sorted => k_is)
    (case z_set => k_is)
    (case z_enumerate => k_is)
    (case e1 => k_is)
    (case e23a => k_is)
    (case e23b => k_is)
    (case e23c => k_is)
    (case e20 => k_is)
    (case e27 => decide +kernel)
    (case e2_InvalidTerm => k_is)
    (case e3_InvalidTerm => k_is)
    (case e4_InvalidTerm => decide +kernel)
    (case e5_InvalidTerm => k_is)
    (case e6_InvalidTerm => k_is)
    (case e7_InvalidTerm => k_is)
    (case e8_InvalidTerm => k_is)
    (case e13_InvalidTerm => k_is)
    (case e9_InvalidTerm => k_is)
    (case e10_InvalidTerm => k_is)
    (case e11_InvalidTerm => k_is)
    (case e12_InvalidTerm => exact rfl)
    (case e14_InvalidTerm => decide +kernel)
    (case e15_InvalidTerm => k_is)
    (case e16_InvalidTerm => ks_is)
    (case e17_InvalidTerm => k_is)
    (case e18_InvalidTerm => k_is)
    (case e19t_InvalidTerm => decide +kernel)
    (case e21_InvalidTerm => k_is)
    (case e22_InvalidTerm => k_is)
    (case e23d_InvalidTerm => k_is)
    (case e24_InvalidTerm => k_is)
    (case e25_InvalidTerm => k_is)
    (case e26_InvalidTerm => k_is)
    (case e31_InvalidTerm => k_is)
    (case e2_InvalidGoal => k_is)
    (case e3_InvalidGoal => k_is)
    (case e4_InvalidGoal => decide +kernel)
    (case e5_InvalidGoal => k_is)
    (case e6_InvalidGoal => k_is)
    (case e7_InvalidGoal => k_is)
    (case e8_InvalidGoal => k_is)
    (case e13_InvalidGoal => k_is)
    (case e9_InvalidGoal => k_is)
    (case e10_InvalidGoal => k_is)
    (case e11_InvalidGoal => k_is)
    (case e12_InvalidGoal => exact rfl)
    (case e14_InvalidGoal => decide +kernel)
    (case e15_InvalidGoal => k_is)
    (case e16_InvalidGoal => ks_is)
    (case e17_InvalidGoal => k_is)
    (case e18_InvalidGoal => k_is)
    (case e19t_InvalidGoal => decide +kernel)
    (case e21_InvalidGoal => k_is)
    (case e22_InvalidGoal => k_is)
    (case e23d_InvalidGoal => k_is)
    (case e24_InvalidGoal => k_is)
    (case e25_InvalidGoal => k_is)
    (case e26_InvalidGoal => k_is)
    (case e31_InvalidGoal => k_is)
    (case e2_InvalidRules => k_is)
    (case e3_InvalidRules => k_is)
    (case e4_InvalidRules => decide +kernel)
    (case e5_InvalidRules => k_is)
    (case e6_InvalidRules => k_is)
    (case e7_InvalidRules => k_is)
    (case e8_InvalidRules => k_is)
    (case e13_InvalidRules => k_is)
    (case e9_InvalidRules => k_is)
    (case e10_InvalidRules => k_is)
    (case e11_InvalidRules => k_is)
    (case e12_InvalidRules => exact rfl)
    (case e14_InvalidRules => decide +kernel)
    (case e15_InvalidRules => k_is)
    (case e16_InvalidRules => ks_is)
    (case e17_InvalidRules => k_is)
    (case e18_InvalidRules => k_is)
    (case e19t_InvalidRules => decide +kernel)
    (case e21_InvalidRules => k_is)
    (case e28_InvalidRules => k_is)
    (case e29_InvalidRules => k_is)
    (case e30_InvalidRules => k_is)
    (case e22_InvalidRules => k_is)
    (case e23d_InvalidRules => k_is)
    (case e24_InvalidRules => k_is)
    (case e25_InvalidRules => k_is)
    (case e26_InvalidRules => k_is)
    (case e31_InvalidRules => k_is)
    (case e2_TooManyTerms => k_is)
    (case e3_TooManyTerms => k_is)
    (case e4_TooManyTerms => decide +kernel)
    (case e5_TooManyTerms => k_is)
    (case e6_TooManyTerms => k_is)
    (case e7_TooManyTerms => k_is)
    (case e8_TooManyTerms => k_is)
    (case e13_TooManyTerms => k_is)
    (case e9_TooManyTerms => k_is)
    (case e10_TooManyTerms => k_is)
    (case e11_TooManyTerms => k_is)
    (case e12_TooManyTerms => exact rfl)
    (case e14_TooManyTerms => decide +kernel)
    (case e15_TooManyTerms => k_is)
    (case e16_TooManyTerms => ks_is)
    (case e17_TooManyTerms => k_is)
    (case e18_TooManyTerms => k_is)
    (case e19t_TooManyTerms => decide +kernel)
    (case e21_TooManyTerms => k_is)
    (case e28_TooManyTerms => k_is)
    (case e29_TooManyTerms => k_is)
    (case e30_TooManyTerms => k_is)
    (case e22_TooManyTerms => k_is)
    (case e23d_TooManyTerms => k_is)
    (case e24_TooManyTerms => k_is)
    (case e25_TooManyTerms => k_is)
    (case e26_TooManyTerms => k_is)
    (case e31_TooManyTerms => k_is)
