import PyProof.Rows.All
import Wide.All
import OpenK.AllK
import Wide.FinOn
import HandS.ForMost
import HandS.IsInst
import HandS.TupAny
import HandS.Flow
import HandS.SortInts
import HandS.More
import HandS.Exc
import HandS.TryOnly
import HandS.SuiteRaise
import HandS.RaiseFrom
import HandS.ExcOwn
import HandS.WordsExc
import HandS.ExcIs
import HandS.Strs
import HandS.SetBool
import HandS.TupSets
import HandS.SetFor
import HandS.Deep
import HandS.Property
import HandS.Zip
import HandS.SortKw
import HandS.Defaults
import HandS.DictTup
import HandS.DictComp
import HandS.Conv
import HandS.Walk
import KE.DataMinMax
import KE.SortData
import KE.SortKeyHeap
import HandS.Iter
import HandS.ExcValue
import KE.DatumOrd
import KE.GoesEnumKw
import KE.DataCmp
import HandS.TupLe
import KE.KDictCopyH
import PySem.Challenge.RW_wholecloth_k30_bases
set_option Elab.async false
set_option linter.all false
set_option maxRecDepth 100000
set_option maxHeartbeats 4000000
/-! The walk's own layer: M (what is owned and may change), G (what stands for good), H (both). -/
namespace Nz
open PySem L2 PySem.Spec PyProof.Rows

/-! ### heaps -/
abbrev Ex (G G' : Hp) : Prop := Same G G'
structure J (M G H : Hp) : Prop where
  m : Same M H
  g : Same G H
  d : ∀ a o, M a = some o → G a = none
theorem upd_ne' {H : Hp} {a b : Addr} {o u : HO} (e : H b = some u) (h : b ≠ a) : upd H a o b = some u := by rw [upd_ne h]; exact e
theorem Ex.new {G : Hp} {t : Addr} {o : HO} (h : G t = none) : Ex G (upd G t o) := fun a u e => by
  rw [upd_ne (ne_of_none e h)]; exact e
section
variable {M G H : Hp} {t d : Addr} {o o' : HO}
theorem J.freeM (j : J M G H) (h : H t = none) : M t = none := j.m.free h
theorem J.freeG (j : J M G H) (h : H t = none) : G t = none := j.g.free h
theorem J.newG (j : J M G H) (h : H t = none) : J M (upd G t o) (upd H t o) where
  m := fun a u e => by rw [upd_ne (ne_of_none (j.m a u e) h)]; exact j.m a u e
  g := fun a u e => by
    by_cases q : a = t
    · subst q; rw [upd_same] at e ⊢; exact e
    · rw [upd_ne q] at e ⊢; exact j.g a u e
  d := fun a u e => by rw [upd_ne (ne_of_none (j.m a u e) h)]; exact j.d a u e
theorem J.newM (j : J M G H) (h : H t = none) : J (upd M t o) G (upd H t o) where
  g := fun a u e => by rw [upd_ne (ne_of_none (j.g a u e) h)]; exact j.g a u e
  m := fun a u e => by
    by_cases q : a = t
    · subst q; rw [upd_same] at e ⊢; exact e
    · rw [upd_ne q] at e ⊢; exact j.m a u e
  d := fun a u e => by
    by_cases q : a = t
    · subst q; exact j.freeG h
    · rw [upd_ne q] at e; exact j.d a u e
theorem J.put (j : J M G H) (h : M t = some o) : J (upd M t o') G (upd H t o') where
  g := fun a u e => by
    have q : a ≠ t := fun z => by subst z; rw [j.d a o h] at e; cases e
    rw [upd_ne q]; exact j.g a u e
  m := fun a u e => by
    by_cases q : a = t
    · subst q; rw [upd_same] at e ⊢; exact e
    · rw [upd_ne q] at e ⊢; exact j.m a u e
  d := fun a u e => by
    by_cases q : a = t
    · subst q; exact j.d a o h
    · rw [upd_ne q] at e; exact j.d a u e
theorem J.freeze (j : J (upd M t o) G H) (h : M t = none) : J M (upd G t o) H where
  m := fun a u e => j.m a u (by rw [upd_ne (ne_of_none e h)]; exact e)
  g := fun a u e => by
    by_cases q : a = t
    · subst q; rw [upd_same] at e; cases e; exact j.m a _ upd_same
    · rw [upd_ne q] at e; exact j.g a u e
  d := fun a u e => by
    have q : a ≠ t := ne_of_none e h
    rw [upd_ne q]; exact j.d a u (by rw [upd_ne q]; exact e)
theorem J.freezeG (j : J (upd M t o) G H) : G t = none := j.d t o upd_same
theorem J.ex (j : J M G H) {H' : Hp} (e : Same H H') : J M G H' := ⟨j.m.trans e, j.g.trans e, j.d⟩
theorem J.start (H : Hp) : J (fun _ => none) H H := ⟨fun _ _ e => (nomatch e), Same.refl H, fun _ _ e => (nomatch e)⟩
end

/-! ### reading along -/
theorem rd_same {G G' : Hp} {a : Addr} {u : HO} (e : Same G G') (h : Rd G a u) : Rd G' a u := by
  rcases h with h | ⟨o, h⟩
  · exact .inl (e a _ h)
  · exact .inr ⟨o, e a _ h⟩
section
variable {K : PySem.W.Frag} {G G' : Hp} {a : Addr} {xs : List V}
theorem sl_of (h : G a = some (.lst xs)) : SqL K G a xs := .inl (.inl h)
theorem st_of (h : G a = some (.tup xs)) : SqT K G a xs := .inl (.inl h)
theorem sl_mono (e : Same G G') (h : SqL K G a xs) : SqL K G' a xs := h.elim (fun h => .inl (rd_same e h)) .inr
theorem st_mono (e : Same G G') (h : SqT K G a xs) : SqT K G' a xs := h.elim (fun h => .inl (rd_same e h)) .inr
end

/-! ### M but for one cell -/
def Ag (p : Addr) (M M' : Hp) : Prop := ∀ b, b ≠ p → M' b = M b
theorem Ag.refl (p : Addr) (M : Hp) : Ag p M M := fun _ _ => rfl
theorem Ag.trans {p : Addr} {M M1 M2 : Hp} (a : Ag p M M1) (b : Ag p M1 M2) : Ag p M M2 := fun c h => (b c h).trans (a c h)
theorem Ag.upd {p : Addr} {M : Hp} {o : HO} : Ag p M (upd M p o) := fun _ h => upd_ne h

/-- M without a cell -/
def del (M : Hp) (L : Addr) : Hp := fun b => if b = L then none else M b
theorem del_same {M : Hp} {L : Addr} : del M L L = none := by unfold del; rw [if_pos rfl]
theorem del_ne {M : Hp} {L b : Addr} (h : b ≠ L) : del M L b = M b := by unfold del; rw [if_neg h]
theorem J.seal {M G H : Hp} {L : Addr} {o : HO} (j : J M G H) (h : M L = some o) : J (del M L) (upd G L o) H where
  m := fun a u e => by
    by_cases q : a = L
    · subst q; rw [del_same] at e; cases e
    · rw [del_ne q] at e; exact j.m a u e
  g := fun a u e => by
    by_cases q : a = L
    · subst q; rw [upd_same] at e; cases e; exact j.m _ _ h
    · rw [upd_ne q] at e; exact j.g a u e
  d := fun a u e => by
    by_cases q : a = L
    · subst q; rw [del_same] at e; cases e
    · rw [del_ne q] at e; rw [upd_ne q]; exact j.d a u e
theorem J.out {M G H : Hp} {L : Addr} {o : HO} (j : J M G H) (h : M L = some o) : G L = none := j.d L o h
theorem J.drop {M G H : Hp} (L : Addr) (j : J M G H) : J (del M L) G H where
  m := fun a u e => by
    by_cases q : a = L
    · subst q; rw [del_same] at e; cases e
    · rw [del_ne q] at e; exact j.m a u e
  g := j.g
  d := fun a u e => by
    by_cases q : a = L
    · subst q; rw [del_same] at e; cases e
    · rw [del_ne q] at e; exact j.d a u e
/-- what stood for good is owned again, where G0 knew nothing of it -/
theorem J.thaw {M G G0 H : Hp} {b : Addr} {u : HO} (j : J M G H) (e : Ex G0 G) (h : G b = some u) (hb : G0 b = none) : J (upd M b u) G0 H where
  m := fun a x q => by
    by_cases z : a = b
    · subst z; rw [upd_same] at q; cases q; exact j.g _ _ h
    · rw [upd_ne z] at q; exact j.m a x q
  g := fun a x q => j.g a x (e a x q)
  d := fun a x q => by
    by_cases z : a = b
    · subst z; exact hb
    · rw [upd_ne z] at q
      cases r : G0 a with
      | none => rfl
      | some y => have := j.d a x q; rw [e a y r] at this; cases this
theorem J.less {M G G0 H : Hp} (j : J M G H) (e : Ex G0 G) : J M G0 H where
  m := j.m
  g := fun a x q => j.g a x (e a x q)
  d := fun a x q => by
    cases r : G0 a with
    | none => rfl
    | some y => have := j.d a x q; rw [e a y r] at this; cases this
theorem J.own {M G H : Hp} {b : Addr} {u : HO} (j : J M G H) (h : H b = some u) (hb : G b = none) : J (upd M b u) G H where
  m := fun a x q => by
    by_cases z : a = b
    · subst z; rw [upd_same] at q; cases q; exact h
    · rw [upd_ne z] at q; exact j.m a x q
  g := j.g
  d := fun a x q => by
    by_cases z : a = b
    · subst z; exact hb
    · rw [upd_ne z] at q; exact j.d a x q
/-- M but for two cells -/
def Ag2 (p L : Addr) (M M' : Hp) : Prop := ∀ b, b ≠ p → b ≠ L → M' b = M b
theorem Ag2.refl (p L : Addr) (M : Hp) : Ag2 p L M M := fun _ _ _ => rfl
theorem Ag2.upd {p L : Addr} {M M' : Hp} {o : HO} (h : Ag2 p L M M') : Ag2 p L M (upd M' L o) := fun b h1 h2 => (upd_ne h2).trans (h b h1 h2)
theorem Ag2.ag {p L : Addr} {M M1 M2 : Hp} (h : Ag2 p L M M1) (a : Ag p M1 M2) : Ag2 p L M M2 := fun b h1 h2 => (a b h1).trans (h b h1 h2)
theorem Ag2.del {p L : Addr} {M M' : Hp} (h : Ag2 p L M M') (n : M L = none) : Ag p M (del M' L) := fun b h1 => by
  by_cases q : b = L
  · subst q; rw [del_same, n]
  · rw [del_ne q]; exact h b h1 q
theorem Ag.del_eq {L : Addr} {M M2 : Hp} (a : Ag L M M2) (n : M L = none) : del M2 L = M := by
  funext b
  by_cases q : b = L
  · subst q; rw [del_same, n]
  · rw [del_ne q]; exact a b q
theorem Ag.at {p b : Addr} {M M' : Hp} {o : HO} (a : Ag p M M') (e : M b = some o) (h : b ≠ p) : M' b = some o := (a b h).trans e

/-! ### promises: al: what is known of the arguments, then J; the end likewise -/
def Sg {α : Type} (pre : α → List V → Hp → Hp → Prop) (post : α → Hp → Hp → V → Hp → Hp → Prop) : Sp := fun vs H Q _ =>
  ∃ a M G, J M G H ∧ pre a vs M G ∧ ∀ v M' G' H', J M' G' H' → Ex G G' → post a M G v M' G' → Q v H'
theorem w_sg {α : Type} {pre : α → List V → Hp → Hp → Prop} {post : α → Hp → Hp → V → Hp → Hp → Prop} {vs : List V} {M G H : Hp} {Q : VK} {E : XK} (a : α) (j : J M G H) (hp : pre a vs M G)
    (k : ∀ v M' G' H', J M' G' H' → Ex G G' → post a M G v M' G' → Q v H') : Sg pre post vs H Q E := ⟨a, M, G, j, hp, k⟩

/-! ### a def under its name -/
structure Dn (K : PySem.W.Frag) (mg : Str → Option Value) (x : Str) (st : Stmt) (ps : List Str) (f : Addr) (fd : FuncData) : Prop where
  fn : Fun K x x st f fd
  mgf : mg x = some (.ref f)
  kp : PySem.W.keepIn K (.ref f) = true
  bn : Binds K fd ps []
structure Cal (P : Program) (w : World) (K : PySem.W.Frag) (mg : Str → Option Value) (base : Heap) (CX : CXT) (k : Nat) (x : Str) (sp : Sp) : Prop where
  ex : ∃ (f : Addr) (fd : FuncData) (ps : List Str), FnOk P w K mg base CX k f fd ps sp ∧ mg x = some (.ref f) ∧ PySem.W.keepIn K (.ref f) = true ∧ Binds K fd ps []
section
variable {P : Program} {w : World} {K : PySem.W.Frag} {mg : Str → Option Value} {base : Heap} {CX : CXT}
theorem Dn.cal {x : Str} {st : Stmt} {ps : List Str} {f : Addr} {fd : FuncData} {k : Nat} {sp : Sp} (D : Dn K mg x st ps f fd) (F : FnOk P w K mg base CX k f fd ps sp) : Cal P w K mg base CX k x sp := ⟨f, fd, ps, F, D.mgf, D.kp, D.bn⟩
theorem Cal.mono {x : Str} {j k : Nat} {sp : Sp} (c : Cal P w K mg base CX j x sp) (h : j ≤ k) : Cal P w K mg base CX k x sp := by
  obtain ⟨f, fd, ps, F, a, b, d⟩ := c.ex
  exact ⟨f, fd, ps, F.mono h, a, b, d⟩
/-- a def that lets nothing out: its body -/
theorem Dn.ok {x : Str} {st : Stmt} {ps : List Str} {f : Addr} {fd : FuncData} {N : List Str} {k : Nat} {sp : Sp} (D : Dn K mg x st ps f fd) (S : FnScope N ps (defScope st)) (len : ∀ vs H Q E, sp vs H Q E → vs.length = ps.length)
    (hbody : ∀ (cdv : Value) (A : Around) (outer : List Env) (s : Shared) (H : Hp) (vs : List V) (Q : VK) (E : XK), Room k (A.deeper (envOfC x (defScope st) s.heap.objs.size f cdv)) → sp vs H Q E →
      ∃ t, PSs (cxOf CX0 P w K mg base N x (defScope st) f cdv A outer s H E).nox (defBody st) t ∧ t { nx := fun _ H' => Q .non H', rt := Q } (start N vs) H) : Cal P w K mg base CX0 (k + 1) x sp :=
  D.cal (D.fn.ok S len hbody)
end
section
variable {X : Cx} {CX : CXT} {k j : Nat} {x : Str} {sp : Sp} {p pos : Pos} {e : Expr} {es : List Expr} {t : TA} {E : XK}
theorem pe_cal (c : Cal X.prog X.w X.K X.mg X.base CX0 k x sp) (hr : Room j X.A) (hk : k ≤ j) (hg : Gl X x) (ha : PA X (e :: es) t)
    (hdb : (x == ("__debug__" : Str)) = false := by decide) (he : starEach (e :: es) X.env = (false, eval e X.env) :: starEach es X.env := by rfl) (hpl : (backTo pos (starEach es X.env)).any (·.1) = false := by rfl) :
    PE X (.Call (.Name x p) (e :: es) [] pos) (tCall sp [] E0 t) := by
  obtain ⟨f, fd, ps, F, hm, kp, b⟩ := c.ex
  exact pe_call F (hr.mono hk) hg hm kp b .nil pass0 ha hdb he hpl
theorem pe_cal0 (c : Cal X.prog X.w X.K X.mg X.base CX0 k x sp) (hr : Room j X.A) (hk : k ≤ j) (hg : Gl X x)
    (hdb : (x == ("__debug__" : Str)) = false := by decide) : PE X (.Call (.Name x p) [] [] pos) (tCall sp [] E0 tNil) := by
  obtain ⟨f, fd, ps, F, hm, kp, b⟩ := c.ex
  exact pe_call0 F (hr.mono hk) hg hm kp b .nil pass0 hdb
/-! ### operators whatever their operands are -/
def uAdd (K : PySem.W.Frag) : R2 := fun x y H Q => rI0 (fun i j => .int (i + j)) x y H Q ∨ (rCat x y H Q ∨ rCatA K x y H Q)
theorem op_uAdd : OpR X (binaryOp .Add) (uAdd X.K) := op_add.or (op_cat.or op_catA)
def uEq (K : PySem.W.Frag) : R2 := fun x y H Q => rEq x y H Q ∨ rEqD K x y H Q
theorem op_uEq (hr : Room j X.A) : OpR X (compareOp .Eq) (uEq X.K) := op_eq.or (op_eqD hr.units)
def uNe (K : PySem.W.Frag) : R2 := fun x y H Q => rNe x y H Q ∨ rNeD K x y H Q
theorem op_uNe (hr : Room j X.A) : OpR X (compareOp .NotEq) (uNe X.K) := op_ne.or (op_neD hr.units)
def uIx (K : PySem.W.Frag) : R2 := fun x y H Q => rIxL K x y H Q ∨ rIxT K x y H Q
theorem ix_u : IxR X (uIx X.K) := ix_list.or ix_tup
def uSl (K : PySem.W.Frag) : V → Option Int → Option Int → Hp → VK → Prop := fun x lo hi H Q => rSlL K x lo hi H Q ∨ rSlA K x lo hi H Q
theorem sl_u : SlR X (uSl X.K) := sl_list.or sl_tupA
def uMul : R2 := fun x y H Q => rI CMul (fun i j => .int (i * j)) x y H Q ∨ rRep x y H Q
theorem op_uMul : OpR X (binaryOp .Mult) uMul := op_mul.or op_rep
def uLen (K : PySem.W.Frag) : List V → Hp → VK → Prop := fun xs H Q => (∃ p ys, xs = [.ref p] ∧ (SqL K H p ys ∨ SqT K H p ys) ∧ Q (.int ys.length) H) ∨ (∃ a kvs, xs = [V.ref a] ∧ H a = some (.dK kvs) ∧ Q (.int kvs.length) H)
theorem call_uLen : CallR X (.builtin "len") (uLen X.K) := call_len_seq.or call_lenD
end

theorem bt_int : bootBuiltins "int" = some (.type "int") := by decide +kernel
theorem bt_str : bootBuiltins "str" = some (.type "str") := by decide +kernel
theorem bt_bool : bootBuiltins "bool" = some (.type "bool") := by decide +kernel
theorem bt_list : bootBuiltins "list" = some (.type "list") := by decide +kernel
theorem bt_tuple : bootBuiltins "tuple" = some (.type "tuple") := by decide +kernel
theorem bt_dict : bootBuiltins "dict" = some (.type "dict") := by decide +kernel
theorem bt_set : bootBuiltins "set" = some (.type "set") := by decide +kernel
theorem bt_isinstance : bootBuiltins "isinstance" = some (.builtin "isinstance") := by decide +kernel
theorem bt_min : bootBuiltins "min" = some (.builtin "min") := by decide +kernel
theorem bt_max : bootBuiltins "max" = some (.builtin "max") := by decide +kernel
theorem bt_sorted : bootBuiltins "sorted" = some (.builtin "sorted") := by decide +kernel
theorem bt_sum : bootBuiltins "sum" = some (.builtin "sum") := by decide +kernel
theorem bt_abs : bootBuiltins "abs" = some (.builtin "abs") := by decide +kernel
theorem pe_gk {X : Cx} {x : Str} {pos : Pos} {v : V} (hg : Gl X x) (h : ∃ u, X.mg x = some u ∧ RelV v u) (hd : (x == ("__debug__" : Str)) = false := by decide) : PE X (.Name x pos) (tC v) := by
  obtain ⟨u, hm, r⟩ := h
  exact pe_glob hg hm r hd

section
variable {X : Cx} {j : Nat} {K : PySem.W.Frag}
theorem op_uAddK (h : X.K = K) : OpR X (binaryOp .Add) (uAdd K) := h ▸ op_uAdd
theorem op_uEqK (h : X.K = K) (hr : Room j X.A) : OpR X (compareOp .Eq) (uEq K) := h ▸ op_uEq hr
theorem op_uNeK (h : X.K = K) (hr : Room j X.A) : OpR X (compareOp .NotEq) (uNe K) := h ▸ op_uNe hr
theorem ix_uK (h : X.K = K) : IxR X (uIx K) := h ▸ ix_u
theorem sl_uK (h : X.K = K) : SlR X (uSl K) := h ▸ sl_u
theorem call_uLenK (h : X.K = K) : CallR X (.builtin "len") (uLen K) := h ▸ call_uLen
theorem call_isiK' (h : X.K = K) : CallR X (.builtin "isinstance") (rIsi K) := h ▸ call_isi
theorem op_inK (h : X.K = K) : OpR X (compareOp .In) (rIn K false) := h ▸ op_in_seq
theorem op_notInK (h : X.K = K) : OpR X (compareOp .NotIn) (rIn K true) := h ▸ op_notIn_seq
end

/-! ### the steps -/
section
variable {K : PySem.W.Frag} {M G H : Hp} {σ : L2.St} {i : Nat} {v x y : V} {ta tb tc te : TE} {r r' : R2} {Q : VK} {D : Ends} {t u : TS} {c c' : TT} {QB : Bool → Hp → Prop} {g : TG} {a b p : Addr} {xs ys : List V} {m n : Int} {QL : List V → Hp → Prop}
theorem w_var (h : σ[i]? = some (some v)) (q : Q v H) : tVar i σ H Q := ⟨v, h, q⟩
theorem w_c (q : Q v H) : tC v σ H Q := q
theorem w_op (h : ta σ H fun x H1 => tb σ H1 fun y H2 => r x y H2 Q) : tOp r ta tb σ H Q := h
theorem w_un {r : V → Hp → VK → Prop} (h : ta σ H fun x H1 => r x H1 Q) : tUn r ta σ H Q := h
theorem w_chain (h : ta σ H fun x H1 => tb σ H1 fun y H2 => r x y H2 fun z H3 => ∃ k, z = .bl k ∧ (if k = true then tc σ H3 fun w' H4 => r' y w' H4 Q else Q (.bl false) H3)) : tChain r r' ta tb tc σ H Q := h
theorem w_test (h : ta σ H fun x H' => ∃ k, x = .bl k ∧ QB k H') : tTest ta σ H QB := h
theorem w_tB (h : ta σ H fun x H' => ∃ k, x = .bl k ∧ QB k H') : tB ta σ H QB := h
theorem w_bl {P : Bool → Prop} {b : Bool} (q : P b) : ∃ k, V.bl b = .bl k ∧ P k := ⟨b, rfl, q⟩
theorem w_and (h : c σ H fun k H1 => if k = true then c' σ H1 QB else QB false H1) : tAnd c c' σ H QB := h
theorem w_or (h : c σ H fun k H1 => if k = true then QB true H1 else c' σ H1 QB) : tOr c c' σ H QB := h
theorem w_not (h : c σ H fun k H1 => QB (!k) H1) : tNot c σ H QB := h
theorem w_andV (h : ta σ H fun x H1 => ∃ k, x = .bl k ∧ if k = true then tb σ H1 Q else Q (.bl false) H1) : tAndV ta tb σ H Q := h
theorem w_orV (h : ta σ H fun x H1 => ∃ k, x = .bl k ∧ if k = true then Q (.bl true) H1 else tb σ H1 Q) : tOrV ta tb σ H Q := h
theorem w_notV (h : ta σ H fun x H1 => ∃ k, x = .bl k ∧ Q (.bl (!k)) H1) : tNotV ta σ H Q := h
theorem w_ifE (h : c σ H fun k H1 => if k = true then ta σ H1 Q else tb σ H1 Q) : tIf c ta tb σ H Q := h
theorem w_isN (h : ta σ H fun x H1 => Q (.bl (decide (x = .non))) H1) : tIsN ta σ H Q := h
theorem w_notN (h : ta σ H fun x H1 => Q (.bl (!decide (x = .non))) H1) : tNotN ta σ H Q := h
/- statements -/
theorem w_seq (h : t { D with nx := u D } σ H) : tSeq t u D σ H := h
theorem w_next (h : D.nx σ H) : tNext D σ H := h
theorem w_ret (h : te σ H D.rt) : tRet te D σ H := h
theorem w_retN (h : D.rt .non H) : tRetN D σ H := h
theorem w_if (h : c σ H fun b H1 => if b = true then t D σ H1 else u D σ H1) : tIfS c t u D σ H := h
theorem w_asg (h : te σ H fun x H1 => g x σ H1 D.nx) : tAsg te g D σ H := h
theorem w_drop (h : te σ H fun _ H1 => D.nx σ H1) : tDrop te D σ H := h
theorem w_gName {R : L2.St → Hp → Prop} (h : R (σ.set i (some v)) H) : gName i v σ H R := h
theorem w_gSub {s : TSet} {to ti : TE} {R : L2.St → Hp → Prop} (h : to σ H fun o H1 => ti σ H1 fun i H2 => s o i v H2 fun H3 => R σ H3) : gSub to ti s v σ H R := h
theorem w_gTup {gs : TGs} {R : L2.St → Hp → Prop} (j : J M G H) (h : SqT K G a xs) (l : xs.length = i) (q : gs xs σ H R) : gTup K i gs (.ref a) σ H R := ⟨a, xs, rfl, st_mono j.g h, l, q⟩
theorem w_gCons {g : TG} {gs : TGs} {R : L2.St → Hp → Prop} (q : g v σ H fun σ' H' => gs xs σ' H' R) : gCons g gs (v :: xs) σ H R := ⟨v, xs, rfl, q⟩
theorem w_gNil {R : L2.St → Hp → Prop} (q : R σ H) : gNil [] σ H R := ⟨rfl, q⟩
/- arguments, calls -/
theorem w_anil (q : QL [] H) : tNil σ H QL := q
theorem w_acons {tr : TA} (h : ta σ H fun x H1 => tr σ H1 fun xs H2 => QL (x :: xs) H2) : tCons ta tr σ H QL := h
theorem w_call {sp : Sp} {dvs : List V} {E : XK} {tr : TA} (h : tr σ H fun vs H1 => sp (vs ++ dvs) H1 Q E) : tCall sp dvs E tr σ H Q := h
theorem w_cb {r : List V → Hp → VK → Prop} {tr : TA} (h : tr σ H fun vs H1 => r vs H1 Q) : tCB r tr σ H Q := h
def NewO (o : HO) (n : Nat) (H : Hp) (Q : VK) : Prop := n ≤ sizeLine ∧ ∀ p, H p = none → Q (.ref p) (upd H p o)
theorem w_tup {tr : TA} (h : tr σ H fun xs H1 => NewO (.tup xs) xs.length H1 Q) : tTup tr σ H Q := h
theorem w_lst {tr : TA} (h : tr σ H fun xs H1 => NewO (.lst xs) xs.length H1 Q) : tLst tr σ H Q := h
theorem sz_le {n : Nat} (h : n ≤ 1000000) : n ≤ sizeLine := Nat.le_trans h (by decide)
theorem sz_lt {n : Nat} (h : n < 1000000) : n < sizeLine := Nat.lt_of_lt_of_le h (by decide)
/-- a new object that stands for good -/
theorem w_new {o : HO} {n : Nat} (j : J M G H) (z : n ≤ sizeLine) (k : ∀ p G' H', J M G' H' → Ex G G' → G' p = some o → G p = none → Q (.ref p) H') : NewO o n H Q :=
  ⟨z, fun p h => k p _ _ (j.newG h) (Ex.new (j.freeG h)) upd_same (j.freeG h)⟩
/-- .. that may change -/
theorem w_newM {o : HO} {n : Nat} (j : J M G H) (z : n ≤ sizeLine) (k : ∀ p H', J (upd M p o) G H' → M p = none → G p = none → Q (.ref p) H') : NewO o n H Q :=
  ⟨z, fun p h => k p _ (j.newM h) (j.freeM h) (j.freeG h)⟩
/- operators -/
theorem w_I0 {f : Int → Int → V} (q : Q (f m n) H) : rI0 f (.int m) (.int n) H Q := ⟨m, n, rfl, rfl, q⟩
theorem w_I {C : Int → Int → Prop} {f : Int → Int → V} (hc : C m n) (q : Q (f m n) H) : rI C f (.int m) (.int n) H Q := ⟨m, n, rfl, rfl, hc, q⟩
theorem w_U {f : Int → V} (q : Q (f m) H) : rU f (.int m) H Q := ⟨m, rfl, q⟩
theorem w_addI (q : Q (.int (m + n)) H) : uAdd K (.int m) (.int n) H Q := .inl (w_I0 q)
theorem w_mulI (hc : CMul m n) (q : Q (.int (m * n)) H) : uMul (.int m) (.int n) H Q := .inl (w_I hc q)
theorem w_eqI (q : Q (.bl (decide (m = n))) H) : uEq K (.int m) (.int n) H Q := .inl ⟨rfl, by
  have e : decide (V.int m = V.int n) = decide (m = n) := decide_eq_decide.mpr ⟨fun h => V.int.inj h, fun h => h ▸ rfl⟩
  rw [e]; exact q⟩
theorem w_neI (q : Q (.bl (!decide (m = n))) H) : uNe K (.int m) (.int n) H Q := .inl ⟨rfl, by
  have e : decide (V.int m = V.int n) = decide (m = n) := decide_eq_decide.mpr ⟨fun h => V.int.inj h, fun h => h ▸ rfl⟩
  rw [e]; exact q⟩
theorem w_eqV {k : Bool} (hs : scal x y = true) (e : decide (x = y) = k) (q : Q (.bl k) H) : uEq K x y H Q := .inl ⟨hs, by rw [e]; exact q⟩
theorem w_eqS {k : Bool} {s1 s2 : Str} (e : decide (s1 = s2) = k) (q : Q (.bl k) H) : uEq K (.str s1) (.str s2) H Q := .inl ⟨rfl, by
  have e' : decide (V.str s1 = V.str s2) = decide (s1 = s2) := decide_eq_decide.mpr ⟨fun h => V.str.inj h, fun h => h ▸ rfl⟩
  rw [e', e]; exact q⟩
theorem w_neV {k : Bool} (hs : scal x y = true) (e : (!decide (x = y)) = k) (q : Q (.bl k) H) : uNe K x y H Q := .inl ⟨hs, by rw [e]; exact q⟩
theorem w_ixL (j : J M G H) (h : SqL K G a xs) (e : atI xs m = some v) (q : Q v H) : uIx K (.ref a) (.int m) H Q := .inl ⟨a, xs, m, v, rfl, rfl, sl_mono j.g h, e, q⟩
theorem w_ixT (j : J M G H) (h : SqT K G a xs) (e : atI xs m = some v) (q : Q v H) : uIx K (.ref a) (.int m) H Q := .inr ⟨a, xs, m, v, rfl, rfl, st_mono j.g h, e, q⟩
theorem w_ixM (j : J M G H) (h : M a = some (.lst xs)) (e : atI xs m = some v) (q : Q v H) : uIx K (.ref a) (.int m) H Q := .inl ⟨a, xs, m, v, rfl, rfl, .inl (.inl (j.m a _ h)), e, q⟩
theorem w_lenL (j : J M G H) (h : SqL K G a xs) (q : Q (.int xs.length) H) : uLen K [.ref a] H Q := .inl ⟨a, xs, rfl, .inl (sl_mono j.g h), q⟩
theorem w_lenT (j : J M G H) (h : SqT K G a xs) (q : Q (.int xs.length) H) : uLen K [.ref a] H Q := .inl ⟨a, xs, rfl, .inr (st_mono j.g h), q⟩
theorem w_lenM (j : J M G H) (h : M a = some (.lst xs)) (q : Q (.int xs.length) H) : uLen K [.ref a] H Q := .inl ⟨a, xs, rfl, .inl (.inl (.inl (j.m a _ h))), q⟩
theorem w_setM {QH : Hp → Prop} {jx : Nat} (j : J M G H) (h : M a = some (.lst xs)) (e : ixN xs.length m = some jx) (q : ∀ H', J (upd M a (.lst (xs.set jx v))) G H' → QH H') : rSetL (.ref a) (.int m) v H QH :=
  ⟨a, xs, m, jx, rfl, rfl, j.m a _ h, e, q _ (j.put h)⟩
/- methods -/
theorem w_bm {T : String} {r : V → List V → Hp → VK → Prop} {tr : TA} (h : ta σ H fun x H1 => tyV K T x H1 ∧ tr σ H1 fun xs H2 => r x xs H2 Q) : tBM K T r ta tr σ H Q := h
theorem w_appendM (j : J M G H) (h : M a = some (.lst xs)) (z : xs.length < sizeLine) (q : ∀ H', J (upd M a (.lst (xs ++ [v]))) G H' → Q .non H') : rAppend (.ref a) [v] H Q :=
  ⟨a, xs, v, rfl, rfl, j.m a _ h, z, q _ (j.put h)⟩
theorem ty_listM (j : J M G H) (h : M a = some (.lst xs)) : tyV K "list" (.ref a) H := .inl ⟨rfl, xs, .inl (.inl (j.m a _ h))⟩
theorem ty_listG (j : J M G H) (h : SqL K G a xs) : tyV K "list" (.ref a) H := .inl ⟨rfl, xs, sl_mono j.g h⟩
/- two ways -/
theorem w_two {k : Bool} {A B : Prop} (h1 : k = true → A) (h2 : k = false → B) : if k = true then A else B := by
  cases k with
  | true => rw [if_pos rfl]; exact h1 rfl
  | false => rw [if_neg Bool.false_ne_true]; exact h2 rfl
theorem w_dec {p : Prop} [Decidable p] {A B : Prop} (h1 : p → A) (h2 : ¬ p → B) : if decide p = true then A else B := w_two (fun h => h1 (of_decide_eq_true h)) fun h => h2 (of_decide_eq_false h)
theorem w_decN {p : Prop} [Decidable p] {A B : Prop} (h1 : ¬ p → A) (h2 : p → B) : if (!decide p) = true then A else B := w_two (fun h => h1 (of_decide_eq_false (by simpa using h))) fun h => h2 (of_decide_eq_true (by simpa using h))
theorem w_T {A B : Prop} (h : A) : if true = true then A else B := by rw [if_pos rfl]; exact h
theorem w_F {A B : Prop} (h : B) : if false = true then A else B := by rw [if_neg Bool.false_ne_true]; exact h
theorem w_nt {A B : Prop} (h : B) : if (!true) = true then A else B := w_F h
theorem w_nf {A B : Prop} (h : A) : if (!false) = true then A else B := w_T h
theorem w_dT {p : Prop} [Decidable p] {A B : Prop} (h : p) (q : A) : if decide p = true then A else B := by rw [decide_eq_true h]; exact w_T q
theorem w_dF {p : Prop} [Decidable p] {A B : Prop} (h : ¬ p) (q : B) : if decide p = true then A else B := by rw [decide_eq_false h]; exact w_F q
theorem w_nT {p : Prop} [Decidable p] {A B : Prop} (h : p) (q : B) : if (!decide p) = true then A else B := by rw [decide_eq_true h]; exact w_F q
theorem w_nF {p : Prop} [Decidable p] {A B : Prop} (h : ¬ p) (q : A) : if (!decide p) = true then A else B := by rw [decide_eq_false h]; exact w_T q
/- loops -/
theorem w_forL {tl : TE} {a : Addr} (h : tl σ H fun v H1 => v = .ref a ∧ SqL K H1 a xs ∧ ∃ Pv : Nat → L2.St → Hp → Prop, Pv 0 σ H1 ∧ (∀ i σ H, i ≤ xs.length → Pv i σ H → SqL K H a xs) ∧
    (∀ i x σ H, xs[i]? = some x → Pv i σ H → g x σ H fun σ2 H2 => t { D with nx := Pv (i + 1), ct := Pv (i + 1), bk := D.nx } σ2 H2) ∧ ∀ σ H, Pv xs.length σ H → D.nx σ H)
    (mono : ∀ Q Q' : VK, (∀ v H, Q v H → Q' v H) → tl σ H Q → tl σ H Q') : tFor (iList K tl) g t D σ H := by
  refine mono _ _ (fun v H1 q => ?_) h
  obtain ⟨rfl, hs, Pv, h0, hl, hs', hd⟩ := q
  exact ⟨a, rfl, ⟨xs, hs⟩, for_list Pv h0 hl hs' hd⟩
theorem mono_var (Q Q' : VK) (h : ∀ v H, Q v H → Q' v H) (q : tVar i σ H Q) : tVar i σ H Q' := by
  obtain ⟨v, e, q⟩ := q
  exact ⟨v, e, h v H q⟩
/-- for x in xs, xs a local name -/
theorem w_forLV {s : Nat} {a : Addr} (e : σ[s]? = some (some (.ref a))) (Pv : Nat → L2.St → Hp → Prop) (hS : SqL K H a xs) (h0 : Pv 0 σ H) (hl : ∀ i σ H, i ≤ xs.length → Pv i σ H → SqL K H a xs)
    (hs : ∀ i x σ H, xs[i]? = some x → Pv i σ H → g x σ H fun σ2 H2 => t { D with nx := Pv (i + 1), ct := Pv (i + 1), bk := D.nx } σ2 H2) (hd : ∀ σ H, Pv xs.length σ H → D.nx σ H) : tFor (iList K (tVar s)) g t D σ H :=
  ⟨.ref a, e, a, rfl, ⟨xs, hS⟩, for_list Pv h0 hl hs hd⟩
theorem w_forTV {s : Nat} {a : Addr} (e : σ[s]? = some (some (.ref a))) (Pv : Nat → L2.St → Hp → Prop) (hS : SqT K H a xs) (h0 : Pv 0 σ H) (hl : ∀ i σ H, i ≤ xs.length → Pv i σ H → SqT K H a xs)
    (hs : ∀ i x σ H, xs[i]? = some x → Pv i σ H → g x σ H fun σ2 H2 => t { D with nx := Pv (i + 1), ct := Pv (i + 1), bk := D.nx } σ2 H2) (hd : ∀ σ H, Pv xs.length σ H → D.nx σ H) : tFor (iTup K (tVar s)) g t D σ H :=
  ⟨.ref a, e, a, rfl, ⟨xs, hS⟩, for_tup Pv h0 hl hs hd⟩
/-- for k in range(e) -/
def RngR (g : TG) (t : TS) (D : Ends) (σ : L2.St) : List V → Hp → Prop := fun vs H1 => ∃ j : Int, vs = [.int j] ∧ -(2 ^ 62) ≤ j ∧ j < 2 ^ 62 ∧ ∃ Pv : Nat → L2.St → Hp → Prop, Pv 0 σ H1 ∧
  (∀ i σ H, i < j.toNat → Pv i σ H → g (.int i) σ H fun σ2 H2 => t { D with nx := Pv (i + 1), ct := Pv (i + 1), bk := D.nx } σ2 H2) ∧ ∀ σ H, Pv j.toNat σ H → D.nx σ H
theorem RngR.go {vs : List V} (h : RngR g t D σ vs H) : ∃ j : Int, vs = [.int j] ∧ -(2 ^ 62) ≤ j ∧ j < 2 ^ 62 ∧ ∃ W : Nat → Nat → L2.St → Hp → Prop, (∃ m, W 0 m σ H) ∧ ∀ i m σ H, W i m σ H →
      ((Itr 0 j.toNat).stop i H ∧ D.nx σ H) ∨ ((Itr 0 j.toNat).go i H ∧ ∃ N : L2.St → Hp → Prop, (∀ σ' H', N σ' H' → ∃ m', m' < m ∧ W (i + 1) m' σ' H') ∧ ∀ x H', (Itr 0 j.toNat).yld i H x H' → g x σ H' fun σ2 H2 => t { D with nx := N, ct := N, bk := D.nx } σ2 H2) := by
  obtain ⟨jj, e, h1, h2, Pv, h0, hs, hd⟩ := h
  refine ⟨jj, e, h1, h2, for_range Pv h0 (fun i σ H hi p => ?_) hd⟩
  have q := hs i σ H hi p
  rw [Int.zero_add]; exact q
def RngD (g : TG) (t : TS) (D : Ends) (σ : L2.St) (vs : List V) (H : Hp) : Prop := ∃ j : Int, vs = [.int j] ∧ -(2 ^ 62) ≤ j ∧ j < 2 ^ 62 ∧ ∃ W : Nat → Nat → L2.St → Hp → Prop, (∃ m, W 0 m σ H) ∧ ∀ i m σ H, W i m σ H →
      ((Itr 0 j.toNat).stop i H ∧ D.nx σ H) ∨ ((Itr 0 j.toNat).go i H ∧ ∃ N : L2.St → Hp → Prop, (∀ σ' H', N σ' H' → ∃ m', m' < m ∧ W (i + 1) m' σ' H') ∧ ∀ x H', (Itr 0 j.toNat).yld i H x H' → g x σ H' fun σ2 H2 => t { D with nx := N, ct := N, bk := D.nx } σ2 H2)
theorem w_forR {ta : TA} (h : ta σ H fun vs H1 => RngD g t D σ vs H1) : tFor (iRng1 ta) g t D σ H := h
theorem w_rng (Pv : Nat → L2.St → Hp → Prop) (h0 : Pv 0 σ H)
    (hs : ∀ i σ H, i < m.toNat → Pv i σ H → g (.int i) σ H fun σ2 H2 => t { D with nx := Pv (i + 1), ct := Pv (i + 1), bk := D.nx } σ2 H2) (hd : ∀ σ H, Pv m.toNat σ H → D.nx σ H) (h1 : -(2 ^ 62) ≤ m := by first | decide | omega) (h2 : m < 2 ^ 62 := by first | decide | omega) :
    RngD g t D σ [.int m] H := RngR.go ⟨m, rfl, h1, h2, Pv, h0, hs, hd⟩
theorem w_appendU (j : J (upd M a (.lst xs)) G H) (z : xs.length < 1000000) (q : ∀ H', J (upd M a (.lst (xs ++ [v]))) G H' → Q .non H') : rAppend (.ref a) [v] H Q :=
  w_appendM j upd_same (sz_lt z) fun H' j' => q H' (by rw [upd_upd] at j'; exact j')
theorem w_appendA (j : J M G H) (h : M a = some (.lst xs)) (z : xs.length < 1000000) (q : ∀ H', J (upd M a (.lst (xs ++ [v]))) G H' → Q .non H') : rAppend (.ref a) [v] H Q := w_appendM j h (sz_lt z) q
theorem ty_listU (j : J (upd M a (.lst xs)) G H) : tyV K "list" (.ref a) H := ty_listM j upd_same
theorem map_snoc (ns : List Int) (n : Int) : ns.map V.int ++ [V.int n] = (ns ++ [n]).map V.int := by rw [List.map_append]; rfl
/-- list(xs), xs[a:b] of lists, xs + ys -/
theorem w_catL (h1 : H a = some (.lst xs)) (h2 : H b = some (.lst ys)) (k : NewO (.lst (xs ++ ys)) (xs.length + ys.length) H Q) : uAdd K (.ref a) (.ref b) H Q :=
  .inr (.inl ⟨a, b, xs, ys, rfl, rfl, h1, h2, k.1, k.2⟩)
theorem w_slL {lo hi : Option Int} (j : J M G H) (h : SqL K G a xs) (k : NewO (.lst (cutV xs lo hi)) 0 H Q) : uSl K (.ref a) lo hi H Q := .inl ⟨a, xs, rfl, sl_mono j.g h, k.2⟩
theorem w_slT {lo hi : Option Int} (j : J M G H) (h : SqT K G a xs) (k1 : HT.sIx xs.length 0 lo = 0 ∧ HT.sIx xs.length xs.length hi = xs.length → Q (.ref a) H)
    (k : ¬ (HT.sIx xs.length 0 lo = 0 ∧ HT.sIx xs.length xs.length hi = xs.length) → NewO (.tup (cutV xs lo hi)) 0 H Q) : uSl K (.ref a) lo hi H Q := .inr ⟨a, xs, rfl, st_mono j.g h, k1, fun h => (k h).2⟩
def PartX (x : V) (H : Hp) (Q : Option Int → Hp → Prop) : Prop := ∃ i, x = .int i ∧ Q (some i) H
theorem w_part {QO : Option Int → Hp → Prop} (h : te σ H fun x H1 => PartX x H1 QO) : tPart te σ H QO := h
theorem w_partX {QO : Option Int → Hp → Prop} (h : QO (some m) H) : PartX (.int m) H QO := ⟨m, rfl, h⟩
theorem w_nopart {QO : Option Int → Hp → Prop} (h : QO none H) : tNoPart σ H QO := h
theorem atI_0 {α : Type} {y : α} {ys : List α} : atI (y :: ys) 0 = some y := atI_nat (j := 0) rfl
theorem w_sl {r : V → Option Int → Option Int → Hp → VK → Prop} {tl th : TO} (h : te σ H fun x H1 => tl σ H1 fun l H2 => th σ H2 fun u H3 => r x l u H3 Q) : tSl r te tl th σ H Q := h
/-! comprehensions -/
variable {tt : TT} {vs : List Nat} {s : Nat}
/-- the block's end at one element: the new list stands at L as before, it gets y -/
def StepL (L : Addr) (acc : List V) (R : List V → Hp → Hp → Prop) (y : V) (H4 : Hp) : Prop := ∃ M4 G4, J M4 G4 H4 ∧ M4 L = some (.lst acc) ∧ acc.length < sizeLine ∧ R (acc ++ [y]) (upd M4 L (.lst (acc ++ [y]))) G4
def SkipL (L : Addr) (acc : List V) (R : List V → Hp → Hp → Prop) (H3 : Hp) : Prop := ∃ M3 G3, J M3 G3 H3 ∧ M3 L = some (.lst acc) ∧ R acc M3 G3
def LcI (P : Addr → Nat → List V → Hp → Hp → Prop) (L : Addr) (i : Nat) (H : Hp) : Prop := ∃ acc M1 G1, J M1 G1 H ∧ M1 L = some (.lst acc) ∧ P L i acc M1 G1
theorem StepL.go {P : Addr → Nat → List V → Hp → Hp → Prop} {L : Addr} {acc : List V} {k : Nat} (h : StepL L acc (P L k) y H) : ∃ acc', H L = some (.lst acc') ∧ acc'.length < sizeLine ∧ LcI P L k (upd H L (.lst (acc' ++ [y]))) := by
  obtain ⟨M4, G4, j, e, z, r⟩ := h
  exact ⟨acc, j.m _ _ e, z, acc ++ [y], _, _, j.put e, upd_same, r⟩
def LcD (J' : It) (g : TG) (tt : TT) (te : TE) (vs : List Nat) (σ : L2.St) (H1 : Hp) (Q : VK) : Prop := ∀ D, H1 D = none → ∃ W : Nat → Nat → Hp → Prop, (∃ m, W 0 m (upd H1 D (.lst []))) ∧ ∀ i m H, W i m H →
  (J'.stop i H ∧ Q (.ref D) H) ∨ (J'.go i H ∧ ∃ Nx : Hp → Prop, (∀ H', Nx H' → ∃ m', m' < m ∧ W (i + 1) m' H') ∧ ∀ x H', J'.yld i H x H' → g x (wipe σ vs) H' fun σ2 H2 => wipe σ2 vs = wipe σ vs ∧ tt σ2 H2 fun b H3 =>
    if b = true then te σ2 H3 fun y H4 => ∃ acc, H4 D = some (.lst acc) ∧ acc.length < sizeLine ∧ Nx (upd H4 D (.lst (acc ++ [y]))) else Nx H3)
def LcR (g : TG) (tt : TT) (te : TE) (vs : List Nat) (σ : L2.St) (vs' : List V) (H1 : Hp) (Q : VK) : Prop := ∃ j : Int, vs' = [.int j] ∧ -(2 ^ 62) ≤ j ∧ j < 2 ^ 62 ∧ LcD (Itr 0 j.toNat) g tt te vs σ H1 Q
def LcL (K : PySem.W.Frag) (g : TG) (tt : TT) (te : TE) (vs : List Nat) (σ : L2.St) (x : V) (H1 : Hp) (Q : VK) : Prop := ∃ a, x = .ref a ∧ (∃ xs, SqL K H1 a xs) ∧ LcD (Itl K a) g tt te vs σ H1 Q
theorem w_lcR {ta : TA} (h : ta σ H fun vs' H1 => LcR g tt te vs σ vs' H1 Q) : tLc (iRng1 ta) g tt te vs σ H Q := h
theorem w_lcL {tl : TE} (h : tl σ H fun x H1 => LcL K g tt te vs σ x H1 Q) : tLc (iList K tl) g tt te vs σ H Q := h
/-- [e for k in range(m)]; the element's reading must be monotone in what is wanted: it is given by its steps, so the law of the turn is asked for any wish that is weaker -/
theorem w_lcr (j : J M G H) (P : Addr → Nat → List V → Hp → Hp → Prop) (h0 : ∀ L, M L = none → G L = none → P L 0 [] (upd M L (.lst [])) G) (hw : ∀ x, wipe ((wipe σ vs).set s (some x)) vs = wipe σ vs)
    (hs : ∀ L i acc M1 G1 H1 (R : V → Hp → Prop), i < m.toNat → J M1 G1 H1 → M1 L = some (.lst acc) → P L i acc M1 G1 → (∀ y H4, StepL L acc (P L (i + 1)) y H4 → R y H4) → te ((wipe σ vs).set s (some (.int i))) H1 R)
    (hd : ∀ L acc M1 G1 H1, J M1 G1 H1 → M1 L = some (.lst acc) → P L m.toNat acc M1 G1 → Q (.ref L) H1) (h1 : -(2 ^ 62) ≤ m := by first | decide | omega) (h2 : m < 2 ^ 62 := by first | decide | omega) : LcR (gName s) tYes te vs σ [.int m] H Q := by
  refine ⟨m, rfl, h1, h2, fun L hL => lc_range (LcI P L) ⟨[], _, _, j.newM hL, upd_same, h0 L (j.freeM hL) (j.freeG hL)⟩ (fun i H1 hi p => ?_) fun H1 p => ?_⟩
  · obtain ⟨acc, M1, G1, j1, e, p⟩ := p
    rw [Int.zero_add]
    refine ⟨hw (.int i), ?_⟩
    refine w_T (B := LcI P L (i + 1) H1) ?_
    refine hs L i acc M1 G1 H1 _ hi j1 e p ?_
    intro y H4 q
    exact q.go
  · obtain ⟨acc, M1, G1, j1, e, p⟩ := p
    exact hd L acc M1 G1 H1 j1 e p
/-- [e for x in xs if t] -/
theorem w_lcl (j : J M G H) (P : Addr → Nat → List V → Hp → Hp → Prop) (hx : SqL K G a xs) (h0 : ∀ L, M L = none → G L = none → P L 0 [] (upd M L (.lst [])) G) (hG : ∀ L i acc M1 G1, P L i acc M1 G1 → Ex G G1) (hw : ∀ x, wipe ((wipe σ vs).set s (some x)) vs = wipe σ vs)
    (hs : ∀ L i x acc M1 G1 H1 (R : Bool → Hp → Prop), xs[i]? = some x → J M1 G1 H1 → M1 L = some (.lst acc) → P L i acc M1 G1 →
      (∀ b H3, (if b = true then te ((wipe σ vs).set s (some x)) H3 (fun y H4 => ∃ acc, H4 L = some (.lst acc) ∧ acc.length < sizeLine ∧ LcI P L (i + 1) (upd H4 L (.lst (acc ++ [y])))) else SkipL L acc (P L (i + 1)) H3) → R b H3) → tt ((wipe σ vs).set s (some x)) H1 R)
    (hd : ∀ L acc M1 G1 H1, J M1 G1 H1 → M1 L = some (.lst acc) → P L xs.length acc M1 G1 → Q (.ref L) H1) : LcL K (gName s) tt te vs σ (.ref a) H Q := by
  refine ⟨a, rfl, ⟨xs, sl_mono j.g hx⟩, fun L hL => lc_list (xs := xs) (LcI P L) ⟨[], _, _, j.newM hL, upd_same, h0 L (j.freeM hL) (j.freeG hL)⟩ (fun i H1 _ p => ?_) (fun i x H1 hi p => ?_) fun H1 p => ?_⟩
  · obtain ⟨acc, M1, G1, j1, e, p⟩ := p
    exact sl_mono ((hG _ _ _ _ _ p).trans j1.g) hx
  · obtain ⟨acc, M1, G1, j1, e, p⟩ := p
    refine ⟨hw _, ?_⟩
    refine hs L i x acc M1 G1 H1 _ hi j1 e p fun b H3 q => ?_
    cases b with
    | true => rw [if_pos rfl] at q ⊢; exact q
    | false =>
      rw [if_neg Bool.false_ne_true] at q ⊢
      obtain ⟨M3, G3, j3, e3, r⟩ := q
      exact ⟨acc, M3, G3, j3, e3, r⟩
  · obtain ⟨acc, M1, G1, j1, e, p⟩ := p
    exact hd L acc M1 G1 H1 j1 e p
theorem w_yes {R : Bool → Hp → Prop} (h : R true H) : tYes σ H R := h
/-! dicts -/
variable {kvs : List (Key × V)} {td ty tx tv : TE}
def Hd (M G : Hp) (a : Addr) (kvs : List (Key × V)) : Prop := M a = some (.dK kvs) ∨ Rd G a (.dK kvs)
theorem Hd.rd (j : J M G H) (h : Hd M G a kvs) : Rd H a (.dK kvs) := h.elim (fun h => .inl (j.m _ _ h)) (rd_same j.g)
theorem Hd.ofM (h : M a = some (.dK kvs)) : Hd M G a kvs := .inl h
theorem Hd.ofG (h : G a = some (.dK kvs)) : Hd M G a kvs := .inr (.inl h)
def GetA (x : V) (ty : TE) (σ : L2.St) (H1 : Hp) (Q : VK) : Prop := ∃ a, x = .ref a ∧ IsD H1 a ∧ ty σ H1 fun y H2 => ∃ o, DGet H2 a y o ∧ Q (o.getD .non) H2
def GetB (x : V) (ty tx : TE) (σ : L2.St) (H1 : Hp) (Q : VK) : Prop := ∃ a, x = .ref a ∧ IsD H1 a ∧ ty σ H1 fun y H2 => tx σ H2 fun z H3 => ∃ o, DGet H3 a y o ∧ Q (o.getD z) H3
def GetE (a : Addr) (y z : V) (H3 : Hp) (Q : VK) : Prop := ∃ o, DGet H3 a y o ∧ Q (o.getD z) H3
theorem w_dget1 (h : td σ H fun x H1 => GetA x ty σ H1 Q) : tDGet1 td ty σ H Q := h
theorem w_dget2 (h : td σ H fun x H1 => GetB x ty tx σ H1 Q) : tDGet2 td ty tx σ H Q := h
theorem w_getA (j : J M G H) (h : Hd M G a kvs) (q : ty σ H fun y H2 => GetE a y .non H2 Q) : GetA (.ref a) ty σ H Q := ⟨a, rfl, .inl ⟨kvs, h.rd j⟩, q⟩
theorem w_getB (j : J M G H) (h : Hd M G a kvs) (q : ty σ H fun y H2 => tx σ H2 fun z H3 => GetE a y z H3 Q) : GetB (.ref a) ty tx σ H Q := ⟨a, rfl, .inl ⟨kvs, h.rd j⟩, q⟩
theorem w_getE (j : J M G H) (h : Hd M G a kvs) (q : Q ((valV kvs (.inl m)).getD y) H) : GetE a (.int m) y H Q := ⟨_, .inl ⟨kvs, .inl m, h.rd j, rfl, rfl⟩, q⟩
def GetX (x y : V) (H2 : Hp) (Q : VK) : Prop := ∃ a v, x = .ref a ∧ DGet H2 a y (some v) ∧ Q v H2
theorem w_dget (h : td σ H fun x H1 => ty σ H1 fun y H2 => GetX x y H2 Q) : tDGet td ty σ H Q := h
theorem w_getX (j : J M G H) (h : Hd M G a kvs) (e : valV kvs (.inl m) = some v) (q : Q v H) : GetX (.ref a) (.int m) H Q := ⟨a, v, rfl, .inl ⟨kvs, .inl m, h.rd j, rfl, e.symm⟩, q⟩
def InX (neg : Bool) (x y : V) (H2 : Hp) (Q : VK) : Prop := ∃ a o, x = .ref a ∧ DGet H2 a y o ∧ Q (.bl (if neg then !o.isSome else o.isSome)) H2
theorem w_din (h : ty σ H fun y H1 => td σ H1 fun x H2 => InX false x y H2 Q) : tDIn ty td σ H Q := h
theorem w_dnotin (h : ty σ H fun y H1 => td σ H1 fun x H2 => InX true x y H2 Q) : tDNotIn ty td σ H Q := h
theorem w_inX (j : J M G H) (h : Hd M G a kvs) (q : Q (.bl (valV kvs (.inl m)).isSome) H) : InX false (.ref a) (.int m) H Q := ⟨a, _, rfl, .inl ⟨kvs, .inl m, h.rd j, rfl, rfl⟩, q⟩
theorem w_notinX (j : J M G H) (h : Hd M G a kvs) (q : Q (.bl (!(valV kvs (.inl m)).isSome)) H) : InX true (.ref a) (.int m) H Q := ⟨a, _, rfl, .inl ⟨kvs, .inl m, h.rd j, rfl, rfl⟩, q⟩
def PutX (x y v : V) (H3 : Hp) (R : Hp → Prop) : Prop := ∃ a H4, x = .ref a ∧ DPut H3 a y v H4 ∧ R H4
theorem w_dput (h : tv σ H fun v H1 => td σ H1 fun x H2 => ty σ H2 fun y H3 => PutX x y v H3 (D.nx σ)) : sDPut td ty tv D σ H := h
theorem w_putX {R : Hp → Prop} (j : J M G H) (h : M a = some (.dK kvs)) (z : kvs.length < 1000000) (q : ∀ H', J (upd M a (.dK (putK kvs (.inl m) v))) G H' → R H') : PutX (.ref a) (.int m) v H R :=
  ⟨a, _, rfl, .inl ⟨kvs, .inl m, j.m _ _ h, rfl, sz_lt z, rfl⟩, q _ (j.put h)⟩
def PopB (x : V) (ty tx : TE) (σ : L2.St) (H1 : Hp) (Q : VK) : Prop := ∃ a, x = .ref a ∧ IsD H1 a ∧ ty σ H1 fun y H2 => tx σ H2 fun z H3 => ∃ kvs k, H3 a = some (.dK kvs) ∧ y = kV k ∧
  (∀ v, valV kvs k = some v → Q v (upd H3 a (.dK (dropK kvs k)))) ∧ (valV kvs k = none → Q z H3)
def PopE (a : Addr) (y z : V) (H3 : Hp) (Q : VK) : Prop := ∃ kvs k, H3 a = some (.dK kvs) ∧ y = kV k ∧ (∀ v, valV kvs k = some v → Q v (upd H3 a (.dK (dropK kvs k)))) ∧ (valV kvs k = none → Q z H3)
theorem w_dpop2 (h : td σ H fun x H1 => PopB x ty tx σ H1 Q) : tDPop2 td ty tx σ H Q := h
theorem w_popB (j : J M G H) (h : M a = some (.dK kvs)) (q : ty σ H fun y H2 => tx σ H2 fun z H3 => PopE a y z H3 Q) : PopB (.ref a) ty tx σ H Q := ⟨a, rfl, .inl ⟨kvs, .inl (j.m _ _ h)⟩, q⟩
theorem dropK_none (h : valV kvs (.inl m : Key) = none) : dropK kvs (.inl m) = kvs := dropK_no (valV_not h)
theorem w_popE (j : J M G H) (h : M a = some (.dK kvs)) (q : ∀ v H', J (upd M a (.dK (dropK kvs (.inl m)))) G H' → Q v H') : PopE a (.int m) y H Q := by
  refine ⟨kvs, .inl m, j.m _ _ h, rfl, fun v _ => q v _ (j.put h), fun e => q y H ?_⟩
  rw [dropK_none e]
  have e2 : upd M a (.dK kvs) = M := by
    funext b; unfold upd; split
    · rename_i hb; rw [hb, h]
    · rfl
  rw [e2]; exact j
theorem w_lenD (j : J M G H) (h : M a = some (.dK kvs) ∨ G a = some (.dK kvs)) (q : Q (.int kvs.length) H) : uLen K [.ref a] H Q := .inr ⟨a, kvs, rfl, h.elim (j.m _ _) (j.g _ _), q⟩
/-- {} -/
theorem w_dnew (h : NewO (.dK []) 0 H Q) : tDNewK σ H Q := h.2
/-- isinstance -/
theorem w_isi (bb : Bool) {n cc : String} (h : TyX K H x (.type n)) (e : kitB n cc = some bb) (q : Q (.bl bb) H) : rIsi K [x, .ty cc] H Q := ⟨x, .ty cc, .type n, .type cc, bb, rfl, .ty cc, h, kit_ty e, q⟩
theorem ty_int : TyX K H (.int m) (.type "int") := .base (.int m)
theorem ty_bl {b : Bool} : TyX K H (.bl b) (.type "bool") := .base (.bl b)
theorem ty_str {z : Str} : TyX K H (.str z) (.type "str") := .base (.str z)
theorem ty_non : TyX K H .non (.type "NoneType") := .base .non
theorem ty_L (h : SqL K H a xs) : TyX K H (.ref a) (.type "list") := by
  rcases h with (h | ⟨o, h⟩) | ⟨o, _, _, h, c, _⟩
  · exact .base (.lst h)
  · exact .base (.frz h)
  · exact .kList h c
theorem ty_T (h : SqT K H a xs) : TyX K H (.ref a) (.type "tuple") := by
  rcases h with (h | ⟨o, h⟩) | ⟨o, _, _, h, c, _⟩
  · exact .base (.tup h)
  · exact .fTuple h
  · exact .kTuple h c
theorem ty_D (h : Rd H a (.dK kvs)) : TyX K H (.ref a) (.type "dict") := by
  rcases h with h | ⟨o, h⟩
  · exact .base (.dK h)
  · exact .fDict h
/-- dict(d), sorted(d), list(xs), tuple(xs) -/
def DictC (xs : List V) (H : Hp) (Q : VK) : Prop := ∃ (a : Addr) (kvs : List (Key × V)), xs = [.ref a] ∧ Rd H a (.dK kvs) ∧ ∀ p, H p = none → Q (.ref p) (upd H p (.dK kvs))
theorem w_dictC (j : J M G H) (h : Hd M G a kvs) (q : NewO (.dK kvs) 0 H Q) : DictC [.ref a] H Q := ⟨a, kvs, rfl, h.rd j, q.2⟩
def ListC (K : PySem.W.Frag) (xs : List V) (H : Hp) (Q : VK) : Prop := ∃ p ys, xs = [.ref p] ∧ (SqL K H p ys ∨ SqT K H p ys) ∧ ∀ l, H l = none → Q (.ref l) (upd H l (.lst ys))
theorem w_listC (h : SqL K H a xs ∨ SqT K H a xs) (q : NewO (.lst xs) 0 H Q) : ListC K [.ref a] H Q := ⟨a, xs, rfl, h, q.2⟩
def TupC (K : PySem.W.Frag) (xs : List V) (H : Hp) (Q : VK) : Prop := ∃ p ys, xs = [.ref p] ∧ ((SqL K H p ys ∧ ∀ l, H l = none → Q (.ref l) (upd H l (.tup ys))) ∨ (SqT K H p ys ∧ Q (.ref p) H))
theorem w_tupC (h : SqL K H a xs) (q : NewO (.tup xs) 0 H Q) : TupC K [.ref a] H Q := ⟨a, xs, rfl, .inl ⟨h, q.2⟩⟩
def SortD (xs : List V) (H : Hp) (Q : VK) : Prop := ∃ (a : Addr) (kvs : List (Key × V)) (ks : List Int), xs = [.ref a] ∧ Rd H a (.dK kvs) ∧ kvs.map (·.1) = ks.map Sum.inl ∧ ks.length < 64 ∧
    ∀ (ys : List Int) (p : Addr), ys.Perm ks → ys.Pairwise (· ≤ ·) → H p = none → Q (.ref p) (upd H p (.lst (ys.map V.int)))
theorem w_sortD {ks : List Int} (j : J M G H) (h : Hd M G a kvs) (e : kvs.map (·.1) = ks.map Sum.inl) (z : ks.length < 64) (q : ∀ ys : List Int, ys.Perm ks → ys.Pairwise (· ≤ ·) → NewO (.lst (ys.map V.int)) 0 H Q) : SortD [.ref a] H Q :=
  ⟨a, kvs, ks, rfl, h.rd j, e, z, fun ys p h1 h2 => (q ys h1 h2).2 p⟩
theorem w_cDict {tr : TA} (h : tr σ H fun vs H1 => DictC vs H1 Q) : tCB (fun xs H Q => ∃ (a : Addr) (kvs : List (Key × V)), xs = [.ref a] ∧ Rd H a (.dK kvs) ∧ ∀ p, H p = none → Q (.ref p) (upd H p (.dK kvs))) tr σ H Q := h
theorem w_cList {tr : TA} (h : tr σ H fun vs H1 => ListC K vs H1 Q) : tCB (fun xs H Q => ∃ p ys, xs = [.ref p] ∧ (SqL K H p ys ∨ SqT K H p ys) ∧ ∀ l, H l = none → Q (.ref l) (upd H l (.lst ys))) tr σ H Q := h
theorem w_cTup {tr : TA} (h : tr σ H fun vs H1 => TupC K vs H1 Q) : tCB (fun xs H Q => ∃ p ys, xs = [.ref p] ∧ ((SqL K H p ys ∧ ∀ l, H l = none → Q (.ref l) (upd H l (.tup ys))) ∨ (SqT K H p ys ∧ Q (.ref p) H))) tr σ H Q := h
theorem w_cSortD {tr : TA} (h : tr σ H fun vs H1 => SortD vs H1 Q) : tCB (fun xs H Q => ∃ (a : Addr) (kvs : List (Key × V)) (ks : List Int), xs = [.ref a] ∧ Rd H a (.dK kvs) ∧ kvs.map (·.1) = ks.map Sum.inl ∧ ks.length < 64 ∧
    ∀ (ys : List Int) (p : Addr), ys.Perm ks → ys.Pairwise (· ≤ ·) → H p = none → Q (.ref p) (upd H p (.lst (ys.map V.int)))) tr σ H Q := h
/-- x in xs, flat items -/
theorem w_inT {neg : Bool} (j : J M G H) (h : SqT K G a xs) (hx : flatV x = true) (hf : xs.all flatV = true) (q : Q (.bl (if neg then !inV x xs else inV x xs)) H) : rIn K neg x (.ref a) H Q := ⟨a, xs, rfl, .inr (st_mono j.g h), hx, hf, q⟩
theorem w_inL {neg : Bool} (j : J M G H) (h : SqL K G a xs) (hx : flatV x = true) (hf : xs.all flatV = true) (q : Q (.bl (if neg then !inV x xs else inV x xs)) H) : rIn K neg x (.ref a) H Q := ⟨a, xs, rfl, .inl (sl_mono j.g h), hx, hf, q⟩
end
section
variable {X : Cx} {K : PySem.W.Frag}
theorem call_listC (h : X.K = K) : CallR X (.type "list") (ListC K) := h ▸ call_list_of
theorem call_tupC (h : X.K = K) : CallR X (.type "tuple") (TupC K) := h ▸ call_tuple_of
theorem call_dictC : CallR X (.type "dict") DictC := call_dictD
theorem call_sortDC (hc : X.calm = true) : CallR X (.builtin "sorted") SortD := call_sortedDI hc
end
/-! ### errors of the program: raised, let through, caught -/
structure Xc (K : PySem.W.Frag) (mg : Str → Option Value) (x : Str) (C : Addr) : Prop where
  gP : mg x = some (.ref C)
  xP : PySem.W.excIn K C [.type "ValueError", .type "Exception", .type "BaseException", .type "object"] "ValueError.__new__" = true
  kP : PySem.W.keepIn K (.ref C) = true
  bP : PySem.W.subIn K (.ref C) (.type "BaseException") = some true
  tP : PySem.W.typeIn K (.ref C) = some (.type "type")
  hD : PySem.W.hasDictIn K C = true
  sP : PySem.W.subIn K (.ref C) (.ref C) = some true
  hg : PySem.W.findIn K (.ref C) "__getattribute__" = some (some (.builtin "BaseException.__getattribute__"))
  hk : PySem.W.findIn K (.ref C) "__getattr__" = some none
  ha : PySem.W.findIn K (.ref C) "__class__" = some (some (.builtin "object.__class__"))
  hn : PySem.W.specialIn K (.builtin "object.__class__") "__get__" = some (some (.builtin "getset_descriptor.__get__"))
  ht : PySem.W.takesIn K (.builtin "object.__class__") = some true
  hm : PySem.W.mroIn K C (.type "object") = some true
theorem Xc.excC {K : PySem.W.Frag} {mg : Str → Option Value} {x : Str} {C : Addr} (X : Xc K mg x C) : ExcC K C := ⟨X.hg, X.hk, X.bP, X.hD, X.ha, X.hn, X.ht, X.hm⟩
theorem Xc.exm {K : PySem.W.Frag} {mg : Str → Option Value} {x : Str} {C : Addr} (X : Xc K mg x C) : PySem.W.exmOne K (.ref C) (.ref C) = some true := PySem.W.exm_ref X.bP X.hD X.tP X.sP
theorem Xc.g {K : PySem.W.Frag} {mg : Str → Option Value} {x : Str} {C : Addr} (X : Xc K mg x C) : ∃ u, mg x = some u ∧ RelV (.ref C) u := ⟨_, X.gP, rfl⟩
/-- a promise that tells how it may raise -/
def Sx {α : Type} (pre : α → List V → Hp → Hp → Prop) (post : α → Hp → Hp → V → Hp → Hp → Prop) (exc : α → Hp → Hp → Addr → Hp → Hp → Prop) : Sp := fun vs H Q E =>
  ∃ a M G, J M G H ∧ pre a vs M G ∧ (∀ v M' G' H', J M' G' H' → Ex G G' → post a M G v M' G' → Q v H') ∧ ∀ C M' G' H', J M' G' H' → Ex G G' → exc a M G C M' G' → E (.ref C) none H'
theorem w_sx {α : Type} {pre : α → List V → Hp → Hp → Prop} {post : α → Hp → Hp → V → Hp → Hp → Prop} {exc : α → Hp → Hp → Addr → Hp → Hp → Prop} {vs : List V} {M G H : Hp} {Q : VK} {E : XK} (a : α) (j : J M G H) (hp : pre a vs M G)
    (k : ∀ v M' G' H', J M' G' H' → Ex G G' → post a M G v M' G' → Q v H') (kx : ∀ C M' G' H', J M' G' H' → Ex G G' → exc a M G C M' G' → E (.ref C) none H') : Sx pre post exc vs H Q E := ⟨a, M, G, j, hp, k, kx⟩
theorem Dn.okX {P : Program} {w : World} {K : PySem.W.Frag} {mg : Str → Option Value} {base : Heap} {x : Str} {st : Stmt} {ps : List Str} {f : Addr} {fd : FuncData} {N : List Str} {k : Nat} {sp : Sp} (D : Dn K mg x st ps f fd) (S : FnScope N ps (defScope st)) (len : ∀ vs H Q E, sp vs H Q E → vs.length = ps.length)
    (hbody : ∀ (cdv : Value) (A : Around) (outer : List Env) (s : Shared) (H : Hp) (vs : List V) (Q : VK) (E : XK), Room k (A.deeper (envOfC x (defScope st) s.heap.objs.size f cdv)) → sp vs H Q E →
      ∃ t, PSs (cxOf (L2.CX P w) P w K mg base N x (defScope st) f cdv A outer s H E) (defBody st) t ∧ t { nx := fun _ H' => Q .non H', rt := Q } (start N vs) H) : Cal P w K mg base (L2.CX P w) (k + 1) x sp :=
  D.cal (D.fn.okX S len hbody)
/-- a call of what may raise, where an error is wished for -/
theorem pe_calX {X : Cx} {k j : Nat} {x : Str} {sp : Sp} {p pos : Pos} {e : Expr} {es : List Expr} {t : TA} {W : WX} (c : Cal X.prog X.w X.K X.mg X.base (L2.CX X.prog X.w) k x sp) (hr : Room j X.A) (hk : k ≤ j) (hg : Gl X x) (tk : Takes X W) (ha : PA X (e :: es) t)
    (hdb : (x == ("__debug__" : Str)) = false := by decide) (he : starEach (e :: es) X.env = (false, eval e X.env) :: starEach es X.env := by rfl) (hpl : (backTo pos (starEach es X.env)).any (·.1) = false := by rfl) :
    PE X (.Call (.Name x p) (e :: es) [] pos) (tCallS sp (WE W) t) := by
  obtain ⟨f, fd, ps, F, hm, kp, b⟩ := c.ex
  exact pe_callS F (hr.mono hk) hg hm kp b (fun σ => passAt tk σ) ha hdb he hpl
theorem w_callS {sp : Sp} {E : L2.St → XK} {t : TA} {σ : L2.St} {H : Hp} {Q : VK} (h : t σ H fun vs H1 => sp vs H1 Q (E σ)) : tCallS sp E t σ H Q := h
def tRaiseA (C : Addr) (W : WX) : TS := fun _ σ H => W (.ref C) none σ H
theorem ps_raiseA {X : Cx} {W : WX} {x m : Str} {C : Addr} {j : Nat} {p p2 pos pos2 : Pos} (hc : X.calm = true) (tk : Takes X W) (h : Xc X.K X.mg x C) (hg : Gl X x) (hdb : (x == ("__debug__" : Str)) = false := by decide) :
    PS X (.Raise (some (.Call (.Name x p) [.Constant (.str m) j p2] [] pos)) none pos2) (tRaiseA C W) := ps_raise hc tk (pmk_own PySem.F.excBase_ValueError h.xP h.gP h.kP (raises_own h.bP h.tP) hg hdb)
theorem w_raise {C : Addr} {W : WX} {D : Ends} {σ : L2.St} {H : Hp} (h : W (.ref C) none σ H) : tRaiseA C W D σ H := h
def tTryA (K : PySem.W.Frag) (c : Value) (i : Nat) (tb : WX → TS) (ts : Addr → Value → Option Addr → TS) (Wout : WX) : TS := fun D σ H => tb (wAs K c i ts Wout D) D σ H
theorem w_tryA {K : PySem.W.Frag} {c : Value} {i : Nat} {tb : WX → TS} {ts : Addr → Value → Option Addr → TS} {Wout : WX} {D : Ends} {σ : L2.St} {H : Hp} (h : tb (wAs K c i ts Wout D) D σ H) : tTryA K c i tb ts Wout D σ H := h
theorem ps_tryA {X : Cx} {x n : Str} {c : Value} {i : Nat} {body suite : List Stmt} {b₀ : Stmt} {np pos pos' : Pos} {tb : WX → TS} {ts : Addr → Value → Option Addr → TS} {Wout : WX} (hs : X.stack = X.env :: X.outer) (hf : X.env.frame = some X.env.locals) (hN : X.N.Nodup) (hi : X.N[i]? = some n) (hln : X.env.kindOf n = some .local) (hc : Names X x c) (tk : Takes X Wout)
    (hb : ∀ (W : WX) (pn : List (Addr × Obj)) (xe : Value → Shared → Prop), Takes (X.tr pn xe) W → PassesOwn (model X.prog X.w) X.A X.env xe → PSs (X.tr pn xe) body (tb W))
    (hsu : ∀ (a : Addr) (oe : Obj) (cls : Value) (d : Option Addr) (pn : List (Addr × Obj)), Zc cls d oe → (∃ vs, oe.data = .fields vs) → PSs (X.suite a ((a, oe) :: pn)) (b₀ :: suite) (ts a cls d)) :
    PS X (.Try body [.ExceptHandler (some (.Name x np)) (some n) (b₀ :: suite) pos'] [] [] pos) (tTryA X.K c i tb ts Wout) := ps_try_as hs hf hN hi hln hc tk hb hsu
/-- a fact that the suite's rules want is asked of its reading -/
theorem pss_given {X : Cx} {b : List Stmt} {t : TS} {p : Prop} (h : p → PSs X b t) : PSs X b (fun D σ H => p ∧ t D σ H) := ⟨fun pins s σ H D I z => (h z.1).run pins s σ H D I z.2⟩
/-- what a caught error of the class C asks -/
theorem w_caught {K : PySem.W.Frag} {c : Value} {C : Addr} {i : Nat} {ts : Addr → Value → Option Addr → TS} {Wout : WX} {D : Ends} {σ : L2.St} {H : Hp} (e : PySem.W.exmOne K (.ref C) c = some true)
    (h : ∀ a, H a = none → ts a (.ref C) none { nx := fun σ' H' => D.nx (σ'.set i none) H', rt := D.rt, bk := fun σ' H' => D.bk (σ'.set i none) H', ct := fun σ' H' => D.ct (σ'.set i none) H' } (σ.set i (some (.ref a))) H) : wAs K c i ts Wout D (.ref C) none σ H :=
  ⟨true, e, fun _ => h, fun q => Bool.noConfusion q⟩
theorem w_isE {K : PySem.W.Frag} {D a C : Addr} {b : Bool} {H : Hp} {Q : VK} (e : PySem.W.kitOne K (.ref D) (.ref C) = some b) (q : Q (.bl b) H) : rIsE K D a [.ref a, .ref C] H Q := ⟨.ref C, .ref C, b, rfl, fun _ r => r, e, q⟩
theorem w_seqP {t : TS} {u : TS} {D : Ends} {σ : L2.St} {H : Hp} (Pm : L2.St → Hp → Prop) (rest : ∀ σ H, Pm σ H → u D σ H) (first : (∀ σ H, Pm σ H → u D σ H) → t { D with nx := u D } σ H) : tSeq t u D σ H := first rest
/-- a op1 b op2 c op3 d -/
def tChain3 (r1 r2 r3 : R2) (ta tb tc td : TE) : TE := fun σ H Q => ta σ H fun x H1 => tb σ H1 fun y H2 => r1 x y H2 fun z H3 => ∃ k, z = .bl k ∧
  (if k = true then tc σ H3 fun u H4 => r2 y u H4 fun z2 H5 => ∃ k2, z2 = .bl k2 ∧ (if k2 = true then td σ H5 fun v H6 => r3 u v H6 Q else Q (.bl false) H5) else Q (.bl false) H3)
theorem pe_chain3 {X : Cx} {o1 o2 o3 : CmpOp} {r1 r2 r3 : R2} {a b c d : Expr} {ta tb tc td : TE} {pos : Pos} (h1 : OpR X (compareOp o1) r1) (h2 : OpR X (compareOp o2) r2) (h3 : OpR X (compareOp o3) r3) (ha : PE X a ta) (hb : PE X b tb) (hc : PE X c tc) (hd : PE X d td)
    (hm : lastMarks [o1, o2, o3] [b, c, d] = false := by with_unfolding_all rfl) : PE X (.Compare a [o1, o2, o3] [b, c, d] pos) (tChain3 r1 r2 r3 ta tb tc td) := by
  refine ⟨fun pins s σ H Q I h => Compare_chain (thn (ha.run pins s σ H _ I h) fun v0 s1 ⟨x, H1, I1, q1, w1⟩ => chain_link (thn (hb.run pins s1 σ H1 _ I1 w1) fun u0 s2 ⟨y, H2, I2, q2, w2⟩ => thn (h1 pins s2 σ H2 x y v0 u0 _ I2 q1 q2 w2) fun e0 s3 ⟨z, H3, I3, q3, k, ez, w3⟩ => ?_)) hm⟩
  subst ez; cases q3
  refine wpAny_truthy_bool ?_
  cases k with
  | false => exact ite_ff ⟨.bl false, H3, I3, rfl, w3⟩
  | true =>
    refine ite_tt (chain_link (thn (hc.run pins s3 σ H3 _ I3 w3) fun u1 s4 ⟨y1, H4, I4, q4, w4⟩ => thn (h2 pins s4 σ H4 y y1 u0 u1 _ I4 q2 q4 w4) fun e1 s5 ⟨z1, H5, I5, q5, k1, ez1, w5⟩ => ?_))
    subst ez1; cases q5
    refine wpAny_truthy_bool ?_
    cases k1 with
    | false => exact ite_ff ⟨.bl false, H5, I5, rfl, w5⟩
    | true => exact ite_tt (chain_last (thn (hd.run pins s5 σ H5 _ I5 w5) fun u2 s6 ⟨y2, H6, I6, q6, w6⟩ => h3 pins s6 σ H6 y1 y2 u1 u2 Q I6 q4 q6 w6))
theorem w_chain3 {r1 r2 r3 : R2} {ta tb tc td : TE} {σ : L2.St} {H : Hp} {Q : VK} (h : ta σ H fun x H1 => tb σ H1 fun y H2 => r1 x y H2 fun z H3 => ∃ k, z = .bl k ∧
  (if k = true then tc σ H3 fun u H4 => r2 y u H4 fun z2 H5 => ∃ k2, z2 = .bl k2 ∧ (if k2 = true then td σ H5 fun v H6 => r3 u v H6 Q else Q (.bl false) H5) else Q (.bl false) H3)) : tChain3 r1 r2 r3 ta tb tc td σ H Q := h
/-- tuples that stand: what is behind + and a slice stands too -/
theorem w_catT {K : PySem.W.Frag} {M G H : Hp} {a b : Addr} {xs ys : List V} {Q : VK} (j : J M G H) (h1 : SqT K G a xs) (h2 : SqT K G b ys) (z : xs.length + ys.length ≤ 1000000)
    (k : ∀ p G' H', J M G' H' → Ex G G' → SqT K G' p (xs ++ ys) → Q (.ref p) H') : uAdd K (.ref a) (.ref b) H Q :=
  .inr (.inr ⟨a, b, xs, ys, rfl, rfl, st_mono j.g h1, st_mono j.g h2, sz_le z, fun e => k b G H j (Same.refl G) (by subst e; exact h2), fun _ e => k a G H j (Same.refl G) (by subst e; rw [List.append_nil]; exact h1),
    fun _ _ p hp => k p _ _ (j.newG hp) (Ex.new (j.freeG hp)) (st_of upd_same)⟩)
theorem cut_all {xs : List V} {lo hi : Option Int} (h : HT.sIx xs.length 0 lo = 0 ∧ HT.sIx xs.length xs.length hi = xs.length) : cutV xs lo hi = xs := by
  unfold cutV
  rw [h.1, h.2]
  simp
theorem w_slTG {K : PySem.W.Frag} {M G H : Hp} {a : Addr} {xs : List V} {lo hi : Option Int} {Q : VK} (j : J M G H) (h : SqT K G a xs)
    (k : ∀ p G' H', J M G' H' → Ex G G' → SqT K G' p (cutV xs lo hi) → Q (.ref p) H') : uSl K (.ref a) lo hi H Q :=
  w_slT j h (fun e => k a G H j (Same.refl G) (by rw [cut_all e]; exact h)) fun _ => ⟨Nat.zero_le _, fun p hp => k p _ _ (j.newG hp) (Ex.new (j.freeG hp)) (st_of upd_same)⟩
theorem cut_sub {xs : List V} {lo hi : Option Int} {v : V} (h : v ∈ cutV xs lo hi) : v ∈ xs := by
  unfold cutV at h
  first
    | exact List.mem_of_mem_drop (List.mem_of_mem_take h)
    | exact List.mem_of_mem_take (List.mem_of_mem_drop h)
theorem cut_len {xs : List V} {lo hi : Option Int} : (cutV xs lo hi).length ≤ xs.length := by
  unfold cutV
  simp only [List.length_take, List.length_drop]
  omega
theorem kit_no {K : PySem.W.Frag} {A B : Addr} (h0 : (Value.ref A == Value.ref B) = false) (h1 : PySem.W.isClsIn K B = true) (h2 : PySem.W.typeIn K (.ref B) = some (.type "type")) (h3 : PySem.W.subIn K (.ref A) (.ref B) = some false) : PySem.W.kitOne K (.ref A) (.ref B) = some false := by
  have e : ((PySem.W.clsIn K B).isSome && PySem.W.typeIn K (.ref B) == some (.type "type")) = true := by rw [show (PySem.W.clsIn K B).isSome = true from h1, h2]; rfl
  unfold PySem.W.kitOne
  rw [h0, if_neg Bool.false_ne_true]
  exact (if_pos e).trans h3
/-! within a comprehension's block the context's own K is not to be named -/
section
variable {X : Cx} {K : PySem.W.Frag}
theorem pe_fldK {e : Expr} {te : TE} {f : Str} {pos : Pos} (h : X.K = K) (he : PE X e te) (hb : attributeBase e f X.env (eval e X.env) = eval e X.env) : PE X (.Attribute e f pos) (tFld K te f) := h ▸ pe_fld he hb
theorem pi_tupK {tg l : Expr} {tl : TE} (h : X.K = K) (hl : PE X l tl) : PI X tg l (iTup K tl) := h ▸ pi_tup hl
theorem pi_listK {tg l : Expr} {tl : TE} (h : X.K = K) (hl : PE X l tl) : PI X tg l (iList K tl) := h ▸ pi_list hl
theorem pg_tupK {es : List Expr} {k : Nat} {pos : Pos} {t : TGs} {n : Nat} (hK : X.K = K) (hc : X.calm = true) (h : PGs X es t) (hn : (assignEach es X.env).length = n := by rfl) (hst : (assignEach es X.env).findIdx? (·.1) = none := by rfl) :
    PG X (.Tuple es k pos) (gTup K n t) := hK ▸ pg_tup hc h hn hst
end
end Nz

namespace Nz
open PySem L2 PySem.Spec PyProof.Rows
local macro_rules
  | `(tactic| walk_at "v") => `(tactic| first
    | with_reducible refine w_asg ?_
    | ((with_reducible refine' w_var ?h ?_); (case h => rfl))
    | with_reducible refine w_c ?_
    | with_reducible refine w_op ?_
    | with_reducible refine w_if ?_
    | with_reducible refine w_test ?_
    | with_reducible refine w_bl ?_
    | with_reducible refine w_ret ?_
    | with_reducible refine w_gName ?_
    | with_reducible refine w_call ?_
    | with_reducible refine w_acons ?_
    | with_reducible refine w_anil ?_
    | with_reducible refine w_cDict ?_
    | with_reducible refine w_cList ?_
    | with_reducible refine w_cTup ?_
    | with_reducible refine w_cSortD ?_
    | with_reducible refine w_cb ?_
    | with_reducible refine w_next ?_
    | with_reducible refine w_drop ?_
    | with_reducible refine w_gSub ?_
    | with_reducible refine w_addI ?_
    | with_reducible refine w_I0 ?_
    | ((with_reducible refine' w_I ?hc ?_); (case hc => first | decide | exact ⟨by decide, by decide⟩ | exact ⟨by decide, by decide, by decide⟩))
    | ((with_reducible refine' w_mulI ?hc ?_); (case hc => first | exact .inr (by decide) | exact .inl (by decide)))
    | with_reducible refine w_eqI ?_
    | with_reducible refine w_neI ?_
    | with_reducible refine w_U ?_
    | with_reducible refine w_un ?_
    | with_reducible refine w_and ?_
    | with_reducible refine w_or ?_
    | with_reducible refine w_not ?_
    | with_reducible refine w_andV ?_
    | with_reducible refine w_orV ?_
    | with_reducible refine w_notV ?_
    | with_reducible refine w_ifE ?_
    | with_reducible refine w_isN ?_
    | with_reducible refine w_notN ?_
    | with_reducible refine w_tB ?_
    | with_reducible refine w_chain ?_
    | with_reducible refine w_chain3 ?_
    | with_reducible refine w_callS ?_
    | with_reducible refine w_raise ?_
    | with_reducible refine w_tryA ?_
    | with_reducible refine w_tup ?_
    | with_reducible refine w_lst ?_
    | with_reducible refine w_bm ?_
    | with_reducible refine w_sl ?_
    | with_reducible refine w_retN ?_
    | with_reducible refine w_forR ?_
    | ((with_reducible refine' w_eqS ?he ?_); (case he => first | exact decide_eq_true rfl | exact decide_eq_false (by decide +kernel)))
    | with_reducible refine w_T ?_
    | with_reducible refine w_nt ?_
    | with_reducible refine w_nf ?_
    | with_reducible refine w_F ?_
    | with_reducible refine w_part ?_
    | with_reducible refine w_partX ?_
    | with_reducible refine w_nopart ?_
    | with_reducible refine w_dget1 ?_
    | with_reducible refine w_dget2 ?_
    | with_reducible refine w_dget ?_
    | with_reducible refine w_din ?_
    | with_reducible refine w_dnotin ?_
    | with_reducible refine w_dput ?_
    | with_reducible refine w_dpop2 ?_
    | with_reducible refine w_dnew ?_
    | ((with_reducible refine' w_isi true ?hh ?e ?_); (case hh => first | exact ty_int | exact ty_bl | exact ty_str | exact ty_non); (case e => rfl))
    | ((with_reducible refine' w_isi false ?hh ?e ?_); (case hh => first | exact ty_int | exact ty_bl | exact ty_str | exact ty_non); (case e => rfl))
    | with_reducible refine w_lcR ?_
    | with_reducible refine w_lcL ?_)
local macro_rules
  | `(tactic| walk_at "w") => `(tactic| first | with_reducible refine w_seq ?_ | walk_at "v")
local macro_rules
  | `(tactic| walk_at "to") => `(tactic| ((repeat walk_at "v"); (try dsimp only [Int.reduceToNat, Int.reducePow, Int.reduceNeg, Int.reduceMul]); (with_reducible show tSeq _ _ _ _ _)))
local macro_rules
  | `(tactic| walk_at "go") => `(tactic| ((repeat walk_at "w"); (try dsimp only [Int.reduceToNat, Int.reducePow, Int.reduceNeg, Int.reduceMul])))
local macro_rules
  | `(tactic| walk_at "start") => `(tactic| ((try dsimp only [cxOf]); (repeat walk_at "w"); (try dsimp only [Int.reduceToNat, Int.reducePow, Int.reduceNeg, Int.reduceMul])))
local macro_rules
  | `(tactic| walk_at "ix") => `(tactic| first
    | refine w_ixT (by assumption) (st_of (by assumption)) (by rfl) ?_
    | refine w_ixL (by assumption) (sl_of (by assumption)) (by rfl) ?_
    | refine w_ixT (by assumption) (by assumption) (by rfl) ?_
    | refine w_ixL (by assumption) (by assumption) (by rfl) ?_
    | refine w_ixM (by assumption) (by assumption) (by rfl) ?_)
local macro_rules
  | `(tactic| walk_at "gx") => `(tactic| (repeat (first | walk_at "w" | walk_at "ix")); (try dsimp only [Int.reduceToNat, Int.reducePow, Int.reduceNeg, Int.reduceMul]))

def top (i : Nat) : Stmt := PySem.Challenge.pw_wholecloth_k30_bases.main.body.getD i (.Pass ⟨0, 0, 0, 0⟩)
/-! ### classes: their facts, methods, makings, properties -/
theorem lk_ne {a k : Str} {b : V} {es : List (Str × V)} (h : ¬ a = k) : ((k, b) :: es).lookup a = es.lookup a := by
  have hb : (a == k) = false := beq_eq_false_iff_ne.mpr h
  simp only [List.lookup, hb]
theorem lk_eq {k : Str} {b : V} {es : List (Str × V)} : ((k, b) :: es).lookup k = some b := by
  have hb : (k == k) = true := beq_iff_eq.mpr rfl
  simp only [List.lookup, hb]
theorem pf_ne {f g : Str} {v x : V} {r r' : List (Str × V)} (h : ¬ g = f) (e : putF f v r = r') : putF f v ((g, x) :: r) = (g, x) :: r' := by
  show (if g = f then _ else _) = _
  rw [if_neg h, e]
theorem pf_eq {f : Str} {v x : V} {r : List (Str × V)} : putF f v ((f, x) :: r) = (f, v) :: r := if_pos rfl
theorem upd_self {M : Hp} {a : Addr} {o : HO} (h : M a = some o) : upd M a o = M := by
  funext b
  by_cases q : b = a
  · subst q; rw [upd_same, h]
  · rw [upd_ne q]
structure Dm (K : PySem.W.Frag) (C : Addr) (m q : Str) (st : Stmt) (ps : List Str) (f : Addr) (fd : FuncData) : Prop where
  fn : Fun K m q st f fd
  me : Meth K C m f
  bn : Binds K fd ps []
structure Di (K : PySem.W.Frag) (C : Addr) (q : Str) (st : Stmt) (ps : List Str) (f : Addr) (fd : FuncData) : Prop where
  fn : Fun K "__init__" q st f fd
  mke : Mk K C f
  bn : Binds K fd ps []
structure Dpr (K : PySem.W.Frag) (C : Addr) (m q : Str) (st : Stmt) (ps : List Str) (pf f : Addr) (fd : FuncData) : Prop where
  fn : Fun K m q st f fd
  pr : PropOf K C m pf f
  bn : Binds K fd ps []
structure CalM (P : Program) (w : World) (K : PySem.W.Frag) (mg : Str → Option Value) (base : Heap) (CX : CXT) (k : Nat) (C : Addr) (m : Str) (sp : Sp) : Prop where
  ex : ∃ (f : Addr) (fd : FuncData) (ps : List Str), FnOk P w K mg base CX k f fd ps sp ∧ Meth K C m f ∧ Binds K fd ps []
structure CalI (P : Program) (w : World) (K : PySem.W.Frag) (mg : Str → Option Value) (base : Heap) (CX : CXT) (k : Nat) (C : Addr) (sp : Sp) : Prop where
  ex : ∃ (f : Addr) (fd : FuncData) (ps : List Str), FnOk P w K mg base CX k f fd ps sp ∧ Mk K C f ∧ Binds K fd ps []
structure CalP (P : Program) (w : World) (K : PySem.W.Frag) (mg : Str → Option Value) (base : Heap) (CX : CXT) (k : Nat) (C : Addr) (m : Str) (sp : Sp) : Prop where
  ex : ∃ (p f : Addr) (fd : FuncData) (ps : List Str), FnOk P w K mg base CX k f fd ps sp ∧ PropOf K C m p f ∧ Binds K fd ps []
section
variable {P : Program} {w : World} {K : PySem.W.Frag} {mg : Str → Option Value} {base : Heap} {C : Addr} {m q : Str} {st : Stmt} {ps : List Str} {f pf : Addr} {fd : FuncData} {N : List Str} {k : Nat} {sp : Sp}
theorem Dm.ok (D : Dm K C m q st ps f fd) (S : FnScope N ps (defScope st)) (len : ∀ vs H Q E, sp vs H Q E → vs.length = ps.length)
    (hbody : ∀ (cdv : Value) (A : Around) (outer : List Env) (s : Shared) (H : Hp) (vs : List V) (Q : VK) (E : XK), Room k (A.deeper (envOfC q (defScope st) s.heap.objs.size f cdv)) → sp vs H Q E →
      ∃ t, PSs (cxOf CX0 P w K mg base N q (defScope st) f cdv A outer s H E).nox (defBody st) t ∧ t { nx := fun _ H' => Q .non H', rt := Q } (start N vs) H) : CalM P w K mg base CX0 (k + 1) C m sp :=
  ⟨f, fd, ps, D.fn.ok S len hbody, D.me, D.bn⟩
theorem Dm.okX (D : Dm K C m q st ps f fd) (S : FnScope N ps (defScope st)) (len : ∀ vs H Q E, sp vs H Q E → vs.length = ps.length)
    (hbody : ∀ (cdv : Value) (A : Around) (outer : List Env) (s : Shared) (H : Hp) (vs : List V) (Q : VK) (E : XK), Room k (A.deeper (envOfC q (defScope st) s.heap.objs.size f cdv)) → sp vs H Q E →
      ∃ t, PSs (cxOf (L2.CX P w) P w K mg base N q (defScope st) f cdv A outer s H E) (defBody st) t ∧ t { nx := fun _ H' => Q .non H', rt := Q } (start N vs) H) : CalM P w K mg base (L2.CX P w) (k + 1) C m sp :=
  ⟨f, fd, ps, D.fn.okX S len hbody, D.me, D.bn⟩
theorem Di.ok (D : Di K C q st ps f fd) (S : FnScope N ps (defScope st)) (len : ∀ vs H Q E, sp vs H Q E → vs.length = ps.length)
    (hbody : ∀ (cdv : Value) (A : Around) (outer : List Env) (s : Shared) (H : Hp) (vs : List V) (Q : VK) (E : XK), Room k (A.deeper (envOfC q (defScope st) s.heap.objs.size f cdv)) → sp vs H Q E →
      ∃ t, PSs (cxOf CX0 P w K mg base N q (defScope st) f cdv A outer s H E).nox (defBody st) t ∧ t { nx := fun _ H' => Q .non H', rt := Q } (start N vs) H) : CalI P w K mg base CX0 (k + 1) C sp :=
  ⟨f, fd, ps, D.fn.ok S len hbody, D.mke, D.bn⟩
theorem Dpr.ok (D : Dpr K C m q st ps pf f fd) (S : FnScope N ps (defScope st)) (len : ∀ vs H Q E, sp vs H Q E → vs.length = ps.length)
    (hbody : ∀ (cdv : Value) (A : Around) (outer : List Env) (s : Shared) (H : Hp) (vs : List V) (Q : VK) (E : XK), Room k (A.deeper (envOfC q (defScope st) s.heap.objs.size f cdv)) → sp vs H Q E →
      ∃ t, PSs (cxOf CX0 P w K mg base N q (defScope st) f cdv A outer s H E).nox (defBody st) t ∧ t { nx := fun _ H' => Q .non H', rt := Q } (start N vs) H) : CalP P w K mg base CX0 (k + 1) C m sp :=
  ⟨pf, f, fd, ps, D.fn.ok S len hbody, D.pr, D.bn⟩
end
section
variable {X : Cx} {k j : Nat} {C : Addr} {m x : Str} {sp : Sp} {p pos apos : Pos} {o e : Expr} {es : List Expr} {ta : TE} {t : TA}
theorem pe_calM (c : CalM X.prog X.w X.K X.mg X.base CX0 k C m sp) (cl : Cls X.K C) (hr : Room j X.A) (hk : k ≤ j) (ho : PE X o ta) (ha : PA X (e :: es) t) {pl : Sem Bool}
    (hst : starEach (e :: es) X.env = (false, eval e X.env) :: starEach es X.env := by rfl) (hpl : (backTo pos (starEach es X.env)).any (·.1) = false := by rfl)
    (ht : eval (.Call (.Attribute o m apos) (e :: es) [] pos) X.env = (do
      let ov ← eval o X.env
      standAt apos.atName
      let (f, first) ← holding [ov] (getMethod ov m pl)
      callWith pos f first (backTo pos (starEach (e :: es) X.env)) (backToKw pos (keywordEach [] X.env))) := by rfl) :
    PE X (.Call (.Attribute o m apos) (e :: es) [] pos) (tMeth C m sp [] E0 ta t) := by
  obtain ⟨f, fd, ps, F, me, b⟩ := c.ex
  exact pe_meth ho cl me F (hr.mono hk) b .nil pass0 ha hst hpl ht
theorem pe_calM0 (c : CalM X.prog X.w X.K X.mg X.base CX0 k C m sp) (cl : Cls X.K C) (hr : Room j X.A) (hk : k ≤ j) (ho : PE X o ta) {pl : Sem Bool}
    (ht : eval (.Call (.Attribute o m apos) [] [] pos) X.env = (do
      let ov ← eval o X.env
      standAt apos.atName
      let (f, first) ← holding [ov] (getMethod ov m pl)
      callWith pos f first (backTo pos (starEach [] X.env)) (backToKw pos (keywordEach [] X.env))) := by rfl) :
    PE X (.Call (.Attribute o m apos) [] [] pos) (tMeth C m sp [] E0 ta tNil) := by
  obtain ⟨f, fd, ps, F, me, b⟩ := c.ex
  exact pe_meth0 ho cl me F (hr.mono hk) b .nil pass0 ht
theorem pe_calI (c : CalI X.prog X.w X.K X.mg X.base CX0 k C sp) (gC : X.mg x = some (.ref C)) (hr : Room j X.A) (hk : k + 1 ≤ j) (hg : Gl X x) (ha : PA X (e :: es) t)
    (hdb : (x == ("__debug__" : Str)) = false := by decide) (he : starEach (e :: es) X.env = (false, eval e X.env) :: starEach es X.env := by rfl) (hpl : (backTo pos (starEach es X.env)).any (·.1) = false := by rfl) :
    PE X (.Call (.Name x p) (e :: es) [] pos) (tMake C sp [] E0 t) := by
  obtain ⟨f, fd, ps, F, mk, b⟩ := c.ex
  exact pe_make mk F (hr.mono hk) hg gC b .nil pass0 ha hdb he hpl
theorem pe_calI0 (c : CalI X.prog X.w X.K X.mg X.base CX0 k C sp) (gC : X.mg x = some (.ref C)) (hr : Room j X.A) (hk : k + 1 ≤ j) (hg : Gl X x)
    (hdb : (x == ("__debug__" : Str)) = false := by decide) : PE X (.Call (.Name x p) [] [] pos) (tMake C sp [] E0 tNil) := by
  obtain ⟨f, fd, ps, F, mk, b⟩ := c.ex
  exact pe_make0 mk F (hr.mono hk) hg gC b .nil pass0 hdb
theorem pe_calP (c : CalP X.prog X.w X.K X.mg X.base CX0 k C m sp) (cl : Cls X.K C) (hr : Room j X.A) (hk : k + 1 ≤ j) (ho : PE X o ta)
    (hab : attributeBase o m X.env (eval o X.env) = eval o X.env) : PE X (.Attribute o m pos) (tProp C sp [] E0 ta) := by
  obtain ⟨q, f, fd, ps, F, pr, b⟩ := c.ex
  exact pe_prop ho cl pr F (hr.mono hk) b .nil pass0 hab
end
/-! the steps -/
section
variable {K : PySem.W.Frag} {M G H : Hp} {σ : L2.St} {x y v : V} {ta tv : TE} {tr : TA} {Q : VK} {D : Ends} {a C dx : Addr} {fs : List (Str × V)} {f m : Str} {sp : Sp} {dvs : List V} {E : XK}
def FldX (K : PySem.W.Frag) (f : Str) (x : V) (H1 : Hp) (Q : VK) : Prop := ∃ a C dx fs v, x = .ref a ∧ H1 a = some (.ins C dx fs) ∧ Cls K C ∧ NoAttr K C f ∧ fs.lookup f = some v ∧ Q v H1
theorem w_fld (h : ta σ H fun x H1 => FldX K f x H1 Q) : tFld K ta f σ H Q := h
theorem w_fldM (j : J M G H) (h : M a = some (.ins C dx fs)) (c : Cls K C) (n : NoAttr K C f) (l : fs.lookup f = some v) (q : Q v H) : FldX K f (.ref a) H Q := ⟨a, C, dx, fs, v, rfl, j.m _ _ h, c, n, l, q⟩
theorem w_fldG (j : J M G H) (h : G a = some (.ins C dx fs)) (c : Cls K C) (n : NoAttr K C f) (l : fs.lookup f = some v) (q : Q v H) : FldX K f (.ref a) H Q := ⟨a, C, dx, fs, v, rfl, j.g _ _ h, c, n, l, q⟩
def SetX (K : PySem.W.Frag) (f : Str) (x y : V) (H2 : Hp) (R : Hp → Prop) : Prop := ∃ a C dx fs, x = .ref a ∧ H2 a = some (.ins C dx fs) ∧ Cls K C ∧ NoAttr K C f ∧ fs.length < 1000 ∧ R (upd H2 a (.ins C dx (putF f y fs)))
theorem w_sfld (h : tv σ H fun y H1 => ta σ H1 fun x H2 => SetX K f x y H2 (D.nx σ)) : sFld K ta tv f D σ H := h
theorem w_setX {R : Hp → Prop} (j : J M G H) (h : M a = some (.ins C dx fs)) (c : Cls K C) (n : NoAttr K C f) (l : fs.length < 1000) (q : ∀ H', J (upd M a (.ins C dx (putF f y fs))) G H' → R H') : SetX K f (.ref a) y H R :=
  ⟨a, C, dx, fs, rfl, j.m _ _ h, c, n, l, q _ (j.put h)⟩
def MethX (C : Addr) (m : Str) (sp : Sp) (dvs : List V) (E : XK) (t : TA) (σ : L2.St) (x : V) (H1 : Hp) (Q : VK) : Prop := ∃ a dx fs, x = .ref a ∧ H1 a = some (.ins C dx fs) ∧ fs.lookup m = none ∧ t σ H1 fun vs H2 => sp (x :: (vs ++ dvs)) H2 Q E
theorem w_meth (h : ta σ H fun x H1 => MethX C m sp dvs E tr σ x H1 Q) : tMeth C m sp dvs E ta tr σ H Q := h
theorem w_methM (j : J M G H) (h : M a = some (.ins C dx fs)) (l : fs.lookup m = none) (q : tr σ H fun vs H2 => sp (.ref a :: (vs ++ dvs)) H2 Q E) : MethX C m sp dvs E tr σ (.ref a) H Q := ⟨a, dx, fs, rfl, j.m _ _ h, l, q⟩
theorem w_methG (j : J M G H) (h : G a = some (.ins C dx fs)) (l : fs.lookup m = none) (q : tr σ H fun vs H2 => sp (.ref a :: (vs ++ dvs)) H2 Q E) : MethX C m sp dvs E tr σ (.ref a) H Q := ⟨a, dx, fs, rfl, j.g _ _ h, l, q⟩
def PropX (C : Addr) (sp : Sp) (dvs : List V) (E : XK) (x : V) (H1 : Hp) (Q : VK) : Prop := ∃ a dx fs, x = .ref a ∧ H1 a = some (.ins C dx fs) ∧ sp (.ref a :: dvs) H1 Q E
theorem w_prop (h : ta σ H fun x H1 => PropX C sp dvs E x H1 Q) : tProp C sp dvs E ta σ H Q := h
theorem w_propM (j : J M G H) (h : M a = some (.ins C dx fs)) (q : sp (.ref a :: dvs) H Q E) : PropX C sp dvs E (.ref a) H Q := ⟨a, dx, fs, rfl, j.m _ _ h, q⟩
theorem w_propG (j : J M G H) (h : G a = some (.ins C dx fs)) (q : sp (.ref a :: dvs) H Q E) : PropX C sp dvs E (.ref a) H Q := ⟨a, dx, fs, rfl, j.g _ _ h, q⟩
/-- C(..): what is asked behind the arguments -/
def MakeX (C : Addr) (sp : Sp) (dvs : List V) (E : XK) (vs : List V) (H1 : Hp) (Q : VK) : Prop := ∀ x dx, H1 x = none → H1 dx = none → dx ≠ x →
  sp (.ref x :: (vs ++ dvs)) (upd (upd H1 dx (.own x)) x (.ins C dx [])) (fun v H2 => v = .non ∧ Q (.ref x) H2) E
theorem w_make (h : tr σ H fun vs H1 => MakeX C sp dvs E vs H1 Q) : tMake C sp dvs E tr σ H Q := h
/-- a new instance, owned; its dict stands nowhere in M, G -/
theorem w_makeX {vs : List V} (j : J M G H) (q : ∀ x dx H', J (upd M x (.ins C dx [])) G H' → M x = none → G x = none → sp (.ref x :: (vs ++ dvs)) H' (fun v H2 => v = .non ∧ Q (.ref x) H2) E) : MakeX C sp dvs E vs H Q := by
  intro x dx hx hd ne
  have j1 : J M G (upd H dx (.own x)) := ⟨fun a o e => by rw [upd_ne (ne_of_none (j.m a o e) hd)]; exact j.m a o e, fun a o e => by rw [upd_ne (ne_of_none (j.g a o e) hd)]; exact j.g a o e, j.d⟩
  exact q x dx _ (j1.newM (by rw [upd_ne ne.symm]; exact hx)) (j.freeM hx) (j.freeG hx)
end
/-! zip of two lists, as far as both go -/
def ZipX (K : PySem.W.Frag) (g : TG) (t : TS) (D : Ends) (σ : L2.St) (vs : List V) (H1 : Hp) : Prop := ∃ a b xs ys, vs = [.ref a, .ref b] ∧ SqL K H1 a xs ∧ SqL K H1 b ys ∧ ∃ W : Nat → Nat → L2.St → Hp → Prop, (∃ m, W 0 m σ H1) ∧ ∀ i m σ H, W i m σ H →
      ((Itz K a b).stop i H ∧ D.nx σ H) ∨ ((Itz K a b).go i H ∧ ∃ N : L2.St → Hp → Prop, (∀ σ' H', N σ' H' → ∃ m', m' < m ∧ W (i + 1) m' σ' H') ∧ ∀ v H', (Itz K a b).yld i H v H' → g v σ H' fun σ2 H2 => t { D with nx := N, ct := N, bk := D.nx } σ2 H2)
theorem w_forZ {K : PySem.W.Frag} {ta : TA} {g : TG} {t : TS} {D : Ends} {σ : L2.St} {H : Hp} (h : ta σ H fun vs H1 => ZipX K g t D σ vs H1) : tFor (iZip K ta) g t D σ H := h
theorem w_zip {K : PySem.W.Frag} {a b : Addr} {xs ys : List V} {g : TG} {tb : TS} {D : Ends} {σ : L2.St} {H : Hp} (Pv : Nat → L2.St → Hp → Prop) (h0 : Pv 0 σ H) (hq : ∀ i σ H, Pv i σ H → SqL K H a xs ∧ SqL K H b ys)
    (hs : ∀ (i : Nat) (x y : V) (T : Addr) (σ : L2.St) (H : Hp), xs[i]? = some x → ys[i]? = some y → Pv i σ H → H T = none → g (.ref T) σ (upd H T (.tup [x, y])) fun σ2 H2 => tb { D with nx := Pv (i + 1), ct := Pv (i + 1), bk := D.nx } σ2 H2) (hd : ∀ σ H, Pv (min xs.length ys.length) σ H → D.nx σ H) :
    ZipX K g tb D σ [.ref a, .ref b] H := by
  obtain ⟨q1, q2⟩ := hq 0 σ H h0
  refine ⟨a, b, xs, ys, rfl, q1, q2, fun i m σ H => m = min xs.length ys.length - i ∧ i ≤ min xs.length ys.length ∧ Pv i σ H, ⟨_, rfl, Nat.zero_le _, h0⟩, ?_⟩
  rintro i m σ H ⟨rfl, hi, p⟩
  obtain ⟨qx, qy⟩ := hq i σ H p
  by_cases hlt : i < min xs.length ys.length
  · have hx : xs[i]? = some xs[i] := List.getElem?_eq_getElem (by omega)
    have hy : ys[i]? = some ys[i] := List.getElem?_eq_getElem (by omega)
    refine .inr ⟨⟨xs, ys, _, _, qx, qy, hx, hy⟩, Pv (i + 1), fun σ' H' p' => ⟨min xs.length ys.length - (i + 1), by omega, rfl, hlt, p'⟩, fun v H' y => ?_⟩
    obtain ⟨T, x', y', rfl, hT, rfl, f1, f2⟩ := y
    exact hs i x' y' T σ H (f1 xs qx) (f2 ys qy) p hT
  · have e : i = min xs.length ys.length := by omega
    subst e
    exact .inl ⟨⟨xs, ys, qx, qy, by omega⟩, hd σ H p⟩
/-! for x in e, e a list -/
def ForX (K : PySem.W.Frag) (g : TG) (t : TS) (D : Ends) (σ : L2.St) (x : V) (H1 : Hp) : Prop := ∃ a, x = .ref a ∧ (∃ xs, SqL K H1 a xs) ∧ ∃ W : Nat → Nat → L2.St → Hp → Prop, (∃ m, W 0 m σ H1) ∧ ∀ i m σ H, W i m σ H →
      ((Itl K a).stop i H ∧ D.nx σ H) ∨ ((Itl K a).go i H ∧ ∃ N : L2.St → Hp → Prop, (∀ σ' H', N σ' H' → ∃ m', m' < m ∧ W (i + 1) m' σ' H') ∧ ∀ x H', (Itl K a).yld i H x H' → g x σ H' fun σ2 H2 => t { D with nx := N, ct := N, bk := D.nx } σ2 H2)
theorem w_forE {K : PySem.W.Frag} {tl : TE} {g : TG} {t : TS} {D : Ends} {σ : L2.St} {H : Hp} (h : tl σ H fun x H1 => ForX K g t D σ x H1) : tFor (iList K tl) g t D σ H := h
theorem w_forX {K : PySem.W.Frag} {a : Addr} {xs : List V} {g : TG} {t : TS} {D : Ends} {σ : L2.St} {H : Hp} (Pv : Nat → L2.St → Hp → Prop) (h0 : Pv 0 σ H) (hl : ∀ i σ H, i ≤ xs.length → Pv i σ H → SqL K H a xs)
    (hs : ∀ i x σ H, xs[i]? = some x → Pv i σ H → g x σ H fun σ2 H2 => t { D with nx := Pv (i + 1), ct := Pv (i + 1), bk := D.nx } σ2 H2) (hd : ∀ σ H, Pv xs.length σ H → D.nx σ H) : ForX K g t D σ (.ref a) H :=
  ⟨a, rfl, ⟨xs, hl 0 σ H (Nat.zero_le _) h0⟩, for_list Pv h0 hl hs hd⟩
local macro_rules
  | `(tactic| walk_at "v") => `(tactic| first
    | with_reducible refine w_fld ?_
    | with_reducible refine w_sfld ?_
    | with_reducible refine w_meth ?_
    | with_reducible refine w_prop ?_
    | with_reducible refine w_make ?_
    | with_reducible refine w_forZ ?_
    | with_reducible refine w_forE (tl := tFld _ _ _) ?_
    | with_reducible refine w_forE (tl := tOp _ _ _) ?_
    | with_reducible refine w_forE (tl := tCB _ _) ?_
    | with_reducible refine w_forE (tl := tLst _) ?_)
def ForTX (K : PySem.W.Frag) (g : TG) (t : TS) (D : Ends) (σ : L2.St) (x : V) (H1 : Hp) : Prop := ∃ a, x = .ref a ∧ (∃ xs, SqT K H1 a xs) ∧ ∃ W : Nat → Nat → L2.St → Hp → Prop, (∃ m, W 0 m σ H1) ∧ ∀ i m σ H, W i m σ H →
      ((Itt K a).stop i H ∧ D.nx σ H) ∨ ((Itt K a).go i H ∧ ∃ N : L2.St → Hp → Prop, (∀ σ' H', N σ' H' → ∃ m', m' < m ∧ W (i + 1) m' σ' H') ∧ ∀ x H', (Itt K a).yld i H x H' → g x σ H' fun σ2 H2 => t { D with nx := N, ct := N, bk := D.nx } σ2 H2)
theorem w_forTE {K : PySem.W.Frag} {tl : TE} {g : TG} {t : TS} {D : Ends} {σ : L2.St} {H : Hp} (h : tl σ H fun x H1 => ForTX K g t D σ x H1) : tFor (iTup K tl) g t D σ H := h
theorem w_forTX {K : PySem.W.Frag} {a : Addr} {xs : List V} {g : TG} {t : TS} {D : Ends} {σ : L2.St} {H : Hp} (Pv : Nat → L2.St → Hp → Prop) (h0 : Pv 0 σ H) (hl : ∀ i σ H, i ≤ xs.length → Pv i σ H → SqT K H a xs)
    (hs : ∀ i x σ H, xs[i]? = some x → Pv i σ H → g x σ H fun σ2 H2 => t { D with nx := Pv (i + 1), ct := Pv (i + 1), bk := D.nx } σ2 H2) (hd : ∀ σ H, Pv xs.length σ H → D.nx σ H) : ForTX K g t D σ (.ref a) H :=
  ⟨a, rfl, ⟨xs, hl 0 σ H (Nat.zero_le _) h0⟩, for_tup Pv h0 hl hs hd⟩
local macro_rules
  | `(tactic| walk_at "v") => `(tactic| first
    | with_reducible refine w_forTE (tl := tFld _ _ _) ?_
    | with_reducible refine w_forTE (tl := tOp _ _ _) ?_
    | with_reducible refine w_forTE (tl := tC _) ?_
    | with_reducible refine w_forE (tl := tC _) ?_
    | with_reducible refine w_forTE (tl := tCall _ _ _ _) ?_
    | with_reducible refine w_forE (tl := tCall _ _ _ _) ?_)
/-! ### class Replica -/
structure Tx_Replica (K : PySem.W.Frag) (mg : Str → Option Value) (C : Addr) : Prop where
  cl : Cls K C
  gC : mg "Replica" = some (.ref C)
  n_me : NoAttr K C "me"
  n_group : NoAttr K C "group"
  n_term : NoAttr K C "term"
  n_voted : NoAttr K C "voted"
  n_base : NoAttr K C "base"
  n_entries : NoAttr K C "entries"
  n_role : NoAttr K C "role"
  n_leader : NoAttr K C "leader"
  n_committed : NoAttr K C "committed"
  n_applied : NoAttr K C "applied"
  n_durable : NoAttr K C "durable"
  n_state : NoAttr K C "state"
  n_ledger : NoAttr K C "ledger"
  n_records : NoAttr K C "records"
  n_letters : NoAttr K C "letters"
  n_answers : NoAttr K C "answers"
  n_births : NoAttr K C "births"
  n_votes : NoAttr K C "votes"
  n_ahead : NoAttr K C "ahead"
  n_known : NoAttr K C "known"
  n_tokens : NoAttr K C "tokens"
def fl_Replica (x0 x1 x2 x3 x4 x5 x6 x7 x8 x9 x10 x11 x12 x13 x14 x15 x16 x17 x18 x19 x20 : V) : List (Str × V) := [("me", x0), ("group", x1), ("term", x2), ("voted", x3), ("base", x4), ("entries", x5), ("role", x6), ("leader", x7), ("committed", x8), ("applied", x9), ("durable", x10), ("state", x11), ("ledger", x12), ("records", x13), ("letters", x14), ("answers", x15), ("births", x16), ("votes", x17), ("ahead", x18), ("known", x19), ("tokens", x20)]
theorem fl_Replica_me {x0 x1 x2 x3 x4 x5 x6 x7 x8 x9 x10 x11 x12 x13 x14 x15 x16 x17 x18 x19 x20 : V} : (fl_Replica x0 x1 x2 x3 x4 x5 x6 x7 x8 x9 x10 x11 x12 x13 x14 x15 x16 x17 x18 x19 x20).lookup ("me" : Str) = some x0 := lk_eq
theorem sf_Replica_me {x0 x1 x2 x3 x4 x5 x6 x7 x8 x9 x10 x11 x12 x13 x14 x15 x16 x17 x18 x19 x20 y : V} : putF "me" y (fl_Replica x0 x1 x2 x3 x4 x5 x6 x7 x8 x9 x10 x11 x12 x13 x14 x15 x16 x17 x18 x19 x20) = fl_Replica y x1 x2 x3 x4 x5 x6 x7 x8 x9 x10 x11 x12 x13 x14 x15 x16 x17 x18 x19 x20 := pf_eq
theorem fl_Replica_group {x0 x1 x2 x3 x4 x5 x6 x7 x8 x9 x10 x11 x12 x13 x14 x15 x16 x17 x18 x19 x20 : V} : (fl_Replica x0 x1 x2 x3 x4 x5 x6 x7 x8 x9 x10 x11 x12 x13 x14 x15 x16 x17 x18 x19 x20).lookup ("group" : Str) = some x1 := (lk_ne (by decide +kernel : ¬ (("group" : Str) = "me"))).trans (lk_eq)
theorem sf_Replica_group {x0 x1 x2 x3 x4 x5 x6 x7 x8 x9 x10 x11 x12 x13 x14 x15 x16 x17 x18 x19 x20 y : V} : putF "group" y (fl_Replica x0 x1 x2 x3 x4 x5 x6 x7 x8 x9 x10 x11 x12 x13 x14 x15 x16 x17 x18 x19 x20) = fl_Replica x0 y x2 x3 x4 x5 x6 x7 x8 x9 x10 x11 x12 x13 x14 x15 x16 x17 x18 x19 x20 := pf_ne (by decide +kernel : ¬ (("me" : Str) = "group")) (pf_eq)
theorem fl_Replica_term {x0 x1 x2 x3 x4 x5 x6 x7 x8 x9 x10 x11 x12 x13 x14 x15 x16 x17 x18 x19 x20 : V} : (fl_Replica x0 x1 x2 x3 x4 x5 x6 x7 x8 x9 x10 x11 x12 x13 x14 x15 x16 x17 x18 x19 x20).lookup ("term" : Str) = some x2 := (lk_ne (by decide +kernel : ¬ (("term" : Str) = "me"))).trans ((lk_ne (by decide +kernel : ¬ (("term" : Str) = "group"))).trans (lk_eq))
theorem sf_Replica_term {x0 x1 x2 x3 x4 x5 x6 x7 x8 x9 x10 x11 x12 x13 x14 x15 x16 x17 x18 x19 x20 y : V} : putF "term" y (fl_Replica x0 x1 x2 x3 x4 x5 x6 x7 x8 x9 x10 x11 x12 x13 x14 x15 x16 x17 x18 x19 x20) = fl_Replica x0 x1 y x3 x4 x5 x6 x7 x8 x9 x10 x11 x12 x13 x14 x15 x16 x17 x18 x19 x20 := pf_ne (by decide +kernel : ¬ (("me" : Str) = "term")) (pf_ne (by decide +kernel : ¬ (("group" : Str) = "term")) (pf_eq))
theorem fl_Replica_voted {x0 x1 x2 x3 x4 x5 x6 x7 x8 x9 x10 x11 x12 x13 x14 x15 x16 x17 x18 x19 x20 : V} : (fl_Replica x0 x1 x2 x3 x4 x5 x6 x7 x8 x9 x10 x11 x12 x13 x14 x15 x16 x17 x18 x19 x20).lookup ("voted" : Str) = some x3 := (lk_ne (by decide +kernel : ¬ (("voted" : Str) = "me"))).trans ((lk_ne (by decide +kernel : ¬ (("voted" : Str) = "group"))).trans ((lk_ne (by decide +kernel : ¬ (("voted" : Str) = "term"))).trans (lk_eq)))
theorem sf_Replica_voted {x0 x1 x2 x3 x4 x5 x6 x7 x8 x9 x10 x11 x12 x13 x14 x15 x16 x17 x18 x19 x20 y : V} : putF "voted" y (fl_Replica x0 x1 x2 x3 x4 x5 x6 x7 x8 x9 x10 x11 x12 x13 x14 x15 x16 x17 x18 x19 x20) = fl_Replica x0 x1 x2 y x4 x5 x6 x7 x8 x9 x10 x11 x12 x13 x14 x15 x16 x17 x18 x19 x20 := pf_ne (by decide +kernel : ¬ (("me" : Str) = "voted")) (pf_ne (by decide +kernel : ¬ (("group" : Str) = "voted")) (pf_ne (by decide +kernel : ¬ (("term" : Str) = "voted")) (pf_eq)))
theorem fl_Replica_base {x0 x1 x2 x3 x4 x5 x6 x7 x8 x9 x10 x11 x12 x13 x14 x15 x16 x17 x18 x19 x20 : V} : (fl_Replica x0 x1 x2 x3 x4 x5 x6 x7 x8 x9 x10 x11 x12 x13 x14 x15 x16 x17 x18 x19 x20).lookup ("base" : Str) = some x4 := (lk_ne (by decide +kernel : ¬ (("base" : Str) = "me"))).trans ((lk_ne (by decide +kernel : ¬ (("base" : Str) = "group"))).trans ((lk_ne (by decide +kernel : ¬ (("base" : Str) = "term"))).trans ((lk_ne (by decide +kernel : ¬ (("base" : Str) = "voted"))).trans (lk_eq))))
theorem sf_Replica_base {x0 x1 x2 x3 x4 x5 x6 x7 x8 x9 x10 x11 x12 x13 x14 x15 x16 x17 x18 x19 x20 y : V} : putF "base" y (fl_Replica x0 x1 x2 x3 x4 x5 x6 x7 x8 x9 x10 x11 x12 x13 x14 x15 x16 x17 x18 x19 x20) = fl_Replica x0 x1 x2 x3 y x5 x6 x7 x8 x9 x10 x11 x12 x13 x14 x15 x16 x17 x18 x19 x20 := pf_ne (by decide +kernel : ¬ (("me" : Str) = "base")) (pf_ne (by decide +kernel : ¬ (("group" : Str) = "base")) (pf_ne (by decide +kernel : ¬ (("term" : Str) = "base")) (pf_ne (by decide +kernel : ¬ (("voted" : Str) = "base")) (pf_eq))))
theorem fl_Replica_entries {x0 x1 x2 x3 x4 x5 x6 x7 x8 x9 x10 x11 x12 x13 x14 x15 x16 x17 x18 x19 x20 : V} : (fl_Replica x0 x1 x2 x3 x4 x5 x6 x7 x8 x9 x10 x11 x12 x13 x14 x15 x16 x17 x18 x19 x20).lookup ("entries" : Str) = some x5 := (lk_ne (by decide +kernel : ¬ (("entries" : Str) = "me"))).trans ((lk_ne (by decide +kernel : ¬ (("entries" : Str) = "group"))).trans ((lk_ne (by decide +kernel : ¬ (("entries" : Str) = "term"))).trans ((lk_ne (by decide +kernel : ¬ (("entries" : Str) = "voted"))).trans ((lk_ne (by decide +kernel : ¬ (("entries" : Str) = "base"))).trans (lk_eq)))))
theorem sf_Replica_entries {x0 x1 x2 x3 x4 x5 x6 x7 x8 x9 x10 x11 x12 x13 x14 x15 x16 x17 x18 x19 x20 y : V} : putF "entries" y (fl_Replica x0 x1 x2 x3 x4 x5 x6 x7 x8 x9 x10 x11 x12 x13 x14 x15 x16 x17 x18 x19 x20) = fl_Replica x0 x1 x2 x3 x4 y x6 x7 x8 x9 x10 x11 x12 x13 x14 x15 x16 x17 x18 x19 x20 := pf_ne (by decide +kernel : ¬ (("me" : Str) = "entries")) (pf_ne (by decide +kernel : ¬ (("group" : Str) = "entries")) (pf_ne (by decide +kernel : ¬ (("term" : Str) = "entries")) (pf_ne (by decide +kernel : ¬ (("voted" : Str) = "entries")) (pf_ne (by decide +kernel : ¬ (("base" : Str) = "entries")) (pf_eq)))))
theorem fl_Replica_role {x0 x1 x2 x3 x4 x5 x6 x7 x8 x9 x10 x11 x12 x13 x14 x15 x16 x17 x18 x19 x20 : V} : (fl_Replica x0 x1 x2 x3 x4 x5 x6 x7 x8 x9 x10 x11 x12 x13 x14 x15 x16 x17 x18 x19 x20).lookup ("role" : Str) = some x6 := (lk_ne (by decide +kernel : ¬ (("role" : Str) = "me"))).trans ((lk_ne (by decide +kernel : ¬ (("role" : Str) = "group"))).trans ((lk_ne (by decide +kernel : ¬ (("role" : Str) = "term"))).trans ((lk_ne (by decide +kernel : ¬ (("role" : Str) = "voted"))).trans ((lk_ne (by decide +kernel : ¬ (("role" : Str) = "base"))).trans ((lk_ne (by decide +kernel : ¬ (("role" : Str) = "entries"))).trans (lk_eq))))))
theorem sf_Replica_role {x0 x1 x2 x3 x4 x5 x6 x7 x8 x9 x10 x11 x12 x13 x14 x15 x16 x17 x18 x19 x20 y : V} : putF "role" y (fl_Replica x0 x1 x2 x3 x4 x5 x6 x7 x8 x9 x10 x11 x12 x13 x14 x15 x16 x17 x18 x19 x20) = fl_Replica x0 x1 x2 x3 x4 x5 y x7 x8 x9 x10 x11 x12 x13 x14 x15 x16 x17 x18 x19 x20 := pf_ne (by decide +kernel : ¬ (("me" : Str) = "role")) (pf_ne (by decide +kernel : ¬ (("group" : Str) = "role")) (pf_ne (by decide +kernel : ¬ (("term" : Str) = "role")) (pf_ne (by decide +kernel : ¬ (("voted" : Str) = "role")) (pf_ne (by decide +kernel : ¬ (("base" : Str) = "role")) (pf_ne (by decide +kernel : ¬ (("entries" : Str) = "role")) (pf_eq))))))
theorem fl_Replica_leader {x0 x1 x2 x3 x4 x5 x6 x7 x8 x9 x10 x11 x12 x13 x14 x15 x16 x17 x18 x19 x20 : V} : (fl_Replica x0 x1 x2 x3 x4 x5 x6 x7 x8 x9 x10 x11 x12 x13 x14 x15 x16 x17 x18 x19 x20).lookup ("leader" : Str) = some x7 := (lk_ne (by decide +kernel : ¬ (("leader" : Str) = "me"))).trans ((lk_ne (by decide +kernel : ¬ (("leader" : Str) = "group"))).trans ((lk_ne (by decide +kernel : ¬ (("leader" : Str) = "term"))).trans ((lk_ne (by decide +kernel : ¬ (("leader" : Str) = "voted"))).trans ((lk_ne (by decide +kernel : ¬ (("leader" : Str) = "base"))).trans ((lk_ne (by decide +kernel : ¬ (("leader" : Str) = "entries"))).trans ((lk_ne (by decide +kernel : ¬ (("leader" : Str) = "role"))).trans (lk_eq)))))))
theorem sf_Replica_leader {x0 x1 x2 x3 x4 x5 x6 x7 x8 x9 x10 x11 x12 x13 x14 x15 x16 x17 x18 x19 x20 y : V} : putF "leader" y (fl_Replica x0 x1 x2 x3 x4 x5 x6 x7 x8 x9 x10 x11 x12 x13 x14 x15 x16 x17 x18 x19 x20) = fl_Replica x0 x1 x2 x3 x4 x5 x6 y x8 x9 x10 x11 x12 x13 x14 x15 x16 x17 x18 x19 x20 := pf_ne (by decide +kernel : ¬ (("me" : Str) = "leader")) (pf_ne (by decide +kernel : ¬ (("group" : Str) = "leader")) (pf_ne (by decide +kernel : ¬ (("term" : Str) = "leader")) (pf_ne (by decide +kernel : ¬ (("voted" : Str) = "leader")) (pf_ne (by decide +kernel : ¬ (("base" : Str) = "leader")) (pf_ne (by decide +kernel : ¬ (("entries" : Str) = "leader")) (pf_ne (by decide +kernel : ¬ (("role" : Str) = "leader")) (pf_eq)))))))
theorem fl_Replica_committed {x0 x1 x2 x3 x4 x5 x6 x7 x8 x9 x10 x11 x12 x13 x14 x15 x16 x17 x18 x19 x20 : V} : (fl_Replica x0 x1 x2 x3 x4 x5 x6 x7 x8 x9 x10 x11 x12 x13 x14 x15 x16 x17 x18 x19 x20).lookup ("committed" : Str) = some x8 := (lk_ne (by decide +kernel : ¬ (("committed" : Str) = "me"))).trans ((lk_ne (by decide +kernel : ¬ (("committed" : Str) = "group"))).trans ((lk_ne (by decide +kernel : ¬ (("committed" : Str) = "term"))).trans ((lk_ne (by decide +kernel : ¬ (("committed" : Str) = "voted"))).trans ((lk_ne (by decide +kernel : ¬ (("committed" : Str) = "base"))).trans ((lk_ne (by decide +kernel : ¬ (("committed" : Str) = "entries"))).trans ((lk_ne (by decide +kernel : ¬ (("committed" : Str) = "role"))).trans ((lk_ne (by decide +kernel : ¬ (("committed" : Str) = "leader"))).trans (lk_eq))))))))
theorem sf_Replica_committed {x0 x1 x2 x3 x4 x5 x6 x7 x8 x9 x10 x11 x12 x13 x14 x15 x16 x17 x18 x19 x20 y : V} : putF "committed" y (fl_Replica x0 x1 x2 x3 x4 x5 x6 x7 x8 x9 x10 x11 x12 x13 x14 x15 x16 x17 x18 x19 x20) = fl_Replica x0 x1 x2 x3 x4 x5 x6 x7 y x9 x10 x11 x12 x13 x14 x15 x16 x17 x18 x19 x20 := pf_ne (by decide +kernel : ¬ (("me" : Str) = "committed")) (pf_ne (by decide +kernel : ¬ (("group" : Str) = "committed")) (pf_ne (by decide +kernel : ¬ (("term" : Str) = "committed")) (pf_ne (by decide +kernel : ¬ (("voted" : Str) = "committed")) (pf_ne (by decide +kernel : ¬ (("base" : Str) = "committed")) (pf_ne (by decide +kernel : ¬ (("entries" : Str) = "committed")) (pf_ne (by decide +kernel : ¬ (("role" : Str) = "committed")) (pf_ne (by decide +kernel : ¬ (("leader" : Str) = "committed")) (pf_eq))))))))
theorem fl_Replica_applied {x0 x1 x2 x3 x4 x5 x6 x7 x8 x9 x10 x11 x12 x13 x14 x15 x16 x17 x18 x19 x20 : V} : (fl_Replica x0 x1 x2 x3 x4 x5 x6 x7 x8 x9 x10 x11 x12 x13 x14 x15 x16 x17 x18 x19 x20).lookup ("applied" : Str) = some x9 := (lk_ne (by decide +kernel : ¬ (("applied" : Str) = "me"))).trans ((lk_ne (by decide +kernel : ¬ (("applied" : Str) = "group"))).trans ((lk_ne (by decide +kernel : ¬ (("applied" : Str) = "term"))).trans ((lk_ne (by decide +kernel : ¬ (("applied" : Str) = "voted"))).trans ((lk_ne (by decide +kernel : ¬ (("applied" : Str) = "base"))).trans ((lk_ne (by decide +kernel : ¬ (("applied" : Str) = "entries"))).trans ((lk_ne (by decide +kernel : ¬ (("applied" : Str) = "role"))).trans ((lk_ne (by decide +kernel : ¬ (("applied" : Str) = "leader"))).trans ((lk_ne (by decide +kernel : ¬ (("applied" : Str) = "committed"))).trans (lk_eq)))))))))
theorem sf_Replica_applied {x0 x1 x2 x3 x4 x5 x6 x7 x8 x9 x10 x11 x12 x13 x14 x15 x16 x17 x18 x19 x20 y : V} : putF "applied" y (fl_Replica x0 x1 x2 x3 x4 x5 x6 x7 x8 x9 x10 x11 x12 x13 x14 x15 x16 x17 x18 x19 x20) = fl_Replica x0 x1 x2 x3 x4 x5 x6 x7 x8 y x10 x11 x12 x13 x14 x15 x16 x17 x18 x19 x20 := pf_ne (by decide +kernel : ¬ (("me" : Str) = "applied")) (pf_ne (by decide +kernel : ¬ (("group" : Str) = "applied")) (pf_ne (by decide +kernel : ¬ (("term" : Str) = "applied")) (pf_ne (by decide +kernel : ¬ (("voted" : Str) = "applied")) (pf_ne (by decide +kernel : ¬ (("base" : Str) = "applied")) (pf_ne (by decide +kernel : ¬ (("entries" : Str) = "applied")) (pf_ne (by decide +kernel : ¬ (("role" : Str) = "applied")) (pf_ne (by decide +kernel : ¬ (("leader" : Str) = "applied")) (pf_ne (by decide +kernel : ¬ (("committed" : Str) = "applied")) (pf_eq)))))))))
theorem fl_Replica_durable {x0 x1 x2 x3 x4 x5 x6 x7 x8 x9 x10 x11 x12 x13 x14 x15 x16 x17 x18 x19 x20 : V} : (fl_Replica x0 x1 x2 x3 x4 x5 x6 x7 x8 x9 x10 x11 x12 x13 x14 x15 x16 x17 x18 x19 x20).lookup ("durable" : Str) = some x10 := (lk_ne (by decide +kernel : ¬ (("durable" : Str) = "me"))).trans ((lk_ne (by decide +kernel : ¬ (("durable" : Str) = "group"))).trans ((lk_ne (by decide +kernel : ¬ (("durable" : Str) = "term"))).trans ((lk_ne (by decide +kernel : ¬ (("durable" : Str) = "voted"))).trans ((lk_ne (by decide +kernel : ¬ (("durable" : Str) = "base"))).trans ((lk_ne (by decide +kernel : ¬ (("durable" : Str) = "entries"))).trans ((lk_ne (by decide +kernel : ¬ (("durable" : Str) = "role"))).trans ((lk_ne (by decide +kernel : ¬ (("durable" : Str) = "leader"))).trans ((lk_ne (by decide +kernel : ¬ (("durable" : Str) = "committed"))).trans ((lk_ne (by decide +kernel : ¬ (("durable" : Str) = "applied"))).trans (lk_eq))))))))))
theorem sf_Replica_durable {x0 x1 x2 x3 x4 x5 x6 x7 x8 x9 x10 x11 x12 x13 x14 x15 x16 x17 x18 x19 x20 y : V} : putF "durable" y (fl_Replica x0 x1 x2 x3 x4 x5 x6 x7 x8 x9 x10 x11 x12 x13 x14 x15 x16 x17 x18 x19 x20) = fl_Replica x0 x1 x2 x3 x4 x5 x6 x7 x8 x9 y x11 x12 x13 x14 x15 x16 x17 x18 x19 x20 := pf_ne (by decide +kernel : ¬ (("me" : Str) = "durable")) (pf_ne (by decide +kernel : ¬ (("group" : Str) = "durable")) (pf_ne (by decide +kernel : ¬ (("term" : Str) = "durable")) (pf_ne (by decide +kernel : ¬ (("voted" : Str) = "durable")) (pf_ne (by decide +kernel : ¬ (("base" : Str) = "durable")) (pf_ne (by decide +kernel : ¬ (("entries" : Str) = "durable")) (pf_ne (by decide +kernel : ¬ (("role" : Str) = "durable")) (pf_ne (by decide +kernel : ¬ (("leader" : Str) = "durable")) (pf_ne (by decide +kernel : ¬ (("committed" : Str) = "durable")) (pf_ne (by decide +kernel : ¬ (("applied" : Str) = "durable")) (pf_eq))))))))))
theorem fl_Replica_state {x0 x1 x2 x3 x4 x5 x6 x7 x8 x9 x10 x11 x12 x13 x14 x15 x16 x17 x18 x19 x20 : V} : (fl_Replica x0 x1 x2 x3 x4 x5 x6 x7 x8 x9 x10 x11 x12 x13 x14 x15 x16 x17 x18 x19 x20).lookup ("state" : Str) = some x11 := (lk_ne (by decide +kernel : ¬ (("state" : Str) = "me"))).trans ((lk_ne (by decide +kernel : ¬ (("state" : Str) = "group"))).trans ((lk_ne (by decide +kernel : ¬ (("state" : Str) = "term"))).trans ((lk_ne (by decide +kernel : ¬ (("state" : Str) = "voted"))).trans ((lk_ne (by decide +kernel : ¬ (("state" : Str) = "base"))).trans ((lk_ne (by decide +kernel : ¬ (("state" : Str) = "entries"))).trans ((lk_ne (by decide +kernel : ¬ (("state" : Str) = "role"))).trans ((lk_ne (by decide +kernel : ¬ (("state" : Str) = "leader"))).trans ((lk_ne (by decide +kernel : ¬ (("state" : Str) = "committed"))).trans ((lk_ne (by decide +kernel : ¬ (("state" : Str) = "applied"))).trans ((lk_ne (by decide +kernel : ¬ (("state" : Str) = "durable"))).trans (lk_eq)))))))))))
theorem sf_Replica_state {x0 x1 x2 x3 x4 x5 x6 x7 x8 x9 x10 x11 x12 x13 x14 x15 x16 x17 x18 x19 x20 y : V} : putF "state" y (fl_Replica x0 x1 x2 x3 x4 x5 x6 x7 x8 x9 x10 x11 x12 x13 x14 x15 x16 x17 x18 x19 x20) = fl_Replica x0 x1 x2 x3 x4 x5 x6 x7 x8 x9 x10 y x12 x13 x14 x15 x16 x17 x18 x19 x20 := pf_ne (by decide +kernel : ¬ (("me" : Str) = "state")) (pf_ne (by decide +kernel : ¬ (("group" : Str) = "state")) (pf_ne (by decide +kernel : ¬ (("term" : Str) = "state")) (pf_ne (by decide +kernel : ¬ (("voted" : Str) = "state")) (pf_ne (by decide +kernel : ¬ (("base" : Str) = "state")) (pf_ne (by decide +kernel : ¬ (("entries" : Str) = "state")) (pf_ne (by decide +kernel : ¬ (("role" : Str) = "state")) (pf_ne (by decide +kernel : ¬ (("leader" : Str) = "state")) (pf_ne (by decide +kernel : ¬ (("committed" : Str) = "state")) (pf_ne (by decide +kernel : ¬ (("applied" : Str) = "state")) (pf_ne (by decide +kernel : ¬ (("durable" : Str) = "state")) (pf_eq)))))))))))
theorem fl_Replica_ledger {x0 x1 x2 x3 x4 x5 x6 x7 x8 x9 x10 x11 x12 x13 x14 x15 x16 x17 x18 x19 x20 : V} : (fl_Replica x0 x1 x2 x3 x4 x5 x6 x7 x8 x9 x10 x11 x12 x13 x14 x15 x16 x17 x18 x19 x20).lookup ("ledger" : Str) = some x12 := (lk_ne (by decide +kernel : ¬ (("ledger" : Str) = "me"))).trans ((lk_ne (by decide +kernel : ¬ (("ledger" : Str) = "group"))).trans ((lk_ne (by decide +kernel : ¬ (("ledger" : Str) = "term"))).trans ((lk_ne (by decide +kernel : ¬ (("ledger" : Str) = "voted"))).trans ((lk_ne (by decide +kernel : ¬ (("ledger" : Str) = "base"))).trans ((lk_ne (by decide +kernel : ¬ (("ledger" : Str) = "entries"))).trans ((lk_ne (by decide +kernel : ¬ (("ledger" : Str) = "role"))).trans ((lk_ne (by decide +kernel : ¬ (("ledger" : Str) = "leader"))).trans ((lk_ne (by decide +kernel : ¬ (("ledger" : Str) = "committed"))).trans ((lk_ne (by decide +kernel : ¬ (("ledger" : Str) = "applied"))).trans ((lk_ne (by decide +kernel : ¬ (("ledger" : Str) = "durable"))).trans ((lk_ne (by decide +kernel : ¬ (("ledger" : Str) = "state"))).trans (lk_eq))))))))))))
theorem sf_Replica_ledger {x0 x1 x2 x3 x4 x5 x6 x7 x8 x9 x10 x11 x12 x13 x14 x15 x16 x17 x18 x19 x20 y : V} : putF "ledger" y (fl_Replica x0 x1 x2 x3 x4 x5 x6 x7 x8 x9 x10 x11 x12 x13 x14 x15 x16 x17 x18 x19 x20) = fl_Replica x0 x1 x2 x3 x4 x5 x6 x7 x8 x9 x10 x11 y x13 x14 x15 x16 x17 x18 x19 x20 := pf_ne (by decide +kernel : ¬ (("me" : Str) = "ledger")) (pf_ne (by decide +kernel : ¬ (("group" : Str) = "ledger")) (pf_ne (by decide +kernel : ¬ (("term" : Str) = "ledger")) (pf_ne (by decide +kernel : ¬ (("voted" : Str) = "ledger")) (pf_ne (by decide +kernel : ¬ (("base" : Str) = "ledger")) (pf_ne (by decide +kernel : ¬ (("entries" : Str) = "ledger")) (pf_ne (by decide +kernel : ¬ (("role" : Str) = "ledger")) (pf_ne (by decide +kernel : ¬ (("leader" : Str) = "ledger")) (pf_ne (by decide +kernel : ¬ (("committed" : Str) = "ledger")) (pf_ne (by decide +kernel : ¬ (("applied" : Str) = "ledger")) (pf_ne (by decide +kernel : ¬ (("durable" : Str) = "ledger")) (pf_ne (by decide +kernel : ¬ (("state" : Str) = "ledger")) (pf_eq))))))))))))
theorem fl_Replica_records {x0 x1 x2 x3 x4 x5 x6 x7 x8 x9 x10 x11 x12 x13 x14 x15 x16 x17 x18 x19 x20 : V} : (fl_Replica x0 x1 x2 x3 x4 x5 x6 x7 x8 x9 x10 x11 x12 x13 x14 x15 x16 x17 x18 x19 x20).lookup ("records" : Str) = some x13 := (lk_ne (by decide +kernel : ¬ (("records" : Str) = "me"))).trans ((lk_ne (by decide +kernel : ¬ (("records" : Str) = "group"))).trans ((lk_ne (by decide +kernel : ¬ (("records" : Str) = "term"))).trans ((lk_ne (by decide +kernel : ¬ (("records" : Str) = "voted"))).trans ((lk_ne (by decide +kernel : ¬ (("records" : Str) = "base"))).trans ((lk_ne (by decide +kernel : ¬ (("records" : Str) = "entries"))).trans ((lk_ne (by decide +kernel : ¬ (("records" : Str) = "role"))).trans ((lk_ne (by decide +kernel : ¬ (("records" : Str) = "leader"))).trans ((lk_ne (by decide +kernel : ¬ (("records" : Str) = "committed"))).trans ((lk_ne (by decide +kernel : ¬ (("records" : Str) = "applied"))).trans ((lk_ne (by decide +kernel : ¬ (("records" : Str) = "durable"))).trans ((lk_ne (by decide +kernel : ¬ (("records" : Str) = "state"))).trans ((lk_ne (by decide +kernel : ¬ (("records" : Str) = "ledger"))).trans (lk_eq)))))))))))))
theorem sf_Replica_records {x0 x1 x2 x3 x4 x5 x6 x7 x8 x9 x10 x11 x12 x13 x14 x15 x16 x17 x18 x19 x20 y : V} : putF "records" y (fl_Replica x0 x1 x2 x3 x4 x5 x6 x7 x8 x9 x10 x11 x12 x13 x14 x15 x16 x17 x18 x19 x20) = fl_Replica x0 x1 x2 x3 x4 x5 x6 x7 x8 x9 x10 x11 x12 y x14 x15 x16 x17 x18 x19 x20 := pf_ne (by decide +kernel : ¬ (("me" : Str) = "records")) (pf_ne (by decide +kernel : ¬ (("group" : Str) = "records")) (pf_ne (by decide +kernel : ¬ (("term" : Str) = "records")) (pf_ne (by decide +kernel : ¬ (("voted" : Str) = "records")) (pf_ne (by decide +kernel : ¬ (("base" : Str) = "records")) (pf_ne (by decide +kernel : ¬ (("entries" : Str) = "records")) (pf_ne (by decide +kernel : ¬ (("role" : Str) = "records")) (pf_ne (by decide +kernel : ¬ (("leader" : Str) = "records")) (pf_ne (by decide +kernel : ¬ (("committed" : Str) = "records")) (pf_ne (by decide +kernel : ¬ (("applied" : Str) = "records")) (pf_ne (by decide +kernel : ¬ (("durable" : Str) = "records")) (pf_ne (by decide +kernel : ¬ (("state" : Str) = "records")) (pf_ne (by decide +kernel : ¬ (("ledger" : Str) = "records")) (pf_eq)))))))))))))
theorem fl_Replica_letters {x0 x1 x2 x3 x4 x5 x6 x7 x8 x9 x10 x11 x12 x13 x14 x15 x16 x17 x18 x19 x20 : V} : (fl_Replica x0 x1 x2 x3 x4 x5 x6 x7 x8 x9 x10 x11 x12 x13 x14 x15 x16 x17 x18 x19 x20).lookup ("letters" : Str) = some x14 := (lk_ne (by decide +kernel : ¬ (("letters" : Str) = "me"))).trans ((lk_ne (by decide +kernel : ¬ (("letters" : Str) = "group"))).trans ((lk_ne (by decide +kernel : ¬ (("letters" : Str) = "term"))).trans ((lk_ne (by decide +kernel : ¬ (("letters" : Str) = "voted"))).trans ((lk_ne (by decide +kernel : ¬ (("letters" : Str) = "base"))).trans ((lk_ne (by decide +kernel : ¬ (("letters" : Str) = "entries"))).trans ((lk_ne (by decide +kernel : ¬ (("letters" : Str) = "role"))).trans ((lk_ne (by decide +kernel : ¬ (("letters" : Str) = "leader"))).trans ((lk_ne (by decide +kernel : ¬ (("letters" : Str) = "committed"))).trans ((lk_ne (by decide +kernel : ¬ (("letters" : Str) = "applied"))).trans ((lk_ne (by decide +kernel : ¬ (("letters" : Str) = "durable"))).trans ((lk_ne (by decide +kernel : ¬ (("letters" : Str) = "state"))).trans ((lk_ne (by decide +kernel : ¬ (("letters" : Str) = "ledger"))).trans ((lk_ne (by decide +kernel : ¬ (("letters" : Str) = "records"))).trans (lk_eq))))))))))))))
theorem sf_Replica_letters {x0 x1 x2 x3 x4 x5 x6 x7 x8 x9 x10 x11 x12 x13 x14 x15 x16 x17 x18 x19 x20 y : V} : putF "letters" y (fl_Replica x0 x1 x2 x3 x4 x5 x6 x7 x8 x9 x10 x11 x12 x13 x14 x15 x16 x17 x18 x19 x20) = fl_Replica x0 x1 x2 x3 x4 x5 x6 x7 x8 x9 x10 x11 x12 x13 y x15 x16 x17 x18 x19 x20 := pf_ne (by decide +kernel : ¬ (("me" : Str) = "letters")) (pf_ne (by decide +kernel : ¬ (("group" : Str) = "letters")) (pf_ne (by decide +kernel : ¬ (("term" : Str) = "letters")) (pf_ne (by decide +kernel : ¬ (("voted" : Str) = "letters")) (pf_ne (by decide +kernel : ¬ (("base" : Str) = "letters")) (pf_ne (by decide +kernel : ¬ (("entries" : Str) = "letters")) (pf_ne (by decide +kernel : ¬ (("role" : Str) = "letters")) (pf_ne (by decide +kernel : ¬ (("leader" : Str) = "letters")) (pf_ne (by decide +kernel : ¬ (("committed" : Str) = "letters")) (pf_ne (by decide +kernel : ¬ (("applied" : Str) = "letters")) (pf_ne (by decide +kernel : ¬ (("durable" : Str) = "letters")) (pf_ne (by decide +kernel : ¬ (("state" : Str) = "letters")) (pf_ne (by decide +kernel : ¬ (("ledger" : Str) = "letters")) (pf_ne (by decide +kernel : ¬ (("records" : Str) = "letters")) (pf_eq))))))))))))))
theorem fl_Replica_answers {x0 x1 x2 x3 x4 x5 x6 x7 x8 x9 x10 x11 x12 x13 x14 x15 x16 x17 x18 x19 x20 : V} : (fl_Replica x0 x1 x2 x3 x4 x5 x6 x7 x8 x9 x10 x11 x12 x13 x14 x15 x16 x17 x18 x19 x20).lookup ("answers" : Str) = some x15 := (lk_ne (by decide +kernel : ¬ (("answers" : Str) = "me"))).trans ((lk_ne (by decide +kernel : ¬ (("answers" : Str) = "group"))).trans ((lk_ne (by decide +kernel : ¬ (("answers" : Str) = "term"))).trans ((lk_ne (by decide +kernel : ¬ (("answers" : Str) = "voted"))).trans ((lk_ne (by decide +kernel : ¬ (("answers" : Str) = "base"))).trans ((lk_ne (by decide +kernel : ¬ (("answers" : Str) = "entries"))).trans ((lk_ne (by decide +kernel : ¬ (("answers" : Str) = "role"))).trans ((lk_ne (by decide +kernel : ¬ (("answers" : Str) = "leader"))).trans ((lk_ne (by decide +kernel : ¬ (("answers" : Str) = "committed"))).trans ((lk_ne (by decide +kernel : ¬ (("answers" : Str) = "applied"))).trans ((lk_ne (by decide +kernel : ¬ (("answers" : Str) = "durable"))).trans ((lk_ne (by decide +kernel : ¬ (("answers" : Str) = "state"))).trans ((lk_ne (by decide +kernel : ¬ (("answers" : Str) = "ledger"))).trans ((lk_ne (by decide +kernel : ¬ (("answers" : Str) = "records"))).trans ((lk_ne (by decide +kernel : ¬ (("answers" : Str) = "letters"))).trans (lk_eq)))))))))))))))
theorem sf_Replica_answers {x0 x1 x2 x3 x4 x5 x6 x7 x8 x9 x10 x11 x12 x13 x14 x15 x16 x17 x18 x19 x20 y : V} : putF "answers" y (fl_Replica x0 x1 x2 x3 x4 x5 x6 x7 x8 x9 x10 x11 x12 x13 x14 x15 x16 x17 x18 x19 x20) = fl_Replica x0 x1 x2 x3 x4 x5 x6 x7 x8 x9 x10 x11 x12 x13 x14 y x16 x17 x18 x19 x20 := pf_ne (by decide +kernel : ¬ (("me" : Str) = "answers")) (pf_ne (by decide +kernel : ¬ (("group" : Str) = "answers")) (pf_ne (by decide +kernel : ¬ (("term" : Str) = "answers")) (pf_ne (by decide +kernel : ¬ (("voted" : Str) = "answers")) (pf_ne (by decide +kernel : ¬ (("base" : Str) = "answers")) (pf_ne (by decide +kernel : ¬ (("entries" : Str) = "answers")) (pf_ne (by decide +kernel : ¬ (("role" : Str) = "answers")) (pf_ne (by decide +kernel : ¬ (("leader" : Str) = "answers")) (pf_ne (by decide +kernel : ¬ (("committed" : Str) = "answers")) (pf_ne (by decide +kernel : ¬ (("applied" : Str) = "answers")) (pf_ne (by decide +kernel : ¬ (("durable" : Str) = "answers")) (pf_ne (by decide +kernel : ¬ (("state" : Str) = "answers")) (pf_ne (by decide +kernel : ¬ (("ledger" : Str) = "answers")) (pf_ne (by decide +kernel : ¬ (("records" : Str) = "answers")) (pf_ne (by decide +kernel : ¬ (("letters" : Str) = "answers")) (pf_eq)))))))))))))))
theorem fl_Replica_births {x0 x1 x2 x3 x4 x5 x6 x7 x8 x9 x10 x11 x12 x13 x14 x15 x16 x17 x18 x19 x20 : V} : (fl_Replica x0 x1 x2 x3 x4 x5 x6 x7 x8 x9 x10 x11 x12 x13 x14 x15 x16 x17 x18 x19 x20).lookup ("births" : Str) = some x16 := (lk_ne (by decide +kernel : ¬ (("births" : Str) = "me"))).trans ((lk_ne (by decide +kernel : ¬ (("births" : Str) = "group"))).trans ((lk_ne (by decide +kernel : ¬ (("births" : Str) = "term"))).trans ((lk_ne (by decide +kernel : ¬ (("births" : Str) = "voted"))).trans ((lk_ne (by decide +kernel : ¬ (("births" : Str) = "base"))).trans ((lk_ne (by decide +kernel : ¬ (("births" : Str) = "entries"))).trans ((lk_ne (by decide +kernel : ¬ (("births" : Str) = "role"))).trans ((lk_ne (by decide +kernel : ¬ (("births" : Str) = "leader"))).trans ((lk_ne (by decide +kernel : ¬ (("births" : Str) = "committed"))).trans ((lk_ne (by decide +kernel : ¬ (("births" : Str) = "applied"))).trans ((lk_ne (by decide +kernel : ¬ (("births" : Str) = "durable"))).trans ((lk_ne (by decide +kernel : ¬ (("births" : Str) = "state"))).trans ((lk_ne (by decide +kernel : ¬ (("births" : Str) = "ledger"))).trans ((lk_ne (by decide +kernel : ¬ (("births" : Str) = "records"))).trans ((lk_ne (by decide +kernel : ¬ (("births" : Str) = "letters"))).trans ((lk_ne (by decide +kernel : ¬ (("births" : Str) = "answers"))).trans (lk_eq))))))))))))))))
theorem sf_Replica_births {x0 x1 x2 x3 x4 x5 x6 x7 x8 x9 x10 x11 x12 x13 x14 x15 x16 x17 x18 x19 x20 y : V} : putF "births" y (fl_Replica x0 x1 x2 x3 x4 x5 x6 x7 x8 x9 x10 x11 x12 x13 x14 x15 x16 x17 x18 x19 x20) = fl_Replica x0 x1 x2 x3 x4 x5 x6 x7 x8 x9 x10 x11 x12 x13 x14 x15 y x17 x18 x19 x20 := pf_ne (by decide +kernel : ¬ (("me" : Str) = "births")) (pf_ne (by decide +kernel : ¬ (("group" : Str) = "births")) (pf_ne (by decide +kernel : ¬ (("term" : Str) = "births")) (pf_ne (by decide +kernel : ¬ (("voted" : Str) = "births")) (pf_ne (by decide +kernel : ¬ (("base" : Str) = "births")) (pf_ne (by decide +kernel : ¬ (("entries" : Str) = "births")) (pf_ne (by decide +kernel : ¬ (("role" : Str) = "births")) (pf_ne (by decide +kernel : ¬ (("leader" : Str) = "births")) (pf_ne (by decide +kernel : ¬ (("committed" : Str) = "births")) (pf_ne (by decide +kernel : ¬ (("applied" : Str) = "births")) (pf_ne (by decide +kernel : ¬ (("durable" : Str) = "births")) (pf_ne (by decide +kernel : ¬ (("state" : Str) = "births")) (pf_ne (by decide +kernel : ¬ (("ledger" : Str) = "births")) (pf_ne (by decide +kernel : ¬ (("records" : Str) = "births")) (pf_ne (by decide +kernel : ¬ (("letters" : Str) = "births")) (pf_ne (by decide +kernel : ¬ (("answers" : Str) = "births")) (pf_eq))))))))))))))))
theorem fl_Replica_votes {x0 x1 x2 x3 x4 x5 x6 x7 x8 x9 x10 x11 x12 x13 x14 x15 x16 x17 x18 x19 x20 : V} : (fl_Replica x0 x1 x2 x3 x4 x5 x6 x7 x8 x9 x10 x11 x12 x13 x14 x15 x16 x17 x18 x19 x20).lookup ("votes" : Str) = some x17 := (lk_ne (by decide +kernel : ¬ (("votes" : Str) = "me"))).trans ((lk_ne (by decide +kernel : ¬ (("votes" : Str) = "group"))).trans ((lk_ne (by decide +kernel : ¬ (("votes" : Str) = "term"))).trans ((lk_ne (by decide +kernel : ¬ (("votes" : Str) = "voted"))).trans ((lk_ne (by decide +kernel : ¬ (("votes" : Str) = "base"))).trans ((lk_ne (by decide +kernel : ¬ (("votes" : Str) = "entries"))).trans ((lk_ne (by decide +kernel : ¬ (("votes" : Str) = "role"))).trans ((lk_ne (by decide +kernel : ¬ (("votes" : Str) = "leader"))).trans ((lk_ne (by decide +kernel : ¬ (("votes" : Str) = "committed"))).trans ((lk_ne (by decide +kernel : ¬ (("votes" : Str) = "applied"))).trans ((lk_ne (by decide +kernel : ¬ (("votes" : Str) = "durable"))).trans ((lk_ne (by decide +kernel : ¬ (("votes" : Str) = "state"))).trans ((lk_ne (by decide +kernel : ¬ (("votes" : Str) = "ledger"))).trans ((lk_ne (by decide +kernel : ¬ (("votes" : Str) = "records"))).trans ((lk_ne (by decide +kernel : ¬ (("votes" : Str) = "letters"))).trans ((lk_ne (by decide +kernel : ¬ (("votes" : Str) = "answers"))).trans ((lk_ne (by decide +kernel : ¬ (("votes" : Str) = "births"))).trans (lk_eq)))))))))))))))))
theorem sf_Replica_votes {x0 x1 x2 x3 x4 x5 x6 x7 x8 x9 x10 x11 x12 x13 x14 x15 x16 x17 x18 x19 x20 y : V} : putF "votes" y (fl_Replica x0 x1 x2 x3 x4 x5 x6 x7 x8 x9 x10 x11 x12 x13 x14 x15 x16 x17 x18 x19 x20) = fl_Replica x0 x1 x2 x3 x4 x5 x6 x7 x8 x9 x10 x11 x12 x13 x14 x15 x16 y x18 x19 x20 := pf_ne (by decide +kernel : ¬ (("me" : Str) = "votes")) (pf_ne (by decide +kernel : ¬ (("group" : Str) = "votes")) (pf_ne (by decide +kernel : ¬ (("term" : Str) = "votes")) (pf_ne (by decide +kernel : ¬ (("voted" : Str) = "votes")) (pf_ne (by decide +kernel : ¬ (("base" : Str) = "votes")) (pf_ne (by decide +kernel : ¬ (("entries" : Str) = "votes")) (pf_ne (by decide +kernel : ¬ (("role" : Str) = "votes")) (pf_ne (by decide +kernel : ¬ (("leader" : Str) = "votes")) (pf_ne (by decide +kernel : ¬ (("committed" : Str) = "votes")) (pf_ne (by decide +kernel : ¬ (("applied" : Str) = "votes")) (pf_ne (by decide +kernel : ¬ (("durable" : Str) = "votes")) (pf_ne (by decide +kernel : ¬ (("state" : Str) = "votes")) (pf_ne (by decide +kernel : ¬ (("ledger" : Str) = "votes")) (pf_ne (by decide +kernel : ¬ (("records" : Str) = "votes")) (pf_ne (by decide +kernel : ¬ (("letters" : Str) = "votes")) (pf_ne (by decide +kernel : ¬ (("answers" : Str) = "votes")) (pf_ne (by decide +kernel : ¬ (("births" : Str) = "votes")) (pf_eq)))))))))))))))))
theorem fl_Replica_ahead {x0 x1 x2 x3 x4 x5 x6 x7 x8 x9 x10 x11 x12 x13 x14 x15 x16 x17 x18 x19 x20 : V} : (fl_Replica x0 x1 x2 x3 x4 x5 x6 x7 x8 x9 x10 x11 x12 x13 x14 x15 x16 x17 x18 x19 x20).lookup ("ahead" : Str) = some x18 := (lk_ne (by decide +kernel : ¬ (("ahead" : Str) = "me"))).trans ((lk_ne (by decide +kernel : ¬ (("ahead" : Str) = "group"))).trans ((lk_ne (by decide +kernel : ¬ (("ahead" : Str) = "term"))).trans ((lk_ne (by decide +kernel : ¬ (("ahead" : Str) = "voted"))).trans ((lk_ne (by decide +kernel : ¬ (("ahead" : Str) = "base"))).trans ((lk_ne (by decide +kernel : ¬ (("ahead" : Str) = "entries"))).trans ((lk_ne (by decide +kernel : ¬ (("ahead" : Str) = "role"))).trans ((lk_ne (by decide +kernel : ¬ (("ahead" : Str) = "leader"))).trans ((lk_ne (by decide +kernel : ¬ (("ahead" : Str) = "committed"))).trans ((lk_ne (by decide +kernel : ¬ (("ahead" : Str) = "applied"))).trans ((lk_ne (by decide +kernel : ¬ (("ahead" : Str) = "durable"))).trans ((lk_ne (by decide +kernel : ¬ (("ahead" : Str) = "state"))).trans ((lk_ne (by decide +kernel : ¬ (("ahead" : Str) = "ledger"))).trans ((lk_ne (by decide +kernel : ¬ (("ahead" : Str) = "records"))).trans ((lk_ne (by decide +kernel : ¬ (("ahead" : Str) = "letters"))).trans ((lk_ne (by decide +kernel : ¬ (("ahead" : Str) = "answers"))).trans ((lk_ne (by decide +kernel : ¬ (("ahead" : Str) = "births"))).trans ((lk_ne (by decide +kernel : ¬ (("ahead" : Str) = "votes"))).trans (lk_eq))))))))))))))))))
theorem sf_Replica_ahead {x0 x1 x2 x3 x4 x5 x6 x7 x8 x9 x10 x11 x12 x13 x14 x15 x16 x17 x18 x19 x20 y : V} : putF "ahead" y (fl_Replica x0 x1 x2 x3 x4 x5 x6 x7 x8 x9 x10 x11 x12 x13 x14 x15 x16 x17 x18 x19 x20) = fl_Replica x0 x1 x2 x3 x4 x5 x6 x7 x8 x9 x10 x11 x12 x13 x14 x15 x16 x17 y x19 x20 := pf_ne (by decide +kernel : ¬ (("me" : Str) = "ahead")) (pf_ne (by decide +kernel : ¬ (("group" : Str) = "ahead")) (pf_ne (by decide +kernel : ¬ (("term" : Str) = "ahead")) (pf_ne (by decide +kernel : ¬ (("voted" : Str) = "ahead")) (pf_ne (by decide +kernel : ¬ (("base" : Str) = "ahead")) (pf_ne (by decide +kernel : ¬ (("entries" : Str) = "ahead")) (pf_ne (by decide +kernel : ¬ (("role" : Str) = "ahead")) (pf_ne (by decide +kernel : ¬ (("leader" : Str) = "ahead")) (pf_ne (by decide +kernel : ¬ (("committed" : Str) = "ahead")) (pf_ne (by decide +kernel : ¬ (("applied" : Str) = "ahead")) (pf_ne (by decide +kernel : ¬ (("durable" : Str) = "ahead")) (pf_ne (by decide +kernel : ¬ (("state" : Str) = "ahead")) (pf_ne (by decide +kernel : ¬ (("ledger" : Str) = "ahead")) (pf_ne (by decide +kernel : ¬ (("records" : Str) = "ahead")) (pf_ne (by decide +kernel : ¬ (("letters" : Str) = "ahead")) (pf_ne (by decide +kernel : ¬ (("answers" : Str) = "ahead")) (pf_ne (by decide +kernel : ¬ (("births" : Str) = "ahead")) (pf_ne (by decide +kernel : ¬ (("votes" : Str) = "ahead")) (pf_eq))))))))))))))))))
theorem fl_Replica_known {x0 x1 x2 x3 x4 x5 x6 x7 x8 x9 x10 x11 x12 x13 x14 x15 x16 x17 x18 x19 x20 : V} : (fl_Replica x0 x1 x2 x3 x4 x5 x6 x7 x8 x9 x10 x11 x12 x13 x14 x15 x16 x17 x18 x19 x20).lookup ("known" : Str) = some x19 := (lk_ne (by decide +kernel : ¬ (("known" : Str) = "me"))).trans ((lk_ne (by decide +kernel : ¬ (("known" : Str) = "group"))).trans ((lk_ne (by decide +kernel : ¬ (("known" : Str) = "term"))).trans ((lk_ne (by decide +kernel : ¬ (("known" : Str) = "voted"))).trans ((lk_ne (by decide +kernel : ¬ (("known" : Str) = "base"))).trans ((lk_ne (by decide +kernel : ¬ (("known" : Str) = "entries"))).trans ((lk_ne (by decide +kernel : ¬ (("known" : Str) = "role"))).trans ((lk_ne (by decide +kernel : ¬ (("known" : Str) = "leader"))).trans ((lk_ne (by decide +kernel : ¬ (("known" : Str) = "committed"))).trans ((lk_ne (by decide +kernel : ¬ (("known" : Str) = "applied"))).trans ((lk_ne (by decide +kernel : ¬ (("known" : Str) = "durable"))).trans ((lk_ne (by decide +kernel : ¬ (("known" : Str) = "state"))).trans ((lk_ne (by decide +kernel : ¬ (("known" : Str) = "ledger"))).trans ((lk_ne (by decide +kernel : ¬ (("known" : Str) = "records"))).trans ((lk_ne (by decide +kernel : ¬ (("known" : Str) = "letters"))).trans ((lk_ne (by decide +kernel : ¬ (("known" : Str) = "answers"))).trans ((lk_ne (by decide +kernel : ¬ (("known" : Str) = "births"))).trans ((lk_ne (by decide +kernel : ¬ (("known" : Str) = "votes"))).trans ((lk_ne (by decide +kernel : ¬ (("known" : Str) = "ahead"))).trans (lk_eq)))))))))))))))))))
theorem sf_Replica_known {x0 x1 x2 x3 x4 x5 x6 x7 x8 x9 x10 x11 x12 x13 x14 x15 x16 x17 x18 x19 x20 y : V} : putF "known" y (fl_Replica x0 x1 x2 x3 x4 x5 x6 x7 x8 x9 x10 x11 x12 x13 x14 x15 x16 x17 x18 x19 x20) = fl_Replica x0 x1 x2 x3 x4 x5 x6 x7 x8 x9 x10 x11 x12 x13 x14 x15 x16 x17 x18 y x20 := pf_ne (by decide +kernel : ¬ (("me" : Str) = "known")) (pf_ne (by decide +kernel : ¬ (("group" : Str) = "known")) (pf_ne (by decide +kernel : ¬ (("term" : Str) = "known")) (pf_ne (by decide +kernel : ¬ (("voted" : Str) = "known")) (pf_ne (by decide +kernel : ¬ (("base" : Str) = "known")) (pf_ne (by decide +kernel : ¬ (("entries" : Str) = "known")) (pf_ne (by decide +kernel : ¬ (("role" : Str) = "known")) (pf_ne (by decide +kernel : ¬ (("leader" : Str) = "known")) (pf_ne (by decide +kernel : ¬ (("committed" : Str) = "known")) (pf_ne (by decide +kernel : ¬ (("applied" : Str) = "known")) (pf_ne (by decide +kernel : ¬ (("durable" : Str) = "known")) (pf_ne (by decide +kernel : ¬ (("state" : Str) = "known")) (pf_ne (by decide +kernel : ¬ (("ledger" : Str) = "known")) (pf_ne (by decide +kernel : ¬ (("records" : Str) = "known")) (pf_ne (by decide +kernel : ¬ (("letters" : Str) = "known")) (pf_ne (by decide +kernel : ¬ (("answers" : Str) = "known")) (pf_ne (by decide +kernel : ¬ (("births" : Str) = "known")) (pf_ne (by decide +kernel : ¬ (("votes" : Str) = "known")) (pf_ne (by decide +kernel : ¬ (("ahead" : Str) = "known")) (pf_eq)))))))))))))))))))
theorem fl_Replica_tokens {x0 x1 x2 x3 x4 x5 x6 x7 x8 x9 x10 x11 x12 x13 x14 x15 x16 x17 x18 x19 x20 : V} : (fl_Replica x0 x1 x2 x3 x4 x5 x6 x7 x8 x9 x10 x11 x12 x13 x14 x15 x16 x17 x18 x19 x20).lookup ("tokens" : Str) = some x20 := (lk_ne (by decide +kernel : ¬ (("tokens" : Str) = "me"))).trans ((lk_ne (by decide +kernel : ¬ (("tokens" : Str) = "group"))).trans ((lk_ne (by decide +kernel : ¬ (("tokens" : Str) = "term"))).trans ((lk_ne (by decide +kernel : ¬ (("tokens" : Str) = "voted"))).trans ((lk_ne (by decide +kernel : ¬ (("tokens" : Str) = "base"))).trans ((lk_ne (by decide +kernel : ¬ (("tokens" : Str) = "entries"))).trans ((lk_ne (by decide +kernel : ¬ (("tokens" : Str) = "role"))).trans ((lk_ne (by decide +kernel : ¬ (("tokens" : Str) = "leader"))).trans ((lk_ne (by decide +kernel : ¬ (("tokens" : Str) = "committed"))).trans ((lk_ne (by decide +kernel : ¬ (("tokens" : Str) = "applied"))).trans ((lk_ne (by decide +kernel : ¬ (("tokens" : Str) = "durable"))).trans ((lk_ne (by decide +kernel : ¬ (("tokens" : Str) = "state"))).trans ((lk_ne (by decide +kernel : ¬ (("tokens" : Str) = "ledger"))).trans ((lk_ne (by decide +kernel : ¬ (("tokens" : Str) = "records"))).trans ((lk_ne (by decide +kernel : ¬ (("tokens" : Str) = "letters"))).trans ((lk_ne (by decide +kernel : ¬ (("tokens" : Str) = "answers"))).trans ((lk_ne (by decide +kernel : ¬ (("tokens" : Str) = "births"))).trans ((lk_ne (by decide +kernel : ¬ (("tokens" : Str) = "votes"))).trans ((lk_ne (by decide +kernel : ¬ (("tokens" : Str) = "ahead"))).trans ((lk_ne (by decide +kernel : ¬ (("tokens" : Str) = "known"))).trans (lk_eq))))))))))))))))))))
theorem sf_Replica_tokens {x0 x1 x2 x3 x4 x5 x6 x7 x8 x9 x10 x11 x12 x13 x14 x15 x16 x17 x18 x19 x20 y : V} : putF "tokens" y (fl_Replica x0 x1 x2 x3 x4 x5 x6 x7 x8 x9 x10 x11 x12 x13 x14 x15 x16 x17 x18 x19 x20) = fl_Replica x0 x1 x2 x3 x4 x5 x6 x7 x8 x9 x10 x11 x12 x13 x14 x15 x16 x17 x18 x19 y := pf_ne (by decide +kernel : ¬ (("me" : Str) = "tokens")) (pf_ne (by decide +kernel : ¬ (("group" : Str) = "tokens")) (pf_ne (by decide +kernel : ¬ (("term" : Str) = "tokens")) (pf_ne (by decide +kernel : ¬ (("voted" : Str) = "tokens")) (pf_ne (by decide +kernel : ¬ (("base" : Str) = "tokens")) (pf_ne (by decide +kernel : ¬ (("entries" : Str) = "tokens")) (pf_ne (by decide +kernel : ¬ (("role" : Str) = "tokens")) (pf_ne (by decide +kernel : ¬ (("leader" : Str) = "tokens")) (pf_ne (by decide +kernel : ¬ (("committed" : Str) = "tokens")) (pf_ne (by decide +kernel : ¬ (("applied" : Str) = "tokens")) (pf_ne (by decide +kernel : ¬ (("durable" : Str) = "tokens")) (pf_ne (by decide +kernel : ¬ (("state" : Str) = "tokens")) (pf_ne (by decide +kernel : ¬ (("ledger" : Str) = "tokens")) (pf_ne (by decide +kernel : ¬ (("records" : Str) = "tokens")) (pf_ne (by decide +kernel : ¬ (("letters" : Str) = "tokens")) (pf_ne (by decide +kernel : ¬ (("answers" : Str) = "tokens")) (pf_ne (by decide +kernel : ¬ (("births" : Str) = "tokens")) (pf_ne (by decide +kernel : ¬ (("votes" : Str) = "tokens")) (pf_ne (by decide +kernel : ¬ (("ahead" : Str) = "tokens")) (pf_ne (by decide +kernel : ¬ (("known" : Str) = "tokens")) (pf_eq))))))))))))))))))))
theorem no_Replica {x0 x1 x2 x3 x4 x5 x6 x7 x8 x9 x10 x11 x12 x13 x14 x15 x16 x17 x18 x19 x20 : V} {m : Str} (h_me : ¬ m = "me") (h_group : ¬ m = "group") (h_term : ¬ m = "term") (h_voted : ¬ m = "voted") (h_base : ¬ m = "base") (h_entries : ¬ m = "entries") (h_role : ¬ m = "role") (h_leader : ¬ m = "leader") (h_committed : ¬ m = "committed") (h_applied : ¬ m = "applied") (h_durable : ¬ m = "durable") (h_state : ¬ m = "state") (h_ledger : ¬ m = "ledger") (h_records : ¬ m = "records") (h_letters : ¬ m = "letters") (h_answers : ¬ m = "answers") (h_births : ¬ m = "births") (h_votes : ¬ m = "votes") (h_ahead : ¬ m = "ahead") (h_known : ¬ m = "known") (h_tokens : ¬ m = "tokens") : (fl_Replica x0 x1 x2 x3 x4 x5 x6 x7 x8 x9 x10 x11 x12 x13 x14 x15 x16 x17 x18 x19 x20).lookup m = none := (lk_ne h_me).trans ((lk_ne h_group).trans ((lk_ne h_term).trans ((lk_ne h_voted).trans ((lk_ne h_base).trans ((lk_ne h_entries).trans ((lk_ne h_role).trans ((lk_ne h_leader).trans ((lk_ne h_committed).trans ((lk_ne h_applied).trans ((lk_ne h_durable).trans ((lk_ne h_state).trans ((lk_ne h_ledger).trans ((lk_ne h_records).trans ((lk_ne h_letters).trans ((lk_ne h_answers).trans ((lk_ne h_births).trans ((lk_ne h_votes).trans ((lk_ne h_ahead).trans ((lk_ne h_known).trans ((lk_ne h_tokens).trans (rfl)))))))))))))))))))))
theorem nf_Replica_me {x0 : V} : putF "me" x0 ([] : List (Str × V)) = ([("me", x0)] : List (Str × V)) := rfl
theorem nf_Replica_group {x0 x1 : V} : putF "group" x1 ([("me", x0)] : List (Str × V)) = ([("me", x0), ("group", x1)] : List (Str × V)) := pf_ne (by decide +kernel : ¬ (("me" : Str) = "group")) (rfl)
theorem nf_Replica_term {x0 x1 x2 : V} : putF "term" x2 ([("me", x0), ("group", x1)] : List (Str × V)) = ([("me", x0), ("group", x1), ("term", x2)] : List (Str × V)) := pf_ne (by decide +kernel : ¬ (("me" : Str) = "term")) (pf_ne (by decide +kernel : ¬ (("group" : Str) = "term")) (rfl))
theorem nf_Replica_voted {x0 x1 x2 x3 : V} : putF "voted" x3 ([("me", x0), ("group", x1), ("term", x2)] : List (Str × V)) = ([("me", x0), ("group", x1), ("term", x2), ("voted", x3)] : List (Str × V)) := pf_ne (by decide +kernel : ¬ (("me" : Str) = "voted")) (pf_ne (by decide +kernel : ¬ (("group" : Str) = "voted")) (pf_ne (by decide +kernel : ¬ (("term" : Str) = "voted")) (rfl)))
theorem nf_Replica_base {x0 x1 x2 x3 x4 : V} : putF "base" x4 ([("me", x0), ("group", x1), ("term", x2), ("voted", x3)] : List (Str × V)) = ([("me", x0), ("group", x1), ("term", x2), ("voted", x3), ("base", x4)] : List (Str × V)) := pf_ne (by decide +kernel : ¬ (("me" : Str) = "base")) (pf_ne (by decide +kernel : ¬ (("group" : Str) = "base")) (pf_ne (by decide +kernel : ¬ (("term" : Str) = "base")) (pf_ne (by decide +kernel : ¬ (("voted" : Str) = "base")) (rfl))))
theorem nf_Replica_entries {x0 x1 x2 x3 x4 x5 : V} : putF "entries" x5 ([("me", x0), ("group", x1), ("term", x2), ("voted", x3), ("base", x4)] : List (Str × V)) = ([("me", x0), ("group", x1), ("term", x2), ("voted", x3), ("base", x4), ("entries", x5)] : List (Str × V)) := pf_ne (by decide +kernel : ¬ (("me" : Str) = "entries")) (pf_ne (by decide +kernel : ¬ (("group" : Str) = "entries")) (pf_ne (by decide +kernel : ¬ (("term" : Str) = "entries")) (pf_ne (by decide +kernel : ¬ (("voted" : Str) = "entries")) (pf_ne (by decide +kernel : ¬ (("base" : Str) = "entries")) (rfl)))))
theorem nf_Replica_role {x0 x1 x2 x3 x4 x5 x6 : V} : putF "role" x6 ([("me", x0), ("group", x1), ("term", x2), ("voted", x3), ("base", x4), ("entries", x5)] : List (Str × V)) = ([("me", x0), ("group", x1), ("term", x2), ("voted", x3), ("base", x4), ("entries", x5), ("role", x6)] : List (Str × V)) := pf_ne (by decide +kernel : ¬ (("me" : Str) = "role")) (pf_ne (by decide +kernel : ¬ (("group" : Str) = "role")) (pf_ne (by decide +kernel : ¬ (("term" : Str) = "role")) (pf_ne (by decide +kernel : ¬ (("voted" : Str) = "role")) (pf_ne (by decide +kernel : ¬ (("base" : Str) = "role")) (pf_ne (by decide +kernel : ¬ (("entries" : Str) = "role")) (rfl))))))
theorem nf_Replica_leader {x0 x1 x2 x3 x4 x5 x6 x7 : V} : putF "leader" x7 ([("me", x0), ("group", x1), ("term", x2), ("voted", x3), ("base", x4), ("entries", x5), ("role", x6)] : List (Str × V)) = ([("me", x0), ("group", x1), ("term", x2), ("voted", x3), ("base", x4), ("entries", x5), ("role", x6), ("leader", x7)] : List (Str × V)) := pf_ne (by decide +kernel : ¬ (("me" : Str) = "leader")) (pf_ne (by decide +kernel : ¬ (("group" : Str) = "leader")) (pf_ne (by decide +kernel : ¬ (("term" : Str) = "leader")) (pf_ne (by decide +kernel : ¬ (("voted" : Str) = "leader")) (pf_ne (by decide +kernel : ¬ (("base" : Str) = "leader")) (pf_ne (by decide +kernel : ¬ (("entries" : Str) = "leader")) (pf_ne (by decide +kernel : ¬ (("role" : Str) = "leader")) (rfl)))))))
theorem nf_Replica_committed {x0 x1 x2 x3 x4 x5 x6 x7 x8 : V} : putF "committed" x8 ([("me", x0), ("group", x1), ("term", x2), ("voted", x3), ("base", x4), ("entries", x5), ("role", x6), ("leader", x7)] : List (Str × V)) = ([("me", x0), ("group", x1), ("term", x2), ("voted", x3), ("base", x4), ("entries", x5), ("role", x6), ("leader", x7), ("committed", x8)] : List (Str × V)) := pf_ne (by decide +kernel : ¬ (("me" : Str) = "committed")) (pf_ne (by decide +kernel : ¬ (("group" : Str) = "committed")) (pf_ne (by decide +kernel : ¬ (("term" : Str) = "committed")) (pf_ne (by decide +kernel : ¬ (("voted" : Str) = "committed")) (pf_ne (by decide +kernel : ¬ (("base" : Str) = "committed")) (pf_ne (by decide +kernel : ¬ (("entries" : Str) = "committed")) (pf_ne (by decide +kernel : ¬ (("role" : Str) = "committed")) (pf_ne (by decide +kernel : ¬ (("leader" : Str) = "committed")) (rfl))))))))
theorem nf_Replica_applied {x0 x1 x2 x3 x4 x5 x6 x7 x8 x9 : V} : putF "applied" x9 ([("me", x0), ("group", x1), ("term", x2), ("voted", x3), ("base", x4), ("entries", x5), ("role", x6), ("leader", x7), ("committed", x8)] : List (Str × V)) = ([("me", x0), ("group", x1), ("term", x2), ("voted", x3), ("base", x4), ("entries", x5), ("role", x6), ("leader", x7), ("committed", x8), ("applied", x9)] : List (Str × V)) := pf_ne (by decide +kernel : ¬ (("me" : Str) = "applied")) (pf_ne (by decide +kernel : ¬ (("group" : Str) = "applied")) (pf_ne (by decide +kernel : ¬ (("term" : Str) = "applied")) (pf_ne (by decide +kernel : ¬ (("voted" : Str) = "applied")) (pf_ne (by decide +kernel : ¬ (("base" : Str) = "applied")) (pf_ne (by decide +kernel : ¬ (("entries" : Str) = "applied")) (pf_ne (by decide +kernel : ¬ (("role" : Str) = "applied")) (pf_ne (by decide +kernel : ¬ (("leader" : Str) = "applied")) (pf_ne (by decide +kernel : ¬ (("committed" : Str) = "applied")) (rfl)))))))))
theorem nf_Replica_durable {x0 x1 x2 x3 x4 x5 x6 x7 x8 x9 x10 : V} : putF "durable" x10 ([("me", x0), ("group", x1), ("term", x2), ("voted", x3), ("base", x4), ("entries", x5), ("role", x6), ("leader", x7), ("committed", x8), ("applied", x9)] : List (Str × V)) = ([("me", x0), ("group", x1), ("term", x2), ("voted", x3), ("base", x4), ("entries", x5), ("role", x6), ("leader", x7), ("committed", x8), ("applied", x9), ("durable", x10)] : List (Str × V)) := pf_ne (by decide +kernel : ¬ (("me" : Str) = "durable")) (pf_ne (by decide +kernel : ¬ (("group" : Str) = "durable")) (pf_ne (by decide +kernel : ¬ (("term" : Str) = "durable")) (pf_ne (by decide +kernel : ¬ (("voted" : Str) = "durable")) (pf_ne (by decide +kernel : ¬ (("base" : Str) = "durable")) (pf_ne (by decide +kernel : ¬ (("entries" : Str) = "durable")) (pf_ne (by decide +kernel : ¬ (("role" : Str) = "durable")) (pf_ne (by decide +kernel : ¬ (("leader" : Str) = "durable")) (pf_ne (by decide +kernel : ¬ (("committed" : Str) = "durable")) (pf_ne (by decide +kernel : ¬ (("applied" : Str) = "durable")) (rfl))))))))))
theorem nf_Replica_state {x0 x1 x2 x3 x4 x5 x6 x7 x8 x9 x10 x11 : V} : putF "state" x11 ([("me", x0), ("group", x1), ("term", x2), ("voted", x3), ("base", x4), ("entries", x5), ("role", x6), ("leader", x7), ("committed", x8), ("applied", x9), ("durable", x10)] : List (Str × V)) = ([("me", x0), ("group", x1), ("term", x2), ("voted", x3), ("base", x4), ("entries", x5), ("role", x6), ("leader", x7), ("committed", x8), ("applied", x9), ("durable", x10), ("state", x11)] : List (Str × V)) := pf_ne (by decide +kernel : ¬ (("me" : Str) = "state")) (pf_ne (by decide +kernel : ¬ (("group" : Str) = "state")) (pf_ne (by decide +kernel : ¬ (("term" : Str) = "state")) (pf_ne (by decide +kernel : ¬ (("voted" : Str) = "state")) (pf_ne (by decide +kernel : ¬ (("base" : Str) = "state")) (pf_ne (by decide +kernel : ¬ (("entries" : Str) = "state")) (pf_ne (by decide +kernel : ¬ (("role" : Str) = "state")) (pf_ne (by decide +kernel : ¬ (("leader" : Str) = "state")) (pf_ne (by decide +kernel : ¬ (("committed" : Str) = "state")) (pf_ne (by decide +kernel : ¬ (("applied" : Str) = "state")) (pf_ne (by decide +kernel : ¬ (("durable" : Str) = "state")) (rfl)))))))))))
theorem nf_Replica_ledger {x0 x1 x2 x3 x4 x5 x6 x7 x8 x9 x10 x11 x12 : V} : putF "ledger" x12 ([("me", x0), ("group", x1), ("term", x2), ("voted", x3), ("base", x4), ("entries", x5), ("role", x6), ("leader", x7), ("committed", x8), ("applied", x9), ("durable", x10), ("state", x11)] : List (Str × V)) = ([("me", x0), ("group", x1), ("term", x2), ("voted", x3), ("base", x4), ("entries", x5), ("role", x6), ("leader", x7), ("committed", x8), ("applied", x9), ("durable", x10), ("state", x11), ("ledger", x12)] : List (Str × V)) := pf_ne (by decide +kernel : ¬ (("me" : Str) = "ledger")) (pf_ne (by decide +kernel : ¬ (("group" : Str) = "ledger")) (pf_ne (by decide +kernel : ¬ (("term" : Str) = "ledger")) (pf_ne (by decide +kernel : ¬ (("voted" : Str) = "ledger")) (pf_ne (by decide +kernel : ¬ (("base" : Str) = "ledger")) (pf_ne (by decide +kernel : ¬ (("entries" : Str) = "ledger")) (pf_ne (by decide +kernel : ¬ (("role" : Str) = "ledger")) (pf_ne (by decide +kernel : ¬ (("leader" : Str) = "ledger")) (pf_ne (by decide +kernel : ¬ (("committed" : Str) = "ledger")) (pf_ne (by decide +kernel : ¬ (("applied" : Str) = "ledger")) (pf_ne (by decide +kernel : ¬ (("durable" : Str) = "ledger")) (pf_ne (by decide +kernel : ¬ (("state" : Str) = "ledger")) (rfl))))))))))))
theorem nf_Replica_records {x0 x1 x2 x3 x4 x5 x6 x7 x8 x9 x10 x11 x12 x13 : V} : putF "records" x13 ([("me", x0), ("group", x1), ("term", x2), ("voted", x3), ("base", x4), ("entries", x5), ("role", x6), ("leader", x7), ("committed", x8), ("applied", x9), ("durable", x10), ("state", x11), ("ledger", x12)] : List (Str × V)) = ([("me", x0), ("group", x1), ("term", x2), ("voted", x3), ("base", x4), ("entries", x5), ("role", x6), ("leader", x7), ("committed", x8), ("applied", x9), ("durable", x10), ("state", x11), ("ledger", x12), ("records", x13)] : List (Str × V)) := pf_ne (by decide +kernel : ¬ (("me" : Str) = "records")) (pf_ne (by decide +kernel : ¬ (("group" : Str) = "records")) (pf_ne (by decide +kernel : ¬ (("term" : Str) = "records")) (pf_ne (by decide +kernel : ¬ (("voted" : Str) = "records")) (pf_ne (by decide +kernel : ¬ (("base" : Str) = "records")) (pf_ne (by decide +kernel : ¬ (("entries" : Str) = "records")) (pf_ne (by decide +kernel : ¬ (("role" : Str) = "records")) (pf_ne (by decide +kernel : ¬ (("leader" : Str) = "records")) (pf_ne (by decide +kernel : ¬ (("committed" : Str) = "records")) (pf_ne (by decide +kernel : ¬ (("applied" : Str) = "records")) (pf_ne (by decide +kernel : ¬ (("durable" : Str) = "records")) (pf_ne (by decide +kernel : ¬ (("state" : Str) = "records")) (pf_ne (by decide +kernel : ¬ (("ledger" : Str) = "records")) (rfl)))))))))))))
theorem nf_Replica_letters {x0 x1 x2 x3 x4 x5 x6 x7 x8 x9 x10 x11 x12 x13 x14 : V} : putF "letters" x14 ([("me", x0), ("group", x1), ("term", x2), ("voted", x3), ("base", x4), ("entries", x5), ("role", x6), ("leader", x7), ("committed", x8), ("applied", x9), ("durable", x10), ("state", x11), ("ledger", x12), ("records", x13)] : List (Str × V)) = ([("me", x0), ("group", x1), ("term", x2), ("voted", x3), ("base", x4), ("entries", x5), ("role", x6), ("leader", x7), ("committed", x8), ("applied", x9), ("durable", x10), ("state", x11), ("ledger", x12), ("records", x13), ("letters", x14)] : List (Str × V)) := pf_ne (by decide +kernel : ¬ (("me" : Str) = "letters")) (pf_ne (by decide +kernel : ¬ (("group" : Str) = "letters")) (pf_ne (by decide +kernel : ¬ (("term" : Str) = "letters")) (pf_ne (by decide +kernel : ¬ (("voted" : Str) = "letters")) (pf_ne (by decide +kernel : ¬ (("base" : Str) = "letters")) (pf_ne (by decide +kernel : ¬ (("entries" : Str) = "letters")) (pf_ne (by decide +kernel : ¬ (("role" : Str) = "letters")) (pf_ne (by decide +kernel : ¬ (("leader" : Str) = "letters")) (pf_ne (by decide +kernel : ¬ (("committed" : Str) = "letters")) (pf_ne (by decide +kernel : ¬ (("applied" : Str) = "letters")) (pf_ne (by decide +kernel : ¬ (("durable" : Str) = "letters")) (pf_ne (by decide +kernel : ¬ (("state" : Str) = "letters")) (pf_ne (by decide +kernel : ¬ (("ledger" : Str) = "letters")) (pf_ne (by decide +kernel : ¬ (("records" : Str) = "letters")) (rfl))))))))))))))
theorem nf_Replica_answers {x0 x1 x2 x3 x4 x5 x6 x7 x8 x9 x10 x11 x12 x13 x14 x15 : V} : putF "answers" x15 ([("me", x0), ("group", x1), ("term", x2), ("voted", x3), ("base", x4), ("entries", x5), ("role", x6), ("leader", x7), ("committed", x8), ("applied", x9), ("durable", x10), ("state", x11), ("ledger", x12), ("records", x13), ("letters", x14)] : List (Str × V)) = ([("me", x0), ("group", x1), ("term", x2), ("voted", x3), ("base", x4), ("entries", x5), ("role", x6), ("leader", x7), ("committed", x8), ("applied", x9), ("durable", x10), ("state", x11), ("ledger", x12), ("records", x13), ("letters", x14), ("answers", x15)] : List (Str × V)) := pf_ne (by decide +kernel : ¬ (("me" : Str) = "answers")) (pf_ne (by decide +kernel : ¬ (("group" : Str) = "answers")) (pf_ne (by decide +kernel : ¬ (("term" : Str) = "answers")) (pf_ne (by decide +kernel : ¬ (("voted" : Str) = "answers")) (pf_ne (by decide +kernel : ¬ (("base" : Str) = "answers")) (pf_ne (by decide +kernel : ¬ (("entries" : Str) = "answers")) (pf_ne (by decide +kernel : ¬ (("role" : Str) = "answers")) (pf_ne (by decide +kernel : ¬ (("leader" : Str) = "answers")) (pf_ne (by decide +kernel : ¬ (("committed" : Str) = "answers")) (pf_ne (by decide +kernel : ¬ (("applied" : Str) = "answers")) (pf_ne (by decide +kernel : ¬ (("durable" : Str) = "answers")) (pf_ne (by decide +kernel : ¬ (("state" : Str) = "answers")) (pf_ne (by decide +kernel : ¬ (("ledger" : Str) = "answers")) (pf_ne (by decide +kernel : ¬ (("records" : Str) = "answers")) (pf_ne (by decide +kernel : ¬ (("letters" : Str) = "answers")) (rfl)))))))))))))))
theorem nf_Replica_births {x0 x1 x2 x3 x4 x5 x6 x7 x8 x9 x10 x11 x12 x13 x14 x15 x16 : V} : putF "births" x16 ([("me", x0), ("group", x1), ("term", x2), ("voted", x3), ("base", x4), ("entries", x5), ("role", x6), ("leader", x7), ("committed", x8), ("applied", x9), ("durable", x10), ("state", x11), ("ledger", x12), ("records", x13), ("letters", x14), ("answers", x15)] : List (Str × V)) = ([("me", x0), ("group", x1), ("term", x2), ("voted", x3), ("base", x4), ("entries", x5), ("role", x6), ("leader", x7), ("committed", x8), ("applied", x9), ("durable", x10), ("state", x11), ("ledger", x12), ("records", x13), ("letters", x14), ("answers", x15), ("births", x16)] : List (Str × V)) := pf_ne (by decide +kernel : ¬ (("me" : Str) = "births")) (pf_ne (by decide +kernel : ¬ (("group" : Str) = "births")) (pf_ne (by decide +kernel : ¬ (("term" : Str) = "births")) (pf_ne (by decide +kernel : ¬ (("voted" : Str) = "births")) (pf_ne (by decide +kernel : ¬ (("base" : Str) = "births")) (pf_ne (by decide +kernel : ¬ (("entries" : Str) = "births")) (pf_ne (by decide +kernel : ¬ (("role" : Str) = "births")) (pf_ne (by decide +kernel : ¬ (("leader" : Str) = "births")) (pf_ne (by decide +kernel : ¬ (("committed" : Str) = "births")) (pf_ne (by decide +kernel : ¬ (("applied" : Str) = "births")) (pf_ne (by decide +kernel : ¬ (("durable" : Str) = "births")) (pf_ne (by decide +kernel : ¬ (("state" : Str) = "births")) (pf_ne (by decide +kernel : ¬ (("ledger" : Str) = "births")) (pf_ne (by decide +kernel : ¬ (("records" : Str) = "births")) (pf_ne (by decide +kernel : ¬ (("letters" : Str) = "births")) (pf_ne (by decide +kernel : ¬ (("answers" : Str) = "births")) (rfl))))))))))))))))
theorem nf_Replica_votes {x0 x1 x2 x3 x4 x5 x6 x7 x8 x9 x10 x11 x12 x13 x14 x15 x16 x17 : V} : putF "votes" x17 ([("me", x0), ("group", x1), ("term", x2), ("voted", x3), ("base", x4), ("entries", x5), ("role", x6), ("leader", x7), ("committed", x8), ("applied", x9), ("durable", x10), ("state", x11), ("ledger", x12), ("records", x13), ("letters", x14), ("answers", x15), ("births", x16)] : List (Str × V)) = ([("me", x0), ("group", x1), ("term", x2), ("voted", x3), ("base", x4), ("entries", x5), ("role", x6), ("leader", x7), ("committed", x8), ("applied", x9), ("durable", x10), ("state", x11), ("ledger", x12), ("records", x13), ("letters", x14), ("answers", x15), ("births", x16), ("votes", x17)] : List (Str × V)) := pf_ne (by decide +kernel : ¬ (("me" : Str) = "votes")) (pf_ne (by decide +kernel : ¬ (("group" : Str) = "votes")) (pf_ne (by decide +kernel : ¬ (("term" : Str) = "votes")) (pf_ne (by decide +kernel : ¬ (("voted" : Str) = "votes")) (pf_ne (by decide +kernel : ¬ (("base" : Str) = "votes")) (pf_ne (by decide +kernel : ¬ (("entries" : Str) = "votes")) (pf_ne (by decide +kernel : ¬ (("role" : Str) = "votes")) (pf_ne (by decide +kernel : ¬ (("leader" : Str) = "votes")) (pf_ne (by decide +kernel : ¬ (("committed" : Str) = "votes")) (pf_ne (by decide +kernel : ¬ (("applied" : Str) = "votes")) (pf_ne (by decide +kernel : ¬ (("durable" : Str) = "votes")) (pf_ne (by decide +kernel : ¬ (("state" : Str) = "votes")) (pf_ne (by decide +kernel : ¬ (("ledger" : Str) = "votes")) (pf_ne (by decide +kernel : ¬ (("records" : Str) = "votes")) (pf_ne (by decide +kernel : ¬ (("letters" : Str) = "votes")) (pf_ne (by decide +kernel : ¬ (("answers" : Str) = "votes")) (pf_ne (by decide +kernel : ¬ (("births" : Str) = "votes")) (rfl)))))))))))))))))
theorem nf_Replica_ahead {x0 x1 x2 x3 x4 x5 x6 x7 x8 x9 x10 x11 x12 x13 x14 x15 x16 x17 x18 : V} : putF "ahead" x18 ([("me", x0), ("group", x1), ("term", x2), ("voted", x3), ("base", x4), ("entries", x5), ("role", x6), ("leader", x7), ("committed", x8), ("applied", x9), ("durable", x10), ("state", x11), ("ledger", x12), ("records", x13), ("letters", x14), ("answers", x15), ("births", x16), ("votes", x17)] : List (Str × V)) = ([("me", x0), ("group", x1), ("term", x2), ("voted", x3), ("base", x4), ("entries", x5), ("role", x6), ("leader", x7), ("committed", x8), ("applied", x9), ("durable", x10), ("state", x11), ("ledger", x12), ("records", x13), ("letters", x14), ("answers", x15), ("births", x16), ("votes", x17), ("ahead", x18)] : List (Str × V)) := pf_ne (by decide +kernel : ¬ (("me" : Str) = "ahead")) (pf_ne (by decide +kernel : ¬ (("group" : Str) = "ahead")) (pf_ne (by decide +kernel : ¬ (("term" : Str) = "ahead")) (pf_ne (by decide +kernel : ¬ (("voted" : Str) = "ahead")) (pf_ne (by decide +kernel : ¬ (("base" : Str) = "ahead")) (pf_ne (by decide +kernel : ¬ (("entries" : Str) = "ahead")) (pf_ne (by decide +kernel : ¬ (("role" : Str) = "ahead")) (pf_ne (by decide +kernel : ¬ (("leader" : Str) = "ahead")) (pf_ne (by decide +kernel : ¬ (("committed" : Str) = "ahead")) (pf_ne (by decide +kernel : ¬ (("applied" : Str) = "ahead")) (pf_ne (by decide +kernel : ¬ (("durable" : Str) = "ahead")) (pf_ne (by decide +kernel : ¬ (("state" : Str) = "ahead")) (pf_ne (by decide +kernel : ¬ (("ledger" : Str) = "ahead")) (pf_ne (by decide +kernel : ¬ (("records" : Str) = "ahead")) (pf_ne (by decide +kernel : ¬ (("letters" : Str) = "ahead")) (pf_ne (by decide +kernel : ¬ (("answers" : Str) = "ahead")) (pf_ne (by decide +kernel : ¬ (("births" : Str) = "ahead")) (pf_ne (by decide +kernel : ¬ (("votes" : Str) = "ahead")) (rfl))))))))))))))))))
theorem nf_Replica_known {x0 x1 x2 x3 x4 x5 x6 x7 x8 x9 x10 x11 x12 x13 x14 x15 x16 x17 x18 x19 : V} : putF "known" x19 ([("me", x0), ("group", x1), ("term", x2), ("voted", x3), ("base", x4), ("entries", x5), ("role", x6), ("leader", x7), ("committed", x8), ("applied", x9), ("durable", x10), ("state", x11), ("ledger", x12), ("records", x13), ("letters", x14), ("answers", x15), ("births", x16), ("votes", x17), ("ahead", x18)] : List (Str × V)) = ([("me", x0), ("group", x1), ("term", x2), ("voted", x3), ("base", x4), ("entries", x5), ("role", x6), ("leader", x7), ("committed", x8), ("applied", x9), ("durable", x10), ("state", x11), ("ledger", x12), ("records", x13), ("letters", x14), ("answers", x15), ("births", x16), ("votes", x17), ("ahead", x18), ("known", x19)] : List (Str × V)) := pf_ne (by decide +kernel : ¬ (("me" : Str) = "known")) (pf_ne (by decide +kernel : ¬ (("group" : Str) = "known")) (pf_ne (by decide +kernel : ¬ (("term" : Str) = "known")) (pf_ne (by decide +kernel : ¬ (("voted" : Str) = "known")) (pf_ne (by decide +kernel : ¬ (("base" : Str) = "known")) (pf_ne (by decide +kernel : ¬ (("entries" : Str) = "known")) (pf_ne (by decide +kernel : ¬ (("role" : Str) = "known")) (pf_ne (by decide +kernel : ¬ (("leader" : Str) = "known")) (pf_ne (by decide +kernel : ¬ (("committed" : Str) = "known")) (pf_ne (by decide +kernel : ¬ (("applied" : Str) = "known")) (pf_ne (by decide +kernel : ¬ (("durable" : Str) = "known")) (pf_ne (by decide +kernel : ¬ (("state" : Str) = "known")) (pf_ne (by decide +kernel : ¬ (("ledger" : Str) = "known")) (pf_ne (by decide +kernel : ¬ (("records" : Str) = "known")) (pf_ne (by decide +kernel : ¬ (("letters" : Str) = "known")) (pf_ne (by decide +kernel : ¬ (("answers" : Str) = "known")) (pf_ne (by decide +kernel : ¬ (("births" : Str) = "known")) (pf_ne (by decide +kernel : ¬ (("votes" : Str) = "known")) (pf_ne (by decide +kernel : ¬ (("ahead" : Str) = "known")) (rfl)))))))))))))))))))
theorem nf_Replica_tokens {x0 x1 x2 x3 x4 x5 x6 x7 x8 x9 x10 x11 x12 x13 x14 x15 x16 x17 x18 x19 x20 : V} : putF "tokens" x20 ([("me", x0), ("group", x1), ("term", x2), ("voted", x3), ("base", x4), ("entries", x5), ("role", x6), ("leader", x7), ("committed", x8), ("applied", x9), ("durable", x10), ("state", x11), ("ledger", x12), ("records", x13), ("letters", x14), ("answers", x15), ("births", x16), ("votes", x17), ("ahead", x18), ("known", x19)] : List (Str × V)) = ([("me", x0), ("group", x1), ("term", x2), ("voted", x3), ("base", x4), ("entries", x5), ("role", x6), ("leader", x7), ("committed", x8), ("applied", x9), ("durable", x10), ("state", x11), ("ledger", x12), ("records", x13), ("letters", x14), ("answers", x15), ("births", x16), ("votes", x17), ("ahead", x18), ("known", x19), ("tokens", x20)] : List (Str × V)) := pf_ne (by decide +kernel : ¬ (("me" : Str) = "tokens")) (pf_ne (by decide +kernel : ¬ (("group" : Str) = "tokens")) (pf_ne (by decide +kernel : ¬ (("term" : Str) = "tokens")) (pf_ne (by decide +kernel : ¬ (("voted" : Str) = "tokens")) (pf_ne (by decide +kernel : ¬ (("base" : Str) = "tokens")) (pf_ne (by decide +kernel : ¬ (("entries" : Str) = "tokens")) (pf_ne (by decide +kernel : ¬ (("role" : Str) = "tokens")) (pf_ne (by decide +kernel : ¬ (("leader" : Str) = "tokens")) (pf_ne (by decide +kernel : ¬ (("committed" : Str) = "tokens")) (pf_ne (by decide +kernel : ¬ (("applied" : Str) = "tokens")) (pf_ne (by decide +kernel : ¬ (("durable" : Str) = "tokens")) (pf_ne (by decide +kernel : ¬ (("state" : Str) = "tokens")) (pf_ne (by decide +kernel : ¬ (("ledger" : Str) = "tokens")) (pf_ne (by decide +kernel : ¬ (("records" : Str) = "tokens")) (pf_ne (by decide +kernel : ¬ (("letters" : Str) = "tokens")) (pf_ne (by decide +kernel : ¬ (("answers" : Str) = "tokens")) (pf_ne (by decide +kernel : ¬ (("births" : Str) = "tokens")) (pf_ne (by decide +kernel : ¬ (("votes" : Str) = "tokens")) (pf_ne (by decide +kernel : ¬ (("ahead" : Str) = "tokens")) (pf_ne (by decide +kernel : ¬ (("known" : Str) = "tokens")) (rfl))))))))))))))))))))
/-! ### class Counter -/
structure Tx_Counter (K : PySem.W.Frag) (mg : Str → Option Value) (C : Addr) : Prop where
  cl : Cls K C
  gC : mg "Counter" = some (.ref C)
  n_last : NoAttr K C "last"
def fl_Counter (x0 : V) : List (Str × V) := [("last", x0)]
theorem fl_Counter_last {x0 : V} : (fl_Counter x0).lookup ("last" : Str) = some x0 := lk_eq
theorem sf_Counter_last {x0 y : V} : putF "last" y (fl_Counter x0) = fl_Counter y := pf_eq
theorem no_Counter {x0 : V} {m : Str} (h_last : ¬ m = "last") : (fl_Counter x0).lookup m = none := (lk_ne h_last).trans (rfl)
theorem nf_Counter_last {x0 : V} : putF "last" x0 ([] : List (Str × V)) = ([("last", x0)] : List (Str × V)) := rfl
/-! ### data of any depth, both sides alike -/
def okD : Nat → PyData → Prop
  | _, .none => True
  | _, .bool _ => True
  | _, .int _ => True
  | _, .str _ => True
  | 0, .list _ => False
  | 0, .tuple _ => False
  | n + 1, .list xs => xs.length ≤ 100000 ∧ ∀ x ∈ xs, okD n x
  | n + 1, .tuple xs => xs.length ≤ 100000 ∧ ∀ x ∈ xs, okD n x
  | _, .dict _ => False
theorem dpAll_len {K : PySem.W.Frag} {G : Hp} : ∀ {xs : List V} {ds : List PyData}, DpAll K G xs ds → xs.length = ds.length
  | _, _, .nil => rfl
  | _, _, .cons _ t => by rw [List.length_cons, List.length_cons, dpAll_len t]
theorem dpAll_get {K : PySem.W.Frag} {G : Hp} : ∀ {xs : List V} {ds : List PyData} {i : Nat} {d : PyData}, DpAll K G xs ds → ds[i]? = some d → ∃ x, xs[i]? = some x ∧ Dp K G x d
  | _, _, _, _, .nil, e => by simp at e
  | _, _, 0, d, .cons h t, e => ⟨_, rfl, by have e := Option.some.inj e; subst e; exact h⟩
  | _, _, i + 1, d, .cons h t, e => by
    obtain ⟨x, h1, h2⟩ := dpAll_get (i := i) t (by simpa using e)
    exact ⟨x, by simpa using h1, h2⟩
mutual
theorem dp_mono {K : PySem.W.Frag} {G G' : Hp} (e : Same G G') : ∀ {v : V} {d : PyData}, Dp K G v d → Dp K G' v d
  | _, _, .non => .non
  | _, _, .bl b => .bl b
  | _, _, .int i => .int i
  | _, _, .str x => .str x
  | _, _, .lst h t => .lst (sl_mono e h) (dpAll_mono e t)
  | _, _, .tup h t => .tup (st_mono e h) (dpAll_mono e t)
theorem dpAll_mono {K : PySem.W.Frag} {G G' : Hp} (e : Same G G') : ∀ {vs : List V} {ds : List PyData}, DpAll K G vs ds → DpAll K G' vs ds
  | _, _, .nil => .nil
  | _, _, .cons h t => .cons (dp_mono e h) (dpAll_mono e t)
end
theorem dpAll_snoc {K : PySem.W.Frag} {G : Hp} : ∀ {xs : List V} {ds : List PyData} {x : V} {d : PyData}, DpAll K G xs ds → Dp K G x d → DpAll K G (xs ++ [x]) (ds ++ [d])
  | _, _, _, _, .nil, h => .cons h .nil
  | _, _, _, _, .cons a t, h => .cons a (dpAll_snoc t h)
theorem dpAll_of {K : PySem.W.Frag} {G : Hp} : ∀ {xs : List V} {ds : List PyData}, xs.length = ds.length → (∀ (i : Nat) (x : V) (d : PyData), xs[i]? = some x → ds[i]? = some d → Dp K G x d) → DpAll K G xs ds
  | [], [], _, _ => .nil
  | x :: xs, d :: ds, h, f => .cons (f 0 x d rfl rfl) (dpAll_of (by simpa using h) fun i y e h1 h2 => f (i + 1) y e (by simpa using h1) (by simpa using h2))
  | [], _ :: _, h, _ => by simp at h
  | _ :: _, [], h, _ => by simp at h
/-- a sequence of either kind -/
def SqB (K : PySem.W.Frag) (G : Hp) (a : Addr) (xs : List V) : Prop := SqL K G a xs ∨ SqT K G a xs
theorem w_ixB {K : PySem.W.Frag} {M G H : Hp} {a : Addr} {xs : List V} {m : Int} {v : V} {Q : VK} (j : J M G H) (h : SqB K G a xs) (e : atI xs m = some v) (q : Q v H) : uIx K (.ref a) (.int m) H Q :=
  h.elim (fun h => w_ixL j h e q) fun h => w_ixT j h e q
theorem w_lenB {K : PySem.W.Frag} {M G H : Hp} {a : Addr} {xs : List V} {Q : VK} (j : J M G H) (h : SqB K G a xs) (q : Q (.int xs.length) H) : uLen K [.ref a] H Q := h.elim (fun h => w_lenL j h q) fun h => w_lenT j h q
def spNo : Sp := fun _ _ _ _ => False
def spAll1 (K : PySem.W.Frag) (n : Nat) : Sp := Sg (α := Addr × Addr × List V × List V × List PyData) (fun x vs M G => vs = [.ref x.1, .ref x.2.1] ∧ SqB K G x.1 x.2.2.1 ∧ SqB K G x.2.1 x.2.2.2.1 ∧ DpAll K G x.2.2.1 x.2.2.2.2 ∧ DpAll K G x.2.2.2.1 x.2.2.2.2 ∧ x.2.2.2.2.length ≤ 100000 ∧ ∀ d ∈ x.2.2.2.2, okD n d)
      (fun x M _ v M' _ => v = .bl true ∧ M' = M)
def spAll (K : PySem.W.Frag) : Nat → Sp
  | 0 => spNo
  | n + 1 => spAll1 K n
def spEq (K : PySem.W.Frag) (n : Nat) : Sp := Sg (α := V × V × PyData) (fun x vs M G => vs = [x.1, x.2.1] ∧ Dp K G x.1 x.2.2 ∧ Dp K G x.2.1 x.2.2 ∧ okD n x.2.2) (fun x M _ v M' _ => v = .bl true ∧ M' = M)
theorem use_eq {K : PySem.W.Frag} {n : Nat} {M G H : Hp} {x y : V} {d : PyData} {Q : VK} {E : XK} (j : J M G H) (h1 : Dp K G x d) (h2 : Dp K G y d) (h3 : okD n d) (k : ∀ G' H', J M G' H' → Ex G G' → Q (.bl true) H') : spEq K n ([x, y] ++ []) H Q E :=
  w_sg (x, y, d) j ⟨rfl, h1, h2, h3⟩ fun v M' G' H' j' e ⟨ev, em⟩ => by subst ev em; exact k G' H' j' e
theorem use_all {K : PySem.W.Frag} {n : Nat} {M G H : Hp} {a b : Addr} {xs ys : List V} {ds : List PyData} {Q : VK} {E : XK} (j : J M G H) (h1 : SqB K G a xs) (h2 : SqB K G b ys) (h3 : DpAll K G xs ds) (h4 : DpAll K G ys ds) (h5 : ds.length ≤ 100000) (h6 : ∀ d ∈ ds, okD n d)
    (k : ∀ G' H', J M G' H' → Ex G G' → Q (.bl true) H') : spAll K (n + 1) ([.ref a, .ref b] ++ []) H Q E := by
  show spAll1 K n _ H Q E
  exact w_sg (a, b, xs, ys, ds) j ⟨rfl, h1, h2, h3, h4, h5, h6⟩ fun v M' G' H' j' e ⟨ev, em⟩ => by subst ev em; exact k G' H' j' e
/-! ### _law_equal, decided -/
def spAllW1 (K : PySem.W.Frag) (n : Nat) : Sp := Sg (α := Addr × Addr × (List V × List V) × (List PyData × List PyData)) (fun x vs M G => vs = [.ref x.1, .ref x.2.1] ∧ SqB K G x.1 x.2.2.1.1 ∧ SqB K G x.2.1 x.2.2.1.2 ∧ DpAll K G x.2.2.1.1 x.2.2.2.1 ∧ DpAll K G x.2.2.1.2 x.2.2.2.2 ∧ x.2.2.2.1.length = x.2.2.2.2.length ∧ x.2.2.2.2.length ≤ 100000 ∧ ∀ d ∈ x.2.2.2.2, okD n d)
      (fun x M _ v M' _ => ∃ b, v = .bl b ∧ (b = true ↔ x.2.2.2.1 = x.2.2.2.2) ∧ M' = M)
def spAllW (K : PySem.W.Frag) : Nat → Sp
  | 0 => spNo
  | n + 1 => spAllW1 K n
def spEqW (K : PySem.W.Frag) (n : Nat) : Sp := Sg (α := V × V × PyData × PyData) (fun x vs M G => vs = [x.1, x.2.1] ∧ Dp K G x.1 x.2.2.1 ∧ Dp K G x.2.1 x.2.2.2 ∧ okD n x.2.2.2) (fun x M _ v M' _ => ∃ b, v = .bl b ∧ (b = true ↔ x.2.2.1 = x.2.2.2) ∧ M' = M)
theorem use_eqw {K : PySem.W.Frag} {n : Nat} {M G H : Hp} {x y : V} {d e : PyData} {Q : VK} {E : XK} (j : J M G H) (h1 : Dp K G x d) (h2 : Dp K G y e) (h3 : okD n e) (k : ∀ b G' H', (b = true ↔ d = e) → J M G' H' → Ex G G' → Q (.bl b) H') : spEqW K n ([x, y] ++ []) H Q E :=
  w_sg (x, y, d, e) j ⟨rfl, h1, h2, h3⟩ fun v M' G' H' j' e ⟨b, ev, eb, em⟩ => by subst ev em; exact k b G' H' eb j' e
theorem use_allw {K : PySem.W.Frag} {n : Nat} {M G H : Hp} {a b : Addr} {xs ys : List V} {ds es : List PyData} {Q : VK} {E : XK} (j : J M G H) (h1 : SqB K G a xs) (h2 : SqB K G b ys) (h3 : DpAll K G xs ds) (h4 : DpAll K G ys es) (hl : ds.length = es.length) (h5 : es.length ≤ 100000) (h6 : ∀ d ∈ es, okD n d)
    (k : ∀ b G' H', (b = true ↔ ds = es) → J M G' H' → Ex G G' → Q (.bl b) H') : spAllW K (n + 1) ([.ref a, .ref b] ++ []) H Q E := by
  show spAllW1 K n _ H Q E
  exact w_sg (a, b, (xs, ys), (ds, es)) j ⟨rfl, h1, h2, h3, h4, hl, h5, h6⟩ fun v M' G' H' j' e ⟨b, ev, eb, em⟩ => by subst ev em; exact k b G' H' eb j' e
theorem use_eqt {K : PySem.W.Frag} {n : Nat} {M G H : Hp} {x y : V} {d : PyData} {Q : VK} {E : XK} (j : J M G H) (h1 : Dp K G x d) (h2 : Dp K G y d) (h3 : okD n d) (k : ∀ G' H', J M G' H' → Ex G G' → Q (.bl true) H') : spEqW K n ([x, y] ++ []) H Q E :=
  use_eqw j h1 h2 h3 fun b G' H' eb j' e => by
    obtain rfl : b = true := eb.mpr rfl
    exact k G' H' j' e
/-! ### stretches -/
def mx (a b : Int) : Int := if b > a then b else a
def mn (a b : Int) : Int := if b < a then b else a
def PrAt (G : Hp) (t : Addr) (p : Int × Int) : Prop := G t = some (.tup [.int p.1, .int p.2])
theorem PrAt.ex {G G' : Hp} {t : Addr} {p : Int × Int} (h : PrAt G t p) (e : Ex G G') : PrAt G' t p := e _ _ h
def clipM (a b : Int × Int) : Option (Int × Int) := if mx a.1 b.1 < mn a.2 b.2 then some (mx a.1 b.1, mn a.2 b.2) else none
def PoAt (G : Hp) (v : V) : Option (Int × Int) → Prop
  | none => v = .non
  | some p => ∃ t, v = .ref t ∧ PrAt G t p
def insM (a b : Int × Int) : Bool := decide (b.1 ≤ a.1) && (decide (a.1 < a.2) && decide (a.2 ≤ b.2))
theorem clipM_t {a b : Int × Int} (h : mx a.1 b.1 < mn a.2 b.2) : clipM a b = some (mx a.1 b.1, mn a.2 b.2) := if_pos h
theorem clipM_f {a b : Int × Int} (h : ¬ mx a.1 b.1 < mn a.2 b.2) : clipM a b = none := if_neg h
def poD : Option (Int × Int) → PyData
  | none => .none
  | some p => .tuple [.int p.1, .int p.2]
theorem PoAt.dp {K : PySem.W.Frag} {G : Hp} {v : V} {o : Option (Int × Int)} (h : PoAt G v o) : Dp K G v (poD o) := by
  cases o with
  | none => cases h; exact .non
  | some p => obtain ⟨t, rfl, ht⟩ := h; exact .tup (st_of ht) (.cons (.int _) (.cons (.int _) .nil))
theorem PoAt.ex {G G' : Hp} {v : V} {o : Option (Int × Int)} (h : PoAt G v o) (e : Ex G G') : PoAt G' v o := by
  cases o with
  | none => exact h
  | some p => obtain ⟨t, ev, ht⟩ := h; exact ⟨t, ev, ht.ex e⟩
theorem okD_int {n : Nat} (i : Int) : okD n (.int i) := by cases n <;> trivial
theorem okD_po {o : Option (Int × Int)} {n : Nat} : okD (n + 1) (poD o) := by
  cases o with
  | none => exact trivial
  | some p =>
    refine ⟨by show 2 ≤ 100000; decide, fun x hx => ?_⟩
    rcases List.mem_cons.mp hx with rfl | hx
    · exact okD_int _
    · rw [List.mem_singleton.mp hx]; exact okD_int _
/-! ### max(xs, default=d), whole numbers -/
def topI (d : Int) : List Int → Int
  | [] => d
  | n :: ns => ns.foldl max n
theorem topI_spec (d : Int) : ∀ ns : List Int, (ns = [] ∧ topI d ns = d) ∨ (topI d ns ∈ ns ∧ ∀ y ∈ ns, y ≤ topI d ns)
  | [] => .inl ⟨rfl, rfl⟩
  | n :: ns => by
    refine .inr ?_
    show ns.foldl max n ∈ n :: ns ∧ ∀ y ∈ n :: ns, y ≤ ns.foldl max n
    induction ns generalizing n with
    | nil => simp
    | cons k r ih =>
      obtain ⟨h1, h2⟩ := ih (max n k)
      simp only [List.foldl_cons]
      refine ⟨?_, fun y hy => ?_⟩
      · rcases List.mem_cons.mp h1 with e | e
        · rw [e]; rcases Int.le_total n k with q | q
          · rw [Int.max_eq_right q]; simp
          · rw [Int.max_eq_left q]; simp
        · exact List.mem_cons_of_mem _ (List.mem_cons_of_mem _ e)
      · have h0 := h2 _ (List.mem_cons_self)
        rcases List.mem_cons.mp hy with e | e
        · rw [e]; exact Int.le_trans (Int.le_max_left _ _) h0
        · rcases List.mem_cons.mp e with e | e
          · rw [e]; exact Int.le_trans (Int.le_max_right _ _) h0
          · exact h2 _ (List.mem_cons_of_mem _ e)
theorem reads_nums {h : Heap} : ∀ {vs : List Value} {ns : List Int}, IntsAre vs ns → ReadsAll h vs (ns.map .int) []
  | _, _, .nil => .nil
  | _, _, .cons _ _ r => .cons (.int _ _) (reads_nums r)
def MaxD (K : PySem.W.Frag) : List V → List V → Hp → VK → Prop := fun vs zs H Q => ∃ (l : Addr) (ns : List Int) (d : Int), vs = [V.ref l] ∧ zs = [V.int d] ∧ SqL K H l (ns.map V.int) ∧ Q (.int (topI d ns)) H
theorem call_maxD {X : Cx} (hc : X.calm = true) (hu : X.A.units + 64 < cLine) : CallRK X (.builtin "max") [Str.ofString "default"] (MaxD X.K) := by
  intro pins s σ H vs zs us ws Q I r rz h
  obtain ⟨l, ns, d, rfl, rfl, hs, q⟩ := h
  obtain ⟨its, rv, pl, hz⟩ := I.list hs
  obtain rfl := Vals.ref1 r
  obtain ⟨w1, rfl, t1, rfl⟩ := vals1 rz
  refine PySem.W.max_list_default (I.ok.hd hc) pl.isList (xs := ns.map PyData.int) (as := []) (by simpa using reads_nums rv.ints) ⟨fun x hx y hy => ?_, fun x hx => ?_⟩ ?_ (fun e h' tk keep => ?_) (fun y ys i v h' tk bs e hv rd keep => ?_)
  · obtain ⟨i, _, rfl⟩ := List.mem_map.mp hx; obtain ⟨k, _, rfl⟩ := List.mem_map.mp hy; simp [PySem.W.alike]
  · obtain ⟨i, _, rfl⟩ := List.mem_map.mp hx; exact fun z => nomatch z
  · rw [PySem.W.depth_ints]; omega
  · obtain rfl : ns = [] := List.map_eq_nil_iff.mp e
    exact ⟨.int d, H, I.kept keep, ⟨_, rfl⟩, q⟩
  · cases ns with
    | nil => cases e
    | cons n ns =>
      obtain ⟨rfl, rfl⟩ := List.cons.inj e
      rw [PySem.W.maxD_ints] at rd
      cases rd
      exact ⟨.int (topI d (n :: ns)), H, I.kept keep, ⟨_, rfl⟩, q⟩
theorem w_maxD {K : PySem.W.Frag} {M G H : Hp} {l : Addr} {ns : List Int} {d : Int} {Q : VK} (j : J M G H) (h : SqL K G l (ns.map V.int)) (k : Q (.int (topI d ns)) H) : MaxD K [.ref l] [.int d] H Q :=
  ⟨l, ns, d, rfl, rfl, sl_mono j.g h, k⟩
theorem w_ckw {r : List V → List V → Hp → VK → Prop} {t tk : TA} {σ : L2.St} {H : Hp} {Q : VK} (h : t σ H fun vs H1 => tk σ H1 fun zs H2 => r vs zs H2 Q) : tCKw r t tk σ H Q := h
local macro_rules
  | `(tactic| walk_at "v") => `(tactic| with_reducible refine w_ckw ?_)
/-! ### sorted(d) of a dict with tuple keys, all of whole numbers -/
def ky (d : List Int) : List Key := d.map Sum.inl
theorem ky_kV (d : List Int) : (ky d).map kV = d.map V.int := by unfold ky; rw [List.map_map]; rfl
theorem ky_inj {a b : List Int} (h : ky a = ky b) : a = b := by
  induction a generalizing b with
  | nil => cases b with
    | nil => rfl
    | cons y b => cases h
  | cons x a ih => cases b with
    | nil => cases h
    | cons y b =>
      obtain ⟨h1, h2⟩ := List.cons.inj h
      rw [Sum.inl.inj h1, ih h2]
def encI (d : List Int) : PyData := .tuple (d.map PyData.int)
def leI (a b : List Int) : Bool := !decide (b < a)
theorem leI_trans {a b c : List Int} (h1 : leI a b = true) (h2 : leI b c = true) : leI a c = true := by
  unfold leI at *
  simp only [Bool.not_eq_true', decide_eq_false_iff_not] at *
  exact List.le_trans h1 h2
theorem leI_total (a b : List Int) : (leI a b || leI b a) = true := by
  unfold leI
  rcases List.le_total a b with h | h
  · rw [decide_eq_false h]; rfl
  · rw [decide_eq_false h, Bool.not_false, Bool.or_true]
theorem leI_antisymm {a b : List Int} (h1 : leI a b = true) (h2 : leI b a = true) : a = b := by
  unfold leI at *
  simp only [Bool.not_eq_true', decide_eq_false_iff_not] at *
  exact List.le_antisymm h1 h2
def srt (ds : List (List Int)) : List (List Int) := ds.mergeSort leI
theorem srt_perm (ds : List (List Int)) : (srt ds).Perm ds := List.mergeSort_perm _ _
theorem srt_pw (ds : List (List Int)) : (srt ds).Pairwise fun a b => leI a b = true := List.pairwise_mergeSort (le := leI) (fun _ _ _ h1 h2 => leI_trans h1 h2) (fun a b => leI_total a b) ds
theorem srt_eq {a b : List (List Int)} (h : a.Perm b) : srt a = srt b :=
  List.Perm.eq_of_pairwise (le := fun a b => leI a b = true) (fun x y _ _ => leI_antisymm) (srt_pw a) (srt_pw b) ((srt_perm a).trans (h.trans (srt_perm b).symm))
theorem leI_data : PySem.W.dataLe false encI = leI := by
  funext a b
  show (!PySem.W.dataLt (encI b) (encI a)) = _
  unfold encI leI
  rw [PySem.W.dataLt_tuple]
  congr 1
  exact PySem.W.dataLt_ints b a

theorem srt_snd {α : Type} (zs : List (α × List Int)) : (zs.mergeSort fun x y => leI x.2 y.2).map (·.2) = srt (zs.map (·.2)) := by
  have p1 := (List.mergeSort_perm zs fun x y => leI x.2 y.2).map (·.2)
  have p2 := List.pairwise_mergeSort (le := fun x y : α × List Int => leI x.2 y.2) (fun _ _ _ h1 h2 => leI_trans h1 h2) (fun a b => leI_total a.2 b.2) zs
  exact List.Perm.eq_of_pairwise (le := fun a b => leI a b = true) (fun x y _ _ => leI_antisymm) (List.pairwise_map.mpr p2) (srt_pw _) (p1.trans (srt_perm _).symm)
/-- the tuples of whole numbers at the addresses -/
def AtI (H : Hp) (qs : List Addr) (ds : List (List Int)) : Prop := Paired (fun q d => H q = some (.tup (d.map V.int))) qs ds
theorem reads_encI {P : Program} {w : World} {H : Hp} {h : Heap} (ok : HOk P w H h) {q : Addr} {d : List Int} (e : H q = some (.tup (d.map V.int))) : Reads h (.ref q) (encI d) [] := by
  obtain ⟨_, its, rv, o, ho, hc, n, hd⟩ := (show ObjOk P w H h q (.tup (d.map V.int)) from ok q _ e)
  exact .tuple ho hc hd (reads_nums rv.ints)
theorem each_zip {R : Value → Addr × List Int → Prop} : ∀ {qs : List Addr} {ds : List (List Int)}, Paired (fun q d => R (.ref q) (q, d)) qs ds → PySem.W.EachIs R (qs.map Value.ref) (qs.zip ds)
  | _, _, .nil => .nil
  | _, _, .cons h t => .cons h (each_zip t)
theorem each_out {zs : List (Addr × List Int)} : ∀ {out : List Value}, PySem.W.EachIs (fun v z => v = Value.ref z.1) out zs → out = (zs.map (·.1)).map Value.ref := by
  induction zs with
  | nil => intro out h; cases h; rfl
  | cons z zs ih => intro out h; cases h with | cons e t => rw [e, ih t]; rfl
theorem paired_mem {α β : Type} {F : α → β → Prop} : ∀ {xs : List α} {ys : List β}, Paired F xs ys → ∀ z ∈ xs.zip ys, F z.1 z.2
  | _, _, .nil, z, h => by cases h
  | _, _, .cons f t, z, h => by
    rcases List.mem_cons.mp h with e | e
    · subst e; exact f
    · exact paired_mem t z e
theorem paired_of {α β γ : Type} {F : β → γ → Prop} {f : α → β} {g : α → γ} : ∀ {zs : List α}, (∀ z ∈ zs, F (f z) (g z)) → Paired F (zs.map f) (zs.map g)
  | [], _ => .nil
  | z :: zs, h => .cons (h z List.mem_cons_self) (paired_of fun y m => h y (List.mem_cons_of_mem _ m))
def SortDT (xs : List V) (H : Hp) (Q : VK) : Prop := ∃ (a : Addr) (kvs : List (List Key × V)) (ds : List (List Int)), xs = [.ref a] ∧ Rd H a (.dT kvs) ∧ kvs.map (·.1) = ds.map ky ∧ (∀ d ∈ ds, d ≠ []) ∧ ds.length ≤ 1000000 ∧
  ∀ (qs : List Addr) (p : Addr), AtI H qs (srt ds) → H p = none → Q (.ref p) (upd H p (.lst (qs.map V.ref)))
theorem call_sortedDT {X : Cx} (hc : X.calm = true) (hu : X.A.units + 64 < cLine) : CallR X (.builtin "sorted") SortDT := by
  intro pins s σ H xs us Q I r q
  obtain ⟨a, kvs, ds, rfl, hd, hks, hne, hz, q⟩ := q
  obtain rfl := Vals.ref1 r
  obtain ⟨z, hs, ks, pr, o, es, ep, ho, hx, hdt, he, hn⟩ := (show ObjOk X.prog X.w H s.heap a (.dT kvs) from hd.ok I.hok)
  have l1 : es.size = ks.length := size_of_entries he
  have l2 : kvs.length = ks.length := Paired.length pr
  have l3 : kvs.length = ds.length := by rw [← List.length_map (f := (·.1)) (as := kvs), hks, List.length_map]
  refine Calls.call_function_entry PyProof.Rows.kind_sorted PyProof.Rows.plain_sorted PyProof.Rows.entry_sorted (PyProof.Rows.args_sorted1 _) ?_
  unfold Builtin.«sorted»
  refine wpAny_bind (m := checkCount "sorted" 1 1 _) (wpAny_pure ?_)
  refine wpAny_bind (PySem.W.kdu_collect (A := X.A.in1) (kdl_raw hs hx hdt) (I.ok.hd hc) ho (by omega) fun h' tk acc hk hacc => ?_)
  have ea : acc.toList = (ks.map fun x => x.2.1).map Value.ref := by
    have hl : acc.toList.length = ks.length := by rw [Array.length_toList, hacc.1, l1]
    refine List.ext_getElem? fun j => ?_
    rw [List.getElem?_map, List.getElem?_map]
    cases hj : acc.toList[j]? with
    | none =>
      have h1 := List.getElem?_eq_none_iff.mp hj
      rw [List.getElem?_eq_none (show ks.length ≤ j by omega)]; rfl
    | some v =>
      obtain ⟨en, hen, hv⟩ := hacc.2 j v (by rw [← Array.getElem?_toList]; exact hj)
      have qe := entry_at he j
      rw [hen] at qe
      cases hb : ks[j]? with
      | none => rw [hb] at qe; exact nomatch (show some en = none from qe)
      | some b =>
        rw [hb] at qe
        have e2 : en = entryOfKey (tupleKind (mixKind X.prog X.w)) b := Option.some.inj qe
        rw [hv, e2]; rfl
  generalize hqs : (ks.map fun x => x.2.1) = qs at ea
  have hat : Paired (fun q d => H q = some (.tup (d.map V.int))) qs ds := by
    have g : ∀ {kvs : List (List Key × V)} {ks : List (List Key × Addr × Value)} {ds : List (List Int)}, Paired (fun (p : List Key × V) (q : List Key × Addr × Value) => p.1 = q.1 ∧ H q.2.1 = some (.tup (p.1.map kV)) ∧ RelV p.2 q.2.2) kvs ks → kvs.map (·.1) = ds.map ky → Paired (fun q d => H q = some (.tup (d.map V.int))) (ks.map fun x => x.2.1) ds := fun {kvs ks ds} pr => by
      induction pr generalizing ds with
      | nil => intro h; cases ds with
        | nil => exact .nil
        | cons d ds => cases h
      | cons f t ih => intro h; cases ds with
        | nil => cases h
        | cons d ds =>
          obtain ⟨h1, h2⟩ := List.cons.inj h
          refine .cons ?_ (ih h2)
          have e1 := f.2.1
          have h1 : ‹List Key × V›.1 = ky d := h1
          rw [h1, ky_kV] at e1
          exact e1
    rw [← hqs]; exact g pr hks
  have lq : qs.length = ds.length := Paired.length hat
  have I1 : Inv X pins σ H { s with heap := h', toks := tk } := I.kept hk
  refine wpAny_bind (wpAny_newList ?_ (by rw [ea, List.length_map, lq]; exact sz_le hz))
  rw [ea]
  have hoL : (h'.push (seqObj "list" (qs.map Value.ref).toArray 0)).get? h'.objs.size = some (seqObj "list" (qs.map Value.ref).toArray 0) := Heap.get?_push_size _ rfl
  have I2 : Inv X pins σ H { s with heap := h'.push (seqObj "list" (qs.map Value.ref).toArray 0), toks := tk } := I1.kept (t' := tk) fun b o e => Heap.get?_push_of_some _ e
  show wpAny _ _ _ _ _ { s with heap := h'.push (seqObj "list" (qs.map Value.ref).toArray 0), toks := tk }
  refine wpAny_bind (wpAny_holding (PySem.W.list_sort_data (s := { s with heap := h'.push (seqObj "list" (qs.map Value.ref).toArray 0), toks := tk }) (enc := fun z : Addr × List Int => encI z.2) (R := fun v z => v = Value.ref z.1) (bs := qs.zip ds) hoL
    (each_zip (L2.Paired.mapP hat fun _ _ _ => rfl)) (each_zip (L2.Paired.mapP hat fun q d e => ⟨[], reads_encI I2.hok e, List.not_mem_nil⟩)) (fun d h1 d' h2 => ?_) (.inl fun d h1 => ?_) (by rw [List.length_zip, lq, Nat.min_self]; exact sz_le hz) (fun b _ => ?_) fun out hl ho => ?_))
  · obtain ⟨x, _, rfl⟩ := List.mem_map.mp h1
    obtain ⟨y, _, rfl⟩ := List.mem_map.mp h2
    show PySem.W.alikeAll _ _ = true
    exact PySem.W.alike_ints _ _
  · obtain ⟨x, hx, rfl⟩ := List.mem_map.mp h1
    have := hne x.2 (List.of_mem_zip hx).2
    cases e : x.2 with
    | nil => exact (this e).elim
    | cons y r => exact ⟨.int y, r.map PyData.int, rfl⟩
  · have : (encI b.2).depth ≤ 1 := by
      unfold encI
      rw [PyData.depth, PySem.W.depth_ints]
      exact Nat.le_refl _
    show X.A.units + 1 + 1 + _ < cLine
    omega
  · have hout := each_out ho
    have hle : PySem.W.dataLe false (fun z : Addr × List Int => encI z.2) = fun x y => leI x.2 y.2 := by
      funext x y
      exact congrFun (congrFun leI_data x.2) y.2
    rw [hle] at hout
    have hsrt : ((qs.zip ds).mergeSort fun x y => leI x.2 y.2).map (·.2) = srt ds := by
      rw [srt_snd, List.map_snd_zip (by omega)]
    generalize hzs : ((qs.zip ds).mergeSort fun x y => leI x.2 y.2) = zs at hout hsrt
    have hmem : ∀ z ∈ zs, H z.1 = some (.tup (z.2.map V.int)) := fun z hz => paired_mem hat z (by rw [← hzs] at hz; exact List.mem_mergeSort.mp hz)
    obtain ⟨e', he'⟩ := PyProof.Rows.sortedHeap_at (vs := qs.map Value.ref) (out := out.toArray) hoL
    have rv : Vals ((zs.map (·.1)).map V.ref) out := by rw [hout]; exact vals_refs _
    have hlen : ((zs.map (·.1)).map V.ref).length ≤ sizeLine := by
      rw [List.length_map, List.length_map, ← List.length_map (f := (·.2)) (as := zs), hsrt, (srt_perm ds).length_eq]
      exact sz_le hz
    refine wpAny_pure ⟨_, rfl, .ref h'.objs.size, upd H h'.objs.size (.lst ((zs.map (·.1)).map V.ref)), I1.laid (t' := tk) (fun b u e => ?_) (Nat.le_refl _)
      (show ObjOk X.prog X.w _ _ _ (.lst ((zs.map (·.1)).map V.ref)) from ⟨hlen, out, e', rv, he'⟩), rfl, q (zs.map (·.1)) _ (by rw [← hsrt]; exact paired_of hmem) (I1.hok.fresh (Nat.le_refl _))⟩
    have hb : b < h'.objs.size := Heap.lt_size e
    rw [PyProof.Rows.sortedHeap_old (Nat.ne_of_lt hb) (by rw [size_push']; exact Nat.lt_succ_of_lt hb)]
    exact Heap.get?_push_of_some _ e
/-! ### sorted of a list of pairs (time, value), the times different; min of pairs (time, name) -/
def ovV : Option Int → V
  | none => .non
  | some n => .int n
def TvAt (H : Hp) (t : Addr) (p : Int × Option Int) : Prop := H t = some (.tup [.int p.1, ovV p.2])
def leT (a b : Int × Option Int) : Bool := decide (a.1 ≤ b.1)
def srtT (ps : List (Int × Option Int)) : List (Int × Option Int) := ps.mergeSort leT
noncomputable def timeKind (zs : List (Addr × Int × Option Int)) : PyProof.Rows.KeyKind where
  toKeyOrd := PyProof.Rows.listOrd PyProof.Rows.itemOrd
  keyOf v := match v with
    | .ref a => (zs.find? fun z => z.1 == a).map fun z => [Sum.inl z.2.1]
    | _ => none
  dflt := []
theorem timeKind_some {zs : List (Addr × Int × Option Int)} {v : Value} {a : List (Int ⊕ List Nat)} (h : (timeKind zs).keyOf v = some a) : ∃ z ∈ zs, v = .ref z.1 ∧ a = [Sum.inl z.2.1] := by
  cases v with
  | ref b =>
    replace h : (zs.find? fun z => z.1 == b).map (fun z => [Sum.inl z.2.1]) = some a := h
    cases e : zs.find? fun z => z.1 == b with
    | none => rw [e] at h; cases h
    | some z =>
      rw [e] at h
      have e1 := List.find?_some e
      have e1 : z.1 = b := by simpa using e1
      exact ⟨z, List.mem_of_find?_eq_some e, by rw [e1], (Option.some.inj h).symm⟩
  | _ => exact nomatch (show none = some a from h)
theorem timeKind_mem {zs : List (Addr × Int × Option Int)} (hn : ∀ z ∈ zs, ∀ y ∈ zs, z.1 = y.1 → z = y) {z : Addr × Int × Option Int} (h : z ∈ zs) : (timeKind zs).keyOf (.ref z.1) = some [Sum.inl z.2.1] := by
  show (zs.find? fun y => y.1 == z.1).map (fun z => [Sum.inl z.2.1]) = _
  cases e : zs.find? fun y => y.1 == z.1 with
  | none => have := List.find?_eq_none.mp e z h; simp at this
  | some y =>
    have e1 := List.find?_some e
    have e1 : y.1 = z.1 := by simpa using e1
    rw [hn y (List.mem_of_find?_eq_some e) z h e1]; rfl
theorem time_ltAt {P : Program} {w : World} {A : Around} {s : Shared} {zs : List (Addr × Int × Option Int)} (hu : A.units < cLine) (hz : ∀ z ∈ zs, ∃ (o : Obj) (n : Nat) (t u : Tok) (x : Value), s.heap.get? z.1 = some o ∧ o.data = .seq #[.int z.2.1 t, x] n ∧ (x = .none ∨ ∃ i, x = .int i u))
    (hd : ∀ z ∈ zs, ∀ y ∈ zs, z.2.1 = y.2.1 → z = y) : PyProof.Rows.H.LtAt P w A s (timeKind zs) (tuples' true) := by
  intro E x y a b Q hx hy hq
  obtain ⟨z, mz, rfl, rfl⟩ := timeKind_some hx
  obtain ⟨y, my, rfl, rfl⟩ := timeKind_some hy
  obtain ⟨o, n, t, u, x1, g1, g2, g3⟩ := hz z mz
  obtain ⟨o', n', t', u', x2, h1, h2, h3⟩ := hz y my
  replace hq : Q (PyProof.Rows.lexLt PyProof.Rows.itemOrd [Sum.inl z.2.1] [Sum.inl y.2.1]) s := hq
  refine PySem.W.kat_lt g1 g2 h1 h2 ?_
  show PySem.W.KatLex P w A true false Q [(Value.int z.2.1 t, Value.int y.2.1 t'), (x1, x2)] 0 s
  refine PySem.W.kat_cons (wpAny_eqBool_int (PySem.W.kat_go (fun e => ?_) fun e => ?_))
  · have e1 : z.2.1 = y.2.1 := by simpa using e
    obtain rfl := hd z mz y my e1
    have e2 : o = o' := Option.some.inj (g1.symm.trans h1)
    subst e2
    rw [g2] at h2
    injection h2 with h2 _
    have e3 : Value.int z.2.1 t = Value.int z.2.1 t' ∧ x1 = x2 := by simpa using h2
    obtain ⟨_, rfl⟩ := e3
    have irr : PyProof.Rows.lexLt PyProof.Rows.itemOrd [Sum.inl z.2.1] [Sum.inl z.2.1] = false := by
      rw [PyProof.Rows.lex_self]; rfl
    rw [irr] at hq
    refine PySem.W.kat_yes (PySem.W.kat_cons ?_)
    rcases g3 with rfl | ⟨i, rfl⟩
    · exact PySem.W.eqAt_alike .none .none A s .none .none [] [] .none .none rfl (by simpa [PyData.depth] using hu) P w _ _ (PySem.W.kat_go (fun _ => PySem.W.kat_yes (PySem.W.kat_nil hq)) fun e => by simp [PyData.eqv] at e)
    · exact wpAny_eqBool_int (PySem.W.kat_go (fun _ => PySem.W.kat_yes (PySem.W.kat_nil hq)) fun e => by simp at e)
  · have e1 : ¬ z.2.1 = y.2.1 := by simpa using e
    rw [PyProof.Rows.lex_diff (fun x => e1 (Sum.inl.inj x))] at hq
    exact PySem.W.kat_no (PyProof.Rows.oneLt_any_int hq)
theorem leT_data : PySem.W.sortLe (PyProof.Rows.listOrd PyProof.Rows.itemOrd) false (fun z : Addr × Int × Option Int => [Sum.inl z.2.1]) = fun x y => leT x.2 y.2 := PySem.W.dataLe_int fun z : Addr × Int × Option Int => z.2.1
theorem leT_trans {a b c : Int × Option Int} (h1 : leT a b = true) (h2 : leT b c = true) : leT a c = true := by
  unfold leT at *
  rw [decide_eq_true_iff] at *
  omega
theorem leT_total (a b : Int × Option Int) : (leT a b || leT b a) = true := by
  unfold leT
  rw [Bool.or_eq_true, decide_eq_true_iff, decide_eq_true_iff]
  omega
theorem srtT_perm (ps : List (Int × Option Int)) : (srtT ps).Perm ps := List.mergeSort_perm _ _
theorem srtT_pw (ps : List (Int × Option Int)) : (srtT ps).Pairwise fun a b => leT a b = true := List.pairwise_mergeSort (le := leT) (fun _ _ _ h1 h2 => leT_trans h1 h2) leT_total ps
theorem nodup_at {α β : Type} {f : α → β} : ∀ {xs : List α}, (xs.map f).Nodup → ∀ x ∈ xs, ∀ y ∈ xs, f x = f y → x = y
  | [], _, x, hx, _, _, _ => by cases hx
  | a :: xs, hn, x, hx, y, hy, e => by
    rw [List.map_cons, List.nodup_cons] at hn
    rcases List.mem_cons.mp hx with rfl | hx
    · rcases List.mem_cons.mp hy with rfl | hy
      · rfl
      · exact (hn.1 (e ▸ List.mem_map_of_mem hy)).elim
    · rcases List.mem_cons.mp hy with hy | hy
      · rw [hy] at e
        exact (hn.1 (e ▸ List.mem_map_of_mem hx)).elim
      · exact nodup_at hn.2 x hx y hy e
theorem kat_ints {h : Heap} : ∀ {ts : List Addr}, (∀ t ∈ ts, ∃ (o : Obj) (n : Nat) (i : Int) (tk : Tok) (x : Value), h.get? t = some o ∧ o.data = .seq #[.int i tk, x] n ∧ o.cls = .type "tuple") →
    ∃ fs : List Value, PySem.W.KatTups h (ts.map Value.ref) fs ∧ fs.length = ts.length ∧ ∀ f ∈ fs, ∃ i t, f = Value.int i t
  | [], _ => ⟨[], PySem.W.KatTups.nil, rfl, fun f h => nomatch h⟩
  | t :: ts, hh => by
    obtain ⟨fs, h1, h2, h3⟩ := kat_ints (ts := ts) fun y m => hh y (List.mem_cons_of_mem _ m)
    obtain ⟨o, n, i, tk, x, g1, g2, g3⟩ := hh t List.mem_cons_self
    refine ⟨.int i tk :: fs, PySem.W.KatTups.cons g1 g3 g2 rfl h1, by rw [List.length_cons, List.length_cons, h2], fun f hf => ?_⟩
    rcases List.mem_cons.mp hf with rfl | hf
    · exact ⟨i, tk, rfl⟩
    · exact h3 f hf
/-- two sorted lists of the same pairs of different times -/
theorem srtT_uniq {a b : List (Int × Option Int)} (hn : (a.map (·.1)).Nodup) (h : a.Perm b) : srtT a = srtT b := by
  refine List.Perm.eq_of_pairwise (le := fun a b => leT a b = true) (fun x y hx hy h1 h2 => ?_) (srtT_pw a) (srtT_pw b) ((srtT_perm a).trans (h.trans (srtT_perm b).symm))
  unfold leT at h1 h2
  rw [decide_eq_true_iff] at h1 h2
  exact nodup_at hn x ((srtT_perm a).mem_iff.mp hx) y (h.mem_iff.mpr ((srtT_perm b).mem_iff.mp hy)) (by omega)
theorem each_zipG {α : Type} {F : Addr → α → Prop} {R : Value → Addr × α → Prop} : ∀ {qs : List Addr} {ds : List α}, Paired F qs ds → (∀ z ∈ qs.zip ds, R (.ref z.1) z) → PySem.W.EachIs R (qs.map Value.ref) (qs.zip ds)
  | _, _, .nil, _ => .nil
  | _, _, .cons h t, f => .cons (f _ List.mem_cons_self) (each_zipG t fun z m => f z (List.mem_cons_of_mem _ m))
theorem each_outG {α : Type} {zs : List (Addr × α)} : ∀ {out : List Value}, PySem.W.EachIs (fun v z => v = Value.ref z.1) out zs → out = (zs.map (·.1)).map Value.ref := by
  induction zs with
  | nil => intro out h; cases h; rfl
  | cons z zs ih => intro out h; cases h with | cons e t => rw [e, ih t]; rfl
theorem vals_of_refs : ∀ {qs : List Addr} {us : List Value}, Vals (qs.map V.ref) us → us = qs.map Value.ref
  | [], _, .nil => rfl
  | q :: qs, _, .cons h t => by rw [vals_of_refs t]; cases h; rfl
def SortTV (K : PySem.W.Frag) (xs : List V) (H : Hp) (Q : VK) : Prop := ∃ (a : Addr) (ts : List Addr) (ps : List (Int × Option Int)), xs = [.ref a] ∧ SqL K H a (ts.map V.ref) ∧ Paired (TvAt H) ts ps ∧ (ps.map (·.1)).Nodup ∧ ps.length ≤ 1000000 ∧
  ∀ (ts' : List Addr) (p : Addr), Paired (TvAt H) ts' (srtT ps) → H p = none → Q (.ref p) (upd H p (.lst (ts'.map V.ref)))
theorem call_sortTV {X : Cx} (hu : X.A.units + 64 < cLine) : CallR X (.builtin "sorted") (SortTV X.K) := by
  intro pins s σ H xs us Q I r q
  obtain ⟨a, ts, ps, rfl, hs, hat, hn, hz, q⟩ := q
  obtain rfl := Vals.ref1 r
  obtain ⟨its, rv, pl, _⟩ := I.list hs
  obtain rfl := vals_of_refs rv
  have lt : ts.length = ps.length := Paired.length hat
  have hm : ∀ z ∈ ts.zip ps, TvAt H z.1 z.2 := fun z h => paired_mem hat z h
  have ht : ∀ z ∈ ts.zip ps, ∀ y ∈ ts.zip ps, z.2.1 = y.2.1 → z = y := by
    refine nodup_at (f := fun z : Addr × Int × Option Int => z.2.1) ?_
    have e : ((ts.zip ps).map fun z => z.2.1) = ps.map (·.1) := by
      rw [← List.map_snd_zip (l₁ := ts) (l₂ := ps) (by omega), List.map_map, List.map_snd_zip (by omega)]; rfl
    rw [e]; exact hn
  have ha : ∀ z ∈ ts.zip ps, ∀ y ∈ ts.zip ps, z.1 = y.1 → z = y := fun z mz y my e => ht z mz y my (by
    have h1 := hm z mz
    have h2 := hm y my
    unfold TvAt at h1 h2
    rw [e, h2] at h1
    have h1 := Option.some.inj h1
    injection h1 with h1
    have h1 := (List.cons.inj h1).1
    injection h1 with h1
    exact h1.symm)
  have ob : ∀ z ∈ ts.zip ps, ∃ (o : Obj) (n : Nat) (t u : Tok) (x : Value), s.heap.get? z.1 = some o ∧ o.data = .seq #[.int z.2.1 t, x] n ∧ (x = .none ∨ ∃ i, x = .int i u) ∧ o.cls = .type "tuple" := fun z mz => by
    obtain ⟨_, its, rv, o, ho, hc, n, hd⟩ := (show ObjOk X.prog X.w H s.heap z.1 (.tup [.int z.2.1, ovV z.2.2]) from I.hok z.1 _ (hm z mz))
    cases rv with
    | cons r1 r2 => cases r2 with
      | cons r3 r4 =>
        cases r4
        obtain ⟨t, rfl⟩ := r1
        cases e : z.2.2 with
        | none =>
          rw [e] at r3
          cases (show _ = Value.none from r3)
          exact ⟨o, n, t, t, _, ho, hd, .inl rfl, hc⟩
        | some i =>
          rw [e] at r3
          obtain ⟨u, rfl⟩ := (show ∃ u, _ = Value.int i u from r3)
          exact ⟨o, n, t, u, _, ho, hd, .inr ⟨i, rfl⟩, hc⟩
  refine PySem.W.sorted_vals (κ := timeKind (ts.zip ps)) (vs := ts.map Value.ref) pl.isList ⟨fun v hv => ?_, tuples' true, ?_, fun h2 E Q hq => ?_⟩ (by rw [List.length_map, lt]; exact sz_le hz) ?_
  · obtain ⟨t, mt, rfl⟩ := List.mem_map.mp hv
    obtain ⟨i, hi⟩ := List.mem_iff_getElem?.mp mt
    have li := (List.getElem?_eq_some_iff.mp hi).1
    have mz : (t, ps[i]'(by omega)) ∈ ts.zip ps := List.mem_iff_getElem?.mpr ⟨i, List.getElem?_zip_eq_some.mpr ⟨hi, List.getElem?_eq_getElem _⟩⟩
    exact ⟨_, timeKind_mem ha mz⟩
  · refine time_ltAt (by show X.A.units + 1 + 1 < cLine; omega) (fun z mz => ?_) ht
    obtain ⟨o, n, t, u, x, h1, h2, h3, _⟩ := ob z mz
    exact ⟨o, n, t, u, x, PySem.W.sorting_copy_old h1, h2, h3⟩
  · obtain ⟨fs, k1, k2, k3⟩ := kat_ints (h := PySem.W.sortingHeap (PySem.W.copyHeap s.heap (ts.map Value.ref)) (s.heap.objs.size + 1) (ts.map Value.ref)) (ts := ts) fun t mt => by
      obtain ⟨i, hi⟩ := List.mem_iff_getElem?.mp mt
      have li := (List.getElem?_eq_some_iff.mp hi).1
      have mz : (t, ps[i]'(by omega)) ∈ ts.zip ps := List.mem_iff_getElem?.mpr ⟨i, List.getElem?_zip_eq_some.mpr ⟨hi, List.getElem?_eq_getElem _⟩⟩
      obtain ⟨o, n, t', u, x, h1, h2, _, h4⟩ := ob _ mz
      exact ⟨o, n, _, t', x, PySem.W.sorting_copy_old h1, h2, h4⟩
    rw [List.length_map] at h2
    exact PySem.W.kat_kind (T := PySem.W.dataType (.int 0)) k1 (by omega) (fun f hf => by
      obtain ⟨i, t, rfl⟩ := k3 f hf
      have lk := PySem.W.looks_reads (M := model X.prog X.w) (h := PySem.W.sortingHeap (PySem.W.copyHeap s.heap (ts.map Value.ref)) (s.heap.objs.size + 1) (ts.map Value.ref)) (Reads.int i t)
      rw [show PySem.W.dataType (.int i) = PySem.W.dataType (.int 0) from rfl] at lk
      exact lk) (beq_self_eq_true _) hq
  · have ez : PySem.W.EachIs (fun v z => v = Value.ref z.1) (PySem.W.sortVals (timeKind (ts.zip ps)) false (ts.map Value.ref) (ts.map Value.ref)) ((ts.zip ps).mergeSort (PySem.W.sortLe (PyProof.Rows.listOrd PyProof.Rows.itemOrd) false fun z : Addr × Int × Option Int => [Sum.inl z.2.1])) := PySem.W.sortVals_each (κ := timeKind (ts.zip ps)) (rev := false) (R := fun v z => v = Value.ref z.1) (ks := ts.map Value.ref) (vs := ts.map Value.ref) (bs := ts.zip ps) (fun z => [Sum.inl z.2.1])
      (each_zipG hat fun _ _ => rfl) (each_zipG hat fun z mz => timeKind_mem ha mz)
    rw [leT_data] at ez
    have hout := each_outG ez
    generalize hzs : ((ts.zip ps).mergeSort fun x y => leT x.2 y.2) = zs at hout
    have hmem : ∀ z ∈ zs, TvAt H z.1 z.2 := fun z hz => hm z (by rw [← hzs] at hz; exact List.mem_mergeSort.mp hz)
    have hsrt : zs.map (·.2) = srtT ps := by
      have p1 := (List.mergeSort_perm (ts.zip ps) fun x y => leT x.2 y.2).map (·.2)
      rw [hzs, List.map_snd_zip (by omega)] at p1
      have p2 := List.pairwise_mergeSort (le := fun x y : Addr × Int × Option Int => leT x.2 y.2) (fun _ _ _ h1 h2 => leT_trans h1 h2) (fun a b => leT_total a.2 b.2) (ts.zip ps)
      rw [hzs] at p2
      refine List.Perm.eq_of_pairwise (le := fun a b => leT a b = true) (fun x y hx hy h1 h2 => ?_) (List.pairwise_map.mpr p2) (srtT_pw ps) (p1.trans (srtT_perm ps).symm)
      unfold leT at h1 h2
      rw [decide_eq_true_iff] at h1 h2
      exact nodup_at hn x (p1.mem_iff.mp hx) y ((srtT_perm ps).mem_iff.mp hy) (by omega)
    generalize PySem.W.sortVals (timeKind (ts.zip ps)) false (ts.map Value.ref) (ts.map Value.ref) = out at hout
    obtain ⟨c, hcx⟩ := PyProof.Rows.sortedAll_at s.heap (ts.map Value.ref) out.toArray
    have rvo : Vals ((zs.map (·.1)).map V.ref) out := by rw [hout]; exact vals_refs _
    have hlen : ((zs.map (·.1)).map V.ref).length ≤ sizeLine := by
      rw [List.length_map, List.length_map, ← List.length_map (f := (·.2)) (as := zs), hsrt, (srtT_perm ps).length_eq]
      exact sz_le hz
    exact ⟨.ref (s.heap.objs.size + 1), upd H (s.heap.objs.size + 1) (.lst ((zs.map (·.1)).map V.ref)), I.laid (t' := s.toks) (fun b u e => PyProof.Rows.sortedAll_old e) (Nat.le_succ _)
      (show ObjOk X.prog X.w _ _ _ (.lst ((zs.map (·.1)).map V.ref)) from ⟨hlen, out, c, rvo, hcx⟩), rfl, q (zs.map (·.1)) _ (by rw [← hsrt]; exact paired_of hmem) (I.hok.fresh (Nat.le_succ _))⟩
/-! min of a list of pairs (time, name) -/
def NpAt (H : Hp) (t : Addr) (p : Int × List Int) : Prop := ∃ q, H t = some (.tup [.int p.1, .ref q]) ∧ H q = some (.tup (p.2.map V.int))
def encP (p : Int × List Int) : PyData := .tuple [.int p.1, encI p.2]
def ltP (a b : Int × List Int) : Bool := if a.1 = b.1 then decide (a.2 < b.2) else decide (a.1 < b.1)
def minP (x : Int × List Int) (xs : List (Int × List Int)) : Int × List Int := xs.foldl (fun a y => if ltP y a = true then y else a) x
theorem eqv_ints : ∀ a b : List Int, PyData.eqvAll (a.map PyData.int) (b.map PyData.int) = decide (a = b)
  | [], [] => by simp [PyData.eqvAll]
  | [], y :: b => by simp [PyData.eqvAll]
  | x :: a, [] => by simp [PyData.eqvAll]
  | x :: a, y :: b => by
    have ih := eqv_ints a b
    simp only [List.map_cons, PyData.eqvAll, PyData.eqv, ih]
    by_cases h : x = y
    · subst h; simp
    · simp [h]
theorem ltP_data (a b : Int × List Int) : PySem.W.dataLt (encP a) (encP b) = ltP a b := by
  unfold encP ltP
  rw [PySem.W.dataLt_pair (by rfl) (by show PySem.W.alikeAll _ _ = true; exact PySem.W.alike_ints _ _), PySem.W.dataLt_int]
  have h1 : PySem.W.dataLt (encI a.2) (encI b.2) = decide (a.2 < b.2) := by
    unfold encI
    rw [PySem.W.dataLt_tuple]
    exact PySem.W.dataLt_ints a.2 b.2
  have h2 : PyData.eqv (encI a.2) (encI b.2) = decide (a.2 = b.2) := eqv_ints a.2 b.2
  rw [h1, h2]
  by_cases e1 : a.1 = b.1
  · rw [if_pos e1, if_pos (by rw [e1]; simp [PyData.eqv])]
    by_cases e2 : a.2 = b.2
    · rw [if_pos (decide_eq_true e2), e2]
      exact (decide_eq_false (List.lt_irrefl _)).symm
    · rw [if_neg (by simpa using e2)]
  · rw [if_neg e1, if_neg (by simpa [PyData.eqv] using e1)]
theorem minP_data (x : Int × List Int) : ∀ xs : List (Int × List Int), PySem.W.minD (encP x) (xs.map encP) = encP (minP x xs) := by
  intro xs
  unfold PySem.W.minD minP
  induction xs generalizing x with
  | nil => rfl
  | cons y xs ih =>
    rw [List.map_cons, List.foldl_cons, List.foldl_cons, ltP_data]
    by_cases h : ltP y x = true
    · rw [if_pos h, if_pos h]; exact ih y
    · rw [if_neg h, if_neg h]; exact ih x
theorem mapI_inj : ∀ {a b : List Int}, a.map PyData.int = b.map PyData.int → a = b
  | [], [], _ => rfl
  | [], _ :: _, h => by cases h
  | _ :: _, [], h => by cases h
  | x :: a, y :: b, h => by
    obtain ⟨h1, h2⟩ := List.cons.inj h
    injection h1 with h1
    rw [h1, mapI_inj h2]
theorem encI_inj {a b : List Int} (h : encI a = encI b) : a = b := by
  unfold encI at h
  injection h with h
  exact mapI_inj h
theorem encP_inj {a b : Int × List Int} (h : encP a = encP b) : a = b := by
  unfold encP at h
  injection h with h
  obtain ⟨h1, h2⟩ := List.cons.inj h
  have h2 := (List.cons.inj h2).1
  injection h1 with h1
  exact Prod.ext h1 (encI_inj h2)
theorem minP_mem (x : Int × List Int) : ∀ xs : List (Int × List Int), minP x xs ∈ x :: xs := by
  intro xs
  unfold minP
  induction xs generalizing x with
  | nil => exact List.mem_cons_self
  | cons y xs ih =>
    rw [List.foldl_cons]
    by_cases h : ltP y x = true
    · rw [if_pos h]; exact List.mem_cons_of_mem _ (ih y)
    · rw [if_neg h]
      rcases List.mem_cons.mp (ih x) with e | e
      · rw [e]; exact List.mem_cons_self
      · exact List.mem_cons_of_mem _ (List.mem_cons_of_mem _ e)
/-- the order of pairs -/
def leP (a b : Int × List Int) : Prop := ltP b a = false
theorem leP_refl (a : Int × List Int) : leP a a := by
  unfold leP ltP
  rw [if_pos rfl]
  exact decide_eq_false (List.lt_irrefl _)
theorem leP_trans {a b c : Int × List Int} (h1 : leP a b) (h2 : leP b c) : leP a c := by
  unfold leP ltP at *
  by_cases e1 : b.1 = a.1
  · rw [if_pos e1, decide_eq_false_iff_not] at h1
    by_cases e2 : c.1 = b.1
    · rw [if_pos e2, decide_eq_false_iff_not] at h2
      rw [if_pos (e2.trans e1), decide_eq_false_iff_not]
      exact List.le_trans h1 h2
    · rw [if_neg e2, decide_eq_false_iff_not] at h2
      rw [if_neg (by omega), decide_eq_false_iff_not]
      omega
  · rw [if_neg e1, decide_eq_false_iff_not] at h1
    by_cases e2 : c.1 = b.1
    · rw [if_neg (by omega), decide_eq_false_iff_not]
      omega
    · rw [if_neg e2, decide_eq_false_iff_not] at h2
      rw [if_neg (by omega), decide_eq_false_iff_not]
      omega
theorem leP_antisymm {a b : Int × List Int} (h1 : leP a b) (h2 : leP b a) : a = b := by
  unfold leP ltP at *
  by_cases e1 : b.1 = a.1
  · rw [if_pos e1, decide_eq_false_iff_not] at h1
    rw [if_pos e1.symm, decide_eq_false_iff_not] at h2
    exact Prod.ext e1.symm (List.le_antisymm h1 h2)
  · rw [if_neg e1, decide_eq_false_iff_not] at h1
    rw [if_neg (fun z => e1 z.symm), decide_eq_false_iff_not] at h2
    omega
theorem leP_of_lt {a b : Int × List Int} (h : ltP a b = true) : leP a b := by
  unfold leP ltP at *
  by_cases e : a.1 = b.1
  · rw [if_pos e, decide_eq_true_iff] at h
    rw [if_pos e.symm, decide_eq_false_iff_not]
    exact List.not_lt.mpr (List.le_of_lt h)
  · rw [if_neg e, decide_eq_true_iff] at h
    rw [if_neg (fun z => e z.symm), decide_eq_false_iff_not]
    omega
theorem minP_le (x : Int × List Int) : ∀ (xs : List (Int × List Int)), ∀ y ∈ x :: xs, leP (minP x xs) y := by
  intro xs
  unfold minP
  induction xs generalizing x with
  | nil =>
    intro y hy
    rw [List.mem_singleton.mp hy]; exact leP_refl x
  | cons z xs ih =>
    intro y hy
    rw [List.foldl_cons]
    by_cases h : ltP z x = true
    · rw [if_pos h]
      rcases List.mem_cons.mp hy with rfl | hy
      · exact leP_trans (ih z z List.mem_cons_self) (leP_of_lt h)
      · exact ih z y hy
    · rw [if_neg h]
      have h : leP x z := by unfold leP; simpa using h
      rcases List.mem_cons.mp hy with rfl | hy
      · exact ih y y List.mem_cons_self
      · rcases List.mem_cons.mp hy with rfl | hy
        · exact leP_trans (ih x x List.mem_cons_self) h
        · exact ih x y (List.mem_cons_of_mem _ hy)
def MinNP (K : PySem.W.Frag) (xs : List V) (H : Hp) (Q : VK) : Prop := ∃ (a : Addr) (ts : List Addr) (ps : List (Int × List Int)), xs = [.ref a] ∧ SqL K H a (ts.map V.ref) ∧ Paired (NpAt H) ts ps ∧ ps ≠ [] ∧ ps.length ≤ 1000000 ∧
  ∀ (i : Nat) (t : Addr) (p : Int × List Int), ts[i]? = some t → ps[i]? = some p → (∀ y ∈ ps, leP p y) → Q (.ref t) H
theorem reads_encP {P : Program} {w : World} {H : Hp} {h : Heap} (ok : HOk P w H h) {t : Addr} {p : Int × List Int} (e : NpAt H t p) : Reads h (.ref t) (encP p) [] := by
  obtain ⟨q, e1, e2⟩ := e
  obtain ⟨_, its, rv, o, ho, hc, n, hd⟩ := (show ObjOk P w H h t (.tup [.int p.1, .ref q]) from ok t _ e1)
  cases rv with
  | cons r1 r2 => cases r2 with
    | cons r3 r4 =>
      cases r4
      obtain ⟨tk, rfl⟩ := r1
      cases r3
      exact .tuple ho hc hd (.cons (.int _ _) (.cons (reads_encI ok e2) .nil))
theorem reads_allP {P : Program} {w : World} {H : Hp} {h : Heap} (ok : HOk P w H h) : ∀ {ts : List Addr} {ps : List (Int × List Int)}, Paired (NpAt H) ts ps → ReadsAll h (ts.map Value.ref) (ps.map encP) []
  | _, _, .nil => .nil
  | _, _, .cons f t => .cons (as := []) (bs := []) (reads_encP ok f) (reads_allP ok t)
theorem call_minNP {X : Cx} (hc : X.calm = true) (hu : X.A.units + 64 < cLine) : CallR X (.builtin "min") (MinNP X.K) := by
  intro pins s σ H xs us Q I r q
  obtain ⟨a, ts, ps, rfl, hs, hat, hne, hz, q⟩ := q
  obtain rfl := Vals.ref1 r
  obtain ⟨its, rv, pl, _⟩ := I.list hs
  obtain rfl := vals_of_refs rv
  have lt : ts.length = ps.length := Paired.length hat
  cases ps with
  | nil => exact (hne rfl).elim
  | cons p ps =>
    have dep : ∀ l : List (Int × List Int), PyData.depthAll (l.map encP) ≤ 2 := fun l => by
      induction l with
      | nil => exact Nat.zero_le _
      | cons y l ih =>
        rw [List.map_cons, PyData.depthAll]
        have : (encP y).depth ≤ 2 := by
          unfold encP encI
          rw [PyData.depth, PyData.depthAll, PyData.depthAll, PyData.depthAll, PyData.depth, PyData.depth, PySem.W.depth_ints]
          decide
        omega
    refine PySem.W.min_list_data (I.ok.hd hc) pl.isList (x := encP p) (xs := ps.map encP) (as := []) (by simpa using reads_allP I.hok hat) ⟨fun x hx y hy => ?_, fun x hx => ?_⟩ ?_ fun i v h' tk bs hv rd keep => ?_
    · rw [← List.map_cons] at hx hy
      obtain ⟨x, _, rfl⟩ := List.mem_map.mp hx
      obtain ⟨y, _, rfl⟩ := List.mem_map.mp hy
      show PySem.W.alikeAll [.int x.1, encI x.2] [.int y.1, encI y.2] = true
      have h2 : PySem.W.alike (encI x.2) (encI y.2) = true := by show PySem.W.alikeAll _ _ = true; exact PySem.W.alike_ints _ _
      simp only [PySem.W.alikeAll, PySem.W.alike, h2]
      rfl
    · rw [← List.map_cons] at hx
      obtain ⟨x, _, rfl⟩ := List.mem_map.mp hx
      exact fun z => nomatch z
    · have := dep (p :: ps)
      rw [List.map_cons] at this
      omega
    · have hv : (ts.map Value.ref)[i]? = some v := by simpa using hv
      rw [List.getElem?_map] at hv
      cases e : ts[i]? with
      | none => rw [e] at hv; cases hv
      | some t =>
        rw [e] at hv
        cases (Option.some.inj hv)
        have li := (List.getElem?_eq_some_iff.mp e).1
        have mz : (t, (p :: ps)[i]'(by omega)) ∈ ts.zip (p :: ps) := List.mem_iff_getElem?.mpr ⟨i, List.getElem?_zip_eq_some.mpr ⟨e, List.getElem?_eq_getElem _⟩⟩
        have nt : NpAt H t _ := paired_mem hat _ mz
        have I1 : Inv X pins σ H { s with heap := h', toks := tk } := I.kept keep
        have e2 := (Reads.unique (reads_encP I1.hok nt) _ _ rd).1
        rw [minP_data] at e2
        have e3 := encP_inj e2
        exact ⟨.ref t, H, I1, rfl, q i t _ e (by rw [List.getElem?_eq_getElem (by omega)]; exact congrArg some e3) (minP_le p ps)⟩
/-! ### d.items() of a dict with tuple keys, walked -/
theorem frz_tv {X : Cx} {pins : List (Addr × Obj)} {σ : L2.St} {H : Hp} {s : Shared} {d : Addr} {o : Obj} {kvs : List (List Key × V)} (I : Inv X pins σ H s) (h : H d = some (.frz o (.dT kvs))) :
    (d == sysModules) = false ∧ s.heap.get? d = some o ∧ o.ExactDict ∧ ∃ (es : Array DictEntry) (ep : Nat), o.data = .dict es ep ∧ es.size = kvs.length ∧
      ∀ (i : Nat) (k : List Key) (v : V), kvs[i]? = some (k, v) → ∃ (en : DictEntry) (q : Addr), es[i]? = some en ∧ en.key = .ref q ∧ H q = some (.tup (k.map kV)) ∧ RelV v en.val := by
  have ok := I.hok d _ h
  obtain ⟨h1, _, h2, zs, pr, o', es, ep, ho, hx, hdt, he, _⟩ := ok
  obtain rfl : o = o' := Option.some.inj (h1.symm.trans ho)
  have l1 : es.size = zs.length := size_of_entries he
  have l2 : kvs.length = zs.length := Paired.length pr
  refine ⟨h2, h1, hx, es, ep, hdt, l1.trans l2.symm, fun i k v e => ?_⟩
  obtain ⟨b, hb, _, e2, e3⟩ := paired_get pr e
  have at_ := entry_at he i
  rw [hb] at at_
  exact ⟨_, b.2.1, at_, rfl, e2, e3⟩
/-- the pairs, each a new tuple -/
def Itit (d : Addr) (o : Obj) (kvs : List (List Key × V)) : It where
  go := fun i H => H d = some (.frz o (.dT kvs)) ∧ i < kvs.length
  yld := fun i H x H' => ∃ (T q : Addr) (k : List Key) (v : V), kvs[i]? = some (k, v) ∧ H q = some (.tup (k.map kV)) ∧ x = .ref T ∧ H T = none ∧ H' = upd H T (.tup [.ref q, v])
  stop := fun i H => H d = some (.frz o (.dT kvs)) ∧ kvs.length ≤ i
theorem turn_itt {P : Program} {w : World} {K : PySem.W.Frag} {d : Addr} {o : Obj} {es : Array DictEntry} {ep : Nat} {kvs : List (List Key × V)} {elts : List Expr} {kk : Nat} {tpos : Pos} (it : Addr) (hod : o.data = .dict es ep) :
    Turn P w K (.Tuple elts kk tpos) (Itit d o kvs) [it] it (fun i h => ∃ ok ov, IsItemIter h it d i kvs.length ep ok ov) where
  mem := List.mem_singleton.mpr rfl
  obj := fun i h st b hb => by
    obtain rfl : b = it := List.mem_singleton.mp hb
    obtain ⟨ok, ov, e⟩ := st
    exact ⟨_, e, fun v z => nomatch z⟩
  keep := fun i h h' st k => st.imp fun ok st => st.imp fun ov e => k it (List.mem_singleton.mpr rfl) _ e
  self := fun A i s Q E st h => by
    obtain ⟨_, _, e⟩ := st
    exact PySem.W.kcp_self e h
  done := by
    rintro X rfl rfl rfl hc i pins s σ H E I hf ⟨ok, ov, he⟩ ⟨hd, hi⟩
    obtain ⟨f0, f1, f2, f3, f4, f5⟩ := hf it (List.mem_singleton.mpr rfl)
    obtain ⟨hs, hgd, hx, es', ep', hdt, hsz, ent⟩ := frz_tv I hd
    obtain ⟨rfl, rfl⟩ := dict_ep hod hdt
    rw [← hsz] at he hi
    exact DT.endI (I.ok.hd hc) he ⟨o, hgd, hx, hdt⟩ hi fun h' eb => ⟨rfl, I.turned (t' := s.toks) (fun b ob hb e => eb b ob hb e) f0 f1 f3 f4 f5⟩
  item := by
    rintro X rfl rfl rfl hc i pins s σ H E I hf ⟨ok, ov, he⟩ ⟨hd, hi⟩
    obtain ⟨f0, f1, f2, f3, f4, f5⟩ := hf it (List.mem_singleton.mpr rfl)
    obtain ⟨hs, hgd, hx, es', ep', hdt, hsz, ent⟩ := frz_tv I hd
    obtain ⟨rfl, rfl⟩ := dict_ep hod hdt
    obtain ⟨⟨k, v⟩, hkv⟩ : ∃ p, kvs[i]? = some p := ⟨kvs[i], List.getElem?_eq_getElem hi⟩
    obtain ⟨en, q, hen, hkey, hq, hval⟩ := ent i k v hkv
    rw [← hsz] at he
    have hi2 : i < es'.size := by rw [hsz]; exact hi
    have hen2 : es'[i] = en := Option.some.inj ((Array.getElem?_eq_getElem hi2).symm.trans hen)
    have hlt : it < s.heap.objs.size := Heap.lt_size he
    refine DT.nextI he ⟨o, hgd, hx, hdt⟩ hi2 fun h' ho hT hz hk => ?_
    rw [hen2, hkey] at ho hT
    refine ⟨_, rfl, wpAny_letOwnedTupleGo_items (s := { s with heap := h' }) ho fun h2 he2 sb => ?_⟩
    have hT2 : h2.get? s.heap.objs.size = some { cls := .type "tuple", data := .seq #[.ref q, en.val] } := (sb.2 _ (Nat.ne_of_gt hlt)).trans hT
    have ob : ObjOk X.prog X.w (upd H s.heap.objs.size (.tup [.ref q, v])) h2 s.heap.objs.size (.tup [.ref q, v]) := ⟨by show 2 ≤ sizeLine; decide, [.ref q, en.val], .cons rfl (.cons hval .nil), _, hT2, rfl, _, rfl⟩
    have I1 : Inv X pins σ (upd H s.heap.objs.size (.tup [.ref q, v])) { s with heap := h2 } :=
      I.turnedNew (t' := s.toks) (ch := [it]) (fun b ob hb e => (sb.2 b (fun z => hb (z ▸ List.mem_singleton.mpr rfl))).trans (hk b ob (fun z => hb (z ▸ List.mem_singleton.mpr rfl)) e)) hf (Nat.le_refl _) ob
    refine ⟨.ref s.heap.objs.size, _, I1, rfl, ⟨_, q, k, v, hkv, hq, rfl, I.hok.fresh (Nat.le_refl _), rfl⟩, ⟨.ref q, en.val, ?_⟩, fun b hb => ?_⟩
    · rw [← hsz]; exact he2
    · obtain rfl : b = it := List.mem_singleton.mp hb
      rw [upd_ne (Nat.ne_of_lt hlt)]
      exact f0
def iItemsT (td : TE) : TI := fun σ H R => td σ H fun x H1 => ∃ d o kvs, x = .ref d ∧ H1 d = some (.frz o (.dT kvs)) ∧ R (Itit d o kvs) H1
theorem pi_itemsT {X : Cx} {e : Expr} {td : TE} {apos cpos : Pos} {elts : List Expr} {kk : Nat} {tpos : Pos} (he : PE X e td) (hbase : attributeBase e "items" X.env (eval e X.env) = eval e X.env := by rfl) (hline : (apos.endLine == cpos.line) = true := by rfl) :
    PI X (.Tuple elts kk tpos) (.Call (.Attribute e "items" apos) [] [] cpos) (iItemsT td) := by
  constructor
  intro pins s σ H R I h
  refine wpAny_Call_method (T := "dict") (id := "dict.items") hbase rfl hline F.plainAttrs_dict F.slot_dict_items F.type_dict_items (thn (he.run pins s σ H _ I h) ?_)
  rintro u s1 ⟨_, H1, I1, rx, d, o, kvs, rfl, hd, q⟩
  obtain rfl : u = Value.ref d := rx
  obtain ⟨hs, hgd, hx, es, ep, hdt, hsz, ent⟩ := frz_tv I1 hd
  have raw : DT.Raw s1.heap d es ep := ⟨o, hgd, hx, hdt⟩
  refine ⟨raw.typeIs, fun b z => by cases z; exact ⟨o, hgd, hx.2.1⟩, ?_⟩
  have I2 : Inv X pins σ H1 { s1 with heap := s1.heap.push { cls := .type "dict_items", data := .fields #[.ref d] } } := I1.kept (t' := s1.toks) fun b ob q => Heap.get?_push_of_some _ q
  refine method_meetsIn F.slot_dict_items F.entry_dict_items rfl (PySem.evalArgs_none ⟨rfl, raw.typeIs, F.args_dict_items_1 _, _, DT.meetsItems (es := es) (ep := ep) hs, raw, ?_⟩)
  refine DT.iterI (d := d) ⟨_, Heap.get?_push_size _ rfl, rfl, rfl⟩ (raw.push _) (pi_one (tk := s1.toks) I2 _ (turn_itt _ hdt) ⟨.none, .none, ?_⟩ q)
  rw [← hsz]
  exact Heap.get?_push_size _ rfl
/-! ### del d[k], k a tuple -/
theorem meetsDelT {P : Program} {w : World} {d b : Addr} {k : List Key} :
    MeetsIn P w (Builtin.«dict.__delitem__» ⟨[.ref d, .ref b], []⟩) (fun A R s => ∃ xs, (tupleKind (mixKind P w)).room A.in1 ∧ (tupleKind (mixKind P w)).is s.heap k b ∧ s.heap.DictOfH (tupleKind (mixKind P w)) d xs ∧ xs.length ≤ sizeLine ∧ (atKey xs k).isSome = true ∧
      ∀ h' tk, h'.DictOfH (tupleKind (mixKind P w)) d (DT.dropH xs k) → Heap.SameBut d s.heap h' → R (.ok (.ret .none)) { s with heap := h', toks := tk }) := by
  refine .of_wp ?_
  rintro A R s ⟨xs, hu, hkey, hm, hsz, hsome, h⟩
  unfold Builtin.«dict.__delitem__»
  refine wpAny_bind ?_
  unfold Builtin.Dict.dictSlotArgs
  refine wpAny_bind (wpAny_notOrdered_dict hm.typeIs ?_)
  show wpAny _ _ (pure (Value.ref d, Value.ref b)) _ _ s
  refine wpAny_pure ?_
  show wpAny _ _ (Builtin.Dict.takeOut d (.ref b) >>= _) _ _ s
  refine wpAny_bind (DT.takeH hu hkey hm hsz (fun e => ?_) fun p e hp hev h' hm' hs' => ?_)
  · rw [e] at hsome; cases hsome
  · refine wpAny_bind (wpAny_letGo (wpAny_pure ⟨.none, rfl, h h' _ hm' hs'⟩))
def DelX (x y : V) (H2 : Hp) (R : Hp → Prop) : Prop := ∃ a kvs k b, x = .ref a ∧ y = .ref b ∧ H2 a = some (.dT kvs) ∧ H2 b = some (.tup (k.map kV)) ∧ (valV kvs k).isSome = true ∧ R (upd H2 a (.dT (dropK kvs k)))
def sDelT (td ty : TE) : TS := fun D σ H => td σ H fun x H1 => ty σ H1 fun y H2 => DelX x y H2 (D.nx σ)
theorem ps_delT {X : Cx} {o i : Expr} {td ty : TE} {tpos pos : Pos} (hu : X.A.units + 1 < cLine) (ho : PE X o td) (hi : PE X i ty) : PS X (.Delete [.Subscript o i tpos] pos) (sDelT td ty) := by
  constructor
  intro pins s σ H D I h
  refine wpAny_Delete (wpAny_deleteEach_cons (wpAny_delete_Subscript (thn (ho.run pins s σ H _ I h) ?_)))
  rintro u s1 ⟨x, H1, I1, rx, q1⟩
  refine thn (hi.run pins s1 σ H1 _ I1 q1) ?_
  rintro iv s2 ⟨y, H2, I2, ry, a, kvs, k, b, rfl, rfl, e, eb, l, q2⟩
  obtain rfl : u = Value.ref a := rx
  obtain rfl : iv = Value.ref b := ry
  obtain ⟨z, hd, xs, rel, dd⟩ := dt_of I2.hok e
  have r := rel.val k
  have there : (atKey xs k).isSome = true := by
    cases ev : valV kvs k with
    | none => rw [ev] at l; cases l
    | some v0 =>
      rw [ev] at r
      cases ea : atKey xs k with
      | none => rw [ea] at r; exact (show False from r).elim
      | some p => rfl
  refine wpAny_delItem_slot dd.typeIs (by decide) PySem.F.slot_dict_delitem
    (call_meetsIn PySem.F.slot_dict_delitem dd.typeIs PySem.F.entry_dict_delitem (PySem.F.args_dict_delitem_2 _ _) (meetsDelT (k := k))
      ⟨xs, tupleKind_room_in1 hu, key_of I2.hok eb, dd, by rw [← Paired.length rel]; exact z, there, fun h' tk dd' hs => ?_⟩)
  obtain ⟨q, es, ep, hq, g2, g3, g4, _, g5⟩ := dd'
  have I3 : Inv X pins σ (upd H2 a (.dT (dropK kvs k))) { s2 with heap := h', toks := tk } := d_write I2 (by rw [e]; exact True.intro) hs ⟨q, hq⟩ ⟨Nat.le_trans (dropK_le kvs k) z, hd, _, (DX.KT_drop k rel).keeps (fun c ys ec => by
    rw [upd_ne (ne_of ec e (fun z => nomatch z))]
    exact ec), q, es, ep, hq, g2, g3, g4, g5⟩
  exact wpAny_deleteEach_nil ⟨σ, _, I3, q2⟩
/-! ### comprehensions that only read, over anything that is walked -/
def NoT (M : Hp) : Prop := ∀ a xs, M a ≠ some (.tup xs)
theorem NoT.emp : NoT (fun _ => none) := fun _ _ e => nomatch e
theorem NoT.upd {M : Hp} {a : Addr} {o : HO} (h : NoT M) (ho : ∀ xs, o ≠ .tup xs) : NoT (upd M a o) := fun b xs e => by
  by_cases q : b = a
  · subst q; rw [upd_same] at e; exact ho xs (Option.some.inj e)
  · rw [upd_ne q] at e; exact h b xs e
theorem NoT.updL {M : Hp} {a : Addr} {x : List V} (h : NoT M) : NoT (L2.upd M a (.lst x)) := h.upd fun _ z => nomatch z
theorem NoT.updK {M : Hp} {a : Addr} {x : List (Key × V)} (h : NoT M) : NoT (L2.upd M a (.dK x)) := h.upd fun _ z => nomatch z
theorem NoT.updT {M : Hp} {a : Addr} {x : List (List Key × V)} (h : NoT M) : NoT (L2.upd M a (.dT x)) := h.upd fun _ z => nomatch z
theorem NoT.updI {M : Hp} {a C dx : Addr} {x : List (Str × V)} (h : NoT M) : NoT (L2.upd M a (.ins C dx x)) := h.upd fun _ z => nomatch z
theorem NoT.updF {M : Hp} {a : Addr} {o : Obj} {u : HO} (h : NoT M) : NoT (L2.upd M a (.frz o u)) := h.upd fun _ z => nomatch z
theorem NoT.ag {M M' : Hp} {p : Addr} {o : HO} (h : NoT M) (a : Ag p M M') (e : M' p = some o) (ho : ∀ xs, o ≠ .tup xs) : NoT M' := fun b xs e2 => by
  by_cases q : b = p
  · subst q; rw [e] at e2; exact ho xs (Option.some.inj e2)
  · rw [a b q] at e2; exact h b xs e2
theorem J.adopt {M G H : Hp} {q : Addr} {xs : List V} (j : J M G H) (n : NoT M) (h : H q = some (.tup xs)) : ∃ G', J M G' H ∧ Ex G G' ∧ G' q = some (.tup xs) := by
  cases e : G q with
  | some o =>
    have := j.g q o e
    rw [h] at this
    exact ⟨G, j, Same.refl G, by rw [e, this]⟩
  | none =>
    refine ⟨upd G q (.tup xs), ⟨j.m, fun a u e2 => ?_, fun a u e2 => ?_⟩, Ex.new e, upd_same⟩
    · by_cases z : a = q
      · subst z; rw [upd_same] at e2; rw [← e2]; exact h
      · rw [upd_ne z] at e2; exact j.g a u e2
    · by_cases z : a = q
      · subst z
        have := j.m a u e2
        rw [h] at this
        rw [← Option.some.inj this] at e2
        exact (n _ _ e2).elim
      · rw [upd_ne z]; exact j.d a u e2
section
variable {K : PySem.W.Frag} {M G H : Hp} {σ : L2.St} {Q : VK} {g : TG} {tt : TT} {te tl td : TE} {vs : List Nat} {J' : It} {n : Nat} {GG : Hp → Prop} {Y : Nat → Hp → V → Hp → Prop} {R : Nat → List V → Hp → Prop} {L a d : Addr} {k : Nat} {acc xs : List V} {y : V}
def RoI (M G : Hp) (R : Nat → List V → Hp → Prop) (L : Addr) (k : Nat) (H : Hp) : Prop := ∃ acc G1, J (upd M L (.lst acc)) G1 H ∧ Ex G G1 ∧ R k acc G1
def RoAdd (M G : Hp) (R : Nat → List V → Hp → Prop) (L : Addr) (k : Nat) : VK := fun y H5 => ∃ acc', H5 L = some (.lst acc') ∧ acc'.length < sizeLine ∧ RoI M G R L k (upd H5 L (.lst (acc' ++ [y])))
theorem ro_add {G2 H5 : Hp} (j : J (upd M L (.lst acc)) G2 H5) (e : Ex G G2) (z : acc.length < 1000000) (r : R k (acc ++ [y]) G2) : RoAdd M G R L k y H5 :=
  ⟨acc, j.m _ _ upd_same, sz_lt z, acc ++ [y], G2, by have := j.put (o' := .lst (acc ++ [y])) upd_same; rw [upd_upd] at this; exact this, e, r⟩
theorem ro_skip {G2 H5 : Hp} (j : J (upd M L (.lst acc)) G2 H5) (e : Ex G G2) (r : R k acc G2) : RoI M G R L k H5 := ⟨acc, G2, j, e, r⟩
theorem lcd_ro (w : Walk J' n GG Y) (j : J M G H) (R : Nat → List V → Hp → Prop) (h0 : R 0 [] G) (hG : ∀ H1, Same M H1 → Same G H1 → GG H1)
    (hs : ∀ L i x acc G1 H1 H2, i < n → M L = none → J (upd M L (.lst acc)) G1 H1 → Ex G G1 → R i acc G1 → Y i H1 x H2 → g x (wipe σ vs) H2 fun σ2 H3 => wipe σ2 vs = wipe σ vs ∧ tt σ2 H3 fun b H4 => if b = true then te σ2 H4 (RoAdd M G R L (i + 1)) else RoI M G R L (i + 1) H4)
    (hd : ∀ L acc G1 G2 H1, J M G2 H1 → Ex G G1 → Ex G1 G2 → G2 L = some (.lst acc) → R n acc G1 → Q (.ref L) H1) : LcD J' g tt te vs σ H Q := fun L hL => by
  have nM := j.freeM hL
  have nG := j.freeG hL
  refine lc_it w (fun i H => RoI M G R L i H) ⟨[], G, j.newM hL, Same.refl G, h0⟩ (fun i H1 _ p => ?_) (fun i x H1 H2 hi p y => ?_) (fun H1 p => ?_)
  · obtain ⟨acc, G1, j1, e1, _⟩ := p
    exact hG H1 (fun b u e => j1.m b u (upd_ne' e (ne_of_none e nM))) (e1.trans j1.g)
  · obtain ⟨acc, G1, j1, e1, r⟩ := p
    exact hs L i x acc G1 H1 H2 hi nM j1 e1 r y
  · obtain ⟨acc, G1, j1, e1, r⟩ := p
    exact hd L acc G1 _ H1 (j1.freeze nM) e1 (Ex.new j1.freezeG) upd_same r
/-- over a tuple -/
def LcT (K : PySem.W.Frag) (g : TG) (tt : TT) (te : TE) (vs : List Nat) (σ : L2.St) (x : V) (H1 : Hp) (Q : VK) : Prop := ∃ a, x = .ref a ∧ (∃ xs, SqT K H1 a xs) ∧ LcD (Itt K a) g tt te vs σ H1 Q
theorem w_lcT (h : tl σ H fun x H1 => LcT K g tt te vs σ x H1 Q) : tLc (iTup K tl) g tt te vs σ H Q := h
theorem w_lcTro (j : J M G H) (hx : SqT K G a xs) (R : Nat → List V → Hp → Prop) (h0 : R 0 [] G)
    (hs : ∀ L i x acc G1 H1, xs[i]? = some x → M L = none → J (upd M L (.lst acc)) G1 H1 → Ex G G1 → R i acc G1 → g x (wipe σ vs) H1 fun σ2 H3 => wipe σ2 vs = wipe σ vs ∧ tt σ2 H3 fun b H4 => if b = true then te σ2 H4 (RoAdd M G R L (i + 1)) else RoI M G R L (i + 1) H4)
    (hd : ∀ L acc G1 G2 H1, J M G2 H1 → Ex G G1 → Ex G1 G2 → G2 L = some (.lst acc) → R xs.length acc G1 → Q (.ref L) H1) : LcT K g tt te vs σ (.ref a) H Q :=
  ⟨a, rfl, ⟨xs, st_mono j.g hx⟩, lcd_ro walk_tup j R h0 (fun H1 _ e => st_mono e hx) (fun L i x acc G1 H1 H2 _ nM j1 e1 r y => by obtain ⟨rfl, hy⟩ := y; exact hs L i x acc G1 _ hy nM j1 e1 r) hd⟩
/-- over a list that stands -/
theorem w_lcLro (j : J M G H) (hx : SqL K G a xs) (R : Nat → List V → Hp → Prop) (h0 : R 0 [] G)
    (hs : ∀ L i x acc G1 H1, xs[i]? = some x → M L = none → J (upd M L (.lst acc)) G1 H1 → Ex G G1 → R i acc G1 → g x (wipe σ vs) H1 fun σ2 H3 => wipe σ2 vs = wipe σ vs ∧ tt σ2 H3 fun b H4 => if b = true then te σ2 H4 (RoAdd M G R L (i + 1)) else RoI M G R L (i + 1) H4)
    (hd : ∀ L acc G1 G2 H1, J M G2 H1 → Ex G G1 → Ex G1 G2 → G2 L = some (.lst acc) → R xs.length acc G1 → Q (.ref L) H1) : LcL K g tt te vs σ (.ref a) H Q :=
  ⟨a, rfl, ⟨xs, sl_mono j.g hx⟩, lcd_ro walk_list j R h0 (fun H1 _ e => sl_mono e hx) (fun L i x acc G1 H1 H2 _ nM j1 e1 r y => by obtain ⟨rfl, hy⟩ := y; exact hs L i x acc G1 _ hy nM j1 e1 r) hd⟩
/-- over the pairs of a locked dict with tuple keys -/
def LcIT (g : TG) (tt : TT) (te : TE) (vs : List Nat) (σ : L2.St) (x : V) (H1 : Hp) (Q : VK) : Prop := ∃ d o kvs, x = .ref d ∧ H1 d = some (.frz o (.dT kvs)) ∧ LcD (Itit d o kvs) g tt te vs σ H1 Q
theorem w_lcIT (h : td σ H fun x H1 => LcIT g tt te vs σ x H1 Q) : tLc (iItemsT td) g tt te vs σ H Q := h
theorem walk_itt {o : Obj} {kvs : List (List Key × V)} : Walk (Itit d o kvs) kvs.length (fun H => H d = some (.frz o (.dT kvs))) (fun i H x H' => ∃ (T q : Addr) (k : List Key) (v : V), kvs[i]? = some (k, v) ∧ H q = some (.tup (k.map kV)) ∧ x = .ref T ∧ H T = none ∧ H' = upd H T (.tup [.ref q, v])) :=
  ⟨fun _ _ hi q => ⟨q, hi⟩, fun _ q => ⟨q, Nat.le_refl _⟩, fun _ _ _ _ _ _ y => y⟩
theorem w_lcITro {o : Obj} {kvs : List (List Key × V)} (j : J M G H) (nt : NoT M) (hx : M d = some (.frz o (.dT kvs))) (R : Nat → List V → Hp → Prop) (h0 : R 0 [] G)
    (hs : ∀ L i T q k v acc G1 G2 H1, kvs[i]? = some (k, v) → M L = none → J (upd M L (.lst acc)) G2 H1 → Ex G G1 → Ex G1 G2 → R i acc G1 → G2 T = some (.tup [.ref q, v]) → G2 q = some (.tup (k.map kV)) → g (.ref T) (wipe σ vs) H1 fun σ2 H3 => wipe σ2 vs = wipe σ vs ∧ tt σ2 H3 fun b H4 => if b = true then te σ2 H4 (RoAdd M G R L (i + 1)) else RoI M G R L (i + 1) H4)
    (hd : ∀ L acc G1 G2 H1, J M G2 H1 → Ex G G1 → Ex G1 G2 → G2 L = some (.lst acc) → R kvs.length acc G1 → Q (.ref L) H1) : LcIT g tt te vs σ (.ref d) H Q := by
  refine ⟨d, o, kvs, rfl, j.m _ _ hx, lcd_ro walk_itt j R h0 (fun H1 e _ => e _ _ hx) (fun L i x acc G1 H1 H2 _ nM j1 e1 r y => ?_) hd⟩
  obtain ⟨T, q, k, v, hkv, hq, rfl, hT, rfl⟩ := y
  obtain ⟨G2, j2, e2, hq2⟩ := j1.adopt (nt.upd fun _ z => nomatch z) hq
  have j3 := j2.newG (o := .tup [.ref q, v]) hT
  have e3 : Ex G2 (upd G2 T (.tup [.ref q, v])) := Ex.new (j2.freeG hT)
  exact hs L i T q k v acc G1 _ _ hkv nM j3 e1 (e2.trans e3) r upd_same (e3 _ _ hq2)
/-- over the pairs of a locked dict with plain keys -/
def LcIK (g : TG) (tt : TT) (te : TE) (vs : List Nat) (σ : L2.St) (x : V) (H1 : Hp) (Q : VK) : Prop := ∃ d o kvs, x = .ref d ∧ H1 d = some (.frz o (.dK kvs)) ∧ LcD (Iti d o kvs) g tt te vs σ H1 Q
theorem w_lcIK (h : td σ H fun x H1 => LcIK g tt te vs σ x H1 Q) : tLc (iItems td) g tt te vs σ H Q := h
/-- over the keys of a locked dict -/
def LcKy (g : TG) (tt : TT) (te : TE) (vs : List Nat) (σ : L2.St) (x : V) (H1 : Hp) (Q : VK) : Prop := ∃ d o, x = .ref d ∧ ((∃ kvs, H1 d = some (.frz o (.dK kvs)) ∧ LcD (Itk d o kvs) g tt te vs σ H1 Q) ∨ ∃ kvs, H1 d = some (.frz o (.dT kvs)) ∧ LcD (Itkt d o kvs) g tt te vs σ H1 Q)
theorem w_lcKy (h : td σ H fun x H1 => LcKy g tt te vs σ x H1 Q) : tLc (iKeys td) g tt te vs σ H Q := h
theorem w_lcKyTro {o : Obj} {kvs : List (List Key × V)} (j : J M G H) (nt : NoT M) (hx : M d = some (.frz o (.dT kvs))) (R : Nat → List V → Hp → Prop) (h0 : R 0 [] G)
    (hs : ∀ L i q k v acc G1 G2 H1, kvs[i]? = some (k, v) → M L = none → J (upd M L (.lst acc)) G2 H1 → Ex G G1 → Ex G1 G2 → R i acc G1 → G2 q = some (.tup (k.map kV)) → g (.ref q) (wipe σ vs) H1 fun σ2 H3 => wipe σ2 vs = wipe σ vs ∧ tt σ2 H3 fun b H4 => if b = true then te σ2 H4 (RoAdd M G R L (i + 1)) else RoI M G R L (i + 1) H4)
    (hd : ∀ L acc G1 G2 H1, J M G2 H1 → Ex G G1 → Ex G1 G2 → G2 L = some (.lst acc) → R kvs.length acc G1 → Q (.ref L) H1) : LcKy g tt te vs σ (.ref d) H Q := by
  refine ⟨d, o, rfl, .inr ⟨kvs, j.m _ _ hx, lcd_ro walk_keysT j R h0 (fun H1 e _ => e _ _ hx) (fun L i x acc G1 H1 H2 _ nM j1 e1 r y => ?_) hd⟩⟩
  obtain ⟨rfl, k, v, q, hkv, rfl, hq⟩ := y
  obtain ⟨G2, j2, e2, hq2⟩ := j1.adopt (nt.upd fun _ z => nomatch z) hq
  exact hs L i q k v acc G1 _ _ hkv nM j2 e1 e2 r hq2
/-! locks -/
theorem upd_back {M : Hp} {d : Addr} {o u : HO} (h : M d = some u) : upd (upd M d o) d u = M := by
  funext b
  by_cases q : b = d
  · subst q; rw [upd_same, h]
  · rw [upd_ne q, upd_ne q]
theorem w_lockS {t : TS} {D : Ends} {u : HO} (j : J M G H) (h : M d = some u) (mu : Mut (some u)) (k : ∀ od H1, J (upd M d (.frz od u)) G H1 →
      t ⟨fun σ' H' => H' d = some (.frz od u) ∧ D.nx σ' (upd H' d u), fun v H' => H' d = some (.frz od u) ∧ D.rt v (upd H' d u), fun σ' H' => H' d = some (.frz od u) ∧ D.bk σ' (upd H' d u), fun σ' H' => H' d = some (.frz od u) ∧ D.ct σ' (upd H' d u)⟩ σ H1) : tLock t D σ H :=
  ⟨d, u, j.m _ _ h, mu, fun od => k od _ (j.put h)⟩
theorem w_lockE {t : TE} {u : HO} (j : J M G H) (h : M d = some u) (mu : Mut (some u)) (k : ∀ od H1, J (upd M d (.frz od u)) G H1 → t σ H1 fun v H' => H' d = some (.frz od u) ∧ Q v (upd H' d u)) : tLockE t σ H Q :=
  ⟨d, u, j.m _ _ h, mu, fun od => k od _ (j.put h)⟩
theorem w_unlock {u : HO} {od : Obj} {A : Hp → Prop} (j : J (upd M d (.frz od u)) G H) (h : M d = some u) (k : ∀ H2, J M G H2 → A H2) : H d = some (.frz od u) ∧ A (upd H d u) :=
  ⟨j.m _ _ upd_same, k _ (by have := j.put (o' := u) upd_same; rw [upd_back h] at this; exact this)⟩
/-! two clauses, both over tuples -/
def Lc2T (K : PySem.W.Frag) (g : TG) (tt : TT) (wi1 : TI) (g1 : TG) (tt1 : TT) (te : TE) (vs vs1 : List Nat) (σ : L2.St) (x : V) (H1 : Hp) (Q : VK) : Prop := ∃ a, x = .ref a ∧ (∃ xs, SqT K H1 a xs) ∧ ∀ D, H1 D = none → ∃ W : Nat → Nat → Hp → Prop, (∃ m, W 0 m (upd H1 D (.lst []))) ∧ ∀ i m H, W i m H →
  ((Itt K a).stop i H ∧ Q (.ref D) H) ∨ ((Itt K a).go i H ∧ ∃ Nx : Hp → Prop, (∀ H', Nx H' → ∃ m', m' < m ∧ W (i + 1) m' H') ∧ ∀ x H', (Itt K a).yld i H x H' → g x (wipe σ vs) H' fun σ2 H2 => wipe σ2 vs = wipe σ vs ∧ tt σ2 H2 fun b H3 =>
    if b = true then wi1 σ2 H3 fun J1 H4 => ∃ W1 : Nat → Nat → Hp → Prop, (∃ m, W1 0 m H4) ∧ ∀ j k H, W1 j k H →
      (J1.stop j H ∧ Nx H) ∨ (J1.go j H ∧ ∃ Nx1 : Hp → Prop, (∀ H', Nx1 H' → ∃ k', k' < k ∧ W1 (j + 1) k' H') ∧ ∀ x H', J1.yld j H x H' → g1 x (wipe σ2 vs1) H' fun σ3 H5 => wipe σ3 vs1 = wipe σ2 vs1 ∧ tt1 σ3 H5 fun b H6 =>
        if b = true then te σ3 H6 fun y H7 => ∃ acc, H7 D = some (.lst acc) ∧ acc.length < sizeLine ∧ Nx1 (upd H7 D (.lst (acc ++ [y]))) else Nx1 H6)
    else Nx H3)
theorem w_lc2T {wi1 : TI} {g1 : TG} {tt1 : TT} {vs1 : List Nat} (h : tl σ H fun x H1 => Lc2T K g tt wi1 g1 tt1 te vs vs1 σ x H1 Q) : tLc2 (iTup K tl) g tt wi1 g1 tt1 te vs vs1 σ H Q := h
/-- the second one's turns -/
def In2 (K : PySem.W.Frag) (g1 : TG) (tt1 : TT) (te : TE) (vs1 : List Nat) (M G : Hp) (R : Nat → List V → Hp → Prop) (L : Addr) (i : Nat) (σ2 : L2.St) (x : V) (H4 : Hp) : Prop := ∃ b, x = .ref b ∧ (∃ ys, SqT K H4 b ys) ∧ ∃ W1 : Nat → Nat → Hp → Prop, (∃ m, W1 0 m H4) ∧ ∀ j k H, W1 j k H →
  ((Itt K b).stop j H ∧ RoI M G R L (i + 1) H) ∨ ((Itt K b).go j H ∧ ∃ Nx1 : Hp → Prop, (∀ H', Nx1 H' → ∃ k', k' < k ∧ W1 (j + 1) k' H') ∧ ∀ x H', (Itt K b).yld j H x H' → g1 x (wipe σ2 vs1) H' fun σ3 H5 => wipe σ3 vs1 = wipe σ2 vs1 ∧ tt1 σ3 H5 fun b H6 =>
    if b = true then te σ3 H6 fun y H7 => ∃ acc, H7 L = some (.lst acc) ∧ acc.length < sizeLine ∧ Nx1 (upd H7 L (.lst (acc ++ [y]))) else Nx1 H6)
theorem w_lc2Tro {td1 : TE} {g1 : TG} {tt1 : TT} {vs1 : List Nat} (j : J M G H) (hx : SqT K G a xs) (R : Nat → List V → Hp → Prop) (h0 : R 0 [] G)
    (hs : ∀ L i x acc G1 H1, xs[i]? = some x → M L = none → J (upd M L (.lst acc)) G1 H1 → Ex G G1 → R i acc G1 → g x (wipe σ vs) H1 fun σ2 H3 => wipe σ2 vs = wipe σ vs ∧ tt σ2 H3 fun b H4 => if b = true then td1 σ2 H4 (In2 K g1 tt1 te vs1 M G R L i σ2) else RoI M G R L (i + 1) H4)
    (hd : ∀ L acc G1 G2 H1, J M G2 H1 → Ex G G1 → Ex G1 G2 → G2 L = some (.lst acc) → R xs.length acc G1 → Q (.ref L) H1) : Lc2T K g tt (iTup K td1) g1 tt1 te vs vs1 σ (.ref a) H Q := by
  refine ⟨a, rfl, ⟨xs, st_mono j.g hx⟩, fun L hL => ⟨fun i m H1 => m = xs.length - i ∧ i ≤ xs.length ∧ RoI M G R L i H1, ⟨_, rfl, Nat.zero_le _, [], G, j.newM hL, Same.refl G, h0⟩, ?_⟩⟩
  have nM := j.freeM hL
  rintro i m H1 ⟨rfl, hi, acc, G1, j1, e1, r⟩
  have q1 : SqT K H1 a xs := st_mono (e1.trans j1.g) hx
  by_cases hlt : i < xs.length
  · refine .inr ⟨⟨xs, xs[i], q1, by simp [hlt]⟩, RoI M G R L (i + 1), fun H' p' => ⟨xs.length - (i + 1), by omega, rfl, hlt, p'⟩, fun x H2 y => ?_⟩
    obtain ⟨rfl, hy⟩ := y
    exact hs L i x acc G1 _ (hy xs q1) nM j1 e1 r
  · have e : i = xs.length := by omega
    subst e
    exact .inl ⟨⟨xs, q1, Nat.le_refl _⟩, hd L acc G1 _ H1 (j1.freeze nM) e1 (Ex.new j1.freezeG) upd_same r⟩
theorem w_in2 {g1 : TG} {tt1 : TT} {vs1 : List Nat} {G1 : Hp} {b : Addr} {ys : List V} {i : Nat} {σ2 : L2.St} (j : J (upd M L (.lst acc)) G1 H) (e : Ex G G1) (hy : SqT K G1 b ys) (R1 : Nat → List V → Hp → Prop) (h0 : R1 0 acc G1)
    (hs : ∀ k y acc G2 H1, ys[k]? = some y → J (upd M L (.lst acc)) G2 H1 → Ex G1 G2 → R1 k acc G2 → g1 y (wipe σ2 vs1) H1 fun σ3 H5 => wipe σ3 vs1 = wipe σ2 vs1 ∧ tt1 σ3 H5 fun b H6 => if b = true then te σ3 H6 (RoAdd M G1 R1 L (k + 1)) else RoI M G1 R1 L (k + 1) H6)
    (hd : ∀ acc G2, Ex G1 G2 → R1 ys.length acc G2 → R (i + 1) acc G2) : In2 K g1 tt1 te vs1 M G R L i σ2 (.ref b) H := by
  refine ⟨b, rfl, ⟨ys, st_mono j.g hy⟩, fun k m H1 => m = ys.length - k ∧ k ≤ ys.length ∧ RoI M G1 R1 L k H1, ⟨_, rfl, Nat.zero_le _, acc, G1, j, Same.refl G1, h0⟩, ?_⟩
  rintro k m H1 ⟨rfl, hk, acc2, G2, j2, e2, r⟩
  have q1 : SqT K H1 b ys := st_mono (e2.trans j2.g) hy
  by_cases hlt : k < ys.length
  · refine .inr ⟨⟨ys, ys[k], q1, by simp [hlt]⟩, RoI M G1 R1 L (k + 1), fun H' p' => ⟨ys.length - (k + 1), by omega, rfl, hlt, p'⟩, fun x H2 y => ?_⟩
    obtain ⟨rfl, hy2⟩ := y
    exact hs k x acc2 G2 _ (hy2 ys q1) j2 e2 r
  · have e3 : k = ys.length := by omega
    subst e3
    exact .inl ⟨⟨ys, q1, Nat.le_refl _⟩, acc2, G2, j2, e.trans e2, hd acc2 G2 e2 r⟩
end
/-! ### words over lists of truth values, pairs, versions -/
theorem bt_any : bootBuiltins "any" = some (.builtin "any") := by decide +kernel
theorem bt_all : bootBuiltins "all" = some (.builtin "all") := by decide +kernel
section
variable {X : Cx} {K : PySem.W.Frag}
theorem call_anyK (h : X.K = K) (hc : X.calm = true) : CallR X (.builtin "any") (rAny K) := h ▸ cr_any hc
theorem call_allK (h : X.K = K) (hc : X.calm = true) : CallR X (.builtin "all") (rAll K) := h ▸ cr_all hc
theorem call_minNPK (h : X.K = K) (hc : X.calm = true) (hu : X.A.units + 64 < cLine) : CallR X (.builtin "min") (MinNP K) := h ▸ call_minNP hc hu
theorem call_sortTVK (h : X.K = K) (hu : X.A.units + 64 < cLine) : CallR X (.builtin "sorted") (SortTV K) := h ▸ call_sortTV hu
end
section
variable {K : PySem.W.Frag} {M G H : Hp} {Q : VK} {a q : Addr} {σ : L2.St}
theorem w_any {bs : List Bool} (j : J M G H) (h : SqL K G a (bs.map V.bl)) (k : Q (.bl (bs.any id)) H) : rAny K [.ref a] H Q := ⟨a, bs, rfl, sl_mono j.g h, k⟩
theorem w_all {bs : List Bool} (j : J M G H) (h : SqL K G a (bs.map V.bl)) (k : Q (.bl (bs.all id)) H) : rAll K [.ref a] H Q := ⟨a, bs, rfl, sl_mono j.g h, k⟩
def AtG (G : Hp) (qs : List Addr) (ds : List (List Int)) : Prop := Paired (fun q d => G q = some (.tup (d.map V.int))) qs ds
/-- tuples that the heap holds are taken in -/
theorem adoptAll {α : Type} {f : α → List V} : ∀ {qs : List Addr} {ds : List α} {M G H : Hp}, J M G H → NoT M → Paired (fun q d => H q = some (.tup (f d))) qs ds → ∃ G', J M G' H ∧ Ex G G' ∧ Paired (fun q d => G' q = some (.tup (f d))) qs ds
  | _, _, _, G, _, j, _, .nil => ⟨G, j, Same.refl G, .nil⟩
  | _, _, _, _, _, j, n, .cons h t => by
    obtain ⟨G1, j1, e1, p1⟩ := adoptAll j n t
    obtain ⟨G2, j2, e2, p2⟩ := j1.adopt n h
    exact ⟨G2, j2, e1.trans e2, .cons p2 (L2.Paired.mapP p1 fun _ _ h => e2 _ _ h)⟩
theorem w_sortDT {kvs : List (List Key × V)} {ds : List (List Int)} (j : J M G H) (nt : NoT M) (h : M a = some (.dT kvs)) (e : kvs.map (·.1) = ds.map ky) (hn : ∀ d ∈ ds, d ≠ []) (z : ds.length ≤ 1000000)
    (k : ∀ qs p G' H', J M G' H' → Ex G G' → G' p = some (.lst (qs.map V.ref)) → AtG G' qs (srt ds) → Q (.ref p) H') : SortDT [.ref a] H Q :=
  ⟨a, kvs, ds, rfl, .inl (j.m _ _ h), e, hn, z, fun qs p hq hp => by
    obtain ⟨G1, j1, e1, p1⟩ := adoptAll (f := fun d : List Int => d.map V.int) j nt hq
    have hp1 := j1.freeG hp
    exact k qs p _ _ (j1.newG hp) (e1.trans (Ex.new hp1)) upd_same (L2.Paired.mapP p1 fun _ _ h => Ex.new hp1 _ _ h)⟩
theorem w_minNP {ts : List Addr} {ps : List (Int × List Int)} (j : J M G H) (h : SqL K G a (ts.map V.ref)) (hp : Paired (NpAt G) ts ps) (hn : ps ≠ []) (z : ps.length ≤ 1000000)
    (k : ∀ (i : Nat) t p, ts[i]? = some t → ps[i]? = some p → NpAt G t p → (∀ y ∈ ps, leP p y) → Q (.ref t) H) : MinNP K [.ref a] H Q :=
  ⟨a, ts, ps, rfl, sl_mono j.g h, L2.Paired.mapP hp fun _ _ ⟨q, h1, h2⟩ => ⟨q, j.g _ _ h1, j.g _ _ h2⟩, hn, z, fun i t p ht hm hl => k i t p ht hm (paired_mem hp (t, p) (List.mem_iff_getElem?.mpr ⟨i, List.getElem?_zip_eq_some.mpr ⟨ht, hm⟩⟩)) hl⟩
theorem w_sortTV {ts : List Addr} {ps : List (Int × Option Int)} (j : J M G H) (nt : NoT M) (h : SqL K G a (ts.map V.ref)) (hp : Paired (TvAt G) ts ps) (hn : (ps.map (·.1)).Nodup) (z : ps.length ≤ 1000000)
    (k : ∀ ts' p G' H', J M G' H' → Ex G G' → G' p = some (.lst (ts'.map V.ref)) → Paired (TvAt G') ts' (srtT ps) → Q (.ref p) H') : SortTV K [.ref a] H Q :=
  ⟨a, ts, ps, rfl, sl_mono j.g h, L2.Paired.mapP hp fun _ _ h => j.g _ _ h, hn, z, fun ts' p hq hp => by
    obtain ⟨G1, j1, e1, p1⟩ := adoptAll (f := fun p : Int × Option Int => [V.int p.1, ovV p.2]) j nt hq
    have hp1 := j1.freeG hp
    exact k ts' p _ _ (j1.newG hp) (e1.trans (Ex.new hp1)) upd_same (L2.Paired.mapP p1 fun _ _ h => Ex.new hp1 _ _ h)⟩
end

theorem w_dnewT {σ : L2.St} {H : Hp} {Q : VK} (h : NewO (.dT []) 0 H Q) : tDNewT σ H Q := h.2
theorem upd_pre {M : Hp} {p r : Addr} {o1 o2 o3 : HO} (h : p ≠ r) : upd (upd (upd M p o1) r o2) p o3 = upd (upd M r o2) p o3 := by
  funext a
  by_cases q : a = p
  · rw [q, upd_same, upd_same]
  · rw [upd_ne q, upd_ne q]
    by_cases q2 : a = r
    · rw [q2, upd_same, upd_same]
    · rw [upd_ne q2, upd_ne q2, upd_ne q]
theorem none_upd {M : Hp} {a b : Addr} {o : HO} (h : upd M a o b = none) : b ≠ a ∧ M b = none := by
  by_cases q : b = a
  · subst q; rw [upd_same] at h; cases h
  · rw [upd_ne q] at h; exact ⟨q, h⟩
local macro_rules
  | `(tactic| walk_at "v") => `(tactic| first
    | with_reducible refine w_dnewT ?_
    | with_reducible refine w_yes ?_
    | with_reducible refine w_lcT ?_
    | with_reducible refine w_lcIT ?_
    | with_reducible refine w_lcIK ?_
    | with_reducible refine w_lcKy ?_
    | with_reducible refine w_lc2T ?_)
/-! ### are_same: data without truth values, any other data -/
theorem ps_no {X : Cx} {st : Stmt} : PS X st (fun _ _ _ => False) := ⟨fun _ _ _ _ _ _ h => h.elim⟩
theorem tk1 {α : Type} {l : List α} {i : Nat} {x : α} (h : l[i]? = some x) : l.take (i + 1) = l.take i ++ [x] := by rw [List.take_add_one, h]; rfl
theorem w_cont {D : Ends} {σ : L2.St} {H : Hp} (h : D.ct σ H) : tCont D σ H := h
def okM : Nat → PyData → Prop
  | _, .none => True
  | _, .bool _ => False
  | _, .int _ => True
  | _, .str _ => True
  | 0, .list _ => False
  | 0, .tuple _ => False
  | n + 1, .list xs => xs.length ≤ 100000 ∧ ∀ x ∈ xs, okM n x
  | n + 1, .tuple xs => xs.length ≤ 100000 ∧ ∀ x ∈ xs, okM n x
  | _, .dict _ => False
def Sq2 (K : PySem.W.Frag) (G : Hp) (a b : Addr) (xs ys : List V) : Prop := (SqL K G a xs ∧ SqL K G b ys) ∨ (SqT K G a xs ∧ SqT K G b ys)
def spAllS1 (K : PySem.W.Frag) (n : Nat) : Sp := Sg (α := Addr × Addr × (List V × List V) × (List PyData × List PyData)) (fun x vs M G => vs = [.ref x.1, .ref x.2.1] ∧ Sq2 K G x.1 x.2.1 x.2.2.1.1 x.2.2.1.2 ∧ DpAll K G x.2.2.1.1 x.2.2.2.1 ∧ DpAll K G x.2.2.1.2 x.2.2.2.2 ∧ x.2.2.2.1.length ≤ 100000 ∧ ∀ d ∈ x.2.2.2.1, okM n d)
      (fun x M _ v M' _ => ∃ b, v = .bl b ∧ (b = true ↔ x.2.2.2.1 = x.2.2.2.2) ∧ M' = M)
def spAllS (K : PySem.W.Frag) : Nat → Sp
  | 0 => spNo
  | n + 1 => spAllS1 K n
def spSame (K : PySem.W.Frag) (n : Nat) : Sp := Sg (α := V × V × PyData × PyData) (fun x vs M G => vs = [x.1, x.2.1] ∧ Dp K G x.1 x.2.2.1 ∧ Dp K G x.2.1 x.2.2.2 ∧ okM n x.2.2.1) (fun x M _ v M' _ => ∃ b, v = .bl b ∧ (b = true ↔ x.2.2.1 = x.2.2.2) ∧ M' = M)
theorem use_same {K : PySem.W.Frag} {n : Nat} {M G H : Hp} {x y : V} {d e : PyData} {Q : VK} {E : XK} (j : J M G H) (h1 : Dp K G x d) (h2 : Dp K G y e) (h3 : okM n d) (k : ∀ b G' H', (b = true ↔ d = e) → J M G' H' → Ex G G' → Q (.bl b) H') : spSame K n ([x, y] ++ []) H Q E :=
  w_sg (x, y, d, e) j ⟨rfl, h1, h2, h3⟩ fun v M' G' H' j' e ⟨b, ev, eb, em⟩ => by subst ev em; exact k b G' H' eb j' e
theorem use_alls {K : PySem.W.Frag} {n : Nat} {M G H : Hp} {a b : Addr} {xs ys : List V} {ds es : List PyData} {Q : VK} {E : XK} (j : J M G H) (h1 : Sq2 K G a b xs ys) (h3 : DpAll K G xs ds) (h4 : DpAll K G ys es) (h5 : ds.length ≤ 100000) (h6 : ∀ d ∈ ds, okM n d)
    (k : ∀ b G' H', (b = true ↔ ds = es) → J M G' H' → Ex G G' → Q (.bl b) H') : spAllS K (n + 1) ([.ref a, .ref b] ++ []) H Q E := by
  show spAllS1 K n _ H Q E
  exact w_sg (a, b, (xs, ys), (ds, es)) j ⟨rfl, h1, h3, h4, h5, h6⟩ fun v M' G' H' j' e ⟨b, ev, eb, em⟩ => by subst ev em; exact k b G' H' eb j' e
/-- a comprehension that reads two lists, or two tuples, side by side -/
def LcZ (K : PySem.W.Frag) (g : TG) (tt : TT) (te : TE) (vs : List Nat) (σ : L2.St) (ws : List V) (H1 : Hp) (Q : VK) : Prop := ∃ a b xs ys, ws = [.ref a, .ref b] ∧ ((SqL K H1 a xs ∧ SqL K H1 b ys ∧ LcD (Itz K a b) g tt te vs σ H1 Q) ∨ (SqT K H1 a xs ∧ SqT K H1 b ys ∧ LcD (RZ.ItzT K a b) g tt te vs σ H1 Q))
section
variable {K : PySem.W.Frag} {M G H : Hp} {σ : L2.St} {Q : VK} {g : TG} {tt : TT} {te : TE} {ta : TA} {vs : List Nat} {a b : Addr} {xs ys : List V}
theorem w_lcZ (h : ta σ H fun ws H1 => LcZ K g tt te vs σ ws H1 Q) : tLc (RZ.iZipA K ta) g tt te vs σ H Q := h
def YZ (xs ys : List V) (i : Nat) (H : Hp) (v : V) (H' : Hp) : Prop := ∃ T x y, xs[i]? = some x ∧ ys[i]? = some y ∧ v = .ref T ∧ H T = none ∧ H' = upd H T (.tup [x, y])
theorem walk_zL (l : xs.length = ys.length) : Walk (Itz K a b) xs.length (fun H => SqL K H a xs ∧ SqL K H b ys) (YZ xs ys) :=
  ⟨fun i _ hi q => ⟨xs, ys, xs[i], ys[i], q.1, q.2, by simp [hi], by simp [show i < ys.length by omega]⟩, fun _ q => ⟨xs, ys, q.1, q.2, .inl (Nat.le_refl _)⟩, fun i H v H' _ q y => by
    obtain ⟨T, x, y, rfl, hT, rfl, f1, f2⟩ := y
    exact ⟨T, x, y, f1 xs q.1, f2 ys q.2, rfl, hT, rfl⟩⟩
theorem walk_zT (l : xs.length = ys.length) : Walk (RZ.ItzT K a b) xs.length (fun H => SqT K H a xs ∧ SqT K H b ys) (YZ xs ys) :=
  ⟨fun i _ hi q => ⟨xs, ys, xs[i], ys[i], q.1, q.2, by simp [hi], by simp [show i < ys.length by omega]⟩, fun _ q => ⟨xs, ys, q.1, q.2, .inl (Nat.le_refl _)⟩, fun i H v H' _ q y => by
    obtain ⟨T, x, y, rfl, hT, rfl, f1, f2⟩ := y
    exact ⟨T, x, y, f1 xs q.1, f2 ys q.2, rfl, hT, rfl⟩⟩
theorem w_lcZro (j : J M G H) (hx : Sq2 K G a b xs ys) (l : xs.length = ys.length) (R : Nat → List V → Hp → Prop) (h0 : R 0 [] G) (mo : ∀ i acc G1 G2, Ex G1 G2 → R i acc G1 → R i acc G2)
    (hs : ∀ L i T x y acc G1 H1, xs[i]? = some x → ys[i]? = some y → M L = none → J (upd M L (.lst acc)) G1 H1 → Ex G G1 → R i acc G1 → G1 T = some (.tup [x, y]) → g (.ref T) (wipe σ vs) H1 fun σ2 H3 => wipe σ2 vs = wipe σ vs ∧ tt σ2 H3 fun b H4 => if b = true then te σ2 H4 (RoAdd M G R L (i + 1)) else RoI M G R L (i + 1) H4)
    (hd : ∀ L acc G1 G2 H1, J M G2 H1 → Ex G G1 → Ex G1 G2 → G2 L = some (.lst acc) → R xs.length acc G1 → Q (.ref L) H1) : LcZ K g tt te vs σ [.ref a, .ref b] H Q := by
  have turn : ∀ L i x acc G1 H1 H2, i < xs.length → M L = none → J (upd M L (.lst acc)) G1 H1 → Ex G G1 → R i acc G1 → YZ xs ys i H1 x H2 → g x (wipe σ vs) H2 fun σ2 H3 => wipe σ2 vs = wipe σ vs ∧ tt σ2 H3 fun b H4 => if b = true then te σ2 H4 (RoAdd M G R L (i + 1)) else RoI M G R L (i + 1) H4 := by
    rintro L i x acc G1 H1 H2 _ nM j1 e1 r ⟨T, u, v, hu, hv, rfl, hT, rfl⟩
    exact hs L i T u v acc _ _ hu hv nM (j1.newG hT) (e1.trans (Ex.new (j1.freeG hT))) (mo _ _ _ _ (Ex.new (j1.freeG hT)) r) upd_same
  rcases hx with ⟨h1, h2⟩ | ⟨h1, h2⟩
  · exact ⟨a, b, xs, ys, rfl, .inl ⟨sl_mono j.g h1, sl_mono j.g h2, lcd_ro (walk_zL l) j R h0 (fun H1 _ e => ⟨sl_mono e h1, sl_mono e h2⟩) turn hd⟩⟩
  · exact ⟨a, b, xs, ys, rfl, .inr ⟨st_mono j.g h1, st_mono j.g h2, lcd_ro (walk_zT l) j R h0 (fun H1 _ e => ⟨st_mono e h1, st_mono e h2⟩) turn hd⟩⟩
end
local macro_rules
  | `(tactic| walk_at "v") => `(tactic| first
    | with_reducible refine w_cont ?_
    | with_reducible refine w_lcZ ?_)
/-! ### keys, values -/
def IsVal (n : Int) : Prop := -1000000000000000000 ≤ n ∧ n ≤ 1000000000000000000
instance (n : Int) : Decidable (IsVal n) := inferInstanceAs (Decidable (_ ∧ _))
def IsKey (n : Int) : Prop := 0 ≤ n ∧ n < 1000
def ov : Option Int → V
  | none => .non
  | some n => .int n
def OkV : Option Int → Prop
  | none => True
  | some n => IsVal n
/-! ### tables of values -/
def look (kv : List (Int × Int)) (k : Int) : Option Int := (kv.find? fun p => decide (p.1 = k)).map (·.2)
def putI (kv : List (Int × Int)) (k v : Int) : List (Int × Int) := if (look kv k).isSome then kv.map (fun p => if p.1 = k then (p.1, v) else p) else kv ++ [(k, v)]
def dropI (kv : List (Int × Int)) (k : Int) : List (Int × Int) := kv.filter fun p => decide (p.1 ≠ k)
def tk (kv : List (Int × Int)) : List (Key × V) := kv.map fun p => ((Sum.inl p.1 : Key), V.int p.2)
theorem look_nil (k : Int) : look [] k = none := rfl
theorem look_cons (p : Int × Int) (r : List (Int × Int)) (k : Int) : look (p :: r) k = if p.1 = k then some p.2 else look r k := by
  unfold look; rw [List.find?_cons]
  by_cases h : p.1 = k
  · rw [decide_eq_true h, if_pos h]; rfl
  · rw [decide_eq_false h, if_neg h]
theorem tk_look : ∀ (kv : List (Int × Int)) (k : Int), valV (tk kv) (.inl k) = (look kv k).map V.int
  | [], k => rfl
  | p :: r, k => by
    show valV (((Sum.inl p.1 : Key), V.int p.2) :: tk r) (.inl k) = _
    rw [look_cons]
    by_cases h : p.1 = k
    · rw [valV_pos (by rw [h]), if_pos h]; rfl
    · rw [valV_neg (fun z => h (Sum.inl.inj z)), if_neg h]; exact tk_look r k
theorem tk_put (kv : List (Int × Int)) (k v : Int) : putK (tk kv) (.inl k) (.int v) = tk (putI kv k v) := by
  have ha : ((tk kv).any fun kv => decide (kv.1 = (Sum.inl k : Key))) = (look kv k).isSome := by rw [valV_any, tk_look]; cases look kv k <;> rfl
  unfold putK putI
  rw [ha]
  cases look kv k with
  | none => show tk kv ++ _ = tk (kv ++ [(k, v)]); unfold tk; rw [List.map_append]; rfl
  | some x =>
    show (tk kv).map _ = tk (kv.map _)
    unfold tk
    rw [List.map_map, List.map_map]
    refine List.map_congr_left fun p _ => ?_
    show (if (Sum.inl p.1 : Key) = Sum.inl k then ((Sum.inl p.1 : Key), V.int v) else ((Sum.inl p.1 : Key), V.int p.2)) = (((Sum.inl (if p.1 = k then (p.1, v) else p).1 : Key)), V.int (if p.1 = k then (p.1, v) else p).2)
    by_cases h : p.1 = k
    · rw [if_pos (by rw [h]), if_pos h]
    · rw [if_neg (fun z => h (Sum.inl.inj z)), if_neg h]
theorem tk_drop : ∀ (kv : List (Int × Int)) (k : Int), dropK (tk kv) (.inl k) = tk (dropI kv k)
  | [], k => rfl
  | p :: r, k => by
    show dropK (((Sum.inl p.1 : Key), V.int p.2) :: tk r) (.inl k) = _
    unfold dropI
    rw [List.filter_cons]
    by_cases h : p.1 = k
    · rw [dropK_pos (by rw [h]), if_neg (by simp [h])]; exact tk_drop r k
    · rw [dropK_neg (fun z => h (Sum.inl.inj z)), if_pos (by simp [h])]
      show _ = ((Sum.inl p.1 : Key), V.int p.2) :: tk (dropI r k)
      rw [tk_drop r k]
theorem tk_len (kv : List (Int × Int)) : (tk kv).length = kv.length := List.length_map _
theorem tk_keys (kv : List (Int × Int)) : (tk kv).map (·.1) = (kv.map (·.1)).map Sum.inl := by unfold tk; rw [List.map_map, List.map_map]; rfl
theorem look_mem : ∀ {kv : List (Int × Int)} {k v : Int}, look kv k = some v → (k, v) ∈ kv
  | [], k, v, h => by cases h
  | p :: r, k, v, h => by
    rw [look_cons] at h
    by_cases e : p.1 = k
    · rw [if_pos e] at h
      have : p = (k, v) := by rw [← e, ← Option.some.inj h]
      rw [this]; exact List.mem_cons_self
    · rw [if_neg e] at h; exact List.mem_cons_of_mem _ (look_mem h)
theorem look_none : ∀ {kv : List (Int × Int)} {k : Int}, look kv k = none ↔ k ∉ kv.map (·.1)
  | [], k => by simp [look]
  | p :: r, k => by
    rw [look_cons, List.map_cons, List.mem_cons]
    by_cases e : p.1 = k
    · rw [if_pos e]; simp [e]
    · rw [if_neg e, look_none]
      constructor
      · intro h z; rcases z with z | z
        · exact e z.symm
        · exact h z
      · intro h z; exact h (.inr z)
theorem mem_look : ∀ {kv : List (Int × Int)} {k v : Int}, (kv.map (·.1)).Nodup → (k, v) ∈ kv → look kv k = some v
  | [], k, v, _, h => by cases h
  | p :: r, k, v, hn, h => by
    rw [List.map_cons, List.nodup_cons] at hn
    rw [look_cons]
    rcases List.mem_cons.mp h with rfl | h
    · rw [if_pos rfl]
    · by_cases e : p.1 = k
      · exact absurd (by rw [e]; exact List.mem_map_of_mem (f := (·.1)) h) hn.1
      · rw [if_neg e]; exact mem_look hn.2 h
theorem put_keys_old {kv : List (Int × Int)} {k v : Int} (h : (look kv k).isSome = true) : (putI kv k v).map (·.1) = kv.map (·.1) := by
  unfold putI; rw [if_pos h, List.map_map]
  refine List.map_congr_left fun p _ => ?_
  show (if p.1 = k then (p.1, v) else p).1 = p.1
  by_cases e : p.1 = k
  · rw [if_pos e]
  · rw [if_neg e]
theorem put_new {kv : List (Int × Int)} {k v : Int} (h : look kv k = none) : putI kv k v = kv ++ [(k, v)] := by unfold putI; rw [h]; rfl
theorem look_map (k v j : Int) : ∀ kv : List (Int × Int), look (kv.map fun p => if p.1 = k then (p.1, v) else p) j = (look kv j).map fun x => if j = k then v else x
  | [] => rfl
  | p :: r => by
    rw [List.map_cons, look_cons, look_cons]
    by_cases e : p.1 = k
    · rw [if_pos e]
      by_cases f : p.1 = j
      · rw [if_pos f, if_pos f]; show some v = some (if j = k then v else p.2); rw [if_pos (f.symm.trans e)]
      · rw [if_neg f, if_neg f]; exact look_map k v j r
    · rw [if_neg e]
      by_cases f : p.1 = j
      · rw [if_pos f, if_pos f]; show some p.2 = some (if j = k then v else p.2); rw [if_neg (fun z => e (f.trans z))]
      · rw [if_neg f, if_neg f]; exact look_map k v j r
theorem look_snoc (k v j : Int) : ∀ kv : List (Int × Int), look (kv ++ [(k, v)]) j = (look kv j).or (if k = j then some v else none)
  | [] => by rw [List.nil_append, look_cons]; rfl
  | p :: r => by
    rw [List.cons_append, look_cons, look_cons]
    by_cases f : p.1 = j
    · rw [if_pos f, if_pos f]; rfl
    · rw [if_neg f, if_neg f]; exact look_snoc k v j r
theorem look_put (kv : List (Int × Int)) (k v j : Int) : look (putI kv k v) j = if j = k then some v else look kv j := by
  cases h : look kv k with
  | some x =>
    unfold putI; rw [h, if_pos (show (some x).isSome = true from rfl), look_map]
    by_cases e : j = k
    · subst e; rw [h, if_pos rfl]; show some (if j = j then v else x) = _; rw [if_pos rfl]
    · rw [if_neg e]; cases look kv j with
      | none => rfl
      | some y => show some (if j = k then v else y) = _; rw [if_neg e]
  | none =>
    rw [put_new h, look_snoc]
    by_cases e : j = k
    · subst e; rw [h, if_pos rfl]; rfl
    · rw [if_neg (fun z => e z.symm), if_neg e]; cases look kv j <;> rfl
theorem look_drop (k j : Int) : ∀ kv : List (Int × Int), look (dropI kv k) j = if j = k then none else look kv j
  | [] => by rw [show dropI [] k = [] from rfl, look_nil]; split <;> rfl
  | p :: r => by
    unfold dropI
    rw [List.filter_cons]
    by_cases e : p.1 = k
    · rw [if_neg (by simp [e])]
      show look (dropI r k) j = _
      rw [look_drop k j r, look_cons]
      by_cases f : j = k
      · rw [if_pos f, if_pos f]
      · rw [if_neg f, if_neg f, if_neg (fun z => f (z.symm.trans e))]
    · rw [if_pos (by simp [e]), look_cons]
      show (if p.1 = j then some p.2 else look (dropI r k) j) = _
      rw [look_drop k j r, look_cons]
      by_cases f : p.1 = j
      · rw [if_pos f, if_pos f, if_neg (fun z => e (f.trans z))]
      · rw [if_neg f, if_neg f]
/-- keys once, keys and values within their bounds, not too many -/
structure TabOk (kv : List (Int × Int)) (n : Nat) : Prop where
  nd : (kv.map (·.1)).Nodup
  ok : ∀ p ∈ kv, IsKey p.1 ∧ IsVal p.2
  len : kv.length ≤ n
theorem TabOk.nil : TabOk [] 0 := ⟨List.nodup_nil, fun p h => (by cases h), Nat.le_refl _⟩
theorem TabOk.mono {kv : List (Int × Int)} {n m : Nat} (h : TabOk kv n) (e : n ≤ m) : TabOk kv m := ⟨h.nd, h.ok, Nat.le_trans h.len e⟩
theorem put_len (kv : List (Int × Int)) (k v : Int) : (putI kv k v).length ≤ kv.length + 1 := by
  unfold putI; split
  · rw [List.length_map]; omega
  · rw [List.length_append]; exact Nat.le_refl _
theorem TabOk.put {kv : List (Int × Int)} {n : Nat} {k v : Int} (h : TabOk kv n) (hk : IsKey k) (hv : IsVal v) : TabOk (putI kv k v) (n + 1) := by
  refine ⟨?_, ?_, Nat.le_trans (put_len kv k v) (Nat.succ_le_succ h.len)⟩
  · cases e : look kv k with
    | some x => rw [put_keys_old (by rw [e]; rfl)]; exact h.nd
    | none =>
      rw [put_new e, List.map_append]
      exact nd_snoc h.nd (look_none.mp e)
  · intro p hp
    unfold putI at hp
    split at hp
    · obtain ⟨q, hq, e⟩ := List.mem_map.mp hp
      have := h.ok q hq
      by_cases c : q.1 = k
      · rw [if_pos c] at e; rw [← e]; exact ⟨this.1, hv⟩
      · rw [if_neg c] at e; rw [← e]; exact this
    · rcases List.mem_append.mp hp with hp | hp
      · exact h.ok p hp
      · rw [List.mem_singleton.mp hp]; exact ⟨hk, hv⟩
theorem TabOk.drop {kv : List (Int × Int)} {n : Nat} {k : Int} (h : TabOk kv n) : TabOk (dropI kv k) n := by
  refine ⟨?_, fun p hp => h.ok p (List.mem_filter.mp hp).1, Nat.le_trans (List.length_filter_le _ _) h.len⟩
  have hs : ((dropI kv k).map (·.1)).Sublist (kv.map (·.1)) := (List.filter_sublist (l := kv)).map _
  exact hs.nodup h.nd
/-- a table as a function -/
abbrev Fn := Int → Option Int
def Rep (kv : List (Int × Int)) (m : Fn) : Prop := ∀ k, look kv k = m k
def setM (m : Fn) (k : Int) (v : Option Int) : Fn := fun j => if j = k then v else m j
theorem Rep.put {kv : List (Int × Int)} {m : Fn} {k v : Int} (h : Rep kv m) : Rep (putI kv k v) (setM m k (some v)) := fun j => by rw [look_put, h j]; rfl
theorem Rep.drop {kv : List (Int × Int)} {m : Fn} {k : Int} (h : Rep kv m) : Rep (dropI kv k) (setM m k none) := fun j => by rw [look_drop, h j]; rfl
/-- the keys of a table, within borders, ascending, with their values -/
def scanM (m : Fn) (lo hi : Int) : List (Int × Int) := (List.range 1000).filterMap fun (i : Nat) => if lo ≤ (i : Int) ∧ (i : Int) < hi then (m i).map fun v => ((i : Int), v) else none
theorem scan_mem {m : Fn} {lo hi : Int} {p : Int × Int} : p ∈ scanM m lo hi ↔ 0 ≤ p.1 ∧ p.1 < 1000 ∧ lo ≤ p.1 ∧ p.1 < hi ∧ m p.1 = some p.2 := by
  unfold scanM
  rw [List.mem_filterMap]
  constructor
  · rintro ⟨i, hi', e⟩
    rw [List.mem_range] at hi'
    split at e
    · rename_i hb
      cases hm : m i with
      | none => rw [hm] at e; cases e
      | some v =>
        rw [hm] at e
        have e := Option.some.inj e
        subst e
        exact ⟨by show (0 : Int) ≤ (i : Int); omega, by show (i : Int) < 1000; omega, hb.1, hb.2, hm⟩
    · cases e
  · rintro ⟨h0, h1, h2, h3, h4⟩
    refine ⟨p.1.toNat, by rw [List.mem_range]; omega, ?_⟩
    have e : ((p.1.toNat : Nat) : Int) = p.1 := by omega
    rw [e, if_pos ⟨h2, h3⟩, h4]; rfl
theorem scan_sorted (m : Fn) (lo hi : Int) : (scanM m lo hi).Pairwise fun p q => p.1 < q.1 := by
  unfold scanM
  rw [List.pairwise_filterMap]
  refine List.Pairwise.imp (R := fun a b => a < b) ?_ List.pairwise_lt_range
  intro a b h x hx y hy
  split at hx
  · split at hy
    · cases ha : m a with
      | none => rw [ha] at hx; cases hx
      | some u =>
        cases hb : m b with
        | none => rw [hb] at hy; cases hy
        | some v =>
          rw [ha] at hx; rw [hb] at hy
          cases hx; cases hy
          show (a : Int) < b; omega
    · cases hy
  · cases hx
/-- two ascending lists with the same members are one -/
theorem asc_unique : ∀ {xs ys : List (Int × Int)}, xs.Pairwise (fun p q => p.1 < q.1) → ys.Pairwise (fun p q => p.1 < q.1) → (∀ p, p ∈ xs ↔ p ∈ ys) → xs = ys
  | [], [], _, _, _ => rfl
  | [], y :: ys, _, _, h => by have := (h y).mpr List.mem_cons_self; cases this
  | x :: xs, [], _, _, h => by have := (h x).mp List.mem_cons_self; cases this
  | x :: xs, y :: ys, hx, hy, h => by
    rw [List.pairwise_cons] at hx hy
    have e : x = y := by
      rcases List.mem_cons.mp ((h x).mp List.mem_cons_self) with e | m1
      · exact e
      · rcases List.mem_cons.mp ((h y).mpr List.mem_cons_self) with e | m2
        · exact e.symm
        · have := hy.1 x m1; have := hx.1 y m2; omega
    subst e
    congr 1
    refine asc_unique hx.2 hy.2 fun p => ?_
    constructor
    · intro hp
      rcases List.mem_cons.mp ((h p).mp (List.mem_cons_of_mem _ hp)) with e | q
      · have := hx.1 p hp; rw [e] at this; omega
      · exact q
    · intro hp
      rcases List.mem_cons.mp ((h p).mpr (List.mem_cons_of_mem _ hp)) with e | q
      · have := hy.1 p hp; rw [e] at this; omega
      · exact q
/-- the rows that a comprehension over the sorted keys gives -/
def rowsOf (kv : List (Int × Int)) (ys : List Int) (lo hi : Int) : List (Int × Int) := ys.filterMap fun k => if lo ≤ k ∧ k < hi then (look kv k).map fun v => (k, v) else none
theorem rows_eq {kv : List (Int × Int)} {m : Fn} {n : Nat} {ys : List Int} {lo hi : Int} (h : TabOk kv n) (r : Rep kv m) (hp : ys.Perm (kv.map (·.1))) (hs : ys.Pairwise (· ≤ ·)) : rowsOf kv ys lo hi = scanM m lo hi := by
  have hnd : ys.Nodup := hp.nodup_iff.mpr h.nd
  have hlt : ys.Pairwise (· < ·) := by
    refine List.Pairwise.imp₂ (R := fun a b => a ≤ b) (S := fun a b => a ≠ b) (fun a b h1 h2 => by omega) hs hnd
  refine asc_unique ?_ (scan_sorted m lo hi) fun p => ?_
  · unfold rowsOf
    rw [List.pairwise_filterMap]
    refine List.Pairwise.imp (R := fun a b => a < b) ?_ hlt
    intro a b h x hx y hy
    split at hx
    · split at hy
      · cases ha : look kv a with
        | none => rw [ha] at hx; cases hx
        | some u =>
          cases hb : look kv b with
          | none => rw [hb] at hy; cases hy
          | some v =>
            rw [ha] at hx; rw [hb] at hy
            cases hx; cases hy
            exact h
      · cases hy
    · cases hx
  · rw [scan_mem]
    unfold rowsOf
    rw [List.mem_filterMap]
    constructor
    · rintro ⟨k, hk, e⟩
      split at e
      · rename_i hb
        cases hm : look kv k with
        | none => rw [hm] at e; cases e
        | some v =>
          rw [hm] at e
          have e := Option.some.inj e
          subst e
          have hk2 := (h.ok _ (look_mem hm)).1
          exact ⟨hk2.1, hk2.2, hb.1, hb.2, by rw [← r k]; exact hm⟩
      · cases e
    · rintro ⟨h0, h1, h2, h3, h4⟩
      have hl : look kv p.1 = some p.2 := by rw [r]; exact h4
      refine ⟨p.1, hp.mem_iff.mpr (List.mem_map_of_mem (f := (·.1)) (look_mem hl)), ?_⟩
      rw [if_pos ⟨h2, h3⟩, hl]; rfl
theorem scal_ov (x y : Option Int) : scal (ov x) (ov y) = true := by cases x <;> cases y <;> rfl
theorem dec_ov (x y : Option Int) : decide (ov x = ov y) = decide (x = y) := by
  refine decide_eq_decide.mpr ⟨fun h => ?_, fun h => h ▸ rfl⟩
  cases x <;> cases y
  · rfl
  · cases h
  · cases h
  · exact congrArg some (V.int.inj h)
theorem ov_get (o : Option Int) : (o.map V.int).getD .non = ov o := by cases o <;> rfl
/-! ### dictionaries by lists of pairs (as for tables) -/
theorem paired_snoc {α β : Type} {F : α → β → Prop} {x : α} {y : β} (h : F x y) : ∀ {xs : List α} {ys : List β}, Paired F xs ys → Paired F (xs ++ [x]) (ys ++ [y])
  | _, _, .nil => .cons h .nil
  | _, _, .cons h' t => .cons h' (paired_snoc h t)
section
variable {α β κ : Type} [DecidableEq α] [DecidableEq κ]
def getA (l : List (α × β)) (a : α) : Option β := (l.find? fun p => decide (p.1 = a)).map (·.2)
def putA (l : List (α × β)) (a : α) (b : β) : List (α × β) := if (l.any fun p => decide (p.1 = a)) = true then l.map (fun p => if p.1 = a then (p.1, b) else p) else l ++ [(a, b)]
def dropA (l : List (α × β)) (a : α) : List (α × β) := l.filter fun p => decide (p.1 ≠ a)
theorem getA_nil {a : α} : getA ([] : List (α × β)) a = none := rfl
theorem getA_pos {p : α × β} {r : List (α × β)} {a : α} (e : p.1 = a) : getA (p :: r) a = some p.2 := by simp [getA, e]
theorem getA_neg {p : α × β} {r : List (α × β)} {a : α} (e : ¬ p.1 = a) : getA (p :: r) a = getA r a := by simp [getA, e]
theorem getA_mem {l : List (α × β)} {a : α} {b : β} (h : getA l a = some b) : (a, b) ∈ l := by
  induction l with
  | nil => cases h
  | cons p r ih =>
    by_cases e : p.1 = a
    · rw [getA_pos e] at h
      have h := Option.some.inj h
      subst e h
      exact List.mem_cons_self
    · rw [getA_neg e] at h; exact List.mem_cons_of_mem _ (ih h)
theorem getA_of {l : List (α × β)} (hn : (l.map (·.1)).Nodup) {p : α × β} (h : p ∈ l) : getA l p.1 = some p.2 := by
  induction l with
  | nil => cases h
  | cons q r ih =>
    rw [List.map_cons, List.nodup_cons] at hn
    rcases List.mem_cons.mp h with rfl | h
    · exact getA_pos rfl
    · rw [getA_neg (fun e => hn.1 (e ▸ List.mem_map_of_mem h)), ih hn.2 h]
theorem getA_none {l : List (α × β)} {a : α} : getA l a = none ↔ a ∉ l.map (·.1) := by
  induction l with
  | nil => simp [getA_nil]
  | cons p r ih =>
    by_cases e : p.1 = a
    · rw [getA_pos e]; simp [e]
    · rw [getA_neg e, ih, List.map_cons, List.mem_cons]
      constructor
      · rintro h (z | z)
        · exact e z.symm
        · exact h z
      · exact fun h z => h (.inr z)
theorem getA_any {l : List (α × β)} {a : α} : (l.any fun p => decide (p.1 = a)) = (getA l a).isSome := by
  induction l with
  | nil => rfl
  | cons p r ih =>
    by_cases e : p.1 = a
    · rw [getA_pos e, List.any_cons, decide_eq_true e]; rfl
    · rw [getA_neg e, List.any_cons, decide_eq_false e, ih]; rfl
theorem putA_keys {l : List (α × β)} {a : α} {b : β} : (putA l a b).map (·.1) = if (getA l a).isSome = true then l.map (·.1) else l.map (·.1) ++ [a] := by
  unfold putA
  rw [getA_any]
  split
  · rw [List.map_map]
    refine List.map_congr_left fun p _ => ?_
    show (if p.1 = a then (p.1, b) else p).1 = p.1
    split <;> rfl
  · rw [List.map_append]; rfl
theorem putA_nodup {l : List (α × β)} {a : α} {b : β} (h : (l.map (·.1)).Nodup) : ((putA l a b).map (·.1)).Nodup := by
  rw [putA_keys]
  split
  · exact h
  · rename_i q
    have : getA l a = none := by cases e : getA l a with
      | none => rfl
      | some x => rw [e] at q; exact (q rfl).elim
    rw [List.nodup_append]
    refine ⟨h, by simp, fun x hx y hy => ?_⟩
    rw [List.mem_singleton.mp hy]
    exact fun z => getA_none.mp this (z ▸ hx)
theorem putA_mem {l : List (α × β)} {a : α} {b : β} {p : α × β} (h : p ∈ putA l a b) : p ∈ l ∨ p = (a, b) := by
  unfold putA at h
  split at h
  · obtain ⟨q, hq, rfl⟩ := List.mem_map.mp h
    by_cases e : q.1 = a
    · rw [if_pos e, e]; exact .inr rfl
    · rw [if_neg e]; exact .inl hq
  · rcases List.mem_append.mp h with m | m
    · exact .inl m
    · exact .inr (List.mem_singleton.mp m)
theorem putA_len {l : List (α × β)} {a : α} {b : β} : (putA l a b).length ≤ l.length + 1 := by
  unfold putA
  split
  · rw [List.length_map]; omega
  · rw [List.length_append]; exact Nat.le_refl _
theorem getA_map {a c : α} {b : β} : ∀ l : List (α × β), getA (l.map fun p => if p.1 = a then (p.1, b) else p) c = (getA l c).map fun x => if c = a then b else x
  | [] => rfl
  | p :: r => by
    have ih := getA_map (a := a) (c := c) (b := b) r
    rw [List.map_cons]
    by_cases h : p.1 = a
    · rw [if_pos h]
      by_cases e : p.1 = c
      · rw [getA_pos (p := (p.1, b)) e, getA_pos e, Option.map_some, if_pos (e.symm.trans h)]
      · rw [getA_neg (p := (p.1, b)) e, getA_neg e, ih]
    · rw [if_neg h]
      by_cases e : p.1 = c
      · rw [getA_pos e, getA_pos e, Option.map_some, if_neg (fun z => h (e.trans z))]
      · rw [getA_neg e, getA_neg e, ih]
theorem getA_snoc {a c : α} {b : β} : ∀ l : List (α × β), getA l a = none → getA (l ++ [(a, b)]) c = if c = a then some b else getA l c
  | [], _ => by
    by_cases e : a = c
    · rw [if_pos e.symm]; exact getA_pos (p := (a, b)) e
    · rw [if_neg (fun z => e z.symm)]; exact getA_neg (p := (a, b)) e
  | p :: r, h => by
    have hk : ¬ p.1 = a := fun z => by rw [getA_pos z] at h; cases h
    rw [getA_neg hk] at h
    rw [List.cons_append]
    by_cases e : p.1 = c
    · rw [getA_pos e, getA_pos e, if_neg (fun z => hk (e.trans z))]
    · rw [getA_neg e, getA_neg e, getA_snoc r h]
theorem getA_put {l : List (α × β)} {a c : α} {b : β} : getA (putA l a b) c = if c = a then some b else getA l c := by
  unfold putA
  rw [getA_any]
  cases e : getA l a with
  | some x =>
    rw [if_pos (show (some x).isSome = true from rfl), getA_map]
    by_cases q : c = a
    · subst q; rw [if_pos rfl, e, Option.map_some, if_pos rfl]
    · rw [if_neg q]
      cases getA l c with
      | none => rfl
      | some y => rw [Option.map_some, if_neg q]
  | none => rw [if_neg (by simp), getA_snoc l e]
theorem dropA_mem {l : List (α × β)} {a : α} {p : α × β} : p ∈ dropA l a ↔ p ∈ l ∧ p.1 ≠ a := by
  unfold dropA
  rw [List.mem_filter, decide_eq_true_iff]
theorem dropA_nodup {l : List (α × β)} {a : α} (h : (l.map (·.1)).Nodup) : ((dropA l a).map (·.1)).Nodup := h.sublist (List.filter_sublist.map _)
theorem dropA_len {l : List (α × β)} {a : α} : (dropA l a).length ≤ l.length := List.length_filter_le _ _
/-- a dict -/
def DcAt (enc : α → κ) (F : V → β → Prop) (kv : List (κ × V)) (l : List (α × β)) : Prop := Paired (fun (e : κ × V) (p : α × β) => e.1 = enc p.1 ∧ F e.2 p.2) kv l
variable {enc : α → κ} {F : V → β → Prop} {kv : List (κ × V)} {l : List (α × β)} {a : α} {b : β} {v : V}
theorem DcAt.len (h : DcAt enc F kv l) : kv.length = l.length := Paired.length h
theorem DcAt.keys (h : DcAt enc F kv l) : kv.map (·.1) = (l.map (·.1)).map enc := by
  induction h with
  | nil => rfl
  | cons f _ ih => rw [List.map_cons, List.map_cons, List.map_cons, ih, f.1]
theorem DcAt.get (inj : ∀ x y, enc x = enc y → x = y) (h : DcAt enc F kv l) (a : α) : (getA l a = none ∧ valV kv (enc a) = none) ∨ ∃ b v, getA l a = some b ∧ valV kv (enc a) = some v ∧ F v b := by
  induction h with
  | nil => exact .inl ⟨rfl, rfl⟩
  | @cons e p kv l f t ih =>
    by_cases q : p.1 = a
    · exact .inr ⟨p.2, e.2, getA_pos q, valV_pos (f.1.trans (congrArg enc q)), f.2⟩
    · rw [getA_neg q, valV_neg (fun z => q (inj _ _ (f.1.symm.trans z)))]
      exact ih
theorem DcAt.any (inj : ∀ x y, enc x = enc y → x = y) (h : DcAt enc F kv l) (a : α) : (valV kv (enc a)).isSome = (getA l a).isSome := by
  rcases h.get inj a with ⟨h1, h2⟩ | ⟨b, v, h1, h2, _⟩
  · rw [h1, h2]; rfl
  · rw [h1, h2]; rfl
theorem DcAt.put (inj : ∀ x y, enc x = enc y → x = y) (h : DcAt enc F kv l) (hv : F v b) : DcAt enc F (putK kv (enc a) v) (putA l a b) := by
  unfold putK putA
  rw [valV_any, getA_any, h.any inj a]
  split
  · rename_i hs
    clear hs
    unfold DcAt
    induction h with
    | nil => exact .nil
    | @cons e p kv l f t ih =>
      refine .cons ?_ ih
      show (if e.1 = enc a then (e.1, v) else e).1 = enc (if p.1 = a then (p.1, b) else p).1 ∧ F (if e.1 = enc a then (e.1, v) else e).2 (if p.1 = a then (p.1, b) else p).2
      by_cases q : p.1 = a
      · rw [if_pos (f.1.trans (congrArg enc q)), if_pos q]; exact ⟨f.1, hv⟩
      · rw [if_neg (fun z => q (inj _ _ (f.1.symm.trans z))), if_neg q]; exact f
  · exact paired_snoc ⟨rfl, hv⟩ h
theorem DcAt.drop (inj : ∀ x y, enc x = enc y → x = y) (h : DcAt enc F kv l) : DcAt enc F (dropK kv (enc a)) (dropA l a) := by
  unfold dropK dropA DcAt
  induction h with
  | nil => exact .nil
  | @cons e p kv l f t ih =>
    by_cases q : p.1 = a
    · have q2 := f.1.trans (congrArg enc q)
      rw [List.filter_cons_of_neg (by simpa using q2), List.filter_cons_of_neg (by simpa using q)]
      exact ih
    · have q2 : e.1 ≠ enc a := fun z => q (inj _ _ (f.1.symm.trans z))
      rw [List.filter_cons_of_pos (by simpa using q2), List.filter_cons_of_pos (by simpa using q)]
      exact .cons f ih
theorem DcAt.mono {F' : V → β → Prop} (h : DcAt enc F kv l) (g : ∀ v b, F v b → F' v b) : DcAt enc F' kv l := L2.Paired.mapP h fun _ _ f => ⟨f.1, g _ _ f.2⟩
end

theorem inl_inj (x y : Int) (h : (Sum.inl x : Key) = Sum.inl y) : x = y := Sum.inl.inj h
theorem putA_new {α β : Type} [DecidableEq α] {l : List (α × β)} {a : α} {b : β} (h : getA l a = none) : putA l a b = l ++ [(a, b)] := by
  unfold putA
  rw [getA_any, h, if_neg (by simp)]
theorem getA_take {α β : Type} [DecidableEq α] {l : List (α × β)} (hn : (l.map (·.1)).Nodup) {i : Nat} {x : α × β} (hi : l[i]? = some x) : getA (l.take i) x.1 = none := by
  rw [getA_none]
  intro m
  obtain ⟨y, hy, e⟩ := List.mem_map.mp m
  obtain ⟨k, hk, rfl⟩ := List.mem_take_iff_getElem.mp hy
  have li := (List.getElem?_eq_some_iff.mp hi).1
  have e2 : l[i] = x := (List.getElem?_eq_some_iff.mp hi).2
  have e3 : (l.map (·.1))[k]'(by rw [List.length_map]; omega) = (l.map (·.1))[i]'(by rw [List.length_map]; exact li) := by
    rw [List.getElem_map, List.getElem_map, e2]; exact e
  have := (List.getElem_inj (h₀ := by rw [List.length_map]; omega) (h₁ := by rw [List.length_map]; exact li) hn).mp e3
  omega
def ForKyT (g : TG) (t : TS) (D : Ends) (σ : L2.St) (x : V) (H1 : Hp) : Prop := ∃ d o, x = .ref d ∧
  ((∃ kvs, H1 d = some (.frz o (.dK kvs)) ∧ ∃ W : Nat → Nat → L2.St → Hp → Prop, (∃ m, W 0 m σ H1) ∧ ∀ i m σ H, W i m σ H →
  ((Itk d o kvs).stop i H ∧ D.nx σ H) ∨ ((Itk d o kvs).go i H ∧ ∃ N : L2.St → Hp → Prop, (∀ σ' H', N σ' H' → ∃ m', m' < m ∧ W (i + 1) m' σ' H') ∧ ∀ x H', (Itk d o kvs).yld i H x H' → g x σ H' fun σ2 H2 => t { D with nx := N, ct := N, bk := D.nx } σ2 H2)) ∨
  ∃ kvs, H1 d = some (.frz o (.dT kvs)) ∧ ∃ W : Nat → Nat → L2.St → Hp → Prop, (∃ m, W 0 m σ H1) ∧ ∀ i m σ H, W i m σ H →
  ((Itkt d o kvs).stop i H ∧ D.nx σ H) ∨ ((Itkt d o kvs).go i H ∧ ∃ N : L2.St → Hp → Prop, (∀ σ' H', N σ' H' → ∃ m', m' < m ∧ W (i + 1) m' σ' H') ∧ ∀ x H', (Itkt d o kvs).yld i H x H' → g x σ H' fun σ2 H2 => t { D with nx := N, ct := N, bk := D.nx } σ2 H2))
theorem w_forKyTe {td : TE} {g : TG} {t : TS} {D : Ends} {σ : L2.St} {H : Hp} (h : td σ H fun x H1 => ForKyT g t D σ x H1) : tFor (iKeys td) g t D σ H := h
local macro_rules
  | `(tactic| walk_at "v") => `(tactic| with_reducible refine w_forKyTe ?_)
theorem w_forKyTM {H : Hp} {d : Addr} {o : Obj} {kvs : List (List Key × V)} {g : TG} {t : TS} {D : Ends} {σ : L2.St} (hx : H d = some (.frz o (.dT kvs))) (Pv : Nat → L2.St → Hp → Prop) (h0 : Pv 0 σ H) (hl : ∀ i σ H, Pv i σ H → H d = some (.frz o (.dT kvs)))
    (hs : ∀ i q k v σ H1, kvs[i]? = some (k, v) → H1 q = some (.tup (k.map kV)) → Pv i σ H1 → g (.ref q) σ H1 fun σ2 H2 => t { D with nx := Pv (i + 1), ct := Pv (i + 1), bk := D.nx } σ2 H2) (hd : ∀ σ H1, Pv kvs.length σ H1 → D.nx σ H1) : ForKyT g t D σ (.ref d) H := by
  refine ⟨d, o, rfl, .inr ⟨kvs, hx, for_it walk_keysT Pv h0 (fun i σ H _ p => hl i σ H p) ?_ hd⟩⟩
  rintro i x σ H H' hi p ⟨rfl, k, v, q, hkv, rfl, hq⟩
  exact hs i q k v σ _ hkv hq p
theorem w_forKyKM {H : Hp} {d : Addr} {o : Obj} {kvs : List (Key × V)} {g : TG} {t : TS} {D : Ends} {σ : L2.St} (hx : H d = some (.frz o (.dK kvs))) (Pv : Nat → L2.St → Hp → Prop) (h0 : Pv 0 σ H) (hl : ∀ i σ H, Pv i σ H → H d = some (.frz o (.dK kvs)))
    (hs : ∀ i k v σ H1, kvs[i]? = some (k, v) → Pv i σ H1 → g (kV k) σ H1 fun σ2 H2 => t { D with nx := Pv (i + 1), ct := Pv (i + 1), bk := D.nx } σ2 H2) (hd : ∀ σ H1, Pv kvs.length σ H1 → D.nx σ H1) : ForKyT g t D σ (.ref d) H := by
  refine ⟨d, o, rfl, .inl ⟨kvs, hx, for_it walk_keys Pv h0 (fun i σ H _ p => hl i σ H p) ?_ hd⟩⟩
  rintro i x σ H H' hi p ⟨rfl, k, v, hkv, rfl⟩
  exact hs i k v σ _ hkv p
/-! ### what may raise, called where it cannot -/
def calmS (sp : Sp) : Sp := fun vs H Q _ => sp vs H Q E0
section
variable {P : Program} {w : World} {K : PySem.W.Frag} {mg : Str → Option Value} {base : Heap} {k n : Nat} {f C : Addr} {fd : FuncData} {ps : List Str} {sp : Sp} {x m kw : Str} {kv : V}
theorem fn_calm (F : FnOk P w K mg base (L2.CX P w) k f fd ps sp) : FnOk P w K mg base CX0 k f fd ps (calmS sp) :=
  ⟨fun vs H Q E h => F.len vs H Q E0 h, fun A outer s H args us vs Q E hr he hb hv hs => codeAny_mono (F.run A outer s H args us vs Q E0 hr he hb hv hs) fun r s' q => by
    cases r with
    | error e =>
      obtain ⟨_, _, _, _, _, _, _, _, _, _, _, _, z⟩ := (show L2.CX P w outer H s E0 e s' from q)
      exact z.elim
    | ok fl => cases fl <;> exact q⟩
theorem Cal.calm (c : Cal P w K mg base (L2.CX P w) k x sp) : Cal P w K mg base CX0 k x (calmS sp) := by
  obtain ⟨f, fd, ps, F, a, b, d⟩ := c.ex
  exact ⟨f, fd, ps, fn_calm F, a, b, d⟩
theorem CalM.calm (c : CalM P w K mg base (L2.CX P w) k C m sp) : CalM P w K mg base CX0 k C m (calmS sp) := by
  obtain ⟨f, fd, ps, F, a, b⟩ := c.ex
  exact ⟨f, fd, ps, fn_calm F, a, b⟩
theorem w_sxc {α : Type} {pre : α → List V → Hp → Hp → Prop} {post : α → Hp → Hp → V → Hp → Hp → Prop} {exc : α → Hp → Hp → Addr → Hp → Hp → Prop} {vs : List V} {M G H : Hp} {Q : VK} {E : XK} (a : α) (j : J M G H) (hp : pre a vs M G)
    (k : ∀ v M' G' H', J M' G' H' → Ex G G' → post a M G v M' G' → Q v H') (kx : ∀ C M' G' H', J M' G' H' → Ex G G' → exc a M G C M' G' → False) : calmS (Sx pre post exc) vs H Q E := ⟨a, M, G, j, hp, k, kx⟩
end
/-! ### while -/
def Below (W : Nat → L2.St → Hp → Prop) (m : Nat) (σ : L2.St) (H : Hp) : Prop := ∃ m', m' < m ∧ W m' σ H
theorem w_while {c : TT} {tb : TS} {D : Ends} {σ : L2.St} {H : Hp} (W : Nat → L2.St → Hp → Prop) (m : Nat) (h0 : W m σ H)
    (hs : ∀ m σ H (R : Bool → Hp → Prop), W m σ H → (∀ b H1, (if b = true then tb { D with nx := Below W m, ct := Below W m, bk := D.nx } σ H1 else D.nx σ H1) → R b H1) → c σ H R) : tWhile c tb D σ H :=
  ⟨W, ⟨m, h0⟩, fun m σ H w => hs m σ H _ w fun b H1 q => by
    cases b with
    | true => rw [if_pos rfl] at q ⊢; exact ⟨_, fun σ' H' x => x, q⟩
    | false => rw [if_neg Bool.false_ne_true] at q ⊢; exact q⟩
/-! ### try .. except X: without a name, truth of a list, o.f += n -/
def tTryO (K : PySem.W.Frag) (c : Value) (tb : WX → TS) (ts : Addr → Value → Option Addr → TS) (Wout : WX) : TS := fun D σ H => tb (wOnly K c ts Wout D) D σ H
theorem w_tryO {K : PySem.W.Frag} {c : Value} {tb : WX → TS} {ts : Addr → Value → Option Addr → TS} {Wout : WX} {D : Ends} {σ : L2.St} {H : Hp} (h : tb (wOnly K c ts Wout D) D σ H) : tTryO K c tb ts Wout D σ H := h
theorem ps_tryO {X : Cx} {x : Str} {c : Value} {body suite : List Stmt} {b₀ : Stmt} {np pos pos' : Pos} {tb : WX → TS} {ts : Addr → Value → Option Addr → TS} {Wout : WX} (hs : X.stack = X.env :: X.outer) (hf : X.env.frame = some X.env.locals) (hc : Names X x c) (tk : Takes X Wout)
    (hb : ∀ (W : WX) (pn : List (Addr × Obj)) (xe : Value → Shared → Prop), Takes (X.tr pn xe) W → PassesOwn (model X.prog X.w) X.A X.env xe → PSs (X.tr pn xe) body (tb W))
    (hsu : ∀ (a : Addr) (oe : Obj) (cls : Value) (d : Option Addr) (pn : List (Addr × Obj)), Zc cls d oe → (∃ vs, oe.data = .fields vs) → PSs (X.suite a ((a, oe) :: pn)) (b₀ :: suite) (ts a cls d)) :
    PS X (.Try body [.ExceptHandler (some (.Name x np)) none (b₀ :: suite) pos'] [] [] pos) (tTryO X.K c tb ts Wout) := ps_try_only hs hf hc tk hb hsu
theorem w_caughtO {K : PySem.W.Frag} {c : Value} {C : Addr} {ts : Addr → Value → Option Addr → TS} {Wout : WX} {D : Ends} {σ : L2.St} {H : Hp} (e : PySem.W.exmOne K (.ref C) c = some true) (h : ∀ a, H a = none → ts a (.ref C) none D σ H) : wOnly K c ts Wout D (.ref C) none σ H :=
  ⟨true, e, fun _ => h, fun q => Bool.noConfusion q⟩
/-- truth -/
def TruX (K : PySem.W.Frag) (x : V) (H : Hp) (Q : Bool → Hp → Prop) : Prop := ∃ k, TruV K x H k ∧ Q k H
def tTruV (K : PySem.W.Frag) (ta : TE) : TT := fun σ H Q => ta σ H fun x H' => TruX K x H' Q
theorem pt_truV {X : Cx} {K : PySem.W.Frag} {a : Expr} {ta : TE} (hK : X.K = K) (ha : PE X a ta) (he : ∀ whole, isTrue a X.env whole = (do let v ← whole; standAt a.pos; holding [v] (truthy v)) := by intro _; rfl) : PT X a (tTruV K ta) := by
  subst hK; exact pt_truth ha he
theorem w_tru {K : PySem.W.Frag} {ta : TE} {σ : L2.St} {H : Hp} {Q : Bool → Hp → Prop} (h : ta σ H fun x H' => TruX K x H' Q) : tTruV K ta σ H Q := h
theorem w_truL {K : PySem.W.Frag} {M G H : Hp} {a : Addr} {xs : List V} {Q : Bool → Hp → Prop} (j : J M G H) (h : SqL K G a xs) (q : Q (!xs.isEmpty) H) : TruX K (.ref a) H Q := ⟨_, .inl ⟨xs, sl_mono j.g h, rfl⟩, q⟩
theorem w_truB {K : PySem.W.Frag} {H : Hp} {b : Bool} {Q : Bool → Hp → Prop} (q : Q b H) : TruX K (.bl b) H Q := ⟨_, rfl, q⟩
/-- o.f += n -/
def AugX (K : PySem.W.Frag) (f : Str) (tv : TE) (D : Ends) (σ : L2.St) (x : V) (H1 : Hp) : Prop := ∃ a C dx fs v, x = .ref a ∧ H1 a = some (.ins C dx fs) ∧ Cls K C ∧ NoAttr K C f ∧ fs.lookup f = some v ∧
  tv σ H1 fun y H2 => rAdd v y H2 fun z H3 => ∃ dx' fs', H3 a = some (.ins C dx' fs') ∧ fs'.length < 1000 ∧ D.nx σ (upd H3 a (.ins C dx' (putF f z fs')))
theorem w_sfa {K : PySem.W.Frag} {ta tv : TE} {f : Str} {D : Ends} {σ : L2.St} {H : Hp} (h : ta σ H fun x H1 => AugX K f tv D σ x H1) : sFldAug K ta tv rAdd f D σ H := h
/-- the object and its field stand as they were when the number is added -/
def AugE (D : Ends) (σ : L2.St) (a C dx : Addr) (fs : List (Str × V)) (f : Str) (i : Int) (y : V) (H2 : Hp) : Prop := ∃ k M2 G2, y = .int k ∧ J M2 G2 H2 ∧ M2 a = some (.ins C dx fs) ∧ ∀ H', J (upd M2 a (.ins C dx (putF f (.int (i + k)) fs))) G2 H' → D.nx σ H'
theorem w_augX {K : PySem.W.Frag} {M G H : Hp} {a C dx : Addr} {fs : List (Str × V)} {f : Str} {i : Int} {tv : TE} {D : Ends} {σ : L2.St} (j : J M G H) (h : M a = some (.ins C dx fs)) (c : Cls K C) (n : NoAttr K C f) (l : fs.lookup f = some (.int i)) (z : fs.length < 1000)
    (hm : ∀ Q Q' : VK, (∀ v H, Q v H → Q' v H) → tv σ H Q → tv σ H Q') (q : tv σ H (AugE D σ a C dx fs f i)) : AugX K f tv D σ (.ref a) H :=
  ⟨a, C, dx, fs, .int i, rfl, j.m _ _ h, c, n, l, hm _ _ (fun y H2 ⟨k, M2, G2, e, j2, h2, q2⟩ => ⟨i, k, rfl, e, dx, fs, j2.m _ _ h2, z, q2 _ (j2.put h2)⟩) q⟩
/-- .. by steps: the continuation is a letter -/
theorem w_augK {K : PySem.W.Frag} {M G H : Hp} {a C dx : Addr} {fs : List (Str × V)} {f : Str} {i : Int} {tv : TE} {D : Ends} {σ : L2.St} (j : J M G H) (h : M a = some (.ins C dx fs)) (c : Cls K C) (n : NoAttr K C f) (l : fs.lookup f = some (.int i)) (z : fs.length < 1000)
    (q : ∀ R : VK, (∀ y H2, AugE D σ a C dx fs f i y H2 → R y H2) → tv σ H R) : AugX K f tv D σ (.ref a) H :=
  ⟨a, C, dx, fs, .int i, rfl, j.m _ _ h, c, n, l, q _ fun y H2 ⟨k, M2, G2, e, j2, h2, q2⟩ => ⟨i, k, rfl, e, dx, fs, j2.m _ _ h2, z, q2 _ (j2.put h2)⟩⟩
local macro_rules
  | `(tactic| walk_at "v") => `(tactic| first
    | with_reducible refine w_tryO ?_
    | with_reducible refine w_tru ?_
    | with_reducible refine w_sfa ?_)
theorem w_seqO {t : TS} {u : TS} {D : Ends} {σ : L2.St} {H : Hp} (Pm : L2.St → Hp → Prop) (rest : ∀ σ H, Pm σ H → u D σ H) (first : ∀ N : L2.St → Hp → Prop, (∀ σ H, Pm σ H → N σ H) → t { D with nx := N } σ H) : tSeq t u D σ H := first _ rest
/-! ### an __init__ with a default; a method with one keyword-only parameter -/
structure Did (K : PySem.W.Frag) (C : Addr) (q : Str) (st : Stmt) (ps : List Str) (dvs : List V) (f : Addr) (fd : FuncData) : Prop where
  fn : FunD K "__init__" q (defArgs st) (defBody st) (defScope st) dvs [] f fd
  mke : Mk K C f
  bn : Binds K fd ps []
  bd : ∃ ds, Vals dvs ds ∧ Binds K fd ps ds
structure CalID (P : Program) (w : World) (K : PySem.W.Frag) (mg : Str → Option Value) (base : Heap) (CX : CXT) (k : Nat) (C : Addr) (dvs : List V) (sp : Sp) : Prop where
  ex : ∃ (f : Addr) (fd : FuncData) (ps : List Str) (ds : List Value), FnOk P w K mg base CX k f fd ps sp ∧ Mk K C f ∧ Binds K fd ps [] ∧ Vals dvs ds ∧ Binds K fd ps ds
structure Dmk (K : PySem.W.Frag) (C : Addr) (m q : Str) (st : Stmt) (ps : List Str) (n : Nat) (kw : Str) (kv : V) (f : Addr) (fd : FuncData) : Prop where
  fn : Fun K m q st f fd
  me : Meth K C m f
  bd : ∃ ds, Vals [kv] ds ∧ Binds K fd ps ds
  bk : KBn K fd ps n [kw] (fun us ws => us ++ ws) (fun vs zs => vs ++ zs)
structure CalMK (P : Program) (w : World) (K : PySem.W.Frag) (mg : Str → Option Value) (base : Heap) (CX : CXT) (k : Nat) (C : Addr) (m : Str) (n : Nat) (kw : Str) (kv : V) (sp : Sp) : Prop where
  ex : ∃ (f : Addr) (fd : FuncData) (ps : List Str) (ds : List Value), FnOk P w K mg base CX k f fd ps sp ∧ Meth K C m f ∧ Vals [kv] ds ∧ Binds K fd ps ds ∧ KBn K fd ps n [kw] (fun us ws => us ++ ws) (fun vs zs => vs ++ zs)
section
variable {P : Program} {w : World} {K : PySem.W.Frag} {mg : Str → Option Value} {base : Heap} {C : Addr} {m q : Str} {st : Stmt} {ps : List Str} {f pf : Addr} {fd : FuncData} {N : List Str} {k n : Nat} {sp : Sp} {dvs : List V} {kw : Str} {kv : V}
theorem Did.ok (D : Did K C q st ps dvs f fd) (S : FnScope N ps (defScope st)) (len : ∀ vs H Q E, sp vs H Q E → vs.length = ps.length)
    (hbody : ∀ (cdv : Value) (A : Around) (outer : List Env) (s : Shared) (H : Hp) (vs : List V) (Q : VK) (E : XK), Room k (A.deeper (envOfC q (defScope st) s.heap.objs.size f cdv)) → sp vs H Q E →
      ∃ t, PSs (cxOf CX0 P w K mg base N q (defScope st) f cdv A outer s H E).nox (defBody st) t ∧ t { nx := fun _ H' => Q .non H', rt := Q } (start N vs) H) : CalID P w K mg base CX0 (k + 1) C dvs sp := by
  obtain ⟨ds, v, b⟩ := D.bd
  refine ⟨f, fd, ps, ds, D.fn.ok S len fun cdv A outer s H vs Q E hr h => ?_, D.mke, D.bn, v, b⟩
  obtain ⟨t, h1, h2⟩ := hbody cdv A outer s H vs Q E hr h
  exact ⟨t, h1.nox, h2⟩
theorem Dmk.ok (D : Dmk K C m q st ps n kw kv f fd) (S : FnScope N ps (defScope st)) (len : ∀ vs H Q E, sp vs H Q E → vs.length = ps.length)
    (hbody : ∀ (cdv : Value) (A : Around) (outer : List Env) (s : Shared) (H : Hp) (vs : List V) (Q : VK) (E : XK), Room k (A.deeper (envOfC q (defScope st) s.heap.objs.size f cdv)) → sp vs H Q E →
      ∃ t, PSs (cxOf CX0 P w K mg base N q (defScope st) f cdv A outer s H E).nox (defBody st) t ∧ t { nx := fun _ H' => Q .non H', rt := Q } (start N vs) H) : CalMK P w K mg base CX0 (k + 1) C m n kw kv sp := by
  obtain ⟨ds, v, b⟩ := D.bd
  exact ⟨f, fd, ps, ds, D.fn.ok S len hbody, D.me, v, b, D.bk⟩
theorem Dmk.okX (D : Dmk K C m q st ps n kw kv f fd) (S : FnScope N ps (defScope st)) (len : ∀ vs H Q E, sp vs H Q E → vs.length = ps.length)
    (hbody : ∀ (cdv : Value) (A : Around) (outer : List Env) (s : Shared) (H : Hp) (vs : List V) (Q : VK) (E : XK), Room k (A.deeper (envOfC q (defScope st) s.heap.objs.size f cdv)) → sp vs H Q E →
      ∃ t, PSs (cxOf (L2.CX P w) P w K mg base N q (defScope st) f cdv A outer s H E) (defBody st) t ∧ t { nx := fun _ H' => Q .non H', rt := Q } (start N vs) H) : CalMK P w K mg base (L2.CX P w) (k + 1) C m n kw kv sp := by
  obtain ⟨ds, v, b⟩ := D.bd
  exact ⟨f, fd, ps, ds, D.fn.okX S len hbody, D.me, v, b, D.bk⟩
/-- the two ways to bind an __init__ whose last parameter has a default -/
theorem did_mk {oc : Value} {od an : Option Addr} {osl : Array (Option Value)} {kV doc pm cdv ct : Value} {T : Addr} {o : Obj} {its : List Value} {nn : Nat} (l : K.lookup f = some ⟨oc, od, .func (PySem.W.fnOf "__init__" q (defArgs st) (defBody st) (defScope st) (.ref T) kV doc pm an cdv ct), osl⟩)
    (c : PySem.W.codeIn K cdv q = true) (k : PySem.W.keepIn K (.ref f) = true) (lT : K.lookup T = some o) (hd : o.data = .seq its.toArray nn) (ne : dvs ≠ []) (hv : Vals dvs its) (mke : Mk K C f)
    (hn : n + dvs.length = ps.length)
    (h1 : ∀ (T : Addr) (kV doc pm : Value) (an : Option Addr) (cdv ct : Value) (us its : List Value), us.length = ps.length → its.length = dvs.length →
      ∃ k, bindArgs (PySem.W.fnOf "__init__" q (defArgs st) (defBody st) (defScope st) (.ref T) kV doc pm an cdv ct) ⟨us, []⟩ = seqItems? (.ref T) >>= k ∧ k (some its.toArray) = pure (ps.zip (us ++ its.drop dvs.length)))
    (h0 : ∀ (T : Addr) (kV doc pm : Value) (an : Option Addr) (cdv ct : Value) (us its : List Value), us.length = n → its.length = dvs.length →
      ∃ k, bindArgs (PySem.W.fnOf "__init__" q (defArgs st) (defBody st) (defScope st) (.ref T) kV doc pm an cdv ct) ⟨us, []⟩ = seqItems? (.ref T) >>= k ∧ k (some its.toArray) = pure (ps.zip (us ++ its.drop 0))) :
    Did K C q st ps dvs f (PySem.W.fnOf "__init__" q (defArgs st) (defBody st) (defScope st) (.ref T) kV doc pm an cdv ct) := by
  have F : FunD K "__init__" q (defArgs st) (defBody st) (defScope st) dvs [] f (PySem.W.fnOf "__init__" q (defArgs st) (defBody st) (defScope st) (.ref T) kV doc pm an cdv ct) :=
    ⟨⟨oc, od, .ref T, kV, doc, pm, an, cdv, ct, osl, rfl, l, c, .inr ⟨ne, T, o, its, nn, rfl, lT, hd, hv⟩, .inl rfl⟩, k⟩
  refine ⟨F, mke, ?_, ?_⟩
  · obtain ⟨ds, v, b⟩ := F.binds1 (ps := ps) ps.length dvs.length ne (by omega) h1
    rw [List.drop_length] at v
    cases v
    exact b
  · obtain ⟨ds, v, b⟩ := F.binds1 (ps := ps) n 0 ne (by omega) h0
    exact ⟨ds, v, b⟩
/-- .. of a method whose only default is that of its keyword-only parameter -/
theorem dmk_mk {oc : Value} {od an : Option Addr} {osl : Array (Option Value)} {doc pm cdv ct : Value} {D : Addr} {u : Value} (l : K.lookup f = some ⟨oc, od, .func (PySem.W.fnOf m q (defArgs st) (defBody st) (defScope st) .none (.ref D) doc pm an cdv ct), osl⟩)
    (c : PySem.W.codeIn K cdv q = true) (k : PySem.W.keepIn K (.ref f) = true) (hD : PySem.W.nsIn K D kw = some (some u)) (hu : RelV kv u) (me : Meth K C m f) (hps : n + 1 = ps.length)
    (h : ∀ (D : Addr) (doc pm : Value) (an : Option Addr) (cdv ct : Value) (us : List Value) (x : Value), us.length = n → KwChain D [(kw, x)] (bindArgs (PySem.W.fnOf m q (defArgs st) (defBody st) (defScope st) .none (.ref D) doc pm an cdv ct) ⟨us, []⟩) (ps.zip (us ++ [x])))
    (h2 : ∀ (D : Addr) (doc pm : Value) (an : Option Addr) (cdv ct : Value) (us : List Value) (x : Value), us.length = n → bindArgs (PySem.W.fnOf m q (defArgs st) (defBody st) (defScope st) .none (.ref D) doc pm an cdv ct) ⟨us, [(kw, x)]⟩ = pure (ps.zip (us ++ [x]))) :
    Dmk K C m q st ps n kw kv f (PySem.W.fnOf m q (defArgs st) (defBody st) (defScope st) .none (.ref D) doc pm an cdv ct) := by
  have F : FunD K m q (defArgs st) (defBody st) (defScope st) [] [(kw, kv)] f (PySem.W.fnOf m q (defArgs st) (defBody st) (defScope st) .none (.ref D) doc pm an cdv ct) :=
    ⟨⟨oc, od, .none, .ref D, doc, pm, an, cdv, ct, osl, rfl, l, c, .inl ⟨rfl, rfl⟩, .inr ⟨D, rfl, fun p hp => by cases List.mem_singleton.mp hp; exact ⟨u, hD, hu⟩⟩⟩, k⟩
  refine ⟨⟨⟨oc, od, .ref D, doc, pm, an, cdv, ct, osl, rfl, l, c⟩, k⟩, me, ?_, ?_⟩
  · exact F.binds0 (ps := ps) n (fun z => by cases z) hps fun D doc pm an cdv ct us ks h1 h2 => match ks, h2 with
      | [x], _ => h D doc pm an cdv ct us x h1
  · refine ⟨fun s us ws X l1 l2 => ?_, fun r1 r2 => r1.append r2⟩
    match ws, l2 with
    | [x], _ => exact BindsTo.of_eq (h2 D doc pm an cdv ct us x l1)
end
/-- o.m(e, .., k = v) -/
def tMethK (C : Addr) (m : Str) (n : Nat) (sp : Sp) (E : XK) (ta : TE) (t tk : TA) : TE := fun σ H Q => ta σ H fun x H1 => ∃ a dx fs, x = .ref a ∧ H1 a = some (.ins C dx fs) ∧ fs.lookup m = none ∧
  t σ H1 fun vs H2 => tk σ H2 fun zs H3 => vs.length + 1 = n ∧ zs.length = 1 ∧ sp ((x :: vs) ++ zs) H3 Q E
section
variable {X : Cx} {k j n : Nat} {C : Addr} {m x kw : Str} {kv : V} {dvs : List V} {sp : Sp} {p pos apos : Pos} {o e : Expr} {es : List Expr} {kws : List Keyword} {ta : TE} {t tk : TA}
theorem pe_calID (c : CalID X.prog X.w X.K X.mg X.base CX0 k C dvs sp) (gC : X.mg x = some (.ref C)) (hr : Room j X.A) (hk : k + 1 ≤ j) (hg : Gl X x) (ha : PA X (e :: es) t)
    (hdb : (x == ("__debug__" : Str)) = false := by decide) (he : starEach (e :: es) X.env = (false, eval e X.env) :: starEach es X.env := by rfl) (hpl : (backTo pos (starEach es X.env)).any (·.1) = false := by rfl) :
    PE X (.Call (.Name x p) (e :: es) [] pos) (tMake C sp [] E0 t) := by
  obtain ⟨f, fd, ps, ds, F, mk, b, _, _⟩ := c.ex
  exact pe_make mk F (hr.mono hk) hg gC b .nil pass0 ha hdb he hpl
theorem pe_calID0 (c : CalID X.prog X.w X.K X.mg X.base CX0 k C dvs sp) (gC : X.mg x = some (.ref C)) (hr : Room j X.A) (hk : k + 1 ≤ j) (hg : Gl X x)
    (hdb : (x == ("__debug__" : Str)) = false := by decide) : PE X (.Call (.Name x p) [] [] pos) (tMake C sp dvs E0 tNil) := by
  obtain ⟨f, fd, ps, ds, F, mk, _, v, b⟩ := c.ex
  exact pe_make0 mk F (hr.mono hk) hg gC b v pass0 hdb
theorem pe_calMKd (c : CalMK X.prog X.w X.K X.mg X.base CX0 k C m n kw kv sp) (cl : Cls X.K C) (hr : Room j X.A) (hk : k ≤ j) (ho : PE X o ta) (ha : PA X (e :: es) t) {pl : Sem Bool}
    (hst : starEach (e :: es) X.env = (false, eval e X.env) :: starEach es X.env := by rfl) (hpl : (backTo pos (starEach es X.env)).any (·.1) = false := by rfl)
    (ht : eval (.Call (.Attribute o m apos) (e :: es) [] pos) X.env = (do
      let ov ← eval o X.env
      standAt apos.atName
      let (f, first) ← holding [ov] (getMethod ov m pl)
      callWith pos f first (backTo pos (starEach (e :: es) X.env)) (backToKw pos (keywordEach [] X.env))) := by rfl) :
    PE X (.Call (.Attribute o m apos) (e :: es) [] pos) (tMeth C m sp [kv] E0 ta t) := by
  obtain ⟨f, fd, ps, ds, F, me, v, b, _⟩ := c.ex
  exact pe_meth ho cl me F (hr.mono hk) b v pass0 ha hst hpl ht
theorem pe_calMK (c : CalMK X.prog X.w X.K X.mg X.base CX0 k C m n kw kv sp) (cl : Cls X.K C) (hr : Room j X.A) (hk : k ≤ j) (ho : PE X o ta) (ha : PA X (e :: es) t) (hkw : PK X kws tk) {pl : Sem Bool}
    (hall : (backToKw pos (keywordEach kws X.env)).all (·.1.isSome) = true := by rfl) (hks : (backToKw pos (keywordEach kws X.env)).filterMap (·.1) = [kw] := by rfl)
    (he : starEach (e :: es) X.env = (false, eval e X.env) :: starEach es X.env := by rfl) (hpl : ((backTo pos (starEach (e :: es) X.env)).any (·.1) || (backToKw pos (keywordEach kws X.env)).any (·.1.isNone)) = false := by rfl)
    (ht : eval (.Call (.Attribute o m apos) (e :: es) kws pos) X.env = (do
      let ov ← eval o X.env
      standAt apos.atName
      let (f, first) ← holding [ov] (getMethod ov m pl)
      callWith pos f first (backTo pos (starEach (e :: es) X.env)) (backToKw pos (keywordEach kws X.env))) := by rfl) :
    PE X (.Call (.Attribute o m apos) (e :: es) kws pos) (tMethK C m n sp E0 ta t tk) := by
  obtain ⟨f, fd, ps, ds, F, me, _, _, b⟩ := c.ex
  refine ⟨fun pins s σ H Q I h => ?_⟩
  refine PySem.W.methodCall_KW (pl := pl) (thn (ho.run pins s σ H _ I h) fun u s1 ⟨x, H1, I1, rx, a, dx, fs, ex, ea, l, q⟩ => ?_) ht
  subst ex
  obtain rfl : u = Value.ref a := rx
  refine getmeth_ok I1 ea cl me l ?_
  refine PySem.W.callWith_KW (first := [.ref a]) (h₀ := X.base) I.ok.mod.kin me.kp hall (thn (ha.run pos pins s1 σ H1 _ I1 q) fun us s2 ⟨vs, H2, I2, r, q2⟩ => ?_) hpl he
  refine thn (hkw.run pos pins s2 σ H2 _ I2 q2) fun ws s3 ⟨zs, H3, I3, rz, l1, l2, q3⟩ => ⟨I3.kIn, ?_⟩
  rw [hks]
  exact run_fnN (us := .ref a :: us) (vs := .ref a :: vs) F (hr.mono hk) b pass0 I3 (.cons rfl r) rz l1 l2 q3
end
def MkEnd (n : Nat) (sp : Sp) (E : XK) (x : V) (vs zs : List V) (H3 : Hp) (Q : VK) : Prop := vs.length + 1 = n ∧ zs.length = 1 ∧ sp ((x :: vs) ++ zs) H3 Q E
def MethXK (C : Addr) (m : Str) (n : Nat) (sp : Sp) (E : XK) (t tk : TA) (σ : L2.St) (x : V) (H1 : Hp) (Q : VK) : Prop := ∃ a dx fs, x = .ref a ∧ H1 a = some (.ins C dx fs) ∧ fs.lookup m = none ∧
  t σ H1 fun vs H2 => tk σ H2 fun zs H3 => MkEnd n sp E x vs zs H3 Q
section
variable {K : PySem.W.Frag} {M G H : Hp} {σ : L2.St} {x : V} {ta : TE} {t tk : TA} {Q : VK} {a C dx : Addr} {fs : List (Str × V)} {m : Str} {sp : Sp} {E : XK} {n : Nat}
theorem w_methK (h : ta σ H fun x H1 => MethXK C m n sp E t tk σ x H1 Q) : tMethK C m n sp E ta t tk σ H Q := h
theorem w_methKM (j : J M G H) (h : M a = some (.ins C dx fs)) (l : fs.lookup m = none) (q : t σ H fun vs H2 => tk σ H2 fun zs H3 => MkEnd n sp E (.ref a) vs zs H3 Q) : MethXK C m n sp E t tk σ (.ref a) H Q := ⟨a, dx, fs, rfl, j.m _ _ h, l, q⟩
theorem w_mkEnd {vs zs : List V} (l1 : vs.length + 1 = n) (l2 : zs.length = 1) (q : sp ((x :: vs) ++ zs) H Q E) : MkEnd n sp E x vs zs H Q := ⟨l1, l2, q⟩
end
local macro_rules
  | `(tactic| walk_at "v") => `(tactic| with_reducible refine w_methK ?_)
/-! match: patterns that are sequences of texts, names and _, over a tuple -/
inductive MP where
  | txt (s : Str) | cap (i : Nat) | any
def MP.all : List MP → List V → Option (List (Nat × V))
  | .txt s :: ps, x :: xs => if x = .str s then MP.all ps xs else none
  | .cap i :: ps, x :: xs => (MP.all ps xs).map fun r => (i, x) :: r
  | .any :: ps, _ :: xs => MP.all ps xs
  | _, _ => some []
/-- the comparisons that are made are those of texts with plain values -/
def MP.okc : List MP → List V → Prop
  | .txt s :: ps, x :: xs => scal x (.str s) = true ∧ (x = .str s → MP.okc ps xs)
  | .cap _ :: ps, _ :: xs => MP.okc ps xs
  | .any :: ps, _ :: xs => MP.okc ps xs
  | _, _ => True
def setAll : List (Nat × V) → L2.St → L2.St
  | [], σ => σ
  | p :: r, σ => setAll r (σ.set p.1 (some p.2))
def MBind (X : Cx) (b : Str × Value) (p : Nat × V) : Prop := X.N[p.1]? = some b.1 ∧ Loc X.env.scope b.1 ∧ (X.fn b.1 = true ∨ X.env.scope.names.lookup b.1 = some .local) ∧ RelV p.2 b.2
def MBinds (X : Cx) : Option (List (Str × Value)) → Option (List (Nat × V)) → Prop
  | none, none => True
  | some bs, some r => Paired (MBind X) bs r
  | _, _ => False
structure PMs (X : Cx) (ps : List Pattern) (ms : List MP) : Prop where
  len : ms.length = ps.length
  run : ∀ (pins : List (Addr × Obj)) (s : Shared) (σ : L2.St) (H : Hp) (xs : List V) (us : List Value) (Q : Option (List (Str × Value)) → Shared → Prop), Inv X pins σ H s → Vals xs us → xs.length = ps.length → MP.okc ms xs →
    (∀ r s', Inv X pins σ H s' → MBinds X r (MP.all ms xs) → Q r s') → wpAny (model X.prog X.w) X.A (matchEach ps X.env us) Q X.xe s
section
variable {X : Cx} {K : PySem.W.Frag}
theorem pms_nil : PMs X [] [] := ⟨rfl, fun pins s σ H xs us Q I r hl hc k => by
  cases xs with
  | nil => cases r; exact wpAny_matchEach_nil (k _ s I .nil)
  | cons x xs => cases hl⟩
theorem pms_txt {x : Str} {j : Nat} {p p2 : Pos} {ps : List Pattern} {ms : List MP} (h : PMs X ps ms) : PMs X (.MatchValue (.Constant (.str x) j p) p2 :: ps) (.txt x :: ms) := by
  refine ⟨congrArg (· + 1) h.len, fun pins s σ H xs us Q I r hl hc k => ?_⟩
  cases xs with
  | nil => cases hl
  | cons y ys =>
    cases r with
    | cons ry rys =>
      obtain ⟨c1, c2⟩ := hc
      refine wpAny_matchEach_cons (wpAny_matchPattern_Value (thn ((pe_str (X := X) (x := x)).run pins s σ H (fun v H1 => v = .str x ∧ H1 = H) I ⟨rfl, rfl⟩) fun u s1 q => ?_)) rfl
      obtain ⟨v, H1, I1, rv, rfl, rfl⟩ := q
      refine thn (op_eq pins s1 σ H1 y (.str x) _ u (fun z H2 => z = .bl (decide (y = .str x)) ∧ H2 = H1) I1 ry rv ⟨c1, rfl, rfl⟩) fun c s2 q2 => ?_
      obtain ⟨z, H2, I2, rz, rfl, rfl⟩ := q2
      cases rz
      refine wpAny_truthy_bool ?_
      by_cases e : y = .str x
      · rw [decide_eq_true e, if_pos rfl]
        refine h.run pins s2 σ H2 ys _ _ I2 rys (by simpa using hl) (c2 e) fun r' s3 I3 b => ?_
        have e2 : MP.all (.txt x :: ms) (y :: ys) = MP.all ms ys := if_pos e
        have kk := k r' s3 I3 (by rw [e2]; exact b)
        cases r' with
        | none => exact kk
        | some more => exact kk
      · rw [decide_eq_false e, if_neg Bool.false_ne_true]
        refine k none s2 I2 ?_
        have e2 : MP.all (.txt x :: ms) (y :: ys) = none := if_neg e
        rw [e2]; trivial
theorem pms_any {p : Pos} {ps : List Pattern} {ms : List MP} (h : PMs X ps ms) : PMs X (.MatchAs none none p :: ps) (.any :: ms) := by
  refine ⟨congrArg (· + 1) h.len, fun pins s σ H xs us Q I r hl hc k => ?_⟩
  cases xs with
  | nil => cases hl
  | cons y ys =>
    cases r with
    | cons ry rys =>
      refine wpAny_matchEach_cons (wpAny_matchPattern_Capture ?_) rfl
      refine h.run pins s σ H ys _ _ I rys (by simpa using hl) hc fun r' s3 I3 b => ?_
      have kk := k r' s3 I3 b
      cases r' with
      | none => exact kk
      | some more => exact kk
theorem pms_cap {i : Nat} {x : Str} {p : Pos} {ps : List Pattern} {ms : List MP} (hi : X.N[i]? = some x) (hx : Loc X.env.scope x) (h : PMs X ps ms)
    (hf : X.fn x = true ∨ X.env.scope.names.lookup x = some .local := by first | exact .inl rfl | exact .inr rfl | assumption) : PMs X (.MatchAs none (some x) p :: ps) (.cap i :: ms) := by
  refine ⟨congrArg (· + 1) h.len, fun pins s σ H xs us Q I r hl hc k => ?_⟩
  cases xs with
  | nil => cases hl
  | cons y ys =>
    cases r with
    | cons ry rys =>
      refine wpAny_matchEach_cons (wpAny_matchPattern_Capture ?_) rfl
      refine h.run pins s σ H ys _ _ I rys (by simpa using hl) hc fun r' s3 I3 b => ?_
      have kk := k (r'.map fun bs => (x, _) :: bs) s3 I3 (by
        show MBinds X _ ((MP.all ms ys).map _)
        cases e : MP.all ms ys with
        | none => rw [e] at b; cases r' with
          | none => trivial
          | some _ => exact b
        | some t => rw [e] at b; cases r' with
          | none => exact b
          | some _ => exact .cons ⟨hi, hx, hf, ry⟩ b)
      cases r' with
      | none => exact kk
      | some more => exact kk
/-- the names are stored, one after another -/
theorem bind_all (hN : X.N.Nodup) {pins : List (Addr × Obj)} {H : Hp} : ∀ {bs : List (Str × Value)} {r : List (Nat × V)} {σ : L2.St} {s : Shared} {Q : Unit → Shared → Prop}, Paired (MBind X) bs r → Inv X pins σ H s →
    (∀ s', Inv X pins (setAll r σ) H s' → Q () s') → wpAny (model X.prog X.w) X.A (assignInOrder (bs.map fun (n, _) => bindName X.env n) (bs.map (·.2))) Q X.xe s
  | _, _, _, s, _, .nil, I, k => wpAny_assignInOrder_none (k s I)
  | _, _, _, _, _, .cons h t, I, k => by
    obtain ⟨h1, h2, h3, h4⟩ := h
    exact wpAny_assignInOrder_more (wpAny_bindName (store_ok I hN h1 h2 h4 (fun s' I' => bind_all hN t I' k) h3))
def tCs (K : PySem.W.Frag) : List (Option (List MP) × TS) → V → TS
  | [], _ => fun D σ H => D.nx σ H
  | (none, t) :: _, _ => t
  | (some ms, t) :: rest, v => fun D σ H => ∃ a xs, v = .ref a ∧ SqT K H a xs ∧ ((xs.length ≠ ms.length ∧ tCs K rest v D σ H) ∨ (xs.length = ms.length ∧ MP.okc ms xs ∧
      ((MP.all ms xs = none ∧ tCs K rest v D σ H) ∨ ∃ r, MP.all ms xs = some r ∧ t D (setAll r σ) H)))
structure PCs (X : Cx) (cs : List MatchCase) (ts : List (Option (List MP) × TS)) : Prop where
  run : ∀ (pins : List (Addr × Obj)) (s : Shared) (σ : L2.St) (H : Hp) (D : Ends) (v : V) (u : Value) (first : Bool), Inv X pins σ H s → RelV v u → tCs X.K ts v D σ H →
    wpAny (model X.prog X.w) X.A (matchCases cs X.env u first) (SP X pins D) X.xe s
theorem pcs_nil : PCs X [] [] := ⟨fun pins s σ H D v u first I r h => wpAny_matchCases_nil ⟨σ, H, I, h⟩⟩
theorem pcs_any {p : Pos} {body : List Stmt} {rest : List MatchCase} {t : TS} (h : PSs X body t) : PCs X (⟨.MatchAs none none p, none, body⟩ :: rest) [(none, t)] :=
  ⟨fun pins s σ H D v u first I r q => wpAny_matchCases_cons (wpAny_matchPattern_Capture (wpAny_assignInOrder_none (h.run pins s σ H D I q)))⟩
theorem pcs_seq {p : Pos} {ps : List Pattern} {ms : List MP} {body : List Stmt} {rest : List MatchCase} {t : TS} {ts : List (Option (List MP) × TS)} (hc : X.calm = true) (hN : X.N.Nodup) (hm : PMs X ps ms) (h : PSs X body t) (hr : PCs X rest ts)
    (hstar : ps.findIdx? (·.isStar) = none := by rfl) (hwild : (ps.all fun p => p.isWildcard || (p.isStar && p.names.isEmpty)) = false := by rfl) : PCs X (⟨.MatchSequence ps p, none, body⟩ :: rest) ((some ms, t) :: ts) := by
  refine ⟨fun pins s σ H D v u first I r q => wpAny_matchCases_cons ?_⟩
  obtain ⟨a, xs, rfl, hq, q⟩ := q
  cases r
  obtain ⟨its, rv, ht, hz⟩ := I.tuple hq
  have hfit : ((its.toArray.size : Nat) : Int) < 2 ^ 63 := by
    have e := rv.length
    have z : sizeLine < 2 ^ 63 := by decide
    simp only [List.size_toArray]
    omega
  rcases q with ⟨hn, q⟩ | ⟨hn, hok, q⟩
  · refine matchSeq_tuple_miss ht hfit (by simp only [List.size_toArray, ← rv.length, ← hm.len]; exact hn) ?_ hstar hwild
    exact hr.run pins _ σ H D (.ref a) _ _ (I.tok _) rfl q
  · have hn' : its.toArray.size = ps.length := by simp only [List.size_toArray, ← rv.length, ← hm.len]; exact hn
    refine matchSeq_tuple_hit ht hfit hn' ?_ hstar hwild
    rw [← hn']
    refine unpackItems_tuple (s := { s with toks := s.toks + 1 + 1 }) (I.ok.hd hc) ht fun h' hx => ?_
    have I1 : Inv X pins σ H { s with heap := h', toks := s.toks + 1 + 1 } := I.kept (t' := s.toks + 1 + 1) fun b o e => hx b o (Nat.ne_of_lt (Heap.lt_size e)) e
    refine hm.run pins _ σ H xs _ _ I1 (by simpa using rv) (hn.trans hm.len) hok fun r' s2 I2 b => ?_
    rcases q with ⟨e, q⟩ | ⟨r2, e, q⟩
    · rw [e] at b
      cases r' with
      | none => exact hr.run pins s2 σ H D (.ref a) _ _ I2 rfl q
      | some _ => exact b.elim
    · rw [e] at b
      cases r' with
      | none => exact b.elim
      | some bs => exact bind_all hN b I2 fun s3 I3 => h.run pins s3 _ H D I3 q
def tMatch (K : PySem.W.Frag) (te : TE) (ts : List (Option (List MP) × TS)) : TS := fun D σ H => te σ H fun v H1 => tCs K ts v D σ H1
theorem ps_match {e : Expr} {te : TE} {cs : List MatchCase} {ts : List (Option (List MP) × TS)} {pos : Pos} (he : PE X e te) (h : PCs X cs ts) : PS X (.Match e cs pos) (tMatch X.K te ts) :=
  ⟨fun pins s σ H D I q => wpAny_Match (thn (he.run pins s σ H _ I q) fun u s1 ⟨v, H1, I1, r1, q1⟩ => h.run pins s1 σ H1 D v u true I1 r1 q1)⟩
theorem w_match {te : TE} {ts : List (Option (List MP) × TS)} {D : Ends} {σ : L2.St} {H : Hp} (h : te σ H fun v H1 => tCs K ts v D σ H1) : tMatch K te ts D σ H := h
/-- a tuple that is too long or too short, or begins with another text -/
theorem w_caseL {ms : List MP} {t : TS} {rest : List (Option (List MP) × TS)} {M G H : Hp} {a : Addr} {xs : List V} {D : Ends} {σ : L2.St} (j : J M G H) (h : SqT K G a xs) (n : xs.length ≠ ms.length) (q : tCs K rest (.ref a) D σ H) :
    tCs K ((some ms, t) :: rest) (.ref a) D σ H := ⟨a, xs, rfl, st_mono j.g h, .inl ⟨n, q⟩⟩
theorem w_caseN {ms : List MP} {t : TS} {rest : List (Option (List MP) × TS)} {M G H : Hp} {a : Addr} {xs : List V} {D : Ends} {σ : L2.St} (j : J M G H) (h : SqT K G a xs) (n : xs.length = ms.length) (c : MP.okc ms xs) (e : MP.all ms xs = none) (q : tCs K rest (.ref a) D σ H) :
    tCs K ((some ms, t) :: rest) (.ref a) D σ H := ⟨a, xs, rfl, st_mono j.g h, .inr ⟨n, c, .inl ⟨e, q⟩⟩⟩
theorem w_caseY {ms : List MP} {t : TS} {rest : List (Option (List MP) × TS)} {M G H : Hp} {a : Addr} {xs : List V} {r : List (Nat × V)} {D : Ends} {σ : L2.St} (j : J M G H) (h : SqT K G a xs) (n : xs.length = ms.length) (c : MP.okc ms xs) (e : MP.all ms xs = some r) (q : t D (setAll r σ) H) :
    tCs K ((some ms, t) :: rest) (.ref a) D σ H := ⟨a, xs, rfl, st_mono j.g h, .inr ⟨n, c, .inr ⟨r, e, q⟩⟩⟩
theorem w_caseA {t : TS} {v : V} {D : Ends} {σ : L2.St} {H : Hp} (q : t D σ H) : tCs K [(none, t)] v D σ H := q
end
/-- the rest of a pattern: names and _ alone -/
def plainP : List MP → Bool
  | [] => true
  | .txt _ :: _ => false
  | _ :: ps => plainP ps
def bnds : List MP → List V → List (Nat × V)
  | .cap i :: ps, x :: xs => (i, x) :: bnds ps xs
  | .any :: ps, _ :: xs => bnds ps xs
  | _, _ => []
theorem plain_all : ∀ {ps : List MP} {ys : List V}, plainP ps = true → MP.okc ps ys ∧ MP.all ps ys = some (bnds ps ys)
  | [], _, _ => ⟨trivial, rfl⟩
  | .txt _ :: _, _, h => nomatch h
  | .cap _ :: _, [], _ => ⟨trivial, rfl⟩
  | .any :: _, [], _ => ⟨trivial, rfl⟩
  | .cap i :: ps, y :: ys, h => by
    have ih := plain_all (ps := ps) (ys := ys) h
    refine ⟨ih.1, ?_⟩
    show (MP.all ps ys).map _ = _
    rw [ih.2]; rfl
  | .any :: ps, y :: ys, h => plain_all (ps := ps) (ys := ys) h
theorem w_caseS {K : PySem.W.Frag} {z s : Str} {ps : List MP} {t : TS} {rest : List (Option (List MP) × TS)} {M G H : Hp} {a : Addr} {ys : List V} {D : Ends} {σ : L2.St} (j : J M G H) (h : SqT K G a (.str z :: ys)) (hp : plainP ps = true)
    (h1 : z = s → ys.length = ps.length → t D (setAll (bnds ps ys) σ) H) (h2 : ¬ (z = s ∧ ys.length = ps.length) → tCs K rest (.ref a) D σ H) : tCs K ((some (.txt s :: ps), t) :: rest) (.ref a) D σ H := by
  by_cases l : ys.length = ps.length
  · have ll : (V.str z :: ys).length = (MP.txt s :: ps).length := congrArg (· + 1) l
    have c : MP.okc (.txt s :: ps) (.str z :: ys) := ⟨rfl, fun _ => (plain_all hp).1⟩
    by_cases e : z = s
    · refine w_caseY j h ll c (r := bnds ps ys) ?_ (h1 e l)
      show (if V.str z = .str s then _ else _) = _
      rw [if_pos (congrArg V.str e)]
      exact (plain_all hp).2
    · refine w_caseN j h ll c ?_ (h2 fun q => e q.1)
      show (if V.str z = .str s then _ else _) = _
      exact if_neg fun q => e (V.str.inj q)
  · exact w_caseL j h (fun q => l (Nat.succ.inj q)) (h2 fun q => l q.2)
/-- a command that is known: the case of its name and length -/
theorem w_caseK {K : PySem.W.Frag} {z : Str} {ps : List MP} {t : TS} {rest : List (Option (List MP) × TS)} {M G H : Hp} {a : Addr} {ys : List V} {D : Ends} {σ : L2.St} (j : J M G H) (h : SqT K G a (.str z :: ys)) (hp : plainP ps = true) (l : ys.length = ps.length)
    (q : t D (setAll (bnds ps ys) σ) H) : tCs K ((some (.txt z :: ps), t) :: rest) (.ref a) D σ H := w_caseS j h hp (fun _ _ => q) fun n => (n ⟨rfl, l⟩).elim
theorem w_caseO {K : PySem.W.Frag} {z s : Str} {ps : List MP} {t : TS} {rest : List (Option (List MP) × TS)} {M G H : Hp} {a : Addr} {ys : List V} {D : Ends} {σ : L2.St} (j : J M G H) (h : SqT K G a (.str z :: ys)) (hp : plainP ps = true) (n : z ≠ s)
    (q : tCs K rest (.ref a) D σ H) : tCs K ((some (.txt s :: ps), t) :: rest) (.ref a) D σ H := w_caseS j h hp (fun e _ => (n e).elim) fun _ => q
local macro_rules
  | `(tactic| walk_at "v") => `(tactic| with_reducible refine w_match ?_)
/-! ### dicts with text keys, displayed, read and written -/
def DispQ (p : Addr) (Q : VK) : List (V × V) → Hp → Prop := fun ps H2 => H2 p = some (.dK []) ∧ ∃ kvs : List (Key × V), ps = kvs.map (fun kv => (kV kv.1, kv.2)) ∧ kvs.length ≤ 15 ∧ Q (.ref p) (upd H2 p (.dK (mergeK [] kvs)))
theorem w_dispM {M G H : Hp} {trs : List (TE × TE)} {σ : L2.St} {Q : VK} (j : J M G H) (k : ∀ p H1, J (upd M p (.dK [])) G H1 → M p = none → G p = none → tPairs trs σ H1 (DispQ p Q)) : tDisp trs σ H Q :=
  fun p h => k p _ (j.newM h) (j.freeM h) (j.freeG h)
theorem w_pairC {tk tv : TE} {r : List (TE × TE)} {σ : L2.St} {H : Hp} {Q : List (V × V) → Hp → Prop} (h : tk σ H fun x H1 => tv σ H1 fun y H2 => tPairs r σ H2 fun ps H3 => Q ((x, y) :: ps) H3) : tPairs ((tk, tv) :: r) σ H Q := h
theorem w_pairN {σ : L2.St} {H : Hp} {Q : List (V × V) → Hp → Prop} (h : Q [] H) : tPairs [] σ H Q := h
theorem mergeK_nodup : ∀ (kvs acc : List (Key × V)), ((acc ++ kvs).map (·.1)).Nodup → mergeK acc kvs = acc ++ kvs
  | [], acc, _ => by show acc = acc ++ []; rw [List.append_nil]
  | kv :: r, acc, h => by
    have e : putK acc kv.1 kv.2 = acc ++ [kv] := by
      unfold putK
      have n : (acc.any fun x => decide (x.1 = kv.1)) = false := by
        rw [List.any_eq_false]
        intro x hx z
        have z : x.1 = kv.1 := of_decide_eq_true z
        rw [List.map_append, List.nodup_append] at h
        exact h.2.2 _ (List.mem_map_of_mem hx) _ (List.mem_map_of_mem List.mem_cons_self) z
      simp [n]
    show mergeK (putK acc kv.1 kv.2) r = _
    rw [e, mergeK_nodup r (acc ++ [kv]) (by rw [List.append_assoc]; exact h), List.append_assoc]; rfl
theorem w_dispE {M G H : Hp} {p : Addr} {Q : VK} {ps : List (V × V)} (kvs : List (Key × V)) (j : J M G H) (h : M p = some (.dK [])) (e : ps = kvs.map (fun kv => (kV kv.1, kv.2))) (l : kvs.length ≤ 15) (n : (kvs.map (·.1)).Nodup) (k : ∀ H', J (upd M p (.dK kvs)) G H' → Q (.ref p) H') : DispQ p Q ps H :=
  ⟨j.m _ _ h, kvs, e, l, by rw [mergeK_nodup kvs [] n]; exact k _ (j.put h)⟩
theorem valV_hd {k : Key} {v : V} {r : List (Key × V)} : valV ((k, v) :: r) k = some v := by simp [valV]
theorem valV_tl {k k' : Key} {v : V} {r : List (Key × V)} (h : ¬ k' = k) : valV ((k', v) :: r) k = valV r k := by simp [valV, h]
section
variable {M G H : Hp} {a : Addr} {kvs : List (Key × V)} {s : Str} {v y : V} {Q : VK}
theorem w_getXS (j : J M G H) (h : Hd M G a kvs) (e : valV kvs (.inr s) = some v) (q : Q v H) : GetX (.ref a) (.str s) H Q := ⟨a, v, rfl, .inl ⟨kvs, .inr s, h.rd j, rfl, e.symm⟩, q⟩
theorem w_putXS {R : Hp → Prop} (j : J M G H) (h : M a = some (.dK kvs)) (z : kvs.length < 1000000) (q : ∀ H', J (upd M a (.dK (putK kvs (.inr s) v))) G H' → R H') : PutX (.ref a) (.str s) v H R :=
  ⟨a, _, rfl, .inl ⟨kvs, .inr s, j.m _ _ h, rfl, sz_lt z, rfl⟩, q _ (j.put h)⟩
end
local macro_rules
  | `(tactic| walk_at "v") => `(tactic| first
    | with_reducible refine w_pairC ?_
    | with_reducible refine w_pairN ?_)
/-! ### replicas: what a replica holds, as values -/
structure RC where
  w : Str
  ds : List PyData
structure RN where
  t : Int
  c : RC
structure RB where
  i : Int
  t : Int
  ms : List Int
  pic : PyData
inductive RS where
  | cnt (n : Int)
def intsD (ms : List Int) : PyData := .tuple (ms.map .int)
def rcD (c : RC) : PyData := .tuple (.str c.w :: c.ds)
def rnD (e : RN) : PyData := .tuple [.int e.t, rcD e.c]
def rbD (b : RB) : PyData := .tuple [.int b.i, .int b.t, intsD b.ms, b.pic]
def cntD (n : Int) : PyData := .tuple [.str "counter", .int n]
def isCh (c : RC) : Bool := decide (c.w = "members") && decide (c.ds.length = 1)
def unI : PyData → Option Int
  | .int n => some n
  | _ => none
def chMs (c : RC) : List Int := match c.ds with
  | [.tuple xs] => xs.filterMap unI
  | _ => []
theorem unI_ints (ms : List Int) : (ms.map PyData.int).filterMap unI = ms := by
  induction ms with
  | nil => rfl
  | cons m r ih => rw [List.map_cons, List.filterMap_cons]; show m :: _ = _; rw [ih]
/-- a command as a group's log has it -/
def OkC (c : RC) : Prop := isCh c = true → c.ds = [intsD (chMs c)] ∧ (chMs c).length ≤ 50
structure Rpl where
  me : Int
  group : Int
  term : Int
  voted : Option Int
  base : Option RB
  ents : List RN
  role : Str
  leader : Option Int
  cm : Int
  ap : Int
  du : Int
  st : Option RS
  ledger : List PyData
  records : List PyData
  letters : List PyData
  answers : List PyData
  births : List PyData
  votes : List Int
  ahead : List (Int × Int)
  known : List (Int × Int)
  tokens : List (Int × PyData)
/-- the cells, and the values in them -/
structure RepA where
  p : Addr
  dx : Addr
  en : Addr
  le : Addr
  rc : Addr
  lt : Addr
  an : Addr
  bi : Addr
  vo : Addr
  ah : Addr
  kn : Addr
  tq : Addr
  bv : V
  sv : V
  sc : List Addr
  so : List HO
  ev : List V
  lev : List V
  rcv : List V
  ltv : List V
  anv : List V
  biv : List V
  tkv : List (Key × V)
def oI : Option Int → V
  | none => .non
  | some n => .int n
def votK (vs : List Int) : List (Key × V) := vs.map fun n => (Sum.inl n, V.bl true)
def RepA.cells (a : RepA) : List Addr := a.p :: a.en :: a.le :: a.rc :: a.lt :: a.an :: a.bi :: a.vo :: a.ah :: a.kn :: a.tq :: a.sc
def repO (C : Addr) (a : RepA) (r : Rpl) : HO := .ins C a.dx (fl_Replica (.int r.me) (.int r.group) (.int r.term) (oI r.voted) a.bv (.ref a.en) (.str r.role) (oI r.leader) (.int r.cm) (.int r.ap) (.int r.du) a.sv (.ref a.le) (.ref a.rc) (.ref a.lt) (.ref a.an) (.ref a.bi) (.ref a.vo) (.ref a.ah) (.ref a.kn) (.ref a.tq))
def RepA.cont (C : Addr) (a : RepA) (r : Rpl) : List HO := repO C a r :: .lst a.ev :: .lst a.lev :: .lst a.rcv :: .lst a.ltv :: .lst a.anv :: .lst a.biv :: .dK (votK r.votes) :: .dK (tk r.ahead) :: .dK (tk r.known) :: .dK a.tkv :: a.so
def RbAt (K : PySem.W.Frag) (G : Hp) (v : V) : Option RB → Prop
  | none => v = .non
  | some b => Dp K G v (rbD b)
def RsAt (CC : Addr) (sv : V) (sc : List Addr) (so : List HO) : Option RS → Prop
  | none => sv = .non ∧ sc = [] ∧ so = []
  | some (.cnt n) => ∃ s dx, sv = .ref s ∧ sc = [s] ∧ so = [.ins CC dx (fl_Counter (.int n))]
def keyI (k : Int) : Key := .inl k
theorem keyI_inj : ∀ x y, keyI x = keyI y → x = y := fun _ _ h => Sum.inl.inj h
/-- the values stand for the data -/
structure RepD (K : PySem.W.Frag) (CC : Addr) (G : Hp) (a : RepA) (r : Rpl) : Prop where
  b : RbAt K G a.bv r.base
  s : RsAt CC a.sv a.sc a.so r.st
  en : DpAll K G a.ev (r.ents.map rnD)
  le : DpAll K G a.lev r.ledger
  rc : DpAll K G a.rcv r.records
  lt : DpAll K G a.ltv r.letters
  an : DpAll K G a.anv r.answers
  bi : DpAll K G a.biv r.births
  tq : DcAt keyI (Dp K G) a.tkv r.tokens
theorem RbAt.ex {K : PySem.W.Frag} {G G' : Hp} {v : V} {o : Option RB} (h : RbAt K G v o) (e : Ex G G') : RbAt K G' v o := by
  cases o with
  | none => exact h
  | some b => exact dp_mono e h
theorem RepD.ex {K : PySem.W.Frag} {CC : Addr} {G G' : Hp} {a : RepA} {r : Rpl} (h : RepD K CC G a r) (e : Ex G G') : RepD K CC G' a r :=
  ⟨h.b.ex e, h.s, dpAll_mono e h.en, dpAll_mono e h.le, dpAll_mono e h.rc, dpAll_mono e h.lt, dpAll_mono e h.an, dpAll_mono e h.bi, L2.Paired.mapP h.tq fun _ _ ⟨h1, h2⟩ => ⟨h1, dp_mono e h2⟩⟩
/-- cells with what stands in them -/
def Cells (M : Hp) (as : List Addr) (os : List HO) : Prop := Paired (fun a o => M a = some o) as os
theorem Cells.at {M : Hp} : ∀ {as : List Addr} {os : List HO} {i : Nat} {a : Addr}, Cells M as os → as[i]? = some a → ∃ o, os[i]? = some o ∧ M a = some o
  | _, _, _, _, .nil, e => by simp at e
  | _, _, 0, _, .cons h _, e => by
    have e := Option.some.inj e
    subst e
    exact ⟨_, rfl, h⟩
  | _, _, i + 1, _, .cons _ t, e => by
    obtain ⟨o, h1, h2⟩ := Cells.at (i := i) t (by simpa using e)
    exact ⟨o, by simpa using h1, h2⟩
theorem Cells.off {M : Hp} {b : Addr} {o : HO} : ∀ {as : List Addr} {os : List HO}, Cells M as os → b ∉ as → Cells (upd M b o) as os
  | _, _, .nil, _ => .nil
  | _, _, .cons h t, n => .cons (upd_ne' h fun z => n (z ▸ List.mem_cons_self)) (Cells.off t fun m => n (List.mem_cons_of_mem _ m))
/-- one of them is written -/
theorem Cells.put {M : Hp} {b : Addr} {o : HO} : ∀ {as : List Addr} {os : List HO} {i : Nat}, as.Nodup → Cells M as os → as[i]? = some b → Cells (upd M b o) as (os.set i o)
  | _, _, _, _, .nil, e => by simp at e
  | _, _, 0, n, .cons h t, e => by
    have e := Option.some.inj e
    subst e
    exact .cons upd_same (Cells.off t (List.nodup_cons.mp n).1)
  | _, _, i + 1, n, .cons h t, e => by
    rw [List.getElem?_cons_succ] at e
    exact .cons (upd_ne' h fun z => (List.nodup_cons.mp n).1 (z ▸ List.mem_of_getElem? e)) (Cells.put (List.nodup_cons.mp n).2 t e)
/-- .. by another cell that is new -/
theorem Cells.swap {M : Hp} {b : Addr} {o : HO} : ∀ {as : List Addr} {os : List HO} {i : Nat}, Cells M as os → M b = none → Cells (upd M b o) (as.set i b) (os.set i o)
  | _, _, _, .nil, _ => .nil
  | _, _, 0, .cons h t, n => .cons upd_same (Paired.mapP t fun _ _ e => upd_ne' e (ne_of_none e n))
  | _, _, i + 1, .cons h t, n => .cons (upd_ne' h (ne_of_none h n)) (Cells.swap t n)
theorem Cells.ex {M : Hp} {b : Addr} : ∀ {as : List Addr} {os : List HO}, Cells M as os → b ∈ as → ∃ o, M b = Option.some o
  | _, _, .cons h t, m => by
    rcases List.mem_cons.mp m with rfl | m
    · exact ⟨_, h⟩
    · exact Cells.ex t m
theorem nodup_set {as : List Addr} {b : Addr} (n : as.Nodup) (h : b ∉ as) (i : Nat) : (as.set i b).Nodup := by
  induction as generalizing i with
  | nil => exact n
  | cons a r ih =>
    cases i with
    | zero => exact List.nodup_cons.mpr ⟨fun m => h (List.mem_cons_of_mem _ m), (List.nodup_cons.mp n).2⟩
    | succ i =>
      refine List.nodup_cons.mpr ⟨fun m => ?_, ih (List.nodup_cons.mp n).2 (fun m => h (List.mem_cons_of_mem _ m)) i⟩
      rcases List.mem_or_eq_of_mem_set m with m | rfl
      · exact (List.nodup_cons.mp n).1 m
      · exact h List.mem_cons_self
structure RepAt (K : PySem.W.Frag) (C CC : Addr) (M G : Hp) (a : RepA) (r : Rpl) : Prop where
  c : Cells M a.cells (a.cont C r)
  n : a.cells.Nodup
  d : RepD K CC G a r
  nt : NoT M
/-- what a replica's method may change -/
structure Fr (M0 : Hp) (a0 : RepA) (M : Hp) (a : RepA) : Prop where
  kp : ∀ b o, M0 b = some o → b ∉ a0.cells → M b = some o
  nw : ∀ b ∈ a.cells, b ∈ a0.cells ∨ M0 b = none
  pe : a.p = a0.p
theorem Fr.refl (M : Hp) (a : RepA) : Fr M a M a := ⟨fun _ _ e _ => e, fun _ m => .inl m, rfl⟩
theorem Fr.trans {M0 M1 M2 : Hp} {a0 a1 a2 : RepA} (h : Fr M0 a0 M1 a1) (g : Fr M1 a1 M2 a2) : Fr M0 a0 M2 a2 where
  kp := fun b o e n => g.kp b o (h.kp b o e n) fun m => by
    rcases h.nw b m with z | z
    · exact n z
    · rw [e] at z; cases z
  nw := fun b m => by
    rcases g.nw b m with z | z
    · exact h.nw b z
    · by_cases q : b ∈ a0.cells
      · exact .inl q
      · refine .inr ?_
        cases e : M0 b with
        | none => rfl
        | some o => rw [h.kp b o e q] at z; cases z
  pe := g.pe.trans h.pe
structure RepS (K : PySem.W.Frag) (C CC : Addr) (M0 : Hp) (a0 : RepA) (M G : Hp) (a : RepA) (r : Rpl) : Prop where
  t : RepAt K C CC M G a r
  f : Fr M0 a0 M a
section
variable {K : PySem.W.Frag} {C CC : Addr} {M0 M M' G G' H : Hp} {a0 a a' : RepA} {r r' : Rpl} {b : Addr} {o : HO} {i : Nat}
theorem RepAt.ex (h : RepAt K C CC M G a r) (e : Ex G G') : RepAt K C CC M G' a r := ⟨h.c, h.n, h.d.ex e, h.nt⟩
theorem RepS.ex (h : RepS K C CC M0 a0 M G a r) (e : Ex G G') : RepS K C CC M0 a0 M G' a r := ⟨h.t.ex e, h.f⟩
theorem RepAt.s (h : RepAt K C CC M G a r) : RepS K C CC M a M G a r := ⟨h, Fr.refl M a⟩
theorem RepS.then (h : RepS K C CC M0 a0 M G a r) (g : RepS K C CC M a M' G' a' r') : RepS K C CC M0 a0 M' G' a' r' := ⟨g.t, h.f.trans g.f⟩
theorem RepAt.op (h : RepAt K C CC M G a r) : M a.p = some (repO C a r) := by
  obtain ⟨o, h1, h2⟩ := Cells.at (i := 0) h.c rfl
  rw [h2]; exact h1.symm
theorem RepAt.cell (h : RepAt K C CC M G a r) (i : Nat) (hb : a.cells[i]? = some b) (ho : (a.cont C r)[i]? = some o) : M b = some o := by
  obtain ⟨o', h1, h2⟩ := Cells.at (i := i) h.c hb
  rw [h2, ← ho]; exact h1.symm
/-- a cell of its own is written -/
theorem RepS.put (h : RepS K C CC M0 a0 M G a r) (i : Nat) (a' : RepA) (r' : Rpl) (hb : a.cells[i]? = some b) (ho : ∀ xs, o ≠ .tup xs) (hc : a'.cells = a.cells) (hp : a'.p = a.p) (hv : a'.cont C r' = (a.cont C r).set i o) (d : RepD K CC G a' r') : RepS K C CC M0 a0 (upd M b o) G a' r' where
  t := ⟨by rw [hc, hv]; exact Cells.put h.t.n h.t.c hb, by rw [hc]; exact h.t.n, d, h.t.nt.upd ho⟩
  f := h.f.trans ⟨fun x u e n => upd_ne' e fun z => n (z ▸ List.mem_of_getElem? hb), fun x m => .inl (by rw [← hc]; exact m), hp⟩
/-- a new cell takes the place of one -/
theorem RepS.swap (h : RepS K C CC M0 a0 M G a r) (i : Nat) (a' : RepA) (r' : Rpl) {o2 : HO} (hb : M b = none) (hi : i ≠ 0) (ho : ∀ xs, o ≠ .tup xs) (hc : a'.cells = a.cells.set i b) (hp : a'.p = a.p) (hv : a'.cont C r' = ((a.cont C r).set i o).set 0 o2) (h2 : ∀ xs, o2 ≠ .tup xs) (d : RepD K CC G a' r') : RepS K C CC M0 a0 (upd (upd M b o) a.p o2) G a' r' where
  t := by
    have nb : b ∉ a.cells := fun m => by
      obtain ⟨u, e⟩ := Cells.ex h.t.c m
      rw [hb] at e; cases e
    refine ⟨?_, ?_, d, (h.t.nt.upd ho).upd h2⟩
    · rw [hc, hv]
      refine Cells.put (nodup_set h.t.n nb i) (Cells.swap h.t.c hb) ?_
      rw [List.getElem?_set_ne hi]; rfl
    · rw [hc]; exact nodup_set h.t.n nb i
  f := h.f.trans ⟨fun x u e n => upd_ne' (upd_ne' e (ne_of_none e hb)) fun z => n (z ▸ List.mem_cons_self), fun x m => by
    rw [hc] at m
    rcases List.mem_or_eq_of_mem_set m with m | rfl
    · exact .inl m
    · exact .inr hb, hp⟩
theorem dp_tup {v : V} {ds : List PyData} (h : Dp K G v (.tuple ds)) : ∃ a xs, v = .ref a ∧ SqT K G a xs ∧ DpAll K G xs ds := by
  cases h with
  | tup h1 h2 => exact ⟨_, _, rfl, h1, h2⟩
theorem dp_intE {v : V} {n : Int} (h : Dp K G v (.int n)) : v = .int n := by cases h; rfl
theorem dp_strE {v : V} {n : Str} (h : Dp K G v (.str n)) : v = .str n := by cases h; rfl
theorem dpAll_consE {vs : List V} {d : PyData} {ds : List PyData} (h : DpAll K G vs (d :: ds)) : ∃ x xs, vs = x :: xs ∧ Dp K G x d ∧ DpAll K G xs ds := by
  cases h with
  | cons h1 h2 => exact ⟨_, _, rfl, h1, h2⟩
theorem dpAll_nilE {vs : List V} (h : DpAll K G vs []) : vs = [] := by cases h; rfl
theorem dpAll_intsE : ∀ {ms : List Int} {vs : List V}, DpAll K G vs (ms.map .int) → vs = ms.map V.int
  | [], _, h => dpAll_nilE h
  | m :: ms, _, h => by
    obtain ⟨x, xs, rfl, h1, h2⟩ := dpAll_consE h
    rw [dp_intE h1, dpAll_intsE h2]; rfl
theorem dp_ints {v : V} {ms : List Int} (h : Dp K G v (intsD ms)) : ∃ a, v = .ref a ∧ SqT K G a (ms.map V.int) := by
  obtain ⟨a, xs, h1, h2, h3⟩ := dp_tup h
  rw [dpAll_intsE h3] at h2
  exact ⟨a, h1, h2⟩
theorem dpAll_ints (ms : List Int) : DpAll K G (ms.map V.int) (ms.map .int) := by
  induction ms with
  | nil => exact .nil
  | cons m r ih => exact .cons (.int m) ih
theorem dp_intsT {a : Addr} {ms : List Int} (h : SqT K G a (ms.map V.int)) : Dp K G (.ref a) (intsD ms) := .tup h (dpAll_ints ms)
theorem dp_rc {v : V} {c : RC} (h : Dp K G v (rcD c)) : ∃ a xs, v = .ref a ∧ SqT K G a (.str c.w :: xs) ∧ DpAll K G xs c.ds := by
  obtain ⟨a, xs, h1, h2, h3⟩ := dp_tup h
  obtain ⟨x, ys, rfl, h4, h5⟩ := dpAll_consE h3
  rw [dp_strE h4] at h2
  exact ⟨a, ys, h1, h2, h5⟩
theorem dp_rn {v : V} {e : RN} (h : Dp K G v (rnD e)) : ∃ a x, v = .ref a ∧ SqT K G a [.int e.t, x] ∧ Dp K G x (rcD e.c) := by
  obtain ⟨a, xs, h1, h2, h3⟩ := dp_tup h
  obtain ⟨x, ys, rfl, h4, h5⟩ := dpAll_consE h3
  obtain ⟨y, zs, rfl, h6, h7⟩ := dpAll_consE h5
  rw [dp_intE h4, dpAll_nilE h7] at h2
  exact ⟨a, y, h1, h2, h6⟩
theorem dp_rb {v : V} {b : RB} (h : Dp K G v (rbD b)) : ∃ a m x, v = .ref a ∧ SqT K G a [.int b.i, .int b.t, .ref m, x] ∧ SqT K G m (b.ms.map V.int) ∧ Dp K G x b.pic := by
  obtain ⟨a, xs, h1, h2, h3⟩ := dp_tup h
  obtain ⟨x, ys, rfl, h4, h5⟩ := dpAll_consE h3
  obtain ⟨y, zs, rfl, h6, h7⟩ := dpAll_consE h5
  obtain ⟨z, us, rfl, h8, h9⟩ := dpAll_consE h7
  obtain ⟨u, ws, rfl, h10, h11⟩ := dpAll_consE h9
  obtain ⟨m, rfl, hm⟩ := dp_ints h8
  rw [dp_intE h4, dp_intE h6, dpAll_nilE h11] at h2
  exact ⟨a, m, u, h1, h2, hm, h10⟩
theorem dpAll_at : ∀ {vs : List V} {ds : List PyData} {i : Nat} {d : PyData}, DpAll K G vs ds → ds[i]? = some d → ∃ v, vs[i]? = some v ∧ Dp K G v d
  | _, _, _, _, .nil, e => by simp at e
  | _, _, 0, _, .cons h _, e => by
    have e := Option.some.inj e
    subst e
    exact ⟨_, rfl, h⟩
  | _, _, i + 1, _, .cons _ t, e => by
    obtain ⟨o, h1, h2⟩ := dpAll_at (i := i) t (by simpa using e)
    exact ⟨o, by simpa using h1, h2⟩
theorem dpAll_drop : ∀ {vs : List V} {ds : List PyData} (i : Nat), DpAll K G vs ds → DpAll K G (vs.drop i) (ds.drop i)
  | _, _, 0, h => h
  | _, _, _ + 1, .nil => .nil
  | _, _, i + 1, .cons _ t => dpAll_drop i t
theorem dpAll_take : ∀ {vs : List V} {ds : List PyData} (i : Nat), DpAll K G vs ds → DpAll K G (vs.take i) (ds.take i)
  | _, _, 0, _ => .nil
  | _, _, _ + 1, .nil => .nil
  | _, _, i + 1, .cons h t => .cons h (dpAll_take i t)
end
theorem RepAt.bs {K : PySem.W.Frag} {C CC : Addr} {M G : Hp} {a : RepA} {r : Rpl} (h : RepAt K C CC M G a r) : (r.base = none ∧ a.bv = .non) ∨ ∃ b q m x, r.base = some b ∧ a.bv = .ref q ∧ SqT K G q [.int b.i, .int b.t, .ref m, x] ∧ SqT K G m (b.ms.map V.int) ∧ Dp K G x b.pic := by
  have := h.d.b
  cases e : r.base with
  | none => rw [e] at this; exact .inl ⟨rfl, this⟩
  | some b =>
    rw [e] at this
    obtain ⟨q, m, x, h1, h2, h3, h4⟩ := dp_rb this
    exact .inr ⟨b, q, m, x, rfl, h1, h2, h3, h4⟩
theorem RepAt.en {K : PySem.W.Frag} {C CC : Addr} {M G : Hp} {a : RepA} {r : Rpl} (h : RepAt K C CC M G a r) : M a.en = some (.lst a.ev) := h.cell 1 rfl rfl
/-! ### what the methods do -/
def lastI (r : Rpl) : Int := match r.base with
  | none => -1
  | some b => b.i + r.ents.length
def membersOf (b : RB) (es : List RN) : Nat → List Int
  | 0 => b.ms
  | n + 1 => match es[n]? with
    | some e => if isCh e.c = true then chMs e.c else membersOf b es n
    | none => membersOf b es n
def membersAt (r : Rpl) (i : Int) : List Int := match r.base with
  | none => []
  | some b => membersOf b r.ents (i - b.i).toNat
def membersR (r : Rpl) : List Int := match r.base with
  | none => []
  | some b => membersOf b r.ents r.ents.length
def othersR (r : Rpl) : List Int := (membersR r).filter fun m => decide (m ≠ r.me)
def termAt (r : Rpl) (i : Int) : Int := match r.base with
  | none => 0
  | some b => if i = b.i then b.t else ((r.ents[(i - b.i - 1).toNat]?).map (·.t)).getD 0
def lastT (r : Rpl) : Int := match r.base with
  | none => 0
  | some _ => termAt r (lastI r)
def addLetter (r : Rpl) (d : PyData) : Rpl := { r with letters := r.letters ++ [d] }
def addRecord (r : Rpl) (d : PyData) : Rpl := { r with records := r.records ++ [d] }
def oID : Option Int → PyData
  | none => .none
  | some n => .int n
def setTerm (r : Rpl) (t : Int) (v : Option Int) : Rpl := { r with term := t, voted := v, records := r.records ++ [.tuple [.str "term", .int r.group, .int t, oID v]] }
def attachR (r : Rpl) (e : RN) : Rpl := { r with ents := r.ents ++ [e], records := r.records ++ [.tuple [.str "entry", .int r.group, .int (lastI { r with ents := r.ents ++ [e] }), .int e.t, rcD e.c]] }
/-- sizes -/
def Rpl.sz (r : Rpl) : Nat := r.ents.length + r.ledger.length + r.records.length + r.letters.length + r.answers.length + r.votes.length + r.ahead.length + r.known.length + r.tokens.length
structure OkR (r : Rpl) : Prop where
  b : ∀ b, r.base = some b → b.ms.length ≤ 50 ∧ 0 ≤ b.i ∧ b.i ≤ 1000000000000
  e : ∀ e ∈ r.ents, OkC e.c
theorem membersOf_ok {b : RB} {es : List RN} (h1 : b.ms.length ≤ 50) (h2 : ∀ e ∈ es, OkC e.c) : ∀ n, (membersOf b es n).length ≤ 50
  | 0 => h1
  | n + 1 => by
    unfold membersOf
    cases h : es[n]? with
    | none => exact membersOf_ok h1 h2 n
    | some e =>
      show (if isCh e.c = true then chMs e.c else membersOf b es n).length ≤ 50
      split
      · rename_i q
        exact (h2 e (List.mem_of_getElem? h) q).2
      · exact membersOf_ok h1 h2 n
theorem membersR_ok {r : Rpl} (h : OkR r) : (membersR r).length ≤ 50 := by
  unfold membersR
  cases hb : r.base with
  | none => exact Nat.zero_le _
  | some b => exact membersOf_ok (h.b b hb).1 h.e _

/-! ### steps -/
def Rng3D (g : TG) (t : TS) (D : Ends) (σ : L2.St) (vs : List V) (H : Hp) : Prop := ∃ (i j c : Int) (n : Nat), vs = [.int i, .int j, .int c] ∧ RgC i j c n ∧ ∃ W : Nat → Nat → L2.St → Hp → Prop, (∃ m, W 0 m σ H) ∧ ∀ k m σ H, W k m σ H →
      ((Itc i c n).stop k H ∧ D.nx σ H) ∨ ((Itc i c n).go k H ∧ ∃ N : L2.St → Hp → Prop, (∀ σ' H', N σ' H' → ∃ m', m' < m ∧ W (k + 1) m' σ' H') ∧ ∀ x H', (Itc i c n).yld k H x H' → g x σ H' fun σ2 H2 => t { D with nx := N, ct := N, bk := D.nx } σ2 H2)
theorem w_forR3 {ta : TA} {g : TG} {t : TS} {D : Ends} {σ : L2.St} {H : Hp} (h : ta σ H fun vs H1 => Rng3D g t D σ vs H1) : tFor (iRng3 ta) g t D σ H := h
theorem w_rngD {g : TG} {t : TS} {D : Ends} {σ : L2.St} {H : Hp} {a b : Int} (Pv : Nat → L2.St → Hp → Prop) (a1 : -1000000000000000 ≤ a) (a2 : a ≤ 1000000000000000) (b1 : -1000000000000000 ≤ b) (b2 : b ≤ 1000000000000000) (h0 : Pv 0 σ H)
    (hs : ∀ k σ H, k < (a - b).toNat → Pv k σ H → g (.int (a - (k : Nat))) σ H fun σ2 H2 => t { D with nx := Pv (k + 1), ct := Pv (k + 1), bk := D.nx } σ2 H2) (hd : ∀ σ H, Pv (a - b).toNat σ H → D.nx σ H) : Rng3D g t D σ [.int a, .int b, .int (-1)] H :=
  ⟨a, b, -1, (a - b).toNat, rfl, RgC.neg (by omega) (by omega) (by omega) (by omega), for_rangeC Pv h0 (fun k σ H hk p => by rw [show a + (k : Nat) * -1 = a - (k : Nat) by omega]; exact hs k σ H hk p) hd⟩
theorem w_testP {c : TT} {σ : L2.St} {H : Hp} {QB : Bool → Hp → Prop} (P : Bool → Hp → Prop) (rest : ∀ b H, P b H → QB b H) (first : (∀ b H, P b H → QB b H) → c σ H QB) : c σ H QB := first rest
local macro_rules
  | `(tactic| walk_at "v") => `(tactic| first
    | with_reducible refine w_forR3 ?_
    | with_reducible refine w_forE (tl := tMeth _ _ _ _ _ _ _) ?_)
/-! ### replicas: writes -/
section
variable {K : PySem.W.Frag} {C CC : Addr} {M0 M M' G G' H : Hp} {a0 a a' : RepA} {r r' : Rpl} {b : Addr} {o : HO} {i : Nat} {x : V} {d : PyData}
theorem RepAt.plus (h : RepAt K C CC M G a r) (hb : M b = none) (ho : ∀ xs, o ≠ .tup xs) : RepAt K C CC (upd M b o) G a r :=
  ⟨L2.Paired.mapP h.c fun _ _ e => upd_ne' e (ne_of_none e hb), h.n, h.d, h.nt.upd ho⟩
theorem RepS.plus (h : RepS K C CC M0 a0 M G a r) (hb : M b = none) (ho : ∀ xs, o ≠ .tup xs) (n0 : b ∉ a0.cells) (h0 : M0 b = none) : RepS K C CC M0 a0 (upd M b o) G a r :=
  ⟨h.t.plus hb ho, ⟨fun c u e n => upd_ne' (h.f.kp c u e n) (fun z => by rw [z, h0] at e; cases e), h.f.nw, h.f.pe⟩⟩
theorem RepS.f_term (h : RepS K C CC M0 a0 M G a r) (t : Int) : RepS K C CC M0 a0 (upd M a.p (repO C a { r with term := t })) G a { r with term := t } :=
  h.put 0 a _ rfl (fun _ z => nomatch z) rfl rfl rfl ⟨h.t.d.b, h.t.d.s, h.t.d.en, h.t.d.le, h.t.d.rc, h.t.d.lt, h.t.d.an, h.t.d.bi, h.t.d.tq⟩
theorem RepS.f_voted (h : RepS K C CC M0 a0 M G a r) (t : Option Int) : RepS K C CC M0 a0 (upd M a.p (repO C a { r with voted := t })) G a { r with voted := t } :=
  h.put 0 a _ rfl (fun _ z => nomatch z) rfl rfl rfl ⟨h.t.d.b, h.t.d.s, h.t.d.en, h.t.d.le, h.t.d.rc, h.t.d.lt, h.t.d.an, h.t.d.bi, h.t.d.tq⟩
theorem RepS.f_role (h : RepS K C CC M0 a0 M G a r) (t : Str) : RepS K C CC M0 a0 (upd M a.p (repO C a { r with role := t })) G a { r with role := t } :=
  h.put 0 a _ rfl (fun _ z => nomatch z) rfl rfl rfl ⟨h.t.d.b, h.t.d.s, h.t.d.en, h.t.d.le, h.t.d.rc, h.t.d.lt, h.t.d.an, h.t.d.bi, h.t.d.tq⟩
theorem RepS.f_leader (h : RepS K C CC M0 a0 M G a r) (t : Option Int) : RepS K C CC M0 a0 (upd M a.p (repO C a { r with leader := t })) G a { r with leader := t } :=
  h.put 0 a _ rfl (fun _ z => nomatch z) rfl rfl rfl ⟨h.t.d.b, h.t.d.s, h.t.d.en, h.t.d.le, h.t.d.rc, h.t.d.lt, h.t.d.an, h.t.d.bi, h.t.d.tq⟩
theorem RepS.f_cm (h : RepS K C CC M0 a0 M G a r) (t : Int) : RepS K C CC M0 a0 (upd M a.p (repO C a { r with cm := t })) G a { r with cm := t } :=
  h.put 0 a _ rfl (fun _ z => nomatch z) rfl rfl rfl ⟨h.t.d.b, h.t.d.s, h.t.d.en, h.t.d.le, h.t.d.rc, h.t.d.lt, h.t.d.an, h.t.d.bi, h.t.d.tq⟩
theorem RepS.f_ap (h : RepS K C CC M0 a0 M G a r) (t : Int) : RepS K C CC M0 a0 (upd M a.p (repO C a { r with ap := t })) G a { r with ap := t } :=
  h.put 0 a _ rfl (fun _ z => nomatch z) rfl rfl rfl ⟨h.t.d.b, h.t.d.s, h.t.d.en, h.t.d.le, h.t.d.rc, h.t.d.lt, h.t.d.an, h.t.d.bi, h.t.d.tq⟩
theorem RepS.f_du (h : RepS K C CC M0 a0 M G a r) (t : Int) : RepS K C CC M0 a0 (upd M a.p (repO C a { r with du := t })) G a { r with du := t } :=
  h.put 0 a _ rfl (fun _ z => nomatch z) rfl rfl rfl ⟨h.t.d.b, h.t.d.s, h.t.d.en, h.t.d.le, h.t.d.rc, h.t.d.lt, h.t.d.an, h.t.d.bi, h.t.d.tq⟩
theorem RepS.a_le (h : RepS K C CC M0 a0 M G a r) (hx : Dp K G x d) : RepS K C CC M0 a0 (upd M a.le (.lst (a.lev ++ [x]))) G { a with lev := a.lev ++ [x] } { r with ledger := r.ledger ++ [d] } :=
  h.put 2 { a with lev := a.lev ++ [x] } _ rfl (fun _ z => nomatch z) rfl rfl rfl ⟨h.t.d.b, h.t.d.s, h.t.d.en, dpAll_snoc h.t.d.le hx, h.t.d.rc, h.t.d.lt, h.t.d.an, h.t.d.bi, h.t.d.tq⟩
theorem RepAt.o_le (h : RepAt K C CC M G a r) : M a.le = some (.lst a.lev) := h.cell 2 rfl rfl
theorem RepS.c_le (h : RepS K C CC M0 a0 M G a r) : RepS K C CC M0 a0 (upd M a.le (.lst [])) G { a with lev := [] } { r with ledger := [] } :=
  h.put 2 { a with lev := [] } _ rfl (fun _ z => nomatch z) rfl rfl rfl ⟨h.t.d.b, h.t.d.s, h.t.d.en, .nil, h.t.d.rc, h.t.d.lt, h.t.d.an, h.t.d.bi, h.t.d.tq⟩
theorem RepS.a_rc (h : RepS K C CC M0 a0 M G a r) (hx : Dp K G x d) : RepS K C CC M0 a0 (upd M a.rc (.lst (a.rcv ++ [x]))) G { a with rcv := a.rcv ++ [x] } { r with records := r.records ++ [d] } :=
  h.put 3 { a with rcv := a.rcv ++ [x] } _ rfl (fun _ z => nomatch z) rfl rfl rfl ⟨h.t.d.b, h.t.d.s, h.t.d.en, h.t.d.le, dpAll_snoc h.t.d.rc hx, h.t.d.lt, h.t.d.an, h.t.d.bi, h.t.d.tq⟩
theorem RepAt.o_rc (h : RepAt K C CC M G a r) : M a.rc = some (.lst a.rcv) := h.cell 3 rfl rfl
theorem RepS.c_rc (h : RepS K C CC M0 a0 M G a r) : RepS K C CC M0 a0 (upd M a.rc (.lst [])) G { a with rcv := [] } { r with records := [] } :=
  h.put 3 { a with rcv := [] } _ rfl (fun _ z => nomatch z) rfl rfl rfl ⟨h.t.d.b, h.t.d.s, h.t.d.en, h.t.d.le, .nil, h.t.d.lt, h.t.d.an, h.t.d.bi, h.t.d.tq⟩
theorem RepS.a_lt (h : RepS K C CC M0 a0 M G a r) (hx : Dp K G x d) : RepS K C CC M0 a0 (upd M a.lt (.lst (a.ltv ++ [x]))) G { a with ltv := a.ltv ++ [x] } { r with letters := r.letters ++ [d] } :=
  h.put 4 { a with ltv := a.ltv ++ [x] } _ rfl (fun _ z => nomatch z) rfl rfl rfl ⟨h.t.d.b, h.t.d.s, h.t.d.en, h.t.d.le, h.t.d.rc, dpAll_snoc h.t.d.lt hx, h.t.d.an, h.t.d.bi, h.t.d.tq⟩
theorem RepAt.o_lt (h : RepAt K C CC M G a r) : M a.lt = some (.lst a.ltv) := h.cell 4 rfl rfl
theorem RepS.c_lt (h : RepS K C CC M0 a0 M G a r) : RepS K C CC M0 a0 (upd M a.lt (.lst [])) G { a with ltv := [] } { r with letters := [] } :=
  h.put 4 { a with ltv := [] } _ rfl (fun _ z => nomatch z) rfl rfl rfl ⟨h.t.d.b, h.t.d.s, h.t.d.en, h.t.d.le, h.t.d.rc, .nil, h.t.d.an, h.t.d.bi, h.t.d.tq⟩
theorem RepS.a_an (h : RepS K C CC M0 a0 M G a r) (hx : Dp K G x d) : RepS K C CC M0 a0 (upd M a.an (.lst (a.anv ++ [x]))) G { a with anv := a.anv ++ [x] } { r with answers := r.answers ++ [d] } :=
  h.put 5 { a with anv := a.anv ++ [x] } _ rfl (fun _ z => nomatch z) rfl rfl rfl ⟨h.t.d.b, h.t.d.s, h.t.d.en, h.t.d.le, h.t.d.rc, h.t.d.lt, dpAll_snoc h.t.d.an hx, h.t.d.bi, h.t.d.tq⟩
theorem RepAt.o_an (h : RepAt K C CC M G a r) : M a.an = some (.lst a.anv) := h.cell 5 rfl rfl
theorem RepS.c_an (h : RepS K C CC M0 a0 M G a r) : RepS K C CC M0 a0 (upd M a.an (.lst [])) G { a with anv := [] } { r with answers := [] } :=
  h.put 5 { a with anv := [] } _ rfl (fun _ z => nomatch z) rfl rfl rfl ⟨h.t.d.b, h.t.d.s, h.t.d.en, h.t.d.le, h.t.d.rc, h.t.d.lt, .nil, h.t.d.bi, h.t.d.tq⟩
theorem RepS.a_en (h : RepS K C CC M0 a0 M G a r) {e : RN} (hx : Dp K G x (rnD e)) : RepS K C CC M0 a0 (upd M a.en (.lst (a.ev ++ [x]))) G { a with ev := a.ev ++ [x] } { r with ents := r.ents ++ [e] } :=
  h.put 1 { a with ev := a.ev ++ [x] } _ rfl (fun _ z => nomatch z) rfl rfl rfl ⟨h.t.d.b, h.t.d.s, by
    show DpAll K G (a.ev ++ [x]) ((r.ents ++ [e]).map rnD)
    rw [List.map_append]
    exact dpAll_snoc h.t.d.en hx, h.t.d.le, h.t.d.rc, h.t.d.lt, h.t.d.an, h.t.d.bi, h.t.d.tq⟩
theorem RepAt.o_ah (h : RepAt K C CC M G a r) : M a.ah = some (.dK (tk r.ahead)) := h.cell 8 rfl rfl
theorem RepS.p_ah (h : RepS K C CC M0 a0 M G a r) (k v : Int) : RepS K C CC M0 a0 (upd M a.ah (.dK (putK (tk r.ahead) (.inl k) (.int v)))) G a { r with ahead := putI r.ahead k v } := by
  rw [tk_put]
  exact h.put 8 a _ rfl (fun _ z => nomatch z) rfl rfl rfl ⟨h.t.d.b, h.t.d.s, h.t.d.en, h.t.d.le, h.t.d.rc, h.t.d.lt, h.t.d.an, h.t.d.bi, h.t.d.tq⟩
theorem RepS.s_ah (h : RepS K C CC M0 a0 M G a r) (hb : M b = none) : RepS K C CC M0 a0 (upd (upd M b (.dK [])) a.p (repO C { a with ah := b } { r with ahead := [] })) G { a with ah := b } { r with ahead := [] } :=
  h.swap 8 { a with ah := b } _ hb (by decide) (fun _ z => nomatch z) rfl rfl rfl (fun _ z => nomatch z) ⟨h.t.d.b, h.t.d.s, h.t.d.en, h.t.d.le, h.t.d.rc, h.t.d.lt, h.t.d.an, h.t.d.bi, h.t.d.tq⟩
theorem RepAt.o_kn (h : RepAt K C CC M G a r) : M a.kn = some (.dK (tk r.known)) := h.cell 9 rfl rfl
theorem RepS.p_kn (h : RepS K C CC M0 a0 M G a r) (k v : Int) : RepS K C CC M0 a0 (upd M a.kn (.dK (putK (tk r.known) (.inl k) (.int v)))) G a { r with known := putI r.known k v } := by
  rw [tk_put]
  exact h.put 9 a _ rfl (fun _ z => nomatch z) rfl rfl rfl ⟨h.t.d.b, h.t.d.s, h.t.d.en, h.t.d.le, h.t.d.rc, h.t.d.lt, h.t.d.an, h.t.d.bi, h.t.d.tq⟩
theorem RepS.s_kn (h : RepS K C CC M0 a0 M G a r) (hb : M b = none) : RepS K C CC M0 a0 (upd (upd M b (.dK [])) a.p (repO C { a with kn := b } { r with known := [] })) G { a with kn := b } { r with known := [] } :=
  h.swap 9 { a with kn := b } _ hb (by decide) (fun _ z => nomatch z) rfl rfl rfl (fun _ z => nomatch z) ⟨h.t.d.b, h.t.d.s, h.t.d.en, h.t.d.le, h.t.d.rc, h.t.d.lt, h.t.d.an, h.t.d.bi, h.t.d.tq⟩
theorem RepAt.o_vo (h : RepAt K C CC M G a r) : M a.vo = some (.dK (votK r.votes)) := h.cell 7 rfl rfl
theorem RepS.s_vo (h : RepS K C CC M0 a0 M G a r) (hb : M b = none) (vs : List Int) : RepS K C CC M0 a0 (upd (upd M b (.dK (votK vs))) a.p (repO C { a with vo := b } { r with votes := vs })) G { a with vo := b } { r with votes := vs } :=
  h.swap 7 { a with vo := b } _ hb (by decide) (fun _ z => nomatch z) rfl rfl rfl (fun _ z => nomatch z) ⟨h.t.d.b, h.t.d.s, h.t.d.en, h.t.d.le, h.t.d.rc, h.t.d.lt, h.t.d.an, h.t.d.bi, h.t.d.tq⟩
def putV (vs : List Int) (n : Int) : List Int := if n ∈ vs then vs else vs ++ [n]
theorem votK_val {n : Int} : ∀ {vs : List Int}, (valV (votK vs) (.inl n)).isSome = decide (n ∈ vs)
  | [] => rfl
  | m :: r => by
    show (valV ((Sum.inl m, V.bl true) :: votK r) (.inl n)).isSome = _
    by_cases q : m = n
    · subst q
      rw [valV_hd, decide_eq_true List.mem_cons_self]; rfl
    · rw [valV_tl fun z => q (Sum.inl.inj z), votK_val (vs := r)]
      refine decide_eq_decide.mpr ⟨fun z => List.mem_cons_of_mem _ z, fun z => ?_⟩
      rcases List.mem_cons.mp z with z | z
      · exact absurd z.symm q
      · exact z
theorem votK_put {vs : List Int} {n : Int} : putK (votK vs) (.inl n) (.bl true) = votK (putV vs n) := by
  unfold putK putV
  rw [valV_any, votK_val]
  by_cases q : n ∈ vs
  · rw [if_pos q, if_pos (decide_eq_true q)]
    unfold votK
    rw [List.map_map]
    refine List.map_congr_left fun m _ => ?_
    show (if (Sum.inl m : Key) = Sum.inl n then ((Sum.inl m : Key), V.bl true) else ((Sum.inl m : Key), V.bl true)) = _
    split <;> rfl
  · rw [if_neg q, if_neg (by rw [decide_eq_false q]; exact Bool.false_ne_true)]
    unfold votK
    rw [List.map_append]; rfl
theorem RepS.p_vo (h : RepS K C CC M0 a0 M G a r) (k : Int) : RepS K C CC M0 a0 (upd M a.vo (.dK (putK (votK r.votes) (.inl k) (.bl true)))) G a { r with votes := putV r.votes k } := by
  rw [votK_put]
  exact h.put 7 a _ rfl (fun _ z => nomatch z) rfl rfl rfl ⟨h.t.d.b, h.t.d.s, h.t.d.en, h.t.d.le, h.t.d.rc, h.t.d.lt, h.t.d.an, h.t.d.bi, h.t.d.tq⟩
theorem RepAt.o_tq (h : RepAt K C CC M G a r) : M a.tq = some (.dK a.tkv) := h.cell 10 rfl rfl
theorem RepS.s_tq (h : RepS K C CC M0 a0 M G a r) (hb : M b = none) : RepS K C CC M0 a0 (upd (upd M b (.dK [])) a.p (repO C { a with tq := b, tkv := [] } { r with tokens := [] })) G { a with tq := b, tkv := [] } { r with tokens := [] } :=
  h.swap 10 { a with tq := b, tkv := [] } _ hb (by decide) (fun _ z => nomatch z) rfl rfl rfl (fun _ z => nomatch z) ⟨h.t.d.b, h.t.d.s, h.t.d.en, h.t.d.le, h.t.d.rc, h.t.d.lt, h.t.d.an, h.t.d.bi, .nil⟩
theorem RepS.p_tq (h : RepS K C CC M0 a0 M G a r) (k : Int) (hx : Dp K G x d) : RepS K C CC M0 a0 (upd M a.tq (.dK (putK a.tkv (.inl k) x))) G { a with tkv := putK a.tkv (.inl k) x } { r with tokens := putA r.tokens k d } :=
  h.put 10 { a with tkv := putK a.tkv (.inl k) x } _ rfl (fun _ z => nomatch z) rfl rfl rfl ⟨h.t.d.b, h.t.d.s, h.t.d.en, h.t.d.le, h.t.d.rc, h.t.d.lt, h.t.d.an, h.t.d.bi, h.t.d.tq.put keyI_inj hx⟩
theorem Cells.cut {M : Hp} : ∀ {as bs : List Addr} {os us : List HO}, as.length = os.length → Cells M (as ++ bs) (os ++ us) → Cells M as os
  | [], _, [], _, _, _ => .nil
  | a :: as, bs, o :: os, us, l, h => by
    have h : Paired (fun a o => M a = some o) (a :: (as ++ bs)) (o :: (os ++ us)) := h
    cases h with
    | cons h1 h2 => exact .cons h1 (Cells.cut (by simpa using l) h2)
theorem Cells.app {M : Hp} : ∀ {as bs : List Addr} {os us : List HO}, Cells M as os → Cells M bs us → Cells M (as ++ bs) (os ++ us)
  | _, _, _, _, .nil, g => g
  | _, _, _, _, .cons h t, g => .cons h (Cells.app t g)
def RepA.hd (a : RepA) : List Addr := [a.p, a.en, a.le, a.rc, a.lt, a.an, a.bi, a.vo, a.ah, a.kn, a.tq]
/-- a new state, in a cell of its own -/
theorem RepS.stt (h : RepS K C CC M0 a0 M G a r) {n : Int} {dx : Addr} (hb : M b = none) : RepS K C CC M0 a0 (upd (upd M b (.ins CC dx (fl_Counter (.int n)))) a.p (repO C { a with sv := .ref b, sc := [b], so := [.ins CC dx (fl_Counter (.int n))] } { r with st := some (.cnt n) })) G { a with sv := .ref b, sc := [b], so := [.ins CC dx (fl_Counter (.int n))] } { r with st := some (.cnt n) } := by
  have nb : b ∉ a.cells := fun m => by
    obtain ⟨u, e⟩ := Cells.ex h.t.c m
    rw [hb] at e; cases e
  have c1 : Cells M a.hd [repO C a r, .lst a.ev, .lst a.lev, .lst a.rcv, .lst a.ltv, .lst a.anv, .lst a.biv, .dK (votK r.votes), .dK (tk r.ahead), .dK (tk r.known), .dK a.tkv] := Cells.cut (bs := a.sc) (us := a.so) rfl h.t.c
  have nh : a.hd.Nodup := (List.nodup_append.mp (show (a.hd ++ a.sc).Nodup from h.t.n)).1
  have nb1 : b ∉ a.hd := fun m => nb (show b ∈ a.hd ++ a.sc from List.mem_append_left _ m)
  have n2 : (a.hd ++ [b]).Nodup := by
    rw [List.nodup_append]
    exact ⟨nh, List.nodup_cons.mpr ⟨(fun z => nomatch z), List.nodup_nil⟩, fun x hx y hy e => nb1 (by rw [← List.mem_singleton.mp hy, ← e]; exact hx)⟩
  have c2 := Cells.app (c1.off (o := .ins CC dx (fl_Counter (.int n))) nb1) (show Cells (upd M b (.ins CC dx (fl_Counter (.int n)))) [b] [.ins CC dx (fl_Counter (.int n))] from .cons upd_same .nil)
  refine ⟨⟨Cells.put (i := 0) (o := repO C { a with sv := .ref b, sc := [b], so := [.ins CC dx (fl_Counter (.int n))] } { r with st := some (.cnt n) }) n2 c2 rfl, n2, ⟨h.t.d.b, ⟨b, dx, rfl, rfl, rfl⟩, h.t.d.en, h.t.d.le, h.t.d.rc, h.t.d.lt, h.t.d.an, h.t.d.bi, h.t.d.tq⟩, h.t.nt.updI.updI⟩, ?_⟩
  refine h.f.trans ⟨fun x u e n => upd_ne' (upd_ne' e (ne_of_none e hb)) fun z => n (z ▸ List.mem_cons_self), fun x m => ?_, rfl⟩
  rcases List.mem_append.mp (show x ∈ a.hd ++ [b] from m) with m | m
  · exact .inl (show x ∈ a.hd ++ a.sc from List.mem_append_left _ m)
  · rw [List.mem_singleton.mp m]; exact .inr hb
end
def RE (K : PySem.W.Frag) (C CC : Addr) (M0 : Hp) (a0 : RepA) (M' G' : Hp) (r' : Rpl) : Prop := ∃ a, RepS K C CC M0 a0 M' G' a r'
theorem tk_filter {l : List Int} {p : Int → Bool} {i : Nat} {m : Int} (h : l[i]? = some m) : (l.take (i + 1)).filter p = (l.take i).filter p ++ (if p m = true then [m] else []) := by
  rw [List.take_add_one, h, List.filter_append]
  show _ ++ List.filter p [m] = _
  rw [List.filter_cons, List.filter_nil]
theorem map_at {l : List Int} {i : Nat} {x : V} (h : (l.map V.int)[i]? = some x) : ∃ m, l[i]? = some m ∧ x = .int m := by
  rw [List.getElem?_map] at h
  cases e : l[i]? with
  | none => rw [e] at h; cases h
  | some m => rw [e] at h; exact ⟨m, rfl, (Option.some.inj h).symm⟩
def wakeR (r : Rpl) (n : Int) : Rpl := match r.base with
  | none => { r with du := lastI r }
  | some b => { r with du := lastI r, st := some (.cnt n), cm := b.i, ap := b.i }
def blankR (me group : Int) (base : Option RB) : Rpl := ⟨me, group, 0, none, base, [], "follower", none, -1, -1, -1, none, [], [], [], [], [], [], [], [], []⟩
def initR (me group : Int) (base : Option RB) (n : Int) : Rpl := wakeR (blankR me group base) n
theorem dp_oI {K : PySem.W.Frag} {G : Hp} (o : Option Int) : Dp K G (oI o) (oID o) := by
  cases o with
  | none => exact .non
  | some n => exact .int n
/-! ### Replica.last_index -/
abbrev s_Replica_last_index : Stmt := inClass (top 22) 1
abbrev n_Replica_last_index : List Str := ["self"]
theorem sc_Replica_last_index : FnScope n_Replica_last_index ["self"] (defScope s_Replica_last_index) := ⟨rfl, rfl, rfl, by decide +kernel, rfl, by decide +kernel, by decide +kernel⟩
def sp_Replica_last_index (K : PySem.W.Frag) (C CC : Addr) : Sp := Sg (α := RepA × Rpl) (fun x vs M G => vs = [.ref x.1.p] ∧ RepAt K C CC M G x.1 x.2) (fun x M _ v M' _ => v = .int (lastI x.2) ∧ M' = M)
theorem ok_Replica_last_index {P : Program} {w : World} {K : PySem.W.Frag} {mg : Str → Option Value} {base : Heap}
    {C_Replica : Addr} (T_Replica : Tx_Replica K mg C_Replica)
    {C_Counter : Addr} (T_Counter : Tx_Counter K mg C_Counter)
    {f pf : Addr} {fd : FuncData} (D : Dpr K C_Replica "last_index" "Replica.last_index" s_Replica_last_index ["self"] pf f fd)
    (b_len : mg "len" = none) : CalP P w K mg base CX0 1 C_Replica "last_index" (sp_Replica_last_index K C_Replica C_Counter) := by
  refine D.ok sc_Replica_last_index (fun vs H Q E h => ?_) fun cdv A outer s H vs Q E hr h => ?_
  · obtain ⟨x, M, G, j, ⟨rfl, _⟩, _⟩ := h; rfl
  obtain ⟨⟨a, r⟩, M, G, j, ⟨rfl, hR⟩, k⟩ := h
  dsimp only at hR k
  refine ⟨_, (pss_cons (ps_if (pt_cmp (pc_isN (pe_fld (pv 0) rfl)))
(pss_one (ps_ret (pe_un un_neg pe_int)))
pss_nil)
(pss_one (ps_ret (pe_op (op_uAddK (K := K) rfl) (pe_ix (ix_uK (K := K) rfl) (pe_fld (pv 0) rfl) pe_int (fun _ _ => rfl)) (pe_callB (call_uLenK (K := K) rfl) (by rfl) b_len PySem.boot_len (pa_cons (pe_fld (pv 0) rfl) pa_nil)))))), ?_⟩
  walk_at "start"
  (have hop := RepAt.op hR; refine w_fldM j hop T_Replica.cl T_Replica.n_base fl_Replica_base ?_; clear hop; walk_at "go")
  rcases hR.bs with ⟨hb, hv⟩ | ⟨b, q, m, x, hb, hv, hq, hm, hx⟩
  · rw [hv]
    rw [show decide (V.non = V.non) = true from decide_eq_true rfl]
    refine w_T ?_
    walk_at "go"
    refine k _ _ _ _ j (Same.refl G) ⟨?_, rfl⟩
    unfold lastI
    rw [hb]
  · rw [hv]
    rw [show decide (V.ref q = V.non) = false from decide_eq_false fun z => nomatch z]
    refine w_F ?_
    walk_at "go"
    (have hop := RepAt.op hR; refine w_fldM j hop T_Replica.cl T_Replica.n_base fl_Replica_base ?_; clear hop; walk_at "go")
    rw [hv]
    refine w_ixT j hq atI_0 ?_
    walk_at "go"
    (have hop := RepAt.op hR; refine w_fldM j hop T_Replica.cl T_Replica.n_entries fl_Replica_entries ?_; clear hop; walk_at "go")
    refine w_lenM j hR.en ?_
    walk_at "go"
    refine k _ _ _ _ j (Same.refl G) ⟨?_, rfl⟩
    unfold lastI
    rw [hb, dpAll_len hR.d.en, List.length_map]
/-! ### Counter.__init__ -/
abbrev s_Counter___init__ : Stmt := inClass (top 2) 0
abbrev n_Counter___init__ : List Str := ["self", "last"]
theorem sc_Counter___init__ : FnScope n_Counter___init__ ["self", "last"] (defScope s_Counter___init__) := ⟨rfl, rfl, rfl, by decide +kernel, rfl, by decide +kernel, by decide +kernel⟩
def sp_Counter___init__ (K : PySem.W.Frag) (C : Addr) : Sp := Sg (α := Addr × Addr × Int) (fun x vs M _ => vs = [.ref x.1, .int x.2.2] ∧ M x.1 = some (.ins C x.2.1 [])) (fun x M _ v M' _ => v = .non ∧ M' = upd M x.1 (.ins C x.2.1 (fl_Counter (.int x.2.2))))
theorem ok_Counter___init__ {P : Program} {w : World} {K : PySem.W.Frag} {mg : Str → Option Value} {base : Heap}
    {C_Counter : Addr} (T_Counter : Tx_Counter K mg C_Counter)
    {f : Addr} {fd : FuncData} (D : Did K C_Counter "Counter.__init__" s_Counter___init__ ["self", "last"] [V.int 0] f fd) : CalID P w K mg base CX0 1 C_Counter [V.int 0] (sp_Counter___init__ K C_Counter) := by
  refine D.ok sc_Counter___init__ (fun vs H Q E h => ?_) fun cdv A outer s H vs Q E hr h => ?_
  · obtain ⟨x, M, G, j, ⟨rfl, _⟩, _⟩ := h; rfl
  obtain ⟨⟨p, dx, n⟩, M, G, j, ⟨rfl, hp⟩, k⟩ := h
  dsimp only at hp k
  refine ⟨_, (pss_one (ps_fld (pv 0) (pv 1) rfl)), ?_⟩
  walk_at "start"
  refine w_setX j hp T_Counter.cl T_Counter.n_last (by show 0 < 1000; decide) fun H1 j1 => ?_
  rw [nf_Counter_last] at j1
  walk_at "go"
  exact k _ _ _ _ j1 (Same.refl _) ⟨rfl, rfl⟩
/-! ### state_of -/
abbrev s_state_of : Stmt := top 13
abbrev n_state_of : List Str := ["base", "picture"]
theorem sc_state_of : FnScope n_state_of ["base"] (defScope s_state_of) := ⟨rfl, rfl, rfl, by decide +kernel, rfl, by decide +kernel, by decide +kernel⟩
structure SoP where
  bv : V
  b : RB
  n : Int
def sp_state_of (K : PySem.W.Frag) (CC : Addr) : Sp := Sg (α := SoP) (fun x vs M G => vs = [x.bv] ∧ Dp K G x.bv (rbD x.b) ∧ x.b.pic = cntD x.n) (fun x M _ v M' _ => ∃ s dx, v = .ref s ∧ M s = none ∧ M' = upd M s (.ins CC dx (fl_Counter (.int x.n))))
theorem ok_state_of {P : Program} {w : World} {K : PySem.W.Frag} {mg : Str → Option Value} {base : Heap}
    {C_Counter : Addr} (T_Counter : Tx_Counter K mg C_Counter)
    {f : Addr} {fd : FuncData} (D : Dn K mg "state_of" s_state_of ["base"] f fd)
    (c_Counter___init__ : CalID P w K mg base CX0 1 C_Counter [V.int 0] (sp_Counter___init__ K C_Counter)) : Cal P w K mg base CX0 3 "state_of" (sp_state_of K C_Counter) := by
  refine D.ok sc_state_of (fun vs H Q E h => ?_) fun cdv A outer s H vs Q E hr h => ?_
  · obtain ⟨x, M, G, j, ⟨rfl, _⟩, _⟩ := h; rfl
  obtain ⟨⟨bv, b, n⟩, M, G, j, ⟨rfl, hb, hp⟩, k⟩ := h
  dsimp only at hb hp k
  refine ⟨_, (pss_cons (ps_set (i := 1) sc_state_of.nd rfl (Or.inl rfl) (pe_ix (ix_uK (K := K) rfl) (pv 0) pe_int (fun _ _ => rfl)))
(pss_cons (ps_if (pt_cmpR (op_uEqK (K := K) rfl hr) (pe_ix (ix_uK (K := K) rfl) (pv 1) pe_int (fun _ _ => rfl)) pe_str (nomark _))
(pss_one (ps_ret (pe_calID c_Counter___init__ T_Counter.gC hr (by first | decide | omega) (by rfl) (pa_cons (pe_ix (ix_uK (K := K) rfl) (pv 1) pe_int (fun _ _ => rfl)) pa_nil))))
pss_nil)
(pss_one ps_no))), ?_⟩
  obtain ⟨q, m, x, rfl, hq, hm, hx⟩ := dp_rb hb
  rw [hp] at hx
  obtain ⟨q2, xs, rfl, hq2, hxs⟩ := dp_tup hx
  obtain ⟨y, ys, rfl, hy, hys⟩ := dpAll_consE hxs
  obtain ⟨z, zs, rfl, hz, hzs⟩ := dpAll_consE hys
  obtain rfl := dpAll_nilE hzs
  obtain rfl := dp_strE hy
  obtain rfl := dp_intE hz
  walk_at "start"
  refine w_ixT j hq (atI_nat (j := 3) rfl) ?_
  walk_at "go"
  refine w_ixT j hq2 atI_0 ?_
  walk_at "go"
  refine w_ixT j hq2 (atI_nat (j := 1) rfl) ?_
  walk_at "go"
  refine w_makeX j fun s dx H1 j1 nM nG => ?_
  refine w_sg (s, dx, n) j1 ⟨rfl, upd_same⟩ fun v M2 G2 H2 j2 e2 ⟨ev, em⟩ => ⟨ev, ?_⟩
  exact k _ _ _ _ j2 e2 ⟨s, dx, rfl, nM, by rw [em]; exact upd_upd⟩
/-! ### Replica.wake -/
abbrev s_Replica_wake : Stmt := inClass (top 22) 10
abbrev n_Replica_wake : List Str := ["self"]
theorem sc_Replica_wake : FnScope n_Replica_wake ["self"] (defScope s_Replica_wake) := ⟨rfl, rfl, rfl, by decide +kernel, rfl, by decide +kernel, by decide +kernel⟩
structure WkP where
  a : RepA
  r : Rpl
  n : Int
def sp_Replica_wake (K : PySem.W.Frag) (C CC : Addr) : Sp := Sg (α := WkP) (fun x vs M G => vs = [.ref x.a.p] ∧ RepAt K C CC M G x.a x.r ∧ ∀ b, x.r.base = some b → b.pic = cntD x.n) (fun x M _ v M' G' => v = .non ∧ RE K C CC M x.a M' G' (wakeR x.r x.n))
theorem ok_Replica_wake {P : Program} {w : World} {K : PySem.W.Frag} {mg : Str → Option Value} {base : Heap}
    {C_Replica : Addr} (T_Replica : Tx_Replica K mg C_Replica)
    {C_Counter : Addr} (T_Counter : Tx_Counter K mg C_Counter)
    {f : Addr} {fd : FuncData} (D : Dm K C_Replica "wake" "Replica.wake" s_Replica_wake ["self"] f fd)
    (c_state_of : Cal P w K mg base CX0 3 "state_of" (sp_state_of K C_Counter))
    (c_Replica_last_index : CalP P w K mg base CX0 1 C_Replica "last_index" (sp_Replica_last_index K C_Replica C_Counter)) : CalM P w K mg base CX0 4 C_Replica "wake" (sp_Replica_wake K C_Replica C_Counter) := by
  refine D.ok sc_Replica_wake (fun vs H Q E h => ?_) fun cdv A outer s H vs Q E hr h => ?_
  · obtain ⟨x, M, G, j, ⟨rfl, _⟩, _⟩ := h; rfl
  obtain ⟨⟨a, r, n⟩, M, G, j, ⟨rfl, hR, hb⟩, k⟩ := h
  dsimp only at hR hb k
  refine ⟨_, (pss_cons (ps_fld (pv 0) (pe_calP c_Replica_last_index T_Replica.cl hr (by first | decide | omega) (pv 0) (by rfl)) rfl)
(pss_one (ps_if (pt_cmp (pc_notN (pe_fld (pv 0) rfl)))
(pss_cons (ps_fld (pv 0) (pe_cal c_state_of hr (by first | decide | omega) (by rfl) (pa_cons (pe_fld (pv 0) rfl) pa_nil)) rfl)
(pss_cons (ps_fld (pv 0) (pe_ix (ix_uK (K := K) rfl) (pe_fld (pv 0) rfl) pe_int (fun _ _ => rfl)) rfl)
(pss_one (ps_fld (pv 0) (pe_ix (ix_uK (K := K) rfl) (pe_fld (pv 0) rfl) pe_int (fun _ _ => rfl)) rfl))))
pss_nil))), ?_⟩
  walk_at "start"
  (have hop := RepAt.op hR; refine w_propM j hop ?_; clear hop)
  refine w_sg (a, r) j ⟨rfl, hR⟩ fun v M1 G1 H1 j1 e1 ⟨ev, em⟩ => ?_
  subst ev em
  have hS1 := hR.s.ex e1
  walk_at "go"
  (have hop := hS1.t.op; refine w_setX j1 hop T_Replica.cl T_Replica.n_durable (by show 21 < 1000; decide) fun H2 j2 => ?_; clear hop; rw [sf_Replica_durable] at j2)
  have hS2 := hS1.f_du (lastI r)
  walk_at "go"
  (have hop := RepAt.op hS2.t; refine w_fldM j2 hop T_Replica.cl T_Replica.n_base fl_Replica_base ?_; clear hop; walk_at "go")
  rcases hS2.t.bs with ⟨hb', hv⟩ | ⟨b, q, m, x, hb', hv, hq, hm, hx⟩
  · rw [hv]
    rw [show decide (V.non = V.non) = true from decide_eq_true rfl]
    refine w_nt ?_
    walk_at "go"
    have hb' : r.base = none := hb'
    refine k _ _ _ _ j2 e1 ⟨rfl, a, ?_⟩
    rw [show wakeR r n = { r with du := lastI r } by unfold wakeR; rw [hb']]
    exact hS2
  · rw [hv]
    rw [show decide (V.ref q = V.non) = false from decide_eq_false fun z => nomatch z]
    refine w_nf ?_
    walk_at "go"
    have hb' : r.base = some b := hb'
    (have hop := RepAt.op hS2.t; refine w_fldM j2 hop T_Replica.cl T_Replica.n_base fl_Replica_base ?_; clear hop; walk_at "go")
    have hd := hS2.t.d.b
    rw [hv, show ({ r with du := lastI r } : Rpl).base = some b from hb'] at hd
    rw [hv]
    refine w_sg (α := SoP) ⟨.ref q, b, n⟩ j2 ⟨rfl, hd, hb b hb'⟩ fun v M3 G3 H3 j3 e3 ⟨s, dx, ev, nM, em⟩ => ?_
    subst ev em
    have hq := st_mono e3 hq
    have hS3 := (hS2.ex e3).stt (n := n) (dx := dx) nM
    have ho := upd_ne' (a := s) (o := .ins C_Counter dx (fl_Counter (.int n))) hS2.t.op (ne_of_none hS2.t.op nM)
    walk_at "go"
    (have hop := ho; refine w_setX j3 hop T_Replica.cl T_Replica.n_state (by show 21 < 1000; decide) fun H4 j4 => ?_; clear hop; rw [sf_Replica_state] at j4)
    walk_at "go"
    (have hop := RepAt.op hS3.t; refine w_fldM j4 hop T_Replica.cl T_Replica.n_base fl_Replica_base ?_; clear hop; walk_at "go")
    rw [hv]
    refine w_ixT j4 hq atI_0 ?_
    walk_at "go"
    (have hop := hS3.t.op; refine w_setX j4 hop T_Replica.cl T_Replica.n_committed (by show 21 < 1000; decide) fun H5 j5 => ?_; clear hop; rw [sf_Replica_committed] at j5)
    have hS5 := hS3.f_cm b.i
    walk_at "go"
    (have hop := RepAt.op hS5.t; refine w_fldM j5 hop T_Replica.cl T_Replica.n_base fl_Replica_base ?_; clear hop; walk_at "go")
    rw [hv]
    refine w_ixT j5 hq atI_0 ?_
    walk_at "go"
    (have hop := hS5.t.op; refine w_setX j5 hop T_Replica.cl T_Replica.n_applied (by show 21 < 1000; decide) fun H6 j6 => ?_; clear hop; rw [sf_Replica_applied] at j6)
    have hS6 := hS5.f_ap b.i
    walk_at "go"
    refine k _ _ _ _ j6 (e1.trans e3) ⟨rfl, ?_⟩
    rw [show wakeR r n = { r with du := lastI r, st := some (.cnt n), cm := b.i, ap := b.i } by unfold wakeR; rw [hb']]
    exact ⟨_, hS6⟩
/-! ### Replica.__init__ -/
abbrev s_Replica___init__ : Stmt := inClass (top 22) 0
abbrev n_Replica___init__ : List Str := ["self", "me", "group", "base"]
theorem sc_Replica___init__ : FnScope n_Replica___init__ ["self", "me", "group", "base"] (defScope s_Replica___init__) := ⟨rfl, rfl, rfl, by decide +kernel, rfl, by decide +kernel, by decide +kernel⟩
structure IrP where
  p : Addr
  dx : Addr
  me : Int
  gr : Int
  bv : V
  b : Option RB
  n : Int
/-- cells made so far, beside the object -/
structure Mk0 (M0 M : Hp) (p : Addr) (f : HO) (as : List Addr) (os : List HO) : Prop where
  op : M p = some f
  c : Cells M as os
  n : as.Nodup
  np : p ∉ as
  nw : ∀ b ∈ as, M0 b = none
  kp : ∀ b o, M0 b = some o → b ≠ p → M b = some o
  nt : NoT M
theorem Mk0.fld {M0 M : Hp} {p : Addr} {f f' : HO} {as : List Addr} {os : List HO} (h : Mk0 M0 M p f as os) (ho : ∀ xs, f' ≠ .tup xs) : Mk0 M0 (upd M p f') p f' as os :=
  ⟨upd_same, h.c.off h.np, h.n, h.np, h.nw, fun b o e n => upd_ne' (h.kp b o e n) n, h.nt.upd ho⟩
theorem Mk0.new {M0 M : Hp} {p b : Addr} {f o f' : HO} {as : List Addr} {os : List HO} (h : Mk0 M0 M p f as os) (hb : M b = none) (h0 : ∃ u, M0 p = some u) (ho : ∀ xs, o ≠ .tup xs) (ho' : ∀ xs, f' ≠ .tup xs) : Mk0 M0 (upd (upd M b o) p f') p f' (as ++ [b]) (os ++ [o]) := by
  have bp : b ≠ p := fun z => by rw [z, h.op] at hb; cases hb
  have nb : b ∉ as := fun m => by
    obtain ⟨u, e⟩ := Cells.ex h.c m
    rw [hb] at e; cases e
  have np : p ∉ as ++ [b] := fun m => by
    rcases List.mem_append.mp m with m | m
    · exact h.np m
    · exact bp (List.mem_singleton.mp m).symm
  refine ⟨upd_same, (Cells.app (h.c.off nb) (.cons upd_same .nil)).off np, ?_, np, fun x m => ?_, fun x u e n => upd_ne' (upd_ne' (h.kp x u e n) (ne_of_none (h.kp x u e n) hb)) n, (h.nt.upd ho).upd ho'⟩
  · rw [List.nodup_append]
    exact ⟨h.n, List.nodup_cons.mpr ⟨(fun z => nomatch z), List.nodup_nil⟩, fun x hx y hy e => nb (by rw [← List.mem_singleton.mp hy, ← e]; exact hx)⟩
  · rcases List.mem_append.mp m with m | m
    · exact h.nw x m
    · rw [List.mem_singleton.mp m]
      cases e : M0 b with
      | none => rfl
      | some u => rw [h.kp b u e bp] at hb; cases hb
theorem nt_i {C dx : Addr} {fs : List (Str × V)} : ∀ xs, HO.ins C dx fs ≠ .tup xs := fun _ z => nomatch z
theorem nt_l {vs : List V} : ∀ xs, HO.lst vs ≠ .tup xs := fun _ z => nomatch z
theorem nt_k {vs : List (Key × V)} : ∀ xs, HO.dK vs ≠ .tup xs := fun _ z => nomatch z
def MadeR (K : PySem.W.Frag) (C CC : Addr) (M0 : Hp) (p : Addr) (M' G' : Hp) (r : Rpl) : Prop := ∃ a, RepAt K C CC M' G' a r ∧ a.p = p ∧ (∀ b o, M0 b = some o → b ≠ p → M' b = some o) ∧ ∀ b ∈ a.cells, b = p ∨ M0 b = none
def sp_Replica___init__ (K : PySem.W.Frag) (C CC : Addr) : Sp := Sg (α := IrP) (fun x vs M G => vs = [.ref x.p, .int x.me, .int x.gr, x.bv] ∧ M x.p = some (.ins C x.dx []) ∧ NoT M ∧ RbAt K G x.bv x.b ∧ ∀ b, x.b = some b → b.pic = cntD x.n) (fun x M _ v M' G' => v = .non ∧ MadeR K C CC M x.p M' G' (initR x.me x.gr x.b x.n))
theorem ok_Replica___init__ {P : Program} {w : World} {K : PySem.W.Frag} {mg : Str → Option Value} {base : Heap}
    {C_Replica : Addr} (T_Replica : Tx_Replica K mg C_Replica)
    {C_Counter : Addr} (T_Counter : Tx_Counter K mg C_Counter)
    {f : Addr} {fd : FuncData} (D : Di K C_Replica "Replica.__init__" s_Replica___init__ ["self", "me", "group", "base"] f fd)
    (g_FOLLOWER : ∃ u, mg "FOLLOWER" = some u ∧ RelV (.str "follower") u)
    (c_Replica_wake : CalM P w K mg base CX0 4 C_Replica "wake" (sp_Replica_wake K C_Replica C_Counter)) : CalI P w K mg base CX0 5 C_Replica (sp_Replica___init__ K C_Replica C_Counter) := by
  refine D.ok sc_Replica___init__ (fun vs H Q E h => ?_) fun cdv A outer s H vs Q E hr h => ?_
  · obtain ⟨x, M, G, j, ⟨rfl, _⟩, _⟩ := h; rfl
  obtain ⟨⟨p, dx, me, gr, bv, bo, n⟩, M, G, j, ⟨rfl, hp, nt, hb, hbn⟩, k⟩ := h
  dsimp only at hp nt hb hbn k
  refine ⟨_, (pss_cons (ps_fld (pv 0) (pv 1) rfl)
(pss_cons (ps_fld (pv 0) (pv 2) rfl)
(pss_cons (ps_fld (pv 0) pe_int rfl)
(pss_cons (ps_fld (pv 0) pe_non rfl)
(pss_cons (ps_fld (pv 0) (pv 3) rfl)
(pss_cons (ps_fld (pv 0) (pe_lst pa_nil) rfl)
(pss_cons (ps_fld (pv 0) (pe_gk (by rfl) g_FOLLOWER) rfl)
(pss_cons (ps_fld (pv 0) pe_non rfl)
(pss_cons (ps_fld (pv 0) (pe_un un_neg pe_int) rfl)
(pss_cons (ps_fld (pv 0) (pe_un un_neg pe_int) rfl)
(pss_cons (ps_fld (pv 0) (pe_un un_neg pe_int) rfl)
(pss_cons (ps_fld (pv 0) pe_non rfl)
(pss_cons (ps_fld (pv 0) (pe_lst pa_nil) rfl)
(pss_cons (ps_fld (pv 0) (pe_lst pa_nil) rfl)
(pss_cons (ps_fld (pv 0) (pe_lst pa_nil) rfl)
(pss_cons (ps_fld (pv 0) (pe_lst pa_nil) rfl)
(pss_cons (ps_fld (pv 0) (pe_lst pa_nil) rfl)
(pss_cons (ps_fld (pv 0) pe_dnewK rfl)
(pss_cons (ps_fld (pv 0) pe_dnewK rfl)
(pss_cons (ps_fld (pv 0) pe_dnewK rfl)
(pss_cons (ps_fld (pv 0) pe_dnewK rfl)
(pss_one (ps_expr (pe_calM0 c_Replica_wake T_Replica.cl hr (by first | decide | omega) (pv 0))))))))))))))))))))))))), ?_⟩
  walk_at "start"
  have hp0 : ∃ u, M p = some u := ⟨_, hp⟩
  have m0 : Mk0 M M p (.ins C_Replica dx []) [] [] := ⟨hp, .nil, List.nodup_nil, (fun z => nomatch z), (fun _ z => nomatch z), (fun _ _ e _ => e), nt⟩
  refine w_setX j m0.op T_Replica.cl T_Replica.n_me (by show 0 < 1000; decide) fun H1 j1 => ?_
  rw [nf_Replica_me] at j1
  have m1 := m0.fld (f' := .ins C_Replica dx [("me", V.int me)]) nt_i
  walk_at "go"
  refine w_setX j1 m1.op T_Replica.cl T_Replica.n_group (by show 1 < 1000; decide) fun H2 j2 => ?_
  rw [nf_Replica_group] at j2
  have m2 := m1.fld (f' := .ins C_Replica dx [("me", V.int me), ("group", V.int gr)]) nt_i
  walk_at "go"
  refine w_setX j2 m2.op T_Replica.cl T_Replica.n_term (by show 2 < 1000; decide) fun H3 j3 => ?_
  rw [nf_Replica_term] at j3
  have m3 := m2.fld (f' := .ins C_Replica dx [("me", V.int me), ("group", V.int gr), ("term", V.int 0)]) nt_i
  walk_at "go"
  refine w_setX j3 m3.op T_Replica.cl T_Replica.n_voted (by show 3 < 1000; decide) fun H4 j4 => ?_
  rw [nf_Replica_voted] at j4
  have m4 := m3.fld (f' := .ins C_Replica dx [("me", V.int me), ("group", V.int gr), ("term", V.int 0), ("voted", V.non)]) nt_i
  walk_at "go"
  refine w_setX j4 m4.op T_Replica.cl T_Replica.n_base (by show 4 < 1000; decide) fun H5 j5 => ?_
  rw [nf_Replica_base] at j5
  have m5 := m4.fld (f' := .ins C_Replica dx [("me", V.int me), ("group", V.int gr), ("term", V.int 0), ("voted", V.non), ("base", bv)]) nt_i
  walk_at "go"
  refine w_newM j5 (Nat.zero_le _) fun en H5a j5a nen gen => ?_
  walk_at "go"
  have q5 := upd_ne' (o := .lst []) m5.op (ne_of_none m5.op nen)
  refine w_setX j5a q5 T_Replica.cl T_Replica.n_entries (by show 5 < 1000; decide) fun H6 j6 => ?_
  rw [nf_Replica_entries] at j6
  have m6 := m5.new nen hp0 (o := .lst []) (f' := .ins C_Replica dx [("me", V.int me), ("group", V.int gr), ("term", V.int 0), ("voted", V.non), ("base", bv), ("entries", V.ref en)]) nt_l nt_i
  walk_at "go"
  refine w_setX j6 m6.op T_Replica.cl T_Replica.n_role (by show 6 < 1000; decide) fun H7 j7 => ?_
  rw [nf_Replica_role] at j7
  have m7 := m6.fld (f' := .ins C_Replica dx [("me", V.int me), ("group", V.int gr), ("term", V.int 0), ("voted", V.non), ("base", bv), ("entries", V.ref en), ("role", V.str "follower")]) nt_i
  walk_at "go"
  refine w_setX j7 m7.op T_Replica.cl T_Replica.n_leader (by show 7 < 1000; decide) fun H8 j8 => ?_
  rw [nf_Replica_leader] at j8
  have m8 := m7.fld (f' := .ins C_Replica dx [("me", V.int me), ("group", V.int gr), ("term", V.int 0), ("voted", V.non), ("base", bv), ("entries", V.ref en), ("role", V.str "follower"), ("leader", V.non)]) nt_i
  walk_at "go"
  refine w_setX j8 m8.op T_Replica.cl T_Replica.n_committed (by show 8 < 1000; decide) fun H9 j9 => ?_
  rw [nf_Replica_committed] at j9
  have m9 := m8.fld (f' := .ins C_Replica dx [("me", V.int me), ("group", V.int gr), ("term", V.int 0), ("voted", V.non), ("base", bv), ("entries", V.ref en), ("role", V.str "follower"), ("leader", V.non), ("committed", V.int (-1))]) nt_i
  walk_at "go"
  refine w_setX j9 m9.op T_Replica.cl T_Replica.n_applied (by show 9 < 1000; decide) fun H10 j10 => ?_
  rw [nf_Replica_applied] at j10
  have m10 := m9.fld (f' := .ins C_Replica dx [("me", V.int me), ("group", V.int gr), ("term", V.int 0), ("voted", V.non), ("base", bv), ("entries", V.ref en), ("role", V.str "follower"), ("leader", V.non), ("committed", V.int (-1)), ("applied", V.int (-1))]) nt_i
  walk_at "go"
  refine w_setX j10 m10.op T_Replica.cl T_Replica.n_durable (by show 10 < 1000; decide) fun H11 j11 => ?_
  rw [nf_Replica_durable] at j11
  have m11 := m10.fld (f' := .ins C_Replica dx [("me", V.int me), ("group", V.int gr), ("term", V.int 0), ("voted", V.non), ("base", bv), ("entries", V.ref en), ("role", V.str "follower"), ("leader", V.non), ("committed", V.int (-1)), ("applied", V.int (-1)), ("durable", V.int (-1))]) nt_i
  walk_at "go"
  refine w_setX j11 m11.op T_Replica.cl T_Replica.n_state (by show 11 < 1000; decide) fun H12 j12 => ?_
  rw [nf_Replica_state] at j12
  have m12 := m11.fld (f' := .ins C_Replica dx [("me", V.int me), ("group", V.int gr), ("term", V.int 0), ("voted", V.non), ("base", bv), ("entries", V.ref en), ("role", V.str "follower"), ("leader", V.non), ("committed", V.int (-1)), ("applied", V.int (-1)), ("durable", V.int (-1)), ("state", V.non)]) nt_i
  walk_at "go"
  refine w_newM j12 (Nat.zero_le _) fun le H12a j12a nle gle => ?_
  walk_at "go"
  have q12 := upd_ne' (o := .lst []) m12.op (ne_of_none m12.op nle)
  refine w_setX j12a q12 T_Replica.cl T_Replica.n_ledger (by show 12 < 1000; decide) fun H13 j13 => ?_
  rw [nf_Replica_ledger] at j13
  have m13 := m12.new nle hp0 (o := .lst []) (f' := .ins C_Replica dx [("me", V.int me), ("group", V.int gr), ("term", V.int 0), ("voted", V.non), ("base", bv), ("entries", V.ref en), ("role", V.str "follower"), ("leader", V.non), ("committed", V.int (-1)), ("applied", V.int (-1)), ("durable", V.int (-1)), ("state", V.non), ("ledger", V.ref le)]) nt_l nt_i
  walk_at "go"
  refine w_newM j13 (Nat.zero_le _) fun rc H13a j13a nrc grc => ?_
  walk_at "go"
  have q13 := upd_ne' (o := .lst []) m13.op (ne_of_none m13.op nrc)
  refine w_setX j13a q13 T_Replica.cl T_Replica.n_records (by show 13 < 1000; decide) fun H14 j14 => ?_
  rw [nf_Replica_records] at j14
  have m14 := m13.new nrc hp0 (o := .lst []) (f' := .ins C_Replica dx [("me", V.int me), ("group", V.int gr), ("term", V.int 0), ("voted", V.non), ("base", bv), ("entries", V.ref en), ("role", V.str "follower"), ("leader", V.non), ("committed", V.int (-1)), ("applied", V.int (-1)), ("durable", V.int (-1)), ("state", V.non), ("ledger", V.ref le), ("records", V.ref rc)]) nt_l nt_i
  walk_at "go"
  refine w_newM j14 (Nat.zero_le _) fun lt H14a j14a nlt glt => ?_
  walk_at "go"
  have q14 := upd_ne' (o := .lst []) m14.op (ne_of_none m14.op nlt)
  refine w_setX j14a q14 T_Replica.cl T_Replica.n_letters (by show 14 < 1000; decide) fun H15 j15 => ?_
  rw [nf_Replica_letters] at j15
  have m15 := m14.new nlt hp0 (o := .lst []) (f' := .ins C_Replica dx [("me", V.int me), ("group", V.int gr), ("term", V.int 0), ("voted", V.non), ("base", bv), ("entries", V.ref en), ("role", V.str "follower"), ("leader", V.non), ("committed", V.int (-1)), ("applied", V.int (-1)), ("durable", V.int (-1)), ("state", V.non), ("ledger", V.ref le), ("records", V.ref rc), ("letters", V.ref lt)]) nt_l nt_i
  walk_at "go"
  refine w_newM j15 (Nat.zero_le _) fun an H15a j15a nan gan => ?_
  walk_at "go"
  have q15 := upd_ne' (o := .lst []) m15.op (ne_of_none m15.op nan)
  refine w_setX j15a q15 T_Replica.cl T_Replica.n_answers (by show 15 < 1000; decide) fun H16 j16 => ?_
  rw [nf_Replica_answers] at j16
  have m16 := m15.new nan hp0 (o := .lst []) (f' := .ins C_Replica dx [("me", V.int me), ("group", V.int gr), ("term", V.int 0), ("voted", V.non), ("base", bv), ("entries", V.ref en), ("role", V.str "follower"), ("leader", V.non), ("committed", V.int (-1)), ("applied", V.int (-1)), ("durable", V.int (-1)), ("state", V.non), ("ledger", V.ref le), ("records", V.ref rc), ("letters", V.ref lt), ("answers", V.ref an)]) nt_l nt_i
  walk_at "go"
  refine w_newM j16 (Nat.zero_le _) fun bi H16a j16a nbi gbi => ?_
  walk_at "go"
  have q16 := upd_ne' (o := .lst []) m16.op (ne_of_none m16.op nbi)
  refine w_setX j16a q16 T_Replica.cl T_Replica.n_births (by show 16 < 1000; decide) fun H17 j17 => ?_
  rw [nf_Replica_births] at j17
  have m17 := m16.new nbi hp0 (o := .lst []) (f' := .ins C_Replica dx [("me", V.int me), ("group", V.int gr), ("term", V.int 0), ("voted", V.non), ("base", bv), ("entries", V.ref en), ("role", V.str "follower"), ("leader", V.non), ("committed", V.int (-1)), ("applied", V.int (-1)), ("durable", V.int (-1)), ("state", V.non), ("ledger", V.ref le), ("records", V.ref rc), ("letters", V.ref lt), ("answers", V.ref an), ("births", V.ref bi)]) nt_l nt_i
  walk_at "go"
  refine w_newM j17 (Nat.zero_le _) fun vo H17a j17a nvo gvo => ?_
  walk_at "go"
  have q17 := upd_ne' (o := .dK []) m17.op (ne_of_none m17.op nvo)
  refine w_setX j17a q17 T_Replica.cl T_Replica.n_votes (by show 17 < 1000; decide) fun H18 j18 => ?_
  rw [nf_Replica_votes] at j18
  have m18 := m17.new nvo hp0 (o := .dK []) (f' := .ins C_Replica dx [("me", V.int me), ("group", V.int gr), ("term", V.int 0), ("voted", V.non), ("base", bv), ("entries", V.ref en), ("role", V.str "follower"), ("leader", V.non), ("committed", V.int (-1)), ("applied", V.int (-1)), ("durable", V.int (-1)), ("state", V.non), ("ledger", V.ref le), ("records", V.ref rc), ("letters", V.ref lt), ("answers", V.ref an), ("births", V.ref bi), ("votes", V.ref vo)]) nt_k nt_i
  walk_at "go"
  refine w_newM j18 (Nat.zero_le _) fun ah H18a j18a nah gah => ?_
  walk_at "go"
  have q18 := upd_ne' (o := .dK []) m18.op (ne_of_none m18.op nah)
  refine w_setX j18a q18 T_Replica.cl T_Replica.n_ahead (by show 18 < 1000; decide) fun H19 j19 => ?_
  rw [nf_Replica_ahead] at j19
  have m19 := m18.new nah hp0 (o := .dK []) (f' := .ins C_Replica dx [("me", V.int me), ("group", V.int gr), ("term", V.int 0), ("voted", V.non), ("base", bv), ("entries", V.ref en), ("role", V.str "follower"), ("leader", V.non), ("committed", V.int (-1)), ("applied", V.int (-1)), ("durable", V.int (-1)), ("state", V.non), ("ledger", V.ref le), ("records", V.ref rc), ("letters", V.ref lt), ("answers", V.ref an), ("births", V.ref bi), ("votes", V.ref vo), ("ahead", V.ref ah)]) nt_k nt_i
  walk_at "go"
  refine w_newM j19 (Nat.zero_le _) fun kn H19a j19a nkn gkn => ?_
  walk_at "go"
  have q19 := upd_ne' (o := .dK []) m19.op (ne_of_none m19.op nkn)
  refine w_setX j19a q19 T_Replica.cl T_Replica.n_known (by show 19 < 1000; decide) fun H20 j20 => ?_
  rw [nf_Replica_known] at j20
  have m20 := m19.new nkn hp0 (o := .dK []) (f' := .ins C_Replica dx [("me", V.int me), ("group", V.int gr), ("term", V.int 0), ("voted", V.non), ("base", bv), ("entries", V.ref en), ("role", V.str "follower"), ("leader", V.non), ("committed", V.int (-1)), ("applied", V.int (-1)), ("durable", V.int (-1)), ("state", V.non), ("ledger", V.ref le), ("records", V.ref rc), ("letters", V.ref lt), ("answers", V.ref an), ("births", V.ref bi), ("votes", V.ref vo), ("ahead", V.ref ah), ("known", V.ref kn)]) nt_k nt_i
  walk_at "go"
  refine w_newM j20 (Nat.zero_le _) fun tq H20a j20a ntq gtq => ?_
  walk_at "go"
  have q20 := upd_ne' (o := .dK []) m20.op (ne_of_none m20.op ntq)
  refine w_setX j20a q20 T_Replica.cl T_Replica.n_tokens (by show 20 < 1000; decide) fun H21 j21 => ?_
  rw [nf_Replica_tokens] at j21
  have m21 := m20.new ntq hp0 (o := .dK []) (f' := .ins C_Replica dx [("me", V.int me), ("group", V.int gr), ("term", V.int 0), ("voted", V.non), ("base", bv), ("entries", V.ref en), ("role", V.str "follower"), ("leader", V.non), ("committed", V.int (-1)), ("applied", V.int (-1)), ("durable", V.int (-1)), ("state", V.non), ("ledger", V.ref le), ("records", V.ref rc), ("letters", V.ref lt), ("answers", V.ref an), ("births", V.ref bi), ("votes", V.ref vo), ("ahead", V.ref ah), ("known", V.ref kn), ("tokens", V.ref tq)]) nt_k nt_i
  walk_at "go"
  have hA : RepAt K C_Replica C_Counter _ G ⟨p, dx, en, le, rc, lt, an, bi, vo, ah, kn, tq, bv, .non, [], [], [], [], [], [], [], [], []⟩ (blankR me gr bo) :=
    ⟨.cons m21.op m21.c, List.nodup_cons.mpr ⟨m21.np, m21.n⟩, ⟨hb, ⟨rfl, rfl, rfl⟩, .nil, .nil, .nil, .nil, .nil, .nil, .nil⟩, m21.nt⟩
  (have hop := RepAt.op hA; refine w_methM j21 hop (no_Replica (by decide +kernel) (by decide +kernel) (by decide +kernel) (by decide +kernel) (by decide +kernel) (by decide +kernel) (by decide +kernel) (by decide +kernel) (by decide +kernel) (by decide +kernel) (by decide +kernel) (by decide +kernel) (by decide +kernel) (by decide +kernel) (by decide +kernel) (by decide +kernel) (by decide +kernel) (by decide +kernel) (by decide +kernel) (by decide +kernel) (by decide +kernel)) ?_; clear hop; walk_at "go")
  refine w_sg (α := WkP) ⟨_, _, n⟩ j21 ⟨rfl, hA, hbn⟩ fun v M22 G22 H22 j22 e22 ⟨ev, aW, hS⟩ => ?_
  walk_at "go"
  refine k _ _ _ _ j22 e22 ⟨rfl, aW, hS.t, hS.f.pe, fun b o e n => hS.f.kp b o (m21.kp b o e n) fun m => ?_, fun b m => ?_⟩
  · rcases List.mem_cons.mp m with m | m
    · exact n m
    · have := m21.nw b m
      rw [e] at this; cases this
  · rcases hS.f.nw b m with m | m
    · rcases List.mem_cons.mp m with m | m
      · exact .inl m
      · exact .inr (m21.nw b m)
    · refine .inr ?_
      cases e : M b with
      | none => rfl
      | some o =>
        by_cases q : b = p
        · rw [q, m21.op] at m; cases m
        · rw [m21.kp b o e q] at m; cases m
/-! ### a loop over what is a list or a tuple, alone -/
def iAny2 (K : PySem.W.Frag) (tl : TE) : TI := fun σ H R => iList K tl σ H R ∨ iTup K tl σ H R
theorem pi_any2 {X : Cx} {K : PySem.W.Frag} {tg l : Expr} {tl : TE} (h : X.K = K) (hl : PE X l tl) : PI X tg l (iAny2 K tl) := by
  subst h
  refine ⟨fun pins s σ H R I w => ?_⟩
  rcases w with w | w
  · exact (pi_list hl).run pins s σ H R I w
  · exact (pi_tup hl).run pins s σ H R I w
theorem w_forAV2 {K : PySem.W.Frag} {G H : Hp} {xs : List V} {g : TG} {t : TS} {D : Ends} {σ : L2.St} {s : Nat} {a : Addr} (e : σ[s]? = some (some (.ref a))) (hx : SqB K G a xs) (Pv : Nat → L2.St → Hp → Prop) (h0 : Pv 0 σ H) (hl : ∀ i σ H, Pv i σ H → Same G H)
    (hs : ∀ i x σ H, xs[i]? = some x → Pv i σ H → g x σ H fun σ2 H2 => t { D with nx := Pv (i + 1), ct := Pv (i + 1), bk := D.nx } σ2 H2) (hd : ∀ σ H, Pv xs.length σ H → D.nx σ H) : tFor (iAny2 K (tVar s)) g t D σ H := by
  rcases hx with hx | hx
  · exact .inl (w_forLV e Pv (sl_mono (hl _ _ _ h0) hx) h0 (fun i σ H _ p => sl_mono (hl _ _ _ p) hx) hs hd)
  · exact .inr (w_forTV e Pv (st_mono (hl _ _ _ h0) hx) h0 (fun i σ H _ p => st_mono (hl _ _ _ p) hx) hs hd)
/-! ### dict comprehensions, whatever the keys: o0 says which kind of dict the new one is -/
theorem dset_any {X : Cx} {pins : List (Addr × Obj)} {σ : L2.St} {H H' : Hp} {s : Shared} {a : Addr} {y v : V} {u r : Value} {E : Value → Shared → Prop} {Q : Unit → Shared → Prop} (hu : X.A.units + 1 < cLine) (I : Inv X pins σ H s) (g : DPut H a y v H') (ry : RelV y u) (rv : RelV v r) (h : ∀ s', Inv X pins σ H' s' → Q () s') :
    wpAny (model X.prog X.w) X.A (dictSet a u r) Q E s := by
  rcases g with ⟨kvs, k, e, rfl, l, rfl⟩ | ⟨kvs, k, b, e, rfl, eb, l, rfl⟩
  · exact d_dictSet I e l ry rv h
  · cases (show u = Value.ref b from ry)
    obtain ⟨z, hd, xs, rel, dd⟩ := dt_of I.hok e
    have hl : (putK kvs k v).length ≤ sizeLine := by
      have := length_putK kvs k v
      omega
    refine wpAny_dictSet_heap (hsz := by rw [← Paired.length rel]; exact z) (show X.A.units < cLine by omega) (key_of I.hok eb) dd fun h' dd' hs => h _ ?_
    obtain ⟨q, es, ep, hq, p2, p3, p4, _, p5⟩ := dd'
    exact d_write I (by rw [e]; trivial) hs ⟨q, hq⟩ ⟨hl, hd, _, (rel.put k eb rv).keeps fun c ys ec => by rw [upd_ne (ne_of ec e (fun z => nomatch z))]; exact ec, q, es, ep, hq, p2, p3, p4, p5⟩
def NewDict (o : HO) : Prop := o = .dK [] ∨ o = .dT []
theorem NewDict.ok {o : HO} {P : Program} {w : World} {H : Hp} {h : Heap} (n : NewDict o) (hb : sysModules < h.objs.size) : ObjOk P w H (h.push { cls := .type "dict", data := .dict #[] }) h.objs.size o := by
  rcases n with rfl | rfl
  · exact dk_empty h hb
  · exact dt_empty h hb
def tDcG (o0 : HO) (wi : TI) (g : TG) (tt : TT) (tk tv : TE) (vs : List Nat) : TE := fun σ H Q => wi σ H fun J' H1 => ∀ D, H1 D = none → ∃ W : Nat → Nat → Hp → Prop, (∃ m, W 0 m (upd H1 D o0)) ∧ ∀ i m H, W i m H →
  (J'.stop i H ∧ Q (.ref D) H) ∨ (J'.go i H ∧ ∃ Nx : Hp → Prop, (∀ H', Nx H' → ∃ m', m' < m ∧ W (i + 1) m' H') ∧ ∀ x H', J'.yld i H x H' → g x (wipe σ vs) H' fun σ2 H2 => wipe σ2 vs = wipe σ vs ∧ tt σ2 H2 fun b H3 =>
    if b = true then tk σ2 H3 fun y H4 => tv σ2 H4 fun z H5 => ∃ H6, DPut H5 D y z H6 ∧ Nx H6 else Nx H3)
section
variable {X : Cx} {o0 : HO} {kx vx tg iter : Expr} {ifs : List Expr} {scope : Scope} {own : List (Str × Nat)} {wi : TI} {g : TG} {tt : TT} {tk tv : TE}
theorem dcg_core {pins : List (Addr × Obj)} {s : Shared} {σ : L2.St} {H : Hp} {Q : VK} {pos p2 : Pos} {use : Option (Value → Sem Unit)} {Qf : Value → Shared → Prop} (n0 : NewDict o0) (hu : X.A.units + 1 < cLine) (calm : X.calm = true) (nd : X.N.Nodup) (I : Inv X pins σ H s) (pi : PI X tg iter wi) (ok : BlkOk X.N X.env.scope scope own)
    (cg : ∀ s H C cl fp, PG (X.blk s H scope (compEnvC scope cl C X.env) fp) tg g) (ct : ∀ s H C cl fp, PTs (X.blk s H scope (compEnvC scope cl C X.env) fp) ifs tt)
    (ck : ∀ s H C cl fp, PE (X.blk s H scope (compEnvC scope cl C X.env) fp) kx tk) (cv : ∀ s H C cl fp, PE (X.blk s H scope (compEnvC scope cl C X.env) fp) vx tv) (fo : ∀ x, foldedSetIterable iter X.env x = pure x)
    (h : tDcG o0 wi g tt tk tv (own.map (·.2)) σ H Q)
    (back : ∀ D C z m H', Inv X pins σ H' z → Q (.ref D) H' → z.heap.Ns C m → FpOk X pins H' C → compPost (model X.prog X.w) X.A X.xe use Qf (.ref D) C (.ok .next) z) :
    wpAny (model X.prog X.w) X.A (comprehension (.DictComp kx vx [⟨tg, iter, ifs, 0⟩] scope pos) scope X.env p2 newDict false (eval iter X.env) use) Qf X.xe s := by
  refine wpAny_comprehension_free (use := use) rfl fo (closure_ok fun y hy e => (ok.free y hy e).elim (fun q => I.ok.has _ (.inl q)) fun q => I.ok.has _ (.inr q)) ok.kind (fun y hy e => by rw [ok.uniq y hy, e]) (thn (pi.run pins s σ H _ I h) fun xv s1 a1 => thn a1 fun itv s2 a2 => ?_)
  obtain ⟨it, fp, tn, J', H2, rfl, I2, T, st2, f2, q⟩ := a2
  refine wpAny_newObj_type (newEnv_comp ?_)
  generalize hD : s2.heap.objs.size = D
  obtain ⟨W, ⟨m0, w0⟩, turn⟩ := q D (I2.hok.fresh (Nat.le_of_eq hD))
  generalize e3 : ({ s2 with heap := s2.heap.push { cls := .type "dict", data := .dict #[] } } : Shared) = s3
  have hp3 : s3.heap = s2.heap.push { cls := .type "dict", data := .dict #[] } := by rw [← e3]
  have I3 : Inv X pins σ (upd H2 D o0) s3 := by
    rw [← e3, ← hD]
    exact I2.laid (t' := s2.toks) (fun b o e => Heap.get?_push_of_some _ e) (Nat.le_refl _) (n0.ok I2.big)
  have lt2 : ∀ b ∈ fp, b < s2.heap.objs.size := fun b hb => by
    obtain ⟨o, e, _⟩ := T.obj _ _ st2 b hb
    exact Heap.lt_size e
  have f3 : ∀ b ∈ fp, FpOk X pins (upd H2 D o0) b ∧ b < s3.heap.objs.size := fun b hb => by
    have l := lt2 b hb
    refine ⟨⟨(upd_ne (by rw [← hD]; exact Nat.ne_of_lt l)).trans (f2 b hb).1, (f2 b hb).2⟩, ?_⟩
    rw [hp3, Heap.size_push]
    exact Nat.lt_succ_of_lt l
  have st3 : tn 0 s3.heap := T.keep _ _ _ st2 fun b _ o e => by rw [hp3]; exact Heap.get?_push_of_some _ e
  have I4 := block_start I3 ok nd f3
  obtain ⟨cells, hcl⟩ : ∃ c, c = cellsFrom (s3.heap.objs.size + 1) scope.names (cloFrom X.env.cells scope.names []) := ⟨_, rfl⟩
  rw [← hcl] at I4
  have pg := cg s3 (upd H2 D o0) s3.heap.objs.size cells fp
  have pt := ct s3 (upd H2 D o0) s3.heap.objs.size cells fp
  have pk := ck s3 (upd H2 D o0) s3.heap.objs.size cells fp
  have pv := cv s3 (upd H2 D o0) s3.heap.objs.size cells fp
  have goal' : codeAny (model X.prog X.w) X.A (.compStart (.DictComp kx vx [⟨tg, iter, ifs, 0⟩] scope pos) 0 (.ref it) (.ref D) (compEnvC scope cells s3.heap.objs.size X.env)) (compPost (model X.prog X.w) X.A X.xe use Qf (.ref D) s3.heap.objs.size) { s3 with heap := pushCells (s3.heap.push { cls := .type "dict", data := .dict #[] }) scope.names } := by
    have n3 : ∀ b ∈ fp, (upd H2 D o0) b = none := fun b hb => (f3 b hb).1.1
    generalize hce : compEnvC scope cells s3.heap.objs.size X.env = ce at I4 pg pt pk pv ⊢
    have cL : ce.locals = s3.heap.objs.size := by subst hce; rfl
    generalize hH3 : upd H2 D o0 = H3 at I3 I4 pg pt pk pv w0 n3 f3
    generalize e4 : ({ s3 with heap := pushCells (s3.heap.push { cls := .type "dict", data := .dict #[] }) scope.names } : Shared) = s4 at I4 ⊢
    have st4 : tn 0 s4.heap := T.keep _ _ _ st3 fun b _ o e => by rw [← e4]; exact pushCells_keeps _ _ _ _ (Heap.get?_push_of_some _ e)
    have stat : ∀ {τ : L2.St} {H' : Hp} {z : Shared}, Inv (X.blk s3 H3 scope ce fp) [] τ H' z → (∀ b ∈ fp, H' b = none) → ∀ b ∈ fp, FpOk (X.blk s3 H3 scope ce fp) [] H' b := fun {τ H' z} Iz hn b hb =>
      ⟨hn b hb, (Iz.ok.exf b hb).1, Iz.ok.exfs b hb, .inl hb, (fun x c e => (Iz.ok.exf b hb).2 x c e), fun p hp => absurd (show p ∈ ([] : List (Addr × Obj)) ++ [] from hp) (by simp)⟩
    have loop : codeAny (model X.prog X.w) X.A (.compLoop (.DictComp kx vx [⟨tg, iter, ifs, 0⟩] scope pos) 0 (.ref it) (.ref D) ce) (compPost (model X.prog X.w) X.A X.xe use Qf (.ref D) s3.heap.objs.size) s4 := by
      refine compLoop_anyD (fun n z => ∃ i H', Inv (X.blk s3 H3 scope ce fp) [] (wipe σ (own.map (·.2))) H' z ∧ tn i z.heap ∧ (∀ b ∈ fp, H' b = none) ∧ W i n H') ?_ m0 ⟨0, H3, I4, st4, n3, w0⟩
      rintro n s5 ⟨i, H5, I5, st5, n5, w5⟩
      rcases turn i n H5 w5 with ⟨stop, done⟩ | ⟨go, Nx, hNx, step⟩
      · refine thnF (T.done (X.blk s3 H3 scope ce fp) rfl rfl rfl calm i [] s5 _ H5 (fun _ _ => False) I5 (stat I5 n5) st5 stop) fun r s6 ⟨hr, I6⟩ => ?_
        subst hr
        obtain ⟨m, hn, _⟩ := I6.loc
        have hn : s6.heap.Ns ce.locals m := hn
        have hz : H5 ce.locals = none := I6.free
        rw [cL] at hn hz
        exact back D s3.heap.objs.size s6 m H5 (I3.call' (ch := fp) I6.os I6.base I6.hok I6.bare fun b hb => ⟨(f3 b hb).1.2.2.2.1, (f3 b hb).1.2.1, (f3 b hb).1.2.2.2.2.1, (f3 b hb).1.2.2.2.2.2⟩) done hn (I3.fpOk (Nat.le_refl _) hz)
      · refine thnF (T.item (X.blk s3 H3 scope ce fp) rfl rfl rfl calm i [] s5 _ H5 (fun _ _ => False) I5 (stat I5 n5) st5 go) fun r s6 ⟨u, hr, a6⟩ => ?_
        subst hr
        refine thnF a6 fun _ s7 ⟨x, H7, I7, r7, y7, st7, n7⟩ => ?_
        refine thnF (pg.run _ s7 _ H7 x u _ (I7.pinned (stat I7 n7) (T.obj _ _ st7)) r7 (step x H7 y7)) fun _ s8 ⟨σ8, H8, I8, hw8, q8⟩ => thnF (pt.run _ s8 σ8 H8 _ I8 q8) fun b s9 ⟨H9, I9, q9⟩ => ?_
        have fin : ∀ {z : Shared} {H' : Hp}, Inv (X.blk s3 H3 scope ce fp) ([] ++ pinsAt fp s7.heap) σ8 H' z → Nx H' → ∃ m, m < n ∧ ∃ i H', Inv (X.blk s3 H3 scope ce fp) [] (wipe σ (own.map (·.2))) H' z ∧ tn i z.heap ∧ (∀ b ∈ fp, H' b = none) ∧ W i m H' := fun {z H'} Iz nx => by
          obtain ⟨m', hm, w'⟩ := hNx H' nx
          have held : ∀ b ∈ fp, ∀ o, s7.heap.get? b = some o → z.heap.get? b = some o ∧ H' b = none := fun b hb o e => by
            have y := Iz.pin (b, o) (List.mem_append_right _ (List.mem_append_right _ (mem_pinsAt hb e)))
            exact ⟨y.1, y.2.1⟩
          refine ⟨m', hm, i + 1, H', (Iz.unpinned (pins := [])).weak (by rw [← hw8, wipe_length]) (fun j v e => ?_), T.keep _ _ _ st7 fun b hb o e => (held b hb o e).1, fun b hb => ?_, w'⟩
          · rw [← hw8] at e; exact (wipe_some e).1
          · obtain ⟨o, e, _⟩ := T.obj _ _ st7 b hb
            exact (held b hb o e).2
        cases b with
        | false =>
          rw [if_neg Bool.false_ne_true] at q9 ⊢
          exact fin I9 q9
        | true =>
          rw [if_pos rfl] at q9 ⊢
          exact thnF (pk.run _ s9 σ8 H9 _ I9 q9) fun _ s10 ⟨yk, H10, I10, r10, q10⟩ => thnF (pv.run _ s10 σ8 H10 _ I10 q10) fun _ s11 ⟨yv, H11, I11, r11, H12, dp, nx⟩ => dset_any (X := X.blk s3 H3 scope ce fp) hu I11 dp r10 r11 fun s12 I12 => fin I12 nx
    exact codeAny_compStart_dict loop (T.self X.A 0 _ _ _ st4 loop)
  rw [hcl] at goal'
  subst e3
  exact goal'
theorem pe_dcG {pos : Pos} (n0 : NewDict o0) (hu : X.A.units + 1 < cLine) (calm : X.calm = true) (nd : X.N.Nodup) (pi : PI X tg iter wi) (ok : BlkOk X.N X.env.scope scope own)
    (cg : ∀ s H C cl fp, PG (X.blk s H scope (compEnvC scope cl C X.env) fp) tg g) (ct : ∀ s H C cl fp, PTs (X.blk s H scope (compEnvC scope cl C X.env) fp) ifs tt)
    (ck : ∀ s H C cl fp, PE (X.blk s H scope (compEnvC scope cl C X.env) fp) kx tk) (cv : ∀ s H C cl fp, PE (X.blk s H scope (compEnvC scope cl C X.env) fp) vx tv) (fo : ∀ x, foldedSetIterable iter X.env x = pure x := by intro _; rfl) :
    PE X (.DictComp kx vx [⟨tg, iter, ifs, 0⟩] scope pos) (tDcG o0 wi g tt tk tv (own.map (·.2))) := by
  refine ⟨fun pins s σ H Q I h => ?_⟩
  rw [arm_eval_DictComp]
  refine dcg_core n0 hu calm nd I pi ok cg ct ck cv fo h fun D C z m H' I' q hn f => ⟨m, hn, fun h'' sb => ?_⟩
  obtain ⟨f0, f1, f2, f3, f4, f5⟩ := f
  exact ⟨.ref D, H', I'.turned (t' := z.toks) (fun b o hb e => (sb.2 b hb).trans e) f0 f1 f3 f4 f5, rfl, q⟩
end
/-! ### dict comprehensions that only read, over locked dicts and tuples -/
def DcD (o0 : HO) (J' : It) (g : TG) (tt : TT) (tk tv : TE) (vs : List Nat) (σ : L2.St) (H1 : Hp) (Q : VK) : Prop := ∀ D, H1 D = none → ∃ W : Nat → Nat → Hp → Prop, (∃ m, W 0 m (upd H1 D o0)) ∧ ∀ i m H, W i m H →
  (J'.stop i H ∧ Q (.ref D) H) ∨ (J'.go i H ∧ ∃ Nx : Hp → Prop, (∀ H', Nx H' → ∃ m', m' < m ∧ W (i + 1) m' H') ∧ ∀ x H', J'.yld i H x H' → g x (wipe σ vs) H' fun σ2 H2 => wipe σ2 vs = wipe σ vs ∧ tt σ2 H2 fun b H3 =>
    if b = true then tk σ2 H3 fun y H4 => tv σ2 H4 fun z H5 => ∃ H6, DPut H5 D y z H6 ∧ Nx H6 else Nx H3)
section
variable {K : PySem.W.Frag} {M G H : Hp} {σ : L2.St} {Q : VK} {g : TG} {tt : TT} {tk tv td tl : TE} {vs : List Nat} {J' : It} {n : Nat} {GG : Hp → Prop} {Y : Nat → Hp → V → Hp → Prop} {R : Nat → HO → Hp → Prop} {L d a : Addr} {k : Nat} {o0 c : HO} {y v : V} {xs : List V}
def RoH (M G : Hp) (R : Nat → HO → Hp → Prop) (L : Addr) (k : Nat) (H : Hp) : Prop := ∃ c G1, J (upd M L c) G1 H ∧ Ex G G1 ∧ R k c G1
theorem rod_K {G2 H5 : Hp} {kvs : List (Key × V)} {m : Int} (j : J (upd M L (.dK kvs)) G2 H5) (e : Ex G G2) (z : kvs.length < 1000000) (r : R k (.dK (putK kvs (.inl m) v)) G2) : ∃ H6, DPut H5 L (.int m) v H6 ∧ RoH M G R L k H6 :=
  ⟨_, .inl ⟨kvs, .inl m, j.m _ _ upd_same, rfl, sz_lt z, rfl⟩, _, G2, by have := j.put (o' := .dK (putK kvs (.inl m) v)) upd_same; rw [upd_upd] at this; exact this, e, r⟩
theorem rod_skip {G2 H5 : Hp} (j : J (upd M L c) G2 H5) (e : Ex G G2) (r : R k c G2) : RoH M G R L k H5 := ⟨c, G2, j, e, r⟩
theorem dcd_ro (w : Walk J' n GG Y) (j : J M G H) (R : Nat → HO → Hp → Prop) (h0 : R 0 o0 G) (hG : ∀ H1, Same M H1 → Same G H1 → GG H1)
    (hs : ∀ L i x c G1 H1 H2, i < n → M L = none → J (upd M L c) G1 H1 → Ex G G1 → R i c G1 → Y i H1 x H2 → g x (wipe σ vs) H2 fun σ2 H3 => wipe σ2 vs = wipe σ vs ∧ tt σ2 H3 fun b H4 => if b = true then tk σ2 H4 fun y H5 => tv σ2 H5 fun z H6 => ∃ H7, DPut H6 L y z H7 ∧ RoH M G R L (i + 1) H7 else RoH M G R L (i + 1) H4)
    (hd : ∀ L c G1 H1, M L = none → J (upd M L c) G1 H1 → Ex G G1 → R n c G1 → Q (.ref L) H1) : DcD o0 J' g tt tk tv vs σ H Q := fun L hL => by
  have nM := j.freeM hL
  have gg : ∀ {H1 : Hp} {c : HO} {G1 : Hp}, J (upd M L c) G1 H1 → Ex G G1 → GG H1 := fun {H1 c G1} j1 e1 => hG H1 (fun b u e => j1.m b u (upd_ne' e (ne_of_none e nM))) (e1.trans j1.g)
  refine ⟨fun i m H1 => m = n - i ∧ i ≤ n ∧ RoH M G R L i H1, ⟨n, rfl, Nat.zero_le _, o0, G, j.newM hL, Same.refl G, h0⟩, ?_⟩
  rintro i m H1 ⟨rfl, hi, c, G1, j1, e1, r⟩
  by_cases lt : i < n
  · exact .inr ⟨w.goes i H1 lt (gg j1 e1), RoH M G R L (i + 1), fun H' p => ⟨n - (i + 1), by omega, rfl, lt, p⟩, fun x H' y => hs L i x c G1 H1 H' lt nM j1 e1 r (w.yields i H1 x H' lt (gg j1 e1) y)⟩
  · obtain rfl : i = n := by omega
    exact .inl ⟨w.stops H1 (gg j1 e1), hd L c G1 H1 nM j1 e1 r⟩
/-- over the keys of a locked dict -/
def DcKy (o0 : HO) (g : TG) (tt : TT) (tk tv : TE) (vs : List Nat) (σ : L2.St) (x : V) (H1 : Hp) (Q : VK) : Prop := ∃ d o, x = .ref d ∧ ((∃ kvs, H1 d = some (.frz o (.dK kvs)) ∧ DcD o0 (Itk d o kvs) g tt tk tv vs σ H1 Q) ∨ ∃ kvs, H1 d = some (.frz o (.dT kvs)) ∧ DcD o0 (Itkt d o kvs) g tt tk tv vs σ H1 Q)
theorem w_dcKy (h : td σ H fun x H1 => DcKy o0 g tt tk tv vs σ x H1 Q) : tDcG o0 (iKeys td) g tt tk tv vs σ H Q := h
theorem w_dcKyT {o : Obj} {kvs : List (List Key × V)} (j : J M G H) (nt : NoT M) (hx : M d = some (.frz o (.dT kvs))) (R : Nat → HO → Hp → Prop) (h0 : R 0 o0 G) (hc : ∀ i c G1, R i c G1 → ∀ xs, c ≠ .tup xs) (mo : ∀ i c G1 G2, Ex G1 G2 → R i c G1 → R i c G2)
    (hs : ∀ L i q k v c G1 H1, kvs[i]? = some (k, v) → M L = none → J (upd M L c) G1 H1 → Ex G G1 → R i c G1 → G1 q = some (.tup (k.map kV)) → g (.ref q) (wipe σ vs) H1 fun σ2 H3 => wipe σ2 vs = wipe σ vs ∧ tt σ2 H3 fun b H4 => if b = true then tk σ2 H4 fun y H5 => tv σ2 H5 fun z H6 => ∃ H7, DPut H6 L y z H7 ∧ RoH M G R L (i + 1) H7 else RoH M G R L (i + 1) H4)
    (hd : ∀ L c G1 H1, M L = none → J (upd M L c) G1 H1 → Ex G G1 → R kvs.length c G1 → Q (.ref L) H1) : DcKy o0 g tt tk tv vs σ (.ref d) H Q := by
  refine ⟨d, o, rfl, .inr ⟨kvs, j.m _ _ hx, dcd_ro walk_keysT j R h0 (fun H1 e _ => e _ _ hx) (fun L i x c G1 H1 H2 _ nM j1 e1 r y => ?_) hd⟩⟩
  obtain ⟨rfl, k, v, q, hkv, rfl, hq⟩ := y
  obtain ⟨G2, j2, e2, hq2⟩ := j1.adopt (nt.upd (hc _ _ _ r)) hq
  exact hs L i q k v c G2 _ hkv nM j2 (e1.trans e2) (mo _ _ _ _ e2 r) hq2
theorem w_dcKyK {o : Obj} {kvs : List (Key × V)} (j : J M G H) (hx : M d = some (.frz o (.dK kvs))) (R : Nat → HO → Hp → Prop) (h0 : R 0 o0 G)
    (hs : ∀ L i k v c G1 H1, kvs[i]? = some (k, v) → M L = none → J (upd M L c) G1 H1 → Ex G G1 → R i c G1 → g (kV k) (wipe σ vs) H1 fun σ2 H3 => wipe σ2 vs = wipe σ vs ∧ tt σ2 H3 fun b H4 => if b = true then tk σ2 H4 fun y H5 => tv σ2 H5 fun z H6 => ∃ H7, DPut H6 L y z H7 ∧ RoH M G R L (i + 1) H7 else RoH M G R L (i + 1) H4)
    (hd : ∀ L c G1 H1, M L = none → J (upd M L c) G1 H1 → Ex G G1 → R kvs.length c G1 → Q (.ref L) H1) : DcKy o0 g tt tk tv vs σ (.ref d) H Q := by
  refine ⟨d, o, rfl, .inl ⟨kvs, j.m _ _ hx, dcd_ro walk_keys j R h0 (fun H1 e _ => e _ _ hx) (fun L i x c G1 H1 H2 _ nM j1 e1 r y => ?_) hd⟩⟩
  obtain ⟨rfl, k, v, hkv, rfl⟩ := y
  exact hs L i k v c G1 _ hkv nM j1 e1 r
/-- over a tuple -/
def DcT (K : PySem.W.Frag) (o0 : HO) (g : TG) (tt : TT) (tk tv : TE) (vs : List Nat) (σ : L2.St) (x : V) (H1 : Hp) (Q : VK) : Prop := ∃ a, x = .ref a ∧ (∃ xs, SqT K H1 a xs) ∧ DcD o0 (Itt K a) g tt tk tv vs σ H1 Q
theorem w_dcT (h : tl σ H fun x H1 => DcT K o0 g tt tk tv vs σ x H1 Q) : tDcG o0 (iTup K tl) g tt tk tv vs σ H Q := h
theorem w_dcTro (j : J M G H) (hx : SqT K G a xs) (R : Nat → HO → Hp → Prop) (h0 : R 0 o0 G)
    (hs : ∀ L i x c G1 H1, xs[i]? = some x → M L = none → J (upd M L c) G1 H1 → Ex G G1 → R i c G1 → g x (wipe σ vs) H1 fun σ2 H3 => wipe σ2 vs = wipe σ vs ∧ tt σ2 H3 fun b H4 => if b = true then tk σ2 H4 fun y H5 => tv σ2 H5 fun z H6 => ∃ H7, DPut H6 L y z H7 ∧ RoH M G R L (i + 1) H7 else RoH M G R L (i + 1) H4)
    (hd : ∀ L c G1 H1, M L = none → J (upd M L c) G1 H1 → Ex G G1 → R xs.length c G1 → Q (.ref L) H1) : DcT K o0 g tt tk tv vs σ (.ref a) H Q :=
  ⟨a, rfl, ⟨xs, st_mono j.g hx⟩, dcd_ro walk_tup j R h0 (fun H1 _ e => st_mono e hx) (fun L i x c G1 H1 H2 _ nM j1 e1 r y => by obtain ⟨rfl, hy⟩ := y; exact hs L i x c G1 _ hy nM j1 e1 r) hd⟩
end
local macro_rules
  | `(tactic| walk_at "v") => `(tactic| first
    | with_reducible refine w_dcKy ?_
    | with_reducible refine w_dcT ?_)
theorem w_unlockE {M G H : Hp} {d : Addr} {u : HO} {od : Obj} {A : Prop} (j : J (upd M d (.frz od u)) G H) (h : M d = some u) (k : ∀ H2, J M G H2 → upd H d u = H2 → A) : H d = some (.frz od u) ∧ A :=
  ⟨j.m _ _ upd_same, k _ (by have := j.put (o' := u) upd_same; rw [upd_back h] at this; exact this) rfl⟩
/-! ### replicas: what a leader sends -/
def expectR (r : Rpl) (ms : List Int) : Rpl := { r with ahead := ms.foldl (fun kv m => putI kv m (lastI r + 1)) r.ahead, known := ms.foldl (fun kv m => putI kv m (-1)) r.known }
def letterTo (r : Rpl) (i : Int) : PyData := match r.base with
  | none => .none
  | some b => if i < b.i then .tuple [.str "base", .int r.group, .int r.term, rbD b] else .tuple [.str "copy", .int r.group, .int r.term, .int i, .int (termAt r i), .tuple ((r.ents.drop (i - b.i).toNat).map rnD), .int r.cm]
def sendTo (r : Rpl) (m : Int) : Rpl := addLetter r (.tuple [.int m, letterTo r ((look r.ahead m).getD 0 - 1)])
def nudgeR (r : Rpl) : Rpl := if r.role = "leader" then (othersR r).foldl sendTo r else r
theorem cutV_from {xs : List V} {n : Nat} : cutV xs (some (n : Int)) none = xs.drop n := by
  have h1 : HT.sIx xs.length 0 (some (n : Int)) = min n xs.length := HT.sIx_nat _ _ _
  have h2 : HT.sIx xs.length xs.length none = xs.length := rfl
  unfold cutV
  rw [h1, h2]
  by_cases q : n ≤ xs.length
  · rw [Nat.min_eq_left q, List.take_of_length_le (by rw [List.length_drop]; omega)]
  · rw [Nat.min_eq_right (by omega), List.drop_of_length_le (Nat.le_refl _), List.drop_of_length_le (by omega)]; simp
theorem w_slM {K : PySem.W.Frag} {M G H : Hp} {a : Addr} {xs : List V} {lo hi : Option Int} {Q : VK} (j : J M G H) (h : M a = some (.lst xs)) (k : NewO (.lst (cutV xs lo hi)) 0 H Q) : uSl K (.ref a) lo hi H Q := .inl ⟨a, xs, rfl, .inl (.inl (j.m _ _ h)), k.2⟩
theorem putI_len {kv : List (Int × Int)} {k v : Int} : (putI kv k v).length ≤ kv.length + 1 := by
  unfold putI
  split
  · rw [List.length_map]; omega
  · rw [List.length_append]; exact Nat.le_refl _
/-- what a leader knows of all others lies within its log -/
def AhOk (r : Rpl) : Prop := ∀ m ∈ othersR r, ∃ x, look r.ahead m = some x ∧ x - 1 ≤ lastI r
def KnOk (r : Rpl) : Prop := ∀ m ∈ othersR r, ∃ x, look r.known m = some x
/-- a replica but for its letters -/
structure LtO (r r' : Rpl) : Prop where
  eq : r' = { r with letters := r'.letters }
theorem LtO.rfl' (r : Rpl) : LtO r r := ⟨rfl⟩
theorem LtO.add {r r' : Rpl} (h : LtO r r') (d : PyData) : LtO r (addLetter r' d) := ⟨by unfold addLetter; rw [h.eq]⟩
theorem LtO.send {r r' : Rpl} (h : LtO r r') (m : Int) : LtO r (sendTo r' m) := h.add _
theorem send_take {r : Rpl} {ms : List Int} {i : Nat} {m : Int} (h : ms[i]? = some m) : (ms.take (i + 1)).foldl sendTo r = sendTo ((ms.take i).foldl sendTo r) m := by
  rw [List.take_add_one, h]
  simp only [Option.toList, List.foldl_append, List.foldl_cons, List.foldl_nil]
theorem LtO.fold {r : Rpl} (ms : List Int) : ∀ {r' : Rpl}, LtO r r' → LtO r (ms.foldl sendTo r') := by
  induction ms with
  | nil => exact fun h => h
  | cons m t ih => exact fun h => ih (h.send m)
theorem send_sz (r : Rpl) (ms : List Int) : (ms.foldl sendTo r).sz = r.sz + ms.length := by
  induction ms generalizing r with
  | nil => rfl
  | cons m t ih =>
    rw [List.foldl_cons, ih, List.length_cons]
    show (addLetter r _).sz + _ = _
    unfold addLetter Rpl.sz
    simp only [List.length_append, List.length_cons, List.length_nil]
    omega
theorem others_len {r : Rpl} (h : OkR r) : (othersR r).length ≤ 50 := Nat.le_trans (List.length_filter_le _ _) (membersR_ok h)
/-! ### elections -/
def majB (xs ms : List Int) : Bool := decide (ms.length < 2 * xs.length)
def noneE (t : Int) : RN := ⟨t, ⟨"none", []⟩⟩
def leadR (r : Rpl) : Rpl :=
  let r1 := { r with role := "leader", leader := some r.me, ahead := [], known := [], tokens := [] }
  nudgeR (attachR (expectR r1 (membersR r1)) (noneE r.term))
def countR (r : Rpl) : Rpl := if majB ((membersR r).filter fun m => decide (m ∈ r.votes)) (membersR r) = true then leadR r else r
def askTo (r : Rpl) (m : Int) : Rpl := addLetter r (.tuple [.int m, .tuple [.str "ask", .int r.group, .int r.term, .int (lastI r), .int (lastT r)]])
def standR (r : Rpl) : Rpl := match r.base with
  | none => r
  | some _ => if r.role = "leader" then r else
    let r1 := { setTerm r (r.term + 1) (some r.me) with role := "candidate", leader := none, votes := [r.me] }
    countR ((othersR r1).foldl askTo r1)
theorem isCh_none (t : Int) : isCh (noneE t).c = false := by
  show (decide (("none" : Str) = "members") && _) = false
  rw [decide_eq_false (by decide +kernel)]; rfl
theorem RepS.pack {K : PySem.W.Frag} {C CC : Addr} {M0 M G : Hp} {a0 a : RepA} {r r' : Rpl} {p : Addr} (h : RepS K C CC M0 a0 M G a r) (e : r' = r) (hp : a.p = p) : ∃ a', a'.p = p ∧ RepS K C CC M0 a0 M G a' r' := ⟨a, hp, e ▸ h⟩
theorem membersOf_app {b : RB} {es fs : List RN} : ∀ {n : Nat}, n ≤ es.length → membersOf b (es ++ fs) n = membersOf b es n
  | 0, _ => rfl
  | n + 1, h => by
    have ih := membersOf_app (b := b) (es := es) (fs := fs) (n := n) (by omega)
    unfold membersOf
    rw [List.getElem?_append_left (by omega), ih]
theorem members_attach {r : Rpl} {e : RN} (h : isCh e.c = false) : membersR (attachR r e) = membersR r := by
  unfold membersR attachR
  dsimp only
  cases r.base with
  | none => rfl
  | some b =>
    dsimp only
    rw [List.length_append]
    show membersOf b (r.ents ++ [e]) (r.ents.length + 1) = _
    rw [membersOf, List.getElem?_append_right (Nat.le_refl _), Nat.sub_self]
    show (if isCh e.c = true then chMs e.c else membersOf b (r.ents ++ [e]) r.ents.length) = _
    rw [if_neg (by rw [h]; exact Bool.false_ne_true), membersOf_app (Nat.le_refl _)]
theorem look_fold {v : Int} : ∀ {ms : List Int} {kv : List (Int × Int)} {m : Int}, look (ms.foldl (fun kv m => putI kv m v) kv) m = if m ∈ ms then some v else look kv m
  | [], kv, m => by rw [if_neg (fun z => nomatch z)]; rfl
  | n :: t, kv, m => by
    rw [List.foldl_cons, look_fold (ms := t), look_put]
    by_cases h1 : m ∈ t
    · rw [if_pos h1, if_pos (List.mem_cons_of_mem _ h1)]
    · rw [if_neg h1]
      by_cases h2 : m = n
      · rw [if_pos h2, if_pos (by rw [h2]; exact List.mem_cons_self)]
      · rw [if_neg h2, if_neg fun z => (List.mem_cons.mp z).elim h2 h1]
theorem OkR.attach {r : Rpl} {e : RN} (h : OkR r) (he : OkC e.c) : OkR (attachR r e) := ⟨h.b, fun x m => by
  rcases List.mem_append.mp m with m | m
  · exact h.e x m
  · rw [List.mem_singleton.mp m]; exact he⟩
theorem OkC.not {c : RC} (h : isCh c = false) : OkC c := fun z => by rw [h] at z; cases z
theorem dp_oIv {K : PySem.W.Frag} {G : Hp} {v : V} {o : Option Int} (h : Dp K G v (oID o)) : v = oI o := by
  cases o with
  | none => cases h; rfl
  | some n => cases h; rfl
theorem ask_take {r : Rpl} {ms : List Int} {i : Nat} {m : Int} (h : ms[i]? = some m) : (ms.take (i + 1)).foldl askTo r = askTo ((ms.take i).foldl askTo r) m := by
  rw [List.take_add_one, h]
  simp only [Option.toList, List.foldl_append, List.foldl_cons, List.foldl_nil]
theorem ask_sz (r : Rpl) (ms : List Int) : (ms.foldl askTo r).sz = r.sz + ms.length := by
  induction ms generalizing r with
  | nil => rfl
  | cons m t ih =>
    rw [List.foldl_cons, ih, List.length_cons]
    show (addLetter r _).sz + _ = _
    unfold addLetter Rpl.sz
    simp only [List.length_append, List.length_cons, List.length_nil]
    omega
/-! ### replicas: commands are applied -/
def runS (n : Int) (c : RC) : PyData × Int := if c.ds.length = 0 then (if c.w = "next" then (.tuple [.str "time", .int (n + 1)], n + 1) else if c.w = "none" then (.tuple [.str "none"], n) else (.tuple [.str "unknown"], n)) else (.tuple [.str "unknown"], n)
def asRun (c : RC) : RC := if isCh c = true then ⟨"none", []⟩ else c
def entAt (r : Rpl) (i : Int) : Option RN := match r.base with
  | none => none
  | some b => r.ents[(i - b.i - 1).toNat]?
def ansR (r : Rpl) (i : Int) (d : PyData) : List PyData := if r.role = "leader" then (match getA r.tokens i with
  | some t => r.answers ++ [.tuple [t, d]]
  | none => r.answers) else r.answers
def applyR (r : Rpl) : Rpl := match entAt r (r.ap + 1), r.st with
  | some e, some (.cnt n) => { r with st := some (.cnt (runS n (asRun e.c)).2), ap := r.ap + 1, ledger := r.ledger ++ [.tuple [.int (r.ap + 1), rcD e.c]], answers := ansR r (r.ap + 1) (runS n (asRun e.c)).1 }
  | _, _ => r
def iterR : Nat → Rpl → Rpl
  | 0, r => r
  | n + 1, r => iterR n (applyR r)
theorem iterR_succ : ∀ (n : Nat) (r : Rpl), iterR (n + 1) r = applyR (iterR n r)
  | 0, _ => rfl
  | n + 1, r => iterR_succ n (applyR r)
def commitR (r : Rpl) (i : Int) : Rpl := iterR ((if i > r.cm then i else r.cm) - r.ap).toNat { r with cm := if i > r.cm then i else r.cm }
def reachR (r : Rpl) (m : Int) : Int := if m = r.me then r.du else (look r.known m).getD 0
def havingR (r : Rpl) (i : Int) : List Int := (membersR r).filter fun m => decide (i ≤ reachR r m)
def keptFrom (r : Rpl) : Nat → Int
  | 0 => r.cm
  | k + 1 => if termAt r (r.cm + (k + 1 : Nat)) = r.term ∧ majB (havingR r (r.cm + (k + 1 : Nat))) (membersR r) = true then r.cm + (k + 1 : Nat) else keptFrom r k
def keptI (r : Rpl) : Int := keptFrom r (lastI r - r.cm).toNat
def commitKeptR (r : Rpl) : Rpl := if r.role = "leader" then commitR r (keptI r) else r
def syncedR (r : Rpl) : Rpl := commitKeptR { r with du := lastI r }
/-- a replica but for what applying changes -/
structure ApO (r r' : Rpl) : Prop where
  eq : r' = { r with st := r'.st, ap := r'.ap, ledger := r'.ledger, answers := r'.answers }
  st : ∃ n, r'.st = some (.cnt n)
theorem applyR_at {r : Rpl} {b : RB} {k : Nat} {e : RN} {n : Int} (hb : r.base = some b) (hk : r.ap = b.i + k) (he : r.ents[k]? = some e) (hs : r.st = some (.cnt n)) :
    applyR r = { r with st := some (.cnt (runS n (asRun e.c)).2), ap := r.ap + 1, ledger := r.ledger ++ [.tuple [.int (r.ap + 1), rcD e.c]], answers := ansR r (r.ap + 1) (runS n (asRun e.c)).1 } := by
  have e1 : entAt r (r.ap + 1) = some e := by
    unfold entAt
    rw [hb]
    dsimp only
    rw [show (r.ap + 1 - b.i - 1).toNat = k by omega, he]
  unfold applyR
  rw [e1, hs]
theorem ansR_len {r : Rpl} {i : Int} {d : PyData} : (ansR r i d).length ≤ r.answers.length + 1 := by
  unfold ansR
  split
  · split
    · rw [List.length_append]; exact Nat.le_refl _
    · omega
  · omega
theorem apply_sz (r : Rpl) : (applyR r).sz ≤ r.sz + 2 := by
  unfold applyR
  split
  · rename_i e n _ _
    have := ansR_len (r := r) (i := r.ap + 1) (d := (runS n (asRun e.c)).1)
    unfold Rpl.sz
    simp only [List.length_append, List.length_cons, List.length_nil]
    omega
  · omega
theorem iter_sz : ∀ (n : Nat) (r : Rpl), (iterR n r).sz ≤ r.sz + 2 * n
  | 0, _ => Nat.le_refl _
  | n + 1, r => by
    have := iter_sz n (applyR r)
    have := apply_sz r
    show (iterR n (applyR r)).sz ≤ _
    omega
theorem apply_o {r : Rpl} {b : RB} (hb : r.base = some b) (h1 : b.i ≤ r.ap) (h2 : r.ap < b.i + r.ents.length) (hs : ∃ n, r.st = some (.cnt n)) : ApO r (applyR r) ∧ (applyR r).ap = r.ap + 1 := by
  obtain ⟨k, hk⟩ := Int.eq_ofNat_of_zero_le (show 0 ≤ r.ap - b.i by omega)
  obtain ⟨n, hs⟩ := hs
  have hk2 : k < r.ents.length := by omega
  rw [applyR_at hb (show r.ap = b.i + k by omega) (List.getElem?_eq_getElem hk2) hs]
  exact ⟨⟨rfl, _, rfl⟩, rfl⟩
theorem ApO.trans {r r1 r2 : Rpl} (h : ApO r r1) (g : ApO r1 r2) : ApO r r2 := ⟨by rw [g.eq, h.eq], g.st⟩
theorem iter_o : ∀ (n : Nat) {r : Rpl} {b : RB}, r.base = some b → b.i ≤ r.ap → r.ap + n ≤ b.i + r.ents.length → (∃ n, r.st = some (.cnt n)) → ApO r (iterR n r) ∧ (iterR n r).ap = r.ap + n
  | 0, r, b, _, _, _, hs => ⟨⟨rfl, hs⟩, by show r.ap = r.ap + (0 : Nat); omega⟩
  | n + 1, r, b, hb, h1, h2, hs => by
    obtain ⟨q1, q2⟩ := apply_o hb h1 (by omega) hs
    have e1 : (applyR r).base = some b := by rw [q1.eq]; exact hb
    have e2 : (applyR r).ents = r.ents := by rw [q1.eq]
    obtain ⟨q3, q4⟩ := iter_o n (r := applyR r) e1 (by omega) (by rw [e2]; omega) q1.st
    refine ⟨q1.trans q3, ?_⟩
    show (iterR n (applyR r)).ap = _
    rw [q4, q2]
    omega
section
variable {K : PySem.W.Frag} {C CC : Addr} {M0 M G H : Hp} {a0 a : RepA} {r : Rpl}
theorem RepS.f_st (h : RepS K C CC M0 a0 M G a r) {n n' : Int} {s dx : Addr} (h1 : a.sc = [s]) (h2 : a.so = [.ins CC dx (fl_Counter (.int n))]) (h3 : a.sv = .ref s) : RepS K C CC M0 a0 (upd M s (.ins CC dx (fl_Counter (.int n')))) G { a with so := [.ins CC dx (fl_Counter (.int n'))] } { r with st := some (.cnt n') } :=
  h.put 11 { a with so := [.ins CC dx (fl_Counter (.int n'))] } _ (by unfold RepA.cells; rw [h1]; rfl) (fun _ z => nomatch z) rfl rfl (by unfold RepA.cont; rw [h2]; rfl) ⟨h.t.d.b, ⟨s, dx, h3, h1, rfl⟩, h.t.d.en, h.t.d.le, h.t.d.rc, h.t.d.lt, h.t.d.an, h.t.d.bi, h.t.d.tq⟩
theorem RepAt.o_st (h : RepAt K C CC M G a r) {n : Int} (hs : r.st = some (.cnt n)) : ∃ s dx, a.sc = [s] ∧ a.so = [.ins CC dx (fl_Counter (.int n))] ∧ a.sv = .ref s ∧ M s = some (.ins CC dx (fl_Counter (.int n))) := by
  have := h.d.s
  rw [hs] at this
  obtain ⟨s, dx, h1, h2, h3⟩ := this
  exact ⟨s, dx, h2, h3, h1, h.cell 11 (by unfold RepA.cells; rw [h2]; rfl) (by unfold RepA.cont; rw [h3]; rfl)⟩
end
theorem keyI_get {K : PySem.W.Frag} {G : Hp} {kv : List (Key × V)} {l : List (Int × PyData)} (h : DcAt keyI (Dp K G) kv l) (k : Int) : (getA l k = none ∧ valV kv (.inl k) = none) ∨ ∃ d v, getA l k = some d ∧ valV kv (.inl k) = some v ∧ Dp K G v d := h.get keyI_inj k
theorem w_ifv {b : Bool} {ta tb : TE} {σ : L2.St} {H : Hp} {Q : VK} (v : V) (hA : b = true → ∀ Q : VK, Q v H → ta σ H Q) (hB : b = false → ∀ Q : VK, Q v H → tb σ H Q) (h : Q v H) : if b = true then ta σ H Q else tb σ H Q := by
  cases b with
  | true => rw [if_pos rfl]; exact hA rfl Q h
  | false => rw [if_neg Bool.false_ne_true]; exact hB rfl Q h
theorem inV_intR {n : Int} : ∀ {ns : List Int}, inV (.int n) (ns.map V.int) = decide (n ∈ ns)
  | [] => rfl
  | m :: ns => by
    show ((m == n) || inV (.int n) (ns.map V.int)) = _
    rw [inV_intR, Bool.beq_eq_decide_eq]
    by_cases e : m = n
    · subst e
      rw [decide_eq_true rfl, decide_eq_true List.mem_cons_self]; rfl
    · rw [decide_eq_false e, Bool.false_or]
      exact decide_eq_decide.mpr ⟨List.mem_cons_of_mem _, fun h => (List.mem_cons.mp h).elim (fun z => absurd z.symm e) id⟩
theorem flat_intsR (ns : List Int) : (ns.map V.int).all flatV = true := List.all_eq_true.mpr fun x m => by obtain ⟨n, _, rfl⟩ := List.mem_map.mp m; rfl
theorem take_oneR {α : Type} {l : List α} {i : Nat} {x : α} (h : l[i]? = some x) : l.take (i + 1) = l.take i ++ [x] := by rw [List.take_add_one, h]; rfl
theorem J.subR {M M0 G H : Hp} (j : J M G H) (s : Same M0 M) : J M0 G H := ⟨s.trans j.m, j.g, fun a o e => j.d a o (s a o e)⟩
/-! ### replicas: leaders -/
theorem kept_le (r : Rpl) : ∀ k : Nat, r.cm ≤ keptFrom r k ∧ keptFrom r k ≤ r.cm + k
  | 0 => ⟨Int.le_refl _, by show r.cm ≤ r.cm + (0 : Nat); omega⟩
  | k + 1 => by
    have := kept_le r k
    unfold keptFrom
    split
    · exact ⟨by omega, Int.le_refl _⟩
    · exact ⟨this.1, by omega⟩
theorem keptI_le {r : Rpl} (h : r.cm ≤ lastI r) : r.cm ≤ keptI r ∧ keptI r ≤ lastI r := by
  have := kept_le r (lastI r - r.cm).toNat
  unfold keptI
  omega
/-- what holds of a replica whose entries are applied in turn -/
structure RunOk (r : Rpl) (b : RB) : Prop where
  hb : r.base = some b
  a1 : b.i ≤ r.ap
  a2 : r.ap ≤ r.cm
  c2 : r.cm ≤ b.i + r.ents.length
  s : ∃ n, r.st = some (.cnt n)
def ascI : List Int → Bool
  | a :: b :: r => decide (a < b) && ascI (b :: r)
  | _ => true
/-- 1 to 5 identities in ascending order -/
def idsB (ms : List Int) : Bool := decide (1 ≤ ms.length) && (decide (ms.length ≤ 5) && ascI ms)
def diffI (xs ys : List Int) : List Int := (xs.filter fun x => decide (x ∉ ys)) ++ (ys.filter fun y => decide (y ∉ xs))
def anyCh (es : List RN) : Bool := es.any fun e => isCh e.c
def mayB (r : Rpl) (ms : List Int) : Bool := if idsB ms = false ∨ (diffI ms (membersR r)).length ≠ 1 then false else if termAt r r.cm ≠ r.term then false else match r.base with
  | none => false
  | some b => !anyCh (r.ents.drop (r.cm - b.i).toNat)
def putTok (r : Rpl) (d : PyData) : Rpl := { r with tokens := putA r.tokens (lastI r) d }
def accR (r : Rpl) (c : RC) (d : PyData) : Rpl := nudgeR (putTok (attachR (if isCh c = true then expectR r ((chMs c).filter fun m => decide (m ∉ membersR r)) else r) ⟨r.term, c⟩) d)
def proposeB (r : Rpl) (c : RC) : Bool := decide (r.role = "leader") && (if isCh c = true then mayB r (chMs c) else true)
def proposeR (r : Rpl) (c : RC) (d : PyData) : Rpl := if proposeB r c = true then accR r c d else r
theorem ascI_snoc : ∀ {l : List Int} {x y : Int}, ascI (l ++ [x, y]) = (ascI (l ++ [x]) && decide (x < y))
  | [], x, y => by
    show (decide (x < y) && true) = (true && decide (x < y))
    rw [Bool.and_true, Bool.true_and]
  | [a], x, y => by
    show (decide (a < x) && (decide (x < y) && true)) = ((decide (a < x) && true) && decide (x < y))
    rw [Bool.and_true, Bool.and_true]
  | a :: b :: r, x, y => by
    have ih := ascI_snoc (l := b :: r) (x := x) (y := y)
    show (decide (a < b) && ascI (b :: r ++ [x, y])) = ((decide (a < b) && ascI (b :: r ++ [x])) && decide (x < y))
    rw [ih, Bool.and_assoc]
theorem ascI_take {l : List Int} {i : Nat} {x y : Int} (hx : l[i]? = some x) (hy : l[i + 1]? = some y) : ascI (l.take (i + 2)) = (ascI (l.take (i + 1)) && decide (x < y)) := by
  have e1 : l.take (i + 1) = l.take i ++ [x] := by rw [List.take_add_one, hx]; rfl
  have e2 : l.take (i + 2) = l.take i ++ [x, y] := by
    rw [show i + 2 = (i + 1) + 1 from rfl, List.take_add_one, hy, e1, List.append_assoc]; rfl
  rw [e1, e2, ascI_snoc]
theorem ascI_one {l : List Int} : ascI (l.take 1) = true := by
  cases l with
  | nil => rfl
  | cons x r => rw [show (x :: r).take 1 = [x] from rfl]; rfl
theorem cut_1R {x : V} {r : List V} : cutV (x :: r) (some 1) none = r := by
  have := cutV_from (xs := x :: r) (n := 1)
  exact this
theorem inV_strs {w : Str} : ∀ {ws : List Str}, inV (.str w) (ws.map V.str) = decide (w ∈ ws)
  | [] => rfl
  | v :: r => by
    show ((v == w) || inV (.str w) (r.map V.str)) = _
    rw [inV_strs, Bool.beq_eq_decide_eq]
    by_cases e : v = w
    · subst e
      rw [decide_eq_true rfl, decide_eq_true List.mem_cons_self]; rfl
    · rw [decide_eq_false e, Bool.false_or]
      exact decide_eq_decide.mpr ⟨List.mem_cons_of_mem _, fun h => (List.mem_cons.mp h).elim (fun z => absurd z.symm e) id⟩
section
variable {K : PySem.W.Frag} {M G H : Hp} {σ : L2.St} {Q : VK} {g : TG} {tt : TT} {te : TE} {vs : List Nat} {a b : Addr} {xs ys : List V}
/-- two tuples side by side, the second one not longer -/
theorem walk_zTle (l : ys.length ≤ xs.length) : Walk (RZ.ItzT K a b) ys.length (fun H => SqT K H a xs ∧ SqT K H b ys) (YZ xs ys) :=
  ⟨fun i _ hi q => ⟨xs, ys, xs[i], ys[i], q.1, q.2, by simp [show i < xs.length by omega], by simp [hi]⟩, fun _ q => ⟨xs, ys, q.1, q.2, .inr (Nat.le_refl _)⟩, fun i H v H' _ q y => by
    obtain ⟨T, x, y, rfl, hT, rfl, f1, f2⟩ := y
    exact ⟨T, x, y, f1 xs q.1, f2 ys q.2, rfl, hT, rfl⟩⟩
theorem w_lcZle (j : J M G H) (h1 : SqT K G a xs) (h2 : SqT K G b ys) (l : ys.length ≤ xs.length) (R : Nat → List V → Hp → Prop) (h0 : R 0 [] G) (mo : ∀ i acc G1 G2, Ex G1 G2 → R i acc G1 → R i acc G2)
    (hs : ∀ L i T x y acc G1 H1, xs[i]? = some x → ys[i]? = some y → M L = none → J (upd M L (.lst acc)) G1 H1 → Ex G G1 → R i acc G1 → G1 T = some (.tup [x, y]) → g (.ref T) (wipe σ vs) H1 fun σ2 H3 => wipe σ2 vs = wipe σ vs ∧ tt σ2 H3 fun b H4 => if b = true then te σ2 H4 (RoAdd M G R L (i + 1)) else RoI M G R L (i + 1) H4)
    (hd : ∀ L acc G1 G2 H1, J M G2 H1 → Ex G G1 → Ex G1 G2 → G2 L = some (.lst acc) → R ys.length acc G1 → Q (.ref L) H1) : LcZ K g tt te vs σ [.ref a, .ref b] H Q := by
  have turn : ∀ L i x acc G1 H1 H2, i < ys.length → M L = none → J (upd M L (.lst acc)) G1 H1 → Ex G G1 → R i acc G1 → YZ xs ys i H1 x H2 → g x (wipe σ vs) H2 fun σ2 H3 => wipe σ2 vs = wipe σ vs ∧ tt σ2 H3 fun b H4 => if b = true then te σ2 H4 (RoAdd M G R L (i + 1)) else RoI M G R L (i + 1) H4 := by
    rintro L i x acc G1 H1 H2 _ nM j1 e1 r ⟨T, u, v, hu, hv, rfl, hT, rfl⟩
    exact hs L i T u v acc _ _ hu hv nM (j1.newG hT) (e1.trans (Ex.new (j1.freeG hT))) (mo _ _ _ _ (Ex.new (j1.freeG hT)) r) upd_same
  exact ⟨a, b, xs, ys, rfl, .inr ⟨st_mono j.g h1, st_mono j.g h2, lcd_ro (walk_zTle l) j R h0 (fun H1 _ e => ⟨st_mono e h1, st_mono e h2⟩) turn hd⟩⟩
end
def maxI (a b : Int) : Int := if b > a then b else a
def minI (a b : Int) : Int := if b < a then b else a
def gotR (r : Rpl) (s : Int) (g : Bool) (i : Int) : Rpl := if r.role ≠ "leader" ∨ s ∉ membersR r then r else
  commitKeptR (if g = true then { r with known := putI r.known s (maxI ((look r.known s).getD 0) i), ahead := putI r.ahead s (maxI ((look r.known s).getD 0) i + 1) }
    else sendTo { r with ahead := putI r.ahead s (minI (maxI ((look r.ahead s).getD 0 - 1) 0) (i + 1)) } s)
/-- what holds of a leader -/
structure LdOk (r : Rpl) (b : RB) : Prop where
  o : OkR r
  u : RunOk r b
  k : KnOk r
  a : AhOk r
theorem members_attachC {r : Rpl} {e : RN} (hb : ∃ b, r.base = some b) : membersR (attachR r e) = if isCh e.c = true then chMs e.c else membersR r := by
  cases h : isCh e.c with
  | false => rw [if_neg Bool.false_ne_true]; exact members_attach h
  | true =>
    rw [if_pos rfl]
    obtain ⟨b, hb⟩ := hb
    unfold membersR attachR
    dsimp only
    rw [hb]
    dsimp only
    rw [List.length_append]
    show membersOf b (r.ents ++ [e]) (r.ents.length + 1) = _
    rw [membersOf, List.getElem?_append_right (Nat.le_refl _), Nat.sub_self]
    show (if isCh e.c = true then chMs e.c else _) = _
    rw [if_pos h]
/-! ### Replica.refuse -/
abbrev s_Replica_refuse : Stmt := inClass (top 22) 31
abbrev n_Replica_refuse : List Str := ["self", "sender", "word"]
theorem sc_Replica_refuse : FnScope n_Replica_refuse ["self", "sender", "word"] (defScope s_Replica_refuse) := ⟨rfl, rfl, rfl, by decide +kernel, rfl, by decide +kernel, by decide +kernel⟩
structure RfP where
  a : RepA
  r : Rpl
  s : Int
  w : Str
def refuseR (r : Rpl) (s : Int) (w : Str) : Rpl := if w = "ask" then addLetter r (.tuple [.int s, .tuple [.str "vote", .int r.group, .int r.term, .bool false]]) else if w = "copy" ∨ w = "base" then addLetter r (.tuple [.int s, .tuple [.str "got", .int r.group, .int r.term, .bool false, .int (lastI r)]]) else r
def sp_Replica_refuse (K : PySem.W.Frag) (C CC : Addr) : Sp := Sg (α := RfP) (fun x vs M G => vs = [.ref x.a.p, .int x.s, .str x.w] ∧ RepAt K C CC M G x.a x.r ∧ x.r.sz ≤ 900000) (fun x M _ v M' G' => v = .non ∧ RE K C CC M x.a M' G' (refuseR x.r x.s x.w))
theorem ok_Replica_refuse {P : Program} {w : World} {K : PySem.W.Frag} {mg : Str → Option Value} {base : Heap}
    {C_Replica : Addr} (T_Replica : Tx_Replica K mg C_Replica)
    {C_Counter : Addr} (T_Counter : Tx_Counter K mg C_Counter)
    {f : Addr} {fd : FuncData} (D : Dm K C_Replica "refuse" "Replica.refuse" s_Replica_refuse ["self", "sender", "word"] f fd)
    (c_Replica_last_index : CalP P w K mg base CX0 1 C_Replica "last_index" (sp_Replica_last_index K C_Replica C_Counter)) : CalM P w K mg base CX0 3 C_Replica "refuse" (sp_Replica_refuse K C_Replica C_Counter) := by
  refine D.ok sc_Replica_refuse (fun vs H Q E h => ?_) fun cdv A outer s H vs Q E hr h => ?_
  · obtain ⟨x, M, G, j, ⟨rfl, _⟩, _⟩ := h; rfl
  obtain ⟨⟨a, r, s, w⟩, M, G, j, ⟨rfl, hR, hz⟩, k⟩ := h
  dsimp only at hR hz k
  refine ⟨_, (pss_one (ps_if (pt_cmpR (op_uEqK (K := K) rfl hr) (pv 2) pe_str (nomark _))
(pss_one (ps_expr (pe_bm PySem.F.plainAttrs_list PySem.F.slot_list_append PySem.F.type_list_append mt_append (pe_fld (pv 0) rfl) (pa_cons (pe_tup (pa_cons (pv 1) (pa_cons (pe_tup (pa_cons pe_str (pa_cons (pe_fld (pv 0) rfl) (pa_cons (pe_fld (pv 0) rfl) (pa_cons pe_bl pa_nil))))) pa_nil))) pa_nil))))
(pss_one (ps_if (pt_cmpR (op_inK (K := K) rfl) (pv 2) (pe_tup (pa_cons pe_str (pa_cons pe_str pa_nil))) (by with_unfolding_all rfl))
(pss_one (ps_expr (pe_bm PySem.F.plainAttrs_list PySem.F.slot_list_append PySem.F.type_list_append mt_append (pe_fld (pv 0) rfl) (pa_cons (pe_tup (pa_cons (pv 1) (pa_cons (pe_tup (pa_cons pe_str (pa_cons (pe_fld (pv 0) rfl) (pa_cons (pe_fld (pv 0) rfl) (pa_cons pe_bl (pa_cons (pe_calP c_Replica_last_index T_Replica.cl hr (by first | decide | omega) (pv 0) (by rfl)) pa_nil)))))) pa_nil))) pa_nil))))
pss_nil)))), ?_⟩
  have ll := dpAll_len hR.d.lt
  have lz : r.letters.length ≤ r.sz := by unfold Rpl.sz; omega
  walk_at "start"
  refine w_eqS (k := decide (w = "ask")) rfl ?_
  walk_at "go"
  refine w_dec (fun c => ?_) (fun c => ?_)
  · have er : refuseR r s w = addLetter r (.tuple [.int s, .tuple [.str "vote", .int r.group, .int r.term, .bool false]]) := by unfold refuseR; rw [if_pos c]
    rw [er] at k
    walk_at "go"
    (have hop := RepAt.op hR; refine w_fldM j hop T_Replica.cl T_Replica.n_letters fl_Replica_letters ?_; clear hop; walk_at "go")
    refine ⟨ty_listM j hR.o_lt, ?_⟩
    walk_at "go"
    (have hop := RepAt.op hR; refine w_fldM j hop T_Replica.cl T_Replica.n_group fl_Replica_group ?_; clear hop; walk_at "go")
    (have hop := RepAt.op hR; refine w_fldM j hop T_Replica.cl T_Replica.n_term fl_Replica_term ?_; clear hop; walk_at "go")
    refine w_new j (by show 4 ≤ sizeLine; decide) fun t1 G1 H1 j1 e1 ht1 _ => ?_
    walk_at "go"
    refine w_new j1 (by show 2 ≤ sizeLine; decide) fun t2 G2 H2 j2 e2 ht2 _ => ?_
    have hR2 := (hR.ex e1).ex e2
    walk_at "go"
    refine w_appendA j2 hR2.o_lt (by omega) fun H3 j3 => ?_
    walk_at "go"
    exact k _ _ _ _ j3 (e1.trans e2) ⟨rfl, _, hR2.s.a_lt (.tup (st_of ht2) (.cons (.int _) (.cons (.tup (st_of (e2 _ _ ht1)) (.cons (.str _) (.cons (.int _) (.cons (.int _) (.cons (.bl _) .nil))))) .nil)))⟩
  walk_at "go"
  refine w_new j (by show 2 ≤ sizeLine; decide) fun t0 G0 H0 j0 e0 ht0 _ => ?_
  have hR0 := hR.ex e0
  refine w_inT j0 (st_of ht0) rfl rfl ?_
  rw [if_neg Bool.false_ne_true, show inV (.str w) [V.str "copy", V.str "base"] = decide (w ∈ (["copy", "base"] : List Str)) from inV_strs (ws := ["copy", "base"])]
  walk_at "go"
  refine w_dec (fun c2 => ?_) (fun c2 => ?_)
  · have c2' : w = "copy" ∨ w = "base" := by
      rcases List.mem_cons.mp c2 with z | z
      · exact .inl z
      · exact .inr (List.mem_singleton.mp z)
    have er : refuseR r s w = addLetter r (.tuple [.int s, .tuple [.str "got", .int r.group, .int r.term, .bool false, .int (lastI r)]]) := by unfold refuseR; rw [if_neg c, if_pos c2']
    rw [er] at k
    walk_at "go"
    (have hop := RepAt.op hR0; refine w_fldM j0 hop T_Replica.cl T_Replica.n_letters fl_Replica_letters ?_; clear hop; walk_at "go")
    refine ⟨ty_listM j0 hR0.o_lt, ?_⟩
    walk_at "go"
    (have hop := RepAt.op hR0; refine w_fldM j0 hop T_Replica.cl T_Replica.n_group fl_Replica_group ?_; clear hop; walk_at "go")
    (have hop := RepAt.op hR0; refine w_fldM j0 hop T_Replica.cl T_Replica.n_term fl_Replica_term ?_; clear hop; walk_at "go")
    (have hop := RepAt.op hR0; refine w_propM j0 hop ?_; clear hop)
    refine w_sg (a, r) j0 ⟨rfl, hR0⟩ fun v M1 G1 H1 j1 e1 ⟨ev, em⟩ => ?_
    have ev : v = .int (lastI r) := ev
    subst ev em
    walk_at "go"
    refine w_new j1 (by show 5 ≤ sizeLine; decide) fun t1 G2 H2 j2 e2 ht1 _ => ?_
    walk_at "go"
    refine w_new j2 (by show 2 ≤ sizeLine; decide) fun t2 G3 H3 j3 e3 ht2 _ => ?_
    have hR3 := ((hR0.ex e1).ex e2).ex e3
    walk_at "go"
    refine w_appendA j3 hR3.o_lt (by omega) fun H4 j4 => ?_
    walk_at "go"
    exact k _ _ _ _ j4 (((e0.trans e1).trans e2).trans e3) ⟨rfl, _, hR3.s.a_lt (.tup (st_of ht2) (.cons (.int _) (.cons (.tup (st_of (e3 _ _ ht1)) (.cons (.str _) (.cons (.int _) (.cons (.int _) (.cons (.bl _) (.cons (.int _) .nil)))))) .nil)))⟩
  · have er : refuseR r s w = r := by
      unfold refuseR
      rw [if_neg c, if_neg fun z => c2 (z.elim (fun z => by rw [z]; exact List.mem_cons_self) fun z => by rw [z]; exact List.mem_cons_of_mem _ List.mem_cons_self)]
    rw [er] at k
    walk_at "go"
    exact k _ _ _ _ j0 e0 ⟨rfl, a, hR0.s⟩
/-! ### Replica.set_term -/
abbrev s_Replica_set_term : Stmt := inClass (top 22) 15
abbrev n_Replica_set_term : List Str := ["self", "term", "voted"]
theorem sc_Replica_set_term : FnScope n_Replica_set_term ["self", "term", "voted"] (defScope s_Replica_set_term) := ⟨rfl, rfl, rfl, by decide +kernel, rfl, by decide +kernel, by decide +kernel⟩
structure StP where
  a : RepA
  r : Rpl
  t : Int
  o : Option Int
def sp_Replica_set_term (K : PySem.W.Frag) (C CC : Addr) : Sp := Sg (α := StP) (fun x vs M G => vs = [.ref x.a.p, .int x.t, oI x.o] ∧ RepAt K C CC M G x.a x.r ∧ x.r.sz ≤ 900000) (fun x M _ v M' G' => v = .non ∧ RE K C CC M x.a M' G' (setTerm x.r x.t x.o))
theorem ok_Replica_set_term {P : Program} {w : World} {K : PySem.W.Frag} {mg : Str → Option Value} {base : Heap}
    {C_Replica : Addr} (T_Replica : Tx_Replica K mg C_Replica)
    {C_Counter : Addr} (T_Counter : Tx_Counter K mg C_Counter)
    {f : Addr} {fd : FuncData} (D : Dm K C_Replica "set_term" "Replica.set_term" s_Replica_set_term ["self", "term", "voted"] f fd) : CalM P w K mg base CX0 1 C_Replica "set_term" (sp_Replica_set_term K C_Replica C_Counter) := by
  refine D.ok sc_Replica_set_term (fun vs H Q E h => ?_) fun cdv A outer s H vs Q E hr h => ?_
  · obtain ⟨x, M, G, j, ⟨rfl, _⟩, _⟩ := h; rfl
  obtain ⟨⟨a, r, t, o⟩, M, G, j, ⟨rfl, hR, hz⟩, k⟩ := h
  dsimp only at hR hz k
  refine ⟨_, (pss_cons (ps_fld (pv 0) (pv 1) rfl)
(pss_cons (ps_fld (pv 0) (pv 2) rfl)
(pss_one (ps_expr (pe_bm PySem.F.plainAttrs_list PySem.F.slot_list_append PySem.F.type_list_append mt_append (pe_fld (pv 0) rfl) (pa_cons (pe_tup (pa_cons pe_str (pa_cons (pe_fld (pv 0) rfl) (pa_cons (pv 1) (pa_cons (pv 2) pa_nil))))) pa_nil)))))), ?_⟩
  have lr := dpAll_len hR.d.rc
  unfold Rpl.sz at hz
  walk_at "start"
  (have hop := hR.op; refine w_setX j hop T_Replica.cl T_Replica.n_term (by show 21 < 1000; decide) fun H1 j1 => ?_; clear hop; rw [sf_Replica_term] at j1)
  have hS1 := hR.s.f_term t
  walk_at "go"
  (have hop := hS1.t.op; refine w_setX j1 hop T_Replica.cl T_Replica.n_voted (by show 21 < 1000; decide) fun H2 j2 => ?_; clear hop; rw [sf_Replica_voted] at j2)
  have hS2 := hS1.f_voted o
  walk_at "go"
  (have hop := RepAt.op hS2.t; refine w_fldM j2 hop T_Replica.cl T_Replica.n_records fl_Replica_records ?_; clear hop; walk_at "go")
  refine ⟨ty_listM j2 hS2.t.o_rc, ?_⟩
  walk_at "go"
  (have hop := RepAt.op hS2.t; refine w_fldM j2 hop T_Replica.cl T_Replica.n_group fl_Replica_group ?_; clear hop; walk_at "go")
  refine w_new j2 (by show 4 ≤ sizeLine; decide) fun q G3 H3 j3 e3 hq _ => ?_
  walk_at "go"
  have hS3 := hS2.ex e3
  refine w_appendA j3 hS3.t.o_rc (by first | omega | (dsimp only; omega)) fun H4 j4 => ?_
  exact k _ _ _ _ j4 e3 ⟨rfl, _, hS3.a_rc (.tup (st_of hq) (.cons (.str _) (.cons (.int _) (.cons (.int _) (.cons (dp_oI o) .nil)))))⟩
/-! ### Replica.entry_at -/
abbrev s_Replica_entry_at : Stmt := inClass (top 22) 5
abbrev n_Replica_entry_at : List Str := ["self", "index"]
theorem sc_Replica_entry_at : FnScope n_Replica_entry_at ["self", "index"] (defScope s_Replica_entry_at) := ⟨rfl, rfl, rfl, by decide +kernel, rfl, by decide +kernel, by decide +kernel⟩
structure EaP where
  a : RepA
  r : Rpl
  i : Int
  b : RB
  n : Nat
  e : RN
def sp_Replica_entry_at (K : PySem.W.Frag) (C CC : Addr) : Sp := Sg (α := EaP) (fun x vs M G => vs = [.ref x.a.p, .int x.i] ∧ RepAt K C CC M G x.a x.r ∧ x.r.base = some x.b ∧ x.i = x.b.i + 1 + x.n ∧ x.r.ents[x.n]? = some x.e) (fun x M _ v M' G' => M' = M ∧ Dp K G' v (rnD x.e))
theorem ok_Replica_entry_at {P : Program} {w : World} {K : PySem.W.Frag} {mg : Str → Option Value} {base : Heap}
    {C_Replica : Addr} (T_Replica : Tx_Replica K mg C_Replica)
    {C_Counter : Addr} (T_Counter : Tx_Counter K mg C_Counter)
    {f : Addr} {fd : FuncData} (D : Dm K C_Replica "entry_at" "Replica.entry_at" s_Replica_entry_at ["self", "index"] f fd) : CalM P w K mg base CX0 1 C_Replica "entry_at" (sp_Replica_entry_at K C_Replica C_Counter) := by
  refine D.ok sc_Replica_entry_at (fun vs H Q E h => ?_) fun cdv A outer s H vs Q E hr h => ?_
  · obtain ⟨x, M, G, j, ⟨rfl, _⟩, _⟩ := h; rfl
  obtain ⟨⟨a, r, i, b, n, e⟩, M, G, j, ⟨rfl, hR, hb, hi, he⟩, k⟩ := h
  dsimp only at hR hb hi he k
  refine ⟨_, (pss_one (ps_ret (pe_ix (ix_uK (K := K) rfl) (pe_fld (pv 0) rfl) (pe_op op_sub (pe_op op_sub (pv 1) (pe_ix (ix_uK (K := K) rfl) (pe_fld (pv 0) rfl) pe_int (fun _ _ => rfl))) pe_int) (fun _ _ => rfl)))), ?_⟩
  walk_at "start"
  (have hop := RepAt.op hR; refine w_fldM j hop T_Replica.cl T_Replica.n_entries fl_Replica_entries ?_; clear hop; walk_at "go")
  (have hop := RepAt.op hR; refine w_fldM j hop T_Replica.cl T_Replica.n_base fl_Replica_base ?_; clear hop; walk_at "go")
  rcases hR.bs with ⟨hb', hv⟩ | ⟨b', q, m, x, hb', hv, hq, hm, hx⟩
  · rw [hb] at hb'; cases hb'
  rw [hb] at hb'
  obtain rfl := Option.some.inj hb'
  rw [hv]
  refine w_ixT j hq atI_0 ?_
  walk_at "go"
  obtain ⟨v, hv2, hd⟩ := dpAll_at hR.d.en (i := n) (d := rnD e) (by rw [List.getElem?_map, he]; rfl)
  refine w_ixM j hR.en (v := v) (by rw [show i - b.i - 1 = (n : Int) by omega]; exact atI_nat hv2) ?_
  exact k _ _ _ _ j (Same.refl G) ⟨rfl, hd⟩
/-! ### Replica.term_at -/
abbrev s_Replica_term_at : Stmt := inClass (top 22) 6
abbrev n_Replica_term_at : List Str := ["self", "index"]
theorem sc_Replica_term_at : FnScope n_Replica_term_at ["self", "index"] (defScope s_Replica_term_at) := ⟨rfl, rfl, rfl, by decide +kernel, rfl, by decide +kernel, by decide +kernel⟩
structure TaP where
  a : RepA
  r : Rpl
  i : Int
  b : RB
def sp_Replica_term_at (K : PySem.W.Frag) (C CC : Addr) : Sp := Sg (α := TaP) (fun x vs M G => vs = [.ref x.a.p, .int x.i] ∧ RepAt K C CC M G x.a x.r ∧ x.r.base = some x.b ∧ x.b.i ≤ x.i ∧ x.i ≤ x.b.i + x.r.ents.length) (fun x M _ v M' _ => M' = M ∧ v = .int (termAt x.r x.i))
theorem ok_Replica_term_at {P : Program} {w : World} {K : PySem.W.Frag} {mg : Str → Option Value} {base : Heap}
    {C_Replica : Addr} (T_Replica : Tx_Replica K mg C_Replica)
    {C_Counter : Addr} (T_Counter : Tx_Counter K mg C_Counter)
    {f : Addr} {fd : FuncData} (D : Dm K C_Replica "term_at" "Replica.term_at" s_Replica_term_at ["self", "index"] f fd)
    (c_Replica_entry_at : CalM P w K mg base CX0 1 C_Replica "entry_at" (sp_Replica_entry_at K C_Replica C_Counter)) : CalM P w K mg base CX0 2 C_Replica "term_at" (sp_Replica_term_at K C_Replica C_Counter) := by
  refine D.ok sc_Replica_term_at (fun vs H Q E h => ?_) fun cdv A outer s H vs Q E hr h => ?_
  · obtain ⟨x, M, G, j, ⟨rfl, _⟩, _⟩ := h; rfl
  obtain ⟨⟨a, r, i, b⟩, M, G, j, ⟨rfl, hR, hb, i1, i2⟩, k⟩ := h
  dsimp only at hR hb i1 i2 k
  refine ⟨_, (pss_cons (ps_if (pt_cmpR (op_uEqK (K := K) rfl hr) (pv 1) (pe_ix (ix_uK (K := K) rfl) (pe_fld (pv 0) rfl) pe_int (fun _ _ => rfl)) (nomark _))
(pss_one (ps_ret (pe_ix (ix_uK (K := K) rfl) (pe_fld (pv 0) rfl) pe_int (fun _ _ => rfl))))
pss_nil)
(pss_one (ps_ret (pe_ix (ix_uK (K := K) rfl) (pe_calM c_Replica_entry_at T_Replica.cl hr (by first | decide | omega) (pv 0) (pa_cons (pv 1) pa_nil)) pe_int (fun _ _ => rfl))))), ?_⟩
  walk_at "start"
  (have hop := RepAt.op hR; refine w_fldM j hop T_Replica.cl T_Replica.n_base fl_Replica_base ?_; clear hop; walk_at "go")
  rcases hR.bs with ⟨hb', hv⟩ | ⟨b', q, m, x, hb', hv, hq, hm, hx⟩
  · rw [hb] at hb'; cases hb'
  rw [hb] at hb'
  obtain rfl := Option.some.inj hb'
  rw [hv]
  refine w_ixT j hq atI_0 ?_
  walk_at "go"
  have et : termAt r i = if i = b.i then b.t else ((r.ents[(i - b.i - 1).toNat]?).map (·.t)).getD 0 := by unfold termAt; rw [hb]
  refine w_dec (fun c => ?_) (fun c => ?_)
  · walk_at "go"
    (have hop := RepAt.op hR; refine w_fldM j hop T_Replica.cl T_Replica.n_base fl_Replica_base ?_; clear hop; walk_at "go")
    rw [hv]
    refine w_ixT j hq (atI_nat (j := 1) rfl) ?_
    refine k _ _ _ _ j (Same.refl G) ⟨rfl, ?_⟩
    rw [et, if_pos c]
  · walk_at "go"
    obtain ⟨n, hn⟩ := Int.eq_ofNat_of_zero_le (show 0 ≤ i - b.i - 1 by omega)
    have hnl : n < r.ents.length := by omega
    (have hop := RepAt.op hR; refine w_methM j hop (no_Replica (by decide +kernel) (by decide +kernel) (by decide +kernel) (by decide +kernel) (by decide +kernel) (by decide +kernel) (by decide +kernel) (by decide +kernel) (by decide +kernel) (by decide +kernel) (by decide +kernel) (by decide +kernel) (by decide +kernel) (by decide +kernel) (by decide +kernel) (by decide +kernel) (by decide +kernel) (by decide +kernel) (by decide +kernel) (by decide +kernel) (by decide +kernel)) ?_; clear hop; walk_at "go")
    refine w_sg (α := EaP) ⟨a, r, i, b, n, r.ents[n]⟩ j ⟨rfl, hR, hb, by dsimp only; omega, List.getElem?_eq_getElem hnl⟩ fun v M1 G1 H1 j1 e1 ⟨em, hd⟩ => ?_
    obtain ⟨ea, ex, rfl, hea, _⟩ := dp_rn hd
    refine w_ixT j1 hea atI_0 ?_
    refine k _ _ _ _ j1 e1 ⟨em, ?_⟩
    rw [et, if_neg c, hn, Int.toNat_natCast, List.getElem?_eq_getElem hnl]; rfl
/-! ### Replica.last_term -/
abbrev s_Replica_last_term : Stmt := inClass (top 22) 7
abbrev n_Replica_last_term : List Str := ["self"]
theorem sc_Replica_last_term : FnScope n_Replica_last_term ["self"] (defScope s_Replica_last_term) := ⟨rfl, rfl, rfl, by decide +kernel, rfl, by decide +kernel, by decide +kernel⟩
def sp_Replica_last_term (K : PySem.W.Frag) (C CC : Addr) : Sp := Sg (α := RepA × Rpl) (fun x vs M G => vs = [.ref x.1.p] ∧ RepAt K C CC M G x.1 x.2) (fun x M _ v M' _ => M' = M ∧ v = .int (lastT x.2))
theorem ok_Replica_last_term {P : Program} {w : World} {K : PySem.W.Frag} {mg : Str → Option Value} {base : Heap}
    {C_Replica : Addr} (T_Replica : Tx_Replica K mg C_Replica)
    {C_Counter : Addr} (T_Counter : Tx_Counter K mg C_Counter)
    {f : Addr} {fd : FuncData} (D : Dm K C_Replica "last_term" "Replica.last_term" s_Replica_last_term ["self"] f fd)
    (c_Replica_term_at : CalM P w K mg base CX0 2 C_Replica "term_at" (sp_Replica_term_at K C_Replica C_Counter))
    (c_Replica_last_index : CalP P w K mg base CX0 1 C_Replica "last_index" (sp_Replica_last_index K C_Replica C_Counter)) : CalM P w K mg base CX0 3 C_Replica "last_term" (sp_Replica_last_term K C_Replica C_Counter) := by
  refine D.ok sc_Replica_last_term (fun vs H Q E h => ?_) fun cdv A outer s H vs Q E hr h => ?_
  · obtain ⟨x, M, G, j, ⟨rfl, _⟩, _⟩ := h; rfl
  obtain ⟨⟨a, r⟩, M, G, j, ⟨rfl, hR⟩, k⟩ := h
  dsimp only at hR k
  refine ⟨_, (pss_cons (ps_if (pt_cmp (pc_isN (pe_fld (pv 0) rfl)))
(pss_one (ps_ret pe_int))
pss_nil)
(pss_one (ps_ret (pe_calM c_Replica_term_at T_Replica.cl hr (by first | decide | omega) (pv 0) (pa_cons (pe_calP c_Replica_last_index T_Replica.cl hr (by first | decide | omega) (pv 0) (by rfl)) pa_nil))))), ?_⟩
  walk_at "start"
  (have hop := RepAt.op hR; refine w_fldM j hop T_Replica.cl T_Replica.n_base fl_Replica_base ?_; clear hop; walk_at "go")
  rcases hR.bs with ⟨hb, hv⟩ | ⟨b, q, m, x, hb, hv, hq, hm, hx⟩
  · rw [hv]
    rw [show decide (V.non = V.non) = true from decide_eq_true rfl]
    refine w_T ?_
    walk_at "go"
    refine k _ _ _ _ j (Same.refl G) ⟨rfl, ?_⟩
    unfold lastT
    rw [hb]
  · rw [hv]
    rw [show decide (V.ref q = V.non) = false from decide_eq_false fun z => nomatch z]
    refine w_F ?_
    walk_at "go"
    (have hop := RepAt.op hR; refine w_methM j hop (no_Replica (by decide +kernel) (by decide +kernel) (by decide +kernel) (by decide +kernel) (by decide +kernel) (by decide +kernel) (by decide +kernel) (by decide +kernel) (by decide +kernel) (by decide +kernel) (by decide +kernel) (by decide +kernel) (by decide +kernel) (by decide +kernel) (by decide +kernel) (by decide +kernel) (by decide +kernel) (by decide +kernel) (by decide +kernel) (by decide +kernel) (by decide +kernel)) ?_; clear hop; walk_at "go")
    (have hop := RepAt.op hR; refine w_propM j hop ?_; clear hop)
    refine w_sg (a, r) j ⟨rfl, hR⟩ fun v M1 G1 H1 j1 e1 ⟨ev, em⟩ => ?_
    subst ev em
    walk_at "go"
    have el : lastI r = b.i + r.ents.length := by unfold lastI; rw [hb]
    refine w_sg (α := TaP) ⟨a, r, lastI r, b⟩ j1 ⟨rfl, hR.ex e1, hb, by dsimp only; omega, by dsimp only; omega⟩ fun v M2 G2 H2 j2 e2 ⟨em, ev⟩ => ?_
    refine k _ _ _ _ j2 (e1.trans e2) ⟨em, ?_⟩
    rw [ev]
    unfold lastT
    rw [hb]
/-! ### replicas: followers -/
def hasE (r : Rpl) (i t : Int) : Bool := match r.base with
  | none => false
  | some b => decide (b.i < i) && (decide (i ≤ lastI r) && decide (termAt r i = t))
def gotTo (r : Rpl) (g : Bool) (i : Int) : Rpl := addLetter r (.tuple [oID r.leader, .tuple [.str "got", .int r.group, .int r.term, .bool g, .int i]])
def cutR (r : Rpl) (n : Nat) : Rpl := { r with ents := r.ents.take n, du := minI r.du (lastI { r with ents := r.ents.take n }) }
def takeEntry (r : Rpl) (i : Int) (e : RN) : Rpl := match r.base with
  | none => r
  | some b => if i ≤ b.i ∨ hasE r i e.t = true then r else attachR (cutR r (i - b.i - 1).toNat) e
def takeEnts (r : Rpl) (i : Int) : List RN → Rpl
  | [] => r
  | e :: es => takeEnts (takeEntry r i e) (i + 1) es
def copyR (r : Rpl) (i t : Int) (es : List RN) (c : Int) : Rpl := match r.base with
  | none => gotTo r false (lastI r)
  | some b => if i > lastI r then gotTo r false (lastI r) else if b.i ≤ i ∧ termAt r i ≠ t then gotTo r false (i - 1) else gotTo (commitR (takeEnts r (i + 1) es) (minI c (i + es.length))) true (i + es.length)
def followR (r : Rpl) (s : Int) : Rpl := { r with role := "follower", leader := some s }
section
variable {K : PySem.W.Frag} {C CC : Addr} {M0 M G H : Hp} {a0 a : RepA} {r : Rpl}
theorem RepS.k_en (h : RepS K C CC M0 a0 M G a r) (n : Nat) : RepS K C CC M0 a0 (upd M a.en (.lst (a.ev.take n))) G { a with ev := a.ev.take n } { r with ents := r.ents.take n } :=
  h.put 1 { a with ev := a.ev.take n } _ rfl (fun _ z => nomatch z) rfl rfl rfl ⟨h.t.d.b, h.t.d.s, by
    show DpAll K G (a.ev.take n) ((r.ents.take n).map rnD)
    rw [List.map_take]
    exact dpAll_take n h.t.d.en, h.t.d.le, h.t.d.rc, h.t.d.lt, h.t.d.an, h.t.d.bi, h.t.d.tq⟩
end
theorem takeEnts_snoc : ∀ (es : List RN) (r : Rpl) (i : Int) (e : RN), takeEnts r i (es ++ [e]) = takeEntry (takeEnts r i es) (i + es.length) e
  | [], r, i, e => by
    show takeEntry r i e = takeEntry r (i + ((0 : Nat) : Int)) e
    rw [show i + ((0 : Nat) : Int) = i by omega]
  | x :: es, r, i, e => by
    show takeEnts (takeEntry r i x) (i + 1) (es ++ [e]) = takeEntry (takeEnts (takeEntry r i x) (i + 1) es) (i + ((es.length + 1 : Nat) : Int)) e
    rw [takeEnts_snoc es, show i + 1 + (es.length : Int) = i + ((es.length + 1 : Nat) : Int) by omega]
theorem termAt_last {r : Rpl} {b : RB} (hb : r.base = some b) {i : Int} (h1 : b.i < i) (h2 : i ≤ lastI r) : ∃ (k : Nat) (e : RN), i = b.i + 1 + k ∧ r.ents[k]? = some e ∧ termAt r i = e.t := by
  have el : lastI r = b.i + r.ents.length := by unfold lastI; rw [hb]
  obtain ⟨k, hk⟩ := Int.eq_ofNat_of_zero_le (show 0 ≤ i - b.i - 1 by omega)
  have hl : k < r.ents.length := by omega
  refine ⟨k, r.ents[k], by omega, List.getElem?_eq_getElem hl, ?_⟩
  unfold termAt
  rw [hb]
  dsimp only
  rw [if_neg (by omega), hk, Int.toNat_natCast, List.getElem?_eq_getElem hl]; rfl
/-- a replica but for what copying changes; what is committed stays -/
structure TkO (b : RB) (r r' : Rpl) : Prop where
  eq : r' = { r with ents := r'.ents, du := r'.du, records := r'.records }
  pre : r'.ents.take (r.cm - b.i).toNat = r.ents.take (r.cm - b.i).toNat
  cm : r.cm ≤ b.i + r'.ents.length
theorem TkO.rfl' {b : RB} {r : Rpl} (h : r.cm ≤ b.i + r.ents.length) : TkO b r r := ⟨rfl, rfl, h⟩
theorem TkO.trans {b : RB} {r r1 r2 : Rpl} (h : TkO b r r1) (g : TkO b r1 r2) : TkO b r r2 := by
  have ec : r1.cm = r.cm := by rw [h.eq]
  refine ⟨by rw [g.eq, h.eq], ?_, by rw [← ec]; exact g.cm⟩
  rw [← h.pre, ← ec]
  exact g.pre
theorem TkO.base {b : RB} {r r' : Rpl} (h : TkO b r r') : r'.base = r.base := by rw [h.eq]
theorem TkO.has {b : RB} {r r' : Rpl} (h : TkO b r r') (hb : r.base = some b) (hc : b.i ≤ r.cm) (hl : r.cm ≤ b.i + r.ents.length) {i t : Int} (hi : i ≤ r.cm) : hasE r' i t = hasE r i t := by
  have hb' : r'.base = some b := by rw [h.base]; exact hb
  have l1 : lastI r = b.i + r.ents.length := by unfold lastI; rw [hb]
  have l2 : lastI r' = b.i + r'.ents.length := by unfold lastI; rw [hb']
  have hcm := h.cm
  unfold hasE
  rw [hb, hb']
  dsimp only
  by_cases q : b.i < i
  · rw [decide_eq_true (show i ≤ lastI r' by omega), decide_eq_true (show i ≤ lastI r by omega)]
    have : termAt r' i = termAt r i := by
      unfold termAt
      rw [hb, hb']
      dsimp only
      rw [if_neg (by omega), if_neg (by omega)]
      have e1 : ∀ xs : List RN, (xs.take (r.cm - b.i).toNat)[(i - b.i - 1).toNat]? = xs[(i - b.i - 1).toNat]? := fun xs => List.getElem?_take_of_lt (by omega)
      rw [← e1 r'.ents, h.pre, e1]
    rw [this]
  · rw [decide_eq_false q, Bool.false_and, Bool.false_and]
theorem takeEntry_o {r : Rpl} {b : RB} {i : Int} {e : RN} (hb : r.base = some b) (hc : b.i ≤ r.cm) (hl : r.cm ≤ b.i + r.ents.length) (hi : i ≤ lastI r + 1) (ag : i ≤ r.cm → i ≤ b.i ∨ hasE r i e.t = true) :
    TkO b r (takeEntry r i e) ∧ i ≤ b.i + (takeEntry r i e).ents.length ∧ (takeEntry r i e).sz ≤ r.sz + 2 := by
  have el : lastI r = b.i + r.ents.length := by unfold lastI; rw [hb]
  have et : takeEntry r i e = if i ≤ b.i ∨ hasE r i e.t = true then r else attachR (cutR r (i - b.i - 1).toNat) e := by unfold takeEntry; rw [hb]
  rw [et]
  split
  · rename_i h
    refine ⟨TkO.rfl' hl, ?_, Nat.le_add_right _ _⟩
    rcases h with h | h
    · omega
    · unfold hasE at h
      rw [hb] at h
      dsimp only at h
      simp only [Bool.and_eq_true, decide_eq_true_eq] at h
      omega
  · rename_i h
    have h1 : r.cm < i := by
      rcases Int.lt_or_le r.cm i with z | z
      · exact z
      · exact absurd (ag z) h
    obtain ⟨n, hn⟩ := Int.eq_ofNat_of_zero_le (show 0 ≤ i - b.i - 1 by omega)
    rw [hn, Int.toNat_natCast]
    have hnl : n ≤ r.ents.length := by omega
    have ln : (attachR (cutR r n) e).ents.length = n + 1 := by
      show (r.ents.take n ++ [e]).length = _
      rw [List.length_append, List.length_take, Nat.min_eq_left hnl]; rfl
    refine ⟨⟨rfl, ?_, by omega⟩, by omega, ?_⟩
    · show (r.ents.take n ++ [e]).take _ = _
      rw [List.take_append_of_le_length (by rw [List.length_take]; omega), List.take_take, Nat.min_eq_left (by omega)]
    · show (r.ents.take n ++ [e]).length + r.ledger.length + (r.records ++ [_]).length + _ + _ + _ + _ + _ + _ ≤ _
      have l1 : (r.ents.take n ++ [e]).length = n + 1 := ln
      have l2 : ∀ d : PyData, (r.records ++ [d]).length = r.records.length + 1 := fun d => by rw [List.length_append]; rfl
      rw [l1, l2]
      unfold Rpl.sz
      dsimp only [attachR, cutR]
      omega
/-- the leader's entries agree with what is committed -/
def CmAg (b : RB) (r : Rpl) (i : Int) (es : List RN) : Prop := ∀ (k : Nat) (e : RN), es[k]? = some e → i + k ≤ r.cm → i + k ≤ b.i ∨ hasE r (i + k) e.t = true
theorem takeEnts_o {b : RB} : ∀ {es : List RN} {r : Rpl} {i : Int}, r.base = some b → b.i ≤ r.cm → r.cm ≤ b.i + r.ents.length → i ≤ lastI r + 1 → CmAg b r i es →
    TkO b r (takeEnts r i es) ∧ i + es.length ≤ b.i + (takeEnts r i es).ents.length + 1 ∧ (takeEnts r i es).sz ≤ r.sz + 2 * es.length
  | [], r, i, hb, hc, hl, hi, _ => by
    have el : lastI r = b.i + r.ents.length := by unfold lastI; rw [hb]
    exact ⟨TkO.rfl' hl, by show i + ((0 : Nat) : Int) ≤ b.i + (r.ents.length : Int) + 1; omega, Nat.le_refl _⟩
  | e :: es, r, i, hb, hc, hl, hi, ag => by
    obtain ⟨o1, o2, o3⟩ := takeEntry_o (e := e) hb hc hl hi fun z => by
      have := ag 0 e rfl (by omega)
      rw [show i + ((0 : Nat) : Int) = i by omega] at this
      exact this
    have ec : (takeEntry r i e).cm = r.cm := by rw [o1.eq]
    have hb1 : (takeEntry r i e).base = some b := by rw [o1.base]; exact hb
    have el1 : lastI (takeEntry r i e) = b.i + (takeEntry r i e).ents.length := by unfold lastI; rw [hb1]
    obtain ⟨q1, q2, q3⟩ := takeEnts_o (es := es) (r := takeEntry r i e) (i := i + 1) hb1 (by omega) (by rw [ec]; exact o1.cm) (by omega) fun k e' he hk => by
      have := ag (k + 1) e' (by rw [List.getElem?_cons_succ]; exact he) (by omega)
      rw [o1.has hb hc hl (by omega)]
      rw [show i + ((k + 1 : Nat) : Int) = i + 1 + (k : Int) by omega] at this
      exact this
    refine ⟨o1.trans q1, ?_, ?_⟩
    · show i + ((es.length + 1 : Nat) : Int) ≤ b.i + ((takeEnts (takeEntry r i e) (i + 1) es).ents.length : Int) + 1
      omega
    · show (takeEnts (takeEntry r i e) (i + 1) es).sz ≤ r.sz + 2 * (es.length + 1)
      omega
theorem CmAg.take {b : RB} {r : Rpl} {i : Int} {es : List RN} (h : CmAg b r i es) (n : Nat) : CmAg b r i (es.take n) := fun k e he hk => h k e (by
  by_cases q : k < n
  · rw [List.getElem?_take_of_lt q] at he; exact he
  · rw [List.getElem?_take_eq_none (by omega)] at he; cases he) hk
/-! ### (p, q) >= (p', q'), whole numbers -/
def geP (p q p' q' : Int) : Bool := if p = p' then decide (q' ≤ q) else decide (p' ≤ p)
def rGeP (K : PySem.W.Frag) : R2 := fun x y H Q => ∃ (a b : Addr) (p q p' q' : Int), x = .ref a ∧ y = .ref b ∧ SqT K H a [.int p, .int q] ∧ SqT K H b [.int p', .int q'] ∧ Q (.bl (geP p q p' q')) H
theorem op_geP {X : Cx} (hu : X.A.units < cLine) : OpR X (compareOp .GtE) (rGeP X.K) := by
  intro pins s σ H x y v u Q I rx ry h
  obtain ⟨a, b, p, q, p', q', rfl, rfl, ha, hb, hq⟩ := h
  cases rx
  cases ry
  obtain ⟨its, v1, t1, _⟩ := I.tuple ha
  obtain ⟨its2, v2, t2, _⟩ := I.tuple hb
  cases v1 with
  | cons r1 w1 =>
    cases w1 with
    | cons r2 w1 =>
      cases w1
      cases v2 with
      | cons r3 w2 =>
        cases w2 with
        | cons r4 w2 =>
          cases w2
          obtain ⟨k1, rfl⟩ := r1
          obtain ⟨k2, rfl⟩ := r2
          obtain ⟨k3, rfl⟩ := r3
          obtain ⟨k4, rfl⟩ := r4
          have R := Ob.RcOp.tuples_ge (A := X.A) (s := s) (e := fun j => if j = 0 then (p == p') else (q == q')) (r := fun j => if j = 0 then decide (p' ≤ p) else decide (q' ≤ q)) t1 t2 hu (fun j h1 h2 => by
            match j, h1, h2 with
            | 0, _, _ => exact SeqAt.EqAt.int_int p k1 p' k3
            | 1, _, _ => exact SeqAt.EqAt.int_int q k2 q' k4
            | j + 2, h1, _ => exact absurd h1 (by simp)) (fun j h1 h2 _ => by
            match j, h1, h2 with
            | 0, _, _ => exact Ob.RcOp.ge_int p p' k1 k3
            | 1, _, _ => exact Ob.RcOp.ge_int q q' k2 k4
            | j + 2, h1, _ => exact absurd h1 (by simp))
          have e : Ob.lexAt (fun j => if j = 0 then (p == p') else (q == q')) (fun j => if j = 0 then decide (p' ≤ p) else decide (q' ≤ q)) (decide (#[Value.int p k1, Value.int q k2].size ≥ #[Value.int p' k3, Value.int q' k4].size)) 0 2 = geP p q p' q' := by
            rw [Ob.lexAt_succ, Ob.lexAt_succ, Ob.lexAt_zero]
            unfold geP
            by_cases z1 : p = p'
            · rw [if_pos (show (if (0 : Nat) = 0 then (p == p') else (q == q')) = true by rw [if_pos rfl]; exact beq_iff_eq.mpr z1), if_pos z1]
              by_cases z2 : q = q'
              · rw [if_pos (show (if (0 + 1 : Nat) = 0 then (p == p') else (q == q')) = true by rw [if_neg (by decide)]; exact beq_iff_eq.mpr z2), decide_eq_true (show q' ≤ q by omega)]; rfl
              · rw [if_neg (show ¬ (if (0 + 1 : Nat) = 0 then (p == p') else (q == q')) = true by rw [if_neg (by decide)]; exact fun z => z2 (beq_iff_eq.mp z))]
                rfl
            · rw [if_neg (show ¬ (if (0 : Nat) = 0 then (p == p') else (q == q')) = true by rw [if_pos rfl]; exact fun z => z1 (beq_iff_eq.mp z)), if_neg z1]
              rfl
          have z : wpAny (model X.prog X.w) X.A (compareOp .GtE (.ref a) (.ref b)) (EP X pins σ Q) X.xe s := R X.prog X.w X.xe (EP X pins σ Q) (by
            show EP X pins σ Q (.bool (Ob.lexAt _ _ _ 0 2)) s
            rw [e]
            exact ⟨.bl _, H, I, rfl, hq⟩)
          exact z
theorem op_gePK {X : Cx} {K : PySem.W.Frag} {j : Nat} (h : X.K = K) (hr : Room j X.A) : OpR X (compareOp .GtE) (rGeP K) := h ▸ op_geP (by have := hr.units; omega)
theorem w_geP {K : PySem.W.Frag} {M G H : Hp} {a b : Addr} {p q p' q' : Int} {Q : VK} (j : J M G H) (h1 : SqT K G a [.int p, .int q]) (h2 : SqT K G b [.int p', .int q']) (k : Q (.bl (geP p q p' q')) H) : rGeP K (.ref a) (.ref b) H Q := ⟨a, b, p, q, p', q', rfl, rfl, st_mono j.g h1, st_mono j.g h2, k⟩
/-! ### Replica.vote -/
abbrev s_Replica_vote : Stmt := inClass (top 22) 32
abbrev n_Replica_vote : List Str := ["self", "sender", "last_index", "last_term", "granted"]
theorem sc_Replica_vote : FnScope n_Replica_vote ["self", "sender", "last_index", "last_term"] (defScope s_Replica_vote) := ⟨rfl, rfl, rfl, by decide +kernel, rfl, by decide +kernel, by decide +kernel⟩
structure VtP where
  a : RepA
  r : Rpl
  s : Int
  i : Int
  t : Int
def grantB (r : Rpl) (s i t : Int) : Bool := (decide (r.voted = none) || decide (r.voted = some s)) && geP t i (lastT r) (lastI r)
def voteR (r : Rpl) (s i t : Int) : Rpl := addLetter (if grantB r s i t = true ∧ r.voted = none then setTerm r r.term (some s) else r) (.tuple [.int s, .tuple [.str "vote", .int r.group, .int r.term, .bool (grantB r s i t)]])
def sp_Replica_vote (K : PySem.W.Frag) (C CC : Addr) : Sp := Sg (α := VtP) (fun x vs M G => vs = [.ref x.a.p, .int x.s, .int x.i, .int x.t] ∧ RepAt K C CC M G x.a x.r ∧ x.r.sz ≤ 900000) (fun x M _ v M' G' => v = .non ∧ RE K C CC M x.a M' G' (voteR x.r x.s x.i x.t))
theorem ok_Replica_vote {P : Program} {w : World} {K : PySem.W.Frag} {mg : Str → Option Value} {base : Heap}
    {C_Replica : Addr} (T_Replica : Tx_Replica K mg C_Replica)
    {C_Counter : Addr} (T_Counter : Tx_Counter K mg C_Counter)
    {f : Addr} {fd : FuncData} (D : Dm K C_Replica "vote" "Replica.vote" s_Replica_vote ["self", "sender", "last_index", "last_term"] f fd)
    (c_Replica_set_term : CalM P w K mg base CX0 1 C_Replica "set_term" (sp_Replica_set_term K C_Replica C_Counter))
    (c_Replica_last_index : CalP P w K mg base CX0 1 C_Replica "last_index" (sp_Replica_last_index K C_Replica C_Counter))
    (c_Replica_last_term : CalM P w K mg base CX0 3 C_Replica "last_term" (sp_Replica_last_term K C_Replica C_Counter)) : CalM P w K mg base CX0 4 C_Replica "vote" (sp_Replica_vote K C_Replica C_Counter) := by
  refine D.ok sc_Replica_vote (fun vs H Q E h => ?_) fun cdv A outer s H vs Q E hr h => ?_
  · obtain ⟨x, M, G, j, ⟨rfl, _⟩, _⟩ := h; rfl
  obtain ⟨⟨a, r, s, i, t⟩, M, G, j, ⟨rfl, hR, hz⟩, k⟩ := h
  dsimp only at hR hz k
  refine ⟨_, (pss_cons (ps_set (i := 4) sc_Replica_vote.nd rfl (Or.inl rfl) (pe_and (pe_cmpR (op_inK (K := K) rfl) (pe_fld (pv 0) rfl) (pe_tup (pa_cons pe_non (pa_cons (pv 1) pa_nil))) (by with_unfolding_all rfl)) (pe_one (pe_cmpR (op_gePK (K := K) rfl hr) (pe_tup (pa_cons (pv 3) (pa_cons (pv 2) pa_nil))) (pe_tup (pa_cons (pe_calM0 c_Replica_last_term T_Replica.cl hr (by first | decide | omega) (pv 0)) (pa_cons (pe_calP c_Replica_last_index T_Replica.cl hr (by first | decide | omega) (pv 0) (by rfl)) pa_nil))) (nomark _)))))
(pss_cons (ps_if (PW.pt (pw_and (pt_val (pv 4)) (pw_and1 (pt_cmp (pc_isN (pe_fld (pv 0) rfl))))))
(pss_one (ps_expr (pe_calM c_Replica_set_term T_Replica.cl hr (by first | decide | omega) (pv 0) (pa_cons (pe_fld (pv 0) rfl) (pa_cons (pv 1) pa_nil)))))
pss_nil)
(pss_one (ps_expr (pe_bm PySem.F.plainAttrs_list PySem.F.slot_list_append PySem.F.type_list_append mt_append (pe_fld (pv 0) rfl) (pa_cons (pe_tup (pa_cons (pv 1) (pa_cons (pe_tup (pa_cons pe_str (pa_cons (pe_fld (pv 0) rfl) (pa_cons (pe_fld (pv 0) rfl) (pa_cons (pv 4) pa_nil))))) pa_nil))) pa_nil)))))), ?_⟩
  try dsimp only [cxOf]
  refine w_seqO (fun σ H => ∃ G1, J M G1 H ∧ Ex G G1 ∧ σ = [some (.ref a.p), some (.int s), some (.int i), some (.int t), some (.bl (grantB r s i t))]) ?_ fun N hN => ?_
  rotate_left
  · walk_at "go"
    (have hop := RepAt.op hR; refine w_fldM j hop T_Replica.cl T_Replica.n_voted fl_Replica_voted ?_; clear hop; walk_at "go")
    refine w_new j (by show 2 ≤ sizeLine; decide) fun q1 G1 H1 j1 e1 hq1 _ => ?_
    have hin : inV (oI r.voted) [V.non, V.int s] = (decide (r.voted = none) || decide (r.voted = some s)) := by
      cases r.voted with
      | none => rfl
      | some n =>
        show (false || ((s == n) || false)) = (decide (some n = none) || decide (some n = some s))
        rw [Bool.or_false, Bool.false_or, Bool.beq_eq_decide_eq, decide_eq_false (show ¬ some n = none from fun z => nomatch z), Bool.false_or]
        exact decide_eq_decide.mpr ⟨fun z => by rw [z], fun z => (Option.some.inj z).symm⟩
    refine w_inT j1 (st_of hq1) (by cases r.voted <;> rfl) rfl ?_
    rw [if_neg Bool.false_ne_true, hin]
    refine ⟨_, rfl, ?_⟩
    obtain ⟨b1, hb1⟩ : ∃ b1, b1 = (decide (r.voted = none) || decide (r.voted = some s)) := ⟨_, rfl⟩
    rw [← hb1]
    have hR1 := hR.ex e1
    cases b1 with
    | false =>
      walk_at "go"
      exact hN _ _ ⟨G1, j1, e1, by unfold grantB; rw [← hb1]; rfl⟩
    | true =>
      walk_at "go"
      refine w_new j1 (by show 2 ≤ sizeLine; decide) fun q2 G2 H2 j2 e2 hq2 _ => ?_
      have hR2 := hR1.ex e2
      walk_at "go"
      (have hop := RepAt.op hR2; refine w_methM j2 hop (no_Replica (by decide +kernel) (by decide +kernel) (by decide +kernel) (by decide +kernel) (by decide +kernel) (by decide +kernel) (by decide +kernel) (by decide +kernel) (by decide +kernel) (by decide +kernel) (by decide +kernel) (by decide +kernel) (by decide +kernel) (by decide +kernel) (by decide +kernel) (by decide +kernel) (by decide +kernel) (by decide +kernel) (by decide +kernel) (by decide +kernel) (by decide +kernel)) ?_; clear hop; walk_at "go")
      refine w_sg (a, r) j2 ⟨rfl, hR2⟩ fun v M3 G3 H3 j3 e3 ⟨em, ev⟩ => ?_
      have ev : v = .int (lastT r) := ev
      subst ev em
      have hR3 := hR2.ex e3
      walk_at "go"
      (have hop := RepAt.op hR3; refine w_propM j3 hop ?_; clear hop)
      refine w_sg (a, r) j3 ⟨rfl, hR3⟩ fun v M4 G4 H4 j4 e4 ⟨ev, em⟩ => ?_
      have ev : v = .int (lastI r) := ev
      subst ev em
      walk_at "go"
      refine w_new j4 (by show 2 ≤ sizeLine; decide) fun q3 G5 H5 j5 e5 hq3 _ => ?_
      refine w_geP j5 (st_of (((e3.trans e4).trans e5) _ _ hq2)) (st_of hq3) ?_
      walk_at "go"
      exact hN _ _ ⟨G5, j5, e1.trans (e2.trans (e3.trans (e4.trans e5))), by unfold grantB; rw [← hb1]; rfl⟩
  rintro σ H ⟨G1, j1, e1, rfl⟩
  have hR1 := hR.ex e1
  obtain ⟨g, hg⟩ : ∃ g, g = grantB r s i t := ⟨_, rfl⟩
  rw [← hg]
  obtain ⟨r1, hr1⟩ : ∃ r1, r1 = if g = true ∧ r.voted = none then setTerm r r.term (some s) else r := ⟨_, rfl⟩
  have er : voteR r s i t = addLetter r1 (.tuple [.int s, .tuple [.str "vote", .int r.group, .int r.term, .bool g]]) := by unfold voteR; rw [← hg, ← hr1]
  refine w_seqO (fun σ H => ∃ M2 G2 a2, J M2 G2 H ∧ Ex G G2 ∧ RepS K C_Replica C_Counter M a M2 G2 a2 r1 ∧ σ = [some (.ref a2.p), some (.int s), some (.int i), some (.int t), some (.bl g)]) ?_ fun N hN => ?_
  rotate_left
  · have stay : ¬ (g = true ∧ r.voted = none) → ∃ M2 G2 a2, J M2 G2 H ∧ Ex G G2 ∧ RepS K C_Replica C_Counter M a M2 G2 a2 r1 ∧ [some (V.ref a.p), some (.int s), some (.int i), some (.int t), some (.bl g)] = [some (.ref a2.p), some (.int s), some (.int i), some (.int t), some (.bl g)] := fun z => ⟨M, G1, a, j1, e1, by rw [hr1, if_neg z]; exact hR1.s, rfl⟩
    cases g with
    | false =>
      walk_at "go"
      exact hN _ _ (stay fun z => nomatch z.1)
    | true =>
      walk_at "go"
      (have hop := RepAt.op hR1; refine w_fldM j1 hop T_Replica.cl T_Replica.n_voted fl_Replica_voted ?_; clear hop; walk_at "go")
      cases hv : r.voted with
      | some n =>
        rw [show decide (oI (some n) = V.non) = false from decide_eq_false fun z => nomatch z]
        walk_at "go"
        exact hN _ _ (stay fun z => by rw [hv] at z; cases z.2)
      | none =>
        rw [show decide (oI none = V.non) = true from decide_eq_true rfl]
        walk_at "go"
        (have hop := RepAt.op hR1; refine w_methM j1 hop (no_Replica (by decide +kernel) (by decide +kernel) (by decide +kernel) (by decide +kernel) (by decide +kernel) (by decide +kernel) (by decide +kernel) (by decide +kernel) (by decide +kernel) (by decide +kernel) (by decide +kernel) (by decide +kernel) (by decide +kernel) (by decide +kernel) (by decide +kernel) (by decide +kernel) (by decide +kernel) (by decide +kernel) (by decide +kernel) (by decide +kernel) (by decide +kernel)) ?_; clear hop; walk_at "go")
        (have hop := RepAt.op hR1; refine w_fldM j1 hop T_Replica.cl T_Replica.n_term fl_Replica_term ?_; clear hop; walk_at "go")
        refine w_sg (α := StP) ⟨a, r, r.term, some s⟩ j1 ⟨rfl, hR1, by dsimp only; omega⟩ fun v M2 G2 H2 j2 e2 ⟨ev, a2, hS2⟩ => ?_
        have p2 := hS2.f.pe
        walk_at "go"
        exact hN _ _ ⟨M2, G2, a2, j2, e1.trans e2, by rw [hr1, if_pos ⟨rfl, hv⟩]; exact hS2, by rw [p2]⟩
  rintro σ H ⟨M2, G2, a2, j2, e2, hS2, rfl⟩
  have hg1 : r1.group = r.group ∧ r1.term = r.term := by rw [hr1]; split <;> exact ⟨rfl, rfl⟩
  have hl1 : r1.letters.length ≤ r.sz := by
    have : r1.letters = r.letters := by rw [hr1]; split <;> rfl
    rw [this]
    unfold Rpl.sz; omega
  have ll := dpAll_len hS2.t.d.lt
  rw [er] at k
  walk_at "go"
  (have hop := RepAt.op hS2.t; refine w_fldM j2 hop T_Replica.cl T_Replica.n_letters fl_Replica_letters ?_; clear hop; walk_at "go")
  refine ⟨ty_listM j2 hS2.t.o_lt, ?_⟩
  walk_at "go"
  (have hop := RepAt.op hS2.t; refine w_fldM j2 hop T_Replica.cl T_Replica.n_group fl_Replica_group ?_; clear hop; walk_at "go")
  (have hop := RepAt.op hS2.t; refine w_fldM j2 hop T_Replica.cl T_Replica.n_term fl_Replica_term ?_; clear hop; walk_at "go")
  rw [hg1.1, hg1.2]
  refine w_new j2 (by show 4 ≤ sizeLine; decide) fun t1 G3 H3 j3 e3 ht1 _ => ?_
  walk_at "go"
  refine w_new j3 (by show 2 ≤ sizeLine; decide) fun t2 G4 H4 j4 e4 ht2 _ => ?_
  have hS4 := (hS2.ex e3).ex e4
  walk_at "go"
  refine w_appendA j4 hS4.t.o_lt (by omega) fun H5 j5 => ?_
  exact k _ _ _ _ j5 (e2.trans (e3.trans e4)) ⟨rfl, _, hS4.a_lt (.tup (st_of ht2) (.cons (.int _) (.cons (.tup (st_of (e4 _ _ ht1)) (.cons (.str _) (.cons (.int _) (.cons (.int _) (.cons (.bl _) .nil))))) .nil)))⟩
/-! ### is_change -/
abbrev s_is_change : Stmt := top 14
abbrev n_is_change : List Str := ["command"]
theorem sc_is_change : FnScope n_is_change ["command"] (defScope s_is_change) := ⟨rfl, rfl, rfl, by decide +kernel, rfl, by decide +kernel, by decide +kernel⟩
def sp_is_change (K : PySem.W.Frag) : Sp := Sg (α := V × RC) (fun x vs M G => vs = [x.1] ∧ Dp K G x.1 (rcD x.2)) (fun x M _ v M' _ => v = .bl (isCh x.2) ∧ M' = M)
theorem ok_is_change {P : Program} {w : World} {K : PySem.W.Frag} {mg : Str → Option Value} {base : Heap}
    {f : Addr} {fd : FuncData} (D : Dn K mg "is_change" s_is_change ["command"] f fd)
    (b_len : mg "len" = none) : Cal P w K mg base CX0 1 "is_change" (sp_is_change K) := by
  refine D.ok sc_is_change (fun vs H Q E h => ?_) fun cdv A outer s H vs Q E hr h => ?_
  · obtain ⟨x, M, G, j, ⟨rfl, _⟩, _⟩ := h; rfl
  obtain ⟨⟨v, c⟩, M, G, j, ⟨rfl, hc⟩, k⟩ := h
  dsimp only at hc k
  refine ⟨_, (pss_one (ps_ret (pe_and (pe_cmpR (op_uEqK (K := K) rfl hr) (pe_ix (ix_uK (K := K) rfl) (pv 0) pe_int (fun _ _ => rfl)) pe_str (nomark _)) (pe_one (pe_cmpR (op_uEqK (K := K) rfl hr) (pe_callB (call_uLenK (K := K) rfl) (by rfl) b_len PySem.boot_len (pa_cons (pv 0) pa_nil)) pe_int (nomark _)))))), ?_⟩
  obtain ⟨a, xs, rfl, ha, hd⟩ := dp_rc hc
  have lx := dpAll_len hd
  walk_at "start"
  refine w_ixT j ha atI_0 ?_
  walk_at "go"
  refine w_eqS (k := decide (c.w = "members")) rfl ?_
  walk_at "go"
  refine w_dec (fun h1 => ?_) (fun h1 => ?_)
  · walk_at "go"
    refine w_lenT j ha ?_
    walk_at "go"
    refine k _ _ _ _ j (Same.refl G) ⟨?_, rfl⟩
    unfold isCh
    rw [decide_eq_true h1, Bool.true_and, ← lx]
    congr 1
    refine decide_eq_decide.mpr ?_
    rw [List.length_cons]
    omega
  · refine k _ _ _ _ j (Same.refl G) ⟨?_, rfl⟩
    unfold isCh
    rw [decide_eq_false h1]; rfl
/-! ### members_of -/
abbrev s_members_of : Stmt := top 15
abbrev n_members_of : List Str := ["base", "entries", "many", "at", "command"]
theorem sc_members_of : FnScope n_members_of ["base", "entries", "many"] (defScope s_members_of) := ⟨rfl, rfl, rfl, by decide +kernel, rfl, by decide +kernel, by decide +kernel⟩
structure MoP where
  bv : V
  b : RB
  e : Addr
  ev : List V
  es : List RN
  n : Nat
def sp_members_of (K : PySem.W.Frag) : Sp := Sg (α := MoP) (fun x vs M G => vs = [x.bv, .ref x.e, .int x.n] ∧ Dp K G x.bv (rbD x.b) ∧ M x.e = some (.lst x.ev) ∧ DpAll K G x.ev (x.es.map rnD) ∧ x.n ≤ x.es.length ∧ x.es.length ≤ 1000000 ∧ ∀ e ∈ x.es, OkC e.c)
  (fun x M _ v M' G' => M' = M ∧ Dp K G' v (intsD (membersOf x.b x.es x.n)))
theorem ok_members_of {P : Program} {w : World} {K : PySem.W.Frag} {mg : Str → Option Value} {base : Heap}
    {f : Addr} {fd : FuncData} (D : Dn K mg "members_of" s_members_of ["base", "entries", "many"] f fd)
    (b_range : mg "range" = none)
    (c_is_change : Cal P w K mg base CX0 1 "is_change" (sp_is_change K)) : Cal P w K mg base CX0 2 "members_of" (sp_members_of K) := by
  refine D.ok sc_members_of (fun vs H Q E h => ?_) fun cdv A outer s H vs Q E hr h => ?_
  · obtain ⟨x, M, G, j, ⟨rfl, _⟩, _⟩ := h; rfl
  obtain ⟨⟨bv, b, e, ev, es, n⟩, M, G, j, ⟨rfl, hb, he, hev, hn, hz, ho⟩, k⟩ := h
  dsimp only at hb he hev hn hz ho k
  refine ⟨_, (pss_cons (ps_for PassesOwn.never rfl (pi_range3 (by rfl) b_range (pa_cons (pe_op op_sub (pv 2) pe_int) (pa_cons (pe_un un_neg pe_int) (pa_cons (pe_un un_neg pe_int) pa_nil)))) (pg_name (i := 3) sc_members_of.nd rfl (Or.inl rfl))
(pss_cons (ps_set (i := 4) sc_members_of.nd rfl (Or.inl rfl) (pe_ix (ix_uK (K := K) rfl) (pe_ix (ix_uK (K := K) rfl) (pv 1) (pv 3) (fun _ _ => rfl)) pe_int (fun _ _ => rfl)))
(pss_one (ps_if (pt_val (pe_cal c_is_change hr (by first | decide | omega) (by rfl) (pa_cons (pv 4) pa_nil)))
(pss_one (ps_ret (pe_ix (ix_uK (K := K) rfl) (pv 4) pe_int (fun _ _ => rfl))))
pss_nil))))
(pss_one (ps_ret (pe_ix (ix_uK (K := K) rfl) (pv 0) pe_int (fun _ _ => rfl))))), ?_⟩
  obtain ⟨q, m, x, rfl, hq, hm, hx⟩ := dp_rb hb
  walk_at "start"
  refine w_rngD (fun i σ H => ∃ G1 x3 x4, J M G1 H ∧ Ex G G1 ∧ membersOf b es n = membersOf b es (n - i) ∧ σ = [some (.ref q), some (.ref e), some (.int n), x3, x4]) (by omega) (by omega) (by omega) (by omega) ⟨G, _, _, j, Same.refl G, rfl, rfl⟩ ?_ ?_
  · rintro i σ H hi ⟨G1, x3, x4, j1, e1, hi1, rfl⟩
    have hin : i < n := by omega
    obtain ⟨mm, hmm⟩ : ∃ mm, n - i = mm + 1 := ⟨n - i - 1, by omega⟩
    have hml : mm < es.length := by omega
    obtain ⟨v, hv, hvd⟩ := dpAll_at (dpAll_mono e1 hev) (i := mm) (d := rnD es[mm]) (by rw [List.getElem?_map, List.getElem?_eq_getElem hml]; rfl)
    obtain ⟨en, cx, rfl, hen, hcx⟩ := dp_rn hvd
    walk_at "go"
    refine w_ixM j1 he (v := .ref en) (by rw [show ((n : Int) - 1 - (i : Nat)) = (mm : Int) by omega]; exact atI_nat hv) ?_
    walk_at "go"
    refine w_ixT j1 hen (atI_nat (j := 1) rfl) ?_
    walk_at "go"
    refine w_sg (cx, es[mm].c) j1 ⟨rfl, hcx⟩ fun v2 M2 G2 H2 j2 e2 ⟨ev2, em2⟩ => ?_
    subst ev2 em2
    dsimp only
    walk_at "go"
    have hes : es[mm]? = some es[mm] := List.getElem?_eq_getElem hml
    cases hc : isCh es[mm].c with
    | true =>
      have ok := ho _ (List.getElem_mem hml) hc
      refine w_T ?_
      walk_at "go"
      obtain ⟨ca, xs, rfl, hca, hxs⟩ := dp_rc (dp_mono e2 hcx)
      rw [ok.1] at hxs
      obtain ⟨y, ys, rfl, hy, hys⟩ := dpAll_consE hxs
      refine w_ixT j2 hca (atI_nat (j := 1) rfl) ?_
      refine k _ _ _ _ j2 (e1.trans e2) ⟨rfl, ?_⟩
      rw [hi1, hmm]
      unfold membersOf
      rw [hes]
      dsimp only
      rw [if_pos hc]
      exact hy
    | false =>
      refine w_F ?_
      walk_at "go"
      refine ⟨G2, _, _, j2, e1.trans e2, ?_, rfl⟩
      rw [hi1, hmm, show n - (i + 1) = mm by omega]
      rw [membersOf, hes]
      dsimp only
      rw [if_neg (by rw [hc]; exact Bool.false_ne_true)]
  · rintro σ H ⟨G1, x3, x4, j1, e1, hi1, rfl⟩
    walk_at "go"
    refine w_ixT j1 (st_mono e1 hq) (atI_nat (j := 2) rfl) ?_
    refine k _ _ _ _ j1 e1 ⟨rfl, ?_⟩
    rw [hi1, show n - ((n : Int) - 1 - -1).toNat = 0 by omega]
    exact dp_intsT (st_mono e1 hm)
/-! ### Replica.members_at -/
abbrev s_Replica_members_at : Stmt := inClass (top 22) 3
abbrev n_Replica_members_at : List Str := ["self", "index"]
theorem sc_Replica_members_at : FnScope n_Replica_members_at ["self", "index"] (defScope s_Replica_members_at) := ⟨rfl, rfl, rfl, by decide +kernel, rfl, by decide +kernel, by decide +kernel⟩
structure MaP where
  a : RepA
  r : Rpl
  i : Int
def sp_Replica_members_at (K : PySem.W.Frag) (C CC : Addr) : Sp := Sg (α := MaP) (fun x vs M G => vs = [.ref x.a.p, .int x.i] ∧ RepAt K C CC M G x.a x.r ∧ OkR x.r ∧ x.r.ents.length ≤ 1000000 ∧ ∀ b, x.r.base = some b → b.i ≤ x.i ∧ x.i ≤ b.i + x.r.ents.length) (fun x M _ v M' G' => M' = M ∧ Dp K G' v (intsD (membersAt x.r x.i)))
theorem ok_Replica_members_at {P : Program} {w : World} {K : PySem.W.Frag} {mg : Str → Option Value} {base : Heap}
    {C_Replica : Addr} (T_Replica : Tx_Replica K mg C_Replica)
    {C_Counter : Addr} (T_Counter : Tx_Counter K mg C_Counter)
    {f : Addr} {fd : FuncData} (D : Dm K C_Replica "members_at" "Replica.members_at" s_Replica_members_at ["self", "index"] f fd)
    (c_members_of : Cal P w K mg base CX0 2 "members_of" (sp_members_of K)) : CalM P w K mg base CX0 3 C_Replica "members_at" (sp_Replica_members_at K C_Replica C_Counter) := by
  refine D.ok sc_Replica_members_at (fun vs H Q E h => ?_) fun cdv A outer s H vs Q E hr h => ?_
  · obtain ⟨x, M, G, j, ⟨rfl, _⟩, _⟩ := h; rfl
  obtain ⟨⟨a, r, i⟩, M, G, j, ⟨rfl, hR, hO, hz, hi⟩, k⟩ := h
  dsimp only at hR hO hz hi k
  refine ⟨_, (pss_cons (ps_if (pt_cmp (pc_isN (pe_fld (pv 0) rfl)))
(pss_one (ps_ret (pe_tup pa_nil)))
pss_nil)
(pss_one (ps_ret (pe_cal c_members_of hr (by first | decide | omega) (by rfl) (pa_cons (pe_fld (pv 0) rfl) (pa_cons (pe_fld (pv 0) rfl) (pa_cons (pe_op op_sub (pv 1) (pe_ix (ix_uK (K := K) rfl) (pe_fld (pv 0) rfl) pe_int (fun _ _ => rfl))) pa_nil))))))), ?_⟩
  walk_at "start"
  (have hop := RepAt.op hR; refine w_fldM j hop T_Replica.cl T_Replica.n_base fl_Replica_base ?_; clear hop; walk_at "go")
  rcases hR.bs with ⟨hb, hv⟩ | ⟨b, q, m, x, hb, hv, hq, hm, hx⟩
  · rw [hv]
    rw [show decide (V.non = V.non) = true from decide_eq_true rfl]
    refine w_T ?_
    walk_at "go"
    refine w_new j (Nat.zero_le _) fun t G1 H1 j1 e1 ht _ => ?_
    refine k _ _ _ _ j1 e1 ⟨rfl, ?_⟩
    unfold membersAt
    rw [hb]
    exact dp_intsT (ms := []) (st_of ht)
  · rw [hv]
    rw [show decide (V.ref q = V.non) = false from decide_eq_false fun z => nomatch z]
    refine w_F ?_
    walk_at "go"
    (have hop := RepAt.op hR; refine w_fldM j hop T_Replica.cl T_Replica.n_base fl_Replica_base ?_; clear hop; walk_at "go")
    (have hop := RepAt.op hR; refine w_fldM j hop T_Replica.cl T_Replica.n_entries fl_Replica_entries ?_; clear hop; walk_at "go")
    (have hop := RepAt.op hR; refine w_fldM j hop T_Replica.cl T_Replica.n_base fl_Replica_base ?_; clear hop; walk_at "go")
    rw [hv]
    refine w_ixT j hq atI_0 ?_
    walk_at "go"
    obtain ⟨n, hn⟩ := Int.eq_ofNat_of_zero_le (show 0 ≤ i - b.i by have := (hi b hb).1; omega)
    rw [hn]
    have hi2 := (hi b hb).2
    have hd := hR.d.b
    rw [hb, hv] at hd
    refine w_sg (α := MoP) ⟨.ref q, b, a.en, a.ev, r.ents, n⟩ j ⟨rfl, hd, hR.en, hR.d.en, by dsimp only; omega, hz, hO.e⟩ fun v M1 G1 H1 j1 e1 ⟨em, hv1⟩ => ?_
    refine k _ _ _ _ j1 e1 ⟨em, ?_⟩
    unfold membersAt
    rw [hb]
    dsimp only
    rw [hn]
    exact hv1
/-! ### Replica.members -/
abbrev s_Replica_members : Stmt := inClass (top 22) 2
abbrev n_Replica_members : List Str := ["self"]
theorem sc_Replica_members : FnScope n_Replica_members ["self"] (defScope s_Replica_members) := ⟨rfl, rfl, rfl, by decide +kernel, rfl, by decide +kernel, by decide +kernel⟩
def sp_Replica_members (K : PySem.W.Frag) (C CC : Addr) : Sp := Sg (α := RepA × Rpl) (fun x vs M G => vs = [.ref x.1.p] ∧ RepAt K C CC M G x.1 x.2 ∧ OkR x.2 ∧ x.2.ents.length ≤ 1000000) (fun x M _ v M' G' => M' = M ∧ Dp K G' v (intsD (membersR x.2)))
theorem membersAt_last {r : Rpl} : membersAt r (lastI r) = membersR r := by
  unfold membersAt membersR lastI
  cases r.base with
  | none => rfl
  | some b =>
    dsimp only
    rw [show (b.i + (r.ents.length : Int) - b.i).toNat = r.ents.length by omega]
theorem ok_Replica_members {P : Program} {w : World} {K : PySem.W.Frag} {mg : Str → Option Value} {base : Heap}
    {C_Replica : Addr} (T_Replica : Tx_Replica K mg C_Replica)
    {C_Counter : Addr} (T_Counter : Tx_Counter K mg C_Counter)
    {f pf : Addr} {fd : FuncData} (D : Dpr K C_Replica "members" "Replica.members" s_Replica_members ["self"] pf f fd)
    (c_Replica_members_at : CalM P w K mg base CX0 3 C_Replica "members_at" (sp_Replica_members_at K C_Replica C_Counter))
    (c_Replica_last_index : CalP P w K mg base CX0 1 C_Replica "last_index" (sp_Replica_last_index K C_Replica C_Counter)) : CalP P w K mg base CX0 4 C_Replica "members" (sp_Replica_members K C_Replica C_Counter) := by
  refine D.ok sc_Replica_members (fun vs H Q E h => ?_) fun cdv A outer s H vs Q E hr h => ?_
  · obtain ⟨x, M, G, j, ⟨rfl, _⟩, _⟩ := h; rfl
  obtain ⟨⟨a, r⟩, M, G, j, ⟨rfl, hR, hO, hz⟩, k⟩ := h
  dsimp only at hR hO hz k
  refine ⟨_, (pss_one (ps_ret (pe_calM c_Replica_members_at T_Replica.cl hr (by first | decide | omega) (pv 0) (pa_cons (pe_calP c_Replica_last_index T_Replica.cl hr (by first | decide | omega) (pv 0) (by rfl)) pa_nil)))), ?_⟩
  walk_at "start"
  (have hop := RepAt.op hR; refine w_methM j hop (no_Replica (by decide +kernel) (by decide +kernel) (by decide +kernel) (by decide +kernel) (by decide +kernel) (by decide +kernel) (by decide +kernel) (by decide +kernel) (by decide +kernel) (by decide +kernel) (by decide +kernel) (by decide +kernel) (by decide +kernel) (by decide +kernel) (by decide +kernel) (by decide +kernel) (by decide +kernel) (by decide +kernel) (by decide +kernel) (by decide +kernel) (by decide +kernel)) ?_; clear hop; walk_at "go")
  (have hop := RepAt.op hR; refine w_propM j hop ?_; clear hop)
  refine w_sg (a, r) j ⟨rfl, hR⟩ fun v M1 G1 H1 j1 e1 ⟨ev, em⟩ => ?_
  subst ev em
  walk_at "go"
  refine w_sg (α := MaP) ⟨a, r, lastI r⟩ j1 ⟨rfl, hR.ex e1, hO, hz, fun b hb => ?_⟩ fun v M2 G2 H2 j2 e2 ⟨em, hv⟩ => ?_
  · dsimp only at hb ⊢
    unfold lastI
    rw [hb]
    dsimp only
    omega
  · refine k _ _ _ _ j2 (e1.trans e2) ⟨em, ?_⟩
    dsimp only at hv ⊢
    rw [← membersAt_last]; exact hv
/-! ### is_majority -/
abbrev s_is_majority : Stmt := top 16
abbrev n_is_majority : List Str := ["some", "members"]
theorem sc_is_majority : FnScope n_is_majority ["some", "members"] (defScope s_is_majority) := ⟨rfl, rfl, rfl, by decide +kernel, rfl, by decide +kernel, by decide +kernel⟩
def sp_is_majority (K : PySem.W.Frag) : Sp := Sg (α := Addr × Addr × List Int × List Int) (fun x vs _ G => vs = [.ref x.1, .ref x.2.1] ∧ SqL K G x.1 (x.2.2.1.map V.int) ∧ SqT K G x.2.1 (x.2.2.2.map V.int)) (fun x M _ v M' _ => M' = M ∧ v = .bl (majB x.2.2.1 x.2.2.2))
theorem ok_is_majority {P : Program} {w : World} {K : PySem.W.Frag} {mg : Str → Option Value} {base : Heap}
    {f : Addr} {fd : FuncData} (D : Dn K mg "is_majority" s_is_majority ["some", "members"] f fd)
    (b_len : mg "len" = none) : Cal P w K mg base CX0 1 "is_majority" (sp_is_majority K) := by
  refine D.ok sc_is_majority (fun vs H Q E h => ?_) fun cdv A outer s H vs Q E hr h => ?_
  · obtain ⟨x, M, G, j, ⟨rfl, _⟩, _⟩ := h; rfl
  obtain ⟨⟨s, m, xs, ms⟩, M, G, j, ⟨rfl, hs, hm⟩, k⟩ := h
  dsimp only at hs hm k
  refine ⟨_, (pss_one (ps_ret (pe_cmpR op_gt (pe_op op_uMul pe_int (pe_callB (call_uLenK (K := K) rfl) (by rfl) b_len PySem.boot_len (pa_cons (pv 0) pa_nil))) (pe_callB (call_uLenK (K := K) rfl) (by rfl) b_len PySem.boot_len (pa_cons (pv 1) pa_nil)) (nomark _)))), ?_⟩
  walk_at "start"
  refine w_lenL j hs ?_
  walk_at "go"
  refine w_lenT j hm ?_
  walk_at "go"
  refine k _ _ _ _ j (Same.refl G) ⟨rfl, ?_⟩
  unfold majB
  rw [List.length_map, List.length_map]
  congr 1
  exact decide_eq_decide.mpr (by omega)
/-! ### Replica.expect -/
abbrev s_Replica_expect : Stmt := inClass (top 22) 20
abbrev n_Replica_expect : List Str := ["self", "members", "member"]
theorem sc_Replica_expect : FnScope n_Replica_expect ["self", "members"] (defScope s_Replica_expect) := ⟨rfl, rfl, rfl, by decide +kernel, rfl, by decide +kernel, by decide +kernel⟩
structure ExP where
  a : RepA
  r : Rpl
  m : Addr
  ms : List Int
def sp_Replica_expect (K : PySem.W.Frag) (C CC : Addr) : Sp := Sg (α := ExP) (fun x vs M G => vs = [.ref x.a.p, .ref x.m] ∧ RepAt K C CC M G x.a x.r ∧ SqB K G x.m (x.ms.map V.int) ∧ x.r.sz + 2 * x.ms.length ≤ 900000) (fun x M _ v M' G' => v = .non ∧ RE K C CC M x.a M' G' (expectR x.r x.ms))
theorem expect_take {r : Rpl} {ms : List Int} {i : Nat} {m : Int} (h : ms[i]? = some m) : expectR r (ms.take (i + 1)) = { expectR r (ms.take i) with ahead := putI (expectR r (ms.take i)).ahead m (lastI r + 1), known := putI (expectR r (ms.take i)).known m (-1) } := by
  unfold expectR
  rw [List.take_add_one, h]
  simp only [Option.toList, List.foldl_append, List.foldl_cons, List.foldl_nil]
theorem expect_sz (r : Rpl) (ms : List Int) : (expectR r ms).sz ≤ r.sz + 2 * ms.length := by
  have f : ∀ (v : Int) (ms : List Int) (kv : List (Int × Int)), (ms.foldl (fun kv m => putI kv m v) kv).length ≤ kv.length + ms.length := by
    intro v ms
    induction ms with
    | nil => intro kv; exact Nat.le_refl _
    | cons m t ih =>
      intro kv
      have := ih (putI kv m v)
      have := putI_len (kv := kv) (k := m) (v := v)
      rw [List.foldl_cons, List.length_cons]
      omega
  have h1 := f (lastI r + 1) ms r.ahead
  have h2 := f (-1) ms r.known
  unfold Rpl.sz
  show r.ents.length + r.ledger.length + r.records.length + r.letters.length + r.answers.length + r.votes.length + (ms.foldl (fun kv m => putI kv m (lastI r + 1)) r.ahead).length + (ms.foldl (fun kv m => putI kv m (-1)) r.known).length + r.tokens.length ≤ _
  omega
theorem ok_Replica_expect {P : Program} {w : World} {K : PySem.W.Frag} {mg : Str → Option Value} {base : Heap}
    {C_Replica : Addr} (T_Replica : Tx_Replica K mg C_Replica)
    {C_Counter : Addr} (T_Counter : Tx_Counter K mg C_Counter)
    {f : Addr} {fd : FuncData} (D : Dm K C_Replica "expect" "Replica.expect" s_Replica_expect ["self", "members"] f fd)
    (c_Replica_last_index : CalP P w K mg base CX0 1 C_Replica "last_index" (sp_Replica_last_index K C_Replica C_Counter)) : CalM P w K mg base CX0 3 C_Replica "expect" (sp_Replica_expect K C_Replica C_Counter) := by
  refine D.ok sc_Replica_expect (fun vs H Q E h => ?_) fun cdv A outer s H vs Q E hr h => ?_
  · obtain ⟨x, M, G, j, ⟨rfl, _⟩, _⟩ := h; rfl
  obtain ⟨⟨a, r, m, ms⟩, M, G, j, ⟨rfl, hR, hm, hz⟩, k⟩ := h
  dsimp only at hR hm hz k
  refine ⟨_, (pss_one (ps_for PassesOwn.never rfl (pi_any2 (K := K) rfl (pv 1)) (pg_name (i := 2) sc_Replica_expect.nd rfl (Or.inl rfl))
(pss_cons (ps_dput (hu_of hr) (pe_fld (pv 0) rfl) (pv 2) (pe_op (op_uAddK (K := K) rfl) (pe_calP c_Replica_last_index T_Replica.cl hr (by first | decide | omega) (pv 0) (by rfl)) pe_int) rfl)
(pss_one (ps_dput (hu_of hr) (pe_fld (pv 0) rfl) (pv 2) (pe_un un_neg pe_int) rfl))))), ?_⟩
  walk_at "start"
  refine w_forAV2 rfl hm (fun i σ H => ∃ M1 G1 x2, J M1 G1 H ∧ Ex G G1 ∧ RepS K C_Replica C_Counter M a M1 G1 a (expectR r (ms.take i)) ∧ σ = [some (.ref a.p), some (.ref m), x2]) ⟨M, G, _, j, Same.refl G, hR.s, rfl⟩ ?_ ?_ ?_
  · rintro i σ H ⟨M1, G1, x2, j1, e1, _⟩
    exact e1.trans j1.g
  · rintro i x σ H hi ⟨M1, G1, x2, j1, e1, hS, rfl⟩
    obtain ⟨n, hn, rfl⟩ := map_at hi
    have il : i < ms.length := (List.getElem?_eq_some_iff.mp hn).1
    have hsz := expect_sz r (ms.take i)
    rw [List.length_take] at hsz
    have hs1 : (expectR r (ms.take i)).ahead.length ≤ (expectR r (ms.take i)).sz := by unfold Rpl.sz; omega
    have hs2 : (expectR r (ms.take i)).known.length ≤ (expectR r (ms.take i)).sz := by unfold Rpl.sz; omega
    have el : lastI (expectR r (ms.take i)) = lastI r := rfl
    walk_at "go"
    (have hop := RepAt.op hS.t; refine w_propM j1 hop ?_; clear hop)
    refine w_sg (α := RepA × Rpl) (a, _) j1 ⟨rfl, hS.t⟩ fun v M2 G2 H2 j2 e2 ⟨ev, em⟩ => ?_
    have ev : v = .int (lastI r) := ev
    subst ev em
    have hS2 := hS.ex e2
    walk_at "go"
    (have hop := RepAt.op hS2.t; refine w_fldM j2 hop T_Replica.cl T_Replica.n_ahead fl_Replica_ahead ?_; clear hop; walk_at "go")
    refine w_putX j2 hS2.t.o_ah (by rw [tk_len]; omega) fun H3 j3 => ?_
    have hS3 := hS2.p_ah n (lastI r + 1)
    walk_at "go"
    (have hop := RepAt.op hS3.t; refine w_fldM j3 hop T_Replica.cl T_Replica.n_known fl_Replica_known ?_; clear hop; walk_at "go")
    refine w_putX j3 hS3.t.o_kn (by rw [tk_len]; show (expectR r (ms.take i)).known.length < 1000000; omega) fun H4 j4 => ?_
    have hS4 := hS3.p_kn n (-1)
    refine ⟨_, G2, _, j4, e1.trans e2, ?_, rfl⟩
    rw [expect_take hn]
    exact hS4
  · rintro σ H ⟨M1, G1, x2, j1, e1, hS, rfl⟩
    rw [List.length_map, List.take_length] at hS
    walk_at "go"
    exact k _ _ _ _ j1 e1 ⟨rfl, a, hS⟩
/-! ### Replica.attach -/
abbrev s_Replica_attach : Stmt := inClass (top 22) 16
abbrev n_Replica_attach : List Str := ["self", "entry", "term", "command"]
theorem sc_Replica_attach : FnScope n_Replica_attach ["self", "entry"] (defScope s_Replica_attach) := ⟨rfl, rfl, rfl, by decide +kernel, rfl, by decide +kernel, by decide +kernel⟩
structure AtP where
  a : RepA
  r : Rpl
  x : V
  e : RN
def sp_Replica_attach (K : PySem.W.Frag) (C CC : Addr) : Sp := Sg (α := AtP) (fun x vs M G => vs = [.ref x.a.p, x.x] ∧ RepAt K C CC M G x.a x.r ∧ Dp K G x.x (rnD x.e) ∧ x.r.sz ≤ 900000) (fun x M _ v M' G' => v = .non ∧ RE K C CC M x.a M' G' (attachR x.r x.e))
theorem ok_Replica_attach {P : Program} {w : World} {K : PySem.W.Frag} {mg : Str → Option Value} {base : Heap}
    {C_Replica : Addr} (T_Replica : Tx_Replica K mg C_Replica)
    {C_Counter : Addr} (T_Counter : Tx_Counter K mg C_Counter)
    {f : Addr} {fd : FuncData} (D : Dm K C_Replica "attach" "Replica.attach" s_Replica_attach ["self", "entry"] f fd)
    (c_Replica_last_index : CalP P w K mg base CX0 1 C_Replica "last_index" (sp_Replica_last_index K C_Replica C_Counter)) : CalM P w K mg base CX0 3 C_Replica "attach" (sp_Replica_attach K C_Replica C_Counter) := by
  refine D.ok sc_Replica_attach (fun vs H Q E h => ?_) fun cdv A outer s H vs Q E hr h => ?_
  · obtain ⟨x, M, G, j, ⟨rfl, _⟩, _⟩ := h; rfl
  obtain ⟨⟨a, r, x, e⟩, M, G, j, ⟨rfl, hR, hx, hz⟩, k⟩ := h
  dsimp only at hR hx hz k
  refine ⟨_, (pss_cons (ps_expr (pe_bm PySem.F.plainAttrs_list PySem.F.slot_list_append PySem.F.type_list_append mt_append (pe_fld (pv 0) rfl) (pa_cons (pv 1) pa_nil)))
(pss_cons (ps_asg (pv 1) (pg_tup rfl (pgs_cons (pg_name (i := 2) sc_Replica_attach.nd rfl (Or.inl rfl)) (pgs_cons (pg_name (i := 3) sc_Replica_attach.nd rfl (Or.inl rfl)) pgs_nil))))
(pss_one (ps_expr (pe_bm PySem.F.plainAttrs_list PySem.F.slot_list_append PySem.F.type_list_append mt_append (pe_fld (pv 0) rfl) (pa_cons (pe_tup (pa_cons pe_str (pa_cons (pe_fld (pv 0) rfl) (pa_cons (pe_calP c_Replica_last_index T_Replica.cl hr (by first | decide | omega) (pv 0) (by rfl)) (pa_cons (pv 2) (pa_cons (pv 3) pa_nil)))))) pa_nil)))))), ?_⟩
  have lr := dpAll_len hR.d.rc
  have le := dpAll_len hR.d.en
  rw [List.length_map] at le
  unfold Rpl.sz at hz
  obtain ⟨ea, cx, rfl, hea, hcx⟩ := dp_rn hx
  walk_at "start"
  (have hop := RepAt.op hR; refine w_fldM j hop T_Replica.cl T_Replica.n_entries fl_Replica_entries ?_; clear hop; walk_at "go")
  refine ⟨ty_listM j hR.en, ?_⟩
  walk_at "go"
  refine w_appendA j hR.en (by omega) fun H1 j1 => ?_
  have hS1 := hR.s.a_en hx
  walk_at "go"
  refine w_gTup j1 hea rfl (w_gCons (w_gName (w_gCons (w_gName (w_gNil ?_)))))
  walk_at "go"
  (have hop := RepAt.op hS1.t; refine w_fldM j1 hop T_Replica.cl T_Replica.n_records fl_Replica_records ?_; clear hop; walk_at "go")
  refine ⟨ty_listM j1 hS1.t.o_rc, ?_⟩
  walk_at "go"
  (have hop := RepAt.op hS1.t; refine w_fldM j1 hop T_Replica.cl T_Replica.n_group fl_Replica_group ?_; clear hop; walk_at "go")
  (have hop := RepAt.op hS1.t; refine w_propM j1 hop ?_; clear hop)
  refine w_sg (α := RepA × Rpl) ({ a with ev := a.ev ++ [.ref ea] }, { r with ents := r.ents ++ [e] }) j1 ⟨rfl, hS1.t⟩ fun v M2 G2 H2 j2 e2 ⟨ev, em⟩ => ?_
  subst ev em
  have hS2 := hS1.ex e2
  walk_at "go"
  refine w_new j2 (by show 5 ≤ sizeLine; decide) fun q G3 H3 j3 e3 hq _ => ?_
  walk_at "go"
  have hS3 := hS2.ex e3
  refine w_appendA j3 hS3.t.o_rc (by first | omega | (dsimp only; omega)) fun H4 j4 => ?_
  exact k _ _ _ _ j4 (e2.trans e3) ⟨rfl, _, hS3.a_rc (.tup (st_of hq) (.cons (.str _) (.cons (.int _) (.cons (.int _) (.cons (.int _) (.cons (dp_mono (e2.trans e3) hcx) .nil))))))⟩
/-! ### Replica.others -/
abbrev s_Replica_others : Stmt := inClass (top 22) 4
abbrev n_Replica_others : List Str := ["self", "member"]
theorem sc_Replica_others : FnScope n_Replica_others ["self"] (defScope s_Replica_others) := ⟨rfl, rfl, rfl, by decide +kernel, rfl, by decide +kernel, by decide +kernel⟩
def sp_Replica_others (K : PySem.W.Frag) (C CC : Addr) : Sp := Sg (α := RepA × Rpl) (fun x vs M G => vs = [.ref x.1.p] ∧ RepAt K C CC M G x.1 x.2 ∧ OkR x.2 ∧ x.2.ents.length ≤ 1000000) (fun x M _ v M' G' => M' = M ∧ ∃ L, v = .ref L ∧ G' L = some (.lst ((othersR x.2).map V.int)))
theorem ok_Replica_others {P : Program} {w : World} {K : PySem.W.Frag} {mg : Str → Option Value} {base : Heap}
    {C_Replica : Addr} (T_Replica : Tx_Replica K mg C_Replica)
    {C_Counter : Addr} (T_Counter : Tx_Counter K mg C_Counter)
    {f : Addr} {fd : FuncData} (D : Dm K C_Replica "others" "Replica.others" s_Replica_others ["self"] f fd)
    (c_Replica_members : CalP P w K mg base CX0 4 C_Replica "members" (sp_Replica_members K C_Replica C_Counter)) : CalM P w K mg base CX0 6 C_Replica "others" (sp_Replica_others K C_Replica C_Counter) := by
  refine D.ok sc_Replica_others (fun vs H Q E h => ?_) fun cdv A outer s H vs Q E hr h => ?_
  · obtain ⟨x, M, G, j, ⟨rfl, _⟩, _⟩ := h; rfl
  obtain ⟨⟨a, r⟩, M, G, j, ⟨rfl, hR, hO, hz⟩, k⟩ := h
  dsimp only at hR hO hz k
  refine ⟨_, (pss_one (ps_ret (pe_lc (own := [("member", 1)]) (by rfl) sc_Replica_others.nd (pi_tup (pe_calP c_Replica_members T_Replica.cl hr (by first | decide | omega) (pv 0) (by rfl))) (blkOk_by (own := [("member", 1)]) (N := n_Replica_others) (sc := defScope s_Replica_others) (by decide +kernel)) (fun _ _ _ _ _ => (pg_name (i := 1) sc_Replica_others.nd rfl (Or.inl rfl))) (fun _ _ _ _ _ => pts_one (pt_cmpR (op_uNeK (K := K) rfl hr) (pv 1) (pe_fldK (K := K) rfl (pv 0) rfl) (nomark _))) (fun _ _ _ _ _ => (pv 1))))), ?_⟩
  walk_at "start"
  (have hop := RepAt.op hR; refine w_propM j hop ?_; clear hop)
  refine w_sg (a, r) j ⟨rfl, hR, hO, hz⟩ fun v M1 G1 H1 j1 e1 ⟨em, hv⟩ => ?_
  subst em
  obtain ⟨q, rfl, hq⟩ := dp_ints hv
  have hR1 := hR.ex e1
  have lm := membersR_ok hO
  refine w_lcTro j1 hq (fun i acc G2 => acc = (((membersR r).take i).filter fun m => decide (m ≠ r.me)).map V.int) rfl ?_ ?_
  · rintro L i x acc G2 H2 hi nM j2 e2 rfl
    obtain ⟨m, hm, rfl⟩ := map_at hi
    have il : i < (membersR r).length := (List.getElem?_eq_some_iff.mp hm).1
    have hR2 := (hR1.ex e2).plus (o := .lst ((((membersR r).take i).filter fun m => decide (m ≠ r.me)).map V.int)) nM (fun _ z => nomatch z)
    refine w_gName ⟨rfl, ?_⟩
    walk_at "go"
    (have hop := RepAt.op hR2; refine w_fldM j2 hop T_Replica.cl T_Replica.n_me fl_Replica_me ?_; clear hop; walk_at "go")
    refine w_decN (fun c => ?_) (fun c => ?_)
    · walk_at "go"
      refine ro_add j2 e2 (by rw [List.length_map]; exact Nat.lt_of_le_of_lt (List.length_filter_le _ _) (by rw [List.length_take]; omega)) ?_
      rw [tk_filter hm, if_pos (decide_eq_true c), List.map_append]; rfl
    · refine ro_skip j2 e2 ?_
      rw [tk_filter hm, if_neg (by simp [c]), List.append_nil]
  · rintro L acc G2 G3 H3 j3 e2 e3 hL rfl
    rw [List.length_map, List.take_length] at hL
    exact k _ _ _ _ j3 ((e1.trans e2).trans e3) ⟨rfl, L, rfl, hL⟩
/-! ### Replica.send_to -/
abbrev s_Replica_send_to : Stmt := inClass (top 22) 22
abbrev n_Replica_send_to : List Str := ["self", "member", "index", "letter", "pairs"]
theorem sc_Replica_send_to : FnScope n_Replica_send_to ["self", "member"] (defScope s_Replica_send_to) := ⟨rfl, rfl, rfl, by decide +kernel, rfl, by decide +kernel, by decide +kernel⟩
structure SdP where
  a : RepA
  r : Rpl
  m : Int
  x : Int
  b : RB
def sp_Replica_send_to (K : PySem.W.Frag) (C CC : Addr) : Sp := Sg (α := SdP) (fun x vs M G => vs = [.ref x.a.p, .int x.m] ∧ RepAt K C CC M G x.a x.r ∧ x.r.base = some x.b ∧ look x.r.ahead x.m = some x.x ∧ x.x - 1 ≤ x.b.i + x.r.ents.length ∧ x.r.sz ≤ 900000) (fun x M _ v M' G' => v = .non ∧ RE K C CC M x.a M' G' (sendTo x.r x.m))
theorem ok_Replica_send_to {P : Program} {w : World} {K : PySem.W.Frag} {mg : Str → Option Value} {base : Heap}
    {C_Replica : Addr} (T_Replica : Tx_Replica K mg C_Replica)
    {C_Counter : Addr} (T_Counter : Tx_Counter K mg C_Counter)
    {f : Addr} {fd : FuncData} (D : Dm K C_Replica "send_to" "Replica.send_to" s_Replica_send_to ["self", "member"] f fd)
    (b_tuple : mg "tuple" = none)
    (c_Replica_term_at : CalM P w K mg base CX0 2 C_Replica "term_at" (sp_Replica_term_at K C_Replica C_Counter)) : CalM P w K mg base CX0 3 C_Replica "send_to" (sp_Replica_send_to K C_Replica C_Counter) := by
  refine D.ok sc_Replica_send_to (fun vs H Q E h => ?_) fun cdv A outer s H vs Q E hr h => ?_
  · obtain ⟨x, M, G, j, ⟨rfl, _⟩, _⟩ := h; rfl
  obtain ⟨⟨a, r, m, x, b⟩, M, G, j, ⟨rfl, hR, hb, hx, hl, hz⟩, k⟩ := h
  dsimp only at hR hb hx hl hz k
  refine ⟨_, (pss_cons (ps_set (i := 2) sc_Replica_send_to.nd rfl (Or.inl rfl) (pe_op op_sub (pe_dget (hu_of hr) (pe_fld (pv 0) rfl) (pv 1) (fun _ _ => rfl)) pe_int))
(pss_cons (ps_if (pt_cmpR op_lt (pv 2) (pe_ix (ix_uK (K := K) rfl) (pe_fld (pv 0) rfl) pe_int (fun _ _ => rfl)) (nomark _))
(pss_one (ps_set (i := 3) sc_Replica_send_to.nd rfl (Or.inl rfl) (pe_tup (pa_cons pe_str (pa_cons (pe_fld (pv 0) rfl) (pa_cons (pe_fld (pv 0) rfl) (pa_cons (pe_fld (pv 0) rfl) pa_nil)))))))
(pss_cons (ps_set (i := 4) sc_Replica_send_to.nd rfl (Or.inl rfl) (pe_callTy (call_tupC (K := K) rfl) (by rfl) b_tuple bt_tuple (pa_cons (pe_slice (sl_uK (K := K) rfl) (pe_fld (pv 0) rfl) (po_some (pe_op op_sub (pv 2) (pe_ix (ix_uK (K := K) rfl) (pe_fld (pv 0) rfl) pe_int (fun _ _ => rfl)))) po_none) pa_nil)))
(pss_one (ps_set (i := 3) sc_Replica_send_to.nd rfl (Or.inl rfl) (pe_tup (pa_cons pe_str (pa_cons (pe_fld (pv 0) rfl) (pa_cons (pe_fld (pv 0) rfl) (pa_cons (pv 2) (pa_cons (pe_calM c_Replica_term_at T_Replica.cl hr (by first | decide | omega) (pv 0) (pa_cons (pv 2) pa_nil)) (pa_cons (pv 4) (pa_cons (pe_fld (pv 0) rfl) pa_nil))))))))))))
(pss_one (ps_expr (pe_bm PySem.F.plainAttrs_list PySem.F.slot_list_append PySem.F.type_list_append mt_append (pe_fld (pv 0) rfl) (pa_cons (pe_tup (pa_cons (pv 1) (pa_cons (pv 3) pa_nil))) pa_nil)))))), ?_⟩
  unfold Rpl.sz at hz
  have ll := dpAll_len hR.d.lt
  have le := dpAll_len hR.d.en
  rw [List.length_map] at le
  rcases hR.bs with ⟨hb', _⟩ | ⟨b', q, bm, bx, hb', hv, hq, hm, hbx⟩
  · rw [hb] at hb'; cases hb'
  rw [hb] at hb'
  obtain rfl := Option.some.inj hb'
  have er : sendTo r m = addLetter r (.tuple [.int m, letterTo r (x - 1)]) := by unfold sendTo; rw [hx]; rfl
  have hxv : valV (tk r.ahead) (.inl m) = some (.int x) := by rw [tk_look, hx]; rfl
  walk_at "start"
  (have hop := RepAt.op hR; refine w_fldM j hop T_Replica.cl T_Replica.n_ahead fl_Replica_ahead ?_; clear hop; walk_at "go")
  refine w_getX j (.ofM hR.o_ah) hxv ?_
  walk_at "to"
  have hbd := hR.d.b
  rw [hb] at hbd
  refine w_seqO (fun σ H => ∃ G1 lv x2, J M G1 H ∧ Ex G G1 ∧ Dp K G1 lv (letterTo r (x - 1)) ∧ σ = [some (.ref a.p), some (.int m), some (.int (x - 1)), some lv, x2]) ?_ fun Nn hN => ?_
  rotate_left
  · walk_at "go"
    (have hop := RepAt.op hR; refine w_fldM j hop T_Replica.cl T_Replica.n_base fl_Replica_base ?_; clear hop; walk_at "go")
    rw [hv]
    refine w_ixT j hq atI_0 ?_
    walk_at "go"
    refine w_dec (fun c => ?_) (fun c => ?_)
    · have el : letterTo r (x - 1) = .tuple [.str "base", .int r.group, .int r.term, rbD b] := by unfold letterTo; rw [hb]; dsimp only; rw [if_pos c]
      walk_at "go"
      (have hop := RepAt.op hR; refine w_fldM j hop T_Replica.cl T_Replica.n_group fl_Replica_group ?_; clear hop; walk_at "go")
      (have hop := RepAt.op hR; refine w_fldM j hop T_Replica.cl T_Replica.n_term fl_Replica_term ?_; clear hop; walk_at "go")
      (have hop := RepAt.op hR; refine w_fldM j hop T_Replica.cl T_Replica.n_base fl_Replica_base ?_; clear hop; walk_at "go")
      refine w_new j (by show 4 ≤ sizeLine; decide) fun t G1 H1 j1 e1 ht _ => ?_
      walk_at "go"
      refine hN _ _ ⟨G1, _, _, j1, e1, ?_, rfl⟩
      rw [el]
      exact .tup (st_of ht) (.cons (.str _) (.cons (.int _) (.cons (.int _) (.cons (dp_mono e1 hbd) .nil))))
    · have el : letterTo r (x - 1) = .tuple [.str "copy", .int r.group, .int r.term, .int (x - 1), .int (termAt r (x - 1)), .tuple ((r.ents.drop (x - 1 - b.i).toNat).map rnD), .int r.cm] := by unfold letterTo; rw [hb]; dsimp only; rw [if_neg c]
      obtain ⟨nn, hnn⟩ := Int.eq_ofNat_of_zero_le (show 0 ≤ x - 1 - b.i by omega)
      walk_at "go"
      (have hop := RepAt.op hR; refine w_fldM j hop T_Replica.cl T_Replica.n_entries fl_Replica_entries ?_; clear hop; walk_at "go")
      (have hop := RepAt.op hR; refine w_fldM j hop T_Replica.cl T_Replica.n_base fl_Replica_base ?_; clear hop; walk_at "go")
      rw [hv]
      refine w_ixT j hq atI_0 ?_
      walk_at "go"
      refine w_slM j hR.en (w_new j (Nat.zero_le _) fun s1 G1 H1 j1 e1 hs1 _ => ?_)
      walk_at "go"
      refine w_tupC (sl_mono j1.g (sl_of hs1)) (w_new j1 (Nat.zero_le _) fun s2 G2 H2 j2 e2 hs2 _ => ?_)
      have hR2 := (hR.ex e1).ex e2
      walk_at "go"
      (have hop := RepAt.op hR2; refine w_fldM j2 hop T_Replica.cl T_Replica.n_group fl_Replica_group ?_; clear hop; walk_at "go")
      (have hop := RepAt.op hR2; refine w_fldM j2 hop T_Replica.cl T_Replica.n_term fl_Replica_term ?_; clear hop; walk_at "go")
      (have hop := RepAt.op hR2; refine w_methM j2 hop (no_Replica (by decide +kernel) (by decide +kernel) (by decide +kernel) (by decide +kernel) (by decide +kernel) (by decide +kernel) (by decide +kernel) (by decide +kernel) (by decide +kernel) (by decide +kernel) (by decide +kernel) (by decide +kernel) (by decide +kernel) (by decide +kernel) (by decide +kernel) (by decide +kernel) (by decide +kernel) (by decide +kernel) (by decide +kernel) (by decide +kernel) (by decide +kernel)) ?_; clear hop; walk_at "go")
      refine w_sg (α := TaP) ⟨a, r, x - 1, b⟩ j2 ⟨rfl, hR2, hb, by dsimp only; omega, by dsimp only; omega⟩ fun v M3 G3 H3 j3 e3 ⟨em, ev⟩ => ?_
      subst em ev
      have hR3 := hR2.ex e3
      walk_at "go"
      (have hop := RepAt.op hR3; refine w_fldM j3 hop T_Replica.cl T_Replica.n_committed fl_Replica_committed ?_; clear hop; walk_at "go")
      refine w_new j3 (by show 7 ≤ sizeLine; decide) fun t G4 H4 j4 e4 ht _ => ?_
      walk_at "go"
      refine hN _ _ ⟨G4, _, _, j4, (((e1.trans e2).trans e3).trans e4), ?_, rfl⟩
      rw [el, hnn, Int.toNat_natCast]
      refine .tup (st_of ht) (.cons (.str _) (.cons (.int _) (.cons (.int _) (.cons (.int _) (.cons (.int _) (.cons (.tup (st_of ((e3.trans e4) _ _ hs2)) ?_) (.cons (.int _) .nil)))))))
      rw [hnn, cutV_from, List.map_drop]
      exact dpAll_mono (((e1.trans e2).trans e3).trans e4) (dpAll_drop nn hR.d.en)
  · rintro σ H ⟨G1, lv, x2, j1, e1, hlv, rfl⟩
    have hR1 := hR.ex e1
    walk_at "go"
    (have hop := RepAt.op hR1; refine w_fldM j1 hop T_Replica.cl T_Replica.n_letters fl_Replica_letters ?_; clear hop; walk_at "go")
    refine ⟨ty_listM j1 hR1.o_lt, ?_⟩
    walk_at "go"
    refine w_new j1 (by show 2 ≤ sizeLine; decide) fun t G2 H2 j2 e2 ht _ => ?_
    walk_at "go"
    have hR2 := hR1.ex e2
    refine w_appendA j2 hR2.o_lt (by omega) fun H3 j3 => ?_
    rw [er] at k
    exact k _ _ _ _ j3 (e1.trans e2) ⟨rfl, _, hR2.s.a_lt (.tup (st_of ht) (.cons (.int _) (.cons (dp_mono e2 hlv) .nil)))⟩
/-! ### Replica.nudge -/
abbrev s_Replica_nudge : Stmt := inClass (top 22) 21
abbrev n_Replica_nudge : List Str := ["self", "member"]
theorem sc_Replica_nudge : FnScope n_Replica_nudge ["self"] (defScope s_Replica_nudge) := ⟨rfl, rfl, rfl, by decide +kernel, rfl, by decide +kernel, by decide +kernel⟩
structure NuP where
  a : RepA
  r : Rpl
  b : RB
def sp_Replica_nudge (K : PySem.W.Frag) (C CC : Addr) : Sp := Sg (α := NuP) (fun x vs M G => vs = [.ref x.a.p] ∧ RepAt K C CC M G x.a x.r ∧ OkR x.r ∧ (x.r.role = "leader" → x.r.base = some x.b ∧ AhOk x.r) ∧ x.r.sz ≤ 800000) (fun x M _ v M' G' => v = .non ∧ RE K C CC M x.a M' G' (nudgeR x.r))
theorem ok_Replica_nudge {P : Program} {w : World} {K : PySem.W.Frag} {mg : Str → Option Value} {base : Heap}
    {C_Replica : Addr} (T_Replica : Tx_Replica K mg C_Replica)
    {C_Counter : Addr} (T_Counter : Tx_Counter K mg C_Counter)
    {f : Addr} {fd : FuncData} (D : Dm K C_Replica "nudge" "Replica.nudge" s_Replica_nudge ["self"] f fd)
    (g_LEADER : ∃ u, mg "LEADER" = some u ∧ RelV (.str "leader") u)
    (c_Replica_others : CalM P w K mg base CX0 6 C_Replica "others" (sp_Replica_others K C_Replica C_Counter))
    (c_Replica_send_to : CalM P w K mg base CX0 3 C_Replica "send_to" (sp_Replica_send_to K C_Replica C_Counter)) : CalM P w K mg base CX0 7 C_Replica "nudge" (sp_Replica_nudge K C_Replica C_Counter) := by
  refine D.ok sc_Replica_nudge (fun vs H Q E h => ?_) fun cdv A outer s H vs Q E hr h => ?_
  · obtain ⟨x, M, G, j, ⟨rfl, _⟩, _⟩ := h; rfl
  obtain ⟨⟨a, r, b⟩, M, G, j, ⟨rfl, hR, hO, hL, hz⟩, k⟩ := h
  dsimp only at hR hO hL hz k
  refine ⟨_, (pss_one (ps_if (pt_cmpR (op_uEqK (K := K) rfl hr) (pe_fld (pv 0) rfl) (pe_gk (by rfl) g_LEADER) (nomark _))
(pss_one (ps_for PassesOwn.never rfl (pi_list (pe_calM0 c_Replica_others T_Replica.cl hr (by first | decide | omega) (pv 0))) (pg_name (i := 1) sc_Replica_nudge.nd rfl (Or.inl rfl))
(pss_one (ps_expr (pe_calM c_Replica_send_to T_Replica.cl hr (by first | decide | omega) (pv 0) (pa_cons (pv 1) pa_nil))))))
pss_nil)), ?_⟩
  have ho := others_len hO
  walk_at "start"
  (have hop := RepAt.op hR; refine w_fldM j hop T_Replica.cl T_Replica.n_role fl_Replica_role ?_; clear hop; walk_at "go")
  refine w_eqS (k := decide (r.role = "leader")) rfl ?_
  walk_at "go"
  refine w_dec (fun c => ?_) (fun c => ?_)
  rotate_left
  · walk_at "go"
    refine k _ _ _ _ j (Same.refl G) ⟨rfl, a, ?_⟩
    unfold nudgeR
    rw [if_neg c]
    exact hR.s
  obtain ⟨hb, hA⟩ := hL c
  walk_at "go"
  (have hop := RepAt.op hR; refine w_methM j hop (no_Replica (by decide +kernel) (by decide +kernel) (by decide +kernel) (by decide +kernel) (by decide +kernel) (by decide +kernel) (by decide +kernel) (by decide +kernel) (by decide +kernel) (by decide +kernel) (by decide +kernel) (by decide +kernel) (by decide +kernel) (by decide +kernel) (by decide +kernel) (by decide +kernel) (by decide +kernel) (by decide +kernel) (by decide +kernel) (by decide +kernel) (by decide +kernel)) ?_; clear hop; walk_at "go")
  refine w_sg (a, r) j ⟨rfl, hR, hO, by dsimp only; unfold Rpl.sz at hz; omega⟩ fun v M1 G1 H1 j1 e1 ⟨em, L, ev, hL⟩ => ?_
  subst em ev
  have hR1 := hR.ex e1
  refine w_forX (xs := (othersR r).map V.int) (fun i σ H => ∃ M2 G2 a2 x1, J M2 G2 H ∧ Ex G1 G2 ∧ RepS K C_Replica C_Counter M1 a M2 G2 a2 (((othersR r).take i).foldl sendTo r) ∧ σ = [some (.ref a.p), x1]) ⟨M1, G1, a, _, j1, Same.refl _, hR1.s, rfl⟩ ?_ ?_ ?_
  · rintro i σ H _ ⟨M2, G2, a2, x1, j2, e2, _⟩
    exact sl_of (j2.g _ _ (e2 _ _ hL))
  · rintro i x σ H hi ⟨M2, G2, a2, x1, j2, e2, hS, rfl⟩
    obtain ⟨m, hm, rfl⟩ := map_at hi
    have il : i < (othersR r).length := (List.getElem?_eq_some_iff.mp hm).1
    have hs := send_sz r ((othersR r).take i)
    rw [List.length_take] at hs
    have hlo := LtO.fold ((othersR r).take i) (LtO.rfl' r)
    obtain ⟨x, hx, hx1⟩ := hA m (List.mem_of_getElem? hm)
    have el : lastI r = b.i + r.ents.length := by unfold lastI; rw [hb]
    have q1 : (((othersR r).take i).foldl sendTo r).base = some b := by rw [hlo.eq]; exact hb
    have q2 : (((othersR r).take i).foldl sendTo r).ahead = r.ahead := by rw [hlo.eq]
    have q3 : (((othersR r).take i).foldl sendTo r).ents = r.ents := by rw [hlo.eq]
    walk_at "go"
    rw [← hS.f.pe]
    (have hop := RepAt.op hS.t; refine w_methM j2 hop (no_Replica (by decide +kernel) (by decide +kernel) (by decide +kernel) (by decide +kernel) (by decide +kernel) (by decide +kernel) (by decide +kernel) (by decide +kernel) (by decide +kernel) (by decide +kernel) (by decide +kernel) (by decide +kernel) (by decide +kernel) (by decide +kernel) (by decide +kernel) (by decide +kernel) (by decide +kernel) (by decide +kernel) (by decide +kernel) (by decide +kernel) (by decide +kernel)) ?_; clear hop; walk_at "go")
    refine w_sg (α := SdP) ⟨a2, _, m, x, b⟩ j2 ⟨rfl, hS.t, q1, by dsimp only; rw [q2]; exact hx, by dsimp only; rw [q3]; omega, by dsimp only; omega⟩ fun v M3 G3 H3 j3 e3 ⟨ev, a3, hS3⟩ => ?_
    walk_at "go"
    refine ⟨M3, G3, a3, _, j3, e2.trans e3, ?_, rfl⟩
    rw [send_take hm]
    exact hS.then hS3
  · rintro σ H ⟨M2, G2, a2, x1, j2, e2, hS, rfl⟩
    rw [List.length_map, List.take_length] at hS
    walk_at "go"
    refine k _ _ _ _ j2 (e1.trans e2) ⟨rfl, a2, ?_⟩
    unfold nudgeR
    rw [if_pos c]
    exact hS
/-! ### Replica.take_lead -/
abbrev s_Replica_take_lead : Stmt := inClass (top 22) 19
abbrev n_Replica_take_lead : List Str := ["self"]
theorem sc_Replica_take_lead : FnScope n_Replica_take_lead ["self"] (defScope s_Replica_take_lead) := ⟨rfl, rfl, rfl, by decide +kernel, rfl, by decide +kernel, by decide +kernel⟩
structure TlP where
  a : RepA
  r : Rpl
  b : RB
def sp_Replica_take_lead (K : PySem.W.Frag) (C CC : Addr) : Sp := Sg (α := TlP) (fun x vs M G => vs = [.ref x.a.p] ∧ RepAt K C CC M G x.a x.r ∧ OkR x.r ∧ x.r.base = some x.b ∧ x.r.sz ≤ 700000) (fun x M _ v M' G' => v = .non ∧ RE K C CC M x.a M' G' (leadR x.r))
theorem ok_Replica_take_lead {P : Program} {w : World} {K : PySem.W.Frag} {mg : Str → Option Value} {base : Heap}
    {C_Replica : Addr} (T_Replica : Tx_Replica K mg C_Replica)
    {C_Counter : Addr} (T_Counter : Tx_Counter K mg C_Counter)
    {f : Addr} {fd : FuncData} (D : Dm K C_Replica "take_lead" "Replica.take_lead" s_Replica_take_lead ["self"] f fd)
    {a_NOTHING : Addr} (g_NOTHING : ∃ u, mg "NOTHING" = some u ∧ RelV (.ref a_NOTHING) u) (k_NOTHING : ∀ H, SqT K H a_NOTHING [V.str "none"])
    (g_LEADER : ∃ u, mg "LEADER" = some u ∧ RelV (.str "leader") u)
    (c_Replica_nudge : CalM P w K mg base CX0 7 C_Replica "nudge" (sp_Replica_nudge K C_Replica C_Counter))
    (c_Replica_attach : CalM P w K mg base CX0 3 C_Replica "attach" (sp_Replica_attach K C_Replica C_Counter))
    (c_Replica_expect : CalM P w K mg base CX0 3 C_Replica "expect" (sp_Replica_expect K C_Replica C_Counter))
    (c_Replica_members : CalP P w K mg base CX0 4 C_Replica "members" (sp_Replica_members K C_Replica C_Counter)) : CalM P w K mg base CX0 8 C_Replica "take_lead" (sp_Replica_take_lead K C_Replica C_Counter) := by
  refine D.ok sc_Replica_take_lead (fun vs H Q E h => ?_) fun cdv A outer s H vs Q E hr h => ?_
  · obtain ⟨x, M, G, j, ⟨rfl, _⟩, _⟩ := h; rfl
  obtain ⟨⟨a, r, b⟩, M, G, j, ⟨rfl, hR, hO, hb, hz⟩, k⟩ := h
  dsimp only at hR hO hb hz k
  refine ⟨_, (pss_cons (ps_fld (pv 0) (pe_gk (by rfl) g_LEADER) rfl)
(pss_cons (ps_fld (pv 0) (pe_fld (pv 0) rfl) rfl)
(pss_cons (ps_fld (pv 0) pe_dnewK rfl)
(pss_cons (ps_fld (pv 0) pe_dnewK rfl)
(pss_cons (ps_fld (pv 0) pe_dnewK rfl)
(pss_cons (ps_expr (pe_calM c_Replica_expect T_Replica.cl hr (by first | decide | omega) (pv 0) (pa_cons (pe_calP c_Replica_members T_Replica.cl hr (by first | decide | omega) (pv 0) (by rfl)) pa_nil)))
(pss_cons (ps_expr (pe_calM c_Replica_attach T_Replica.cl hr (by first | decide | omega) (pv 0) (pa_cons (pe_tup (pa_cons (pe_fld (pv 0) rfl) (pa_cons (pe_gk (by rfl) g_NOTHING) pa_nil))) pa_nil)))
(pss_one (ps_expr (pe_calM0 c_Replica_nudge T_Replica.cl hr (by first | decide | omega) (pv 0))))))))))), ?_⟩
  walk_at "start"
  (have hop := hR.op; refine w_setX j hop T_Replica.cl T_Replica.n_role (by show 21 < 1000; decide) fun H1 j1 => ?_; clear hop; rw [sf_Replica_role] at j1)
  have hS1 := hR.s.f_role "leader"
  walk_at "go"
  (have hop := RepAt.op hS1.t; refine w_fldM j1 hop T_Replica.cl T_Replica.n_me fl_Replica_me ?_; clear hop; walk_at "go")
  (have hop := hS1.t.op; refine w_setX j1 hop T_Replica.cl T_Replica.n_leader (by show 21 < 1000; decide) fun H2 j2 => ?_; clear hop; rw [sf_Replica_leader] at j2)
  have hS2 := hS1.f_leader (some r.me)
  walk_at "go"
  refine w_newM j2 (Nat.zero_le _) fun q1 H3 j3 n3 g3 => ?_
  have ho3 := upd_ne' (a := q1) (o := .dK []) hS2.t.op (ne_of_none hS2.t.op n3)
  walk_at "go"
  (have hop := ho3; refine w_setX j3 hop T_Replica.cl T_Replica.n_ahead (by show 21 < 1000; decide) fun H4 j4 => ?_; clear hop; rw [sf_Replica_ahead] at j4)
  have hS4 := hS2.s_ah n3
  walk_at "go"
  refine w_newM j4 (Nat.zero_le _) fun q2 H5 j5 n5 g5 => ?_
  have ho5 := upd_ne' (a := q2) (o := .dK []) hS4.t.op (ne_of_none hS4.t.op n5)
  walk_at "go"
  (have hop := ho5; refine w_setX j5 hop T_Replica.cl T_Replica.n_known (by show 21 < 1000; decide) fun H6 j6 => ?_; clear hop; rw [sf_Replica_known] at j6)
  have hS6 := hS4.s_kn n5
  walk_at "go"
  refine w_newM j6 (Nat.zero_le _) fun q3 H7 j7 n7 g7 => ?_
  have ho7 := upd_ne' (a := q3) (o := .dK []) hS6.t.op (ne_of_none hS6.t.op n7)
  walk_at "go"
  (have hop := ho7; refine w_setX j7 hop T_Replica.cl T_Replica.n_tokens (by show 21 < 1000; decide) fun H8 j8 => ?_; clear hop; rw [sf_Replica_tokens] at j8)
  have hS8 := hS6.s_tq n7
  obtain ⟨r1, hr1⟩ : ∃ r1, r1 = { r with role := "leader", leader := some r.me, ahead := [], known := [], tokens := [] } := ⟨_, rfl⟩
  have er : leadR r = nudgeR (attachR (expectR r1 (membersR r1)) (noneE r.term)) := by rw [hr1]; rfl
  obtain ⟨a8, p8, hS8⟩ := hS8.pack (p := a.p) hr1 rfl
  have hO1 : OkR r1 := by rw [hr1]; exact ⟨hO.b, hO.e⟩
  have hz1 : r1.sz ≤ r.sz := by rw [hr1]; unfold Rpl.sz; simp only [List.length_nil]; omega
  have hb1 : r1.base = some b := by rw [hr1]; exact hb
  have ht1 : r1.term = r.term := by rw [hr1]
  have hl1 : r1.role = "leader" := by rw [hr1]
  have lz : r1.ents.length ≤ r1.sz := by unfold Rpl.sz; omega
  have lm := membersR_ok hO1
  walk_at "go"
  rw [← p8]
  (have hop := RepAt.op hS8.t; refine w_methM j8 hop (no_Replica (by decide +kernel) (by decide +kernel) (by decide +kernel) (by decide +kernel) (by decide +kernel) (by decide +kernel) (by decide +kernel) (by decide +kernel) (by decide +kernel) (by decide +kernel) (by decide +kernel) (by decide +kernel) (by decide +kernel) (by decide +kernel) (by decide +kernel) (by decide +kernel) (by decide +kernel) (by decide +kernel) (by decide +kernel) (by decide +kernel) (by decide +kernel)) ?_; clear hop; walk_at "go")
  (have hop := RepAt.op hS8.t; refine w_propM j8 hop ?_; clear hop)
  refine w_sg (a8, r1) j8 ⟨rfl, hS8.t, hO1, by dsimp only; omega⟩ fun v M9 G9 H9 j9 e9 ⟨em, hv⟩ => ?_
  subst em
  obtain ⟨mq, rfl, hmq⟩ := dp_ints hv
  have hS9 := hS8.ex e9
  walk_at "go"
  refine w_sg (α := ExP) ⟨a8, r1, mq, membersR r1⟩ j9 ⟨rfl, hS9.t, .inr hmq, by dsimp only; omega⟩ fun v M10 G10 H10 j10 e10 ⟨ev, a10, hS10⟩ => ?_
  obtain ⟨r2, hr2⟩ : ∃ r2, r2 = expectR r1 (membersR r1) := ⟨_, rfl⟩
  obtain ⟨a10, p10, hS10⟩ := (hS9.then hS10).pack (p := a8.p) hr2 ((hS9.then hS10).f.pe.trans p8.symm)
  have hsz : r2.sz ≤ r1.sz + 2 * (membersR r1).length := by rw [hr2]; exact expect_sz r1 (membersR r1)
  have hO2 : OkR r2 := by rw [hr2]; exact ⟨hO1.b, hO1.e⟩
  have hm2 : membersR r2 = membersR r1 := by rw [hr2]; rfl
  have ht2 : r2.term = r1.term := by rw [hr2]; rfl
  have hb2 : r2.base = some b := by rw [hr2]; exact hb1
  have he2 : r2.ents = r1.ents := by rw [hr2]; rfl
  have ha2 : ∀ m ∈ membersR r1, look r2.ahead m = some (lastI r1 + 1) := fun m hm => by
    rw [hr2]
    show look ((membersR r1).foldl (fun kv m => putI kv m (lastI r1 + 1)) r1.ahead) m = _
    rw [look_fold, if_pos hm]
  walk_at "go"
  rw [← p10]
  (have hop := RepAt.op hS10.t; refine w_methM j10 hop (no_Replica (by decide +kernel) (by decide +kernel) (by decide +kernel) (by decide +kernel) (by decide +kernel) (by decide +kernel) (by decide +kernel) (by decide +kernel) (by decide +kernel) (by decide +kernel) (by decide +kernel) (by decide +kernel) (by decide +kernel) (by decide +kernel) (by decide +kernel) (by decide +kernel) (by decide +kernel) (by decide +kernel) (by decide +kernel) (by decide +kernel) (by decide +kernel)) ?_; clear hop; walk_at "go")
  (have hop := RepAt.op hS10.t; refine w_fldM j10 hop T_Replica.cl T_Replica.n_term fl_Replica_term ?_; clear hop; walk_at "go")
  refine w_new j10 (by show 2 ≤ sizeLine; decide) fun t G11 H11 j11 e11 ht _ => ?_
  have hS11 := hS10.ex e11
  walk_at "go"
  refine w_sg (α := AtP) ⟨a10, r2, .ref t, noneE r2.term⟩ j11 ⟨rfl, hS11.t, .tup (st_of ht) (.cons (.int _) (.cons (.tup (k_NOTHING _) (.cons (.str _) .nil)) .nil)), by dsimp only; omega⟩ fun v M12 G12 H12 j12 e12 ⟨ev, a12, hS12⟩ => ?_
  obtain ⟨r3, hr3⟩ : ∃ r3, r3 = attachR r2 (noneE r2.term) := ⟨_, rfl⟩
  obtain ⟨a12, p12, hS12⟩ := (hS11.then hS12).pack (p := a10.p) hr3 ((hS11.then hS12).f.pe.trans (p10.trans p8).symm)
  have hsz3 : r3.sz = r2.sz + 2 := by
    rw [hr3]
    unfold attachR Rpl.sz
    simp only [List.length_append, List.length_cons, List.length_nil]
    omega
  have hO3 : OkR r3 := by rw [hr3]; exact hO2.attach (OkC.not (isCh_none _))
  have hm3 : membersR r3 = membersR r1 := by rw [hr3, members_attach (isCh_none _), hm2]
  have hb3 : r3.base = some b := by rw [hr3]; exact hb2
  have ha3 : r3.ahead = r2.ahead := by rw [hr3]; rfl
  have he3 : r3.ents.length = r1.ents.length + 1 := by
    rw [hr3]
    show (r2.ents ++ [_]).length = _
    rw [List.length_append, he2]; rfl
  walk_at "go"
  rw [← p12]
  (have hop := RepAt.op hS12.t; refine w_methM j12 hop (no_Replica (by decide +kernel) (by decide +kernel) (by decide +kernel) (by decide +kernel) (by decide +kernel) (by decide +kernel) (by decide +kernel) (by decide +kernel) (by decide +kernel) (by decide +kernel) (by decide +kernel) (by decide +kernel) (by decide +kernel) (by decide +kernel) (by decide +kernel) (by decide +kernel) (by decide +kernel) (by decide +kernel) (by decide +kernel) (by decide +kernel) (by decide +kernel)) ?_; clear hop; walk_at "go")
  refine w_sg (α := NuP) ⟨a12, r3, b⟩ j12 ⟨rfl, hS12.t, hO3, fun _ => ⟨hb3, fun m hm => ?_⟩, by dsimp only; omega⟩ fun v M13 G13 H13 j13 e13 ⟨ev, a13, hS13⟩ => ?_
  · have hm' : m ∈ membersR r1 := by
      have := (List.mem_filter.mp hm).1
      rw [hm3] at this; exact this
    refine ⟨lastI r1 + 1, by dsimp only; rw [ha3]; exact ha2 m hm', ?_⟩
    have e1 : lastI r1 = b.i + r1.ents.length := by unfold lastI; rw [hb1]
    have e2 : lastI r3 = b.i + r3.ents.length := by unfold lastI; rw [hb3]
    dsimp only
    omega
  · walk_at "go"
    refine k _ _ _ _ j13 ((((e9.trans e10).trans e11).trans e12).trans e13) ⟨rfl, a13, ?_⟩
    rw [er, ← ht1, ← hr2, ← ht2, ← hr3]
    exact hS12.then hS13
/-! ### Replica.count_votes -/
abbrev s_Replica_count_votes : Stmt := inClass (top 22) 18
abbrev n_Replica_count_votes : List Str := ["self", "members", "member"]
theorem sc_Replica_count_votes : FnScope n_Replica_count_votes ["self"] (defScope s_Replica_count_votes) := ⟨rfl, rfl, rfl, by decide +kernel, rfl, by decide +kernel, by decide +kernel⟩
def sp_Replica_count_votes (K : PySem.W.Frag) (C CC : Addr) : Sp := Sg (α := TlP) (fun x vs M G => vs = [.ref x.a.p] ∧ RepAt K C CC M G x.a x.r ∧ OkR x.r ∧ x.r.base = some x.b ∧ x.r.sz ≤ 700000) (fun x M _ v M' G' => v = .non ∧ RE K C CC M x.a M' G' (countR x.r))
theorem ok_Replica_count_votes {P : Program} {w : World} {K : PySem.W.Frag} {mg : Str → Option Value} {base : Heap}
    {C_Replica : Addr} (T_Replica : Tx_Replica K mg C_Replica)
    {C_Counter : Addr} (T_Counter : Tx_Counter K mg C_Counter)
    {f : Addr} {fd : FuncData} (D : Dm K C_Replica "count_votes" "Replica.count_votes" s_Replica_count_votes ["self"] f fd)
    (c_is_majority : Cal P w K mg base CX0 1 "is_majority" (sp_is_majority K))
    (c_Replica_take_lead : CalM P w K mg base CX0 8 C_Replica "take_lead" (sp_Replica_take_lead K C_Replica C_Counter))
    (c_Replica_members : CalP P w K mg base CX0 4 C_Replica "members" (sp_Replica_members K C_Replica C_Counter)) : CalM P w K mg base CX0 9 C_Replica "count_votes" (sp_Replica_count_votes K C_Replica C_Counter) := by
  refine D.ok sc_Replica_count_votes (fun vs H Q E h => ?_) fun cdv A outer s H vs Q E hr h => ?_
  · obtain ⟨x, M, G, j, ⟨rfl, _⟩, _⟩ := h; rfl
  obtain ⟨⟨a, r, b⟩, M, G, j, ⟨rfl, hR, hO, hb, hz⟩, k⟩ := h
  dsimp only at hR hO hb hz k
  refine ⟨_, (pss_cons (ps_set (i := 1) sc_Replica_count_votes.nd rfl (Or.inl rfl) (pe_calP c_Replica_members T_Replica.cl hr (by first | decide | omega) (pv 0) (by rfl)))
(pss_one (ps_if (pt_val (pe_cal c_is_majority hr (by first | decide | omega) (by rfl) (pa_cons (pe_lc (own := [("member", 2)]) (by rfl) sc_Replica_count_votes.nd (pi_tup (pv 1)) (blkOk_by (own := [("member", 2)]) (N := n_Replica_count_votes) (sc := defScope s_Replica_count_votes) (by decide +kernel)) (fun _ _ _ _ _ => (pg_name (i := 2) sc_Replica_count_votes.nd rfl (Or.inl rfl))) (fun _ _ _ _ _ => pts_one (pt_cmp (pc_din (hu_of hr) (pv 2) (pe_fldK (K := K) rfl (pv 0) rfl)))) (fun _ _ _ _ _ => (pv 2))) (pa_cons (pv 1) pa_nil))))
(pss_one (ps_expr (pe_calM0 c_Replica_take_lead T_Replica.cl hr (by first | decide | omega) (pv 0))))
pss_nil))), ?_⟩
  have lz : r.ents.length ≤ r.sz := by unfold Rpl.sz; omega
  have lm := membersR_ok hO
  walk_at "start"
  (have hop := RepAt.op hR; refine w_propM j hop ?_; clear hop)
  refine w_sg (a, r) j ⟨rfl, hR, hO, by dsimp only; omega⟩ fun v M1 G1 H1 j1 e1 ⟨em, hv⟩ => ?_
  subst em
  obtain ⟨mq, rfl, hmq⟩ := dp_ints hv
  have hR1 := hR.ex e1
  walk_at "go"
  refine w_lcTro j1 hmq (fun i acc G2 => acc = (((membersR r).take i).filter fun m => decide (m ∈ r.votes)).map V.int) rfl ?_ ?_
  · rintro L i x acc G2 H2 hi nM j2 e2 rfl
    obtain ⟨m, hm, rfl⟩ := map_at hi
    have il : i < (membersR r).length := (List.getElem?_eq_some_iff.mp hm).1
    have hR2 := (hR1.ex e2).plus (o := .lst ((((membersR r).take i).filter fun m => decide (m ∈ r.votes)).map V.int)) nM (fun _ z => nomatch z)
    refine w_gName ⟨rfl, ?_⟩
    walk_at "go"
    (have hop := RepAt.op hR2; refine w_fldM j2 hop T_Replica.cl T_Replica.n_votes fl_Replica_votes ?_; clear hop; walk_at "go")
    refine w_inX j2 (.ofM hR2.o_vo) ?_
    rw [votK_val]
    walk_at "go"
    refine w_dec (fun c => ?_) (fun c => ?_)
    · walk_at "go"
      refine ro_add j2 e2 (by rw [List.length_map]; exact Nat.lt_of_le_of_lt (List.length_filter_le _ _) (by rw [List.length_take]; omega)) ?_
      rw [tk_filter hm, if_pos (decide_eq_true c), List.map_append]; rfl
    · refine ro_skip j2 e2 ?_
      rw [tk_filter hm, if_neg (by simp [c]), List.append_nil]
  · rintro L acc G2 G3 H3 j3 e2 e3 hL rfl
    rw [List.length_map, List.take_length] at hL
    have E3 := (e1.trans e2).trans e3
    have hR3 := hR.ex E3
    walk_at "go"
    refine w_sg (L, mq, _, membersR r) j3 ⟨rfl, sl_of hL, st_mono (e2.trans e3) hmq⟩ fun v M4 G4 H4 j4 e4 ⟨em, ev⟩ => ?_
    subst em ev
    have hR4 := hR3.ex e4
    walk_at "go"
    have er : countR r = if majB ((membersR r).filter fun m => decide (m ∈ r.votes)) (membersR r) = true then leadR r else r := rfl
    cases hm : majB ((membersR r).filter fun m => decide (m ∈ r.votes)) (membersR r) with
    | true =>
      rw [hm, if_pos rfl] at er
      refine w_T ?_
      walk_at "go"
      (have hop := RepAt.op hR4; refine w_methM j4 hop (no_Replica (by decide +kernel) (by decide +kernel) (by decide +kernel) (by decide +kernel) (by decide +kernel) (by decide +kernel) (by decide +kernel) (by decide +kernel) (by decide +kernel) (by decide +kernel) (by decide +kernel) (by decide +kernel) (by decide +kernel) (by decide +kernel) (by decide +kernel) (by decide +kernel) (by decide +kernel) (by decide +kernel) (by decide +kernel) (by decide +kernel) (by decide +kernel)) ?_; clear hop; walk_at "go")
      refine w_sg (α := TlP) ⟨a, r, b⟩ j4 ⟨rfl, hR4, hO, hb, hz⟩ fun v M5 G5 H5 j5 e5 ⟨ev, a5, hS5⟩ => ?_
      walk_at "go"
      rw [er] at k
      exact k _ _ _ _ j5 ((E3.trans e4).trans e5) ⟨rfl, a5, hS5⟩
    | false =>
      rw [hm, if_neg Bool.false_ne_true] at er
      refine w_F ?_
      walk_at "go"
      rw [er] at k
      exact k _ _ _ _ j4 (E3.trans e4) ⟨rfl, a, hR4.s⟩
/-! ### Replica.take_vote -/
abbrev s_Replica_take_vote : Stmt := inClass (top 22) 33
abbrev n_Replica_take_vote : List Str := ["self", "sender", "granted"]
theorem sc_Replica_take_vote : FnScope n_Replica_take_vote ["self", "sender", "granted"] (defScope s_Replica_take_vote) := ⟨rfl, rfl, rfl, by decide +kernel, rfl, by decide +kernel, by decide +kernel⟩
structure TvP where
  a : RepA
  r : Rpl
  s : Int
  g : Bool
  b : RB
def takeVote (r : Rpl) (s : Int) (g : Bool) : Rpl := if r.role = "candidate" ∧ g = true then countR { r with votes := putV r.votes s } else r
def sp_Replica_take_vote (K : PySem.W.Frag) (C CC : Addr) : Sp := Sg (α := TvP) (fun x vs M G => vs = [.ref x.a.p, .int x.s, .bl x.g] ∧ RepAt K C CC M G x.a x.r ∧ OkR x.r ∧ (x.r.role = "candidate" → x.r.base = some x.b) ∧ x.r.sz ≤ 600000) (fun x M _ v M' G' => v = .non ∧ RE K C CC M x.a M' G' (takeVote x.r x.s x.g))
theorem ok_Replica_take_vote {P : Program} {w : World} {K : PySem.W.Frag} {mg : Str → Option Value} {base : Heap}
    {C_Replica : Addr} (T_Replica : Tx_Replica K mg C_Replica)
    {C_Counter : Addr} (T_Counter : Tx_Counter K mg C_Counter)
    {f : Addr} {fd : FuncData} (D : Dm K C_Replica "take_vote" "Replica.take_vote" s_Replica_take_vote ["self", "sender", "granted"] f fd)
    (g_CANDIDATE : ∃ u, mg "CANDIDATE" = some u ∧ RelV (.str "candidate") u)
    (c_Replica_count_votes : CalM P w K mg base CX0 9 C_Replica "count_votes" (sp_Replica_count_votes K C_Replica C_Counter)) : CalM P w K mg base CX0 10 C_Replica "take_vote" (sp_Replica_take_vote K C_Replica C_Counter) := by
  refine D.ok sc_Replica_take_vote (fun vs H Q E h => ?_) fun cdv A outer s H vs Q E hr h => ?_
  · obtain ⟨x, M, G, j, ⟨rfl, _⟩, _⟩ := h; rfl
  obtain ⟨⟨a, r, s, g, b⟩, M, G, j, ⟨rfl, hR, hO, hb, hz⟩, k⟩ := h
  dsimp only at hR hO hb hz k
  refine ⟨_, (pss_one (ps_if (PW.pt (pw_and (pt_cmpR (op_uEqK (K := K) rfl hr) (pe_fld (pv 0) rfl) (pe_gk (by rfl) g_CANDIDATE) (nomark _)) (pw_and1 (pt_val (pv 2)))))
(pss_cons (ps_dput (hu_of hr) (pe_fld (pv 0) rfl) (pv 1) pe_bl rfl)
(pss_one (ps_expr (pe_calM0 c_Replica_count_votes T_Replica.cl hr (by first | decide | omega) (pv 0)))))
pss_nil)), ?_⟩
  have lz : r.votes.length ≤ r.sz := by unfold Rpl.sz; omega
  walk_at "start"
  (have hop := RepAt.op hR; refine w_fldM j hop T_Replica.cl T_Replica.n_role fl_Replica_role ?_; clear hop; walk_at "go")
  refine w_eqS (k := decide (r.role = "candidate")) rfl ?_
  walk_at "go"
  have stay : ¬ (r.role = "candidate" ∧ g = true) → Q .non H := fun z => k _ _ _ _ j (Same.refl G) ⟨rfl, a, by unfold takeVote; rw [if_neg z]; exact hR.s⟩
  refine w_dec (fun c => ?_) (fun c => ?_)
  rotate_left
  · walk_at "go"
    exact stay fun z => c z.1
  walk_at "go"
  cases g with
  | false =>
    walk_at "go"
    exact stay fun z => nomatch z.2
  | true =>
    walk_at "go"
    (have hop := RepAt.op hR; refine w_fldM j hop T_Replica.cl T_Replica.n_votes fl_Replica_votes ?_; clear hop; walk_at "go")
    refine w_putX j hR.o_vo (by unfold votK; rw [List.length_map]; omega) fun H1 j1 => ?_
    have hS1 := hR.s.p_vo s
    walk_at "go"
    (have hop := RepAt.op hS1.t; refine w_methM j1 hop (no_Replica (by decide +kernel) (by decide +kernel) (by decide +kernel) (by decide +kernel) (by decide +kernel) (by decide +kernel) (by decide +kernel) (by decide +kernel) (by decide +kernel) (by decide +kernel) (by decide +kernel) (by decide +kernel) (by decide +kernel) (by decide +kernel) (by decide +kernel) (by decide +kernel) (by decide +kernel) (by decide +kernel) (by decide +kernel) (by decide +kernel) (by decide +kernel)) ?_; clear hop; walk_at "go")
    have lv : (putV r.votes s).length ≤ r.votes.length + 1 := by
      unfold putV
      split
      · omega
      · rw [List.length_append]; exact Nat.le_refl _
    refine w_sg (α := TlP) ⟨a, { r with votes := putV r.votes s }, b⟩ j1 ⟨rfl, hS1.t, ⟨hO.b, hO.e⟩, hb c, ?_⟩ fun v M2 G2 H2 j2 e2 ⟨ev, a2, hS2⟩ => ?_
    · unfold Rpl.sz at hz ⊢
      dsimp only
      omega
    · walk_at "go"
      refine k _ _ _ _ j2 e2 ⟨rfl, a2, ?_⟩
      unfold takeVote
      rw [if_pos ⟨c, rfl⟩]
      exact hS1.then hS2
/-! ### Replica.follow -/
abbrev s_Replica_follow : Stmt := inClass (top 22) 34
abbrev n_Replica_follow : List Str := ["self", "sender"]
theorem sc_Replica_follow : FnScope n_Replica_follow ["self", "sender"] (defScope s_Replica_follow) := ⟨rfl, rfl, rfl, by decide +kernel, rfl, by decide +kernel, by decide +kernel⟩
structure FoP where
  a : RepA
  r : Rpl
  s : Int
def sp_Replica_follow (K : PySem.W.Frag) (C CC : Addr) : Sp := Sg (α := FoP) (fun x vs M G => vs = [.ref x.a.p, .int x.s] ∧ RepAt K C CC M G x.a x.r) (fun x M _ v M' G' => v = .non ∧ RE K C CC M x.a M' G' (followR x.r x.s))
theorem ok_Replica_follow {P : Program} {w : World} {K : PySem.W.Frag} {mg : Str → Option Value} {base : Heap}
    {C_Replica : Addr} (T_Replica : Tx_Replica K mg C_Replica)
    {C_Counter : Addr} (T_Counter : Tx_Counter K mg C_Counter)
    {f : Addr} {fd : FuncData} (D : Dm K C_Replica "follow" "Replica.follow" s_Replica_follow ["self", "sender"] f fd)
    (g_FOLLOWER : ∃ u, mg "FOLLOWER" = some u ∧ RelV (.str "follower") u) : CalM P w K mg base CX0 1 C_Replica "follow" (sp_Replica_follow K C_Replica C_Counter) := by
  refine D.ok sc_Replica_follow (fun vs H Q E h => ?_) fun cdv A outer s H vs Q E hr h => ?_
  · obtain ⟨x, M, G, j, ⟨rfl, _⟩, _⟩ := h; rfl
  obtain ⟨⟨a, r, s⟩, M, G, j, ⟨rfl, hR⟩, k⟩ := h
  dsimp only at hR k
  refine ⟨_, (pss_cons (ps_fld (pv 0) (pe_gk (by rfl) g_FOLLOWER) rfl)
(pss_one (ps_fld (pv 0) (pv 1) rfl))), ?_⟩
  walk_at "start"
  (have hop := hR.op; refine w_setX j hop T_Replica.cl T_Replica.n_role (by show 21 < 1000; decide) fun H1 j1 => ?_; clear hop; rw [sf_Replica_role] at j1)
  have hS1 := hR.s.f_role "follower"
  walk_at "go"
  (have hop := hS1.t.op; refine w_setX j1 hop T_Replica.cl T_Replica.n_leader (by show 21 < 1000; decide) fun H2 j2 => ?_; clear hop; rw [sf_Replica_leader] at j2)
  have hS2 := hS1.f_leader (some s)
  exact k _ _ _ _ j2 (Same.refl G) ⟨rfl, a, hS2⟩
/-! ### Replica.got -/
abbrev s_Replica_got : Stmt := inClass (top 22) 35
abbrev n_Replica_got : List Str := ["self", "good", "index"]
theorem sc_Replica_got : FnScope n_Replica_got ["self", "good", "index"] (defScope s_Replica_got) := ⟨rfl, rfl, rfl, by decide +kernel, rfl, by decide +kernel, by decide +kernel⟩
structure GtP where
  a : RepA
  r : Rpl
  g : Bool
  i : Int
def sp_Replica_got (K : PySem.W.Frag) (C CC : Addr) : Sp := Sg (α := GtP) (fun x vs M G => vs = [.ref x.a.p, .bl x.g, .int x.i] ∧ RepAt K C CC M G x.a x.r ∧ x.r.sz ≤ 900000) (fun x M _ v M' G' => v = .non ∧ RE K C CC M x.a M' G' (gotTo x.r x.g x.i))
theorem ok_Replica_got {P : Program} {w : World} {K : PySem.W.Frag} {mg : Str → Option Value} {base : Heap}
    {C_Replica : Addr} (T_Replica : Tx_Replica K mg C_Replica)
    {C_Counter : Addr} (T_Counter : Tx_Counter K mg C_Counter)
    {f : Addr} {fd : FuncData} (D : Dm K C_Replica "got" "Replica.got" s_Replica_got ["self", "good", "index"] f fd) : CalM P w K mg base CX0 1 C_Replica "got" (sp_Replica_got K C_Replica C_Counter) := by
  refine D.ok sc_Replica_got (fun vs H Q E h => ?_) fun cdv A outer s H vs Q E hr h => ?_
  · obtain ⟨x, M, G, j, ⟨rfl, _⟩, _⟩ := h; rfl
  obtain ⟨⟨a, r, g, i⟩, M, G, j, ⟨rfl, hR, hz⟩, k⟩ := h
  dsimp only at hR hz k
  refine ⟨_, (pss_one (ps_expr (pe_bm PySem.F.plainAttrs_list PySem.F.slot_list_append PySem.F.type_list_append mt_append (pe_fld (pv 0) rfl) (pa_cons (pe_tup (pa_cons (pe_fld (pv 0) rfl) (pa_cons (pe_tup (pa_cons pe_str (pa_cons (pe_fld (pv 0) rfl) (pa_cons (pe_fld (pv 0) rfl) (pa_cons (pv 1) (pa_cons (pv 2) pa_nil)))))) pa_nil))) pa_nil)))), ?_⟩
  have ll := dpAll_len hR.d.lt
  have lz : r.letters.length ≤ r.sz := by unfold Rpl.sz; omega
  walk_at "start"
  (have hop := RepAt.op hR; refine w_fldM j hop T_Replica.cl T_Replica.n_letters fl_Replica_letters ?_; clear hop; walk_at "go")
  refine ⟨ty_listM j hR.o_lt, ?_⟩
  walk_at "go"
  (have hop := RepAt.op hR; refine w_fldM j hop T_Replica.cl T_Replica.n_leader fl_Replica_leader ?_; clear hop; walk_at "go")
  (have hop := RepAt.op hR; refine w_fldM j hop T_Replica.cl T_Replica.n_group fl_Replica_group ?_; clear hop; walk_at "go")
  (have hop := RepAt.op hR; refine w_fldM j hop T_Replica.cl T_Replica.n_term fl_Replica_term ?_; clear hop; walk_at "go")
  refine w_new j (by show 5 ≤ sizeLine; decide) fun t1 G1 H1 j1 e1 ht1 _ => ?_
  walk_at "go"
  refine w_new j1 (by show 2 ≤ sizeLine; decide) fun t2 G2 H2 j2 e2 ht2 _ => ?_
  have hR2 := (hR.ex e1).ex e2
  walk_at "go"
  refine w_appendA j2 hR2.o_lt (by omega) fun H3 j3 => ?_
  exact k _ _ _ _ j3 (e1.trans e2) ⟨rfl, _, hR2.s.a_lt (.tup (st_of ht2) (.cons (dp_oI r.leader) (.cons (.tup (st_of (e2 _ _ ht1)) (.cons (.str _) (.cons (.int _) (.cons (.int _) (.cons (.bl _) (.cons (.int _) .nil)))))) .nil)))⟩
/-! ### Counter.run -/
abbrev s_Counter_run : Stmt := inClass (top 2) 1
abbrev n_Counter_run : List Str := ["self", "command"]
theorem sc_Counter_run : FnScope n_Counter_run ["self", "command"] (defScope s_Counter_run) := ⟨rfl, rfl, rfl, by decide +kernel, rfl, by decide +kernel, by decide +kernel⟩
/-- what a command gives, and the last time behind it -/
def cntR (n : Int) (z : Str) (ys : List V) : List V × Int := if ys.length = 0 then (if z = "next" then ([.str "time", .int (n + 1)], n + 1) else if z = "none" then ([.str "none"], n) else ([.str "unknown"], n)) else ([.str "unknown"], n)
def sp_Counter_run (K : PySem.W.Frag) (C : Addr) : Sp := Sg (α := Addr × Addr × Int × Addr × Str × List V) (fun x vs M G => vs = [.ref x.1, .ref x.2.2.2.1] ∧ M x.1 = some (.ins C x.2.1 (fl_Counter (.int x.2.2.1))) ∧ SqT K G x.2.2.2.1 (.str x.2.2.2.2.1 :: x.2.2.2.2.2))
  (fun x M _ v M' G' => (∃ t, v = .ref t ∧ G' t = some (.tup (cntR x.2.2.1 x.2.2.2.2.1 x.2.2.2.2.2).1)) ∧ M' = upd M x.1 (.ins C x.2.1 (fl_Counter (.int (cntR x.2.2.1 x.2.2.2.2.1 x.2.2.2.2.2).2))))
theorem ok_Counter_run {P : Program} {w : World} {K : PySem.W.Frag} {mg : Str → Option Value} {base : Heap}
    {C_Counter : Addr} (T_Counter : Tx_Counter K mg C_Counter)
    {f : Addr} {fd : FuncData} (D : Dm K C_Counter "run" "Counter.run" s_Counter_run ["self", "command"] f fd) : CalM P w K mg base CX0 1 C_Counter "run" (sp_Counter_run K C_Counter) := by
  refine D.ok sc_Counter_run (fun vs H Q E h => ?_) fun cdv A outer s H vs Q E hr h => ?_
  · obtain ⟨x, M, G, j, ⟨rfl, _⟩, _⟩ := h; rfl
  obtain ⟨⟨p, dx, n, a, z, ys⟩, M, G, j, ⟨rfl, hp, ha⟩, k⟩ := h
  dsimp only at hp ha k
  have same : upd M p (.ins C_Counter dx (fl_Counter (.int n))) = M := upd_self hp
  refine ⟨_, (pss_one (ps_match (pv 1)
(pcs_seq rfl sc_Counter_run.nd (pms_txt pms_nil)
(pss_cons (ps_fldaug (pv 0) pe_int in_add)
(pss_one (ps_ret (pe_tup (pa_cons pe_str (pa_cons (pe_fld (pv 0) rfl) pa_nil))))))
(pcs_seq rfl sc_Counter_run.nd (pms_txt pms_nil)
(pss_one (ps_ret (pe_tup (pa_cons pe_str pa_nil))))
(pcs_any
(pss_one (ps_ret (pe_tup (pa_cons pe_str pa_nil))))))))), ?_⟩
  walk_at "start"
  refine w_caseS j ha rfl (fun e l => ?_) fun n1 => ?_
  · have l : ys.length = 0 := l
    have er : cntR n z ys = ([.str "time", .int (n + 1)], n + 1) := by unfold cntR; rw [if_pos l, if_pos e]
    rw [er] at k
    walk_at "go"
    refine w_augK j hp T_Counter.cl T_Counter.n_last fl_Counter_last (by show 1 < 1000; decide) fun R hR => ?_
    walk_at "go"
    refine hR _ _ ⟨1, M, G, rfl, j, hp, fun H1 j1 => ?_⟩
    rw [sf_Counter_last] at j1
    walk_at "go"
    refine w_fldM j1 upd_same T_Counter.cl T_Counter.n_last fl_Counter_last ?_
    walk_at "go"
    refine w_new j1 (by show 2 ≤ sizeLine; decide) fun t G2 H2 j2 e2 ht _ => ?_
    exact k _ _ _ _ j2 e2 ⟨⟨t, rfl, ht⟩, rfl⟩
  refine w_caseS j ha rfl (fun e l => ?_) fun n2 => ?_
  · have l : ys.length = 0 := l
    have er : cntR n z ys = ([.str "none"], n) := by unfold cntR; rw [if_pos l, if_neg fun q => n1 ⟨q, l⟩, if_pos e]
    rw [er, same] at k
    walk_at "go"
    refine w_new j (by show 1 ≤ sizeLine; decide) fun t G2 H2 j2 e2 ht _ => ?_
    exact k _ _ _ _ j2 e2 ⟨⟨t, rfl, ht⟩, rfl⟩
  · have er : cntR n z ys = ([.str "unknown"], n) := by
      unfold cntR
      by_cases l : ys.length = 0
      · rw [if_pos l, if_neg fun q => n1 ⟨q, l⟩, if_neg fun q => n2 ⟨q, l⟩]
      · rw [if_neg l]
    rw [er, same] at k
    refine w_caseA ?_
    walk_at "go"
    refine w_new j (by show 1 ≤ sizeLine; decide) fun t G2 H2 j2 e2 ht _ => ?_
    exact k _ _ _ _ j2 e2 ⟨⟨t, rfl, ht⟩, rfl⟩
/-! ### Replica.apply -/
abbrev s_Replica_apply : Stmt := inClass (top 22) 29
abbrev n_Replica_apply : List Str := ["self", "index", "command", "answer", "base"]
theorem sc_Replica_apply : FnScope n_Replica_apply ["self", "index"] (defScope s_Replica_apply) := ⟨rfl, rfl, rfl, by decide +kernel, rfl, by decide +kernel, by decide +kernel⟩
structure ApP where
  a : RepA
  r : Rpl
  b : RB
  k : Nat
  e : RN
  n : Int
def sp_Replica_apply (K : PySem.W.Frag) (C CC : Addr) : Sp := Sg (α := ApP) (fun x vs M G => vs = [.ref x.a.p, .int (x.r.ap + 1)] ∧ RepAt K C CC M G x.a x.r ∧ x.r.base = some x.b ∧ x.r.ap = x.b.i + x.k ∧ x.r.ents[x.k]? = some x.e ∧ x.r.st = some (.cnt x.n) ∧ x.r.sz ≤ 900000) (fun x M _ v M' G' => v = .non ∧ RE K C CC M x.a M' G' (applyR x.r))
theorem dp_cntR {K : PySem.W.Frag} {G : Hp} {n : Int} {c : RC} {ys : List V} {t : Addr} (hy : ys.length = c.ds.length) (ht : G t = some (.tup (cntR n c.w ys).1)) : Dp K G (.ref t) (runS n c).1 ∧ (cntR n c.w ys).2 = (runS n c).2 ∧ ∃ w r, (cntR n c.w ys).1 = .str w :: r ∧ w ≠ "split" := by
  unfold cntR at ht ⊢
  unfold runS
  rw [hy] at ht ⊢
  by_cases h1 : c.ds.length = 0
  · rw [if_pos h1] at ht ⊢
    rw [if_pos h1]
    by_cases h2 : c.w = "next"
    · rw [if_pos h2] at ht ⊢
      rw [if_pos h2]
      exact ⟨.tup (st_of ht) (.cons (.str _) (.cons (.int _) .nil)), rfl, _, _, rfl, by decide +kernel⟩
    · rw [if_neg h2] at ht ⊢
      rw [if_neg h2]
      by_cases h3 : c.w = "none"
      · rw [if_pos h3] at ht ⊢
        rw [if_pos h3]
        exact ⟨.tup (st_of ht) (.cons (.str _) .nil), rfl, _, _, rfl, by decide +kernel⟩
      · rw [if_neg h3] at ht ⊢
        rw [if_neg h3]
        exact ⟨.tup (st_of ht) (.cons (.str _) .nil), rfl, _, _, rfl, by decide +kernel⟩
  · rw [if_neg h1] at ht ⊢
    rw [if_neg h1]
    exact ⟨.tup (st_of ht) (.cons (.str _) .nil), rfl, _, _, rfl, by decide +kernel⟩
theorem ok_Replica_apply {P : Program} {w : World} {K : PySem.W.Frag} {mg : Str → Option Value} {base : Heap}
    {C_Replica : Addr} (T_Replica : Tx_Replica K mg C_Replica)
    {C_Counter : Addr} (T_Counter : Tx_Counter K mg C_Counter)
    {f : Addr} {fd : FuncData} (D : Dm K C_Replica "apply" "Replica.apply" s_Replica_apply ["self", "index"] f fd)
    (g_LEADER : ∃ u, mg "LEADER" = some u ∧ RelV (.str "leader") u)
    {a_NOTHING : Addr} (g_NOTHING : ∃ u, mg "NOTHING" = some u ∧ RelV (.ref a_NOTHING) u) (k_NOTHING : ∀ H, SqT K H a_NOTHING [V.str "none"])
    (c_Counter_run : CalM P w K mg base CX0 1 C_Counter "run" (sp_Counter_run K C_Counter))
    (c_is_change : Cal P w K mg base CX0 1 "is_change" (sp_is_change K))
    (c_Replica_entry_at : CalM P w K mg base CX0 1 C_Replica "entry_at" (sp_Replica_entry_at K C_Replica C_Counter)) : CalM P w K mg base CX0 2 C_Replica "apply" (sp_Replica_apply K C_Replica C_Counter) := by
  refine D.ok sc_Replica_apply (fun vs H Q E h => ?_) fun cdv A outer s H vs Q E hr h => ?_
  · obtain ⟨x, M, G, j, ⟨rfl, _⟩, _⟩ := h; rfl
  obtain ⟨⟨a, r, b, kk, e, n⟩, M, G, j, ⟨rfl, hR, hb, hk, he, hs, hz⟩, k⟩ := h
  dsimp only at hR hb hk he hs hz k
  refine ⟨_, (pss_cons (ps_set (i := 2) sc_Replica_apply.nd rfl (Or.inl rfl) (pe_ix (ix_uK (K := K) rfl) (pe_calM c_Replica_entry_at T_Replica.cl hr (by first | decide | omega) (pv 0) (pa_cons (pv 1) pa_nil)) pe_int (fun _ _ => rfl)))
(pss_cons (ps_set (i := 3) sc_Replica_apply.nd rfl (Or.inl rfl) (pe_calM c_Counter_run T_Counter.cl hr (by first | decide | omega) (pe_fld (pv 0) rfl) (pa_cons (pe_ifExp (pt_val (pe_cal c_is_change hr (by first | decide | omega) (by rfl) (pa_cons (pv 2) pa_nil))) (pe_gk (by rfl) g_NOTHING) (pv 2)) pa_nil)))
(pss_cons (ps_fld (pv 0) (pv 1) rfl)
(pss_cons (ps_expr (pe_bm PySem.F.plainAttrs_list PySem.F.slot_list_append PySem.F.type_list_append mt_append (pe_fld (pv 0) rfl) (pa_cons (pe_tup (pa_cons (pv 1) (pa_cons (pv 2) pa_nil))) pa_nil)))
(pss_cons (ps_if (PW.pt (pw_and (pt_cmpR (op_uEqK (K := K) rfl hr) (pe_fld (pv 0) rfl) (pe_gk (by rfl) g_LEADER) (nomark _)) (pw_and1 (pt_cmp (pc_din (hu_of hr) (pv 1) (pe_fld (pv 0) rfl))))))
(pss_one (ps_expr (pe_bm PySem.F.plainAttrs_list PySem.F.slot_list_append PySem.F.type_list_append mt_append (pe_fld (pv 0) rfl) (pa_cons (pe_tup (pa_cons (pe_dget (hu_of hr) (pe_fld (pv 0) rfl) (pv 1) (fun _ _ => rfl)) (pa_cons (pv 3) pa_nil))) pa_nil))))
pss_nil)
(pss_one (ps_if (pt_cmpR (op_uEqK (K := K) rfl hr) (pe_ix (ix_uK (K := K) rfl) (pv 3) pe_int (fun _ _ => rfl)) pe_str (nomark _))
(pss_cons ps_no
(pss_one ps_no))
pss_nil))))))), ?_⟩
  have er := applyR_at hb hk he hs
  unfold Rpl.sz at hz
  have ll := dpAll_len hR.d.le
  have la := dpAll_len hR.d.an
  walk_at "start"
  (have hop := RepAt.op hR; refine w_methM j hop (no_Replica (by decide +kernel) (by decide +kernel) (by decide +kernel) (by decide +kernel) (by decide +kernel) (by decide +kernel) (by decide +kernel) (by decide +kernel) (by decide +kernel) (by decide +kernel) (by decide +kernel) (by decide +kernel) (by decide +kernel) (by decide +kernel) (by decide +kernel) (by decide +kernel) (by decide +kernel) (by decide +kernel) (by decide +kernel) (by decide +kernel) (by decide +kernel)) ?_; clear hop; walk_at "go")
  refine w_sg (α := EaP) ⟨a, r, r.ap + 1, b, kk, e⟩ j ⟨rfl, hR, hb, by dsimp only; omega, he⟩ fun v M1 G1 H1 j1 e1 ⟨em, hv⟩ => ?_
  subst em
  have hR1 := hR.ex e1
  obtain ⟨ea, cv, rfl, hea, hcv⟩ := dp_rn hv
  refine w_ixT j1 hea (atI_nat (j := 1) rfl) ?_
  walk_at "go"
  (have hop := RepAt.op hR1; refine w_fldM j1 hop T_Replica.cl T_Replica.n_state fl_Replica_state ?_; clear hop; walk_at "go")
  obtain ⟨s, dx, q1, q2, q3, q4⟩ := hR1.o_st hs
  rw [q3]
  refine w_methM j1 q4 (no_Counter (by decide +kernel)) ?_
  walk_at "go"
  refine w_sg (cv, e.c) j1 ⟨rfl, hcv⟩ fun v M2 G2 H2 j2 e2 ⟨ev, em⟩ => ?_
  have ev : v = .bl (isCh e.c) := ev
  subst ev em
  have hR2 := hR1.ex e2
  walk_at "go"
  obtain ⟨ca, xs, hcv2, hcv3, hca, hxs⟩ : ∃ ca xs, (isCh e.c = true → ca = a_NOTHING) ∧ (isCh e.c = false → cv = .ref ca) ∧ SqT K G2 ca (.str (asRun e.c).w :: xs) ∧ DpAll K G2 xs (asRun e.c).ds := by
    unfold asRun
    cases hc : isCh e.c with
    | true => exact ⟨a_NOTHING, [], fun _ => rfl, (fun z => nomatch z), k_NOTHING _, .nil⟩
    | false =>
      obtain ⟨ca, xs, h1, h2, h3⟩ := dp_rc (dp_mono e2 hcv)
      exact ⟨ca, xs, (fun z => nomatch z), fun _ => h1, h2, h3⟩
  refine w_ifv (.ref ca) (fun c Q q => by rw [hcv2 c] at q; exact w_c q) (fun c Q q => w_var (by rw [← hcv3 c]; rfl) q) ?_
  walk_at "go"
  refine w_sg (s, dx, n, ca, (asRun e.c).w, xs) j2 ⟨rfl, q4, hca⟩ fun v M3 G3 H3 j3 e3 ⟨⟨t, ev, ht⟩, em⟩ => ?_
  dsimp only at ht em
  subst ev
  obtain ⟨hans, hst, ww, wr, hww, hns⟩ := dp_cntR (c := asRun e.c) (dpAll_len hxs) ht
  rw [hst] at em
  rw [hww] at ht
  have hS3 := (hR2.s.ex e3).f_st (n' := (runS n (asRun e.c)).2) q1 q2 q3
  rw [← em] at hS3
  clear em
  walk_at "go"
  (have hop := hS3.t.op; refine w_setX j3 hop T_Replica.cl T_Replica.n_applied (by show 21 < 1000; decide) fun H4 j4 => ?_; clear hop; rw [sf_Replica_applied] at j4)
  have hS4 := hS3.f_ap (r.ap + 1)
  walk_at "go"
  (have hop := RepAt.op hS4.t; refine w_fldM j4 hop T_Replica.cl T_Replica.n_ledger fl_Replica_ledger ?_; clear hop; walk_at "go")
  refine ⟨ty_listM j4 hS4.t.o_le, ?_⟩
  walk_at "go"
  refine w_new j4 (by show 2 ≤ sizeLine; decide) fun t5 G5 H5 j5 e5 ht5 _ => ?_
  have hS5 := hS4.ex e5
  walk_at "go"
  refine w_appendA j5 hS5.t.o_le (by first | omega | (dsimp only; omega)) fun H6 j6 => ?_
  have hS6 := hS5.a_le (.tup (st_of ht5) (.cons (.int (r.ap + 1)) (.cons (dp_mono ((e2.trans e3).trans e5) hcv) .nil)))
  obtain ⟨r6, hr6⟩ : ∃ r6 : Rpl, r6 = { r with st := some (.cnt (runS n (asRun e.c)).2), ap := r.ap + 1, ledger := r.ledger ++ [PyData.tuple [.int (r.ap + 1), rcD e.c]] } := ⟨_, rfl⟩
  obtain ⟨a6, p6, hS6⟩ := hS6.pack (p := a.p) hr6 rfl
  have e16 := ((e1.trans e2).trans e3).trans e5
  have hans6 := dp_mono e5 hans
  have ht6 := e5 _ _ ht
  have la6 := dpAll_len hS6.t.d.an
  have hro : r6.role = r.role := by rw [hr6]
  have han : r6.answers = r.answers := by rw [hr6]
  have htk : r6.tokens = r.tokens := by rw [hr6]
  -- the answer is noted
  rw [← p6]
  walk_at "to"
  refine w_seqO (fun σ H => ∃ M7 G7 a7, J M7 G7 H ∧ Ex G5 G7 ∧ RepS K C_Replica C_Counter M2 a M7 G7 a7 { r6 with answers := ansR r (r.ap + 1) (runS n (asRun e.c)).1 } ∧ σ = [some (.ref a6.p), some (.int (r.ap + 1)), some cv, some (.ref t), none]) ?_ fun Nn hN => ?_
  · rintro σ H ⟨M7, G7, a7, j7, e7, hS7, rfl⟩
    walk_at "go"
    refine w_ixT j7 (st_of (e7 _ _ ht6)) atI_0 ?_
    walk_at "go"
    refine w_eqS (k := false) (decide_eq_false hns) ?_
    walk_at "go"
    refine k _ _ _ _ j7 (e16.trans e7) ⟨rfl, a7, ?_⟩
    rw [er]
    rw [hr6] at hS7
    exact hS7
  · walk_at "go"
    (have hop := RepAt.op hS6.t; refine w_fldM j6 hop T_Replica.cl T_Replica.n_role fl_Replica_role ?_; clear hop; walk_at "go")
    refine w_eqS (k := decide (r6.role = "leader")) rfl ?_
    walk_at "go"
    refine w_dec (fun c => ?_) (fun c => ?_)
    rotate_left
    · walk_at "go"
      refine hN _ _ ⟨_, G5, a6, j6, Same.refl _, ?_, rfl⟩
      have : ansR r (r.ap + 1) (runS n (asRun e.c)).1 = r6.answers := by unfold ansR; rw [if_neg (hro ▸ c), han]
      rw [this]
      exact hS6
    walk_at "go"
    (have hop := RepAt.op hS6.t; refine w_fldM j6 hop T_Replica.cl T_Replica.n_tokens fl_Replica_tokens ?_; clear hop; walk_at "go")
    have c' : r.role = "leader" := hro ▸ c
    rcases keyI_get hS6.t.d.tq (r.ap + 1) with ⟨g1, g2⟩ | ⟨d, tv, g1, g2, g3⟩
    · refine w_inX j6 (.ofM hS6.t.o_tq) ?_
      rw [g2]
      walk_at "go"
      refine w_F ?_
      walk_at "go"
      refine hN _ _ ⟨_, G5, a6, j6, Same.refl _, ?_, rfl⟩
      rw [htk] at g1
      have : ansR r (r.ap + 1) (runS n (asRun e.c)).1 = r6.answers := by unfold ansR; rw [if_pos c', g1, han]
      rw [this]
      exact hS6
    · refine w_inX j6 (.ofM hS6.t.o_tq) ?_
      rw [g2]
      walk_at "go"
      refine w_T ?_
      walk_at "go"
      (have hop := RepAt.op hS6.t; refine w_fldM j6 hop T_Replica.cl T_Replica.n_answers fl_Replica_answers ?_; clear hop; walk_at "go")
      refine ⟨ty_listM j6 hS6.t.o_an, ?_⟩
      walk_at "go"
      (have hop := RepAt.op hS6.t; refine w_fldM j6 hop T_Replica.cl T_Replica.n_tokens fl_Replica_tokens ?_; clear hop; walk_at "go")
      refine w_getX j6 (.ofM hS6.t.o_tq) g2 ?_
      walk_at "go"
      refine w_new j6 (by show 2 ≤ sizeLine; decide) fun t7 G7 H7 j7 e7 ht7 _ => ?_
      have hS7 := hS6.ex e7
      walk_at "go"
      refine w_appendA j7 hS7.t.o_an (by rw [la6, han]; omega) fun H8 j8 => ?_
      rw [htk] at g1
      have eqa : ansR r (r.ap + 1) (runS n (asRun e.c)).1 = r6.answers ++ [PyData.tuple [d, (runS n (asRun e.c)).1]] := by unfold ansR; rw [if_pos c', g1, han]
      obtain ⟨a8, p8, hS8⟩ := (hS7.a_an (.tup (st_of ht7) (.cons (dp_mono e7 g3) (.cons (dp_mono e7 hans6) .nil)))).pack (r' := { r6 with answers := ansR r (r.ap + 1) (runS n (asRun e.c)).1 }) (p := a6.p) (by rw [eqa]) rfl
      exact hN _ _ ⟨_, G7, a8, j8, e7, hS8, rfl⟩
/-! ### Replica.commit -/
abbrev s_Replica_commit : Stmt := inClass (top 22) 28
abbrev n_Replica_commit : List Str := ["self", "index"]
theorem sc_Replica_commit : FnScope n_Replica_commit ["self", "index"] (defScope s_Replica_commit) := ⟨rfl, rfl, rfl, by decide +kernel, rfl, by decide +kernel, by decide +kernel⟩
structure CoP where
  a : RepA
  r : Rpl
  i : Int
  b : RB
def sp_Replica_commit (K : PySem.W.Frag) (C CC : Addr) : Sp := Sg (α := CoP) (fun x vs M G => vs = [.ref x.a.p, .int x.i] ∧ RepAt K C CC M G x.a x.r ∧ x.r.base = some x.b ∧ x.b.i ≤ x.r.ap ∧ x.i ≤ x.b.i + x.r.ents.length ∧ x.r.cm ≤ x.b.i + x.r.ents.length ∧ (∃ n, x.r.st = some (.cnt n)) ∧ x.r.sz ≤ 200000) (fun x M _ v M' G' => v = .non ∧ RE K C CC M x.a M' G' (commitR x.r x.i))
theorem ok_Replica_commit {P : Program} {w : World} {K : PySem.W.Frag} {mg : Str → Option Value} {base : Heap}
    {C_Replica : Addr} (T_Replica : Tx_Replica K mg C_Replica)
    {C_Counter : Addr} (T_Counter : Tx_Counter K mg C_Counter)
    {f : Addr} {fd : FuncData} (D : Dm K C_Replica "commit" "Replica.commit" s_Replica_commit ["self", "index"] f fd)
    (b_max : mg "max" = none)
    (c_Replica_apply : CalM P w K mg base CX0 2 C_Replica "apply" (sp_Replica_apply K C_Replica C_Counter)) : CalM P w K mg base CX0 3 C_Replica "commit" (sp_Replica_commit K C_Replica C_Counter) := by
  refine D.ok sc_Replica_commit (fun vs H Q E h => ?_) fun cdv A outer s H vs Q E hr h => ?_
  · obtain ⟨x, M, G, j, ⟨rfl, _⟩, _⟩ := h; rfl
  obtain ⟨⟨a, r, i, b⟩, M, G, j, ⟨rfl, hR, hb, h1, h2, h3, hs, hz⟩, k⟩ := h
  dsimp only at hR hb h1 h2 h3 hs hz k
  refine ⟨_, (pss_cons (ps_fld (pv 0) (pe_callB (call_max2 rfl) (by rfl) b_max bt_max (pa_cons (pe_fld (pv 0) rfl) (pa_cons (pv 1) pa_nil))) rfl)
(pss_one (ps_while PassesOwn.never (pt_cmpR op_lt (pe_fld (pv 0) rfl) (pe_fld (pv 0) rfl) (nomark _))
(pss_one (ps_expr (pe_calM c_Replica_apply T_Replica.cl hr (by first | decide | omega) (pv 0) (pa_cons (pe_op (op_uAddK (K := K) rfl) (pe_fld (pv 0) rfl) pe_int) pa_nil))))))), ?_⟩
  walk_at "start"
  (have hop := RepAt.op hR; refine w_fldM j hop T_Replica.cl T_Replica.n_committed fl_Replica_committed ?_; clear hop; walk_at "go")
  refine ⟨_, _, rfl, ?_⟩
  obtain ⟨c, hc⟩ : ∃ c, c = if i > r.cm then i else r.cm := ⟨_, rfl⟩
  rw [← hc]
  have hc1 : c ≤ b.i + r.ents.length := by rw [hc]; split <;> assumption
  have er : commitR r i = iterR (c - r.ap).toNat { r with cm := c } := by unfold commitR; rw [hc]
  walk_at "go"
  (have hop := hR.op; refine w_setX j hop T_Replica.cl T_Replica.n_committed (by show 21 < 1000; decide) fun H1 j1 => ?_; clear hop; rw [sf_Replica_committed] at j1)
  have hS1 := hR.s.f_cm c
  obtain ⟨r1, hr1⟩ : ∃ r1, r1 = { r with cm := c } := ⟨_, rfl⟩
  rw [← hr1] at er
  obtain ⟨a1, p1, hS1⟩ := hS1.pack (p := a.p) hr1 rfl
  have hb1 : r1.base = some b := by rw [hr1]; exact hb
  have ha1 : r1.ap = r.ap := by rw [hr1]
  have he1 : r1.ents = r.ents := by rw [hr1]
  have hc2 : r1.cm = c := by rw [hr1]
  have hs1 : ∃ n, r1.st = some (.cnt n) := by rw [hr1]; exact hs
  have hz1 : r1.sz = r.sz := by rw [hr1]; rfl
  have lz : r.ents.length ≤ r.sz := by unfold Rpl.sz; omega
  obtain ⟨T, hT⟩ : ∃ T, T = (c - r.ap).toNat := ⟨_, rfl⟩
  rw [← hT] at er
  have hio : ∀ k, k ≤ T → ApO r1 (iterR k r1) ∧ (iterR k r1).ap = r1.ap + k := fun k hk => by
    by_cases z : k = 0
    · subst z
      exact ⟨⟨rfl, hs1⟩, by show r1.ap = r1.ap + (0 : Nat); omega⟩
    · exact iter_o k hb1 (by omega) (by rw [he1]; omega) hs1
  walk_at "go"
  rw [← p1]
  refine w_while (fun m σ H => ∃ M2 G2 a2, J M2 G2 H ∧ Ex G G2 ∧ m ≤ T ∧ RepS K C_Replica C_Counter M a M2 G2 a2 (iterR (T - m) r1) ∧ σ = [some (.ref a2.p), some (.int i)]) T ⟨_, G, a1, j1, Same.refl _, Nat.le_refl _, by rw [Nat.sub_self]; exact hS1, rfl⟩ ?_
  rintro m σ H R ⟨M2, G2, a2, j2, e2, hm, hS2, rfl⟩ hRR
  obtain ⟨hao, hap⟩ := hio (T - m) (by omega)
  obtain ⟨r2, hr2⟩ : ∃ r2, r2 = iterR (T - m) r1 := ⟨_, rfl⟩
  rw [← hr2] at hS2 hao hap
  have hb2 : r2.base = some b := by rw [hao.eq]; exact hb1
  have he2 : r2.ents = r.ents := by rw [hao.eq]; exact he1
  have hc3 : r2.cm = c := by rw [hao.eq]; exact hc2
  have hz2 : r2.sz ≤ r1.sz + 2 * (T - m) := by rw [hr2]; exact iter_sz _ _
  walk_at "go"
  (have hop := RepAt.op hS2.t; refine w_fldM j2 hop T_Replica.cl T_Replica.n_applied fl_Replica_applied ?_; clear hop; walk_at "go")
  (have hop := RepAt.op hS2.t; refine w_fldM j2 hop T_Replica.cl T_Replica.n_committed fl_Replica_committed ?_; clear hop; walk_at "go")
  refine hRR _ _ ?_
  rw [hc3]
  refine w_dec (fun q => ?_) (fun q => ?_)
  · obtain ⟨n, hn⟩ := hao.st
    obtain ⟨kk, hkk⟩ := Int.eq_ofNat_of_zero_le (show 0 ≤ r2.ap - b.i by omega)
    have hkl : kk < r2.ents.length := by rw [he2]; omega
    walk_at "go"
    (have hop := RepAt.op hS2.t; refine w_methM j2 hop (no_Replica (by decide +kernel) (by decide +kernel) (by decide +kernel) (by decide +kernel) (by decide +kernel) (by decide +kernel) (by decide +kernel) (by decide +kernel) (by decide +kernel) (by decide +kernel) (by decide +kernel) (by decide +kernel) (by decide +kernel) (by decide +kernel) (by decide +kernel) (by decide +kernel) (by decide +kernel) (by decide +kernel) (by decide +kernel) (by decide +kernel) (by decide +kernel)) ?_; clear hop; walk_at "go")
    (have hop := RepAt.op hS2.t; refine w_fldM j2 hop T_Replica.cl T_Replica.n_applied fl_Replica_applied ?_; clear hop; walk_at "go")
    refine w_sg (α := ApP) ⟨a2, r2, b, kk, r2.ents[kk], n⟩ j2 ⟨rfl, hS2.t, hb2, by dsimp only; omega, List.getElem?_eq_getElem hkl, hn, by dsimp only; omega⟩ fun v M3 G3 H3 j3 e3 ⟨ev, a3, hS3⟩ => ?_
    walk_at "go"
    have mpos : 0 < m := by omega
    refine ⟨m - 1, by omega, M3, G3, a3, j3, e2.trans e3, by omega, ?_, by rw [hS3.f.pe]⟩
    rw [show T - (m - 1) = (T - m) + 1 by omega, iterR_succ, ← hr2]
    exact hS2.then hS3
  · walk_at "go"
    have m0 : m = 0 := by omega
    subst m0
    refine k _ _ _ _ j2 e2 ⟨rfl, a2, ?_⟩
    rw [er]
    rw [hr2, Nat.sub_zero] at hS2
    exact hS2
/-! ### Replica.has_entry -/
abbrev s_Replica_has_entry : Stmt := inClass (top 22) 8
abbrev n_Replica_has_entry : List Str := ["self", "index", "term"]
theorem sc_Replica_has_entry : FnScope n_Replica_has_entry ["self", "index", "term"] (defScope s_Replica_has_entry) := ⟨rfl, rfl, rfl, by decide +kernel, rfl, by decide +kernel, by decide +kernel⟩
structure HeP where
  a : RepA
  r : Rpl
  i : Int
  t : Int
def sp_Replica_has_entry (K : PySem.W.Frag) (C CC : Addr) : Sp := Sg (α := HeP) (fun x vs M G => vs = [.ref x.a.p, .int x.i, .int x.t] ∧ RepAt K C CC M G x.a x.r) (fun x M _ v M' _ => M' = M ∧ v = .bl (hasE x.r x.i x.t))
theorem ok_Replica_has_entry {P : Program} {w : World} {K : PySem.W.Frag} {mg : Str → Option Value} {base : Heap}
    {C_Replica : Addr} (T_Replica : Tx_Replica K mg C_Replica)
    {C_Counter : Addr} (T_Counter : Tx_Counter K mg C_Counter)
    {f : Addr} {fd : FuncData} (D : Dm K C_Replica "has_entry" "Replica.has_entry" s_Replica_has_entry ["self", "index", "term"] f fd)
    (c_Replica_term_at : CalM P w K mg base CX0 2 C_Replica "term_at" (sp_Replica_term_at K C_Replica C_Counter))
    (c_Replica_last_index : CalP P w K mg base CX0 1 C_Replica "last_index" (sp_Replica_last_index K C_Replica C_Counter)) : CalM P w K mg base CX0 3 C_Replica "has_entry" (sp_Replica_has_entry K C_Replica C_Counter) := by
  refine D.ok sc_Replica_has_entry (fun vs H Q E h => ?_) fun cdv A outer s H vs Q E hr h => ?_
  · obtain ⟨x, M, G, j, ⟨rfl, _⟩, _⟩ := h; rfl
  obtain ⟨⟨a, r, i, t⟩, M, G, j, ⟨rfl, hR⟩, k⟩ := h
  dsimp only at hR k
  refine ⟨_, (pss_one (ps_ret (pe_and (pe_cmp (pc_notN (pe_fld (pv 0) rfl))) (pe_and (pe_chain op_lt op_le (pe_ix (ix_uK (K := K) rfl) (pe_fld (pv 0) rfl) pe_int (fun _ _ => rfl)) (pv 1) (pe_calP c_Replica_last_index T_Replica.cl hr (by first | decide | omega) (pv 0) (by rfl))) (pe_one (pe_cmpR (op_uEqK (K := K) rfl hr) (pe_calM c_Replica_term_at T_Replica.cl hr (by first | decide | omega) (pv 0) (pa_cons (pv 1) pa_nil)) (pv 2) (nomark _))))))), ?_⟩
  walk_at "start"
  (have hop := RepAt.op hR; refine w_fldM j hop T_Replica.cl T_Replica.n_base fl_Replica_base ?_; clear hop; walk_at "go")
  rcases hR.bs with ⟨hb, hv⟩ | ⟨b, q, m, x, hb, hv, hq, hm, hx⟩
  · rw [hv, show decide (V.non = V.non) = true from decide_eq_true rfl]
    walk_at "go"
    refine k _ _ _ _ j (Same.refl G) ⟨rfl, ?_⟩
    unfold hasE
    rw [hb]
  have el : lastI r = b.i + r.ents.length := by unfold lastI; rw [hb]
  have eh : hasE r i t = (decide (b.i < i) && (decide (i ≤ lastI r) && decide (termAt r i = t))) := by unfold hasE; rw [hb]
  rw [hv, show decide (V.ref q = V.non) = false from decide_eq_false fun z => nomatch z]
  walk_at "go"
  (have hop := RepAt.op hR; refine w_fldM j hop T_Replica.cl T_Replica.n_base fl_Replica_base ?_; clear hop; walk_at "go")
  rw [hv]
  refine w_ixT j hq atI_0 ?_
  walk_at "go"
  refine w_dec (fun c => ?_) (fun c => ?_)
  rotate_left
  · walk_at "go"
    refine k _ _ _ _ j (Same.refl G) ⟨rfl, ?_⟩
    rw [eh, decide_eq_false c]; rfl
  walk_at "go"
  (have hop := RepAt.op hR; refine w_propM j hop ?_; clear hop)
  refine w_sg (a, r) j ⟨rfl, hR⟩ fun v M1 G1 H1 j1 e1 ⟨ev, em⟩ => ?_
  have ev : v = .int (lastI r) := ev
  subst ev em
  have hR1 := hR.ex e1
  walk_at "go"
  refine w_dec (fun c2 => ?_) (fun c2 => ?_)
  rotate_left
  · walk_at "go"
    refine k _ _ _ _ j1 e1 ⟨rfl, ?_⟩
    rw [eh, decide_eq_true c, decide_eq_false c2]; rfl
  walk_at "go"
  (have hop := RepAt.op hR1; refine w_methM j1 hop (no_Replica (by decide +kernel) (by decide +kernel) (by decide +kernel) (by decide +kernel) (by decide +kernel) (by decide +kernel) (by decide +kernel) (by decide +kernel) (by decide +kernel) (by decide +kernel) (by decide +kernel) (by decide +kernel) (by decide +kernel) (by decide +kernel) (by decide +kernel) (by decide +kernel) (by decide +kernel) (by decide +kernel) (by decide +kernel) (by decide +kernel) (by decide +kernel)) ?_; clear hop; walk_at "go")
  refine w_sg (α := TaP) ⟨a, r, i, b⟩ j1 ⟨rfl, hR1, hb, by dsimp only; omega, by dsimp only; omega⟩ fun v M2 G2 H2 j2 e2 ⟨em, ev⟩ => ?_
  have ev : v = .int (termAt r i) := ev
  subst ev em
  walk_at "go"
  refine k _ _ _ _ j2 (e1.trans e2) ⟨rfl, ?_⟩
  rw [eh, decide_eq_true c, decide_eq_true c2]; rfl
/-! ### del xs[a:] of a list -/
section
variable {prog : Program} {w : World} {A : Around} {E : Value → Shared → Prop} {s : Shared}
theorem keepTo {α : Type} (a : Nat) : ∀ (xs : List α) (i : Nat) (p : Nat → Bool), (∀ k, i ≤ k → k < i + xs.length → p k = decide (a ≤ k)) → (xs.zipIdx i).filterMap (fun z => if p z.2 = true then none else some z.1) = xs.take (a - i)
  | [], i, p, _ => by rw [List.zipIdx_nil, List.filterMap_nil, List.take_nil]
  | x :: r, i, p, h => by
    rw [List.zipIdx_cons, List.filterMap_cons]
    have h0 := h i (Nat.le_refl _) (by rw [List.length_cons]; omega)
    have ih := keepTo a r (i + 1) p fun k h1 h2 => h k (by omega) (by rw [List.length_cons]; omega)
    dsimp only
    rw [h0, ih]
    by_cases q : a ≤ i
    · rw [if_pos (decide_eq_true q), show a - i = 0 by omega, show a - (i + 1) = 0 by omega]; rfl
    · rw [if_neg (by rw [decide_eq_false q]; exact Bool.false_ne_true), show a - i = (a - (i + 1)) + 1 by omega]; rfl
theorem bounds_from {a n : Nat} (h : a ≤ n) : sliceBounds (some (a : Int)) none none n = ((a : Int), (n : Int), 1) := by
  unfold sliceBounds
  have h1 : ¬ ((a : Int) < 0) := by omega
  simp only [Option.getD_none, h1, if_false, show (1 : Int) > 0 by decide, if_true]
  congr 1
  omega
set_option maxRecDepth 100000 in
theorem delItem_from {l sl : Addr} {its : List Value} {n a : Nat} {vl vu : Value} {Q : Unit → Shared → Prop} (e : s.heap.get? l = some { cls := .type "list", data := .seq its.toArray n })
    (hs : s.heap.IsSliceOf sl vl vu .none) (pl : IsPart vl (some (a : Int))) (pu : IsPart vu none) (ha : a ≤ its.length) (hz : its.length ≤ sizeLine)
    (h : ∀ f : Array Value → Array Value, f its.toArray = (its.take a).toArray → Q () { s with heap := s.heap.update l (Obj.mapSeq f) }) : wpAny (model prog w) A (delItem (.ref l) (.ref sl)) Q E s := by
  have hl : s.heap.IsList l its.toArray := PySem.IsL.isList e
  obtain ⟨os, hos, hcs, hds⟩ := id hs
  have ts : s.TypeIs (.ref sl) "slice" := ⟨os, hos, hcs⟩
  refine wpAny_delItem_slot hl.typeIs (by decide) F.slot_list_delitem ?_
  refine wpAny_call_entry F.slot_list_delitem hl.typeIs F.entry_list_delitem ?_ (F.args_list_delitem_2 _ _)
  show wpAny _ _ (Builtin.List.listSubscript? (.ref sl) >>= _) _ _ s
  refine wpAny_bind ?_
  unfold Builtin.List.listSubscript?
  refine wpAny_bind (wpAny_specialOf ts slice_no_index ?_)
  simp only [Option.isNone_none, if_true]
  refine wpAny_pure ?_
  show wpAny _ _ (typeOf (.ref sl) >>= _) _ _ s
  refine wpAny_bind (wpAny_typeOf ts ?_)
  rw [if_neg (by decide), listSliceParts_eq]
  refine wpAny_bind (wpAny_bind (wpAny_field hos hds (x := .none) rfl (wpAny_bind (wpAny_listPart .none ?_))))
  rw [if_neg (show ¬ ((rawPart none == rawInt 0) = true) from Bool.false_ne_true)]
  refine wpAny_bind (wpAny_field hos hds (x := vl) rfl (wpAny_bind (wpAny_listPart pl ?_)))
  refine wpAny_bind (wpAny_field hos hds (x := vu) rfl (wpAny_bind (wpAny_listPart pu (wpAny_pure ?_))))
  refine wpAny_bind (m := Builtin.List.listItems (.ref l)) ?_
  unfold Builtin.List.listItems
  refine wpAny_bind (wpAny_seqItems e rfl (wpAny_pure ?_))
  refine wpAny_bind (wpAny_of_eq ((sliceIndices_raw (some (a : Int)) none none its.toArray.size (by simp)).trans (congrArg (pure : Int × Int × Int → Sem (Int × Int × Int)) (bounds_from (by rw [List.size_toArray]; exact ha)))) ?_)
  refine wpAny_bind (wpAny_rule ?_)
  refine wpAny_bind (wpAny_updateSeq (hz := by rw [List.size_toArray]; exact hz) (_hz' := ?_) e rfl ?_)
  · refine wpAny_bind (wpAny_letGo ?_)
    refine wpAny_pure ⟨.none, rfl, h _ ?_⟩
    refine congrArg List.toArray (keepTo a its 0 _ fun k _ h2 => ?_)
    show (if (1 : Int) > 0 then decide ((a : Int) ≤ (k : Int)) && decide ((k : Int) < (its.toArray.size : Int)) && (((k : Int) - (a : Int)) % 1 == 0) else _) = _
    rw [if_pos (by decide), Int.emod_one]
    have h2 : k < its.length := by omega
    have h3 : (k : Int) < (its.toArray.size : Int) := by rw [List.size_toArray]; omega
    rw [decide_eq_true h3]
    by_cases q : a ≤ k
    · rw [decide_eq_true q, decide_eq_true (show (a : Int) ≤ (k : Int) by omega)]; rfl
    · rw [decide_eq_false q, decide_eq_false (show ¬ (a : Int) ≤ (k : Int) by omega)]; rfl
  · refine Nat.le_trans ?_ (Nat.le_succ_of_le hz)
    rw [List.size_toArray]
    refine Nat.le_trans (List.length_filterMap_le _ _) ?_
    rw [List.length_zipIdx]
    exact Nat.le_refl _
end
theorem del_from {X : Cx} {pins : List (Addr × Obj)} {s : Shared} {σ : L2.St} {H : Hp} {l sl : Addr} {xs : List V} {a : Nat} {vl vu : Value} {Q : Unit → Shared → Prop} (I : Inv X pins σ H s) (hH : H l = some (.lst xs))
    (hs : s.heap.IsSliceOf sl vl vu .none) (pl : IsPart vl (some (a : Int))) (pu : IsPart vu none) (ha : a ≤ xs.length) (h : ∀ s', Inv X pins σ (upd H l (.lst (xs.take a))) s' → Q () s') :
    wpAny (model X.prog X.w) X.A (delItem (.ref l) (.ref sl)) Q X.xe s := by
  obtain ⟨z, its, n, r, hl, e⟩ := I.lstM hH
  refine delItem_from (its := its) e hs pl pu (by omega) (by omega) fun f hf => h _ ?_
  exact I.lset (its' := its.take a) (t' := s.toks) hH e hf (r.take a) (by rw [List.length_take]; omega)
def tDelF (to : TE) (tl th : TO) : TS := fun D σ H => to σ H fun x H1 => tl σ H1 fun l H2 => th σ H2 fun u H3 => ∃ (q : Addr) (xs : List V) (a : Nat), x = .ref q ∧ l = some (a : Int) ∧ u = none ∧ H3 q = some (.lst xs) ∧ a ≤ xs.length ∧ D.nx σ (upd H3 q (.lst (xs.take a)))
theorem ps_delF {X : Cx} {o : Expr} {lo hi : Option Expr} {to : TE} {tl th : TO} {pos tpos p2 : Pos} (ho : PE X o to) (hl : PO X lo tl) (hu : PO X hi th) : PS X (.Delete [.Subscript o (.Slice lo hi none p2) tpos] pos) (tDelF to tl th) := by
  refine ⟨fun pins s σ H D I h => ?_⟩
  refine wpAny_Delete (wpAny_deleteEach_cons (wpAny_delete_Subscript (thn (ho.run pins s σ H _ I h) fun v s1 ⟨x, H1, I1, rx, q1⟩ => ?_)))
  refine wpAny_Slice (thn (hl.run pins s1 σ H1 _ I1 q1) fun vl s2 ⟨l, H2, I2, pl, q2⟩ => thn (hu.run pins s2 σ H2 _ I2 q2) fun vu s3 ⟨u, H3, I3, pu, q3⟩ => ?_)
  rw [evalPart_none]
  refine wpAny_pure ?_
  have I4 : Inv X pins σ H3 { s3 with heap := s3.heap.push { cls := .type "slice", data := .fields #[vl, vu, .none] } } := I3.kept (t' := s3.toks) fun b ob q => Heap.get?_push_of_some _ q
  obtain ⟨q, xs, a, rfl, rfl, rfl, hH, ha, d⟩ := q3
  cases (show v = Value.ref q from rx)
  exact del_from I4 hH (Heap.IsSliceOf.new ..) pl pu ha fun s4 I5 => wpAny_deleteEach_nil ⟨σ, _, I5, d⟩
theorem w_delF {to : TE} {tl th : TO} {D : Ends} {σ : L2.St} {H : Hp} (h : to σ H fun x H1 => tl σ H1 fun l H2 => th σ H2 fun u H3 => ∃ (q : Addr) (xs : List V) (a : Nat), x = .ref q ∧ l = some (a : Int) ∧ u = none ∧ H3 q = some (.lst xs) ∧ a ≤ xs.length ∧ D.nx σ (upd H3 q (.lst (xs.take a)))) : tDelF to tl th D σ H := h
local macro_rules
  | `(tactic| walk_at "v") => `(tactic| with_reducible refine w_delF ?_)
/-! ### Replica.take_entry -/
abbrev s_Replica_take_entry : Stmt := inClass (top 22) 37
abbrev n_Replica_take_entry : List Str := ["self", "index", "entry"]
theorem sc_Replica_take_entry : FnScope n_Replica_take_entry ["self", "index", "entry"] (defScope s_Replica_take_entry) := ⟨rfl, rfl, rfl, by decide +kernel, rfl, by decide +kernel, by decide +kernel⟩
structure TeP where
  a : RepA
  r : Rpl
  i : Int
  x : V
  e : RN
  b : RB
def sp_Replica_take_entry (K : PySem.W.Frag) (C CC : Addr) : Sp := Sg (α := TeP) (fun x vs M G => vs = [.ref x.a.p, .int x.i, x.x] ∧ RepAt K C CC M G x.a x.r ∧ x.r.base = some x.b ∧ x.i ≤ lastI x.r + 1 ∧ Dp K G x.x (rnD x.e) ∧ x.r.sz ≤ 800000) (fun x M _ v M' G' => v = .non ∧ RE K C CC M x.a M' G' (takeEntry x.r x.i x.e))
theorem ok_Replica_take_entry {P : Program} {w : World} {K : PySem.W.Frag} {mg : Str → Option Value} {base : Heap}
    {C_Replica : Addr} (T_Replica : Tx_Replica K mg C_Replica)
    {C_Counter : Addr} (T_Counter : Tx_Counter K mg C_Counter)
    {f : Addr} {fd : FuncData} (D : Dm K C_Replica "take_entry" "Replica.take_entry" s_Replica_take_entry ["self", "index", "entry"] f fd)
    (b_min : mg "min" = none)
    (c_Replica_attach : CalM P w K mg base CX0 3 C_Replica "attach" (sp_Replica_attach K C_Replica C_Counter))
    (c_Replica_last_index : CalP P w K mg base CX0 1 C_Replica "last_index" (sp_Replica_last_index K C_Replica C_Counter))
    (c_Replica_has_entry : CalM P w K mg base CX0 3 C_Replica "has_entry" (sp_Replica_has_entry K C_Replica C_Counter)) : CalM P w K mg base CX0 4 C_Replica "take_entry" (sp_Replica_take_entry K C_Replica C_Counter) := by
  refine D.ok sc_Replica_take_entry (fun vs H Q E h => ?_) fun cdv A outer s H vs Q E hr h => ?_
  · obtain ⟨x, M, G, j, ⟨rfl, _⟩, _⟩ := h; rfl
  obtain ⟨⟨a, r, i, x, e, b⟩, M, G, j, ⟨rfl, hR, hb, hi, hx, hz⟩, k⟩ := h
  dsimp only at hR hb hi hx hz k
  refine ⟨_, (pss_cons (ps_if (PW.pt (pw_or (pt_cmpR op_le (pv 1) (pe_ix (ix_uK (K := K) rfl) (pe_fld (pv 0) rfl) pe_int (fun _ _ => rfl)) (nomark _)) (pw_or1 (pt_val (pe_calM c_Replica_has_entry T_Replica.cl hr (by first | decide | omega) (pv 0) (pa_cons (pv 1) (pa_cons (pe_ix (ix_uK (K := K) rfl) (pv 2) pe_int (fun _ _ => rfl)) pa_nil)))))))
(pss_one ps_retN)
pss_nil)
(pss_cons (ps_delF (pe_fld (pv 0) rfl) (po_some (pe_op op_sub (pe_op op_sub (pv 1) (pe_ix (ix_uK (K := K) rfl) (pe_fld (pv 0) rfl) pe_int (fun _ _ => rfl))) pe_int)) po_none)
(pss_cons (ps_fld (pv 0) (pe_callB (call_min2 rfl) (by rfl) b_min bt_min (pa_cons (pe_fld (pv 0) rfl) (pa_cons (pe_calP c_Replica_last_index T_Replica.cl hr (by first | decide | omega) (pv 0) (by rfl)) pa_nil))) rfl)
(pss_one (ps_expr (pe_calM c_Replica_attach T_Replica.cl hr (by first | decide | omega) (pv 0) (pa_cons (pv 2) pa_nil))))))), ?_⟩
  have el : lastI r = b.i + r.ents.length := by unfold lastI; rw [hb]
  have le := dpAll_len hR.d.en
  rw [List.length_map] at le
  have et : takeEntry r i e = if i ≤ b.i ∨ hasE r i e.t = true then r else attachR (cutR r (i - b.i - 1).toNat) e := by unfold takeEntry; rw [hb]
  rcases hR.bs with ⟨hb', _⟩ | ⟨b', q, bm, bx, hb', hv, hq, hm, hbx⟩
  · rw [hb] at hb'; cases hb'
  rw [hb] at hb'
  obtain rfl := Option.some.inj hb'
  obtain ⟨ea, cx, rfl, hea, hcx⟩ := dp_rn hx
  have stay : (i ≤ b.i ∨ hasE r i e.t = true) → ∀ G' H', J M G' H' → Ex G G' → Q .non H' := fun z G' H' j' e' => k _ _ _ _ j' e' ⟨rfl, a, by rw [et, if_pos z]; exact (hR.ex e').s⟩
  walk_at "start"
  (have hop := RepAt.op hR; refine w_fldM j hop T_Replica.cl T_Replica.n_base fl_Replica_base ?_; clear hop; walk_at "go")
  rw [hv]
  refine w_ixT j hq atI_0 ?_
  walk_at "go"
  refine w_dec (fun c => ?_) (fun c => ?_)
  · walk_at "go"
    exact stay (.inl c) _ _ j (Same.refl G)
  walk_at "go"
  (have hop := RepAt.op hR; refine w_methM j hop (no_Replica (by decide +kernel) (by decide +kernel) (by decide +kernel) (by decide +kernel) (by decide +kernel) (by decide +kernel) (by decide +kernel) (by decide +kernel) (by decide +kernel) (by decide +kernel) (by decide +kernel) (by decide +kernel) (by decide +kernel) (by decide +kernel) (by decide +kernel) (by decide +kernel) (by decide +kernel) (by decide +kernel) (by decide +kernel) (by decide +kernel) (by decide +kernel)) ?_; clear hop; walk_at "go")
  refine w_ixT j hea atI_0 ?_
  walk_at "go"
  refine w_sg (α := HeP) ⟨a, r, i, e.t⟩ j ⟨rfl, hR⟩ fun v M1 G1 H1 j1 e1 ⟨em, ev⟩ => ?_
  have ev : v = .bl (hasE r i e.t) := ev
  subst ev em
  have hR1 := hR.ex e1
  walk_at "go"
  cases hh : hasE r i e.t with
  | true =>
    walk_at "go"
    exact stay (.inr hh) _ _ j1 e1
  | false =>
  walk_at "go"
  have ne : ¬ (i ≤ b.i ∨ hasE r i e.t = true) := fun z => z.elim c fun z => by rw [hh] at z; cases z
  rw [et, if_neg ne] at k
  obtain ⟨n, hn⟩ := Int.eq_ofNat_of_zero_le (show 0 ≤ i - b.i - 1 by omega)
  rw [hn, Int.toNat_natCast] at k
  (have hop := RepAt.op hR1; refine w_fldM j1 hop T_Replica.cl T_Replica.n_entries fl_Replica_entries ?_; clear hop; walk_at "go")
  (have hop := RepAt.op hR1; refine w_fldM j1 hop T_Replica.cl T_Replica.n_base fl_Replica_base ?_; clear hop; walk_at "go")
  rw [hv]
  refine w_ixT j1 (st_mono e1 hq) atI_0 ?_
  walk_at "go"
  refine ⟨a.en, a.ev, n, rfl, by rw [hn], rfl, j1.m _ _ hR1.en, by omega, ?_⟩
  have j2 := j1.put (o' := .lst (a.ev.take n)) hR1.en
  have hS2 := hR1.s.k_en n
  generalize upd H1 a.en (.lst (a.ev.take n)) = H2 at j2
  obtain ⟨r2, hr2⟩ : ∃ r2 : Rpl, r2 = { r with ents := r.ents.take n } := ⟨_, rfl⟩
  obtain ⟨a2, p2, hS2⟩ := hS2.pack (p := a.p) hr2 rfl
  have hd2 : r2.du = r.du := by rw [hr2]
  walk_at "go"
  rw [← p2]
  (have hop := RepAt.op hS2.t; refine w_fldM j2 hop T_Replica.cl T_Replica.n_durable fl_Replica_durable ?_; clear hop; walk_at "go")
  (have hop := RepAt.op hS2.t; refine w_propM j2 hop ?_; clear hop)
  refine w_sg (a2, r2) j2 ⟨rfl, hS2.t⟩ fun v M3 G3 H3 j3 e3 ⟨ev, em⟩ => ?_
  have ev : v = .int (lastI r2) := ev
  subst ev em
  have hS3 := hS2.ex e3
  walk_at "go"
  refine ⟨_, _, rfl, ?_⟩
  rw [show (if lastI r2 < r2.du then lastI r2 else r2.du) = minI r2.du (lastI r2) from rfl]
  walk_at "go"
  (have hop := hS3.t.op; refine w_setX j3 hop T_Replica.cl T_Replica.n_durable (by show 21 < 1000; decide) fun H4 j4 => ?_; clear hop; rw [sf_Replica_durable] at j4)
  have hS4 := hS3.f_du (minI r2.du (lastI r2))
  obtain ⟨r4, hr4⟩ : ∃ r4 : Rpl, r4 = cutR r n := ⟨_, rfl⟩
  obtain ⟨a4, p4, hS4⟩ := hS4.pack (r' := r4) (p := a2.p) (by rw [hr4, hr2]; rfl) rfl
  have hz4 : r4.sz ≤ r.sz := by
    rw [hr4]
    unfold cutR Rpl.sz
    dsimp only
    rw [List.length_take]
    omega
  walk_at "go"
  rw [← p4]
  (have hop := RepAt.op hS4.t; refine w_methM j4 hop (no_Replica (by decide +kernel) (by decide +kernel) (by decide +kernel) (by decide +kernel) (by decide +kernel) (by decide +kernel) (by decide +kernel) (by decide +kernel) (by decide +kernel) (by decide +kernel) (by decide +kernel) (by decide +kernel) (by decide +kernel) (by decide +kernel) (by decide +kernel) (by decide +kernel) (by decide +kernel) (by decide +kernel) (by decide +kernel) (by decide +kernel) (by decide +kernel)) ?_; clear hop; walk_at "go")
  refine w_sg (α := AtP) ⟨a4, r4, .ref ea, e⟩ j4 ⟨rfl, hS4.t, dp_mono (e1.trans e3) hx, by dsimp only; omega⟩ fun v M5 G5 H5 j5 e5 ⟨ev, a5, hS5⟩ => ?_
  walk_at "go"
  rw [← hr4] at k
  exact k _ _ _ _ j5 ((e1.trans e3).trans e5) ⟨rfl, a5, hS4.then hS5⟩
/-! ### for i, x in enumerate(t, start=k), t a tuple -/
section
variable {M : Model} {A : Around} {E : Value → Shared → Prop} {s : Shared} {env : Env}
theorem callTyKw {pos : Pos} {T : String} {e : Expr} {rest : List Expr} {kws : List Keyword} {Q : Value → Shared → Prop}
    (h : wpAny M A (spliced (backTo pos (starEach (e :: rest) env))) (fun us s1 => wpAny M A (evalAll ((backToKw pos (keywordEach kws env)).map (·.2))) (fun ws s2 => wpAny M A (call (.type T) us (((backToKw pos (keywordEach kws env)).filterMap (·.1)).zip ws)) Q E s2) E s1) E s)
    (he : starEach (e :: rest) env = (false, eval e env) :: starEach rest env) (hp : (backTo pos (starEach (e :: rest) env)).any (·.1) = false)
    (hall : (backToKw pos (keywordEach kws env)).all (·.1.isSome) = true) (hn : (backToKw pos (keywordEach kws env)).any (·.1.isNone) = false) :
    wpAny M A (callWith pos (.type T) [] (backTo pos (starEach (e :: rest) env)) (backToKw pos (keywordEach kws env))) Q E s := by
  unfold callWith
  refine wpAny_bind (wpAny_holding (wpAny_mono (PyProof.Rows.evalArgs_kw2 (Q := fun a s1 => wpAny M A (call (.type T) ([] ++ a.pos) a.kw) Q E s1) hall h he) (fun a s1 h1 => wpAny_bind (wpAny_standAt ?_)) fun _ _ x => x))
  simp only [hp, hn, Bool.or_false]
  refine wpAny_bind (wpAny_pure ?_)
  exact wpAny_bind (wpAny_mono h1 (fun r s2 hr => wpAny_bind (wpAny_holding (wpAny_point (wpAny_pure hr)))) fun _ _ x => x)
end
/-- the tuple at a, each item in a new pair with its number from k0 -/
def Itk (K : PySem.W.Frag) (a : Addr) (k0 : Int) : It :=
  ⟨fun i H => ∃ (xs : List V) (x : V), SqT K H a xs ∧ xs[i]? = some x, fun i H v H' => ∃ T x, v = .ref T ∧ H T = none ∧ H' = upd H T (.tup [.int (k0 + (i : Nat)), x]) ∧ ∀ xs, SqT K H a xs → xs[i]? = some x, fun i H => ∃ xs : List V, SqT K H a xs ∧ xs.length = i⟩
theorem turn_enk {P : Program} {w : World} {K : PySem.W.Frag} {elts : List Expr} {kk : Nat} {tpos : Pos} (a e it : Addr) (k0 : Int) :
    Turn P w K (.Tuple elts kk tpos) (Itk K a k0) [e, it] e (fun i h => (∃ old, IsEnum h e it (k0 + ((i : Nat) : Int)) old) ∧ h.IsTupleIter it a i ∧ e ≠ it ∧ a ≠ it ∧ e ≠ a) where
  mem := List.mem_cons_self
  obj := fun i h st b hb => by
    obtain ⟨⟨old, he⟩, ⟨o, ho, hc, hd⟩, _⟩ := st
    have e' : b = e ∨ b = it := by simpa using hb
    rcases e' with z | z
    · subst z; exact ⟨_, he, fun v q => nomatch q⟩
    · subst z; exact ⟨o, ho, fun v q => by rw [hd] at q; cases q⟩
  keep := fun i h h' st k => ⟨let ⟨old, he⟩ := st.1; ⟨old, k e (by simp) _ he⟩, st.2.1.at fun o q => k it (by simp) o q, st.2.2⟩
  item := by
    intro X hP hw hK hc i pins s σ H E I hf st hg
    subst hP hw hK
    obtain ⟨⟨old, he⟩, hit, n1, n2, n3⟩ := st
    obtain ⟨xs, x, hq, hx⟩ := hg
    obtain ⟨its, rv, p, hz⟩ := I.tuple hq
    obtain ⟨u, hu, ru⟩ := rv.get hx
    have hel : e < s.heap.objs.size := Heap.lt_size he
    have hil : it < s.heap.objs.size := by obtain ⟨_, q, _⟩ := hit; exact Heap.lt_size q
    have hi : i < its.toArray.size := by
      rw [List.size_toArray]
      exact (List.getElem?_eq_some_iff.mp hu).1
    refine wpAny_pyNext_enum_itemC (Draws.tuple (A := X.A.in1) (I.ok.hd hc) it a n2 its.toArray) he ⟨hit, p⟩ hi n1 (fun z => ?_) fun y h' tk hy ho hs' hT hsz hk => ?_
    · rcases List.mem_cons.mp z with z | z
      · exact n1 z
      · exact n3 (List.mem_singleton.mp z)
    have hy : y = u := by
      have : its[i]? = some y := by simpa using hy
      rw [hu] at this
      exact (Option.some.inj this).symm
    subst hy
    refine ⟨_, rfl, wpAny_letOwnedTupleGo_enum (s := { s with heap := h', toks := tk + 1 }) ho fun h'' he' sb => ?_⟩
    have hT2 : h''.get? s.heap.objs.size = some { cls := .type "tuple", data := .seq #[.int (k0 + (i : Nat)) tk, y] } := (sb.2 _ (Nat.ne_of_gt hel)).trans hT
    have new : ObjOk X.prog X.w (upd H s.heap.objs.size (.tup [.int (k0 + (i : Nat)), x])) h'' s.heap.objs.size (.tup [.int (k0 + (i : Nat)), x]) :=
      ⟨(by decide : 2 ≤ sizeLine), [.int (k0 + (i : Nat)) tk, y], .cons ⟨_, rfl⟩ (.cons ru .nil), ⟨_, hT2, rfl, _, rfl⟩⟩
    have I1 : Inv X pins σ (upd H s.heap.objs.size (.tup [.int (k0 + (i : Nat)), x])) { s with heap := h'', toks := tk + 1 } :=
      I.turnedNew (ch := [e, it]) (fun b ob hb q => (sb.2 b fun z => hb (by rw [z]; exact List.mem_cons_self)).trans (hk b ob (fun z => hb (by rw [z]; exact List.mem_cons_self)) (fun z => hb (by rw [z]; exact List.mem_cons_of_mem _ List.mem_cons_self)) q)) hf (Nat.le_refl _) new
    refine ⟨.ref s.heap.objs.size, _, I1, rfl, ⟨_, x, rfl, I.hok.fresh (Nat.le_refl _), rfl, fun ys hy => by rw [I.tuple_inj hy hq]; exact hx⟩, ⟨⟨y, ?_⟩, hs'.1.at fun o q => (sb.2 it (Ne.symm n1)).trans q, n1, n2, n3⟩, fun b hb => ?_⟩
    · rw [show k0 + ((i + 1 : Nat) : Int) = k0 + (i : Int) + 1 by omega]
      exact he'
    · have hb' : b < s.heap.objs.size := by
        rcases List.mem_cons.mp hb with z | z
        · rw [z]; exact hel
        · rw [List.mem_singleton.mp z]; exact hil
      rw [upd_ne (Nat.ne_of_lt hb')]
      exact (hf b hb).1
  done := by
    intro X hP hw hK hc i pins s σ H E I hf st hg
    subst hP hw hK
    obtain ⟨⟨old, he⟩, hit, n1, n2, n3⟩ := st
    obtain ⟨xs, hq, hx⟩ := hg
    obtain ⟨its, rv, p, hz⟩ := I.tuple hq
    obtain ⟨f0, f1, f2, f3, f4, f5⟩ := hf it (by simp)
    have hl := rv.length
    refine wpAny_pyNext_enum_endD (Draws.tuple (A := X.A.in1) (I.ok.hd hc) it a n2 its.toArray) he ⟨?_, p⟩ fun h' eb => ⟨rfl, I.turned (t' := s.toks) (fun b o hb q => eb b o hb q) f0 f1 f3 f4 f5⟩
    rw [List.size_toArray, ← hl, hx]
    exact hit
  self := fun A i s Q E st h => let ⟨⟨_, he⟩, _⟩ := st; wpAny_pyIter_enum he h
def iEnk (K : PySem.W.Frag) (ta tk : TA) : TI := fun σ H R => ta σ H fun vs H1 => tk σ H1 fun zs H2 => ∃ a xs k0, vs = [.ref a] ∧ zs = [.int k0] ∧ SqT K H2 a xs ∧ -(2 ^ 63) ≤ k0 ∧ k0 < 2 ^ 63 ∧ R (Itk K a k0) H2
theorem pi_enk {X : Cx} {e e2 : Expr} {ta tk : TA} {p pos tpos kpos : Pos} {elts : List Expr} {kk : Nat} (hg : Gl X "enumerate") (hm : X.mg "enumerate" = none) (ha : PA X [e] ta) (hk : PK X [⟨some "start", e2, kpos⟩] tk)
    (he : starEach [e] X.env = [(false, eval e X.env)] := by rfl) (hp : (backTo pos (starEach [e] X.env)).any (·.1) = false := by rfl) :
    PI X (.Tuple elts kk tpos) (.Call (.Name "enumerate" p) [e] [⟨some "start", e2, kpos⟩] pos) (iEnk X.K ta tk) := by
  refine ⟨fun pins s σ H R I h => ?_⟩
  refine wpAny_Call_Name_kw (ld_blt I hg hm PyProof.Rows.boot_enumerate ?_)
  refine callTyKw (thn (ha.run pos pins s σ H _ I h) fun us s1 ⟨vs, H1, I1, r1, q1⟩ => thn (hk.run pos pins s1 σ H1 _ I1 q1) fun ws s2 ⟨zs, H2, I2, r2, q2⟩ => ?_) he hp (by rfl) (by rfl)
  obtain ⟨a, xs, k0, ev, ez, hq, h1, h2, q⟩ := q2
  subst ev ez
  cases r1 with
  | cons r rr =>
    cases rr
    cases r
    cases r2 with
    | cons r' rr =>
      cases rr
      obtain ⟨t, rfl⟩ := r'
      obtain ⟨its, rv, p', hz⟩ := I2.tuple hq
      have hal : a < s2.heap.objs.size := by obtain ⟨_, z, _⟩ := id p'; exact Heap.lt_size z
      refine enum_begins_start (begins_tuple a its.toArray) p' h1 h2 fun h' he hit hsz hkk => wpAny_pyIter_enum he ?_
      have I3 : Inv X pins σ H2 { s2 with heap := h' } := I2.kept (t' := s2.toks) hkk
      refine ⟨s2.heap.objs.size + 1, [s2.heap.objs.size + 1, s2.heap.objs.size], _, _, H2, rfl, I3, turn_enk a (s2.heap.objs.size + 1) s2.heap.objs.size k0, ⟨⟨.none, ?_⟩, ⟨_, hit, rfl, rfl⟩, Nat.succ_ne_self _, Nat.ne_of_lt hal, Nat.ne_of_gt (Nat.lt_succ_of_lt hal)⟩, fun b hb => ?_, q⟩
      · rw [show k0 + ((0 : Nat) : Int) = k0 by omega]; exact he
      · have hle : s2.heap.objs.size ≤ b := by
          rcases List.mem_cons.mp hb with z | z
          · rw [z]; exact Nat.le_add_right _ _
          · rw [List.mem_singleton.mp z]; exact Nat.le_refl _
        exact I2.fpOk hle (I2.hok.fresh hle)
def EnkX (K : PySem.W.Frag) (g : TG) (t : TS) (D : Ends) (σ : L2.St) (vs zs : List V) (H2 : Hp) : Prop := ∃ a xs k0, vs = [.ref a] ∧ zs = [.int k0] ∧ SqT K H2 a xs ∧ -(2 ^ 63) ≤ k0 ∧ k0 < 2 ^ 63 ∧ ∃ W : Nat → Nat → L2.St → Hp → Prop, (∃ m, W 0 m σ H2) ∧ ∀ i m σ H, W i m σ H →
      ((Itk K a k0).stop i H ∧ D.nx σ H) ∨ ((Itk K a k0).go i H ∧ ∃ N : L2.St → Hp → Prop, (∀ σ' H', N σ' H' → ∃ m', m' < m ∧ W (i + 1) m' σ' H') ∧ ∀ v H', (Itk K a k0).yld i H v H' → g v σ H' fun σ2 H2 => t { D with nx := N, ct := N, bk := D.nx } σ2 H2)
theorem w_forK {K : PySem.W.Frag} {ta tk : TA} {g : TG} {t : TS} {D : Ends} {σ : L2.St} {H : Hp} (h : ta σ H fun vs H1 => tk σ H1 fun zs H2 => EnkX K g t D σ vs zs H2) : tFor (iEnk K ta tk) g t D σ H := h
theorem w_enk {K : PySem.W.Frag} {a : Addr} {xs : List V} {k0 : Int} {g : TG} {tb : TS} {D : Ends} {σ : L2.St} {H : Hp} (b1 : -(2 ^ 63) ≤ k0) (b2 : k0 < 2 ^ 63) (Pv : Nat → L2.St → Hp → Prop) (h0 : Pv 0 σ H) (hq : ∀ i σ H, Pv i σ H → SqT K H a xs)
    (hs : ∀ (i : Nat) (x : V) (T : Addr) (σ : L2.St) (H : Hp), xs[i]? = some x → Pv i σ H → H T = none → g (.ref T) σ (upd H T (.tup [.int (k0 + (i : Nat)), x])) fun σ2 H2 => tb { D with nx := Pv (i + 1), ct := Pv (i + 1), bk := D.nx } σ2 H2) (hd : ∀ σ H, Pv xs.length σ H → D.nx σ H) :
    EnkX K g tb D σ [.ref a] [.int k0] H := by
  refine ⟨a, xs, k0, rfl, rfl, hq 0 σ H h0, b1, b2, fun i m σ H => m = xs.length - i ∧ i ≤ xs.length ∧ Pv i σ H, ⟨_, rfl, Nat.zero_le _, h0⟩, ?_⟩
  rintro i m σ H ⟨rfl, hi, p⟩
  have qx := hq i σ H p
  by_cases hlt : i < xs.length
  · have hx : xs[i]? = some xs[i] := List.getElem?_eq_getElem hlt
    refine .inr ⟨⟨xs, _, qx, hx⟩, Pv (i + 1), fun σ' H' p' => ⟨xs.length - (i + 1), by omega, rfl, hlt, p'⟩, fun v H' y => ?_⟩
    obtain ⟨T, x', rfl, hT, rfl, f1⟩ := y
    exact hs i x' T σ H (f1 xs qx) p hT
  · have e : i = xs.length := by omega
    subst e
    exact .inl ⟨⟨xs, qx, rfl⟩, hd σ H p⟩
local macro_rules
  | `(tactic| walk_at "v") => `(tactic| with_reducible refine w_forK ?_)
/-! ### Replica.take_copy -/
abbrev s_Replica_take_copy : Stmt := inClass (top 22) 36
abbrev n_Replica_take_copy : List Str := ["self", "index", "index_term", "pairs", "committed", "at", "pair"]
theorem sc_Replica_take_copy : FnScope n_Replica_take_copy ["self", "index", "index_term", "pairs", "committed"] (defScope s_Replica_take_copy) := ⟨rfl, rfl, rfl, by decide +kernel, rfl, by decide +kernel, by decide +kernel⟩
structure TcP where
  a : RepA
  r : Rpl
  i : Int
  t : Int
  x : V
  es : List RN
  c : Int
/-- what a copy asks of the replica that takes it -/
def CopyOk (r : Rpl) (i : Int) (es : List RN) : Prop := ∀ b, r.base = some b → RunOk r b ∧ CmAg b r (i + 1) es
def sp_Replica_take_copy (K : PySem.W.Frag) (C CC : Addr) : Sp := Sg (α := TcP) (fun x vs M G => vs = [.ref x.a.p, .int x.i, .int x.t, x.x, .int x.c] ∧ RepAt K C CC M G x.a x.r ∧ CopyOk x.r x.i x.es ∧ -1000000000000000 ≤ x.i ∧ x.i ≤ 1000000000000000 ∧ Dp K G x.x (.tuple (x.es.map rnD)) ∧ x.r.sz + 2 * x.es.length ≤ 60000) (fun x M _ v M' G' => v = .non ∧ RE K C CC M x.a M' G' (copyR x.r x.i x.t x.es x.c))
theorem ok_Replica_take_copy {P : Program} {w : World} {K : PySem.W.Frag} {mg : Str → Option Value} {base : Heap}
    {C_Replica : Addr} (T_Replica : Tx_Replica K mg C_Replica)
    {C_Counter : Addr} (T_Counter : Tx_Counter K mg C_Counter)
    {f : Addr} {fd : FuncData} (D : Dm K C_Replica "take_copy" "Replica.take_copy" s_Replica_take_copy ["self", "index", "index_term", "pairs", "committed"] f fd)
    (b_len : mg "len" = none)
    (b_min : mg "min" = none)
    (b_enumerate : mg "enumerate" = none)
    (c_Replica_last_index : CalP P w K mg base CX0 1 C_Replica "last_index" (sp_Replica_last_index K C_Replica C_Counter))
    (c_Replica_got : CalM P w K mg base CX0 1 C_Replica "got" (sp_Replica_got K C_Replica C_Counter))
    (c_Replica_term_at : CalM P w K mg base CX0 2 C_Replica "term_at" (sp_Replica_term_at K C_Replica C_Counter))
    (c_Replica_commit : CalM P w K mg base CX0 3 C_Replica "commit" (sp_Replica_commit K C_Replica C_Counter))
    (c_Replica_take_entry : CalM P w K mg base CX0 4 C_Replica "take_entry" (sp_Replica_take_entry K C_Replica C_Counter)) : CalM P w K mg base CX0 5 C_Replica "take_copy" (sp_Replica_take_copy K C_Replica C_Counter) := by
  refine D.ok sc_Replica_take_copy (fun vs H Q E h => ?_) fun cdv A outer s H vs Q E hr h => ?_
  · obtain ⟨x, M, G, j, ⟨rfl, _⟩, _⟩ := h; rfl
  obtain ⟨⟨a, r, i, t, x, es, c⟩, M, G, j, ⟨rfl, hR, hC, i1, i2, hx, hz⟩, k⟩ := h
  dsimp only at hR hC i1 i2 hx hz k
  refine ⟨_, (pss_one (ps_if (PW.pt (pw_or (pt_cmp (pc_isN (pe_fld (pv 0) rfl))) (pw_or1 (pt_cmpR op_gt (pv 1) (pe_calP c_Replica_last_index T_Replica.cl hr (by first | decide | omega) (pv 0) (by rfl)) (nomark _)))))
(pss_one (ps_expr (pe_calM c_Replica_got T_Replica.cl hr (by first | decide | omega) (pv 0) (pa_cons pe_bl (pa_cons (pe_calP c_Replica_last_index T_Replica.cl hr (by first | decide | omega) (pv 0) (by rfl)) pa_nil)))))
(pss_one (ps_if (PW.pt (pw_and (pt_cmpR op_ge (pv 1) (pe_ix (ix_uK (K := K) rfl) (pe_fld (pv 0) rfl) pe_int (fun _ _ => rfl)) (nomark _)) (pw_and1 (pt_cmpR (op_uNeK (K := K) rfl hr) (pe_calM c_Replica_term_at T_Replica.cl hr (by first | decide | omega) (pv 0) (pa_cons (pv 1) pa_nil)) (pv 2) (nomark _)))))
(pss_one (ps_expr (pe_calM c_Replica_got T_Replica.cl hr (by first | decide | omega) (pv 0) (pa_cons pe_bl (pa_cons (pe_op op_sub (pv 1) pe_int) pa_nil)))))
(pss_cons (ps_for PassesOwn.never rfl (pi_enk (by rfl) b_enumerate (pa_cons (pv 3) pa_nil) (pk_cons (pe_op (op_uAddK (K := K) rfl) (pv 1) pe_int) pk_nil)) (pg_tup rfl (pgs_cons (pg_name (i := 5) sc_Replica_take_copy.nd rfl (Or.inl rfl)) (pgs_cons (pg_name (i := 6) sc_Replica_take_copy.nd rfl (Or.inl rfl)) pgs_nil)))
(pss_one (ps_expr (pe_calM c_Replica_take_entry T_Replica.cl hr (by first | decide | omega) (pv 0) (pa_cons (pv 5) (pa_cons (pv 6) pa_nil))))))
(pss_cons (ps_expr (pe_calM c_Replica_commit T_Replica.cl hr (by first | decide | omega) (pv 0) (pa_cons (pe_callB (call_min2 rfl) (by rfl) b_min bt_min (pa_cons (pv 4) (pa_cons (pe_op (op_uAddK (K := K) rfl) (pv 1) (pe_callB (call_uLenK (K := K) rfl) (by rfl) b_len PySem.boot_len (pa_cons (pv 3) pa_nil))) pa_nil))) pa_nil)))
(pss_one (ps_expr (pe_calM c_Replica_got T_Replica.cl hr (by first | decide | omega) (pv 0) (pa_cons pe_bl (pa_cons (pe_op (op_uAddK (K := K) rfl) (pv 1) (pe_callB (call_uLenK (K := K) rfl) (by rfl) b_len PySem.boot_len (pa_cons (pv 3) pa_nil))) pa_nil))))))))))), ?_⟩
  obtain ⟨tq, xs, rfl, hq, hxs⟩ := dp_tup hx
  have lx := dpAll_len hxs
  rw [List.length_map] at lx
  -- the copy is refused
  have no : ∀ (n : Int) (M1 G1 H1 : Hp), M1 = M → J M1 G1 H1 → Ex G G1 → copyR r i t es c = gotTo r false n → ∀ R : V → Hp → Prop, (∀ v M' G' H', J M' G' H' → Ex G G' → RE K C_Replica C_Counter M a M' G' (copyR r i t es c) → R v H') → sp_Replica_got K C_Replica C_Counter [.ref a.p, .bl false, .int n] H1 R E0 := fun n M1 G1 H1 em j1 e1 ec R kk => by
    subst em
    refine w_sg (α := GtP) ⟨a, r, false, n⟩ j1 ⟨rfl, hR.ex e1, by dsimp only; omega⟩ fun v M2 G2 H2 j2 e2 ⟨ev, hE⟩ => ?_
    exact kk _ _ _ _ j2 (e1.trans e2) (by rw [ec]; exact hE)
  walk_at "start"
  (have hop := RepAt.op hR; refine w_fldM j hop T_Replica.cl T_Replica.n_base fl_Replica_base ?_; clear hop; walk_at "go")
  rcases hR.bs with ⟨hb, hv⟩ | ⟨b, q, bm, bx, hb, hv, hbq, hm, hbx⟩
  · rw [hv, show decide (V.non = V.non) = true from decide_eq_true rfl]
    walk_at "go"
    (have hop := RepAt.op hR; refine w_methM j hop (no_Replica (by decide +kernel) (by decide +kernel) (by decide +kernel) (by decide +kernel) (by decide +kernel) (by decide +kernel) (by decide +kernel) (by decide +kernel) (by decide +kernel) (by decide +kernel) (by decide +kernel) (by decide +kernel) (by decide +kernel) (by decide +kernel) (by decide +kernel) (by decide +kernel) (by decide +kernel) (by decide +kernel) (by decide +kernel) (by decide +kernel) (by decide +kernel)) ?_; clear hop; walk_at "go")
    (have hop := RepAt.op hR; refine w_propM j hop ?_; clear hop)
    refine w_sg (a, r) j ⟨rfl, hR⟩ fun v M1 G1 H1 j1 e1 ⟨ev, em⟩ => ?_
    have ev : v = .int (lastI r) := ev
    subst ev
    walk_at "go"
    refine no _ _ _ _ em j1 e1 (by unfold copyR; rw [hb]) _ fun v M' G' H' j' e' hE => ?_
    walk_at "go"
    exact k _ _ _ _ j' e' ⟨rfl, hE⟩
  obtain ⟨⟨hb', h1, h2, h3, hs⟩, ag⟩ := hC b hb
  have el : lastI r = b.i + r.ents.length := by unfold lastI; rw [hb]
  have lz : r.ents.length ≤ r.sz := by unfold Rpl.sz; omega
  have ec : copyR r i t es c = if i > lastI r then gotTo r false (lastI r) else if b.i ≤ i ∧ termAt r i ≠ t then gotTo r false (i - 1) else gotTo (commitR (takeEnts r (i + 1) es) (minI c (i + es.length))) true (i + es.length) := by unfold copyR; rw [hb]
  rw [hv, show decide (V.ref q = V.non) = false from decide_eq_false fun z => nomatch z]
  walk_at "go"
  (have hop := RepAt.op hR; refine w_propM j hop ?_; clear hop)
  refine w_sg (a, r) j ⟨rfl, hR⟩ fun v M1 G1 H1 j1 e1 ⟨ev, em⟩ => ?_
  have ev : v = .int (lastI r) := ev
  subst ev em
  have hR1 := hR.ex e1
  walk_at "go"
  refine w_dec (fun c1 => ?_) (fun c1 => ?_)
  · walk_at "go"
    (have hop := RepAt.op hR1; refine w_methM j1 hop (no_Replica (by decide +kernel) (by decide +kernel) (by decide +kernel) (by decide +kernel) (by decide +kernel) (by decide +kernel) (by decide +kernel) (by decide +kernel) (by decide +kernel) (by decide +kernel) (by decide +kernel) (by decide +kernel) (by decide +kernel) (by decide +kernel) (by decide +kernel) (by decide +kernel) (by decide +kernel) (by decide +kernel) (by decide +kernel) (by decide +kernel) (by decide +kernel)) ?_; clear hop; walk_at "go")
    (have hop := RepAt.op hR1; refine w_propM j1 hop ?_; clear hop)
    refine w_sg (a, r) j1 ⟨rfl, hR1⟩ fun v M2 G2 H2 j2 e2 ⟨ev, em⟩ => ?_
    have ev : v = .int (lastI r) := ev
    subst ev
    walk_at "go"
    refine no _ _ _ _ em j2 (e1.trans e2) (by rw [ec, if_pos c1]) _ fun v M' G' H' j' e' hE => ?_
    walk_at "go"
    exact k _ _ _ _ j' e' ⟨rfl, hE⟩
  refine w_if (w_testP (fun b' H => ∃ G2, J M1 G2 H ∧ Ex G G2 ∧ b' = decide (b.i ≤ i ∧ termAt r i ≠ t)) ?_ fun hN => ?_)
  rotate_left
  · walk_at "go"
    (have hop := RepAt.op hR1; refine w_fldM j1 hop T_Replica.cl T_Replica.n_base fl_Replica_base ?_; clear hop; walk_at "go")
    rw [hv]
    refine w_ixT j1 (st_mono e1 hbq) atI_0 ?_
    walk_at "go"
    by_cases c2 : b.i ≤ i
    · rw [decide_eq_true c2]
      walk_at "go"
      (have hop := RepAt.op hR1; refine w_methM j1 hop (no_Replica (by decide +kernel) (by decide +kernel) (by decide +kernel) (by decide +kernel) (by decide +kernel) (by decide +kernel) (by decide +kernel) (by decide +kernel) (by decide +kernel) (by decide +kernel) (by decide +kernel) (by decide +kernel) (by decide +kernel) (by decide +kernel) (by decide +kernel) (by decide +kernel) (by decide +kernel) (by decide +kernel) (by decide +kernel) (by decide +kernel) (by decide +kernel)) ?_; clear hop; walk_at "go")
      refine w_sg (α := TaP) ⟨a, r, i, b⟩ j1 ⟨rfl, hR1, hb, c2, by dsimp only; omega⟩ fun v M2 G2 H2 j2 e2 ⟨em, ev⟩ => ?_
      have ev : v = .int (termAt r i) := ev
      subst ev em
      walk_at "go"
      refine hN _ _ ⟨G2, j2, e1.trans e2, ?_⟩
      rw [← decide_not]
      exact decide_eq_decide.mpr ⟨fun z => ⟨c2, z⟩, fun z => z.2⟩
    · rw [if_neg (by rw [decide_eq_false c2]; exact Bool.false_ne_true)]
      exact hN _ _ ⟨G1, j1, e1, (decide_eq_false fun z => c2 z.1).symm⟩
  rintro b' H2 ⟨G2, j2, e2, rfl⟩
  have hR2 := hR.ex e2
  refine w_dec (fun c2 => ?_) (fun c2 => ?_)
  · walk_at "go"
    (have hop := RepAt.op hR2; refine w_methM j2 hop (no_Replica (by decide +kernel) (by decide +kernel) (by decide +kernel) (by decide +kernel) (by decide +kernel) (by decide +kernel) (by decide +kernel) (by decide +kernel) (by decide +kernel) (by decide +kernel) (by decide +kernel) (by decide +kernel) (by decide +kernel) (by decide +kernel) (by decide +kernel) (by decide +kernel) (by decide +kernel) (by decide +kernel) (by decide +kernel) (by decide +kernel) (by decide +kernel)) ?_; clear hop; walk_at "go")
    walk_at "go"
    refine no _ _ _ _ rfl j2 e2 (by rw [ec, if_neg c1, if_pos c2]) _ fun v M' G' H' j' e' hE => ?_
    walk_at "go"
    exact k _ _ _ _ j' e' ⟨rfl, hE⟩
  rw [if_neg c1, if_neg c2] at ec
  rw [ec] at k
  walk_at "go"
  refine w_enk (xs := xs) (by omega) (by omega) (fun n σ H => ∃ M3 G3 a3 u w, J M3 G3 H ∧ Ex G2 G3 ∧ RepS K C_Replica C_Counter M1 a M3 G3 a3 (takeEnts r (i + 1) (es.take n)) ∧ σ = [some (.ref a.p), some (.int i), some (.int t), some (.ref tq), some (.int c), u, w]) ⟨_, G2, a, _, _, j2, Same.refl _, hR2.s, rfl⟩ ?_ ?_ ?_
  · rintro n σ H ⟨M3, G3, a3, u, w, j3, e3, _⟩
    exact st_mono j3.g (st_mono (e2.trans e3) hq)
  · rintro n x T σ H hx ⟨M3, G3, a3, u, w, j3, e3, hS, rfl⟩ hT
    have j4 := j3.newG (o := .tup [.int (i + 1 + (n : Nat)), x]) hT
    have e4 : Ex G3 _ := Ex.new (o := .tup [.int (i + 1 + (n : Nat)), x]) (j3.freeG hT)
    have hT4 : upd G3 T (.tup [.int (i + 1 + (n : Nat)), x]) T = some (.tup [.int (i + 1 + (n : Nat)), x]) := upd_same
    generalize upd G3 T (.tup [.int (i + 1 + (n : Nat)), x]) = G4 at *
    have nl : n < es.length := by
      have := (List.getElem?_eq_some_iff.mp hx).1
      omega
    have hee : es[n]? = some es[n] := List.getElem?_eq_getElem nl
    obtain ⟨x', hx', hxd⟩ := dpAll_at hxs (i := n) (d := rnD es[n]) (by rw [List.getElem?_map, hee]; rfl)
    rw [hx] at hx'
    obtain rfl := Option.some.inj hx'
    obtain ⟨o1, o2, o3⟩ := takeEnts_o (r := r) hb (by omega) h3 (by omega) (ag.take n)
    rw [List.length_take, Nat.min_eq_left (Nat.le_of_lt nl)] at o2 o3
    have hb3 : (takeEnts r (i + 1) (es.take n)).base = some b := by rw [o1.base]; exact hb
    have el3 : lastI (takeEnts r (i + 1) (es.take n)) = b.i + (takeEnts r (i + 1) (es.take n)).ents.length := by unfold lastI; rw [hb3]
    walk_at "go"
    refine w_gTup j4 (st_of hT4) rfl (w_gCons (w_gName (w_gCons (w_gName (w_gNil ?_)))))
    have hS4 := hS.ex e4
    walk_at "go"
    rw [← hS.f.pe]
    (have hop := RepAt.op hS4.t; refine w_methM j4 hop (no_Replica (by decide +kernel) (by decide +kernel) (by decide +kernel) (by decide +kernel) (by decide +kernel) (by decide +kernel) (by decide +kernel) (by decide +kernel) (by decide +kernel) (by decide +kernel) (by decide +kernel) (by decide +kernel) (by decide +kernel) (by decide +kernel) (by decide +kernel) (by decide +kernel) (by decide +kernel) (by decide +kernel) (by decide +kernel) (by decide +kernel) (by decide +kernel)) ?_; clear hop; walk_at "go")
    refine w_sg (α := TeP) ⟨a3, _, i + 1 + (n : Nat), x, es[n], b⟩ j4 ⟨rfl, hS4.t, hb3, by dsimp only; omega, dp_mono ((e2.trans e3).trans e4) hxd, by dsimp only; omega⟩ fun v M5 G5 H5 j5 e5 ⟨ev, a5, hS5⟩ => ?_
    walk_at "go"
    refine ⟨M5, G5, a5, _, _, j5, (e3.trans e4).trans e5, ?_, rfl⟩
    rw [take_oneR hee, takeEnts_snoc, List.length_take, Nat.min_eq_left (Nat.le_of_lt nl)]
    exact hS4.then hS5
  · rintro σ H ⟨M3, G3, a3, u, w, j3, e3, hS, rfl⟩
    rw [lx, List.take_length] at hS
    obtain ⟨o1, o2, o3⟩ := takeEnts_o (r := r) hb (by omega) h3 (by omega) ag
    obtain ⟨r3, hr3⟩ : ∃ r3, r3 = takeEnts r (i + 1) es := ⟨_, rfl⟩
    rw [← hr3] at o1 o2 o3 hS
    have p3 := hS.f.pe
    have hb3 : r3.base = some b := by rw [o1.base]; exact hb
    have ea3 : r3.ap = r.ap := by rw [o1.eq]
    have ec3 : r3.cm = r.cm := by rw [o1.eq]
    have es3 : r3.st = r.st := by rw [o1.eq]
    have ocm := o1.cm
    walk_at "go"
    rw [← p3]
    (have hop := RepAt.op hS.t; refine w_methM j3 hop (no_Replica (by decide +kernel) (by decide +kernel) (by decide +kernel) (by decide +kernel) (by decide +kernel) (by decide +kernel) (by decide +kernel) (by decide +kernel) (by decide +kernel) (by decide +kernel) (by decide +kernel) (by decide +kernel) (by decide +kernel) (by decide +kernel) (by decide +kernel) (by decide +kernel) (by decide +kernel) (by decide +kernel) (by decide +kernel) (by decide +kernel) (by decide +kernel)) ?_; clear hop; walk_at "go")
    refine w_lenT j3 (st_mono (e2.trans e3) hq) ?_
    walk_at "go"
    refine ⟨_, _, rfl, ?_⟩
    rw [lx, show (if i + (es.length : Int) < c then i + (es.length : Int) else c) = minI c (i + es.length) from rfl]
    have mle : minI c (i + es.length) ≤ i + es.length := by unfold minI; split <;> omega
    obtain ⟨mm, hmm⟩ : ∃ mm, mm = minI c (i + es.length) := ⟨_, rfl⟩
    rw [← hmm] at mle ⊢
    walk_at "go"
    refine w_sg (α := CoP) ⟨a3, r3, mm, b⟩ j3 ⟨rfl, hS.t, hb3, by dsimp only; omega, by dsimp only; omega, by dsimp only; omega, by dsimp only; rw [es3]; exact hs, by dsimp only; omega⟩ fun v M4 G4 H4 j4 e4 ⟨ev, a4, hS4⟩ => ?_
    obtain ⟨r4, hr4⟩ : ∃ r4, r4 = commitR r3 mm := ⟨_, rfl⟩
    have hS4 := hS.then hS4
    obtain ⟨a4, p4, hS4⟩ := hS4.pack (p := a3.p) hr4 (hS4.f.pe.trans p3.symm)
    have hz4 : r4.sz ≤ r3.sz + 2 * ((if mm > r3.cm then mm else r3.cm) - r3.ap).toNat := by rw [hr4]; exact iter_sz _ _
    have lz3 : r3.ents.length ≤ r3.sz := by unfold Rpl.sz; omega
    walk_at "go"
    rw [← p4]
    (have hop := RepAt.op hS4.t; refine w_methM j4 hop (no_Replica (by decide +kernel) (by decide +kernel) (by decide +kernel) (by decide +kernel) (by decide +kernel) (by decide +kernel) (by decide +kernel) (by decide +kernel) (by decide +kernel) (by decide +kernel) (by decide +kernel) (by decide +kernel) (by decide +kernel) (by decide +kernel) (by decide +kernel) (by decide +kernel) (by decide +kernel) (by decide +kernel) (by decide +kernel) (by decide +kernel) (by decide +kernel)) ?_; clear hop; walk_at "go")
    refine w_lenT j4 (st_mono ((e2.trans e3).trans e4) hq) ?_
    walk_at "go"
    rw [lx]
    refine w_sg (α := GtP) ⟨a4, r4, true, i + es.length⟩ j4 ⟨rfl, hS4.t, ?_⟩ fun v M5 G5 H5 j5 e5 ⟨ev, a5, hS5⟩ => ?_
    · dsimp only
      have : ((if mm > r3.cm then mm else r3.cm) - r3.ap).toNat ≤ r3.ents.length := by split <;> omega
      omega
    walk_at "go"
    rw [← hr3, ← hmm, ← hr4] at k
    exact k _ _ _ _ j5 (((e2.trans e3).trans e4).trans e5) ⟨rfl, a5, hS4.then hS5⟩
/-! ### replicas: bases -/
def moveBase (r : Rpl) (b : RB) : Rpl :=
  { r with base := some b, ents := if hasE r b.i b.t = true then r.ents.drop (b.i - (r.base.map (·.i)).getD 0).toNat else [], du := maxI b.i (minI r.du (lastI { r with base := some b, ents := if hasE r b.i b.t = true then r.ents.drop (b.i - (r.base.map (·.i)).getD 0).toNat else [] })) }
def restartAt (r : Rpl) (b : RB) (n : Int) : Rpl := { moveBase r b with records := r.records ++ [.tuple [.str "base", .int r.group, rbD b]], st := some (.cnt n), cm := b.i, ap := b.i }
def baseR (r : Rpl) (b : RB) (n : Int) : Rpl := gotTo (if hasE r b.i b.t = true then commitR r b.i else if r.base = none ∨ b.i > r.cm then restartAt r b n else r) true b.i
section
variable {K : PySem.W.Frag} {C CC : Addr} {M0 M G H : Hp} {a0 a : RepA} {r : Rpl} {q : Addr} {v : V}
/-- a new base, and a new list of entries -/
theorem RepS.s_enb (h : RepS K C CC M0 a0 M G a r) (hb : M q = none) {b : RB} {vs : List V} {es : List RN} (hv : Dp K G v (rbD b)) (hd : DpAll K G vs (es.map rnD)) : RepS K C CC M0 a0 (upd (upd M q (.lst vs)) a.p (repO C { a with bv := v, en := q, ev := vs } { r with base := some b, ents := es })) G { a with bv := v, en := q, ev := vs } { r with base := some b, ents := es } :=
  h.swap 1 { a with bv := v, en := q, ev := vs } _ hb (by decide) (fun _ z => nomatch z) rfl rfl rfl (fun _ z => nomatch z) ⟨hv, h.t.d.s, hd, h.t.d.le, h.t.d.rc, h.t.d.lt, h.t.d.an, h.t.d.bi, h.t.d.tq⟩
end
theorem hasE_in {r : Rpl} {i t : Int} (h : hasE r i t = true) : ∃ b, r.base = some b ∧ b.i < i ∧ i ≤ b.i + r.ents.length := by
  unfold hasE at h
  cases hb : r.base with
  | none => rw [hb] at h; cases h
  | some b =>
    rw [hb] at h
    dsimp only at h
    simp only [Bool.and_eq_true, decide_eq_true_eq] at h
    have el : lastI r = b.i + r.ents.length := by unfold lastI; rw [hb]
    exact ⟨b, rfl, h.1, by omega⟩
/-! ### Replica.move_base -/
abbrev s_Replica_move_base : Stmt := inClass (top 22) 11
abbrev n_Replica_move_base : List Str := ["self", "base", "kept"]
theorem sc_Replica_move_base : FnScope n_Replica_move_base ["self", "base"] (defScope s_Replica_move_base) := ⟨rfl, rfl, rfl, by decide +kernel, rfl, by decide +kernel, by decide +kernel⟩
structure MbP where
  a : RepA
  r : Rpl
  v : V
  b : RB
def sp_Replica_move_base (K : PySem.W.Frag) (C CC : Addr) : Sp := Sg (α := MbP) (fun x vs M G => vs = [.ref x.a.p, x.v] ∧ RepAt K C CC M G x.a x.r ∧ Dp K G x.v (rbD x.b)) (fun x M _ v M' G' => v = .non ∧ RE K C CC M x.a M' G' (moveBase x.r x.b))
theorem ok_Replica_move_base {P : Program} {w : World} {K : PySem.W.Frag} {mg : Str → Option Value} {base : Heap}
    {C_Replica : Addr} (T_Replica : Tx_Replica K mg C_Replica)
    {C_Counter : Addr} (T_Counter : Tx_Counter K mg C_Counter)
    {f : Addr} {fd : FuncData} (D : Dm K C_Replica "move_base" "Replica.move_base" s_Replica_move_base ["self", "base"] f fd)
    (b_max : mg "max" = none)
    (b_min : mg "min" = none)
    (c_Replica_last_index : CalP P w K mg base CX0 1 C_Replica "last_index" (sp_Replica_last_index K C_Replica C_Counter))
    (c_Replica_has_entry : CalM P w K mg base CX0 3 C_Replica "has_entry" (sp_Replica_has_entry K C_Replica C_Counter)) : CalM P w K mg base CX0 4 C_Replica "move_base" (sp_Replica_move_base K C_Replica C_Counter) := by
  refine D.ok sc_Replica_move_base (fun vs H Q E h => ?_) fun cdv A outer s H vs Q E hr h => ?_
  · obtain ⟨x, M, G, j, ⟨rfl, _⟩, _⟩ := h; rfl
  obtain ⟨⟨a, r, v, b⟩, M, G, j, ⟨rfl, hR, hb⟩, k⟩ := h
  dsimp only at hR hb k
  refine ⟨_, (pss_cons (ps_set (i := 2) sc_Replica_move_base.nd rfl (Or.inl rfl) (pe_lst pa_nil))
(pss_cons (ps_if (pt_val (pe_calM c_Replica_has_entry T_Replica.cl hr (by first | decide | omega) (pv 0) (pa_cons (pe_ix (ix_uK (K := K) rfl) (pv 1) pe_int (fun _ _ => rfl)) (pa_cons (pe_ix (ix_uK (K := K) rfl) (pv 1) pe_int (fun _ _ => rfl)) pa_nil))))
(pss_one (ps_set (i := 2) sc_Replica_move_base.nd rfl (Or.inl rfl) (pe_slice (sl_uK (K := K) rfl) (pe_fld (pv 0) rfl) (po_some (pe_op op_sub (pe_ix (ix_uK (K := K) rfl) (pv 1) pe_int (fun _ _ => rfl)) (pe_ix (ix_uK (K := K) rfl) (pe_fld (pv 0) rfl) pe_int (fun _ _ => rfl)))) po_none)))
pss_nil)
(pss_cons (ps_fld (pv 0) (pv 1) rfl)
(pss_cons (ps_fld (pv 0) (pv 2) rfl)
(pss_one (ps_fld (pv 0) (pe_callB (call_max2 rfl) (by rfl) b_max bt_max (pa_cons (pe_ix (ix_uK (K := K) rfl) (pv 1) pe_int (fun _ _ => rfl)) (pa_cons (pe_callB (call_min2 rfl) (by rfl) b_min bt_min (pa_cons (pe_fld (pv 0) rfl) (pa_cons (pe_calP c_Replica_last_index T_Replica.cl hr (by first | decide | omega) (pv 0) (by rfl)) pa_nil))) pa_nil))) rfl)))))), ?_⟩
  obtain ⟨bq, bm, bx, rfl, hbq, hbm, hbx⟩ := dp_rb hb
  obtain ⟨es, hes⟩ : ∃ es, es = if hasE r b.i b.t = true then r.ents.drop (b.i - (r.base.map (·.i)).getD 0).toNat else [] := ⟨_, rfl⟩
  have er : moveBase r b = { r with base := some b, ents := es, du := maxI b.i (minI r.du (lastI { r with base := some b, ents := es })) } := by unfold moveBase; rw [← hes]
  rw [er] at k
  cases hh : hasE r b.i b.t with
  | true =>
    obtain ⟨b0, hb0, i1, i2⟩ := hasE_in hh
    rcases hR.bs with ⟨hb', _⟩ | ⟨b', q0, m0, x0, hb', hv0, hq0, _, _⟩
    · rw [hb0] at hb'; cases hb'
    rw [hb0] at hb'
    obtain rfl := Option.some.inj hb'
    rw [hh, if_pos rfl, hb0] at hes
    obtain ⟨n, hn⟩ := Int.eq_ofNat_of_zero_le (show 0 ≤ b.i - b0.i by omega)
    have hes : es = r.ents.drop n := by rw [hes]; show r.ents.drop (b.i - b0.i).toNat = _; rw [hn, Int.toNat_natCast]
    walk_at "start"
    refine w_new j (Nat.zero_le _) fun q1 G1 H1 j1 e1 hq1 _ => ?_
    have hR1 := hR.ex e1
    walk_at "go"
    (have hop := RepAt.op hR1; refine w_methM j1 hop (no_Replica (by decide +kernel) (by decide +kernel) (by decide +kernel) (by decide +kernel) (by decide +kernel) (by decide +kernel) (by decide +kernel) (by decide +kernel) (by decide +kernel) (by decide +kernel) (by decide +kernel) (by decide +kernel) (by decide +kernel) (by decide +kernel) (by decide +kernel) (by decide +kernel) (by decide +kernel) (by decide +kernel) (by decide +kernel) (by decide +kernel) (by decide +kernel)) ?_; clear hop; walk_at "go")
    refine w_ixT j1 (st_mono e1 hbq) atI_0 ?_
    walk_at "go"
    refine w_ixT j1 (st_mono e1 hbq) (atI_nat (j := 1) rfl) ?_
    walk_at "go"
    refine w_sg (α := HeP) ⟨a, r, b.i, b.t⟩ j1 ⟨rfl, hR1⟩ fun v M2 G2 H2 j2 e2 ⟨em, ev⟩ => ?_
    have ev : v = .bl (hasE r b.i b.t) := ev
    rw [hh] at ev
    subst ev em
    have hR2 := hR1.ex e2
    walk_at "go"
    (have hop := RepAt.op hR2; refine w_fldM j2 hop T_Replica.cl T_Replica.n_entries fl_Replica_entries ?_; clear hop; walk_at "go")
    refine w_ixT j2 (st_mono (e1.trans e2) hbq) atI_0 ?_
    walk_at "go"
    (have hop := RepAt.op hR2; refine w_fldM j2 hop T_Replica.cl T_Replica.n_base fl_Replica_base ?_; clear hop; walk_at "go")
    rw [hv0]
    refine w_ixT j2 (st_mono (e1.trans e2) hq0) atI_0 ?_
    walk_at "go"
    refine w_slM j2 hR2.en (w_newM j2 (Nat.zero_le _) fun q3 H3 j3 n3 g3 => ?_)
    rw [hn, cutV_from] at j3
    have hRp := (hR2).plus (b := q3) (o := .lst (a.ev.drop n)) n3 (fun _ z => nomatch z)
    walk_at "go"
    (have hop := hRp.op; refine w_setX j3 hop T_Replica.cl T_Replica.n_base (by show 21 < 1000; decide) fun H4 j4 => ?_; clear hop; rw [sf_Replica_base] at j4)
    have j4 : J (upd (upd M2 q3 (.lst (a.ev.drop n))) a.p (repO C_Replica { a with bv := .ref bq } { r with base := some b })) G2 H4 := j4
    walk_at "go"
    have hop4 : (upd (upd M2 q3 (.lst (a.ev.drop n))) a.p (repO C_Replica { a with bv := .ref bq } { r with base := some b })) a.p = some (repO C_Replica { a with bv := .ref bq } { r with base := some b }) := upd_same
    (have hop := hop4; refine w_setX j4 hop T_Replica.cl T_Replica.n_entries (by show 21 < 1000; decide) fun H5 j5 => ?_; clear hop; rw [sf_Replica_entries] at j5)
    rw [upd_upd] at j5
    have hS5 := (hR2).s.s_enb (q := q3) (v := .ref bq) (b := b) (vs := (a.ev.drop n)) (es := es) n3 (dp_mono (e1.trans e2) hb) (by rw [hes, List.map_drop]; exact dpAll_mono (e1.trans e2) (dpAll_drop n hR.d.en))
    have j5 : J (upd (upd M2 q3 (.lst (a.ev.drop n))) a.p (repO C_Replica { a with bv := .ref bq, en := q3, ev := (a.ev.drop n) } { r with base := some b, ents := es })) G2 H5 := j5
    obtain ⟨r5, hr5⟩ : ∃ r5 : Rpl, r5 = { r with base := some b, ents := es } := ⟨_, rfl⟩
    obtain ⟨a5, p5, hS5⟩ := hS5.pack (p := a.p) hr5 rfl
    have hd5 : r5.du = r.du := by rw [hr5]
    walk_at "go"
    refine w_ixT j5 (st_mono (e1.trans e2) hbq) atI_0 ?_
    walk_at "go"
    rw [← p5]
    (have hop := RepAt.op hS5.t; refine w_fldM j5 hop T_Replica.cl T_Replica.n_durable fl_Replica_durable ?_; clear hop; walk_at "go")
    (have hop := RepAt.op hS5.t; refine w_propM j5 hop ?_; clear hop)
    refine w_sg (a5, r5) j5 ⟨rfl, hS5.t⟩ fun v M6 G6 H6 j6 e6 ⟨ev, em⟩ => ?_
    have ev : v = .int (lastI r5) := ev
    subst ev em
    have hS6 := hS5.ex e6
    walk_at "go"
    refine ⟨_, _, rfl, ?_⟩
    rw [show (if lastI r5 < r5.du then lastI r5 else r5.du) = minI r5.du (lastI r5) from rfl]
    walk_at "go"
    refine ⟨_, _, rfl, ?_⟩
    rw [show (if minI r5.du (lastI r5) > b.i then minI r5.du (lastI r5) else b.i) = maxI b.i (minI r5.du (lastI r5)) from rfl]
    walk_at "go"
    (have hop := hS6.t.op; refine w_setX j6 hop T_Replica.cl T_Replica.n_durable (by show 21 < 1000; decide) fun H7 j7 => ?_; clear hop; rw [sf_Replica_durable] at j7)
    have hS7 := hS6.f_du (maxI b.i (minI r5.du (lastI r5)))
    refine k _ _ _ _ j7 ((e1.trans e2).trans e6) ⟨rfl, a5, ?_⟩
    have ef : ({ r5 with du := maxI b.i (minI r5.du (lastI r5)) } : Rpl) = { r with base := some b, ents := es, du := maxI b.i (minI r.du (lastI { r with base := some b, ents := es })) } := by rw [hr5]
    rw [← ef]
    exact hS7
  | false =>
    rw [hh, if_neg Bool.false_ne_true] at hes
    walk_at "start"
    refine w_newM j (Nat.zero_le _) fun q3 H3 j3 n3 g3 => ?_
    have hR0 := hR.plus (b := q3) (o := .lst []) n3 (fun _ z => nomatch z)
    walk_at "go"
    (have hop := RepAt.op hR0; refine w_methM j3 hop (no_Replica (by decide +kernel) (by decide +kernel) (by decide +kernel) (by decide +kernel) (by decide +kernel) (by decide +kernel) (by decide +kernel) (by decide +kernel) (by decide +kernel) (by decide +kernel) (by decide +kernel) (by decide +kernel) (by decide +kernel) (by decide +kernel) (by decide +kernel) (by decide +kernel) (by decide +kernel) (by decide +kernel) (by decide +kernel) (by decide +kernel) (by decide +kernel)) ?_; clear hop; walk_at "go")
    refine w_ixT j3 hbq atI_0 ?_
    walk_at "go"
    refine w_ixT j3 hbq (atI_nat (j := 1) rfl) ?_
    walk_at "go"
    refine w_sg (α := HeP) ⟨a, r, b.i, b.t⟩ j3 ⟨rfl, hR0⟩ fun v M2 G2 H2 j2 e2 ⟨em, ev⟩ => ?_
    have ev : v = .bl (hasE r b.i b.t) := ev
    rw [hh] at ev
    subst ev em
    have hRp := (hR.ex e2).plus (b := q3) (o := .lst []) n3 (fun _ z => nomatch z)
    walk_at "go"
    (have hop := hRp.op; refine w_setX j2 hop T_Replica.cl T_Replica.n_base (by show 21 < 1000; decide) fun H4 j4 => ?_; clear hop; rw [sf_Replica_base] at j4)
    have j4 : J (upd (upd M q3 (.lst [])) a.p (repO C_Replica { a with bv := .ref bq } { r with base := some b })) G2 H4 := j4
    walk_at "go"
    have hop4 : (upd (upd M q3 (.lst [])) a.p (repO C_Replica { a with bv := .ref bq } { r with base := some b })) a.p = some (repO C_Replica { a with bv := .ref bq } { r with base := some b }) := upd_same
    (have hop := hop4; refine w_setX j4 hop T_Replica.cl T_Replica.n_entries (by show 21 < 1000; decide) fun H5 j5 => ?_; clear hop; rw [sf_Replica_entries] at j5)
    rw [upd_upd] at j5
    have hS5 := (hR.ex e2).s.s_enb (q := q3) (v := .ref bq) (b := b) (vs := []) (es := es) n3 (dp_mono e2 hb) (by rw [hes]; exact .nil)
    have j5 : J (upd (upd M q3 (.lst [])) a.p (repO C_Replica { a with bv := .ref bq, en := q3, ev := [] } { r with base := some b, ents := es })) G2 H5 := j5
    obtain ⟨r5, hr5⟩ : ∃ r5 : Rpl, r5 = { r with base := some b, ents := es } := ⟨_, rfl⟩
    obtain ⟨a5, p5, hS5⟩ := hS5.pack (p := a.p) hr5 rfl
    have hd5 : r5.du = r.du := by rw [hr5]
    walk_at "go"
    refine w_ixT j5 (st_mono e2 hbq) atI_0 ?_
    walk_at "go"
    rw [← p5]
    (have hop := RepAt.op hS5.t; refine w_fldM j5 hop T_Replica.cl T_Replica.n_durable fl_Replica_durable ?_; clear hop; walk_at "go")
    (have hop := RepAt.op hS5.t; refine w_propM j5 hop ?_; clear hop)
    refine w_sg (a5, r5) j5 ⟨rfl, hS5.t⟩ fun v M6 G6 H6 j6 e6 ⟨ev, em⟩ => ?_
    have ev : v = .int (lastI r5) := ev
    subst ev em
    have hS6 := hS5.ex e6
    walk_at "go"
    refine ⟨_, _, rfl, ?_⟩
    rw [show (if lastI r5 < r5.du then lastI r5 else r5.du) = minI r5.du (lastI r5) from rfl]
    walk_at "go"
    refine ⟨_, _, rfl, ?_⟩
    rw [show (if minI r5.du (lastI r5) > b.i then minI r5.du (lastI r5) else b.i) = maxI b.i (minI r5.du (lastI r5)) from rfl]
    walk_at "go"
    (have hop := hS6.t.op; refine w_setX j6 hop T_Replica.cl T_Replica.n_durable (by show 21 < 1000; decide) fun H7 j7 => ?_; clear hop; rw [sf_Replica_durable] at j7)
    have hS7 := hS6.f_du (maxI b.i (minI r5.du (lastI r5)))
    refine k _ _ _ _ j7 (e2.trans e6) ⟨rfl, a5, ?_⟩
    have ef : ({ r5 with du := maxI b.i (minI r5.du (lastI r5)) } : Rpl) = { r with base := some b, ents := es, du := maxI b.i (minI r.du (lastI { r with base := some b, ents := es })) } := by rw [hr5]
    rw [← ef]
    exact hS7
/-! ### Replica.restart_at -/
abbrev s_Replica_restart_at : Stmt := inClass (top 22) 12
abbrev n_Replica_restart_at : List Str := ["self", "base"]
theorem sc_Replica_restart_at : FnScope n_Replica_restart_at ["self", "base"] (defScope s_Replica_restart_at) := ⟨rfl, rfl, rfl, by decide +kernel, rfl, by decide +kernel, by decide +kernel⟩
structure RaP where
  a : RepA
  r : Rpl
  v : V
  b : RB
  n : Int
def sp_Replica_restart_at (K : PySem.W.Frag) (C CC : Addr) : Sp := Sg (α := RaP) (fun x vs M G => vs = [.ref x.a.p, x.v] ∧ RepAt K C CC M G x.a x.r ∧ Dp K G x.v (rbD x.b) ∧ x.b.pic = cntD x.n ∧ x.r.sz ≤ 900000) (fun x M _ v M' G' => v = .non ∧ RE K C CC M x.a M' G' (restartAt x.r x.b x.n))
theorem ok_Replica_restart_at {P : Program} {w : World} {K : PySem.W.Frag} {mg : Str → Option Value} {base : Heap}
    {C_Replica : Addr} (T_Replica : Tx_Replica K mg C_Replica)
    {C_Counter : Addr} (T_Counter : Tx_Counter K mg C_Counter)
    {f : Addr} {fd : FuncData} (D : Dm K C_Replica "restart_at" "Replica.restart_at" s_Replica_restart_at ["self", "base"] f fd)
    (c_state_of : Cal P w K mg base CX0 3 "state_of" (sp_state_of K C_Counter))
    (c_Replica_move_base : CalM P w K mg base CX0 4 C_Replica "move_base" (sp_Replica_move_base K C_Replica C_Counter)) : CalM P w K mg base CX0 5 C_Replica "restart_at" (sp_Replica_restart_at K C_Replica C_Counter) := by
  refine D.ok sc_Replica_restart_at (fun vs H Q E h => ?_) fun cdv A outer s H vs Q E hr h => ?_
  · obtain ⟨x, M, G, j, ⟨rfl, _⟩, _⟩ := h; rfl
  obtain ⟨⟨a, r, v, b, n⟩, M, G, j, ⟨rfl, hR, hb, hp, hz⟩, k⟩ := h
  dsimp only at hR hb hp hz k
  refine ⟨_, (pss_cons (ps_expr (pe_calM c_Replica_move_base T_Replica.cl hr (by first | decide | omega) (pv 0) (pa_cons (pv 1) pa_nil)))
(pss_cons (ps_expr (pe_bm PySem.F.plainAttrs_list PySem.F.slot_list_append PySem.F.type_list_append mt_append (pe_fld (pv 0) rfl) (pa_cons (pe_tup (pa_cons pe_str (pa_cons (pe_fld (pv 0) rfl) (pa_cons (pv 1) pa_nil)))) pa_nil)))
(pss_cons (ps_fld (pv 0) (pe_cal c_state_of hr (by first | decide | omega) (by rfl) (pa_cons (pv 1) pa_nil)) rfl)
(pss_cons (ps_fld (pv 0) (pe_ix (ix_uK (K := K) rfl) (pv 1) pe_int (fun _ _ => rfl)) rfl)
(pss_one (ps_fld (pv 0) (pe_ix (ix_uK (K := K) rfl) (pv 1) pe_int (fun _ _ => rfl)) rfl)))))), ?_⟩
  obtain ⟨bq, bm, bx, rfl, hbq, hbm, hbx⟩ := dp_rb hb
  walk_at "start"
  (have hop := RepAt.op hR; refine w_methM j hop (no_Replica (by decide +kernel) (by decide +kernel) (by decide +kernel) (by decide +kernel) (by decide +kernel) (by decide +kernel) (by decide +kernel) (by decide +kernel) (by decide +kernel) (by decide +kernel) (by decide +kernel) (by decide +kernel) (by decide +kernel) (by decide +kernel) (by decide +kernel) (by decide +kernel) (by decide +kernel) (by decide +kernel) (by decide +kernel) (by decide +kernel) (by decide +kernel)) ?_; clear hop; walk_at "go")
  refine w_sg (α := MbP) ⟨a, r, .ref bq, b⟩ j ⟨rfl, hR, hb⟩ fun v M1 G1 H1 j1 e1 ⟨ev, a1, hS1⟩ => ?_
  obtain ⟨r1, hr1⟩ : ∃ r1, r1 = moveBase r b := ⟨_, rfl⟩
  obtain ⟨a1, p1, hS1⟩ := hS1.pack (p := a.p) hr1 hS1.f.pe
  have hg1 : r1.group = r.group := by rw [hr1]; rfl
  have hc1 : r1.records = r.records := by rw [hr1]; rfl
  have lc := dpAll_len hS1.t.d.rc
  have lz : r.records.length ≤ r.sz := by unfold Rpl.sz; omega
  walk_at "go"
  rw [← p1]
  (have hop := RepAt.op hS1.t; refine w_fldM j1 hop T_Replica.cl T_Replica.n_records fl_Replica_records ?_; clear hop; walk_at "go")
  refine ⟨ty_listM j1 hS1.t.o_rc, ?_⟩
  walk_at "go"
  (have hop := RepAt.op hS1.t; refine w_fldM j1 hop T_Replica.cl T_Replica.n_group fl_Replica_group ?_; clear hop; walk_at "go")
  rw [hg1]
  refine w_new j1 (by show 3 ≤ sizeLine; decide) fun t1 G2 H2 j2 e2 ht1 _ => ?_
  have hS2 := hS1.ex e2
  walk_at "go"
  refine w_appendA j2 hS2.t.o_rc (by rw [lc, hc1]; omega) fun H3 j3 => ?_
  have hb2 := dp_mono (e1.trans e2) hb
  have hS3 := hS2.a_rc (.tup (st_of ht1) (.cons (.str _) (.cons (.int _) (.cons hb2 .nil))))
  obtain ⟨r3, hr3⟩ : ∃ r3 : Rpl, r3 = { r1 with records := r1.records ++ [.tuple [.str "base", .int r.group, rbD b]] } := ⟨_, rfl⟩
  obtain ⟨a3, p3, hS3⟩ := hS3.pack (p := a1.p) hr3 rfl
  walk_at "go"
  rw [← p3]
  refine w_sg (α := SoP) ⟨.ref bq, b, n⟩ j3 ⟨rfl, hb2, hp⟩ fun v M4 G4 H4 j4 e4 ⟨s, dx, ev, nM, em⟩ => ?_
  subst ev em
  have hS4 := (hS3.ex e4).stt (n := n) (dx := dx) nM
  have ho := upd_ne' (a := s) (o := .ins C_Counter dx (fl_Counter (.int n))) hS3.t.op (ne_of_none hS3.t.op nM)
  have hq4 := st_mono ((e1.trans e2).trans e4) hbq
  walk_at "go"
  (have hop := ho; refine w_setX j4 hop T_Replica.cl T_Replica.n_state (by show 21 < 1000; decide) fun H5 j5 => ?_; clear hop; rw [sf_Replica_state] at j5)
  walk_at "go"
  refine w_ixT j5 hq4 atI_0 ?_
  walk_at "go"
  (have hop := hS4.t.op; refine w_setX j5 hop T_Replica.cl T_Replica.n_committed (by show 21 < 1000; decide) fun H6 j6 => ?_; clear hop; rw [sf_Replica_committed] at j6)
  have hS6 := hS4.f_cm b.i
  walk_at "go"
  refine w_ixT j6 hq4 atI_0 ?_
  walk_at "go"
  (have hop := hS6.t.op; refine w_setX j6 hop T_Replica.cl T_Replica.n_applied (by show 21 < 1000; decide) fun H7 j7 => ?_; clear hop; rw [sf_Replica_applied] at j7)
  have hS7 := hS6.f_ap b.i
  have ef : ({ r3 with st := some (.cnt n), cm := b.i, ap := b.i } : Rpl) = restartAt r b n := by rw [hr3, hr1]; rfl
  rw [← ef] at k
  exact k _ _ _ _ j7 ((e1.trans e2).trans e4) ⟨rfl, _, hS7⟩
/-! ### Replica.take_base -/
abbrev s_Replica_take_base : Stmt := inClass (top 22) 38
abbrev n_Replica_take_base : List Str := ["self", "base"]
theorem sc_Replica_take_base : FnScope n_Replica_take_base ["self", "base"] (defScope s_Replica_take_base) := ⟨rfl, rfl, rfl, by decide +kernel, rfl, by decide +kernel, by decide +kernel⟩
structure TbP where
  a : RepA
  r : Rpl
  v : V
  b : RB
  n : Int
def sp_Replica_take_base (K : PySem.W.Frag) (C CC : Addr) : Sp := Sg (α := TbP) (fun x vs M G => vs = [.ref x.a.p, x.v] ∧ RepAt K C CC M G x.a x.r ∧ Dp K G x.v (rbD x.b) ∧ x.b.pic = cntD x.n ∧ (∀ b0, x.r.base = some b0 → RunOk x.r b0) ∧ x.r.sz ≤ 60000) (fun x M _ v M' G' => v = .non ∧ RE K C CC M x.a M' G' (baseR x.r x.b x.n))
theorem ok_Replica_take_base {P : Program} {w : World} {K : PySem.W.Frag} {mg : Str → Option Value} {base : Heap}
    {C_Replica : Addr} (T_Replica : Tx_Replica K mg C_Replica)
    {C_Counter : Addr} (T_Counter : Tx_Counter K mg C_Counter)
    {f : Addr} {fd : FuncData} (D : Dm K C_Replica "take_base" "Replica.take_base" s_Replica_take_base ["self", "base"] f fd)
    (c_Replica_got : CalM P w K mg base CX0 1 C_Replica "got" (sp_Replica_got K C_Replica C_Counter))
    (c_Replica_has_entry : CalM P w K mg base CX0 3 C_Replica "has_entry" (sp_Replica_has_entry K C_Replica C_Counter))
    (c_Replica_commit : CalM P w K mg base CX0 3 C_Replica "commit" (sp_Replica_commit K C_Replica C_Counter))
    (c_Replica_restart_at : CalM P w K mg base CX0 5 C_Replica "restart_at" (sp_Replica_restart_at K C_Replica C_Counter)) : CalM P w K mg base CX0 6 C_Replica "take_base" (sp_Replica_take_base K C_Replica C_Counter) := by
  refine D.ok sc_Replica_take_base (fun vs H Q E h => ?_) fun cdv A outer s H vs Q E hr h => ?_
  · obtain ⟨x, M, G, j, ⟨rfl, _⟩, _⟩ := h; rfl
  obtain ⟨⟨a, r, v, b, n⟩, M, G, j, ⟨rfl, hR, hb, hp, hu, hz⟩, k⟩ := h
  dsimp only at hR hb hp hu hz k
  refine ⟨_, (pss_cons (ps_if (pt_val (pe_calM c_Replica_has_entry T_Replica.cl hr (by first | decide | omega) (pv 0) (pa_cons (pe_ix (ix_uK (K := K) rfl) (pv 1) pe_int (fun _ _ => rfl)) (pa_cons (pe_ix (ix_uK (K := K) rfl) (pv 1) pe_int (fun _ _ => rfl)) pa_nil))))
(pss_one (ps_expr (pe_calM c_Replica_commit T_Replica.cl hr (by first | decide | omega) (pv 0) (pa_cons (pe_ix (ix_uK (K := K) rfl) (pv 1) pe_int (fun _ _ => rfl)) pa_nil))))
(pss_one (ps_if (PW.pt (pw_or (pt_cmp (pc_isN (pe_fld (pv 0) rfl))) (pw_or1 (pt_cmpR op_gt (pe_ix (ix_uK (K := K) rfl) (pv 1) pe_int (fun _ _ => rfl)) (pe_fld (pv 0) rfl) (nomark _)))))
(pss_one (ps_expr (pe_calM c_Replica_restart_at T_Replica.cl hr (by first | decide | omega) (pv 0) (pa_cons (pv 1) pa_nil))))
pss_nil)))
(pss_one (ps_expr (pe_calM c_Replica_got T_Replica.cl hr (by first | decide | omega) (pv 0) (pa_cons pe_bl (pa_cons (pe_ix (ix_uK (K := K) rfl) (pv 1) pe_int (fun _ _ => rfl)) pa_nil)))))), ?_⟩
  obtain ⟨bq, bm, bx, rfl, hbq, hbm, hbx⟩ := dp_rb hb
  obtain ⟨r2, hr2⟩ : ∃ r2, r2 = if hasE r b.i b.t = true then commitR r b.i else if r.base = none ∨ b.i > r.cm then restartAt r b n else r := ⟨_, rfl⟩
  have er : baseR r b n = gotTo r2 true b.i := by unfold baseR; rw [← hr2]
  have lze : r.ents.length ≤ r.sz := by unfold Rpl.sz; omega
  try dsimp only [cxOf]
  refine w_seqO (fun σ H => ∃ M2 G2 a2, J M2 G2 H ∧ Ex G G2 ∧ RepS K C_Replica C_Counter M a M2 G2 a2 r2 ∧ r2.sz ≤ 800000 ∧ σ = [some (.ref a2.p), some (.ref bq)]) ?_ fun N hN => ?_
  rotate_left
  · walk_at "go"
    (have hop := RepAt.op hR; refine w_methM j hop (no_Replica (by decide +kernel) (by decide +kernel) (by decide +kernel) (by decide +kernel) (by decide +kernel) (by decide +kernel) (by decide +kernel) (by decide +kernel) (by decide +kernel) (by decide +kernel) (by decide +kernel) (by decide +kernel) (by decide +kernel) (by decide +kernel) (by decide +kernel) (by decide +kernel) (by decide +kernel) (by decide +kernel) (by decide +kernel) (by decide +kernel) (by decide +kernel)) ?_; clear hop; walk_at "go")
    refine w_ixT j hbq atI_0 ?_
    walk_at "go"
    refine w_ixT j hbq (atI_nat (j := 1) rfl) ?_
    walk_at "go"
    refine w_sg (α := HeP) ⟨a, r, b.i, b.t⟩ j ⟨rfl, hR⟩ fun v M1 G1 H1 j1 e1 ⟨em, ev⟩ => ?_
    have ev : v = .bl (hasE r b.i b.t) := ev
    subst ev em
    have hR1 := hR.ex e1
    cases hh : hasE r b.i b.t with
    | true =>
      obtain ⟨b0, hb0, i1, i2⟩ := hasE_in hh
      have u := hu b0 hb0
      have u1 := u.a1
      have u2 := u.a2
      have u3 := u.c2
      walk_at "go"
      (have hop := RepAt.op hR1; refine w_methM j1 hop (no_Replica (by decide +kernel) (by decide +kernel) (by decide +kernel) (by decide +kernel) (by decide +kernel) (by decide +kernel) (by decide +kernel) (by decide +kernel) (by decide +kernel) (by decide +kernel) (by decide +kernel) (by decide +kernel) (by decide +kernel) (by decide +kernel) (by decide +kernel) (by decide +kernel) (by decide +kernel) (by decide +kernel) (by decide +kernel) (by decide +kernel) (by decide +kernel)) ?_; clear hop; walk_at "go")
      refine w_ixT j1 (st_mono e1 hbq) atI_0 ?_
      walk_at "go"
      refine w_sg (α := CoP) ⟨a, r, b.i, b0⟩ j1 ⟨rfl, hR1, hb0, u1, i2, u3, u.s, by dsimp only; omega⟩ fun v M2 G2 H2 j2 e2 ⟨ev, a2, hS2⟩ => ?_
      have p2 := hS2.f.pe
      have es : r2 = commitR r b.i := by rw [hr2, if_pos hh]
      walk_at "go"
      refine hN _ _ ⟨_, G2, a2, j2, e1.trans e2, by rw [es]; exact hS2, ?_, by rw [p2]; rfl⟩
      rw [es]
      have := iter_sz ((if b.i > r.cm then b.i else r.cm) - r.ap).toNat { r with cm := if b.i > r.cm then b.i else r.cm }
      have e2 : ({ r with cm := if b.i > r.cm then b.i else r.cm } : Rpl).sz = r.sz := rfl
      rw [e2] at this
      have q : ((if b.i > r.cm then b.i else r.cm) - r.ap).toNat ≤ r.ents.length := by split <;> omega
      exact Nat.le_trans this (by omega)
    | false =>
      have nh : ¬ hasE r b.i b.t = true := by rw [hh]; exact Bool.false_ne_true
      have go : (r.base = none ∨ b.i > r.cm) → ∀ (M2 G2 : Hp) (H2 : Hp) (a2 : RepA), J M2 G2 H2 → Ex G1 G2 → RepS K C_Replica C_Counter M1 a M2 G2 a2 (restartAt r b n) → N [some (.ref a2.p), some (.ref bq)] H2 := fun z M2 G2 H2 a2 j2 e2 hS2 => by
        have es : r2 = restartAt r b n := by rw [hr2, if_neg nh, if_pos z]
        refine hN _ _ ⟨M2, G2, a2, j2, e1.trans e2, by rw [es]; exact hS2, ?_, rfl⟩
        rw [es]
        have l1 : (restartAt r b n).ents.length ≤ r.ents.length := by
          show (if hasE r b.i b.t = true then r.ents.drop _ else []).length ≤ _
          split
          · rw [List.length_drop]; omega
          · exact Nat.zero_le _
        have l2 : (restartAt r b n).records.length = r.records.length + 1 := by
          show (r.records ++ [_]).length = _
          rw [List.length_append]; rfl
        unfold Rpl.sz at hz ⊢
        rw [l2]
        show (restartAt r b n).ents.length + r.ledger.length + _ + r.letters.length + r.answers.length + r.votes.length + r.ahead.length + r.known.length + r.tokens.length ≤ _
        omega
      walk_at "go"
      (have hop := RepAt.op hR1; refine w_fldM j1 hop T_Replica.cl T_Replica.n_base fl_Replica_base ?_; clear hop; walk_at "go")
      rcases hR1.bs with ⟨hb0, hv⟩ | ⟨b0, q0, m0, x0, hb0, hv, hq0, _, _⟩
      · rw [hv, show decide (V.non = V.non) = true from decide_eq_true rfl]
        walk_at "go"
        (have hop := RepAt.op hR1; refine w_methM j1 hop (no_Replica (by decide +kernel) (by decide +kernel) (by decide +kernel) (by decide +kernel) (by decide +kernel) (by decide +kernel) (by decide +kernel) (by decide +kernel) (by decide +kernel) (by decide +kernel) (by decide +kernel) (by decide +kernel) (by decide +kernel) (by decide +kernel) (by decide +kernel) (by decide +kernel) (by decide +kernel) (by decide +kernel) (by decide +kernel) (by decide +kernel) (by decide +kernel)) ?_; clear hop; walk_at "go")
        refine w_sg (α := RaP) ⟨a, r, .ref bq, b, n⟩ j1 ⟨rfl, hR1, dp_mono e1 hb, hp, by dsimp only; omega⟩ fun v M2 G2 H2 j2 e2 ⟨ev, a2, hS2⟩ => ?_
        walk_at "go"
        rw [← hS2.f.pe]
        exact go (.inl hb0) _ _ _ a2 j2 e2 hS2
      · rw [hv, show decide (V.ref q0 = V.non) = false from decide_eq_false fun z => nomatch z]
        walk_at "go"
        refine w_ixT j1 (st_mono e1 hbq) atI_0 ?_
        walk_at "go"
        (have hop := RepAt.op hR1; refine w_fldM j1 hop T_Replica.cl T_Replica.n_committed fl_Replica_committed ?_; clear hop; walk_at "go")
        refine w_dec (fun c => ?_) (fun c => ?_)
        · walk_at "go"
          (have hop := RepAt.op hR1; refine w_methM j1 hop (no_Replica (by decide +kernel) (by decide +kernel) (by decide +kernel) (by decide +kernel) (by decide +kernel) (by decide +kernel) (by decide +kernel) (by decide +kernel) (by decide +kernel) (by decide +kernel) (by decide +kernel) (by decide +kernel) (by decide +kernel) (by decide +kernel) (by decide +kernel) (by decide +kernel) (by decide +kernel) (by decide +kernel) (by decide +kernel) (by decide +kernel) (by decide +kernel)) ?_; clear hop; walk_at "go")
          refine w_sg (α := RaP) ⟨a, r, .ref bq, b, n⟩ j1 ⟨rfl, hR1, dp_mono e1 hb, hp, by dsimp only; omega⟩ fun v M2 G2 H2 j2 e2 ⟨ev, a2, hS2⟩ => ?_
          walk_at "go"
          rw [← hS2.f.pe]
          exact go (.inr c) _ _ _ a2 j2 e2 hS2
        · walk_at "go"
          exact hN _ _ ⟨_, G1, a, j1, e1, by rw [hr2, if_neg nh, if_neg fun z => z.elim (fun z => by rw [hb0] at z; cases z) c]; exact hR1.s, by rw [hr2, if_neg nh, if_neg fun z => z.elim (fun z => by rw [hb0] at z; cases z) c]; omega, rfl⟩
  rintro σ H ⟨M2, G2, a2, j2, e2, hS2, hz2, rfl⟩
  rw [er] at k
  walk_at "go"
  (have hop := RepAt.op hS2.t; refine w_methM j2 hop (no_Replica (by decide +kernel) (by decide +kernel) (by decide +kernel) (by decide +kernel) (by decide +kernel) (by decide +kernel) (by decide +kernel) (by decide +kernel) (by decide +kernel) (by decide +kernel) (by decide +kernel) (by decide +kernel) (by decide +kernel) (by decide +kernel) (by decide +kernel) (by decide +kernel) (by decide +kernel) (by decide +kernel) (by decide +kernel) (by decide +kernel) (by decide +kernel)) ?_; clear hop; walk_at "go")
  refine w_ixT j2 (st_mono e2 hbq) atI_0 ?_
  walk_at "go"
  refine w_sg (α := GtP) ⟨a2, r2, true, b.i⟩ j2 ⟨rfl, hS2.t, by dsimp only; omega⟩ fun v M3 G3 H3 j3 e3 ⟨ev, a3, hS3⟩ => ?_
  walk_at "go"
  exact k _ _ _ _ j3 (e2.trans e3) ⟨rfl, a3, hS2.then hS3⟩
/-! ### Replica.kept_index -/
abbrev s_Replica_kept_index : Stmt := inClass (top 22) 27
abbrev n_Replica_kept_index : List Str := ["self", "members", "reached", "index", "having", "member"]
theorem sc_Replica_kept_index : FnScope n_Replica_kept_index ["self"] (defScope s_Replica_kept_index) := ⟨rfl, rfl, rfl, by decide +kernel, rfl, by decide +kernel, by decide +kernel⟩
structure KiP where
  a : RepA
  r : Rpl
  b : RB
def sp_Replica_kept_index (K : PySem.W.Frag) (C CC : Addr) : Sp := Sg (α := KiP) (fun x vs M G => vs = [.ref x.a.p] ∧ RepAt K C CC M G x.a x.r ∧ OkR x.r ∧ x.r.base = some x.b ∧ KnOk x.r ∧ x.b.i ≤ x.r.cm ∧ x.r.cm ≤ lastI x.r ∧ x.r.sz ≤ 900000) (fun x M _ v M' _ => M' = M ∧ v = .int (keptI x.r))
theorem kept_step {r : Rpl} {k : Nat} : keptFrom r (k + 1) = if termAt r (r.cm + (k + 1 : Nat)) = r.term ∧ majB (havingR r (r.cm + (k + 1 : Nat))) (membersR r) = true then r.cm + (k + 1 : Nat) else keptFrom r k := rfl
theorem ok_Replica_kept_index {P : Program} {w : World} {K : PySem.W.Frag} {mg : Str → Option Value} {base : Heap}
    {C_Replica : Addr} (T_Replica : Tx_Replica K mg C_Replica)
    {C_Counter : Addr} (T_Counter : Tx_Counter K mg C_Counter)
    {f : Addr} {fd : FuncData} (D : Dm K C_Replica "kept_index" "Replica.kept_index" s_Replica_kept_index ["self"] f fd)
    (b_range : mg "range" = none)
    (c_Replica_last_index : CalP P w K mg base CX0 1 C_Replica "last_index" (sp_Replica_last_index K C_Replica C_Counter))
    (c_is_majority : Cal P w K mg base CX0 1 "is_majority" (sp_is_majority K))
    (c_Replica_term_at : CalM P w K mg base CX0 2 C_Replica "term_at" (sp_Replica_term_at K C_Replica C_Counter))
    (c_Replica_members : CalP P w K mg base CX0 4 C_Replica "members" (sp_Replica_members K C_Replica C_Counter)) : CalM P w K mg base CX0 6 C_Replica "kept_index" (sp_Replica_kept_index K C_Replica C_Counter) := by
  refine D.ok sc_Replica_kept_index (fun vs H Q E h => ?_) fun cdv A outer s H vs Q E hr h => ?_
  · obtain ⟨x, M, G, j, ⟨rfl, _⟩, _⟩ := h; rfl
  obtain ⟨⟨a, r, b⟩, M, G, j, ⟨rfl, hR, hO, hb, hK, hc, hc2, hz⟩, k⟩ := h
  dsimp only at hR hO hb hK hc hc2 hz k
  refine ⟨_, (pss_cons (ps_set (i := 1) sc_Replica_kept_index.nd rfl (Or.inl rfl) (pe_calP c_Replica_members T_Replica.cl hr (by first | decide | omega) (pv 0) (by rfl)))
(pss_cons (ps_set (i := 2) sc_Replica_kept_index.nd rfl (Or.inr rfl) (pe_dcG (o0 := .dK []) (own := [("member", 5)]) (.inl rfl) (hu_of hr) rfl sc_Replica_kept_index.nd (pi_tup (pv 1)) (blkOk_by (own := [("member", 5)]) (N := n_Replica_kept_index) (sc := defScope s_Replica_kept_index) (by decide +kernel)) (fun _ _ _ _ _ => (pg_name (i := 5) sc_Replica_kept_index.nd rfl (Or.inl rfl))) (fun _ _ _ _ _ => pts_one (pt_cmpR (op_uNeK (K := K) rfl hr) (pv 5) (pe_fldK (K := K) rfl (pv 0) rfl) (nomark _))) (fun _ _ _ _ _ => (pv 5)) (fun _ _ _ _ _ => (pe_dget (hu_of hr) (pe_fldK (K := K) rfl (pv 0) rfl) (pv 5) (fun _ _ => rfl)))))
(pss_cons (ps_if (pt_cmpR (op_inK (K := K) rfl) (pe_fld (pv 0) rfl) (pv 1) (by with_unfolding_all rfl))
(pss_one (ps_dput (hu_of hr) (pv 2) (pe_fld (pv 0) rfl) (pe_fld (pv 0) rfl) rfl))
pss_nil)
(pss_cons (ps_for PassesOwn.never rfl (pi_range3 (by rfl) b_range (pa_cons (pe_calP c_Replica_last_index T_Replica.cl hr (by first | decide | omega) (pv 0) (by rfl)) (pa_cons (pe_fld (pv 0) rfl) (pa_cons (pe_un un_neg pe_int) pa_nil)))) (pg_name (i := 3) sc_Replica_kept_index.nd rfl (Or.inr rfl))
(pss_cons (ps_setLc (i := 4) (own := [("member", 5)]) (by rfl) sc_Replica_kept_index.nd rfl rfl (sw_true rfl rfl rfl (by decide +kernel)) (pi_tup (pv 1)) (blkOk_by (own := [("member", 5)]) (N := n_Replica_kept_index) (sc := defScope s_Replica_kept_index) (by decide +kernel)) (fun _ _ _ _ _ => (pg_name (i := 5) sc_Replica_kept_index.nd rfl (Or.inl rfl))) (fun _ _ _ _ _ => pts_one (pt_cmpR op_ge (pe_dget (hu_of hr) (pv 2) (pv 5) (fun _ _ => rfl)) (pv 3) (nomark _))) (fun _ _ _ _ _ => (pv 5)))
(pss_one (ps_if (PW.pt (pw_and (pt_cmpR (op_uEqK (K := K) rfl hr) (pe_calM c_Replica_term_at T_Replica.cl hr (by first | decide | omega) (pv 0) (pa_cons (pv 3) pa_nil)) (pe_fld (pv 0) rfl) (nomark _)) (pw_and1 (pt_val (pe_cal c_is_majority hr (by first | decide | omega) (by rfl) (pa_cons (pv 4) (pa_cons (pv 1) pa_nil)))))))
(pss_one (ps_ret (pv 3)))
pss_nil))))
(pss_one (ps_ret (pe_fld (pv 0) rfl))))))), ?_⟩
  have lz : r.ents.length ≤ r.sz := by unfold Rpl.sz; omega
  have lm := membersR_ok hO
  have hbi := (hO.b b hb).2
  have el : lastI r = b.i + r.ents.length := by unfold lastI; rw [hb]
  walk_at "start"
  (have hop := RepAt.op hR; refine w_propM j hop ?_; clear hop)
  refine w_sg (a, r) j ⟨rfl, hR, hO, by dsimp only; omega⟩ fun v M1 G1 H1 j1 e1 ⟨em, hv⟩ => ?_
  subst em
  obtain ⟨mq, rfl, hmq⟩ := dp_ints hv
  have hR1 := hR.ex e1
  walk_at "go"
  refine w_dcTro j1 hmq (fun i c G2 => ∃ kv, c = .dK (Nz.tk kv) ∧ kv.length ≤ i ∧ ∀ m, look kv m = if m ∈ (membersR r).take i ∧ m ≠ r.me then look r.known m else none) ⟨[], rfl, Nat.le_refl _, fun m => by rw [List.take_zero, if_neg (fun z => nomatch z.1)]; rfl⟩ ?_ ?_
  · rintro L i x c G2 H2 hi nM j2 e2 ⟨kv, rfl, hl, hlk⟩
    obtain ⟨m, hm, rfl⟩ := map_at hi
    have il : i < (membersR r).length := (List.getElem?_eq_some_iff.mp hm).1
    have hR2 := (hR1.ex e2).plus (o := .dK (Nz.tk kv)) nM (fun _ z => nomatch z)
    refine w_gName ⟨rfl, ?_⟩
    walk_at "go"
    (have hop := RepAt.op hR2; refine w_fldM j2 hop T_Replica.cl T_Replica.n_me fl_Replica_me ?_; clear hop; walk_at "go")
    refine w_decN (fun c => ?_) (fun c => ?_)
    · obtain ⟨x, hx⟩ := hK m (List.mem_filter.mpr ⟨List.mem_of_getElem? hm, decide_eq_true c⟩)
      walk_at "go"
      (have hop := RepAt.op hR2; refine w_fldM j2 hop T_Replica.cl T_Replica.n_known fl_Replica_known ?_; clear hop; walk_at "go")
      refine w_getX j2 (.ofM hR2.o_kn) (by rw [tk_look, hx]; rfl) ?_
      refine rod_K j2 e2 (by rw [tk_len]; omega) ⟨putI kv m x, by rw [tk_put], Nat.le_trans putI_len (by omega), fun n => ?_⟩
      rw [look_put, hlk]
      by_cases q : n = m
      · subst q
        rw [if_pos rfl, if_pos ⟨by rw [take_oneR hm]; exact List.mem_append_right _ List.mem_cons_self, c⟩, hx]
      · rw [if_neg q]
        have : (n ∈ (membersR r).take i ∧ n ≠ r.me) ↔ (n ∈ (membersR r).take (i + 1) ∧ n ≠ r.me) := by
          rw [take_oneR hm, List.mem_append, List.mem_singleton]
          exact ⟨fun z => ⟨.inl z.1, z.2⟩, fun z => ⟨z.1.elim id fun w => (q w).elim, z.2⟩⟩
        simp only [this]
    · refine rod_skip j2 e2 ⟨kv, rfl, by omega, fun n => ?_⟩
      rw [hlk]
      have : (n ∈ (membersR r).take i ∧ n ≠ r.me) ↔ (n ∈ (membersR r).take (i + 1) ∧ n ≠ r.me) := by
        rw [take_oneR hm, List.mem_append, List.mem_singleton]
        exact ⟨fun z => ⟨.inl z.1, z.2⟩, fun z => ⟨z.1.elim id fun w => (z.2 (w.trans c)).elim, z.2⟩⟩
      simp only [this]
  rintro L c G2 H2 nM j2 e2 ⟨kv, rfl, hl, hlk⟩
  rw [List.length_map] at hl
  rw [List.length_map, List.take_length] at hlk
  have hl50 : kv.length ≤ 50 := Nat.le_trans hl lm
  have hR2 := (hR1.ex e2).plus (o := .dK (Nz.tk kv)) nM (fun _ z => nomatch z)
  have hm2 := st_mono e2 hmq
  refine w_gName ?_
  refine w_seqO (fun σ H => ∃ kv x3 x4 x5, J (upd M1 L (.dK (Nz.tk kv))) G2 H ∧ (∀ m ∈ membersR r, look kv m = some (reachR r m)) ∧ σ = [some (.ref a.p), some (.ref mq), some (.ref L), x3, x4, x5]) ?_ fun Nn hN => ?_
  rotate_left
  · walk_at "go"
    (have hop := RepAt.op hR2; refine w_fldM j2 hop T_Replica.cl T_Replica.n_me fl_Replica_me ?_; clear hop; walk_at "go")
    refine w_inT j2 hm2 rfl (flat_intsR _) ?_
    rw [if_neg Bool.false_ne_true, inV_intR]
    walk_at "go"
    refine w_dec (fun c => ?_) (fun c => ?_)
    · walk_at "go"
      (have hop := RepAt.op hR2; refine w_fldM j2 hop T_Replica.cl T_Replica.n_durable fl_Replica_durable ?_; clear hop; walk_at "go")
      (have hop := RepAt.op hR2; refine w_fldM j2 hop T_Replica.cl T_Replica.n_me fl_Replica_me ?_; clear hop; walk_at "go")
      refine w_putX j2 (kvs := Nz.tk kv) upd_same (by rw [tk_len]; omega) fun H3 j3 => ?_
      rw [upd_upd, tk_put] at j3
      refine hN _ _ ⟨putI kv r.me r.du, _, _, _, j3, fun m hm => ?_, rfl⟩
      rw [look_put, hlk]
      unfold reachR
      by_cases q : m = r.me
      · rw [if_pos q, if_pos q]
      · rw [if_neg q, if_neg q, if_pos ⟨hm, q⟩]
        obtain ⟨x, hx⟩ := hK m (List.mem_filter.mpr ⟨hm, decide_eq_true q⟩)
        rw [hx]; rfl
    · walk_at "go"
      refine hN _ _ ⟨kv, _, _, _, j2, fun m hm => ?_, rfl⟩
      have q : m ≠ r.me := fun z => c (z ▸ hm)
      rw [hlk, if_pos ⟨hm, q⟩]
      unfold reachR
      rw [if_neg q]
      obtain ⟨x, hx⟩ := hK m (List.mem_filter.mpr ⟨hm, decide_eq_true q⟩)
      rw [hx]; rfl
  rintro σ H ⟨kv, x3, x4, x5, j3, hk3, rfl⟩
  have hR3 : RepAt K C_Replica C_Counter (upd M1 L (.dK (Nz.tk kv))) G2 a r := (hR1.ex e2).plus nM (fun _ z => nomatch z)
  obtain ⟨n, hn⟩ : ∃ n, n = (lastI r - r.cm).toNat := ⟨_, rfl⟩
  have ek : keptI r = keptFrom r n := by rw [hn]; rfl
  walk_at "go"
  (have hop := RepAt.op hR3; refine w_propM j3 hop ?_; clear hop)
  refine w_sg (a, r) j3 ⟨rfl, hR3⟩ fun v M4 G4 H4 j4 e4 ⟨ev, em⟩ => ?_
  have ev : v = .int (lastI r) := ev
  subst ev em
  have hR4 := hR3.ex e4
  walk_at "go"
  (have hop := RepAt.op hR4; refine w_fldM j4 hop T_Replica.cl T_Replica.n_committed fl_Replica_committed ?_; clear hop; walk_at "go")
  refine w_rngD (fun i σ H => ∃ G5 x3 x4 x5, J (upd M1 L (.dK (Nz.tk kv))) G5 H ∧ Ex G4 G5 ∧ keptFrom r n = keptFrom r (n - i) ∧ σ = [some (.ref a.p), some (.ref mq), some (.ref L), x3, x4, x5]) (by omega) (by omega) (by omega) (by omega) ⟨G4, _, _, _, j4, Same.refl _, rfl, rfl⟩ ?_ ?_
  · rintro i σ H hi ⟨G5, x3, x4, x5, j5, e5, hk5, rfl⟩
    obtain ⟨mm, hmm⟩ : ∃ mm, n - i = mm + 1 := ⟨n - i - 1, by omega⟩
    obtain ⟨idx, hidx⟩ : ∃ idx, idx = r.cm + (mm + 1 : Nat) := ⟨_, rfl⟩
    have hix : lastI r - (i : Nat) = idx := by omega
    rw [hix]
    have hR5 := hR4.ex e5
    have hm5 := st_mono (e4.trans e5) hm2
    walk_at "go"
    refine w_lcTro j5 hm5 (fun k acc G6 => acc = (((membersR r).take k).filter fun m => decide (idx ≤ reachR r m)).map V.int) rfl ?_ ?_
    · rintro L2 k x acc G6 H6 hi6 nM6 j6 e6 rfl
      obtain ⟨m, hm, rfl⟩ := map_at hi6
      have il : k < (membersR r).length := (List.getElem?_eq_some_iff.mp hm).1
      have nL : L ≠ L2 := fun z => by rw [z, upd_same] at nM6; cases nM6
      have hd6 : upd (upd M1 L (.dK (Nz.tk kv))) L2 (.lst ((((membersR r).take k).filter fun m => decide (idx ≤ reachR r m)).map V.int)) L = some (.dK (Nz.tk kv)) := upd_ne' upd_same nL
      refine w_gName ⟨rfl, ?_⟩
      walk_at "go"
      refine w_getX j6 (.ofM hd6) (v := .int (reachR r m)) (by rw [tk_look, hk3 m (List.mem_of_getElem? hm)]; rfl) ?_
      walk_at "go"
      refine w_dec (fun c => ?_) (fun c => ?_)
      · walk_at "go"
        refine ro_add j6 e6 (by rw [List.length_map]; exact Nat.lt_of_le_of_lt (List.length_filter_le _ _) (by rw [List.length_take]; omega)) ?_
        rw [tk_filter hm, if_pos (decide_eq_true c), List.map_append]; rfl
      · refine ro_skip j6 e6 ?_
        rw [tk_filter hm, if_neg (by rw [decide_eq_true_iff]; exact c), List.append_nil]
    rintro L2 acc G6 G7 H7 j7 e6 e7 hL7 rfl
    rw [List.length_map, List.take_length] at hL7
    have E7 := e6.trans e7
    have hR7 := hR5.ex E7
    walk_at "go"
    (have hop := RepAt.op hR7; refine w_methM j7 hop (no_Replica (by decide +kernel) (by decide +kernel) (by decide +kernel) (by decide +kernel) (by decide +kernel) (by decide +kernel) (by decide +kernel) (by decide +kernel) (by decide +kernel) (by decide +kernel) (by decide +kernel) (by decide +kernel) (by decide +kernel) (by decide +kernel) (by decide +kernel) (by decide +kernel) (by decide +kernel) (by decide +kernel) (by decide +kernel) (by decide +kernel) (by decide +kernel)) ?_; clear hop; walk_at "go")
    refine w_sg (α := TaP) ⟨a, r, idx, b⟩ j7 ⟨rfl, hR7, hb, by dsimp only; omega, by dsimp only; omega⟩ fun v M8 G8 H8 j8 e8 ⟨em, ev⟩ => ?_
    have ev : v = .int (termAt r idx) := ev
    subst ev em
    have hR8 := hR7.ex e8
    walk_at "go"
    (have hop := RepAt.op hR8; refine w_fldM j8 hop T_Replica.cl T_Replica.n_term fl_Replica_term ?_; clear hop; walk_at "go")
    rw [hk5, hmm, kept_step, ← hidx] at ek
    have stay : ¬ (termAt r idx = r.term ∧ majB (havingR r idx) (membersR r) = true) → keptFrom r n = keptFrom r (n - (i + 1)) := fun z => by
      rw [hk5, hmm, kept_step, ← hidx, if_neg z, show n - (i + 1) = mm by omega]
    refine w_dec (fun c => ?_) (fun c => ?_)
    · walk_at "go"
      refine w_sg (L2, mq, havingR r idx, membersR r) j8 ⟨rfl, sl_of (e8 _ _ hL7), st_mono (E7.trans e8) hm5⟩ fun v M9 G9 H9 j9 e9 ⟨em, ev⟩ => ?_
      have ev : v = .bl (majB (havingR r idx) (membersR r)) := ev
      subst ev em
      walk_at "go"
      cases hmj : majB (havingR r idx) (membersR r) with
      | true =>
        refine w_T ?_
        walk_at "go"
        rw [if_pos ⟨c, hmj⟩] at ek
        exact k _ _ _ _ (j9.subR fun q o e => upd_ne' e (ne_of_none e nM)) ((((e1.trans e2).trans e4).trans e5).trans ((E7.trans e8).trans e9)) ⟨rfl, by rw [ek]⟩
      | false =>
        refine w_F ?_
        walk_at "go"
        exact ⟨G9, _, _, _, j9, e5.trans ((E7.trans e8).trans e9), stay (fun z => by rw [hmj] at z; cases z.2), rfl⟩
    · walk_at "go"
      exact ⟨G8, _, _, _, j8, e5.trans (E7.trans e8), stay (fun z => c z.1), rfl⟩
  · rintro σ H ⟨G5, x3, x4, x5, j5, e5, hk5, rfl⟩
    have hR5 := hR4.ex e5
    walk_at "go"
    (have hop := RepAt.op hR5; refine w_fldM j5 hop T_Replica.cl T_Replica.n_committed fl_Replica_committed ?_; clear hop; walk_at "go")
    refine k _ _ _ _ (j5.subR fun q o e => upd_ne' e (ne_of_none e nM)) (((e1.trans e2).trans e4).trans e5) ⟨rfl, ?_⟩
    rw [ek, hk5, show n - (lastI r - r.cm).toNat = 0 by omega]; rfl
/-! ### Replica.commit_kept -/
abbrev s_Replica_commit_kept : Stmt := inClass (top 22) 26
abbrev n_Replica_commit_kept : List Str := ["self"]
theorem sc_Replica_commit_kept : FnScope n_Replica_commit_kept ["self"] (defScope s_Replica_commit_kept) := ⟨rfl, rfl, rfl, by decide +kernel, rfl, by decide +kernel, by decide +kernel⟩
def sp_Replica_commit_kept (K : PySem.W.Frag) (C CC : Addr) : Sp := Sg (α := KiP) (fun x vs M G => vs = [.ref x.a.p] ∧ RepAt K C CC M G x.a x.r ∧ (x.r.role = "leader" → OkR x.r ∧ KnOk x.r ∧ RunOk x.r x.b) ∧ x.r.sz ≤ 200000) (fun x M _ v M' G' => v = .non ∧ RE K C CC M x.a M' G' (commitKeptR x.r))
theorem ok_Replica_commit_kept {P : Program} {w : World} {K : PySem.W.Frag} {mg : Str → Option Value} {base : Heap}
    {C_Replica : Addr} (T_Replica : Tx_Replica K mg C_Replica)
    {C_Counter : Addr} (T_Counter : Tx_Counter K mg C_Counter)
    {f : Addr} {fd : FuncData} (D : Dm K C_Replica "commit_kept" "Replica.commit_kept" s_Replica_commit_kept ["self"] f fd)
    (g_LEADER : ∃ u, mg "LEADER" = some u ∧ RelV (.str "leader") u)
    (c_Replica_commit : CalM P w K mg base CX0 3 C_Replica "commit" (sp_Replica_commit K C_Replica C_Counter))
    (c_Replica_kept_index : CalM P w K mg base CX0 6 C_Replica "kept_index" (sp_Replica_kept_index K C_Replica C_Counter)) : CalM P w K mg base CX0 7 C_Replica "commit_kept" (sp_Replica_commit_kept K C_Replica C_Counter) := by
  refine D.ok sc_Replica_commit_kept (fun vs H Q E h => ?_) fun cdv A outer s H vs Q E hr h => ?_
  · obtain ⟨x, M, G, j, ⟨rfl, _⟩, _⟩ := h; rfl
  obtain ⟨⟨a, r, b⟩, M, G, j, ⟨rfl, hR, hL, hz⟩, k⟩ := h
  dsimp only at hR hL hz k
  refine ⟨_, (pss_one (ps_if (pt_cmpR (op_uEqK (K := K) rfl hr) (pe_fld (pv 0) rfl) (pe_gk (by rfl) g_LEADER) (nomark _))
(pss_one (ps_expr (pe_calM c_Replica_commit T_Replica.cl hr (by first | decide | omega) (pv 0) (pa_cons (pe_calM0 c_Replica_kept_index T_Replica.cl hr (by first | decide | omega) (pv 0)) pa_nil))))
pss_nil)), ?_⟩
  walk_at "start"
  (have hop := RepAt.op hR; refine w_fldM j hop T_Replica.cl T_Replica.n_role fl_Replica_role ?_; clear hop; walk_at "go")
  refine w_eqS (k := decide (r.role = "leader")) rfl ?_
  walk_at "go"
  refine w_dec (fun c => ?_) (fun c => ?_)
  rotate_left
  · walk_at "go"
    refine k _ _ _ _ j (Same.refl G) ⟨rfl, a, ?_⟩
    unfold commitKeptR
    rw [if_neg c]
    exact hR.s
  obtain ⟨hO, hK, hU⟩ := hL c
  have el : lastI r = b.i + r.ents.length := by unfold lastI; rw [hU.hb]
  have h1 := hU.a1
  have h2 := hU.a2
  have h3 := hU.c2
  have hk := keptI_le (r := r) (by omega)
  walk_at "go"
  (have hop := RepAt.op hR; refine w_methM j hop (no_Replica (by decide +kernel) (by decide +kernel) (by decide +kernel) (by decide +kernel) (by decide +kernel) (by decide +kernel) (by decide +kernel) (by decide +kernel) (by decide +kernel) (by decide +kernel) (by decide +kernel) (by decide +kernel) (by decide +kernel) (by decide +kernel) (by decide +kernel) (by decide +kernel) (by decide +kernel) (by decide +kernel) (by decide +kernel) (by decide +kernel) (by decide +kernel)) ?_; clear hop; walk_at "go")
  (have hop := RepAt.op hR; refine w_methM j hop (no_Replica (by decide +kernel) (by decide +kernel) (by decide +kernel) (by decide +kernel) (by decide +kernel) (by decide +kernel) (by decide +kernel) (by decide +kernel) (by decide +kernel) (by decide +kernel) (by decide +kernel) (by decide +kernel) (by decide +kernel) (by decide +kernel) (by decide +kernel) (by decide +kernel) (by decide +kernel) (by decide +kernel) (by decide +kernel) (by decide +kernel) (by decide +kernel)) ?_; clear hop; walk_at "go")
  refine w_sg (α := KiP) ⟨a, r, b⟩ j ⟨rfl, hR, hO, hU.hb, hK, by dsimp only; omega, by dsimp only; omega, by dsimp only; omega⟩ fun v M1 G1 H1 j1 e1 ⟨em, ev⟩ => ?_
  have ev : v = .int (keptI r) := ev
  subst ev em
  have hR1 := hR.ex e1
  walk_at "go"
  refine w_sg (α := CoP) ⟨a, r, keptI r, b⟩ j1 ⟨rfl, hR1, hU.hb, h1, by dsimp only; omega, by dsimp only; omega, hU.s, hz⟩ fun v M2 G2 H2 j2 e2 ⟨ev, a2, hS2⟩ => ?_
  walk_at "go"
  refine k _ _ _ _ j2 (e1.trans e2) ⟨rfl, a2, ?_⟩
  unfold commitKeptR
  rw [if_pos c]
  exact hS2
/-! ### Replica.take_got -/
abbrev s_Replica_take_got : Stmt := inClass (top 22) 39
abbrev n_Replica_take_got : List Str := ["self", "sender", "good", "index"]
theorem sc_Replica_take_got : FnScope n_Replica_take_got ["self", "sender", "good", "index"] (defScope s_Replica_take_got) := ⟨rfl, rfl, rfl, by decide +kernel, rfl, by decide +kernel, by decide +kernel⟩
structure TgP where
  a : RepA
  r : Rpl
  s : Int
  g : Bool
  i : Int
  b : RB
def sp_Replica_take_got (K : PySem.W.Frag) (C CC : Addr) : Sp := Sg (α := TgP) (fun x vs M G => vs = [.ref x.a.p, .int x.s, .bl x.g, .int x.i] ∧ RepAt K C CC M G x.a x.r ∧ (x.r.role = "leader" → LdOk x.r x.b ∧ x.s ≠ x.r.me) ∧ x.r.sz ≤ 190000) (fun x M _ v M' G' => v = .non ∧ RE K C CC M x.a M' G' (gotR x.r x.s x.g x.i))
theorem ok_Replica_take_got {P : Program} {w : World} {K : PySem.W.Frag} {mg : Str → Option Value} {base : Heap}
    {C_Replica : Addr} (T_Replica : Tx_Replica K mg C_Replica)
    {C_Counter : Addr} (T_Counter : Tx_Counter K mg C_Counter)
    {f : Addr} {fd : FuncData} (D : Dm K C_Replica "take_got" "Replica.take_got" s_Replica_take_got ["self", "sender", "good", "index"] f fd)
    (b_max : mg "max" = none)
    (b_min : mg "min" = none)
    (g_LEADER : ∃ u, mg "LEADER" = some u ∧ RelV (.str "leader") u)
    (c_Replica_commit_kept : CalM P w K mg base CX0 7 C_Replica "commit_kept" (sp_Replica_commit_kept K C_Replica C_Counter))
    (c_Replica_send_to : CalM P w K mg base CX0 3 C_Replica "send_to" (sp_Replica_send_to K C_Replica C_Counter))
    (c_Replica_members : CalP P w K mg base CX0 4 C_Replica "members" (sp_Replica_members K C_Replica C_Counter)) : CalM P w K mg base CX0 8 C_Replica "take_got" (sp_Replica_take_got K C_Replica C_Counter) := by
  refine D.ok sc_Replica_take_got (fun vs H Q E h => ?_) fun cdv A outer s H vs Q E hr h => ?_
  · obtain ⟨x, M, G, j, ⟨rfl, _⟩, _⟩ := h; rfl
  obtain ⟨⟨a, r, s, g, i, b⟩, M, G, j, ⟨rfl, hR, hL, hz⟩, k⟩ := h
  dsimp only at hR hL hz k
  refine ⟨_, (pss_cons (ps_if (PW.pt (pw_or (pt_cmpR (op_uNeK (K := K) rfl hr) (pe_fld (pv 0) rfl) (pe_gk (by rfl) g_LEADER) (nomark _)) (pw_or1 (pt_cmpR (op_notInK (K := K) rfl) (pv 1) (pe_calP c_Replica_members T_Replica.cl hr (by first | decide | omega) (pv 0) (by rfl)) (by with_unfolding_all rfl)))))
(pss_one ps_retN)
pss_nil)
(pss_cons (ps_if (pt_val (pv 2))
(pss_cons (ps_dput (hu_of hr) (pe_fld (pv 0) rfl) (pv 1) (pe_callB (call_max2 rfl) (by rfl) b_max bt_max (pa_cons (pe_dget (hu_of hr) (pe_fld (pv 0) rfl) (pv 1) (fun _ _ => rfl)) (pa_cons (pv 3) pa_nil))) rfl)
(pss_one (ps_dput (hu_of hr) (pe_fld (pv 0) rfl) (pv 1) (pe_op (op_uAddK (K := K) rfl) (pe_dget (hu_of hr) (pe_fld (pv 0) rfl) (pv 1) (fun _ _ => rfl)) pe_int) rfl)))
(pss_cons (ps_dput (hu_of hr) (pe_fld (pv 0) rfl) (pv 1) (pe_callB (call_min2 rfl) (by rfl) b_min bt_min (pa_cons (pe_callB (call_max2 rfl) (by rfl) b_max bt_max (pa_cons (pe_op op_sub (pe_dget (hu_of hr) (pe_fld (pv 0) rfl) (pv 1) (fun _ _ => rfl)) pe_int) (pa_cons pe_int pa_nil))) (pa_cons (pe_op (op_uAddK (K := K) rfl) (pv 3) pe_int) pa_nil))) rfl)
(pss_one (ps_expr (pe_calM c_Replica_send_to T_Replica.cl hr (by first | decide | omega) (pv 0) (pa_cons (pv 1) pa_nil))))))
(pss_one (ps_expr (pe_calM0 c_Replica_commit_kept T_Replica.cl hr (by first | decide | omega) (pv 0)))))), ?_⟩
  have lza : r.ahead.length ≤ r.sz := by unfold Rpl.sz; omega
  have lzk : r.known.length ≤ r.sz := by unfold Rpl.sz; omega
  have lze : r.ents.length ≤ r.sz := by unfold Rpl.sz; omega
  walk_at "start"
  (have hop := RepAt.op hR; refine w_fldM j hop T_Replica.cl T_Replica.n_role fl_Replica_role ?_; clear hop; walk_at "go")
  have stay : r.role ≠ "leader" ∨ s ∉ membersR r → ∀ G' H', J M G' H' → Ex G G' → Q .non H' := fun z G' H' j' e' => k _ _ _ _ j' e' ⟨rfl, a, by unfold gotR; rw [if_pos z]; exact (hR.ex e').s⟩
  refine w_neV rfl (k := !decide (r.role = "leader")) (by congr 1; exact decide_eq_decide.mpr ⟨fun z => V.str.inj z, fun z => by rw [z]⟩) ?_
  walk_at "go"
  refine w_decN (fun c => ?_) (fun c => ?_)
  · walk_at "go"
    exact stay (.inl c) _ _ j (Same.refl G)
  obtain ⟨⟨hO, hU, hK, hA⟩, hsm⟩ := hL c
  walk_at "go"
  (have hop := RepAt.op hR; refine w_propM j hop ?_; clear hop)
  refine w_sg (a, r) j ⟨rfl, hR, hO, by dsimp only; omega⟩ fun v M1 G1 H1 j1 e1 ⟨em, hv⟩ => ?_
  subst em
  obtain ⟨mq, rfl, hmq⟩ := dp_ints hv
  have hR1 := hR.ex e1
  refine w_inT j1 hmq rfl (flat_intsR _) ?_
  rw [if_pos rfl, inV_intR]
  walk_at "go"
  refine w_decN (fun c2 => ?_) (fun c2 => ?_)
  · walk_at "go"
    exact stay (.inr c2) _ _ j1 e1
  have hso : s ∈ othersR r := List.mem_filter.mpr ⟨c2, decide_eq_true hsm⟩
  obtain ⟨kx, hkx⟩ := hK s hso
  obtain ⟨ax, hax, hax2⟩ := hA s hso
  have el : lastI r = b.i + r.ents.length := by unfold lastI; rw [hU.hb]
  have hbi := (hO.b b hU.hb).2
  have neg : ¬ (r.role ≠ "leader" ∨ s ∉ membersR r) := fun z => z.elim (fun z => z c) fun z => z c2
  cases g with
  | true =>
    walk_at "go"
    (have hop := RepAt.op hR1; refine w_fldM j1 hop T_Replica.cl T_Replica.n_known fl_Replica_known ?_; clear hop; walk_at "go")
    refine w_getX j1 (.ofM hR1.o_kn) (v := .int kx) (by rw [tk_look, hkx]; rfl) ?_
    walk_at "go"
    refine ⟨_, _, rfl, ?_⟩
    walk_at "go"
    (have hop := RepAt.op hR1; refine w_fldM j1 hop T_Replica.cl T_Replica.n_known fl_Replica_known ?_; clear hop; walk_at "go")
    obtain ⟨m, hm⟩ : ∃ m, m = maxI kx i := ⟨_, rfl⟩
    rw [show (if i > kx then i else kx) = m from hm.symm]
    refine w_putX j1 hR1.o_kn (by rw [tk_len]; omega) fun H2 j2 => ?_
    have hS2 := hR1.s.p_kn s m
    rw [tk_put] at j2 hS2
    walk_at "go"
    (have hop := RepAt.op hS2.t; refine w_fldM j2 hop T_Replica.cl T_Replica.n_known fl_Replica_known ?_; clear hop; walk_at "go")
    refine w_getX j2 (.ofM hS2.t.o_kn) (v := .int m) (by rw [tk_look]; show (look (putI r.known s m) s).map V.int = _; rw [look_put, if_pos rfl]; rfl) ?_
    walk_at "go"
    (have hop := RepAt.op hS2.t; refine w_fldM j2 hop T_Replica.cl T_Replica.n_ahead fl_Replica_ahead ?_; clear hop; walk_at "go")
    refine w_putX j2 hS2.t.o_ah (by rw [tk_len]; show r.ahead.length < 1000000; omega) fun H3 j3 => ?_
    have hS3 := hS2.p_ah s (m + 1)
    obtain ⟨r3, hr3⟩ : ∃ r3 : Rpl, r3 = { r with known := putI r.known s m, ahead := putI r.ahead s (m + 1) } := ⟨_, rfl⟩
    have er : gotR r s true i = commitKeptR r3 := by
      unfold gotR
      rw [if_neg neg, if_pos rfl, hkx, hr3, hm]; rfl
    obtain ⟨a3, p3, hS3⟩ := hS3.pack (p := a.p) hr3 rfl
    have l1 := putI_len (kv := r.known) (k := s) (v := m)
    have l2 := putI_len (kv := r.ahead) (k := s) (v := m + 1)
    have hz3 : r3.sz ≤ r.sz + 2 := by
      rw [hr3]
      unfold Rpl.sz
      dsimp only
      omega
    walk_at "go"
    rw [← p3]
    (have hop := RepAt.op hS3.t; refine w_methM j3 hop (no_Replica (by decide +kernel) (by decide +kernel) (by decide +kernel) (by decide +kernel) (by decide +kernel) (by decide +kernel) (by decide +kernel) (by decide +kernel) (by decide +kernel) (by decide +kernel) (by decide +kernel) (by decide +kernel) (by decide +kernel) (by decide +kernel) (by decide +kernel) (by decide +kernel) (by decide +kernel) (by decide +kernel) (by decide +kernel) (by decide +kernel) (by decide +kernel)) ?_; clear hop; walk_at "go")
    refine w_sg (α := KiP) ⟨a3, r3, b⟩ j3 ⟨rfl, hS3.t, fun _ => ?_, by dsimp only; omega⟩ fun v M4 G4 H4 j4 e4 ⟨ev, a4, hS4⟩ => ?_
    · rw [hr3]
      refine ⟨⟨hO.b, hO.e⟩, fun n hn => ?_, ⟨hU.hb, hU.a1, hU.a2, hU.c2, hU.s⟩⟩
      show ∃ x, look (putI r.known s m) n = some x
      rw [look_put]
      split
      · exact ⟨_, rfl⟩
      · exact hK n hn
    · walk_at "go"
      rw [er] at k
      exact k _ _ _ _ j4 (e1.trans e4) ⟨rfl, a4, hS3.then hS4⟩
  | false =>
    walk_at "go"
    (have hop := RepAt.op hR1; refine w_fldM j1 hop T_Replica.cl T_Replica.n_ahead fl_Replica_ahead ?_; clear hop; walk_at "go")
    refine w_getX j1 (.ofM hR1.o_ah) (v := .int ax) (by rw [tk_look, hax]; rfl) ?_
    walk_at "go"
    refine ⟨_, _, rfl, ?_⟩
    walk_at "go"
    refine ⟨_, _, rfl, ?_⟩
    walk_at "go"
    (have hop := RepAt.op hR1; refine w_fldM j1 hop T_Replica.cl T_Replica.n_ahead fl_Replica_ahead ?_; clear hop; walk_at "go")
    obtain ⟨m, hm⟩ : ∃ m, m = minI (maxI (ax - 1) 0) (i + 1) := ⟨_, rfl⟩
    rw [show (if i + 1 < (if (0 : Int) > ax - 1 then (0 : Int) else ax - 1) then i + 1 else (if (0 : Int) > ax - 1 then (0 : Int) else ax - 1)) = m from hm.symm]
    refine w_putX j1 hR1.o_ah (by rw [tk_len]; omega) fun H2 j2 => ?_
    have hS2 := hR1.s.p_ah s m
    obtain ⟨r2, hr2⟩ : ∃ r2 : Rpl, r2 = { r with ahead := putI r.ahead s m } := ⟨_, rfl⟩
    obtain ⟨a2, p2, hS2⟩ := hS2.pack (p := a.p) hr2 rfl
    have er : gotR r s false i = commitKeptR (sendTo r2 s) := by
      unfold gotR
      rw [if_neg neg, if_neg Bool.false_ne_true, hax, hr2, hm]; rfl
    have l1 := putI_len (kv := r.ahead) (k := s) (v := m)
    have hz2 : r2.sz ≤ r.sz + 1 := by
      rw [hr2]
      unfold Rpl.sz
      dsimp only
      omega
    have hb2 : r2.base = some b := by rw [hr2]; exact hU.hb
    have he2 : r2.ents = r.ents := by rw [hr2]
    have ha2 : look r2.ahead s = some m := by rw [hr2]; show look (putI r.ahead s m) s = _; rw [look_put, if_pos rfl]
    have hmle : m - 1 ≤ b.i + r2.ents.length := by
      rw [he2, hm]
      unfold minI maxI
      split <;> split <;> omega
    walk_at "go"
    rw [← p2]
    (have hop := RepAt.op hS2.t; refine w_methM j2 hop (no_Replica (by decide +kernel) (by decide +kernel) (by decide +kernel) (by decide +kernel) (by decide +kernel) (by decide +kernel) (by decide +kernel) (by decide +kernel) (by decide +kernel) (by decide +kernel) (by decide +kernel) (by decide +kernel) (by decide +kernel) (by decide +kernel) (by decide +kernel) (by decide +kernel) (by decide +kernel) (by decide +kernel) (by decide +kernel) (by decide +kernel) (by decide +kernel)) ?_; clear hop; walk_at "go")
    refine w_sg (α := SdP) ⟨a2, r2, s, m, b⟩ j2 ⟨rfl, hS2.t, hb2, ha2, hmle, by dsimp only; omega⟩ fun v M3 G3 H3 j3 e3 ⟨ev, a3, hS3⟩ => ?_
    have hS3 := hS2.then hS3
    obtain ⟨r3, hr3⟩ : ∃ r3, r3 = sendTo r2 s := ⟨_, rfl⟩
    obtain ⟨a3, p3, hS3⟩ := hS3.pack (p := a2.p) hr3 (hS3.f.pe.trans p2.symm)
    have hlo : LtO r2 r3 := by rw [hr3]; exact (LtO.rfl' r2).send s
    have hz3 : r3.sz = r2.sz + 1 := by rw [hr3]; exact send_sz r2 [s]
    walk_at "go"
    rw [← p3]
    (have hop := RepAt.op hS3.t; refine w_methM j3 hop (no_Replica (by decide +kernel) (by decide +kernel) (by decide +kernel) (by decide +kernel) (by decide +kernel) (by decide +kernel) (by decide +kernel) (by decide +kernel) (by decide +kernel) (by decide +kernel) (by decide +kernel) (by decide +kernel) (by decide +kernel) (by decide +kernel) (by decide +kernel) (by decide +kernel) (by decide +kernel) (by decide +kernel) (by decide +kernel) (by decide +kernel) (by decide +kernel)) ?_; clear hop; walk_at "go")
    refine w_sg (α := KiP) ⟨a3, r3, b⟩ j3 ⟨rfl, hS3.t, fun _ => ?_, by dsimp only; omega⟩ fun v M4 G4 H4 j4 e4 ⟨ev, a4, hS4⟩ => ?_
    · rw [hlo.eq, hr2]
      exact ⟨⟨hO.b, hO.e⟩, hK, ⟨hU.hb, hU.a1, hU.a2, hU.c2, hU.s⟩⟩
    · walk_at "go"
      rw [er, ← hr3] at k
      exact k _ _ _ _ j4 ((e1.trans e3).trans e4) ⟨rfl, a4, hS3.then hS4⟩
/-! ### Replica.take -/
abbrev s_Replica_take : Stmt := inClass (top 22) 30
abbrev n_Replica_take : List Str := ["self", "sender", "letter", "word", "term", "last_index", "last_term", "granted", "index", "index_term", "entries", "committed", "base", "good"]
theorem sc_Replica_take : FnScope n_Replica_take ["self", "sender", "letter"] (defScope s_Replica_take) := ⟨rfl, rfl, rfl, by decide +kernel, rfl, by decide +kernel, by decide +kernel⟩
inductive RLv where
  | vote (g : Bool)
  | got (g : Bool) (i : Int)
  | copy (i it : Int) (es : List RN) (c : Int)
  | ask (i lt : Int)
  | base (b : RB) (n : Int)
def RLv.w : RLv → Str
  | .vote _ => "vote"
  | .got _ _ => "got"
  | .copy _ _ _ _ => "copy"
  | .ask _ _ => "ask"
  | .base _ _ => "base"
def LvAt (K : PySem.W.Frag) (G : Hp) (v : V) (t : Int) : RLv → Prop
  | .vote g => ∃ q gr, v = .ref q ∧ SqT K G q [.str "vote", gr, .int t, .bl g]
  | .got g i => ∃ q gr, v = .ref q ∧ SqT K G q [.str "got", gr, .int t, .bl g, .int i]
  | .copy i it es c => ∃ q gr x, v = .ref q ∧ SqT K G q [.str "copy", gr, .int t, .int i, .int it, x, .int c] ∧ Dp K G x (.tuple (es.map rnD))
  | .ask i lt => ∃ q gr, v = .ref q ∧ SqT K G q [.str "ask", gr, .int t, .int i, .int lt]
  | .base b n => ∃ q gr x, v = .ref q ∧ SqT K G q [.str "base", gr, .int t, x] ∧ Dp K G x (rbD b) ∧ b.pic = cntD n
/-- what a letter asks of the replica that takes it -/
def LvOk (r : Rpl) (s : Int) (b : RB) : RLv → Prop
  | .vote _ => OkR r ∧ (r.role = "candidate" → r.base = some b)
  | .got _ _ => r.role = "leader" → LdOk r b ∧ s ≠ r.me
  | .copy i _ es _ => CopyOk r i es ∧ -1000000000000000 ≤ i ∧ i ≤ 1000000000000000 ∧ es.length ≤ 1000
  | .ask _ _ => True
  | .base _ _ => ∀ b0, r.base = some b0 → RunOk r b0
structure TkP where
  a : RepA
  r : Rpl
  s : Int
  lv : V
  t : Int
  l : RLv
  b : RB
def downR (r : Rpl) (t : Int) : Rpl := if t > r.term then { setTerm r t none with role := "follower", leader := none } else r
def takeLv (r : Rpl) (s t : Int) (l : RLv) : Rpl := if t < r.term then refuseR r s l.w else match l with
  | .vote g => takeVote (downR r t) s g
  | .got g i => gotR (downR r t) s g i
  | .copy i it es c => copyR (followR (downR r t) s) i it es c
  | .ask i lt => voteR (downR r t) s i lt
  | .base b n => baseR (followR (downR r t) s) b n
def sp_Replica_take (K : PySem.W.Frag) (C CC : Addr) : Sp := Sg (α := TkP) (fun x vs M G => vs = [.ref x.a.p, .int x.s, x.lv] ∧ RepAt K C CC M G x.a x.r ∧ LvAt K G x.lv x.t x.l ∧ LvOk x.r x.s x.b x.l ∧ x.r.sz ≤ 50000) (fun x M _ v M' G' => v = .non ∧ RE K C CC M x.a M' G' (takeLv x.r x.s x.t x.l))
theorem LvAt.hd {K : PySem.W.Frag} {G : Hp} {v : V} {t : Int} {l : RLv} (h : LvAt K G v t l) : ∃ q gr rest, v = .ref q ∧ SqT K G q (.str l.w :: gr :: .int t :: rest) := by
  cases l with
  | vote g => obtain ⟨q, gr, h1, h2⟩ := h; exact ⟨q, gr, _, h1, h2⟩
  | got g i => obtain ⟨q, gr, h1, h2⟩ := h; exact ⟨q, gr, _, h1, h2⟩
  | copy i it es c => obtain ⟨q, gr, x, h1, h2, _⟩ := h; exact ⟨q, gr, _, h1, h2⟩
  | ask i lt => obtain ⟨q, gr, h1, h2⟩ := h; exact ⟨q, gr, _, h1, h2⟩
  | base b n => obtain ⟨q, gr, x, h1, h2, _⟩ := h; exact ⟨q, gr, _, h1, h2⟩
theorem LvAt.ex {K : PySem.W.Frag} {G G' : Hp} {v : V} {t : Int} {l : RLv} (h : LvAt K G v t l) (e : Ex G G') : LvAt K G' v t l := by
  cases l with
  | vote g => obtain ⟨q, gr, h1, h2⟩ := h; exact ⟨q, gr, h1, st_mono e h2⟩
  | got g i => obtain ⟨q, gr, h1, h2⟩ := h; exact ⟨q, gr, h1, st_mono e h2⟩
  | copy i it es c => obtain ⟨q, gr, x, h1, h2, h3⟩ := h; exact ⟨q, gr, x, h1, st_mono e h2, dp_mono e h3⟩
  | ask i lt => obtain ⟨q, gr, h1, h2⟩ := h; exact ⟨q, gr, h1, st_mono e h2⟩
  | base b n => obtain ⟨q, gr, x, h1, h2, h3, h4⟩ := h; exact ⟨q, gr, x, h1, st_mono e h2, dp_mono e h3, h4⟩
theorem RunOk.of {r r' : Rpl} {b : RB} (h : RunOk r b) (e1 : r'.base = r.base) (e2 : r'.ap = r.ap) (e3 : r'.cm = r.cm) (e4 : r'.ents = r.ents) (e5 : r'.st = r.st) : RunOk r' b :=
  ⟨e1.trans h.hb, by rw [e2]; exact h.a1, by rw [e2, e3]; exact h.a2, by rw [e3, e4]; exact h.c2, by rw [e5]; exact h.s⟩
theorem CopyOk.of {r r' : Rpl} {i : Int} {es : List RN} (h : CopyOk r i es) (e1 : r'.base = r.base) (e2 : r'.ap = r.ap) (e3 : r'.cm = r.cm) (e4 : r'.ents = r.ents) (e5 : r'.st = r.st) : CopyOk r' i es := fun b hb => by
  rw [e1] at hb
  obtain ⟨h1, h2⟩ := h b hb
  have eh : ∀ j t, hasE r' j t = hasE r j t := fun j t => by unfold hasE lastI termAt; rw [e1, e4]
  refine ⟨h1.of e1 e2 e3 e4 e5, fun k e he hk => ?_⟩
  rw [e3] at hk
  rw [eh]
  exact h2 k e he hk
theorem down_eq (r : Rpl) (t : Int) : downR r t = { r with term := (downR r t).term, voted := (downR r t).voted, role := (downR r t).role, leader := (downR r t).leader, records := (downR r t).records } := by
  unfold downR
  split <;> rfl
theorem ok_Replica_take {P : Program} {w : World} {K : PySem.W.Frag} {mg : Str → Option Value} {base : Heap}
    {C_Replica : Addr} (T_Replica : Tx_Replica K mg C_Replica)
    {C_Counter : Addr} (T_Counter : Tx_Counter K mg C_Counter)
    {f : Addr} {fd : FuncData} (D : Dm K C_Replica "take" "Replica.take" s_Replica_take ["self", "sender", "letter"] f fd)
    (g_FOLLOWER : ∃ u, mg "FOLLOWER" = some u ∧ RelV (.str "follower") u)
    (c_Replica_take_got : CalM P w K mg base CX0 8 C_Replica "take_got" (sp_Replica_take_got K C_Replica C_Counter))
    (c_Replica_take_base : CalM P w K mg base CX0 6 C_Replica "take_base" (sp_Replica_take_base K C_Replica C_Counter))
    (c_Replica_follow : CalM P w K mg base CX0 1 C_Replica "follow" (sp_Replica_follow K C_Replica C_Counter))
    (c_Replica_take_copy : CalM P w K mg base CX0 5 C_Replica "take_copy" (sp_Replica_take_copy K C_Replica C_Counter))
    (c_Replica_take_vote : CalM P w K mg base CX0 10 C_Replica "take_vote" (sp_Replica_take_vote K C_Replica C_Counter))
    (c_Replica_vote : CalM P w K mg base CX0 4 C_Replica "vote" (sp_Replica_vote K C_Replica C_Counter))
    (c_Replica_set_term : CalM P w K mg base CX0 1 C_Replica "set_term" (sp_Replica_set_term K C_Replica C_Counter))
    (c_Replica_refuse : CalM P w K mg base CX0 3 C_Replica "refuse" (sp_Replica_refuse K C_Replica C_Counter)) : CalM P w K mg base CX0 11 C_Replica "take" (sp_Replica_take K C_Replica C_Counter) := by
  refine D.ok sc_Replica_take (fun vs H Q E h => ?_) fun cdv A outer s H vs Q E hr h => ?_
  · obtain ⟨x, M, G, j, ⟨rfl, _⟩, _⟩ := h; rfl
  obtain ⟨⟨a, r, s, lv, t, l, b⟩, M, G, j, ⟨rfl, hR, hl, hO, hz⟩, k⟩ := h
  dsimp only at hR hl hO hz k
  refine ⟨_, (pss_cons (ps_set (i := 3) sc_Replica_take.nd rfl (Or.inl rfl) (pe_ix (ix_uK (K := K) rfl) (pv 2) pe_int (fun _ _ => rfl)))
(pss_cons (ps_set (i := 4) sc_Replica_take.nd rfl (Or.inl rfl) (pe_ix (ix_uK (K := K) rfl) (pv 2) pe_int (fun _ _ => rfl)))
(pss_cons (ps_if (pt_cmpR op_lt (pv 4) (pe_fld (pv 0) rfl) (nomark _))
(pss_cons (ps_expr (pe_calM c_Replica_refuse T_Replica.cl hr (by first | decide | omega) (pv 0) (pa_cons (pv 1) (pa_cons (pv 3) pa_nil))))
(pss_one ps_retN))
pss_nil)
(pss_cons (ps_if (pt_cmpR op_gt (pv 4) (pe_fld (pv 0) rfl) (nomark _))
(pss_cons (ps_expr (pe_calM c_Replica_set_term T_Replica.cl hr (by first | decide | omega) (pv 0) (pa_cons (pv 4) (pa_cons pe_non pa_nil))))
(pss_cons (ps_fld (pv 0) (pe_gk (by rfl) g_FOLLOWER) rfl)
(pss_one (ps_fld (pv 0) pe_non rfl))))
pss_nil)
(pss_one (ps_match (pv 2)
(pcs_seq rfl sc_Replica_take.nd (pms_txt (pms_any (pms_any (pms_cap (i := 5) rfl (Or.inl rfl) (pms_cap (i := 6) rfl (Or.inl rfl) pms_nil)))))
(pss_one (ps_expr (pe_calM c_Replica_vote T_Replica.cl hr (by first | decide | omega) (pv 0) (pa_cons (pv 1) (pa_cons (pv 5) (pa_cons (pv 6) pa_nil))))))
(pcs_seq rfl sc_Replica_take.nd (pms_txt (pms_any (pms_any (pms_cap (i := 7) rfl (Or.inl rfl) pms_nil))))
(pss_one (ps_expr (pe_calM c_Replica_take_vote T_Replica.cl hr (by first | decide | omega) (pv 0) (pa_cons (pv 1) (pa_cons (pv 7) pa_nil)))))
(pcs_seq rfl sc_Replica_take.nd (pms_txt (pms_any (pms_any (pms_cap (i := 8) rfl (Or.inl rfl) (pms_cap (i := 9) rfl (Or.inl rfl) (pms_cap (i := 10) rfl (Or.inl rfl) (pms_cap (i := 11) rfl (Or.inl rfl) pms_nil)))))))
(pss_cons (ps_expr (pe_calM c_Replica_follow T_Replica.cl hr (by first | decide | omega) (pv 0) (pa_cons (pv 1) pa_nil)))
(pss_one (ps_expr (pe_calM c_Replica_take_copy T_Replica.cl hr (by first | decide | omega) (pv 0) (pa_cons (pv 8) (pa_cons (pv 9) (pa_cons (pv 10) (pa_cons (pv 11) pa_nil))))))))
(pcs_seq rfl sc_Replica_take.nd (pms_txt (pms_any (pms_any (pms_cap (i := 12) rfl (Or.inl rfl) pms_nil))))
(pss_cons (ps_expr (pe_calM c_Replica_follow T_Replica.cl hr (by first | decide | omega) (pv 0) (pa_cons (pv 1) pa_nil)))
(pss_one (ps_expr (pe_calM c_Replica_take_base T_Replica.cl hr (by first | decide | omega) (pv 0) (pa_cons (pv 12) pa_nil)))))
(pcs_seq rfl sc_Replica_take.nd (pms_txt (pms_any (pms_any (pms_cap (i := 13) rfl (Or.inl rfl) (pms_cap (i := 8) rfl (Or.inl rfl) pms_nil)))))
(pss_one (ps_expr (pe_calM c_Replica_take_got T_Replica.cl hr (by first | decide | omega) (pv 0) (pa_cons (pv 1) (pa_cons (pv 13) (pa_cons (pv 8) pa_nil))))))
pcs_nil))))))))))), ?_⟩
  obtain ⟨q, gr, rest, rfl, hq⟩ := hl.hd
  walk_at "start"
  refine w_ixT j hq atI_0 ?_
  walk_at "go"
  refine w_ixT j hq (atI_nat (j := 2) rfl) ?_
  walk_at "go"
  (have hop := RepAt.op hR; refine w_fldM j hop T_Replica.cl T_Replica.n_term fl_Replica_term ?_; clear hop; walk_at "go")
  refine w_dec (fun c => ?_) (fun c => ?_)
  · walk_at "go"
    (have hop := RepAt.op hR; refine w_methM j hop (no_Replica (by decide +kernel) (by decide +kernel) (by decide +kernel) (by decide +kernel) (by decide +kernel) (by decide +kernel) (by decide +kernel) (by decide +kernel) (by decide +kernel) (by decide +kernel) (by decide +kernel) (by decide +kernel) (by decide +kernel) (by decide +kernel) (by decide +kernel) (by decide +kernel) (by decide +kernel) (by decide +kernel) (by decide +kernel) (by decide +kernel) (by decide +kernel)) ?_; clear hop; walk_at "go")
    refine w_sg (α := RfP) ⟨a, r, s, l.w⟩ j ⟨rfl, hR, by dsimp only; omega⟩ fun v M1 G1 H1 j1 e1 ⟨ev, a1, hS1⟩ => ?_
    walk_at "go"
    refine k _ _ _ _ j1 e1 ⟨rfl, a1, ?_⟩
    unfold takeLv
    rw [if_pos c]
    exact hS1
  walk_at "to"
  obtain ⟨r1, hr1⟩ : ∃ r1, r1 = downR r t := ⟨_, rfl⟩
  refine w_seqO (fun σ H => ∃ M1 G1 a1, J M1 G1 H ∧ Ex G G1 ∧ RepS K C_Replica C_Counter M a M1 G1 a1 r1 ∧ σ = [some (.ref a1.p), some (.int s), some (.ref q), some (.str l.w), some (.int t), none, none, none, none, none, none, none, none, none]) ?_ fun Nn hN => ?_
  rotate_left
  · walk_at "go"
    (have hop := RepAt.op hR; refine w_fldM j hop T_Replica.cl T_Replica.n_term fl_Replica_term ?_; clear hop; walk_at "go")
    refine w_dec (fun c2 => ?_) (fun c2 => ?_)
    · walk_at "go"
      (have hop := RepAt.op hR; refine w_methM j hop (no_Replica (by decide +kernel) (by decide +kernel) (by decide +kernel) (by decide +kernel) (by decide +kernel) (by decide +kernel) (by decide +kernel) (by decide +kernel) (by decide +kernel) (by decide +kernel) (by decide +kernel) (by decide +kernel) (by decide +kernel) (by decide +kernel) (by decide +kernel) (by decide +kernel) (by decide +kernel) (by decide +kernel) (by decide +kernel) (by decide +kernel) (by decide +kernel)) ?_; clear hop; walk_at "go")
      refine w_sg (α := StP) ⟨a, r, t, none⟩ j ⟨rfl, hR, by dsimp only; omega⟩ fun v M1 G1 H1 j1 e1 ⟨ev, a1, hS1⟩ => ?_
      have p1 := hS1.f.pe
      walk_at "go"
      rw [show a.p = a1.p from p1.symm]
      (have hop := hS1.t.op; refine w_setX j1 hop T_Replica.cl T_Replica.n_role (by show 21 < 1000; decide) fun H2 j2 => ?_; clear hop; rw [sf_Replica_role] at j2)
      have hS2 := hS1.f_role "follower"
      walk_at "go"
      (have hop := hS2.t.op; refine w_setX j2 hop T_Replica.cl T_Replica.n_leader (by show 21 < 1000; decide) fun H3 j3 => ?_; clear hop; rw [sf_Replica_leader] at j3)
      have hS3 := hS2.f_leader none
      have er1 : r1 = { setTerm r t none with role := "follower", leader := none } := by rw [hr1]; unfold downR; rw [if_pos c2]
      obtain ⟨a3, p3, hS3⟩ := hS3.pack (p := a1.p) er1 rfl
      walk_at "go"
      exact hN _ _ ⟨_, G1, a3, j3, e1, hS3, by rw [p3]; rfl⟩
    · walk_at "go"
      exact hN _ _ ⟨M, G, a, j, Same.refl G, by rw [hr1]; unfold downR; rw [if_neg c2]; exact hR.s, rfl⟩
  rintro σ H ⟨M1, G1, a1, j1, e1, hS1, rfl⟩
  have hl1 := hl.ex e1
  have hz1 : r1.sz ≤ r.sz + 1 := by
    rw [hr1]
    unfold downR
    split
    · unfold setTerm Rpl.sz
      simp only [List.length_append, List.length_cons, List.length_nil]
      omega
    · omega
  have er1 := down_eq r t
  rw [← hr1] at er1
  have fl : ¬ (("follower" : Str) = "candidate") ∧ ¬ (("follower" : Str) = "leader") := ⟨by decide +kernel, by decide +kernel⟩
  have n1 : ∀ {x y : Str}, decide (x = y) = false → x ≠ y := fun h => of_decide_eq_false h
  walk_at "go"
  cases l with
  | vote g =>
    have et : takeLv r s t (.vote g) = takeVote r1 s g := by unfold takeLv; rw [if_neg c, ← hr1]
    obtain ⟨hO, hc⟩ := hO
    have hO1 : OkR r1 := by
      rw [er1]
      exact ⟨hO.b, hO.e⟩
    have hc1 : r1.role = "candidate" → r1.base = some b := by
      rw [hr1]
      unfold downR
      split
      · exact fun z => absurd z fl.1
      · exact hc
    obtain ⟨q2, gr2, eq, hq2⟩ := hl1
    obtain rfl := V.ref.inj eq
    refine w_caseO j1 hq2 rfl (n1 (by decide +kernel)) ?_
    refine w_caseK j1 hq2 rfl rfl ?_
    walk_at "go"
    (have hop := RepAt.op hS1.t; refine w_methM j1 hop (no_Replica (by decide +kernel) (by decide +kernel) (by decide +kernel) (by decide +kernel) (by decide +kernel) (by decide +kernel) (by decide +kernel) (by decide +kernel) (by decide +kernel) (by decide +kernel) (by decide +kernel) (by decide +kernel) (by decide +kernel) (by decide +kernel) (by decide +kernel) (by decide +kernel) (by decide +kernel) (by decide +kernel) (by decide +kernel) (by decide +kernel) (by decide +kernel)) ?_; clear hop; walk_at "go")
    refine w_sg (α := TvP) ⟨a1, r1, s, g, b⟩ j1 ⟨rfl, hS1.t, hO1, hc1, by dsimp only; omega⟩ fun v M2 G2 H2 j2 e2 ⟨ev, a2, hS2⟩ => ?_
    walk_at "go"
    rw [et] at k
    exact k _ _ _ _ j2 (e1.trans e2) ⟨rfl, a2, hS1.then hS2⟩
  | got g i =>
    have et : takeLv r s t (.got g i) = gotR r1 s g i := by unfold takeLv; rw [if_neg c, ← hr1]
    have hL1 : r1.role = "leader" → LdOk r1 b ∧ s ≠ r1.me := by
      rw [hr1]
      unfold downR
      split
      · exact fun z => absurd z fl.2
      · exact hO
    obtain ⟨q2, gr2, eq, hq2⟩ := hl1
    obtain rfl := V.ref.inj eq
    refine w_caseO j1 hq2 rfl (n1 (by decide +kernel)) ?_
    refine w_caseO j1 hq2 rfl (n1 (by decide +kernel)) ?_
    refine w_caseO j1 hq2 rfl (n1 (by decide +kernel)) ?_
    refine w_caseO j1 hq2 rfl (n1 (by decide +kernel)) ?_
    refine w_caseK j1 hq2 rfl rfl ?_
    walk_at "go"
    (have hop := RepAt.op hS1.t; refine w_methM j1 hop (no_Replica (by decide +kernel) (by decide +kernel) (by decide +kernel) (by decide +kernel) (by decide +kernel) (by decide +kernel) (by decide +kernel) (by decide +kernel) (by decide +kernel) (by decide +kernel) (by decide +kernel) (by decide +kernel) (by decide +kernel) (by decide +kernel) (by decide +kernel) (by decide +kernel) (by decide +kernel) (by decide +kernel) (by decide +kernel) (by decide +kernel) (by decide +kernel)) ?_; clear hop; walk_at "go")
    refine w_sg (α := TgP) ⟨a1, r1, s, g, i, b⟩ j1 ⟨rfl, hS1.t, hL1, by dsimp only; omega⟩ fun v M2 G2 H2 j2 e2 ⟨ev, a2, hS2⟩ => ?_
    walk_at "go"
    rw [et] at k
    exact k _ _ _ _ j2 (e1.trans e2) ⟨rfl, a2, hS1.then hS2⟩
  | copy i it es cm =>
    have et : takeLv r s t (.copy i it es cm) = copyR (followR r1 s) i it es cm := by unfold takeLv; rw [if_neg c, ← hr1]
    obtain ⟨hC, i1, i2, lz⟩ := hO
    obtain ⟨q2, gr2, x, eq, hq2, hx⟩ := hl1
    obtain rfl := V.ref.inj eq
    refine w_caseO j1 hq2 rfl (n1 (by decide +kernel)) ?_
    refine w_caseO j1 hq2 rfl (n1 (by decide +kernel)) ?_
    refine w_caseK j1 hq2 rfl rfl ?_
    walk_at "go"
    (have hop := RepAt.op hS1.t; refine w_methM j1 hop (no_Replica (by decide +kernel) (by decide +kernel) (by decide +kernel) (by decide +kernel) (by decide +kernel) (by decide +kernel) (by decide +kernel) (by decide +kernel) (by decide +kernel) (by decide +kernel) (by decide +kernel) (by decide +kernel) (by decide +kernel) (by decide +kernel) (by decide +kernel) (by decide +kernel) (by decide +kernel) (by decide +kernel) (by decide +kernel) (by decide +kernel) (by decide +kernel)) ?_; clear hop; walk_at "go")
    refine w_sg (α := FoP) ⟨a1, r1, s⟩ j1 ⟨rfl, hS1.t⟩ fun v M2 G2 H2 j2 e2 ⟨ev, a2, hS2⟩ => ?_
    obtain ⟨r2, hr2⟩ : ∃ r2, r2 = followR r1 s := ⟨_, rfl⟩
    obtain ⟨a2, p2, hS2⟩ := hS2.pack (p := a1.p) hr2 hS2.f.pe
    walk_at "go"
    rw [← p2]
    (have hop := RepAt.op hS2.t; refine w_methM j2 hop (no_Replica (by decide +kernel) (by decide +kernel) (by decide +kernel) (by decide +kernel) (by decide +kernel) (by decide +kernel) (by decide +kernel) (by decide +kernel) (by decide +kernel) (by decide +kernel) (by decide +kernel) (by decide +kernel) (by decide +kernel) (by decide +kernel) (by decide +kernel) (by decide +kernel) (by decide +kernel) (by decide +kernel) (by decide +kernel) (by decide +kernel) (by decide +kernel)) ?_; clear hop; walk_at "go")
    have hC2 : CopyOk r2 i es := by
      rw [hr2, er1]
      exact hC.of rfl rfl rfl rfl rfl
    have hz2 : r2.sz = r1.sz := by rw [hr2]; rfl
    refine w_sg (α := TcP) ⟨a2, r2, i, it, x, es, cm⟩ j2 ⟨rfl, hS2.t, hC2, i1, i2, dp_mono e2 hx, by dsimp only; omega⟩ fun v M3 G3 H3 j3 e3 ⟨ev, a3, hS3⟩ => ?_
    walk_at "go"
    rw [et, ← hr2] at k
    exact k _ _ _ _ j3 ((e1.trans e2).trans e3) ⟨rfl, a3, (hS1.then hS2).then hS3⟩
  | ask i lt =>
    have et : takeLv r s t (.ask i lt) = voteR r1 s i lt := by unfold takeLv; rw [if_neg c, ← hr1]
    obtain ⟨q2, gr2, eq, hq2⟩ := hl1
    obtain rfl := V.ref.inj eq
    refine w_caseK j1 hq2 rfl rfl ?_
    walk_at "go"
    (have hop := RepAt.op hS1.t; refine w_methM j1 hop (no_Replica (by decide +kernel) (by decide +kernel) (by decide +kernel) (by decide +kernel) (by decide +kernel) (by decide +kernel) (by decide +kernel) (by decide +kernel) (by decide +kernel) (by decide +kernel) (by decide +kernel) (by decide +kernel) (by decide +kernel) (by decide +kernel) (by decide +kernel) (by decide +kernel) (by decide +kernel) (by decide +kernel) (by decide +kernel) (by decide +kernel) (by decide +kernel)) ?_; clear hop; walk_at "go")
    refine w_sg (α := VtP) ⟨a1, r1, s, i, lt⟩ j1 ⟨rfl, hS1.t, by dsimp only; omega⟩ fun v M2 G2 H2 j2 e2 ⟨ev, a2, hS2⟩ => ?_
    walk_at "go"
    rw [et] at k
    exact k _ _ _ _ j2 (e1.trans e2) ⟨rfl, a2, hS1.then hS2⟩
  | base b n =>
    have et : takeLv r s t (.base b n) = baseR (followR r1 s) b n := by unfold takeLv; rw [if_neg c, ← hr1]
    obtain ⟨q2, gr2, x, eq, hq2, hx, hpn⟩ := hl1
    obtain rfl := V.ref.inj eq
    refine w_caseO j1 hq2 rfl (n1 (by decide +kernel)) ?_
    refine w_caseO j1 hq2 rfl (n1 (by decide +kernel)) ?_
    refine w_caseO j1 hq2 rfl (n1 (by decide +kernel)) ?_
    refine w_caseK j1 hq2 rfl rfl ?_
    walk_at "go"
    (have hop := RepAt.op hS1.t; refine w_methM j1 hop (no_Replica (by decide +kernel) (by decide +kernel) (by decide +kernel) (by decide +kernel) (by decide +kernel) (by decide +kernel) (by decide +kernel) (by decide +kernel) (by decide +kernel) (by decide +kernel) (by decide +kernel) (by decide +kernel) (by decide +kernel) (by decide +kernel) (by decide +kernel) (by decide +kernel) (by decide +kernel) (by decide +kernel) (by decide +kernel) (by decide +kernel) (by decide +kernel)) ?_; clear hop; walk_at "go")
    refine w_sg (α := FoP) ⟨a1, r1, s⟩ j1 ⟨rfl, hS1.t⟩ fun v M2 G2 H2 j2 e2 ⟨ev, a2, hS2⟩ => ?_
    obtain ⟨r2, hr2⟩ : ∃ r2, r2 = followR r1 s := ⟨_, rfl⟩
    obtain ⟨a2, p2, hS2⟩ := hS2.pack (p := a1.p) hr2 hS2.f.pe
    walk_at "go"
    rw [← p2]
    (have hop := RepAt.op hS2.t; refine w_methM j2 hop (no_Replica (by decide +kernel) (by decide +kernel) (by decide +kernel) (by decide +kernel) (by decide +kernel) (by decide +kernel) (by decide +kernel) (by decide +kernel) (by decide +kernel) (by decide +kernel) (by decide +kernel) (by decide +kernel) (by decide +kernel) (by decide +kernel) (by decide +kernel) (by decide +kernel) (by decide +kernel) (by decide +kernel) (by decide +kernel) (by decide +kernel) (by decide +kernel)) ?_; clear hop; walk_at "go")
    have hz2 : r2.sz = r1.sz := by rw [hr2]; rfl
    refine w_sg (α := TbP) ⟨a2, r2, x, b, n⟩ j2 ⟨rfl, hS2.t, dp_mono e2 hx, hpn, fun b0 hb0 => ?_, by dsimp only; omega⟩ fun v M3 G3 H3 j3 e3 ⟨ev, a3, hS3⟩ => ?_
    · have hb0 : r2.base = some b0 := hb0
      show RunOk r2 b0
      rw [hr2, er1] at hb0 ⊢
      exact (hO b0 hb0).of rfl rfl rfl rfl rfl
    walk_at "go"
    rw [et, ← hr2] at k
    exact k _ _ _ _ j3 ((e1.trans e2).trans e3) ⟨rfl, a3, (hS1.then hS2).then hS3⟩
/-! ### Replica.synced -/
abbrev s_Replica_synced : Stmt := inClass (top 22) 25
abbrev n_Replica_synced : List Str := ["self"]
theorem sc_Replica_synced : FnScope n_Replica_synced ["self"] (defScope s_Replica_synced) := ⟨rfl, rfl, rfl, by decide +kernel, rfl, by decide +kernel, by decide +kernel⟩
def sp_Replica_synced (K : PySem.W.Frag) (C CC : Addr) : Sp := Sg (α := KiP) (fun x vs M G => vs = [.ref x.a.p] ∧ RepAt K C CC M G x.a x.r ∧ (x.r.role = "leader" → OkR x.r ∧ KnOk x.r ∧ RunOk x.r x.b) ∧ x.r.sz ≤ 200000) (fun x M _ v M' G' => v = .non ∧ RE K C CC M x.a M' G' (syncedR x.r))
theorem ok_Replica_synced {P : Program} {w : World} {K : PySem.W.Frag} {mg : Str → Option Value} {base : Heap}
    {C_Replica : Addr} (T_Replica : Tx_Replica K mg C_Replica)
    {C_Counter : Addr} (T_Counter : Tx_Counter K mg C_Counter)
    {f : Addr} {fd : FuncData} (D : Dm K C_Replica "synced" "Replica.synced" s_Replica_synced ["self"] f fd)
    (c_Replica_commit_kept : CalM P w K mg base CX0 7 C_Replica "commit_kept" (sp_Replica_commit_kept K C_Replica C_Counter))
    (c_Replica_last_index : CalP P w K mg base CX0 1 C_Replica "last_index" (sp_Replica_last_index K C_Replica C_Counter)) : CalM P w K mg base CX0 8 C_Replica "synced" (sp_Replica_synced K C_Replica C_Counter) := by
  refine D.ok sc_Replica_synced (fun vs H Q E h => ?_) fun cdv A outer s H vs Q E hr h => ?_
  · obtain ⟨x, M, G, j, ⟨rfl, _⟩, _⟩ := h; rfl
  obtain ⟨⟨a, r, b⟩, M, G, j, ⟨rfl, hR, hL, hz⟩, k⟩ := h
  dsimp only at hR hL hz k
  refine ⟨_, (pss_cons (ps_fld (pv 0) (pe_calP c_Replica_last_index T_Replica.cl hr (by first | decide | omega) (pv 0) (by rfl)) rfl)
(pss_one (ps_expr (pe_calM0 c_Replica_commit_kept T_Replica.cl hr (by first | decide | omega) (pv 0))))), ?_⟩
  walk_at "start"
  (have hop := RepAt.op hR; refine w_propM j hop ?_; clear hop)
  refine w_sg (a, r) j ⟨rfl, hR⟩ fun v M1 G1 H1 j1 e1 ⟨ev, em⟩ => ?_
  have ev : v = .int (lastI r) := ev
  subst ev em
  have hR1 := hR.ex e1
  walk_at "go"
  (have hop := hR1.op; refine w_setX j1 hop T_Replica.cl T_Replica.n_durable (by show 21 < 1000; decide) fun H2 j2 => ?_; clear hop; rw [sf_Replica_durable] at j2)
  have hS2 := hR1.s.f_du (lastI r)
  walk_at "go"
  (have hop := RepAt.op hS2.t; refine w_methM j2 hop (no_Replica (by decide +kernel) (by decide +kernel) (by decide +kernel) (by decide +kernel) (by decide +kernel) (by decide +kernel) (by decide +kernel) (by decide +kernel) (by decide +kernel) (by decide +kernel) (by decide +kernel) (by decide +kernel) (by decide +kernel) (by decide +kernel) (by decide +kernel) (by decide +kernel) (by decide +kernel) (by decide +kernel) (by decide +kernel) (by decide +kernel) (by decide +kernel)) ?_; clear hop; walk_at "go")
  refine w_sg (α := KiP) ⟨a, { r with du := lastI r }, b⟩ j2 ⟨rfl, hS2.t, fun z => ?_, hz⟩ fun v M3 G3 H3 j3 e3 ⟨ev, a3, hS3⟩ => ?_
  · obtain ⟨h1, h2, h3⟩ := hL z
    exact ⟨⟨h1.b, h1.e⟩, h2, ⟨h3.hb, h3.a1, h3.a2, h3.c2, h3.s⟩⟩
  · walk_at "go"
    exact k _ _ _ _ j3 (e1.trans e3) ⟨rfl, a3, hS2.then hS3⟩
/-! ### _law_mixed -/
abbrev s_law_mixed : Stmt := top 24
abbrev n_law_mixed : List Str := ["number", "k", "step"]
theorem sc_law_mixed : FnScope n_law_mixed ["number", "k"] (defScope s_law_mixed) := ⟨rfl, rfl, rfl, by decide +kernel, rfl, by decide +kernel, by decide +kernel⟩
def mixed (n k : Int) : Int :=
  ((n * 48271 + k * 69621 + 12345) % 2147483647 * ((n * 48271 + k * 69621 + 12345) % 2147483647 / 65536 + 3) + k) % 2147483647
theorem mixed_b (n k : Int) : 0 ≤ mixed n k ∧ mixed n k < 2147483647 := by
  unfold mixed
  exact ⟨Int.emod_nonneg _ (by decide), Int.emod_lt_of_pos _ (by decide)⟩
def sp_law_mixed (K : PySem.W.Frag) : Sp := Sg (α := Int × Int) (fun a vs _ _ => vs = [.int a.1, .int a.2]) (fun a M _ v M' _ => v = .int (mixed a.1 a.2) ∧ M' = M)
theorem ok_law_mixed {P : Program} {w : World} {K : PySem.W.Frag} {mg : Str → Option Value} {base : Heap}
    {f : Addr} {fd : FuncData} (D : Dn K mg "_law_mixed" s_law_mixed ["number", "k"] f fd) : Cal P w K mg base CX0 1 "_law_mixed" (sp_law_mixed K) := by
  refine D.ok sc_law_mixed (fun vs H Q E h => ?_) fun cdv A outer s H vs Q E hr h => ?_
  · obtain ⟨a, M, G, j, rfl, _⟩ := h; rfl
  obtain ⟨⟨n, k⟩, M, G, j, rfl, q⟩ := h
  refine ⟨_, (pss_cons (ps_set (i := 2) sc_law_mixed.nd rfl (Or.inl rfl) (pe_op op_mod (pe_op (op_uAddK (K := K) rfl) (pe_op (op_uAddK (K := K) rfl) (pe_op op_uMul (pv 0) pe_int) (pe_op op_uMul (pv 1) pe_int)) pe_int) pe_int))
(pss_one (ps_ret (pe_op op_mod (pe_op (op_uAddK (K := K) rfl) (pe_op op_uMul (pv 2) (pe_op (op_uAddK (K := K) rfl) (pe_op op_fdiv (pv 2) pe_int) pe_int)) (pv 1)) pe_int)))), ?_⟩
  walk_at "start"
  refine w_mulI (.inl ?_) ?_
  · have h1 := Int.emod_nonneg (n * 48271 + k * 69621 + 12345) (b := 2147483647) (by decide)
    have h2 := Int.emod_lt_of_pos (n * 48271 + k * 69621 + 12345) (b := 2147483647) (by decide)
    omega
  walk_at "go"
  exact q _ _ _ _ j (Same.refl G) ⟨rfl, rfl⟩
/-! ### _law_draw -/
abbrev s_law_draw : Stmt := top 26
abbrev n_law_draw : List Str := ["draws", "at", "first"]
theorem sc_law_draw : FnScope n_law_draw ["draws"] (defScope s_law_draw) := ⟨rfl, rfl, rfl, by decide +kernel, rfl, by decide +kernel, by decide +kernel⟩
/-- the law's draws: a list of the numbers and of the place -/
def Dr (K : PySem.W.Frag) (M G : Hp) (p : Addr) : Prop :=
  ∃ (q : Addr) (ns : List Int) (at_ : Int), M p = some (.lst [.ref q, .int at_]) ∧ SqL K G q (ns.map V.int) ∧ (∀ n ∈ ns, 0 ≤ n ∧ n < 1000000) ∧ 0 ≤ at_
theorem Dr.ex {K : PySem.W.Frag} {M G G' : Hp} {p : Addr} (d : Dr K M G p) (e : Ex G G') : Dr K M G' p := by
  obtain ⟨q, ns, at_, h1, h2, h3⟩ := d
  exact ⟨q, ns, at_, h1, sl_mono e h2, h3⟩
theorem Dr.upd {K : PySem.W.Frag} {M G : Hp} {p d : Addr} {o : HO} (h : Dr K M G p) (e : d ≠ p) : Dr K (upd M d o) G p := by
  obtain ⟨q, ns, at_, h1, h2, h3⟩ := h
  exact ⟨q, ns, at_, upd_ne' h1 e.symm, h2, h3⟩
theorem Dr.del {K : PySem.W.Frag} {M G : Hp} {p d : Addr} (h : Dr K M G p) (e : d ≠ p) : Dr K (del M d) G p := by
  obtain ⟨q, ns, at_, h1, h2, h3⟩ := h
  exact ⟨q, ns, at_, (del_ne e.symm).trans h1, h2, h3⟩
theorem Dr.ne {K : PySem.W.Frag} {M G : Hp} {p d : Addr} (h : Dr K M G p) (e : M d = none) : d ≠ p := by
  obtain ⟨q, ns, at_, h1, h2, h3⟩ := h
  exact (ne_of_none h1 e).symm
theorem Dr.at9 {K : PySem.W.Frag} {M G : Hp} {p : Addr} (h : Dr K M G p) : ∃ xs, M p = some (.lst xs) := by
  obtain ⟨q, ns, at_, h1, _⟩ := h
  exact ⟨_, h1⟩
theorem Dr.mv9 {K : PySem.W.Frag} {M M' G : Hp} {p : Addr} (h : Dr K M G p) (e : M' p = M p) : Dr K M' G p := by
  obtain ⟨q, ns, at_, h1, h2⟩ := h
  exact ⟨q, ns, at_, e.trans h1, h2⟩
def sp_law_draw (K : PySem.W.Frag) : Sp := Sg (α := Addr) (fun p vs M G => vs = [.ref p] ∧ Dr K M G p)
  (fun p M _ v M' G' => ∃ n : Int, v = .int n ∧ 0 ≤ n ∧ n < 1000000 ∧ Dr K M' G' p ∧ Ag p M M')
theorem atI_map {ns : List Int} {i : Int} (h0 : 0 ≤ i) (h1 : i < ns.length) : ∃ n, n ∈ ns ∧ atI (ns.map V.int) i = some (.int n) := by
  obtain ⟨k, rfl⟩ : ∃ k : Nat, i = k := ⟨i.toNat, by omega⟩
  have hk : k < ns.length := by omega
  refine ⟨ns[k], List.getElem_mem hk, atI_nat ?_⟩
  rw [List.getElem?_map, List.getElem?_eq_getElem hk]; rfl
theorem use_draw {K : PySem.W.Frag} {M G H : Hp} {p : Addr} {Q : VK} {E : XK} (j : J M G H) (d : Dr K M G p)
    (k : ∀ (n : Int) (M' G' H' : Hp), 0 ≤ n → n < 1000000 → J M' G' H' → Ex G G' → Dr K M' G' p → Ag p M M' → Q (.int n) H') : sp_law_draw K ([.ref p] ++ []) H Q E :=
  w_sg p j ⟨rfl, d⟩ fun v M' G' H' j' e ⟨n, ev, h0, h1, d', ag⟩ => by subst ev; exact k n M' G' H' h0 h1 j' e d' ag
/-- what a def that draws promises: a value of which Pv holds -/
def Dg (K : PySem.W.Frag) (Pv : V → Hp → Prop) : Sp := Sg (α := Addr) (fun p vs M G => vs = [.ref p] ∧ Dr K M G p) (fun p M _ v M' G' => Pv v G' ∧ Dr K M' G' p ∧ Ag p M M')
theorem use_dg {K : PySem.W.Frag} {M G H : Hp} {p : Addr} {Q : VK} {E : XK} {Pv : V → Hp → Prop} (j : J M G H) (d : Dr K M G p)
    (k : ∀ (v : V) (M' G' H' : Hp), Pv v G' → J M' G' H' → Ex G G' → Dr K M' G' p → Ag p M M' → Q v H') : Dg K Pv ([.ref p] ++ []) H Q E :=
  w_sg p j ⟨rfl, d⟩ fun v M' G' H' j' e ⟨h, d', ag⟩ => k v M' G' H' h j' e d' ag
/-- .. with the law's keys -/
def KeysAt (K : PySem.W.Frag) (G : Hp) (t : Addr) (ks : List Int) : Prop := SqL K G t (ks.map V.int) ∧ (∀ k ∈ ks, 0 ≤ k ∧ k < 1000) ∧ 3 ≤ ks.length ∧ ks.length ≤ 15
theorem KeysAt.ex {K : PySem.W.Frag} {G G' : Hp} {t : Addr} {ks : List Int} (h : KeysAt K G t ks) (e : Ex G G') : KeysAt K G' t ks := ⟨sl_mono e h.1, h.2⟩
def Dk (K : PySem.W.Frag) (Pv : V → Hp → Prop) : Sp := Sg (α := Addr × Addr × List Int) (fun a vs M G => vs = [.ref a.1, .ref a.2.1] ∧ Dr K M G a.1 ∧ KeysAt K G a.2.1 a.2.2) (fun a M _ v M' G' => Pv v G' ∧ Dr K M' G' a.1 ∧ Ag a.1 M M')
theorem use_dk {K : PySem.W.Frag} {M G H : Hp} {p t : Addr} {ks : List Int} {Q : VK} {E : XK} {Pv : V → Hp → Prop} (j : J M G H) (d : Dr K M G p) (hk : KeysAt K G t ks)
    (k : ∀ (v : V) (M' G' H' : Hp), Pv v G' → J M' G' H' → Ex G G' → Dr K M' G' p → Ag p M M' → Q v H') : Dk K Pv ([.ref p, .ref t] ++ []) H Q E :=
  w_sg (p, t, ks) j ⟨rfl, d, hk⟩ fun v M' G' H' j' e ⟨h, d', ag⟩ => k v M' G' H' h j' e d' ag
theorem ok_law_draw {P : Program} {w : World} {K : PySem.W.Frag} {mg : Str → Option Value} {base : Heap}
    {f : Addr} {fd : FuncData} (D : Dn K mg "_law_draw" s_law_draw ["draws"] f fd)
    (b_len : mg "len" = none)
    (c_law_mixed : Cal P w K mg base CX0 1 "_law_mixed" (sp_law_mixed K)) : Cal P w K mg base CX0 2 "_law_draw" (sp_law_draw K) := by
  refine D.ok sc_law_draw (fun vs H Q E h => ?_) fun cdv A outer s H vs Q E hr h => ?_
  · obtain ⟨p, M, G, j, ⟨rfl, _⟩, _⟩ := h; rfl
  obtain ⟨p, M, G, j, ⟨rfl, q, ns, at_, hp, hq, hn, h0⟩, k⟩ := h
  refine ⟨_, (pss_cons (ps_set (i := 1) sc_law_draw.nd rfl (Or.inl rfl) (pe_ix (ix_uK (K := K) rfl) (pv 0) pe_int (fun _ _ => rfl)))
(pss_cons (ps_asg (pe_op (op_uAddK (K := K) rfl) (pv 1) pe_int) (pg_sub (pv 0) pe_int set_list))
(pss_cons (ps_if (pt_cmpR op_lt (pv 1) (pe_callB (call_uLenK (K := K) rfl) (by rfl) b_len PySem.boot_len (pa_cons (pe_ix (ix_uK (K := K) rfl) (pv 0) pe_int (fun _ _ => rfl)) pa_nil)) (nomark _))
(pss_one (ps_ret (pe_ix (ix_uK (K := K) rfl) (pe_ix (ix_uK (K := K) rfl) (pv 0) pe_int (fun _ _ => rfl)) (pv 1) (fun _ _ => rfl))))
pss_nil)
(pss_cons (ps_set (i := 2) sc_law_draw.nd rfl (Or.inl rfl) (pe_op (op_uAddK (K := K) rfl) pe_int (pv 1)))
(pss_cons (ps_if (pt_cmpR op_gt (pe_callB (call_uLenK (K := K) rfl) (by rfl) b_len PySem.boot_len (pa_cons (pe_ix (ix_uK (K := K) rfl) (pv 0) pe_int (fun _ _ => rfl)) pa_nil)) pe_int (nomark _))
(pss_one (ps_set (i := 2) sc_law_draw.nd rfl (Or.inl rfl) (pe_op (op_uAddK (K := K) rfl) (pv 2) (pe_op op_uMul pe_int (pe_ix (ix_uK (K := K) rfl) (pe_ix (ix_uK (K := K) rfl) (pv 0) pe_int (fun _ _ => rfl)) pe_int (fun _ _ => rfl))))))
pss_nil)
(pss_one (ps_ret (pe_op op_mod (pe_cal c_law_mixed hr (by first | decide | omega) (by rfl) (pa_cons (pe_cal c_law_mixed hr (by first | decide | omega) (by rfl) (pa_cons (pv 2) (pa_cons (pv 1) pa_nil))) (pa_cons pe_int pa_nil))) pe_int)))))))), ?_⟩
  walk_at "start"
  refine w_ixM j hp (by rfl) ?_
  walk_at "go"
  refine w_setM j hp (by rfl) fun H1 j1 => ?_
  walk_at "go"
  refine w_ixM j1 upd_same (by rfl) ?_
  walk_at "go"
  refine w_lenL j1 hq ?_
  walk_at "go"
  have dr : Dr K (upd M p (.lst [.ref q, .int (at_ + 1)])) G p := ⟨q, ns, _, upd_same, hq, hn, by omega⟩
  refine w_dec (fun hlt => ?_) (fun hlt => ?_)
  · walk_at "go"
    refine w_ixM j1 upd_same (by rfl) ?_
    walk_at "go"
    rw [List.length_map] at hlt
    obtain ⟨n, hm, e⟩ := atI_map h0 hlt
    refine w_ixL j1 hq e ?_
    exact k _ _ _ _ j1 (Same.refl G) ⟨n, rfl, (hn n hm).1, (hn n hm).2, dr, Ag.upd⟩
  · walk_at "go"
    refine w_ixM j1 upd_same (by rfl) ?_
    walk_at "go"
    refine w_lenL j1 hq ?_
    walk_at "go"
    refine w_dec (fun hl => ?_) (fun hl => ?_)
    · walk_at "go"
      refine w_ixM j1 upd_same (by rfl) ?_
      walk_at "go"
      rw [List.length_map] at hl
      obtain ⟨n, hm, e⟩ := atI_map (ns := ns) (i := 0) (by omega) hl
      refine w_ixL j1 hq e ?_
      walk_at "go"
      refine w_sg (_, _) j1 rfl fun v M' G' H' j2 e2 ⟨ev, em⟩ => ?_
      subst ev em
      walk_at "go"
      refine w_sg (_, _) j2 rfl fun v M' G' H' j3 e3 ⟨ev, em⟩ => ?_
      subst ev em
      walk_at "go"
      exact k _ _ _ _ j3 (e2.trans e3) ⟨_, rfl, Int.emod_nonneg _ (by decide), Int.emod_lt_of_pos _ (by decide), dr.ex (e2.trans e3), Ag.upd⟩
    · walk_at "go"
      refine w_sg (_, _) j1 rfl fun v M' G' H' j2 e2 ⟨ev, em⟩ => ?_
      subst ev em
      walk_at "go"
      refine w_sg (_, _) j2 rfl fun v M' G' H' j3 e3 ⟨ev, em⟩ => ?_
      subst ev em
      walk_at "go"
      exact k _ _ _ _ j3 (e2.trans e3) ⟨_, rfl, Int.emod_nonneg _ (by decide), Int.emod_lt_of_pos _ (by decide), dr.ex (e2.trans e3), Ag.upd⟩
/-! ### replicas: what leaders know, in numbers -/
theorem kept_char {r : Rpl} {v : Int} : ∀ {k : Nat}, r.cm ≤ v → v ≤ r.cm + k → (r.cm < v → termAt r v = r.term ∧ majB (havingR r v) (membersR r) = true) → (∀ i, v < i → i ≤ r.cm + k → ¬ (termAt r i = r.term ∧ majB (havingR r i) (membersR r) = true)) → keptFrom r k = v
  | 0, h1, h2, _, _ => by show r.cm = v; omega
  | k + 1, h1, h2, h3, h4 => by
    rw [kept_step]
    by_cases q : v = r.cm + (k + 1 : Nat)
    · rw [← q, if_pos (h3 (by omega))]
    · rw [if_neg (h4 _ (by omega) (by omega))]
      exact kept_char h1 (by omega) h3 fun i a b => h4 i a (by omega)
theorem cnt_ge {s : List Int} {k : Nat} {i x : Int} (hp : s.Pairwise (· ≤ ·)) (hx : s[k]? = some x) (h : i ≤ x) : s.length - k ≤ (s.filter fun y => decide (i ≤ y)).length := by
  have hk : k < s.length := (List.getElem?_eq_some_iff.mp hx).1
  have e : s.drop k = x :: s.drop (k + 1) := by
    rw [List.drop_eq_getElem_cons hk]
    rw [List.getElem?_eq_getElem hk] at hx
    rw [Option.some.inj hx]
  have hd : (s.drop k).Pairwise (· ≤ ·) := hp.sublist (List.drop_sublist k s)
  rw [e] at hd
  have all : (s.drop k).filter (fun y => decide (i ≤ y)) = s.drop k := List.filter_eq_self.mpr fun y hy => by
    rw [e] at hy
    rcases List.mem_cons.mp hy with rfl | hy
    · exact decide_eq_true h
    · exact decide_eq_true (Int.le_trans h ((List.pairwise_cons.mp hd).1 y hy))
  have := ((List.drop_sublist k s).filter (fun y => decide (i ≤ y))).length_le
  rw [all, List.length_drop] at this
  exact this
theorem cnt_lt {s : List Int} {k : Nat} {i x : Int} (hp : s.Pairwise (· ≤ ·)) (hx : s[k]? = some x) (h : x < i) : (s.filter fun y => decide (i ≤ y)).length ≤ s.length - (k + 1) := by
  have hk : k < s.length := (List.getElem?_eq_some_iff.mp hx).1
  have none : (s.take (k + 1)).filter (fun y => decide (i ≤ y)) = [] := List.filter_eq_nil_iff.mpr fun y hy => by
    rw [decide_eq_true_iff]
    rw [List.take_add_one, hx] at hy
    rcases List.mem_append.mp hy with hy | hy
    · have hs : (s.take k ++ [x]).Pairwise (· ≤ ·) := by
        have : s.take (k + 1) = s.take k ++ [x] := by rw [List.take_add_one, hx]; rfl
        rw [← this]
        exact hp.sublist (List.take_sublist _ _)
      have := (List.pairwise_append.mp hs).2.2 y hy x List.mem_cons_self
      omega
    · have : y = x := List.mem_singleton.mp hy
      omega
  have e : s.filter (fun y => decide (i ≤ y)) = (s.drop (k + 1)).filter fun y => decide (i ≤ y) := by
    conv => lhs; rw [← List.take_append_drop (k + 1) s]
    rw [List.filter_append, none, List.nil_append]
  rw [e]
  exact Nat.le_trans (List.length_filter_le _ _) (by rw [List.length_drop]; exact Nat.le_refl _)
/-- the law's median is what a majority has -/
theorem kept_med {r : Rpl} {s : List Int} {x : Int} (hs : s.Perm ((membersR r).map (reachR r))) (hp : s.Pairwise (· ≤ ·)) (hx : s[((membersR r).length - 1) / 2]? = some x) (hl : x ≤ lastI r) (hc : r.cm ≤ lastI r)
    (ht : ∀ i, r.cm < i → i ≤ lastI r → termAt r i = r.term) : keptI r = if r.cm < x then x else r.cm := by
  have ln : s.length = (membersR r).length := by rw [hs.length_eq, List.length_map]
  have hk : ((membersR r).length - 1) / 2 < s.length := (List.getElem?_eq_some_iff.mp hx).1
  have cnt : ∀ i, (havingR r i).length = (s.filter fun y => decide (i ≤ y)).length := fun i => by
    rw [(hs.filter (fun y => decide (i ≤ y))).length_eq, List.filter_map, List.length_map]; rfl
  have m1 : ∀ i, i ≤ x → majB (havingR r i) (membersR r) = true := fun i h => by
    have := cnt_ge hp hx h
    rw [← cnt] at this
    unfold majB
    rw [decide_eq_true_iff]
    omega
  have m2 : ∀ i, x < i → majB (havingR r i) (membersR r) = false := fun i h => by
    have := cnt_lt hp hx h
    rw [← cnt] at this
    unfold majB
    rw [decide_eq_false_iff_not]
    omega
  unfold keptI
  split
  · rename_i q
    exact kept_char (by omega) (by omega) (fun _ => ⟨ht x q hl, m1 x (Int.le_refl _)⟩) fun i a _ z => by rw [m2 i a] at z; cases z.2
  · exact kept_char (Int.le_refl _) (by omega) (fun z => absurd z (Int.lt_irrefl _)) fun i a _ z => by rw [m2 i (by omega)] at z; cases z.2
/-- what is committed -/
structure CmO (r : Rpl) (c : Int) (r' : Rpl) : Prop where
  eq : r' = { r with cm := c, st := r'.st, ap := c, ledger := r'.ledger, answers := r'.answers }
  st : ∃ n, r'.st = some (.cnt n)
theorem commit_o {r : Rpl} {b : RB} {i : Int} (h : RunOk r b) (hi : i ≤ lastI r) : CmO r (if i > r.cm then i else r.cm) (commitR r i) := by
  have el : lastI r = b.i + r.ents.length := by unfold lastI; rw [h.hb]
  obtain ⟨c, hc⟩ : ∃ c, c = if i > r.cm then i else r.cm := ⟨_, rfl⟩
  have h1 := h.a1
  have h2 := h.a2
  have h3 := h.c2
  have q1 : r.ap ≤ c := by rw [hc]; split <;> omega
  have q2 : c ≤ b.i + r.ents.length := by rw [hc]; split <;> omega
  have e : commitR r i = iterR (c - r.ap).toNat { r with cm := c } := by unfold commitR; rw [hc]
  obtain ⟨o1, o2⟩ := iter_o (c - r.ap).toNat (r := { r with cm := c }) (b := b) h.hb h1 (by show r.ap + _ ≤ b.i + (r.ents.length : Int); omega) h.s
  have o2 : (iterR (c - r.ap).toNat { r with cm := c }).ap = r.ap + ((c - r.ap).toNat : Int) := o2
  rw [← hc, e]
  refine ⟨?_, o1.st⟩
  have o3 := o1.eq
  rw [show r.ap + ((c - r.ap).toNat : Int) = c by omega] at o2
  rw [o2] at o3
  exact o3
theorem sendF_letters (r : Rpl) (ms : List Int) : ∀ (r' : Rpl), LtO r r' → (ms.foldl sendTo r').letters = r'.letters ++ ms.map fun m => .tuple [.int m, letterTo r ((look r.ahead m).getD 0 - 1)] := by
  induction ms with
  | nil => intro r' _; rw [List.foldl_nil, List.map_nil, List.append_nil]
  | cons m t ih =>
    intro r' h
    rw [List.foldl_cons, ih (sendTo r' m) (h.send m), List.map_cons]
    have : (sendTo r' m).letters = r'.letters ++ [.tuple [.int m, letterTo r ((look r.ahead m).getD 0 - 1)]] := by
      show r'.letters ++ [.tuple [.int m, letterTo r' ((look r'.ahead m).getD 0 - 1)]] = _
      rw [h.eq]; rfl
    rw [this, List.append_assoc]; rfl
/-- a new leader -/
structure Led (r r' : Rpl) : Prop where
  me : r'.me = r.me
  group : r'.group = r.group
  term : r'.term = r.term
  base : r'.base = r.base
  cm : r'.cm = r.cm
  ap : r'.ap = r.ap
  du : r'.du = r.du
  st : r'.st = r.st
  role : r'.role = "leader"
  ents : r'.ents = r.ents ++ [noneE r.term]
  ah : r'.ahead = (membersR r).foldl (fun kv m => putI kv m (lastI r + 1)) []
  kn : r'.known = (membersR r).foldl (fun kv m => putI kv m (-1)) []
  tk : r'.tokens = []
  votes : r'.votes = r.votes
theorem lead_led (r : Rpl) : Led r (leadR r) := by
  have e := (LtO.fold (othersR (attachR (expectR { r with role := "leader", leader := some r.me, ahead := [], known := [], tokens := [] } (membersR r)) (noneE r.term))) (LtO.rfl' (attachR (expectR { r with role := "leader", leader := some r.me, ahead := [], known := [], tokens := [] } (membersR r)) (noneE r.term)))).eq
  have e2 : leadR r = (othersR (attachR (expectR { r with role := "leader", leader := some r.me, ahead := [], known := [], tokens := [] } (membersR r)) (noneE r.term))).foldl sendTo (attachR (expectR { r with role := "leader", leader := some r.me, ahead := [], known := [], tokens := [] } (membersR r)) (noneE r.term)) := by
    unfold leadR
    dsimp only
    unfold nudgeR
    exact if_pos rfl
  rw [e2, e]
  exact ⟨rfl, rfl, rfl, rfl, rfl, rfl, rfl, rfl, rfl, rfl, rfl, rfl, rfl, rfl⟩
theorem w_bm0R {K : PySem.W.Frag} {T : String} {r : V → List V → Hp → VK → Prop} {ta : TE} {σ : L2.St} {H : Hp} {Q : VK} (h : ta σ H fun x H1 => tyV K T x H1 ∧ r x [] H1 Q) : tBM0 K T r ta σ H Q := h
theorem w_clear {M G H : Hp} {a : Addr} {xs : List V} {Q : VK} (j : J M G H) (h : M a = some (.lst xs)) (q : ∀ H', J (upd M a (.lst [])) G H' → Q .non H') : rClear (.ref a) [] H Q := ⟨a, xs, rfl, rfl, j.m _ _ h, q _ (j.put h)⟩
def TupRgX (x : V) (H1 : Hp) (Q : VK) : Prop := ∃ n, x = .int n ∧ RgOk 0 n ∧ ∀ q, H1 q = none → Q (.ref q) (upd H1 q (.tup (rgV 0 n)))
theorem w_tupRg {ta : TE} {σ : L2.St} {H : Hp} {Q : VK} (h : ta σ H fun x H1 => TupRgX x H1 Q) : tTupRg (tRg1 ta) σ H Q := h
def upI (n : Nat) : List Int := (List.range n).map fun (i : Nat) => (i : Int)
theorem rgV_up (n : Nat) : rgV 0 n = (upI n).map V.int := by
  unfold rgV upI
  rw [List.map_map, Int.sub_zero, Int.toNat_natCast]
  exact List.map_congr_left fun i _ => by show V.int (0 + (i : Int)) = V.int (i : Int); rw [Int.zero_add]
theorem w_rgX {M G H : Hp} {n : Nat} {Q : VK} (j : J M G H) (hn : n ≤ 1000) (k : ∀ q G' H', J M G' H' → Ex G G' → G' q = some (.tup ((upI n).map V.int)) → Q (.ref q) H') : TupRgX (.int n) H Q :=
  ⟨n, rfl, RgOk.of_le (Int.le_refl _) (by omega) (by decide) (by omega), fun q hq => by
    have := k q _ _ (j.newG (o := .tup ((upI n).map V.int)) hq) (Ex.new (j.freeG hq)) upd_same
    rw [rgV_up]; exact this⟩
def Rng2D (g : TG) (t : TS) (D : Ends) (σ : L2.St) (vs : List V) (H : Hp) : Prop := iRng2 (fun _ H R => R vs H) σ H fun J' H1 => ∃ W : Nat → Nat → L2.St → Hp → Prop, (∃ m, W 0 m σ H1) ∧ ∀ i m σ H, W i m σ H →
      (J'.stop i H ∧ D.nx σ H) ∨ (J'.go i H ∧ ∃ N : L2.St → Hp → Prop, (∀ σ' H', N σ' H' → ∃ m', m' < m ∧ W (i + 1) m' σ' H') ∧ ∀ x H', J'.yld i H x H' → g x σ H' fun σ2 H2 => t { D with nx := N, ct := N, bk := D.nx } σ2 H2)
theorem w_forR2 {ta : TA} {g : TG} {t : TS} {D : Ends} {σ : L2.St} {H : Hp} (h : ta σ H fun vs H1 => Rng2D g t D σ vs H1) : tFor (iRng2 ta) g t D σ H := h
def sortedIX (K : PySem.W.Frag) (vs : List V) (H : Hp) (Q : VK) : Prop := rSortedI K vs H Q
local macro_rules
  | `(tactic| walk_at "v") => `(tactic| first
    | with_reducible refine w_bm0R ?_
    | with_reducible refine w_tupRg ?_
    | with_reducible refine w_forR2 ?_
    | with_reducible refine w_forTE (tl := tDGet _ _) ?_
    | with_reducible refine w_forE (tl := tDGet _ _) ?_)
/-! ### how a leader of a group begins, elder entries behind it -/
def baseN (n : Nat) : RB := ⟨0, 0, upI n, cntD 0⟩
def nextE (t : Int) : RN := ⟨t, ⟨"next", []⟩⟩
def oldE (m : Nat) : List RN := List.replicate m (nextE 1)
def tmE (m : Nat) : Int := if m = 0 then 1 else 2
theorem upI_len (n : Nat) : (upI n).length = n := by unfold upI; rw [List.length_map, List.length_range]
theorem upI_mem {n : Nat} {o : Int} : o ∈ upI n ↔ 0 ≤ o ∧ o < n := by
  unfold upI
  rw [List.mem_map]
  constructor
  · rintro ⟨i, hi, rfl⟩
    have := List.mem_range.mp hi
    omega
  · rintro ⟨h1, h2⟩
    exact ⟨o.toNat, List.mem_range.mpr (by omega), by omega⟩
theorem upI_succ (n : Nat) : upI (n + 1) = upI n ++ [(n : Int)] := by
  unfold upI
  rw [List.range_succ, List.map_append]; rfl
theorem upI_asc (n : Nat) : (upI n).Pairwise (· < ·) := by
  unfold upI
  rw [List.pairwise_map]
  exact List.pairwise_lt_range.imp fun h => by omega
theorem oldE_len (m : Nat) : (oldE m).length = m := List.length_replicate
theorem isCh_next (t : Int) : isCh (nextE t).c = false := by
  show (decide (("next" : Str) = "members") && _) = false
  rw [decide_eq_false (by decide +kernel)]; rfl
theorem oldE_ch {m : Nat} {e : RN} (h : e ∈ oldE m) : e = nextE 1 := (List.mem_replicate.mp h).2
theorem membersOf_no {b : RB} {es : List RN} (h : ∀ e ∈ es, isCh e.c = false) : ∀ n, membersOf b es n = b.ms
  | 0 => rfl
  | n + 1 => by
    unfold membersOf
    cases q : es[n]? with
    | none => exact membersOf_no h n
    | some e =>
      show (if isCh e.c = true then _ else membersOf b es n) = _
      rw [if_neg (by rw [h e (List.mem_of_getElem? q)]; exact Bool.false_ne_true)]
      exact membersOf_no h n
theorem membersR_no {b : RB} {r : Rpl} (hb : r.base = some b) (h : ∀ e ∈ r.ents, isCh e.c = false) : membersR r = b.ms := by
  unfold membersR
  rw [hb]
  exact membersOf_no h _
/-! the count of a group's state -/
def isNx (c : RC) : Bool := decide (c.ds.length = 0) && decide (c.w = "next")
def nxs (es : List RN) : Nat := (es.filter fun e => isNx e.c).length
theorem runS_cnt (n : Int) (c : RC) : (runS n (asRun c)).2 = n + (if isNx c = true then 1 else 0) := by
  unfold asRun
  cases h : isCh c with
  | true =>
    rw [if_pos rfl]
    have : isNx c = false := by
      unfold isCh at h
      rw [Bool.and_eq_true, decide_eq_true_iff, decide_eq_true_iff] at h
      unfold isNx
      rw [h.2]; rfl
    rw [this, if_neg Bool.false_ne_true, Int.add_zero]
    unfold runS
    dsimp only
    rw [if_pos (show ([] : List PyData).length = 0 from rfl), if_neg (show ¬ (("none" : Str) = "next") by decide +kernel), if_pos (show ("none" : Str) = "none" from rfl)]
  | false =>
    rw [if_neg Bool.false_ne_true]
    unfold runS isNx
    by_cases h1 : c.ds.length = 0
    · rw [if_pos h1, decide_eq_true h1, Bool.true_and]
      by_cases h2 : c.w = "next"
      · rw [if_pos h2, decide_eq_true h2]; rfl
      · rw [if_neg h2, decide_eq_false h2, if_neg Bool.false_ne_true, Int.add_zero]
        split <;> rfl
    · rw [if_neg h1, decide_eq_false h1, Bool.false_and, if_neg Bool.false_ne_true, Int.add_zero]
/-- the state has counted what was applied -/
def StC (b : RB) (r : Rpl) : Prop := r.st = some (.cnt (nxs (r.ents.take (r.ap - b.i).toNat)))
theorem iter_stc : ∀ (n : Nat) {r : Rpl} {b : RB}, r.base = some b → b.i ≤ r.ap → r.ap + n ≤ b.i + r.ents.length → StC b r → StC b (iterR n r)
  | 0, r, b, _, _, _, h => h
  | n + 1, r, b, hb, h1, h2, h => by
    obtain ⟨q1, q2⟩ := apply_o hb h1 (by omega) ⟨_, h⟩
    have e1 : (applyR r).base = some b := by rw [q1.eq]; exact hb
    have e2 : (applyR r).ents = r.ents := by rw [q1.eq]
    refine iter_stc n (r := applyR r) e1 (by omega) (by rw [e2]; omega) ?_
    obtain ⟨k, hk⟩ := Int.eq_ofNat_of_zero_le (show 0 ≤ r.ap - b.i by omega)
    have hk2 : k < r.ents.length := by omega
    unfold StC at h ⊢
    rw [e2, q2, applyR_at hb (show r.ap = b.i + k by omega) (List.getElem?_eq_getElem hk2) h]
    show some (RS.cnt _) = _
    rw [runS_cnt, show (r.ap + 1 - b.i).toNat = k + 1 by omega, show (r.ap - b.i).toNat = k by omega, List.take_add_one, List.getElem?_eq_getElem hk2]
    unfold nxs
    rw [List.filter_append, List.length_append]
    show _ = some (RS.cnt (((List.filter _ _).length + (List.filter (fun e => isNx e.c) [r.ents[k]]).length : Nat) : Int))
    rw [List.filter_cons, List.filter_nil]
    split
    · push_cast; rfl
    · push_cast; rfl
theorem commit_stc {r : Rpl} {b : RB} {i : Int} (h : RunOk r b) (hi : i ≤ lastI r) (hs : StC b r) : StC b (commitR r i) := by
  have el : lastI r = b.i + r.ents.length := by unfold lastI; rw [h.hb]
  have h1 := h.a1
  have h2 := h.a2
  have h3 := h.c2
  unfold commitR
  refine iter_stc _ (r := { r with cm := if i > r.cm then i else r.cm }) h.hb h1 ?_ hs
  show r.ap + (((if i > r.cm then i else r.cm) - r.ap).toNat : Int) ≤ b.i + (r.ents.length : Int)
  split <;> omega
/-- entries behind the last one are all taken -/
theorem takeEnts_new {b : RB} : ∀ {es : List RN} {r : Rpl} {i : Int}, r.base = some b → i = lastI r + 1 → r.du ≤ lastI r → takeEnts r i es = { r with ents := r.ents ++ es, records := (takeEnts r i es).records }
  | [], r, i, hb, hi, hd => by
    show r = { r with ents := r.ents ++ [], records := r.records }
    rw [List.append_nil]
  | e :: es, r, i, hb, hi, hd => by
    have el : lastI r = b.i + r.ents.length := by unfold lastI; rw [hb]
    have h1 : takeEntry r i e = attachR r e := by
      have nh : ¬ (i ≤ b.i ∨ hasE r i e.t = true) := by
        unfold hasE
        rw [hb]
        dsimp only
        rw [decide_eq_false (show ¬ i ≤ lastI r by omega), Bool.false_and, Bool.and_false]
        exact fun z => z.elim (fun z => by omega) fun z => nomatch z
      have hc : cutR r r.ents.length = r := by
        unfold cutR
        rw [List.take_length]
        show { r with du := minI r.du (lastI r) } = r
        unfold minI
        rw [if_neg (by omega)]
      unfold takeEntry
      rw [hb]
      dsimp only
      rw [if_neg nh, show (i - b.i - 1).toNat = r.ents.length by omega, hc]
    have el2 : lastI (attachR r e) = lastI r + 1 := by
      rw [el]
      unfold lastI attachR
      dsimp only
      rw [hb]
      dsimp only
      rw [List.length_append]
      show b.i + ((r.ents.length + 1 : Nat) : Int) = _
      omega
    have ih := takeEnts_new (b := b) (es := es) (r := attachR r e) (i := i + 1) hb (by omega) (by show r.du ≤ _; omega)
    show takeEnts (takeEntry r i e) (i + 1) es = { r with ents := r.ents ++ e :: es, records := (takeEnts (takeEntry r i e) (i + 1) es).records }
    rw [h1, ih]
    show ({ r with ents := (r.ents ++ [e]) ++ es, records := _ } : Rpl) = _
    rw [List.append_assoc]
    rfl
/-- a follower that has taken elder entries -/
structure FoS (n m : Nat) (c : Int) (r : Rpl) : Prop where
  me : r.me = 0
  group : r.group = 0
  term : r.term = tmE m - 1
  base : r.base = some (baseN n)
  ents : r.ents = oldE m
  role : r.role = "follower"
  cm : r.cm = c
  ap : r.ap = c
  du : r.du = m
  st : StC (baseN n) r
  c0 : 0 ≤ c
  c1 : c ≤ m
  sz : r.sz ≤ 60
theorem fos_init (n : Nat) : FoS n 0 0 (initR 0 0 (some (baseN n)) 0) := ⟨rfl, rfl, rfl, rfl, rfl, rfl, rfl, rfl, rfl, rfl, Int.le_refl _, Int.le_refl _, by show (0 : Nat) ≤ 60; decide⟩
theorem fos_copyOk {n m : Nat} {r : Rpl} (h : FoS n 0 0 r) : CopyOk r 0 (oldE m) := fun b hb => by
  rw [h.base] at hb
  obtain rfl := Option.some.inj hb
  refine ⟨⟨h.base, ?_, ?_, ?_, _, h.st⟩, fun k e _ hk => ?_⟩
  · rw [h.ap]; exact Int.le_refl _
  · rw [h.ap, h.cm]; exact Int.le_refl _
  · rw [h.cm, h.ents]; show (0 : Int) ≤ 0 + ((0 : Nat) : Int); decide
  · rw [h.cm] at hk
    omega
theorem fos_copy {n m : Nat} {c : Int} {r : Rpl} (h : FoS n 0 0 r) (m1 : 1 ≤ m) (m3 : m ≤ 3) (c0 : 0 ≤ c) (c1 : c ≤ m) (hz : r.sz ≤ 10) : FoS n m c (syncedR (takeLv r 1 1 (.copy 0 0 (oldE m) c))) ∧ (takeLv r 1 1 (.copy 0 0 (oldE m) c)).role = "follower" ∧ (takeLv r 1 1 (.copy 0 0 (oldE m) c)).sz ≤ 60 := by
  have ht : r.term = 0 := h.term
  obtain ⟨r2, hr2⟩ : ∃ r2, r2 = followR (downR r 1) 1 := ⟨_, rfl⟩
  have e0 : takeLv r 1 1 (.copy 0 0 (oldE m) c) = copyR r2 0 0 (oldE m) c := by
    unfold takeLv
    rw [if_neg (by omega), hr2]
  have e2 : r2 = { r with term := 1, voted := none, role := "follower", leader := some 1, records := r.records ++ [.tuple [.str "term", .int r.group, .int 1, oID none]] } := by
    rw [hr2]
    unfold followR downR
    rw [if_pos (by omega)]
    rfl
  have hb2 : r2.base = some (baseN n) := by rw [e2]; exact h.base
  have he2 : r2.ents = [] := by rw [e2]; exact h.ents
  have hd2 : r2.du = 0 := by rw [e2]; exact h.du
  have ha2 : r2.ap = 0 := by rw [e2]; exact h.ap
  have hc2 : r2.cm = 0 := by rw [e2]; exact h.cm
  have hz2 : r2.sz = r.sz + 1 := by
    rw [e2]
    unfold Rpl.sz
    dsimp only
    rw [List.length_append]
    simp only [List.length_cons, List.length_nil]
    omega
  have hl2 : lastI r2 = 0 := by unfold lastI; rw [hb2, he2]; rfl
  have hs2 : StC (baseN n) r2 := by rw [e2]; exact h.st
  obtain ⟨r3, hr3⟩ : ∃ r3, r3 = takeEnts r2 1 (oldE m) := ⟨_, rfl⟩
  have e3 : r3 = { r2 with ents := oldE m, records := r3.records } := by
    have := takeEnts_new (b := baseN n) (es := oldE m) (r := r2) (i := 1) hb2 (by omega) (by omega)
    rw [← hr3, he2, List.nil_append] at this
    exact this
  have ec : copyR r2 0 0 (oldE m) c = gotTo (commitR r3 c) true (0 + (m : Int)) := by
    unfold copyR
    rw [hb2]
    dsimp only
    rw [if_neg (by omega), if_neg (fun z => z.2 (by unfold termAt; rw [hb2]; rfl)), oldE_len, show (0 : Int) + 1 = 1 from rfl, ← hr3]
    have : minI c (0 + (m : Int)) = c := by unfold minI; rw [if_neg (by omega)]
    rw [this]
  have hb3 : r3.base = some (baseN n) := by rw [e3]; exact hb2
  have he3 : r3.ents = oldE m := by rw [e3]
  have ha3 : r3.ap = 0 := by rw [e3]; exact ha2
  have hc3 : r3.cm = 0 := by rw [e3]; exact hc2
  have hs3 : StC (baseN n) r3 := by
    unfold StC at hs2 ⊢
    rw [e3, ha2]
    dsimp only
    rw [ha2, he2] at hs2
    exact hs2
  have hl3 : lastI r3 = m := by
    unfold lastI
    rw [hb3, he3, oldE_len]
    show (0 : Int) + m = m
    omega
  have hz3 : r3.sz ≤ r2.sz + 2 * m := by
    have := (takeEnts_o (b := baseN n) (es := oldE m) (r := r2) (i := 1) hb2 (by rw [hc2]; exact Int.le_refl _) (by rw [hc2, he2]; show (0 : Int) ≤ 0 + ((0 : Nat) : Int); decide) (by omega) (fun k e _ hk => by omega)).2.2
    rw [← hr3, oldE_len] at this
    exact this
  have ru : RunOk r3 (baseN n) := ⟨hb3, by rw [ha3]; exact Int.le_refl _, by rw [ha3, hc3]; exact Int.le_refl _, by rw [hc3, he3, oldE_len]; show (0 : Int) ≤ 0 + (m : Int); omega, _, hs3⟩
  have co := commit_o (i := c) ru (by omega)
  have cs := commit_stc (i := c) ru (by omega) hs3
  rw [hc3, show (if c > 0 then c else 0) = c by split <;> omega] at co
  have hz4 : (commitR r3 c).sz ≤ r3.sz + 2 * m := by
    have := iter_sz ((if c > 0 then c else 0) - 0).toNat { r3 with cm := if c > 0 then c else 0 }
    have q : ((if c > 0 then c else 0) - 0).toNat ≤ m := by split <;> omega
    have e : (commitR r3 c).sz = (iterR ((if c > 0 then c else 0) - 0).toNat { r3 with cm := if c > 0 then c else 0 }).sz := by
      unfold commitR
      rw [hc3, ha3]
    rw [e]
    refine Nat.le_trans this ?_
    have e2 : ({ r3 with cm := if c > 0 then c else 0 } : Rpl).sz = r3.sz := rfl
    rw [e2]
    omega
  obtain ⟨r4, hr4⟩ : ∃ r4, r4 = commitR r3 c := ⟨_, rfl⟩
  rw [← hr4] at ec co cs hz4
  have e4 : r4 = { r3 with cm := c, st := r4.st, ap := c, ledger := r4.ledger, answers := r4.answers } := co.eq
  have ex : takeLv r 1 1 (.copy 0 0 (oldE m) c) = gotTo r4 true (0 + (m : Int)) := by rw [e0, ec]
  rw [ex]
  have hrole : r4.role = "follower" := by rw [e4, e3, e2]
  have hz5 : (gotTo r4 true (0 + (m : Int))).sz = r4.sz + 1 := by
    unfold gotTo addLetter Rpl.sz
    dsimp only
    rw [List.length_append]
    simp only [List.length_cons, List.length_nil]
    omega
  refine ⟨?_, hrole, by omega⟩
  have es : syncedR (gotTo r4 true (0 + (m : Int))) = { gotTo r4 true (0 + (m : Int)) with du := m } := by
    have hl4 : lastI (gotTo r4 true (0 + (m : Int))) = m := by
      show lastI r4 = _
      rw [← hl3]
      unfold lastI
      rw [e4]
    unfold syncedR commitKeptR
    rw [hl4]
    exact if_neg (by show ¬ (r4.role = "leader"); rw [hrole]; decide +kernel)
  rw [es]
  have h4 : ({ gotTo r4 true (0 + (m : Int)) with du := (m : Int) } : Rpl).sz = (gotTo r4 true (0 + (m : Int))).sz := rfl
  refine ⟨?_, ?_, ?_, ?_, ?_, hrole, ?_, ?_, rfl, ?_, c0, c1, by omega⟩
  · show r4.me = 0; rw [e4, e3, e2]; exact h.me
  · show r4.group = 0; rw [e4, e3, e2]; exact h.group
  · show r4.term = tmE m - 1
    rw [e4, e3, e2]
    unfold tmE
    rw [if_neg (by omega)]; rfl
  · show r4.base = _; rw [e4]; exact hb3
  · show r4.ents = _; rw [e4]; exact he3
  · show r4.cm = c; rw [e4]
  · show r4.ap = c; rw [e4]
  · exact cs
/-- a candidate -/
structure CdS (n m : Nat) (c : Int) (vs : List Int) (r : Rpl) : Prop where
  me : r.me = 0
  group : r.group = 0
  term : r.term = tmE m
  base : r.base = some (baseN n)
  ents : r.ents = oldE m
  role : r.role = "candidate"
  cm : r.cm = c
  ap : r.ap = c
  du : r.du = m
  st : StC (baseN n) r
  c0 : 0 ≤ c
  c1 : c ≤ m
  m3 : m ≤ 3
  n5 : n ≤ 5
  votes : r.votes = vs
  sz : r.sz ≤ 80 + vs.length
/-- a leader that begins -/
structure LdS (n m : Nat) (c : Int) (r : Rpl) : Prop where
  me : r.me = 0
  group : r.group = 0
  term : r.term = tmE m
  base : r.base = some (baseN n)
  ents : r.ents = oldE m ++ [noneE (tmE m)]
  role : r.role = "leader"
  cm : r.cm = c
  ap : r.ap = c
  du : r.du = m
  st : StC (baseN n) r
  c0 : 0 ≤ c
  c1 : c ≤ m
  m3 : m ≤ 3
  n5 : n ≤ 5
  ah : ∀ o ∈ upI n, look r.ahead o = some ((m : Int) + 1)
  kn : ∀ o ∈ upI n, look r.known o = some (-1)
  sz : r.ents.length + r.votes.length + r.ahead.length + r.known.length + r.tokens.length ≤ 100
  szz : r.sz ≤ 1000
section
variable {n m : Nat} {c : Int} {vs : List Int} {r : Rpl}
theorem CdS.mem (h : CdS n m c vs r) : membersR r = upI n := membersR_no h.base fun e he => by
  rw [h.ents] at he
  rw [oldE_ch he]; exact isCh_next 1
theorem okR_old (hn : n ≤ 5) (hb : r.base = some (baseN n)) (he : ∀ e ∈ r.ents, isCh e.c = false) : OkR r := by
  refine ⟨fun b q => ?_, fun e m => OkC.not (he e m)⟩
  rw [hb] at q
  obtain rfl := Option.some.inj q
  exact ⟨by show (upI n).length ≤ 50; rw [upI_len]; omega, by show (0 : Int) ≤ 0; omega, by show (0 : Int) ≤ 1000000000000; omega⟩
theorem CdS.ok (h : CdS n m c vs r) : OkR r := okR_old h.n5 h.base fun e he => by
  rw [h.ents] at he
  rw [oldE_ch he]; exact isCh_next 1
theorem FoS.ok (hn : n ≤ 5) (h : FoS n m c r) : OkR r := okR_old hn h.base fun e he => by
  rw [h.ents] at he
  rw [oldE_ch he]; exact isCh_next 1
theorem StC.of {b : RB} {r r' : Rpl} (h : StC b r) (e1 : r'.st = r.st) (e2 : r'.ents = r.ents) (e3 : r'.ap = r.ap) : StC b r' := by
  unfold StC at h ⊢
  rw [e1, e2, e3]
  exact h
theorem foldI_len {v : Int} : ∀ (ms : List Int) (kv : List (Int × Int)), (ms.foldl (fun kv m => putI kv m v) kv).length ≤ kv.length + ms.length
  | [], kv => Nat.le_refl _
  | m :: t, kv => by
    have := foldI_len (v := v) t (putI kv m v)
    have := putI_len (kv := kv) (k := m) (v := v)
    rw [List.foldl_cons, List.length_cons]
    omega
theorem lead_sz {r : Rpl} (hO : OkR r) : (leadR r).sz ≤ r.sz + 400 := by
  obtain ⟨r1, hr1⟩ : ∃ r1 : Rpl, r1 = { r with role := "leader", leader := some r.me, ahead := [], known := [], tokens := [] } := ⟨_, rfl⟩
  have e : leadR r = nudgeR (attachR (expectR r1 (membersR r1)) (noneE r.term)) := by rw [hr1]; rfl
  have hO1 : OkR r1 := by rw [hr1]; exact ⟨hO.b, hO.e⟩
  have z1 : r1.sz ≤ r.sz := by rw [hr1]; unfold Rpl.sz; simp only [List.length_nil]; omega
  have lm := membersR_ok hO1
  have z2 := expect_sz r1 (membersR r1)
  obtain ⟨r2, hr2⟩ : ∃ r2, r2 = expectR r1 (membersR r1) := ⟨_, rfl⟩
  rw [← hr2] at z2 e
  have hO2 : OkR r2 := by rw [hr2]; exact ⟨hO1.b, hO1.e⟩
  have z3 : (attachR r2 (noneE r.term)).sz = r2.sz + 2 := by
    unfold attachR Rpl.sz
    simp only [List.length_append, List.length_cons, List.length_nil]
    omega
  have hO3 : OkR (attachR r2 (noneE r.term)) := hO2.attach (OkC.not (isCh_none _))
  rw [e]
  unfold nudgeR
  split
  · rw [send_sz]
    have := others_len hO3
    omega
  · omega
theorem CdS.lead (h : CdS n m c vs r) (hv : vs.length ≤ 10) : LdS n m c (leadR r) := by
  have l := lead_led r
  have hm := h.mem
  have hm3 := h.m3
  have hn5 := h.n5
  have hc1 := h.c1
  have hc0 := h.c0
  have hl : lastI r = m := by
    unfold lastI
    rw [h.base, h.ents, oldE_len]
    show (0 : Int) + m = m
    omega
  have z := lead_sz h.ok
  have hz := h.sz
  refine ⟨l.me.trans h.me, l.group.trans h.group, l.term.trans h.term, l.base.trans h.base, ?_, l.role, l.cm.trans h.cm, l.ap.trans h.ap, l.du.trans h.du, ?_, h.c0, h.c1, h.m3, h.n5, fun o q => ?_, fun o q => ?_, ?_, by omega⟩
  · rw [l.ents, h.ents, h.term]
  · have hs := h.st
    unfold StC at hs ⊢
    rw [l.st, l.ents, l.ap, hs, List.take_append_of_le_length ?_]
    rw [h.ents, h.ap, oldE_len]
    show (c - 0).toNat ≤ m
    omega
  · rw [l.ah, hm, look_fold, if_pos q, hl]
  · rw [l.kn, hm, look_fold, if_pos q]
  · have f1 := foldI_len (v := lastI r + 1) (membersR r) []
    have f2 := foldI_len (v := -1) (membersR r) []
    rw [l.ents, l.votes, l.ah, l.kn, l.tk, h.votes, h.ents]
    rw [hm, upI_len] at f1 f2
    rw [hm]
    simp only [List.length_append, List.length_cons, List.length_nil, oldE_len] at f1 f2 ⊢
    omega
theorem upI_have {k n : Nat} (h : k ≤ n) : ((upI n).filter fun m => decide (m ∈ upI k)).length = k := by
  induction n with
  | zero => obtain rfl : k = 0 := by omega
            rfl
  | succ n ih =>
    rw [upI_succ, List.filter_append, List.length_append]
    by_cases q : k ≤ n
    · rw [ih q, List.filter_cons, if_neg (by rw [decide_eq_true_iff, upI_mem]; omega)]; rfl
    · obtain rfl : k = n + 1 := by omega
      have : (upI n).filter (fun m => decide (m ∈ upI (n + 1))) = upI n := List.filter_eq_self.mpr fun x hx => by
        have := upI_mem.mp hx
        rw [decide_eq_true_iff, upI_mem]
        push_cast
        omega
      rw [this, upI_len, List.filter_cons, if_pos (by rw [decide_eq_true_iff, upI_mem]; push_cast; omega)]; rfl
/-- with k votes -/
def PhS (n m : Nat) (c : Int) (k : Nat) (r : Rpl) : Prop := if n < 2 * k then LdS n m c r else CdS n m c (upI k) r
theorem CdS.count {k : Nat} (h : CdS n m c (upI k) r) (hk : k ≤ n) : PhS n m c k (countR r) := by
  have hn := h.n5
  unfold PhS countR
  rw [h.mem, h.votes]
  unfold majB
  rw [upI_have hk, upI_len]
  by_cases q : n < 2 * k
  · rw [if_pos q, if_pos (decide_eq_true q)]
    exact h.lead (by rw [upI_len]; omega)
  · rw [if_neg q, if_neg (by rw [decide_eq_false q]; exact Bool.false_ne_true)]
    exact h
theorem LtO.askS {r : Rpl} (ms : List Int) : ∀ {r' : Rpl}, LtO r r' → LtO r (ms.foldl askTo r') := by
  induction ms with
  | nil => exact fun h => h
  | cons m t ih => exact fun h => ih (h.add _)
theorem FoS.stand (h : FoS n m c r) (m3 : m ≤ 3) (n5 : n ≤ 5) (n1 : 1 ≤ n) : PhS n m c 1 (standR r) := by
  obtain ⟨r1, hr1⟩ : ∃ r1 : Rpl, r1 = { setTerm r (r.term + 1) (some r.me) with role := "candidate", leader := none, votes := [r.me] } := ⟨_, rfl⟩
  have es : standR r = countR ((othersR r1).foldl askTo r1) := by
    unfold standR
    rw [h.base]
    dsimp only
    rw [if_neg (by rw [h.role]; decide +kernel), hr1]
  have hz := h.sz
  have lv : r1.sz ≤ r.sz + 2 := by
    rw [hr1]
    unfold setTerm Rpl.sz
    simp only [List.length_append, List.length_cons, List.length_nil]
    omega
  have hm1 : membersR r1 = upI n := by
    refine membersR_no (b := baseN n) (by rw [hr1]; exact h.base) fun e he => ?_
    have he : e ∈ r1.ents := he
    rw [hr1] at he
    have he : e ∈ r.ents := he
    rw [h.ents] at he
    rw [oldE_ch he]; exact isCh_next 1
  have lo : (othersR r1).length ≤ 5 := by
    refine Nat.le_trans (List.length_filter_le _ _) ?_
    rw [hm1, upI_len]
    exact n5
  obtain ⟨r2, hr2⟩ : ∃ r2, r2 = (othersR r1).foldl askTo r1 := ⟨_, rfl⟩
  have hlo : LtO r1 r2 := by rw [hr2]; exact LtO.askS _ (LtO.rfl' r1)
  have hs := ask_sz r1 (othersR r1)
  rw [← hr2] at hs
  rw [es, ← hr2]
  refine CdS.count (k := 1) ?_ n1
  have e2 := hlo.eq
  rw [hr1] at e2
  refine ⟨?_, ?_, ?_, ?_, ?_, ?_, ?_, ?_, ?_, ?_, h.c0, h.c1, m3, n5, ?_, by rw [upI_len]; omega⟩
  · rw [e2]; exact h.me
  · rw [e2]; exact h.group
  · rw [e2]
    show r.term + 1 = _
    rw [h.term]; omega
  · rw [e2]; exact h.base
  · rw [e2]; exact h.ents
  · rw [e2]
  · rw [e2]; exact h.cm
  · rw [e2]; exact h.ap
  · rw [e2]; exact h.du
  · rw [e2]; exact h.st.of rfl rfl rfl
  · rw [e2]
    show [r.me] = upI 1
    rw [h.me]; rfl
theorem PhS.vote {k : Nat} (h : PhS n m c k r) (k1 : 1 ≤ k) (hk : k < n) : PhS n m c (k + 1) (takeLv r k (tmE m) (.vote true)) := by
  unfold PhS at h
  by_cases q : n < 2 * k
  · rw [if_pos q] at h
    have : takeLv r k (tmE m) (.vote true) = r := by
      unfold takeLv downR
      rw [h.term, if_neg (Int.lt_irrefl _), if_neg (Int.lt_irrefl _)]
      show takeVote r k true = r
      unfold takeVote
      rw [if_neg (by rw [h.role]; exact fun z => absurd z.1 (by decide +kernel))]
    rw [this]
    unfold PhS
    rw [if_pos (by omega)]
    exact h
  · rw [if_neg q] at h
    have : takeLv r k (tmE m) (.vote true) = countR { r with votes := upI (k + 1) } := by
      rw [← h.term]
      unfold takeLv downR
      rw [if_neg (Int.lt_irrefl _), if_neg (Int.lt_irrefl _)]
      show takeVote r k true = _
      unfold takeVote
      rw [if_pos ⟨h.role, rfl⟩, h.votes]
      have : putV (upI k) (k : Int) = upI (k + 1) := by
        unfold putV
        rw [if_neg (by rw [upI_mem]; omega), upI_succ]
      rw [this]
    rw [this]
    refine CdS.count ⟨h.me, h.group, h.term, h.base, h.ents, h.role, h.cm, h.ap, h.du, h.st.of rfl rfl rfl, h.c0, h.c1, h.m3, h.n5, rfl, ?_⟩ hk
    have hz := h.sz
    have hv := congrArg List.length h.votes
    rw [upI_len] at hv hz ⊢
    unfold Rpl.sz at hz ⊢
    dsimp only
    rw [upI_len]
    omega
theorem PhS.facts {k : Nat} (h : PhS n m c k r) : r.me = 0 ∧ r.group = 0 ∧ r.term = tmE m ∧ r.base = some (baseN n) ∧ OkR r ∧ r.sz ≤ 1000 := by
  unfold PhS at h
  split at h
  · exact ⟨h.me, h.group, h.term, h.base, okR_old h.n5 h.base fun e he => by
      rw [h.ents] at he
      rcases List.mem_append.mp he with z | z
      · rw [oldE_ch z]; exact isCh_next 1
      · rw [List.mem_singleton.mp z]; exact isCh_none _, h.szz⟩
  · have hz := h.sz
    rename_i q
    have hn := h.n5
    rw [upI_len] at hz
    exact ⟨h.me, h.group, h.term, h.base, h.ok, by omega⟩
end
/-! ### a law's draws and its replica -/
structure SR (K : PySem.W.Frag) (C CC : Addr) (M G : Hp) (p : Addr) (a : RepA) (r : Rpl) : Prop where
  dr : Dr K M G p
  rp : RepAt K C CC M G a r
  pc : p ∉ a.cells
section
variable {K : PySem.W.Frag} {C CC : Addr} {M M' G G' H : Hp} {p : Addr} {a a' : RepA} {r r' : Rpl}
theorem Dr.atR (h : Dr K M G p) : ∃ xs, M p = some (.lst xs) := by
  obtain ⟨q, ns, at_, h1, _⟩ := h
  exact ⟨_, h1⟩
theorem Dr.mvR (h : Dr K M G p) (e : ∀ o, M p = some o → M' p = some o) : Dr K M' G p := by
  obtain ⟨q, ns, at_, h1, h2⟩ := h
  exact ⟨q, ns, at_, e _ h1, h2⟩
theorem RepAt.mv (h : RepAt K C CC M G a r) (e : ∀ b ∈ a.cells, ∀ o, M b = some o → M' b = some o) (nt : NoT M') : RepAt K C CC M' G a r := by
  refine ⟨?_, h.n, h.d, nt⟩
  have : ∀ {as : List Addr} {os : List HO}, Cells M as os → (∀ b ∈ as, ∀ o, M b = some o → M' b = some o) → Cells M' as os := by
    intro as os hc
    induction hc with
    | nil => exact fun _ => .nil
    | cons h t ih => exact fun e => .cons (e _ List.mem_cons_self _ h) (ih fun b m => e b (List.mem_cons_of_mem _ m))
  exact this h.c e
theorem SR.ex (h : SR K C CC M G p a r) (e : Ex G G') : SR K C CC M G' p a r := ⟨h.dr.ex e, h.rp.ex e, h.pc⟩
theorem SR.draw (h : SR K C CC M G p a r) (e : Ex G G') (d : Dr K M' G' p) (g : Ag p M M') : SR K C CC M' G' p a r := by
  obtain ⟨xs, hx⟩ := d.atR
  exact ⟨d, (h.rp.ex e).mv (fun b m o ho => by rw [g b fun z => h.pc (z ▸ m)]; exact ho) (h.rp.nt.ag g hx fun _ z => nomatch z), h.pc⟩
theorem SR.rep (h : SR K C CC M G p a r) (e : Ex G G') (s : RepS K C CC M a M' G' a' r') : SR K C CC M' G' p a' r' := by
  obtain ⟨xs, hx⟩ := h.dr.atR
  refine ⟨(h.dr.ex e).mvR fun o ho => s.f.kp p o ho h.pc, s.t, fun m => ?_⟩
  rcases s.f.nw p m with z | z
  · exact h.pc z
  · rw [hx] at z; cases z
end
theorem w_rng2 {g : TG} {t : TS} {D : Ends} {σ : L2.St} {H : Hp} {a b : Int} (Pv : Nat → L2.St → Hp → Prop) (a1 : -1000000 ≤ a) (a2 : a ≤ 1000000) (b1 : -1000000 ≤ b) (b2 : b ≤ 1000000) (h0 : Pv 0 σ H)
    (hs : ∀ i σ H, i < (b - a).toNat → Pv i σ H → g (.int (a + (i : Nat))) σ H fun σ2 H2 => t { D with nx := Pv (i + 1), ct := Pv (i + 1), bk := D.nx } σ2 H2) (hd : ∀ σ H, Pv (b - a).toNat σ H → D.nx σ H) : Rng2D g t D σ [.int a, .int b] H :=
  ⟨a, b, rfl, ⟨by omega, by omega, by omega, by omega⟩, for_range Pv h0 hs hd⟩
/-! ### [.. for i in range(n)] without anything else changed -/
section
variable {M G H : Hp} {σ : L2.St} {Q : VK} {g : TG} {tt : TT} {te : TE} {vs : List Nat}
theorem walk_rngR (n : Nat) : Walk (Itr 0 n) n (fun _ => True) (fun i H x H' => H' = H ∧ x = .int (0 + (i : Nat))) :=
  ⟨fun _ _ hi _ => hi, fun _ _ => Nat.le_refl _, fun _ _ _ _ _ _ y => y⟩
theorem w_lcRro {n : Int} (j : J M G H) (R : Nat → List V → Hp → Prop) (h0 : R 0 [] G) (n0 : 0 ≤ n) (n1 : n < 1000000)
    (hs : ∀ L i acc G1 H1, i < n.toNat → M L = none → J (upd M L (.lst acc)) G1 H1 → Ex G G1 → R i acc G1 → g (.int (0 + (i : Nat))) (wipe σ vs) H1 fun σ2 H3 => wipe σ2 vs = wipe σ vs ∧ tt σ2 H3 fun b H4 => if b = true then te σ2 H4 (RoAdd M G R L (i + 1)) else RoI M G R L (i + 1) H4)
    (hd : ∀ L acc G1 G2 H1, J M G2 H1 → Ex G G1 → Ex G1 G2 → G2 L = some (.lst acc) → R n.toNat acc G1 → Q (.ref L) H1) : LcR g tt te vs σ [.int n] H Q :=
  ⟨n, rfl, by omega, by omega, lcd_ro (walk_rngR n.toNat) j R h0 (fun _ _ _ => trivial) (fun L i x acc G1 H1 H2 hi nM j1 e1 r y => by obtain ⟨rfl, rfl⟩ := y; exact hs L i acc G1 _ hi nM j1 e1 r) hd⟩
end
/-! ### a follower that begins with what a leader sent it, any base, any entries -/
def StG (n0 : Int) (b : RB) (r : Rpl) : Prop := r.st = some (.cnt (n0 + nxs (r.ents.take (r.ap - b.i).toNat)))
theorem iter_stg {n0 : Int} : ∀ (n : Nat) {r : Rpl} {b : RB}, r.base = some b → b.i ≤ r.ap → r.ap + n ≤ b.i + r.ents.length → StG n0 b r → StG n0 b (iterR n r)
  | 0, r, b, _, _, _, h => h
  | n + 1, r, b, hb, h1, h2, h => by
    obtain ⟨q1, q2⟩ := apply_o hb h1 (by omega) ⟨_, h⟩
    have e1 : (applyR r).base = some b := by rw [q1.eq]; exact hb
    have e2 : (applyR r).ents = r.ents := by rw [q1.eq]
    refine iter_stg n (r := applyR r) e1 (by omega) (by rw [e2]; omega) ?_
    obtain ⟨k, hk⟩ := Int.eq_ofNat_of_zero_le (show 0 ≤ r.ap - b.i by omega)
    have hk2 : k < r.ents.length := by omega
    unfold StG at h ⊢
    rw [e2, q2, applyR_at hb (show r.ap = b.i + k by omega) (List.getElem?_eq_getElem hk2) h]
    show some (RS.cnt _) = _
    rw [runS_cnt, show (r.ap + 1 - b.i).toNat = k + 1 by omega, show (r.ap - b.i).toNat = k by omega, List.take_add_one, List.getElem?_eq_getElem hk2]
    unfold nxs
    rw [List.filter_append, List.length_append]
    show _ = some (RS.cnt (n0 + ((List.filter _ _).length + (List.filter (fun e => isNx e.c) [r.ents[k]]).length : Nat)))
    rw [List.filter_cons, List.filter_nil]
    split
    · exact congrArg (fun z => some (RS.cnt z)) (by simp only [List.length_cons, List.length_nil]; push_cast; omega)
    · exact congrArg (fun z => some (RS.cnt z)) (by simp only [List.length_nil]; push_cast; omega)
theorem commit_stg {n0 : Int} {r : Rpl} {b : RB} {i : Int} (h : RunOk r b) (hi : i ≤ lastI r) (hs : StG n0 b r) : StG n0 b (commitR r i) := by
  have el : lastI r = b.i + r.ents.length := by unfold lastI; rw [h.hb]
  have h1 := h.a1
  have h2 := h.a2
  have h3 := h.c2
  unfold commitR
  refine iter_stg _ (r := { r with cm := if i > r.cm then i else r.cm }) h.hb h1 ?_ hs
  show r.ap + (((if i > r.cm then i else r.cm) - r.ap).toNat : Int) ≤ b.i + (r.ents.length : Int)
  split <;> omega
structure FoG (me : Int) (b : RB) (n0 t : Int) (es : List RN) (c : Int) (r : Rpl) : Prop where
  me : r.me = me
  group : r.group = 0
  term : r.term = t
  base : r.base = some b
  ents : r.ents = es
  role : r.role = "follower"
  cm : r.cm = c
  ap : r.ap = c
  st : StG n0 b r
  cb : b.i ≤ c ∧ c ≤ b.i + es.length
section
variable {me : Int} {b : RB} {n0 t : Int} {es : List RN} {c : Int} {r : Rpl}
theorem FoG.last (h : FoG me b n0 t es c r) : lastI r = b.i + es.length := by unfold lastI; rw [h.base, h.ents]
theorem FoG.run (h : FoG me b n0 t es c r) : RunOk r b := ⟨h.base, by rw [h.ap]; exact h.cb.1, by rw [h.ap, h.cm]; exact Int.le_refl _, by rw [h.cm, h.ents]; exact h.cb.2, _, h.st⟩
theorem fog_init (me : Int) (b : RB) (n0 : Int) : FoG me b n0 0 [] b.i (initR me 0 (some b) n0) := ⟨rfl, rfl, rfl, rfl, rfl, rfl, rfl, rfl, by
  show some (RS.cnt n0) = some (RS.cnt (n0 + (nxs (([] : List RN).take _) : Nat)))
  rw [List.take_nil]
  exact congrArg (fun z => some (RS.cnt z)) (Int.add_zero n0).symm, ⟨Int.le_refl _, by show b.i ≤ b.i + ((0 : Nat) : Int); omega⟩⟩
theorem FoG.copyOk (h : FoG me b n0 t [] b.i r) {es : List RN} : CopyOk r b.i es := fun b' hb => by
  rw [h.base] at hb
  obtain rfl := Option.some.inj hb
  refine ⟨h.run, fun k e _ hk => ?_⟩
  rw [h.cm] at hk
  omega
theorem FoG.synced (h : FoG me b n0 t es c r) : FoG me b n0 t es c (syncedR r) ∧ syncedR r = { r with du := b.i + es.length } := by
  have e : syncedR r = { r with du := lastI r } := by
    unfold syncedR commitKeptR
    exact if_neg (by show ¬ (r.role = "leader"); rw [h.role]; decide +kernel)
  rw [h.last] at e
  rw [e]
  exact ⟨⟨h.me, h.group, h.term, h.base, h.ents, h.role, h.cm, h.ap, h.st, h.cb⟩, rfl⟩
/-- all that a copy behind the base brings -/
theorem FoG.copy (h : FoG me b n0 t [] b.i r) (hd : r.du ≤ b.i) {s t' : Int} (ht : t ≤ t') : ∃ r', takeLv r s t' (.copy b.i b.t es c) = r' ∧ FoG me b n0 t' es (if minI c (b.i + es.length) > b.i then minI c (b.i + es.length) else b.i) r' ∧ r'.leader = some s ∧ r'.voted = (if t' > t then none else r.voted) ∧ r'.votes = r.votes ∧ r'.sz ≤ r.sz + 4 * es.length + 2 := by
  obtain ⟨r2, hr2⟩ : ∃ r2, r2 = followR (downR r t') s := ⟨_, rfl⟩
  have e0 : takeLv r s t' (.copy b.i b.t es c) = copyR r2 b.i b.t es c := by
    unfold takeLv
    rw [if_neg (by rw [h.term]; omega), hr2]
  have f2 : r2.me = r.me ∧ r2.group = r.group ∧ r2.term = t' ∧ r2.base = some b ∧ r2.ents = [] ∧ r2.role = "follower" ∧ r2.cm = b.i ∧ r2.ap = b.i ∧ r2.st = r.st ∧ r2.du = r.du ∧ r2.leader = some s ∧ r2.voted = (if t' > t then none else r.voted) ∧ r2.votes = r.votes ∧ r2.sz ≤ r.sz + 1 := by
    rw [hr2]
    unfold followR downR
    by_cases q : t' > r.term
    · rw [if_pos q, if_pos (by rw [← h.term]; exact q)]
      refine ⟨rfl, rfl, rfl, h.base, h.ents, rfl, h.cm, h.ap, rfl, rfl, rfl, rfl, rfl, ?_⟩
      unfold setTerm Rpl.sz
      dsimp only
      rw [List.length_append]
      simp only [List.length_cons, List.length_nil]
      omega
    · rw [if_neg q, if_neg (by rw [← h.term]; exact q)]
      refine ⟨rfl, rfl, ?_, h.base, h.ents, rfl, h.cm, h.ap, rfl, rfl, rfl, rfl, rfl, Nat.le_succ _⟩
      show r.term = t'
      have := h.term
      omega
  obtain ⟨g1, g2, g3, hb2, he2, g6, hc2, ha2, g9, gd, g10, g11, g12, gz⟩ := f2
  have hl2 : lastI r2 = b.i := by unfold lastI; rw [hb2, he2]; show b.i + ((0 : Nat) : Int) = b.i; omega
  have hs2 : StG n0 b r2 := by
    have := h.st
    unfold StG at this ⊢
    rw [g9, this, h.ents, he2, List.take_nil, List.take_nil]
  obtain ⟨r3, hr3⟩ : ∃ r3, r3 = takeEnts r2 (b.i + 1) es := ⟨_, rfl⟩
  have e3 : r3 = { r2 with ents := es, records := r3.records } := by
    have := takeEnts_new (b := b) (es := es) (r := r2) (i := b.i + 1) hb2 (by omega) (by rw [hl2, gd]; exact hd)
    rw [← hr3, he2, List.nil_append] at this
    exact this
  obtain ⟨mm, hmm⟩ : ∃ mm, mm = minI c (b.i + es.length) := ⟨_, rfl⟩
  have ec : copyR r2 b.i b.t es c = gotTo (commitR r3 mm) true (b.i + es.length) := by
    unfold copyR
    rw [hb2]
    dsimp only
    rw [if_neg (by omega), if_neg (fun z => z.2 (by unfold termAt; rw [hb2]; exact if_pos rfl)), ← hr3, ← hmm]
  have mle : mm ≤ b.i + es.length := by rw [hmm]; unfold minI; split <;> omega
  have hb3 : r3.base = some b := by rw [e3]; exact hb2
  have he3 : r3.ents = es := by rw [e3]
  have ha3 : r3.ap = b.i := by rw [e3]; exact ha2
  have hc3 : r3.cm = b.i := by rw [e3]; exact hc2
  have hs3 : StG n0 b r3 := by
    unfold StG at hs2 ⊢
    rw [ha3, show r3.st = r2.st by rw [e3], hs2, ha2, show (b.i - b.i).toNat = 0 by omega]
    rfl
  have hl3 : lastI r3 = b.i + es.length := by unfold lastI; rw [hb3, he3]
  have hz3 : r3.sz ≤ r2.sz + 2 * es.length := by
    have := (takeEnts_o (b := b) (es := es) (r := r2) (i := b.i + 1) hb2 (by rw [hc2]; exact Int.le_refl _) (by rw [hc2, he2]; show b.i ≤ b.i + ((0 : Nat) : Int); omega) (by omega) (fun k e _ hk => by omega)).2.2
    rw [← hr3] at this
    exact this
  have ru : RunOk r3 b := ⟨hb3, by rw [ha3]; exact Int.le_refl _, by rw [ha3, hc3]; exact Int.le_refl _, by rw [hc3, he3]; omega, _, hs3⟩
  have co := commit_o (i := mm) ru (by omega)
  have cs := commit_stg (i := mm) ru (by omega) hs3
  rw [hc3] at co
  obtain ⟨cc, hcc⟩ : ∃ cc, cc = if mm > b.i then mm else b.i := ⟨_, rfl⟩
  rw [← hcc] at co
  have ccb : b.i ≤ cc ∧ cc ≤ b.i + es.length := by rw [hcc]; split <;> omega
  have hz4 : (commitR r3 mm).sz ≤ r3.sz + 2 * es.length := by
    have := iter_sz (cc - r3.ap).toNat { r3 with cm := cc }
    have e : commitR r3 mm = iterR (cc - r3.ap).toNat { r3 with cm := cc } := by unfold commitR; rw [hc3, ← hcc]
    rw [e]
    refine Nat.le_trans this ?_
    have e2 : ({ r3 with cm := cc } : Rpl).sz = r3.sz := rfl
    rw [e2, ha3]
    omega
  obtain ⟨r4, hr4⟩ : ∃ r4, r4 = commitR r3 mm := ⟨_, rfl⟩
  rw [← hr4] at ec co cs hz4
  have e4 : r4 = { r3 with cm := cc, st := r4.st, ap := cc, ledger := r4.ledger, answers := r4.answers } := co.eq
  have hz5 : (gotTo r4 true (b.i + (es.length : Int))).sz = r4.sz + 1 := by
    unfold gotTo addLetter Rpl.sz
    dsimp only
    rw [List.length_append]
    simp only [List.length_cons, List.length_nil]
    omega
  refine ⟨gotTo r4 true (b.i + (es.length : Int)), by rw [e0, ec], ⟨?_, ?_, ?_, ?_, ?_, ?_, ?_, ?_, cs, by rw [← hmm, ← hcc]; exact ccb⟩, ?_, ?_, ?_, by omega⟩
  · show r4.me = me; rw [e4, e3]; exact g1.trans h.me
  · show r4.group = 0; rw [e4, e3]; exact g2.trans h.group
  · show r4.term = t'; rw [e4, e3]; exact g3
  · show r4.base = some b; rw [e4]; exact hb3
  · show r4.ents = es; rw [e4]; exact he3
  · show r4.role = "follower"; rw [e4, e3]; exact g6
  · show r4.cm = _; rw [e4, ← hmm, ← hcc]
  · show r4.ap = _; rw [e4, ← hmm, ← hcc]
  · show r4.leader = some s; rw [e4, e3]; exact g10
  · show r4.voted = _; rw [e4, e3]; exact g11
  · show r4.votes = _; rw [e4, e3]; exact g12
end
/-! ### _law_follower -/
abbrev s_law_follower : Stmt := top 29
abbrev n_law_follower : List Str := ["draws", "term", "entries", "k", "part"]
theorem sc_law_follower : FnScope n_law_follower ["draws"] (defScope s_law_follower) := ⟨rfl, rfl, rfl, by decide +kernel, rfl, by decide +kernel, by decide +kernel⟩
/-- the entries that the law draws for a follower -/
structure FoE (es : List RN) (t : Int) : Prop where
  len : es.length ≤ 5
  c : ∀ e ∈ es, e.c = ⟨"next", []⟩ ∧ 1 ≤ e.t ∧ e.t ≤ t
  asc : (es.map (·.t)).Pairwise (· ≤ ·)
  last : ∀ e, es.getLast? = some e → e.t = t
  nil : es = [] → t = 0
  t0 : 0 ≤ t ∧ t ≤ 10
def sp_law_follower (K : PySem.W.Frag) (C CC : Addr) : Sp := Sg (α := Addr) (fun p vs M G => vs = [.ref p] ∧ Dr K M G p ∧ NoT M) (fun p M _ v M' G' => ∃ a r es t c, v = .ref a.p ∧ SR K C CC M' G' p a r ∧ FoG 1 (baseN 3) 0 t es c r ∧ FoE es t ∧ r.du = es.length ∧ r.letters = [] ∧ r.records = [] ∧ r.ledger = [] ∧ r.voted = none ∧ r.votes = [] ∧ r.sz ≤ 100)
theorem FoE.snoc {es : List RN} {t d : Int} (h : FoE es t) (l : es.length ≤ 4) (d0 : 0 ≤ d) (d1 : d ≤ 1) (ht : t ≤ 9) : FoE (es ++ [⟨maxI 1 (t + d), ⟨"next", []⟩⟩]) (maxI 1 (t + d)) := by
  have h0 := h.t0
  have m1 : 1 ≤ maxI 1 (t + d) ∧ t ≤ maxI 1 (t + d) ∧ maxI 1 (t + d) ≤ 10 := by unfold maxI; split <;> omega
  refine ⟨by rw [List.length_append]; simp only [List.length_cons, List.length_nil]; omega, fun e he => ?_, ?_, fun e he => ?_, fun z => absurd z (by simp), by omega⟩
  · rcases List.mem_append.mp he with z | z
    · have := h.c e z
      exact ⟨this.1, this.2.1, by omega⟩
    · rw [List.mem_singleton.mp z]
      exact ⟨rfl, m1.1, Int.le_refl _⟩
  · rw [List.map_append, List.pairwise_append]
    refine ⟨h.asc, List.pairwise_cons.mpr ⟨fun _ z => (nomatch z), .nil⟩, fun x hx y hy => ?_⟩
    obtain ⟨e, he, rfl⟩ := List.mem_map.mp hx
    obtain ⟨e', he', rfl⟩ := List.mem_map.mp hy
    rw [List.mem_singleton.mp he']
    have := (h.c e he).2.2
    show e.t ≤ maxI 1 (t + d)
    omega
  · rw [List.getLast?_append] at he
    have := Option.some.inj (show some (⟨maxI 1 (t + d), ⟨"next", []⟩⟩ : RN) = some e from he)
    rw [← this]
theorem ok_law_follower {P : Program} {w : World} {K : PySem.W.Frag} {mg : Str → Option Value} {base : Heap}
    {C_Replica : Addr} (T_Replica : Tx_Replica K mg C_Replica)
    {C_Counter : Addr} (T_Counter : Tx_Counter K mg C_Counter)
    {f : Addr} {fd : FuncData} (D : Dn K mg "_law_follower" s_law_follower ["draws"] f fd)
    (b_len : mg "len" = none)
    (b_tuple : mg "tuple" = none)
    (b_range : mg "range" = none)
    (b_max : mg "max" = none)
    (c_Replica_synced : CalM P w K mg base CX0 8 C_Replica "synced" (sp_Replica_synced K C_Replica C_Counter))
    (c_Replica_take : CalM P w K mg base CX0 11 C_Replica "take" (sp_Replica_take K C_Replica C_Counter))
    (c_law_draw : Cal P w K mg base CX0 2 "_law_draw" (sp_law_draw K))
    (c_Replica___init__ : CalI P w K mg base CX0 5 C_Replica (sp_Replica___init__ K C_Replica C_Counter)) : Cal P w K mg base CX0 12 "_law_follower" (sp_law_follower K C_Replica C_Counter) := by
  refine D.ok sc_law_follower (fun vs H Q E h => ?_) fun cdv A outer s H vs Q E hr h => ?_
  · obtain ⟨x, M, G, j, ⟨rfl, _⟩, _⟩ := h; rfl
  obtain ⟨p, M, G, j, ⟨rfl, hd, nt⟩, k⟩ := h
  dsimp only at hd k
  refine ⟨_, (pss_cons (ps_set (i := 1) sc_law_follower.nd rfl (Or.inl rfl) pe_int)
(pss_cons (ps_set (i := 2) sc_law_follower.nd rfl (Or.inl rfl) (pe_lst pa_nil))
(pss_cons (ps_for PassesOwn.never rfl (pi_range1 (by rfl) b_range (pa_cons (pe_op op_mod (pe_cal c_law_draw hr (by first | decide | omega) (by rfl) (pa_cons (pv 0) pa_nil)) pe_int) pa_nil)) (pg_name (i := 3) sc_law_follower.nd rfl (Or.inl rfl))
(pss_cons (ps_set (i := 1) sc_law_follower.nd rfl (Or.inl rfl) (pe_op (op_uAddK (K := K) rfl) (pv 1) (pe_op op_mod (pe_cal c_law_draw hr (by first | decide | omega) (by rfl) (pa_cons (pv 0) pa_nil)) pe_int)))
(pss_cons (ps_expr (pe_bm PySem.F.plainAttrs_list PySem.F.slot_list_append PySem.F.type_list_append mt_append (pv 2) (pa_cons (pe_tup (pa_cons (pe_callB (call_max2 rfl) (by rfl) b_max bt_max (pa_cons pe_int (pa_cons (pv 1) pa_nil))) (pa_cons (pe_tup (pa_cons pe_str pa_nil)) pa_nil))) pa_nil)))
(pss_one (ps_set (i := 1) sc_law_follower.nd rfl (Or.inl rfl) (pe_callB (call_max2 rfl) (by rfl) b_max bt_max (pa_cons pe_int (pa_cons (pv 1) pa_nil))))))))
(pss_cons (ps_set (i := 4) sc_law_follower.nd rfl (Or.inl rfl) (pe_calI c_Replica___init__ T_Replica.gC hr (by first | decide | omega) (by rfl) (pa_cons pe_int (pa_cons pe_int (pa_cons (pe_tup (pa_cons pe_int (pa_cons pe_int (pa_cons (pe_tup (pa_cons pe_int (pa_cons pe_int (pa_cons pe_int pa_nil)))) (pa_cons (pe_tup (pa_cons pe_str (pa_cons pe_int pa_nil))) pa_nil))))) pa_nil)))))
(pss_cons (ps_if (pt_cmpR op_gt (pe_callB (call_uLenK (K := K) rfl) (by rfl) b_len PySem.boot_len (pa_cons (pv 2) pa_nil)) pe_int (nomark _))
(pss_cons (ps_expr (pe_calM c_Replica_take T_Replica.cl hr (by first | decide | omega) (pv 4) (pa_cons pe_int (pa_cons (pe_tup (pa_cons pe_str (pa_cons pe_int (pa_cons (pv 1) (pa_cons pe_int (pa_cons pe_int (pa_cons (pe_callTy (call_tupC (K := K) rfl) (by rfl) b_tuple bt_tuple (pa_cons (pv 2) pa_nil)) (pa_cons (pe_op op_uMul (pe_op op_mod (pe_cal c_law_draw hr (by first | decide | omega) (by rfl) (pa_cons (pv 0) pa_nil)) pe_int) (pe_op op_mod (pe_cal c_law_draw hr (by first | decide | omega) (by rfl) (pa_cons (pv 0) pa_nil)) pe_int)) pa_nil)))))))) pa_nil))))
(pss_one (ps_expr (pe_calM0 c_Replica_synced T_Replica.cl hr (by first | decide | omega) (pv 4)))))
pss_nil)
(pss_cons (ps_expr (pe_bm0 PySem.F.plainAttrs_list PySem.F.slot_list_clear PySem.F.type_list_clear mt_clear (pe_fld (pv 4) rfl)))
(pss_cons (ps_expr (pe_bm0 PySem.F.plainAttrs_list PySem.F.slot_list_clear PySem.F.type_list_clear mt_clear (pe_fld (pv 4) rfl)))
(pss_cons (ps_expr (pe_bm0 PySem.F.plainAttrs_list PySem.F.slot_list_clear PySem.F.type_list_clear mt_clear (pe_fld (pv 4) rfl)))
(pss_one (ps_ret (pv 4))))))))))), ?_⟩
  obtain ⟨xs0, hx0⟩ := hd.atR
  walk_at "start"
  refine w_newM j (Nat.zero_le _) fun E1 H1 j1 nE gE => ?_
  have pE : E1 ≠ p := fun z => by rw [z, hx0] at nE; cases nE
  walk_at "go"
  refine use_draw j1 (hd.upd pE) fun n2 M2 G2 H2 _ _ j2 e2 d2 a2 => ?_
  obtain ⟨xs2, hx2⟩ := d2.atR
  have nt2 : NoT M2 := nt.updL.ag a2 hx2 fun _ z => nomatch z
  have hE2 : M2 E1 = some (.lst []) := by rw [a2 E1 pE]; exact upd_same
  walk_at "go"
  refine w_rng (fun i σ H => ∃ M G vs es t x3, J M G H ∧ Ex G2 G ∧ Dr K M G p ∧ NoT M ∧ M E1 = some (.lst vs) ∧ DpAll K G vs (es.map rnD) ∧ FoE es t ∧ es.length = i ∧ t ≤ i + 1 ∧ σ = [some (.ref p), some (.int t), some (.ref E1), x3, none]) ⟨M2, G2, [], [], 0, _, j2, Same.refl _, d2, nt2, hE2, .nil, ⟨by show 0 ≤ 5; omega, (fun e he => nomatch he), .nil, (fun e he => nomatch he), fun _ => rfl, by omega⟩, rfl, by omega, rfl⟩ ?_ ?_ (by omega) (by omega)
  · rintro i σ H hi ⟨M3, G3, vs, es, t, x3, j3, e3, d3, nt3, hE3, hvs, hF, hl, ht, rfl⟩
    have hi : i < 5 := by omega
    walk_at "go"
    refine use_draw j3 d3 fun n4 M4 G4 H4 _ _ j4 e4 d4 a4 => ?_
    obtain ⟨xs4, hx4⟩ := d4.atR
    have nt4 : NoT M4 := nt3.ag a4 hx4 fun _ z => nomatch z
    have hE4 : M4 E1 = some (.lst vs) := by rw [a4 E1 pE]; exact hE3
    obtain ⟨d, hd'⟩ : ∃ d, d = n4 % 2 := ⟨_, rfl⟩
    walk_at "go"
    rw [← hd']
    refine ⟨ty_listM j4 hE4, ?_⟩
    walk_at "go"
    refine ⟨_, _, rfl, ?_⟩
    obtain ⟨m, hm⟩ : ∃ m, m = maxI 1 (t + d) := ⟨_, rfl⟩
    rw [show (if t + d > 1 then t + d else 1) = m from hm.symm]
    walk_at "go"
    refine w_new j4 (by show 1 ≤ sizeLine; decide) fun u1 G5 H5 j5 e5 hu1 _ => ?_
    walk_at "go"
    refine w_new j5 (by show 2 ≤ sizeLine; decide) fun u2 G6 H6 j6 e6 hu2 _ => ?_
    walk_at "go"
    have lv := dpAll_len hvs
    rw [List.length_map, hl] at lv
    refine w_appendA j6 hE4 (by omega) fun H7 j7 => ?_
    walk_at "go"
    refine ⟨_, _, rfl, ?_⟩
    rw [show (if t + d > 1 then t + d else 1) = m from hm.symm]
    walk_at "go"
    have hm2 : m ≤ ((i + 1 : Nat) : Int) + 1 := by rw [hm]; unfold maxI; split <;> omega
    refine ⟨_, G6, _, es ++ [⟨m, ⟨"next", []⟩⟩], m, _, j7, e3.trans (e4.trans (e5.trans e6)), (d4.ex (e5.trans e6)).upd pE, nt4.updL, upd_same, ?_, by rw [hm]; exact hF.snoc (by omega) (by omega) (by omega) (by omega), by rw [List.length_append, hl]; rfl, hm2, rfl⟩
    rw [List.map_append]
    exact dpAll_snoc (dpAll_mono (e4.trans (e5.trans e6)) hvs) (.tup (st_of hu2) (.cons (.int _) (.cons (.tup (st_of (e6 _ _ hu1)) (.cons (.str _) .nil)) .nil)))
  rintro σ H ⟨M3, G3, vs, es, t, x3, j3, e3, d3, nt3, hE3, hvs, hF, hl, ht, rfl⟩
  obtain ⟨xs3, hx3⟩ := d3.atR
  have E3 := e2.trans e3
  walk_at "go"
  refine w_new j3 (by show 3 ≤ sizeLine; decide) fun t0 G4 H4 j4 e4 ht0 _ => ?_
  walk_at "go"
  refine w_new j4 (by show 2 ≤ sizeLine; decide) fun t1 G5 H5 j5 e5 ht1 _ => ?_
  walk_at "go"
  refine w_new j5 (by show 4 ≤ sizeLine; decide) fun t2 G6 H6 j6 e6 ht2 _ => ?_
  walk_at "go"
  refine w_makeX j6 fun x dx H7 j7 nx gx => ?_
  refine w_sg (α := IrP) ⟨x, dx, 1, 0, .ref t2, some (baseN 3), 0⟩ j7 ⟨rfl, upd_same, nt3.updI, .tup (st_of ht2) (.cons (.int _) (.cons (.int _) (.cons (dp_intsT (ms := upI 3) (st_of ((e5.trans e6) _ _ ht0))) (.cons (.tup (st_of (e6 _ _ ht1)) (.cons (.str _) (.cons (.int _) .nil))) .nil)))), fun b hb => by obtain rfl := Option.some.inj hb; rfl⟩ fun v M8 G8 H8 j8 e8 ⟨ev, a, hR, pe, kp, nw⟩ => ⟨ev, ?_⟩
  have kp0 : ∀ b o, M3 b = some o → M8 b = some o := fun b o e => kp b o (upd_ne' e (ne_of_none e nx)) (ne_of_none e nx)
  have nw0 : ∀ b ∈ a.cells, M3 b = none := fun b m => by
    rcases nw b m with z | z
    · rw [z]; exact nx
    · by_cases q : b = x
      · rw [q]; exact nx
      · rw [upd_ne q] at z; exact z
  dsimp only at hR pe
  have E8 := (e4.trans (e5.trans e6)).trans e8
  have hS8 : SR K C_Replica C_Counter M8 G8 p a (initR 1 0 (some (baseN 3)) 0) := ⟨(d3.ex E8).mvR fun o ho => kp0 p o ho, hR, fun m => by rw [nw0 p m] at hx3; cases hx3⟩
  have hE8 : M8 E1 = some (.lst vs) := kp0 _ _ hE3
  have hF8 := fog_init 1 (baseN 3) 0
  have hz8 : (initR 1 0 (some (baseN 3)) 0).sz = 0 := rfl
  have hv8 : (initR 1 0 (some (baseN 3)) 0).du = 0 ∧ (initR 1 0 (some (baseN 3)) 0).voted = none ∧ (initR 1 0 (some (baseN 3)) 0).votes = [] := ⟨rfl, rfl, rfl⟩
  generalize initR 1 0 (some (baseN 3)) 0 = r8 at hS8 hF8 hz8 hv8
  have hvs8 := dpAll_mono E8 hvs
  walk_at "to"
  have lv := dpAll_len hvs
  rw [List.length_map] at lv
  refine w_seqO (fun σ H => ∃ M9 G9 a9 r9 c, J M9 G9 H ∧ SR K C_Replica C_Counter M9 G9 p a9 r9 ∧ Ex G8 G9 ∧ a9.p = x ∧ FoG 1 (baseN 3) 0 t es c r9 ∧ r9.du = es.length ∧ r9.voted = none ∧ r9.votes = [] ∧ r9.sz ≤ 100 ∧ σ = [some (.ref p), some (.int t), some (.ref E1), x3, some (.ref x)]) ?_ fun N hN => ?_
  rotate_left
  · walk_at "go"
    refine w_lenM j8 hE8 ?_
    walk_at "go"
    rw [lv]
    refine w_dec (fun c2 => ?_) (fun c2 => ?_)
    rotate_left
    · walk_at "go"
      have e0 : es = [] := List.length_eq_zero_iff.mp (by omega)
      have t0 := hF.nil e0
      subst e0 t0
      exact hN _ _ ⟨_, _, _, _, 0, j8, hS8, Same.refl _, pe, hF8, by rw [hv8.1]; rfl, hv8.2.1, hv8.2.2, by omega, rfl⟩
    walk_at "go"
    rw [← pe]
    (have hop := RepAt.op hS8.rp; refine w_methM j8 hop (no_Replica (by decide +kernel) (by decide +kernel) (by decide +kernel) (by decide +kernel) (by decide +kernel) (by decide +kernel) (by decide +kernel) (by decide +kernel) (by decide +kernel) (by decide +kernel) (by decide +kernel) (by decide +kernel) (by decide +kernel) (by decide +kernel) (by decide +kernel) (by decide +kernel) (by decide +kernel) (by decide +kernel) (by decide +kernel) (by decide +kernel) (by decide +kernel)) ?_; clear hop; walk_at "go")
    refine w_tupC (sl_of (j8.m _ _ hE8)) (w_new j8 (Nat.zero_le _) fun tq G9 H9 j9 e9 htq _ => ?_)
    have hS9 := hS8.ex e9
    walk_at "go"
    refine use_draw j9 hS9.dr fun n10 M10 G10 H10 _ _ j10 e10 d10 a10 => ?_
    have hS10 := hS9.draw e10 d10 a10
    walk_at "go"
    refine use_draw j10 hS10.dr fun n11 M11 G11 H11 _ _ j11 e11 d11 a11 => ?_
    have hS11 := hS10.draw e11 d11 a11
    walk_at "go"
    obtain ⟨cc, hcc⟩ : ∃ cc, cc = (n10 % 2) * (n11 % 6) := ⟨_, rfl⟩
    refine w_mulI (.inl (by omega)) ?_
    rw [← hcc]
    walk_at "go"
    refine w_new j11 (by show 7 ≤ sizeLine; decide) fun lt G12 H12 j12 e12 hlt _ => ?_
    have hS12 := hS11.ex e12
    walk_at "go"
    have E12 := e9.trans (e10.trans (e11.trans e12))
    have hft := hF.t0
    have hlen := hF.len
    refine w_sg (α := TkP) ⟨a, r8, 2, .ref lt, t, .copy 0 0 es cc, baseN 3⟩ j12 ⟨rfl, hS12.rp, ⟨lt, .int 0, .ref tq, rfl, st_of hlt, .tup (st_of ((e10.trans (e11.trans e12)) _ _ htq)) (dpAll_mono E12 hvs8)⟩, ⟨hF8.copyOk, by omega, by omega, by omega⟩, by dsimp only; omega⟩ fun v M13 G13 H13 j13 e13 ⟨ev, a13, hR13⟩ => ?_
    obtain ⟨r13, er13, f1, f2, f3, f4, f5⟩ := hF8.copy (es := es) (c := cc) (by rw [hv8.1]; exact Int.le_refl _) (s := 2) hft.1
    have hR13 : RepS K C_Replica C_Counter M11 a M13 G13 a13 (takeLv r8 2 t (.copy (baseN 3).i (baseN 3).t es cc)) := hR13
    rw [er13] at hR13
    obtain ⟨a13, p13, hR13⟩ := hR13.pack (p := a.p) rfl hR13.f.pe
    have hS13 := hS12.rep e13 hR13
    have hz13 : r13.sz ≤ 22 := by omega
    walk_at "go"
    rw [← p13]
    (have hop := RepAt.op hS13.rp; refine w_methM j13 hop (no_Replica (by decide +kernel) (by decide +kernel) (by decide +kernel) (by decide +kernel) (by decide +kernel) (by decide +kernel) (by decide +kernel) (by decide +kernel) (by decide +kernel) (by decide +kernel) (by decide +kernel) (by decide +kernel) (by decide +kernel) (by decide +kernel) (by decide +kernel) (by decide +kernel) (by decide +kernel) (by decide +kernel) (by decide +kernel) (by decide +kernel) (by decide +kernel)) ?_; clear hop; walk_at "go")
    refine w_sg (α := KiP) ⟨a13, r13, baseN 3⟩ j13 ⟨rfl, hS13.rp, fun z => absurd (f1.role.symm.trans z) (by decide +kernel), by dsimp only; omega⟩ fun v M14 G14 H14 j14 e14 ⟨ev, a14, hR14⟩ => ?_
    obtain ⟨y1, y2⟩ := f1.synced
    obtain ⟨r14, hr14⟩ : ∃ r14, r14 = syncedR r13 := ⟨_, rfl⟩
    obtain ⟨a14, p14, hR14⟩ := hR14.pack (p := a13.p) hr14 hR14.f.pe
    rw [← hr14] at y1 y2
    have hS14 := hS13.rep e14 hR14
    walk_at "go"
    refine hN _ _ ⟨_, _, _, r14, _, j14, hS14, E12.trans (e13.trans e14), p14.trans (p13.trans pe), y1, ?_, ?_, ?_, ?_, by rw [p13, pe]; rfl⟩
    · rw [y2]
      show (0 : Int) + (es.length : Int) = _
      omega
    · rw [y2]
      show r13.voted = none
      rw [f3, hv8.2.1]
      split <;> rfl
    · rw [y2]
      show r13.votes = []
      rw [f4]; exact hv8.2.2
    · rw [y2]
      show r13.sz ≤ 100
      omega
  rintro σ H ⟨M9, G9, a9, r9, c, j9, hS9, e9, p9, hF9, hd9, hv9, hvo9, hz9, rfl⟩
  walk_at "go"
  rw [← p9]
  (have hop := RepAt.op hS9.rp; refine w_fldM j9 hop T_Replica.cl T_Replica.n_letters fl_Replica_letters ?_; clear hop; walk_at "go")
  refine ⟨ty_listM j9 hS9.rp.o_lt, ?_⟩
  refine w_clear j9 hS9.rp.o_lt fun H10 j10 => ?_
  have hR10 := hS9.rp.s.c_lt
  have hS10 := hS9.rep (Same.refl _) hR10
  walk_at "go"
  (have hop := RepAt.op hS10.rp; refine w_fldM j10 hop T_Replica.cl T_Replica.n_records fl_Replica_records ?_; clear hop; walk_at "go")
  refine ⟨ty_listM j10 hS10.rp.o_rc, ?_⟩
  refine w_clear j10 hS10.rp.o_rc fun H11 j11 => ?_
  have hS11 := hS10.rep (Same.refl _) hS10.rp.s.c_rc
  walk_at "go"
  (have hop := RepAt.op hS11.rp; refine w_fldM j11 hop T_Replica.cl T_Replica.n_ledger fl_Replica_ledger ?_; clear hop; walk_at "go")
  refine ⟨ty_listM j11 hS11.rp.o_le, ?_⟩
  refine w_clear j11 hS11.rp.o_le fun H12 j12 => ?_
  have hS12 := hS11.rep (Same.refl _) hS11.rp.s.c_le
  walk_at "go"
  refine k _ _ _ _ j12 (E3.trans (E8.trans e9)) ⟨{ a9 with ltv := [], rcv := [], lev := [] }, { r9 with letters := [], records := [], ledger := [] }, es, t, c, rfl, hS12, ⟨hF9.me, hF9.group, hF9.term, hF9.base, hF9.ents, hF9.role, hF9.cm, hF9.ap, hF9.st, hF9.cb⟩, hF, hd9, rfl, rfl, rfl, hv9, hvo9, ?_⟩
  unfold Rpl.sz at hz9 ⊢
  simp only [List.length_nil]
  omega
/-! ### _law_numbers -/
abbrev s_law_numbers : Stmt := top 25
abbrev n_law_numbers : List Str := ["script", "numbers", "cell", "rest", "k"]
theorem sc_law_numbers : FnScope n_law_numbers ["script"] (defScope s_law_numbers) := ⟨rfl, rfl, rfl, by decide +kernel, rfl, by decide +kernel, by decide +kernel⟩
def sp_law_numbers (K : PySem.W.Frag) : Sp := Sg (α := Addr × List Int) (fun a vs M G => vs = [.ref a.1] ∧ SqL K G a.1 (a.2.map V.int) ∧ a.2.length ≤ 63)
  (fun a M _ v M' G' => ∃ (t : Addr) (ns : List Int), v = .ref t ∧ G' t = some (.lst (ns.map V.int)) ∧ (∀ n ∈ ns, 0 ≤ n ∧ n < 1000000) ∧ M' = M)
theorem nums_snoc {ns : List Int} {n : Int} (h : ∀ n ∈ ns, 0 ≤ n ∧ n < 1000000) (hn : 0 ≤ n ∧ n < 1000000) : ∀ m ∈ ns ++ [n], 0 ≤ m ∧ m < 1000000 := by
  intro m hm
  rcases List.mem_append.mp hm with hm | hm
  · exact h m hm
  · rw [List.mem_singleton.mp hm]; exact hn
theorem mod_b (n : Int) : 0 ≤ n % 1000000 ∧ n % 1000000 < 1000000 := ⟨Int.emod_nonneg _ (by decide), Int.emod_lt_of_pos _ (by decide)⟩
/-- between the turns: d holds at most m numbers -/
def NumsI (M G : Hp) (a d : Addr) (m : Nat) (σ : L2.St) (H : Hp) : Prop := ∃ (ns : List Int) (G1 : Hp) (x y z : Option V), J (upd M d (.lst (ns.map V.int))) G1 H ∧ Ex G G1 ∧ (∀ n ∈ ns, 0 ≤ n ∧ n < 1000000) ∧ ns.length ≤ m ∧
  σ = [some (.ref a), some (.ref d), x, y, z]
def NumsJ (M G : Hp) (a d : Addr) (m : Nat) (c : Int) (σ : L2.St) (H : Hp) : Prop := ∃ (ns : List Int) (G1 : Hp) (y z : Option V), J (upd M d (.lst (ns.map V.int))) G1 H ∧ Ex G G1 ∧ (∀ n ∈ ns, 0 ≤ n ∧ n < 1000000) ∧ ns.length ≤ m ∧
  σ = [some (.ref a), some (.ref d), some (.int c), y, z]
def NumsR (M G : Hp) (a d : Addr) (m : Nat) (c : Int) (σ : L2.St) (H : Hp) : Prop := ∃ (ns : List Int) (G1 : Hp) (r : Int) (z : Option V), J (upd M d (.lst (ns.map V.int))) G1 H ∧ Ex G G1 ∧ (∀ n ∈ ns, 0 ≤ n ∧ n < 1000000) ∧ ns.length ≤ m ∧
  σ = [some (.ref a), some (.ref d), some (.int c), some (.int r), z]
theorem ok_law_numbers {P : Program} {w : World} {K : PySem.W.Frag} {mg : Str → Option Value} {base : Heap}
    {f : Addr} {fd : FuncData} (D : Dn K mg "_law_numbers" s_law_numbers ["script"] f fd)
    (b_range : mg "range" = none)
    (c_law_mixed : Cal P w K mg base CX0 1 "_law_mixed" (sp_law_mixed K)) : Cal P w K mg base CX0 2 "_law_numbers" (sp_law_numbers K) := by
  refine D.ok sc_law_numbers (fun vs H Q E h => ?_) fun cdv A outer s H vs Q E hr h => ?_
  · obtain ⟨a, M, G, j, ⟨rfl, _⟩, _⟩ := h; rfl
  obtain ⟨⟨a, cs⟩, M, G, j, ⟨rfl, ha, hl⟩, k⟩ := h
  refine ⟨_, (pss_cons (ps_set (i := 1) sc_law_numbers.nd rfl (Or.inl rfl) (pe_lst pa_nil))
(pss_cons (ps_for PassesOwn.never rfl (pi_list (pv 0)) (pg_name (i := 2) sc_law_numbers.nd rfl (Or.inl rfl))
(pss_one (ps_if (pt_cmpR op_ge (pv 2) (pe_op op_pow pe_int pe_int) (nomark _))
(pss_cons (ps_set (i := 3) sc_law_numbers.nd rfl (Or.inl rfl) (pv 2))
(pss_one (ps_for PassesOwn.never rfl (pi_range1 (by rfl) b_range (pa_cons pe_int pa_nil)) (pg_name (i := 4) sc_law_numbers.nd rfl (Or.inl rfl))
(pss_one (ps_if (pt_cmpR op_gt (pv 3) pe_int (nomark _))
(pss_cons (ps_expr (pe_bm PySem.F.plainAttrs_list PySem.F.slot_list_append PySem.F.type_list_append mt_append (pv 1) (pa_cons (pe_op op_mod (pv 3) pe_int) pa_nil)))
(pss_one (ps_set (i := 3) sc_law_numbers.nd rfl (Or.inl rfl) (pe_op op_fdiv (pv 3) pe_int))))
pss_nil)))))
(pss_cons (ps_expr (pe_bm PySem.F.plainAttrs_list PySem.F.slot_list_append PySem.F.type_list_append mt_append (pv 1) (pa_cons (pe_op op_mod (pv 2) pe_int) pa_nil)))
(pss_one (ps_for PassesOwn.never rfl (pi_range1 (by rfl) b_range (pa_cons pe_int pa_nil)) (pg_name (i := 4) sc_law_numbers.nd rfl (Or.inl rfl))
(pss_one (ps_expr (pe_bm PySem.F.plainAttrs_list PySem.F.slot_list_append PySem.F.type_list_append mt_append (pv 1) (pa_cons (pe_op op_mod (pe_cal c_law_mixed hr (by first | decide | omega) (by rfl) (pa_cons (pe_cal c_law_mixed hr (by first | decide | omega) (by rfl) (pa_cons (pe_op op_mod (pv 2) pe_int) (pa_cons (pv 4) pa_nil))) (pa_cons (pe_op (op_uAddK (K := K) rfl) (pv 4) pe_int) pa_nil))) pe_int) pa_nil))))))))))
(pss_one (ps_ret (pv 1))))), ?_⟩
  walk_at "start"
  refine w_newM j (by decide) fun d H1 j1 nM nG => ?_
  walk_at "go"
  refine w_forLV rfl (NumsI M G a d ∘ (60 * ·)) (xs := cs.map V.int) (sl_mono j1.g ha) ⟨[], G, _, _, _, j1, Same.refl G, by simp, Nat.le_refl _, rfl⟩ (fun i σ H _ ⟨ns, G1, _, _, _, j, e, _⟩ => sl_mono (e.trans j.g) ha) ?_ ?_
  · rintro i x σ H hi ⟨ns, G1, x0, y0, z0, j, e, hn, hz, rfl⟩
    dsimp only at ha hl
    obtain ⟨c, rfl⟩ : ∃ c, x = V.int c := by
      rw [List.getElem?_map] at hi
      cases h : cs[i]? with
      | none => rw [h] at hi; cases hi
      | some c => rw [h] at hi; exact ⟨c, (Option.some.inj hi).symm⟩
    have hi' : i < 63 := by
      have := (List.getElem?_eq_some_iff.mp hi).1
      rw [List.length_map] at this; omega
    dsimp only at hz
    walk_at "go"
    refine w_dec (fun h1 => ?_) (fun h1 => ?_)
    · walk_at "go"
      refine w_rng (fun t => NumsR M G a d (60 * i + t) c) ⟨ns, G1, c, _, j, e, hn, hz, rfl⟩ ?_ ?_
      · rintro t σ H ht ⟨ns, G1, r, z, j, e, hn, hz, rfl⟩
        have ht : t < 60 := ht
        walk_at "go"
        refine w_dec (fun h2 => ?_) (fun h2 => ?_)
        · walk_at "go"
          refine ⟨ty_listU j, ?_⟩
          walk_at "go"
          refine w_appendU j (by rw [List.length_map]; omega) fun H' j' => ?_
          walk_at "go"
          exact ⟨ns ++ [r % 1000000], G1, r / 1000000, _, by rw [← map_snoc]; exact j', e, nums_snoc hn (mod_b r), by rw [List.length_append, List.length_singleton]; omega, rfl⟩
        · walk_at "go"
          exact ⟨ns, G1, r, _, j, e, hn, by omega, rfl⟩
      · rintro σ H ⟨ns, G1, r, z, j, e, hn, hz, rfl⟩
        exact ⟨ns, G1, _, _, _, j, e, hn, hz, rfl⟩
    · walk_at "go"
      refine ⟨ty_listU j, ?_⟩
      walk_at "go"
      refine w_appendU j (by rw [List.length_map]; omega) fun H' j' => ?_
      rw [map_snoc] at j'
      walk_at "go"
      refine w_rng (fun t => NumsJ M G a d (60 * i + 1 + t) c) ⟨ns ++ [c % 1000000], G1, _, _, j', e, nums_snoc hn (mod_b c), by rw [List.length_append, List.length_singleton]; omega, rfl⟩ ?_ ?_
      · rintro t σ H ht ⟨ns, G1, y, z, j, e, hn, hz, rfl⟩
        have ht : t < 5 := ht
        walk_at "go"
        refine ⟨ty_listU j, ?_⟩
        walk_at "go"
        refine w_sg (_, _) j rfl fun v M' G' H' j2 e2 ⟨ev, em⟩ => ?_
        subst ev em
        walk_at "go"
        refine w_sg (_, _) j2 rfl fun v M' G' H' j3 e3 ⟨ev, em⟩ => ?_
        subst ev em
        walk_at "go"
        refine w_appendU j3 (by rw [List.length_map]; omega) fun H' j' => ?_
        rw [map_snoc] at j'
        exact ⟨_, _, _, _, j', (e.trans e2).trans e3, nums_snoc hn (mod_b _), by rw [List.length_append, List.length_singleton]; omega, rfl⟩
      · rintro σ H ⟨ns, G1, y, z, j, e, hn, hz, rfl⟩
        exact ⟨ns, G1, _, _, _, j, e, hn, by show ns.length ≤ 60 * (i + 1); have : ns.length ≤ 60 * i + 1 + 5 := hz; omega, rfl⟩
  · rintro σ H ⟨ns, G1, x, y, z, j, e, hn, hz, rfl⟩
    walk_at "go"
    exact k _ _ _ _ (j.freeze nM) (e.trans (Ex.new j.freezeG)) ⟨d, ns, rfl, upd_same, hn, rfl⟩
/-! ### commands without more words -/
theorem ch_nil {c : RC} (h : c.ds = []) : isCh c = false := by
  unfold isCh
  rw [h]
  exact Bool.and_false _
theorem okD_oID (n : Nat) (o : Option Int) : okD n (oID o) := by
  cases o with
  | none => unfold oID okD; trivial
  | some x => unfold oID okD; trivial
theorem okD_nil {n : Nat} {e : RN} (h : e.c.ds = []) : okD (n + 2) (rnD e) := by
  refine ⟨by show 2 ≤ 100000; decide, fun x hx => ?_⟩
  simp only [List.mem_cons, List.not_mem_nil, or_false] at hx
  rcases hx with rfl | rfl
  · unfold okD; trivial
  · unfold rcD
    rw [h]
    refine ⟨by show 1 ≤ 100000; decide, fun x hx => ?_⟩
    rw [List.mem_singleton.mp hx]
    unfold okD; trivial
def recT (t : Int) (v : Option Int) : PyData := .tuple [.str "term", .int 0, .int t, oID v]
theorem okD_recT (n : Nat) (t : Int) (v : Option Int) : okD (n + 1) (recT t v) := by
  refine ⟨by show 4 ≤ 100000; decide, fun x hx => ?_⟩
  simp only [List.mem_cons, List.not_mem_nil, or_false] at hx
  rcases hx with rfl | rfl | rfl | rfl
  · unfold okD; trivial
  · unfold okD; trivial
  · unfold okD; trivial
  · exact okD_oID _ _
/-! ### entries next and none -/
def NnE (e : RN) : Prop := e.c = ⟨"next", []⟩ ∨ e.c = ⟨"none", []⟩
theorem NnE.ds {e : RN} (h : NnE e) : e.c.ds = [] := by rcases h with h | h <;> rw [h]
theorem eqv_next {c : RC} (h : c.ds = []) : PyData.eqv (rcD c) (.tuple [.str "next"]) = isNx c := by
  obtain ⟨w, ds⟩ := c
  have : ds = [] := h
  subst this
  show (PyData.eqvAll [.str w] [.str "next"]) = _
  unfold isNx
  show ((w == "next") && true) = (decide (([] : List PyData).length = 0) && decide (w = "next"))
  rw [Bool.and_true, Bool.beq_eq_decide_eq, show decide (([] : List PyData).length = 0) = true from rfl, Bool.true_and]
theorem shaped_nil {e : RN} (h : NnE e) : SeqAt.shaped (rcD e.c) = true := by
  rcases h with h | h
  · rw [h]
    simp [rcD, SeqAt.shaped, PyData.depth, PyData.depthAll, PyData.canLay0, PyData.canLayAll0]
    decide +kernel
  · rw [h]
    simp [rcD, SeqAt.shaped, PyData.depth, PyData.depthAll, PyData.canLay0, PyData.canLayAll0]
    decide +kernel
theorem cutV_to {xs : List V} {n : Nat} : cutV xs none (some (n : Int)) = xs.take n := by
  have h1 : HT.sIx xs.length xs.length (some (n : Int)) = min n xs.length := HT.sIx_nat _ _ _
  have h2 : HT.sIx xs.length 0 none = 0 := rfl
  unfold cutV
  rw [h1, h2, List.drop_zero, Nat.sub_zero]
  by_cases q : n ≤ xs.length
  · rw [Nat.min_eq_left q]
  · rw [Nat.min_eq_right (by omega), List.take_length, List.take_of_length_le (by omega)]
/-! ### copies: what a follower takes, beside the law's own list -/
def tAt (full : List RN) : Nat → Int
  | 0 => 0
  | k + 1 => ((full[k]?).map (·.t)).getD 0
theorem tAt_succ {full : List RN} {k : Nat} : tAt full (k + 1) = ((full[k]?).map (·.t)).getD 0 := rfl
def basK (full : List RN) (k : Nat) : RB := ⟨k, tAt full k, upI 3, cntD (nxs (full.take k))⟩
def sameT (log : List RN) (i : Nat) (e : RN) : Bool := decide ((log[i]?).map (·.t) = some e.t)
def stepL (log : List RN) (i : Nat) (e : RN) : List RN := if sameT log i e = true then log else log.take i ++ [e]
def entD (i : Int) (e : RN) : PyData := .tuple [.str "entry", .int 0, .int i, .int e.t, rcD e.c]
def stepR (log : List RN) (i : Nat) (e : RN) : List PyData := if sameT log i e = true then [] else [entD ((i + 1 : Nat) : Int) e]
def takenL : List RN → Nat → List RN → List RN
  | log, _, [] => log
  | log, i, e :: es => takenL (stepL log i e) (i + 1) es
def takenR : List RN → Nat → List RN → List PyData
  | _, _, [] => []
  | log, i, e :: es => stepR log i e ++ takenR (stepL log i e) (i + 1) es
theorem takenL_snoc : ∀ (es : List RN) (log : List RN) (i : Nat) (e : RN), takenL log i (es ++ [e]) = stepL (takenL log i es) (i + es.length) e
  | [], _, _, _ => rfl
  | x :: es, log, i, e => by
    show takenL (stepL log i x) (i + 1) (es ++ [e]) = stepL (takenL (stepL log i x) (i + 1) es) (i + (es.length + 1)) e
    rw [takenL_snoc es, show i + 1 + es.length = i + (es.length + 1) by omega]
theorem takenR_snoc : ∀ (es : List RN) (log : List RN) (i : Nat) (e : RN), takenR log i (es ++ [e]) = takenR log i es ++ stepR (takenL log i es) (i + es.length) e
  | [], log, i, e => by
    show stepR log i e ++ [] = [] ++ stepR log i e
    rw [List.append_nil]; rfl
  | x :: es, log, i, e => by
    show stepR log i x ++ takenR (stepL log i x) (i + 1) (es ++ [e]) = stepR log i x ++ takenR (stepL log i x) (i + 1) es ++ stepR (takenL (stepL log i x) (i + 1) es) (i + (es.length + 1)) e
    rw [takenR_snoc es, show i + 1 + es.length = i + (es.length + 1) by omega, List.append_assoc]
/-- what the leader sends agrees with what is committed -/
def AgL (log : List RN) (i c : Nat) (es : List RN) : Prop := ∀ (j : Nat) (e : RN), es[j]? = some e → i + j < c → (log[i + j]?).map (·.t) = some e.t
structure TkL (log : List RN) (i c : Nat) (es : List RN) (log' : List RN) : Prop where
  pre : log'.take c = log.take c
  cl : c ≤ log'.length
  il : i + es.length ≤ log'.length
  mem : ∀ e ∈ log', e ∈ log ∨ e ∈ es
  ub : log'.length ≤ log.length + es.length
theorem stepL_o {log : List RN} {i c : Nat} {e : RN} {es : List RN} (hc : c ≤ log.length) (hi : i ≤ log.length) (ag : AgL log i c (e :: es)) : TkL log i c [e] (stepL log i e) ∧ AgL (stepL log i e) (i + 1) c es := by
  unfold stepL
  by_cases q : sameT log i e = true
  · rw [if_pos q]
    have il : i < log.length := by
      unfold sameT at q
      have q := of_decide_eq_true q
      rcases Nat.lt_or_ge i log.length with z | z
      · exact z
      · rw [List.getElem?_eq_none z] at q; cases q
    refine ⟨⟨rfl, hc, il, fun x h => .inl h, by omega⟩, fun j x hx hj => ?_⟩
    have := ag (j + 1) x hx (by omega)
    rw [show i + (j + 1) = i + 1 + j by omega] at this
    exact this
  · rw [if_neg q]
    have hic : c ≤ i := by
      rcases Nat.lt_or_ge i c with z | z
      · exact absurd (decide_eq_true (ag 0 e rfl z)) q
      · exact z
    refine ⟨⟨?_, ?_, ?_, fun x h => ?_, ?_⟩, fun j x hx hj => by omega⟩
    · rw [List.take_append_of_le_length (by rw [List.length_take]; omega), List.take_take, Nat.min_eq_left hic]
    · rw [List.length_append, List.length_take]; simp only [List.length_cons, List.length_nil]; omega
    · rw [List.length_append, List.length_take]; show i + 1 ≤ _ + 1; omega
    · rcases List.mem_append.mp h with z | z
      · exact .inl (List.mem_of_mem_take z)
      · exact .inr z
    · rw [List.length_append, List.length_take]; show _ + 1 ≤ _ + 1; omega
theorem takenL_o : ∀ {es log : List RN} {i c : Nat}, c ≤ log.length → i ≤ log.length → AgL log i c es → TkL log i c es (takenL log i es)
  | [], log, i, c, hc, hi, _ => ⟨rfl, hc, hi, fun x h => .inl h, Nat.le_refl _⟩
  | e :: es, log, i, c, hc, hi, ag => by
    obtain ⟨h1, h2⟩ := stepL_o hc hi ag
    have h3 := takenL_o (i := i + 1) h1.cl h1.il h2
    refine ⟨h3.pre.trans h1.pre, h3.cl, ?_, fun x h => ?_, ?_⟩
    · have := h3.il
      show i + (es.length + 1) ≤ _
      have e : takenL log i (e :: es) = takenL (stepL log i e) (i + 1) es := rfl
      rw [e]; omega
    · rcases h3.mem x h with z | z
      · rcases h1.mem x z with z | z
        · exact .inl z
        · exact .inr (by rw [List.mem_singleton.mp z]; exact List.mem_cons_self)
      · exact .inr (List.mem_cons_of_mem _ z)
    · have a := h3.ub
      have b := h1.ub
      show (takenL (stepL log i e) (i + 1) es).length ≤ log.length + (es.length + 1)
      simp only [List.length_cons, List.length_nil] at b
      omega
theorem takenL_len : ∀ {es log : List RN} {i : Nat}, i ≤ log.length → i + es.length ≤ (takenL log i es).length ∧ (takenL log i es).length ≤ log.length + es.length
  | [], log, i, h => ⟨h, Nat.le_refl _⟩
  | e :: es, log, i, h => by
    have h0 := stepL_o (c := 0) (e := e) (es := es) (Nat.zero_le _) h (fun j x _ z => by omega)
    have a1 : i + 1 ≤ (stepL log i e).length := h0.1.il
    have a2 : (stepL log i e).length ≤ log.length + 1 := h0.1.ub
    obtain ⟨b1, b2⟩ := takenL_len (es := es) (log := stepL log i e) (i := i + 1) a1
    show i + (es.length + 1) ≤ (takenL (stepL log i e) (i + 1) es).length ∧ (takenL (stepL log i e) (i + 1) es).length ≤ log.length + (es.length + 1)
    omega
theorem takenR_len : ∀ (es log : List RN) (i : Nat), (takenR log i es).length ≤ es.length
  | [], log, i => Nat.le_refl _
  | e :: es, log, i => by
    have := takenR_len es (stepL log i e) (i + 1)
    show (stepR log i e ++ takenR (stepL log i e) (i + 1) es).length ≤ es.length + 1
    rw [List.length_append]
    unfold stepR
    split
    · simp only [List.length_nil]; omega
    · simp only [List.length_cons, List.length_nil]; omega
theorem AgL.take {log : List RN} {i c : Nat} {es : List RN} (h : AgL log i c es) (n : Nat) : AgL log i c (es.take n) := fun j e he hj => h j e (by
  by_cases q : j < n
  · rw [List.getElem?_take_of_lt q] at he; exact he
  · rw [List.getElem?_take_eq_none (by omega)] at he; cases he) hj
theorem entry29 {r : Rpl} {log : List RN} {k i : Nat} {e : RN} {b : RB} (hg : r.group = 0) (hb : r.base = some b) (bi : b.i = k) (he : r.ents = log.drop k) (hk : k ≤ log.length) (hi : i ≤ log.length) (ag : i < k → sameT log i e = true) : ∃ d, takeEntry r ((i + 1 : Nat) : Int) e = { r with ents := (stepL log i e).drop k, du := d, records := r.records ++ stepR log i e } := by
  have le : r.ents.length = log.length - k := by rw [he, List.length_drop]
  have el : lastI r = log.length := by
    unfold lastI
    rw [hb]
    show b.i + (r.ents.length : Int) = _
    rw [le, bi]
    omega
  have et : takeEntry r ((i + 1 : Nat) : Int) e = if ((i + 1 : Nat) : Int) ≤ b.i ∨ hasE r ((i + 1 : Nat) : Int) e.t = true then r else attachR (cutR r (((i + 1 : Nat) : Int) - b.i - 1).toNat) e := by
    unfold takeEntry
    rw [hb]
  have tm : k ≤ i → i < log.length → termAt r ((i + 1 : Nat) : Int) = ((log[i]?).map (·.t)).getD 0 := fun h1 h2 => by
    unfold termAt
    rw [hb]
    dsimp only
    rw [if_neg (by omega), show (((i + 1 : Nat) : Int) - b.i - 1).toNat = i - k by omega, he, List.getElem?_drop, show k + (i - k) = i by omega]
  rw [et]
  unfold stepL stepR
  by_cases q : sameT log i e = true
  · have q' : (log[i]?).map (·.t) = some e.t := of_decide_eq_true q
    have il : i < log.length := by
      rcases Nat.lt_or_ge i log.length with z | z
      · exact z
      · rw [List.getElem?_eq_none z] at q'; cases q'
    rw [if_pos q, if_pos q, if_pos]
    · exact ⟨r.du, by rw [List.append_nil, ← he]⟩
    · rcases Nat.lt_or_ge i k with z | z
      · exact .inl (by omega)
      · refine .inr ?_
        unfold hasE
        rw [hb]
        dsimp only
        rw [tm z il, q', decide_eq_true (show b.i < ((i + 1 : Nat) : Int) by omega), decide_eq_true (show ((i + 1 : Nat) : Int) ≤ lastI r by omega)]
        exact decide_eq_true rfl
  · have ik : k ≤ i := by
      rcases Nat.lt_or_ge i k with z | z
      · exact absurd (ag z) q
      · exact z
    rw [if_neg q, if_neg q, if_neg]
    · rw [show (((i + 1 : Nat) : Int) - b.i - 1).toNat = i - k by omega]
      refine ⟨(cutR r (i - k)).du, ?_⟩
      have e1 : r.ents.take (i - k) ++ [e] = (log.take i ++ [e]).drop k := by
        rw [he, List.drop_append_of_le_length (by rw [List.length_take]; omega), List.drop_take]
      have e2 : lastI { cutR r (i - k) with ents := (cutR r (i - k)).ents ++ [e] } = ((i + 1 : Nat) : Int) := by
        unfold lastI cutR
        dsimp only
        rw [hb]
        dsimp only
        rw [List.length_append, List.length_take, le]
        simp only [List.length_cons, List.length_nil]
        omega
      unfold attachR
      rw [e2]
      unfold cutR entD
      dsimp only
      rw [e1, hg]
    · rintro (z | z)
      · omega
      · unfold hasE at z
        rw [hb] at z
        dsimp only at z
        simp only [Bool.and_eq_true, decide_eq_true_eq] at z
        obtain ⟨z1, z2, z3⟩ := z
        have il : i < log.length := by omega
        rw [tm ik il, List.getElem?_eq_getElem il] at z3
        refine q (decide_eq_true ?_)
        rw [List.getElem?_eq_getElem il]
        exact congrArg some z3
theorem ents29 {k c : Nat} {b : RB} (bi : b.i = k) (kc : k ≤ c) : ∀ {es log : List RN} {i : Nat} {r : Rpl}, r.group = 0 → r.base = some b → r.ents = log.drop k → c ≤ log.length → i ≤ log.length → AgL log i c es → ∃ d, takeEnts r ((i + 1 : Nat) : Int) es = { r with ents := (takenL log i es).drop k, du := d, records := r.records ++ takenR log i es }
  | [], log, i, r, hg, hb, he, hc, hi, _ => ⟨r.du, by
    show r = { r with ents := log.drop k, du := r.du, records := r.records ++ [] }
    rw [List.append_nil, ← he]⟩
  | e :: es, log, i, r, hg, hb, he, hc, hi, ag => by
    obtain ⟨d, hd⟩ := entry29 (e := e) hg hb bi he (by omega) hi fun z => decide_eq_true (ag 0 e rfl (by omega))
    obtain ⟨h1, h2⟩ := stepL_o hc hi ag
    obtain ⟨r1, hr1⟩ : ∃ r1, r1 = takeEntry r ((i + 1 : Nat) : Int) e := ⟨_, rfl⟩
    rw [← hr1] at hd
    obtain ⟨d2, hd2⟩ := ents29 bi kc (es := es) (log := stepL log i e) (i := i + 1) (r := r1) (by rw [hd]; exact hg) (by rw [hd]; exact hb) (by rw [hd]) h1.cl h1.il h2
    refine ⟨d2, ?_⟩
    show takeEnts (takeEntry r ((i + 1 : Nat) : Int) e) (((i + 1 : Nat) : Int) + 1) es = _
    rw [← hr1, show ((i + 1 : Nat) : Int) + 1 = ((i + 1 + 1 : Nat) : Int) by omega, hd2, hd]
    show ({ r with ents := _, du := d2, records := (r.records ++ stepR log i e) ++ takenR (stepL log i e) (i + 1) es } : Rpl) = { r with ents := _, du := d2, records := r.records ++ (stepR log i e ++ takenR (stepL log i e) (i + 1) es) }
    rw [List.append_assoc]; rfl
structure I29 (k c : Nat) (full : List RN) (r : Rpl) : Prop where
  me : r.me = 1
  group : r.group = 0
  base : r.base = some (basK full k)
  ents : r.ents = full.drop k
  cm : r.cm = c
  ap : r.ap = c
  kc : k ≤ c
  cl : c ≤ full.length
  st : r.st = some (.cnt (nxs (full.take c)))
  role : r.role ≠ "leader"
  nn : ∀ e ∈ full, NnE e
theorem tAt_pre {full full' : List RN} {c k : Nat} (h : full'.take c = full.take c) (kc : k ≤ c) : tAt full' k = tAt full k := by
  cases k with
  | zero => rfl
  | succ k =>
    have e : ∀ xs : List RN, (xs.take c)[k]? = xs[k]? := fun xs => List.getElem?_take_of_lt (by omega)
    rw [tAt_succ, tAt_succ, ← e full', h, e]
theorem basK_pre {full full' : List RN} {c k : Nat} (h : full'.take c = full.take c) (kc : k ≤ c) : basK full' k = basK full k := by
  have e : ∀ xs : List RN, xs.take k = (xs.take c).take k := fun xs => by rw [List.take_take, Nat.min_eq_left kc]
  unfold basK
  rw [tAt_pre h kc, e full', h, ← e]
section
variable {k c : Nat} {full : List RN} {r : Rpl}
theorem I29.last (h : I29 k c full r) : lastI r = full.length := by
  have := h.kc
  have := h.cl
  unfold lastI
  rw [h.base, h.ents, List.length_drop]
  show (k : Int) + _ = _
  omega
theorem I29.run (h : I29 k c full r) : RunOk r (basK full k) := by
  have := h.kc
  have := h.cl
  refine ⟨h.base, by rw [h.ap]; show (k : Int) ≤ c; omega, by rw [h.ap, h.cm]; exact Int.le_refl _, ?_, _, h.st⟩
  rw [h.cm, h.ents, List.length_drop]
  show (c : Int) ≤ (k : Int) + _
  omega
theorem I29.term (h : I29 k c full r) {i : Nat} (h1 : k ≤ i) (h2 : i ≤ full.length) : termAt r i = tAt full i := by
  unfold termAt
  rw [h.base]
  show (if (i : Int) = (k : Int) then tAt full k else ((r.ents[((i : Int) - (k : Int) - 1).toNat]?).map (·.t)).getD 0) = _
  by_cases q : i = k
  · rw [if_pos (by omega), q]
  · obtain ⟨m, rfl⟩ : ∃ m, i = m + 1 := ⟨i - 1, by omega⟩
    rw [if_neg (by omega), show (((m + 1 : Nat) : Int) - (k : Int) - 1).toNat = m - k by omega, h.ents, List.getElem?_drop, show k + (m - k) = m by omega]; rfl
theorem I29.okR (h : I29 k c full r) (z : full.length ≤ 1000) : OkR r := by
  have := h.kc
  have := h.cl
  refine ⟨fun b hb => ?_, fun e he => OkC.not (ch_nil (h.nn e (by rw [h.ents] at he; exact List.mem_of_mem_drop he)).ds)⟩
  rw [h.base] at hb
  obtain rfl := Option.some.inj hb
  exact ⟨by show (upI 3).length ≤ 50; decide, by show (0 : Int) ≤ (k : Int); omega, by show (k : Int) ≤ 1000000000000; omega⟩
theorem I29.copyOk (h : I29 k c full r) {i : Nat} {es : List RN} (ag : AgL full i c es) : CopyOk r i es := fun b hb => by
  have hb' := hb
  rw [h.base] at hb
  obtain rfl := Option.some.inj hb
  refine ⟨h.run, fun j e he hj => ?_⟩
  have hkc := h.kc
  have hcl := h.cl
  rw [h.cm] at hj
  have ht := ag j e he (by omega)
  rcases Nat.lt_or_ge (i + j) k with z | z
  · exact .inl (by show (i : Int) + 1 + (j : Int) ≤ (k : Int); omega)
  · refine .inr ?_
    have il : i + j < full.length := by omega
    have tm := h.term (i := i + j + 1) (by omega) (by omega)
    have e2 : tAt full (i + j + 1) = e.t := by rw [tAt_succ, ht]; rfl
    unfold hasE
    rw [hb']
    dsimp only
    rw [show (i : Int) + 1 + (j : Int) = ((i + j + 1 : Nat) : Int) by omega, tm, e2, h.last, decide_eq_true (show (basK full k).i < ((i + j + 1 : Nat) : Int) by show (k : Int) < _; omega), decide_eq_true (show ((i + j + 1 : Nat) : Int) ≤ (full.length : Int) by omega)]
    exact decide_eq_true rfl
end
/-! ### copies: the answer, and what is known afterwards -/
def gotD (t : Int) (g : Bool) (i : Int) : PyData := .tuple [.str "got", .int 0, .int t, .bool g, .int i]
structure D29 where
  tm : Int
  vo : Option Int
  log : List RN
  cm : Int
  rcs : List PyData
  role : Str
  leader : Option Int
  got : PyData
def rec1 (r : Rpl) (t : Int) : List PyData := if t > r.term then [recT t none] else []
def vo1 (r : Rpl) (t : Int) : Option Int := if t > r.term then none else r.voted
def due29 (r : Rpl) (full : List RN) (c : Nat) (t : Int) (i : Nat) (it : Int) (es : List RN) (cc : Int) : D29 :=
  if t < r.term then ⟨r.term, r.voted, full, c, [], r.role, r.leader, gotD r.term false full.length⟩
  else if i > full.length then ⟨t, vo1 r t, full, c, rec1 r t, "follower", some 2, gotD t false full.length⟩
  else if tAt full i ≠ it then ⟨t, vo1 r t, full, c, rec1 r t, "follower", some 2, gotD t false ((i : Int) - 1)⟩
  else ⟨t, vo1 r t, takenL full i es, maxI c (minI cc ((i : Int) + es.length)), rec1 r t ++ takenR full i es, "follower", some 2, gotD t true ((i : Int) + es.length)⟩
theorem nxs_split {l : List RN} {k c : Nat} (h : k ≤ c) : nxs (l.take c) = nxs (l.take k) + nxs ((l.drop k).take (c - k)) := by
  have e : l.take c = l.take k ++ (l.drop k).take (c - k) := by
    rw [← List.take_add, show k + (c - k) = c by omega]
  rw [e]
  unfold nxs
  rw [List.filter_append, List.length_append]
theorem got_sz {r : Rpl} {g : Bool} {i : Int} : (gotTo r g i).sz = r.sz + 1 := by
  unfold gotTo addLetter Rpl.sz
  dsimp only
  rw [List.length_append]
  simp only [List.length_cons, List.length_nil]
  omega
structure Af29 (k : Nat) (D : D29) (r : Rpl) (z : Nat) : Prop where
  inv : ∃ c : Nat, D.cm = c ∧ I29 k c D.log r
  tm : r.term = D.tm
  vo : r.voted = D.vo
  rcs : r.records = D.rcs
  lt : r.letters = [.tuple [.int 2, D.got]]
  role : r.role = D.role
  leader : r.leader = D.leader
  sz : r.sz ≤ z
section
variable {k c : Nat} {full : List RN} {r : Rpl}
theorem I29.copy (h : I29 k c full r) (hr : r.records = []) (hl : r.letters = []) {t : Int} {i : Nat} {it : Int} {es : List RN} {cc : Int} (ag : AgL full i c es) (hi : i ≤ c → it = tAt full i) (hne : ∀ e ∈ es, NnE e) :
    Af29 k (due29 r full c t i it es cc) (takeLv r 2 t (.copy i it es cc)) (r.sz + 4 * es.length + 2 * full.length + 2) := by
  have hkc := h.kc
  have hcl := h.cl
  unfold due29
  by_cases q : t < r.term
  · have e0 : takeLv r 2 t (.copy i it es cc) = addLetter r (.tuple [.int 2, gotD r.term false full.length]) := by
      unfold takeLv
      rw [if_pos q]
      show refuseR r 2 "copy" = _
      unfold refuseR
      rw [if_neg (by decide +kernel), if_pos (.inl rfl), h.group, h.last]; rfl
    rw [e0, if_pos q]
    refine ⟨⟨c, rfl, ⟨h.me, h.group, h.base, h.ents, h.cm, h.ap, h.kc, h.cl, h.st, h.role, h.nn⟩⟩, rfl, rfl, hr, ?_, rfl, rfl, ?_⟩
    · show r.letters ++ [_] = _
      rw [hl]; rfl
    · unfold addLetter Rpl.sz
      dsimp only
      rw [List.length_append]
      simp only [List.length_cons, List.length_nil]
      omega
  rw [if_neg q]
  obtain ⟨r2, hr2⟩ : ∃ r2, r2 = followR (downR r t) 2 := ⟨_, rfl⟩
  have e0 : takeLv r 2 t (.copy i it es cc) = copyR r2 i it es cc := by
    unfold takeLv
    rw [if_neg q, hr2]
  have e2 : r2 = { r with term := t, voted := vo1 r t, role := "follower", leader := some 2, records := rec1 r t } := by
    rw [hr2]
    unfold followR downR vo1 rec1
    by_cases z : t > r.term
    · rw [if_pos z, if_pos z, if_pos z]
      unfold setTerm recT
      dsimp only
      rw [hr, h.group]; rfl
    · have : t = r.term := by omega
      rw [if_neg z, if_neg z, if_neg z, this, ← hr]
  have h2 : I29 k c full r2 := by
    rw [e2]
    exact ⟨h.me, h.group, h.base, h.ents, h.cm, h.ap, h.kc, h.cl, h.st, by show ("follower" : Str) ≠ "leader"; decide +kernel, h.nn⟩
  have z2 : r2.sz ≤ r.sz + 1 := by
    rw [e2]
    unfold Rpl.sz rec1
    dsimp only
    split
    · simp only [List.length_cons, List.length_nil]; omega
    · simp only [List.length_nil]; omega
  have p2 : r2.term = t ∧ r2.voted = vo1 r t ∧ r2.records = rec1 r t ∧ r2.letters = [] ∧ r2.role = "follower" ∧ r2.leader = some 2 := by
    rw [e2]
    exact ⟨rfl, rfl, rfl, hl, rfl, rfl⟩
  obtain ⟨p1, p2, p3, p4, p5, p6⟩ := p2
  have fin : ∀ {r' : Rpl} {c' : Nat} {log : List RN} {rcs : List PyData} {g : Bool} {x : Int} {z : Nat}, I29 k c' log r' → r'.term = t → r'.voted = vo1 r t → r'.records = rcs → r'.letters = [] → r'.role = "follower" → r'.leader = some 2 → r'.sz + 1 ≤ z → ∀ cm : Int, cm = c' → Af29 k ⟨t, vo1 r t, log, cm, rcs, "follower", some 2, gotD t g x⟩ (gotTo r' g x) z := by
    intro r' c' log rcs g x z h' a1 a2 a3 a4 a5 a6 a7 cm ec
    refine ⟨⟨c', ec, ⟨h'.me, h'.group, h'.base, h'.ents, h'.cm, h'.ap, h'.kc, h'.cl, h'.st, h'.role, h'.nn⟩⟩, a1, a2, a3, ?_, a5, a6, by rw [got_sz]; exact a7⟩
    show r'.letters ++ [_] = _
    rw [a4, a6, a1, h'.group]; rfl
  have ec : copyR r2 i it es cc = if (i : Int) > (full.length : Int) then gotTo r2 false full.length else if (k : Int) ≤ (i : Int) ∧ termAt r2 i ≠ it then gotTo r2 false ((i : Int) - 1) else gotTo (commitR (takeEnts r2 ((i : Int) + 1) es) (minI cc ((i : Int) + es.length))) true ((i : Int) + es.length) := by
    unfold copyR
    rw [h2.base, h2.last]; rfl
  rw [e0, ec]
  by_cases q1 : i > full.length
  · rw [if_pos q1, if_pos (by omega)]
    exact fin h2 p1 p2 p3 p4 p5 p6 (by omega) _ rfl
  rw [if_neg q1, if_neg (show ¬ (i : Int) > (full.length : Int) by omega)]
  by_cases q2 : tAt full i = it
  rotate_left
  · have ki : k ≤ i := by
      rcases Nat.lt_or_ge i k with z | z
      · exact absurd (hi (by omega)).symm q2
      · exact z
    rw [if_pos q2, if_pos ⟨by omega, by rw [h2.term ki (by omega)]; exact q2⟩]
    exact fin h2 p1 p2 p3 p4 p5 p6 (by omega) _ rfl
  have q3 : ¬ ((k : Int) ≤ (i : Int) ∧ termAt r2 i ≠ it) := fun z => z.2 (by rw [h2.term (by omega) (by omega)]; exact q2)
  rw [if_neg (show ¬ (tAt full i ≠ it) from fun z => z q2), if_neg q3]
  have ko := takenL_o hcl (show i ≤ full.length by omega) ag
  obtain ⟨d, hd⟩ := ents29 (b := basK full k) (r := r2) rfl hkc h2.group h2.base h2.ents hcl (show i ≤ full.length by omega) ag
  rw [show ((i + 1 : Nat) : Int) = (i : Int) + 1 by omega] at hd
  obtain ⟨r3, hr3⟩ : ∃ r3, r3 = takeEnts r2 ((i : Int) + 1) es := ⟨_, rfl⟩
  rw [← hr3] at hd ⊢
  obtain ⟨log, hlog⟩ : ∃ log, log = takenL full i es := ⟨_, rfl⟩
  rw [← hlog] at hd ko ⊢
  have ebk := basK_pre ko.pre hkc
  have h3 : I29 k c log r3 := by
    rw [hd]
    refine ⟨h2.me, h2.group, by rw [ebk]; exact h2.base, rfl, h2.cm, h2.ap, hkc, ko.cl, by rw [ko.pre]; exact h2.st, h2.role, fun e he => ?_⟩
    rcases ko.mem e he with z | z
    · exact h.nn e z
    · exact hne e z
  have z3 : r3.sz ≤ r2.sz + 2 * es.length := by
    have hO := h2.copyOk ag _ h2.base
    have := (takeEnts_o (b := basK full k) (es := es) (r := r2) (i := (i : Int) + 1) h2.base (by rw [h2.cm]; show (k : Int) ≤ c; omega) (by rw [h2.cm, h2.ents, List.length_drop]; show (c : Int) ≤ (k : Int) + _; omega) (by rw [h2.last]; omega) hO.2).2.2
    rw [← hr3] at this
    exact this
  obtain ⟨mm, hmm⟩ : ∃ mm, mm = minI cc ((i : Int) + es.length) := ⟨_, rfl⟩
  rw [← hmm]
  have mle : mm ≤ (log.length : Int) := by
    have := ko.il
    rw [hmm]
    unfold minI
    split <;> omega
  have s3 : StG (nxs (log.take k)) (basK log k) r3 := by
    unfold StG
    rw [h3.st, h3.ents, h3.ap, nxs_split hkc]
    show some (RS.cnt ((nxs (log.take k) + nxs ((log.drop k).take (c - k)) : Nat) : Int)) = some (RS.cnt ((nxs (log.take k) : Int) + (nxs ((log.drop k).take ((c : Int) - (k : Int)).toNat) : Int)))
    rw [show ((c : Int) - (k : Int)).toNat = c - k by omega]
    push_cast
    rfl
  have co := commit_o (i := mm) h3.run (by rw [h3.last]; exact mle)
  have cs := commit_stg (i := mm) h3.run (by rw [h3.last]; exact mle) s3
  rw [h3.cm] at co
  obtain ⟨c', hc'⟩ := Int.eq_ofNat_of_zero_le (show 0 ≤ (if mm > (c : Int) then mm else (c : Int)) by split <;> omega)
  have hcc : c ≤ c' ∧ c' ≤ log.length := by
    have := ko.cl
    constructor
    · have : (c : Int) ≤ (if mm > (c : Int) then mm else (c : Int)) := by split <;> omega
      omega
    · have : (if mm > (c : Int) then mm else (c : Int)) ≤ (log.length : Int) := by split <;> omega
      omega
  have z4 : (commitR r3 mm).sz ≤ r3.sz + 2 * log.length := by
    have := iter_sz ((c' : Int) - r3.ap).toNat { r3 with cm := c' }
    have e : commitR r3 mm = iterR ((c' : Int) - r3.ap).toNat { r3 with cm := c' } := by unfold commitR; rw [h3.cm, hc']
    rw [e]
    refine Nat.le_trans this ?_
    have e2 : ({ r3 with cm := (c' : Int) } : Rpl).sz = r3.sz := rfl
    rw [e2, h3.ap]
    omega
  rw [hc'] at co
  obtain ⟨r4, hr4⟩ : ∃ r4, r4 = commitR r3 mm := ⟨_, rfl⟩
  rw [← hr4] at co cs z4 ⊢
  have e4 : r4 = { r3 with cm := (c' : Int), st := r4.st, ap := (c' : Int), ledger := r4.ledger, answers := r4.answers } := co.eq
  have h4 : I29 k c' log r4 := by
    have hst : r4.st = some (.cnt (nxs (log.take c'))) := by
      unfold StG at cs
      rw [cs, nxs_split (show k ≤ c' by omega), show r4.ents = log.drop k by rw [e4]; exact h3.ents, show r4.ap = (c' : Int) by rw [e4]]
      show some (RS.cnt ((nxs (log.take k) : Int) + (nxs ((log.drop k).take ((c' : Int) - (k : Int)).toNat) : Int))) = some (RS.cnt ((nxs (log.take k) + nxs ((log.drop k).take (c' - k)) : Nat) : Int))
      rw [show ((c' : Int) - (k : Int)).toNat = c' - k by omega]
      push_cast
      rfl
    refine ⟨?_, ?_, ?_, ?_, ?_, ?_, by omega, hcc.2, hst, ?_, h3.nn⟩
    · rw [e4]; exact h3.me
    · rw [e4]; exact h3.group
    · rw [e4]; exact h3.base
    · rw [e4]; exact h3.ents
    · rw [e4]
    · rw [e4]
    · rw [e4]; exact h3.role
  have ub := ko.ub
  refine fin h4 ?_ ?_ ?_ ?_ ?_ ?_ (by omega) _ ?_
  · rw [e4, hd]; exact p1
  · rw [e4, hd]; exact p2
  · rw [e4, hd]
    show r2.records ++ takenR full i es = _
    rw [p3]
  · rw [e4, hd]; exact p4
  · rw [e4, hd]; exact p5
  · rw [e4, hd]; exact p6
  · rw [← hc']
    unfold maxI
    rfl
end
/-! ### bases: what a follower takes, or a blank replica -/
structure D30 where
  tm : Int
  base : Option RB
  log : List RN
  cm : Int
  rcs : List PyData
  leader : Option Int
  ans : PyData
def baseRec (b : RB) : PyData := .tuple [.str "base", .int 0, rbD b]
def due30 (r : Rpl) (t : Int) (b : RB) : D30 :=
  if t < r.term then ⟨r.term, r.base, r.ents, r.cm, [], r.leader, gotD r.term false (lastI r)⟩
  else if hasE r b.i b.t = true then ⟨t, r.base, r.ents, maxI r.cm b.i, rec1 r t, some 2, gotD t true b.i⟩
  else if r.base = none ∨ b.i > r.cm then ⟨t, some b, [], b.i, rec1 r t ++ [baseRec b], some 2, gotD t true b.i⟩
  else ⟨t, r.base, r.ents, r.cm, rec1 r t, some 2, gotD t true b.i⟩
structure B30 (r : Rpl) : Prop where
  base : r.base = none
  ents : r.ents = []
  ap : r.ap = r.cm
  st : r.st = none
structure Bs30 (b : RB) (n0 : Int) : Prop where
  pic : b.pic = cntD n0
  i0 : 0 ≤ b.i
  i1 : b.i ≤ 100
  ms : b.ms.length ≤ 10
structure F30 (b : RB) (n0 : Int) (r : Rpl) : Prop where
  base : r.base = some b
  ap : r.ap = r.cm
  st : StG n0 b r
  cb1 : b.i ≤ r.cm
  cb2 : r.cm ≤ b.i + r.ents.length
  ok : Bs30 b n0
structure I30 (r : Rpl) : Prop where
  me : r.me = 1
  group : r.group = 0
  role : r.role = "follower"
  nn : ∀ e ∈ r.ents, NnE e
  le : r.ents.length ≤ 10
  c : B30 r ∨ ∃ b n0, F30 b n0 r
structure Af30 (D : D30) (r : Rpl) (z : Nat) : Prop where
  inv : I30 r
  tm : r.term = D.tm
  base : r.base = D.base
  ents : r.ents = D.log
  cm : r.cm = D.cm
  ap : r.ap = D.cm
  rcs : r.records = D.rcs
  lt : r.letters = [.tuple [.int 2, D.ans]]
  leader : r.leader = D.leader
  sz : r.sz ≤ z
section
variable {b : RB} {n0 : Int} {r : Rpl}
theorem F30.run (h : F30 b n0 r) : RunOk r b := ⟨h.base, by rw [h.ap]; exact h.cb1, by rw [h.ap]; exact Int.le_refl _, h.cb2, _, h.st⟩
theorem F30.last (h : F30 b n0 r) : lastI r = b.i + r.ents.length := by unfold lastI; rw [h.base]
theorem I30.run (h : I30 r) : ∀ b0, r.base = some b0 → RunOk r b0 := fun b0 hb => by
  rcases h.c with z | ⟨b, n0, z⟩
  · rw [z.base] at hb; cases hb
  · have hb' := z.base
    rw [hb] at hb'
    obtain rfl := Option.some.inj hb'
    exact z.run
theorem I30.okR (h : I30 r) : OkR r := ⟨fun b0 hb => by
  rcases h.c with z | ⟨b, n0, z⟩
  · rw [z.base] at hb; cases hb
  · have hb' := z.base
    rw [hb] at hb'
    obtain rfl := Option.some.inj hb'
    have := z.ok.ms
    have := z.ok.i0
    have := z.ok.i1
    exact ⟨by omega, by omega, by omega⟩, fun e he => OkC.not (ch_nil (h.nn e he).ds)⟩
theorem I30.mem (h : I30 r) (hb : r.base = some b) : membersR r = b.ms := membersR_no hb fun e he => ch_nil (h.nn e he).ds
theorem I30.of {r' : Rpl} (h : I30 r) (e1 : r'.me = r.me) (e2 : r'.group = r.group) (e3 : r'.role = "follower") (e4 : r'.ents = r.ents) (e5 : r'.base = r.base) (e6 : r'.ap = r.ap) (e7 : r'.cm = r.cm) (e8 : r'.st = r.st) : I30 r' := by
  refine ⟨e1.trans h.me, e2.trans h.group, e3, by rw [e4]; exact h.nn, by rw [e4]; exact h.le, ?_⟩
  rcases h.c with z | ⟨b, n0, z⟩
  · exact .inl ⟨e5.trans z.base, e4.trans z.ents, by rw [e6, e7]; exact z.ap, e8.trans z.st⟩
  · refine .inr ⟨b, n0, e5.trans z.base, by rw [e6, e7]; exact z.ap, ?_, by rw [e7]; exact z.cb1, by rw [e7, e4]; exact z.cb2, z.ok⟩
    have := z.st
    unfold StG at this ⊢
    rw [e8, e4, e6]
    exact this
theorem I30.base (h : I30 r) (hr : r.records = []) (hl : r.letters = []) {t : Int} {b : RB} {n : Int} (hb : Bs30 b n) : Af30 (due30 r t b) (takeLv r 2 t (.base b n)) (r.sz + 60) := by
  unfold due30
  by_cases q : t < r.term
  · have e0 : takeLv r 2 t (.base b n) = addLetter r (.tuple [.int 2, gotD r.term false (lastI r)]) := by
      unfold takeLv
      rw [if_pos q]
      show refuseR r 2 "base" = _
      unfold refuseR
      rw [if_neg (by decide +kernel), if_pos (.inr rfl), h.group]; rfl
    have ha : r.ap = r.cm := by
      rcases h.c with z | ⟨b, n0, z⟩
      · exact z.ap
      · exact z.ap
    rw [e0, if_pos q]
    refine ⟨h.of rfl rfl h.role rfl rfl rfl rfl rfl, rfl, rfl, rfl, rfl, ha, hr, ?_, rfl, ?_⟩
    · show r.letters ++ [_] = _
      rw [hl]; rfl
    · unfold addLetter Rpl.sz
      dsimp only
      rw [List.length_append]
      simp only [List.length_cons, List.length_nil]
      omega
  rw [if_neg q]
  obtain ⟨r2, hr2⟩ : ∃ r2, r2 = followR (downR r t) 2 := ⟨_, rfl⟩
  have e0 : takeLv r 2 t (.base b n) = baseR r2 b n := by
    unfold takeLv
    rw [if_neg q, hr2]
  have e2 : r2 = { r with term := t, voted := vo1 r t, role := "follower", leader := some 2, records := rec1 r t } := by
    rw [hr2]
    unfold followR downR vo1 rec1
    by_cases z : t > r.term
    · rw [if_pos z, if_pos z, if_pos z]
      unfold setTerm recT
      dsimp only
      rw [hr, h.group]; rfl
    · have : t = r.term := by omega
      rw [if_neg z, if_neg z, if_neg z, this, ← hr]
  have h2 : I30 r2 := by
    rw [e2]
    exact h.of rfl rfl rfl rfl rfl rfl rfl rfl
  have z2 : r2.sz ≤ r.sz + 1 := by
    rw [e2]
    unfold Rpl.sz rec1
    dsimp only
    split
    · simp only [List.length_cons, List.length_nil]; omega
    · simp only [List.length_nil]; omega
  have p2 : r2.term = t ∧ r2.records = rec1 r t ∧ r2.letters = [] ∧ r2.leader = some 2 ∧ r2.base = r.base ∧ r2.ents = r.ents ∧ r2.cm = r.cm ∧ hasE r2 b.i b.t = hasE r b.i b.t := by
    rw [e2]
    exact ⟨rfl, rfl, hl, rfl, rfl, rfl, rfl, rfl⟩
  obtain ⟨p1, p3, p4, p6, pb, pe, pc, ph⟩ := p2
  have fin : ∀ {r' : Rpl} {bo : Option RB} {log : List RN} {cm : Int} {rcs : List PyData} {z : Nat}, I30 r' → r'.term = t → r'.base = bo → r'.ents = log → r'.cm = cm → r'.ap = cm → r'.records = rcs → r'.letters = [] → r'.leader = some 2 → r'.sz + 1 ≤ z → Af30 ⟨t, bo, log, cm, rcs, some 2, gotD t true b.i⟩ (gotTo r' true b.i) z := by
    intro r' bo log cm rcs z h' a1 a2 a3 a4 a5 a6 a7 a8 a9
    refine ⟨h'.of rfl rfl h'.role rfl rfl rfl rfl rfl, a1, a2, a3, a4, a5, a6, ?_, a8, by rw [got_sz]; exact a9⟩
    show r'.letters ++ [_] = _
    rw [a7, a8, a1, h'.group]; rfl
  have ha2 : r2.ap = r2.cm := by
    rcases h2.c with z | ⟨b, n0, z⟩
    · exact z.ap
    · exact z.ap
  rw [e0]
  unfold baseR
  rw [ph]
  by_cases q1 : hasE r b.i b.t = true
  · rw [if_pos q1, if_pos q1]
    rw [← ph] at q1
    obtain ⟨b0, hb0, hi1, hi2⟩ := hasE_in q1
    rcases h2.c with z | ⟨b1, n0, z⟩
    · rw [z.base] at hb0; cases hb0
    have hb0' := z.base
    rw [hb0] at hb0'
    obtain rfl := Option.some.inj hb0'
    have co := commit_o (i := b.i) z.run (by rw [z.last]; exact hi2)
    have cs := commit_stg (i := b.i) z.run (by rw [z.last]; exact hi2) z.st
    have hle := h2.le
    have c1 := z.cb1
    have c2 := z.cb2
    have hcc : r2.cm ≤ maxI r2.cm b.i ∧ maxI r2.cm b.i ≤ b0.i + r2.ents.length := by unfold maxI; split <;> omega
    have ecc : (if b.i > r2.cm then b.i else r2.cm) = maxI r2.cm b.i := rfl
    rw [ecc] at co
    have z4 : (commitR r2 b.i).sz ≤ r2.sz + 20 := by
      have := iter_sz (maxI r2.cm b.i - r2.ap).toNat { r2 with cm := maxI r2.cm b.i }
      have e : commitR r2 b.i = iterR (maxI r2.cm b.i - r2.ap).toNat { r2 with cm := maxI r2.cm b.i } := rfl
      rw [e]
      refine Nat.le_trans this ?_
      have e2 : ({ r2 with cm := maxI r2.cm b.i } : Rpl).sz = r2.sz := rfl
      rw [e2, ha2]
      omega
    obtain ⟨r4, hr4⟩ : ∃ r4, r4 = commitR r2 b.i := ⟨_, rfl⟩
    rw [← hr4] at co cs z4 ⊢
    have e4 : r4 = { r2 with cm := maxI r2.cm b.i, st := r4.st, ap := maxI r2.cm b.i, ledger := r4.ledger, answers := r4.answers } := co.eq
    have b4 : r4.base = r2.base := by rw [e4]
    have n4 : r4.ents = r2.ents := by rw [e4]
    have m4 : r4.cm = maxI r2.cm b.i := by rw [e4]
    have a4 : r4.ap = maxI r2.cm b.i := by rw [e4]
    rw [← pc]
    refine fin ⟨?_, ?_, ?_, by rw [n4]; exact h2.nn, by rw [n4]; exact h2.le, .inr ⟨b0, n0, b4.trans hb0, a4.trans m4.symm, cs, by rw [m4]; omega, by rw [m4, n4]; exact hcc.2, z.ok⟩⟩ ?_ (b4.trans pb) (n4.trans pe) m4 a4 ?_ ?_ ?_ (by omega)
    · rw [e4]; exact h2.me
    · rw [e4]; exact h2.group
    · rw [e4]; exact h2.role
    · rw [e4]; exact p1
    · rw [e4]; exact p3
    · rw [e4]; exact p4
    · rw [e4]; exact p6
  rw [if_neg q1, if_neg q1, pb, pc]
  by_cases q2 : r.base = none ∨ b.i > r.cm
  · rw [if_pos q2, if_pos q2]
    have em : (if hasE r2 b.i b.t = true then r2.ents.drop (b.i - (r2.base.map (·.i)).getD 0).toNat else []) = [] := by rw [ph, if_neg q1]
    have er : restartAt r2 b n = { r2 with base := some b, ents := [], du := (restartAt r2 b n).du, records := r2.records ++ [baseRec b], st := some (.cnt n), cm := b.i, ap := b.i } := by
      unfold restartAt moveBase
      dsimp only
      rw [em, h2.group]; rfl
    obtain ⟨r4, hr4⟩ : ∃ r4, r4 = restartAt r2 b n := ⟨_, rfl⟩
    rw [← hr4] at er ⊢
    refine fin ⟨?_, ?_, ?_, ?_, ?_, .inr ⟨b, n, ?_, ?_, ?_, ?_, ?_, hb⟩⟩ ?_ ?_ ?_ ?_ ?_ ?_ ?_ ?_ ?_
    · rw [er]; exact h2.me
    · rw [er]; exact h2.group
    · rw [er]; exact h2.role
    · rw [er]; exact fun e he => nomatch he
    · rw [er]; exact Nat.zero_le _
    · rw [er]
    · rw [er]
    · rw [er]
      show some (RS.cnt n) = some (RS.cnt (n + (nxs (([] : List RN).take _) : Nat)))
      rw [List.take_nil]
      exact congrArg (fun z => some (RS.cnt z)) (Int.add_zero n).symm
    · rw [er]; exact Int.le_refl _
    · rw [er]; show b.i ≤ b.i + ((0 : Nat) : Int); omega
    · rw [er]; exact p1
    · rw [er]
    · rw [er]
    · rw [er]
    · rw [er]
    · rw [er, ← p3]
    · rw [er]; exact p4
    · rw [er]; exact p6
    · rw [er]
      unfold Rpl.sz at z2 ⊢
      dsimp only
      rw [List.length_append]
      simp only [List.length_cons, List.length_nil]
      omega
  · rw [if_neg q2, if_neg q2]
    exact fin h2 p1 pb pe pc (ha2.trans pc) p3 p4 p6 (by omega)
theorem I30.clear (h : I30 r) : I30 { r with records := [], letters := [], ledger := [] } ∧ ({ r with records := [], letters := [], ledger := [] } : Rpl).sz ≤ r.sz := by
  refine ⟨h.of rfl rfl h.role rfl rfl rfl rfl rfl, ?_⟩
  unfold Rpl.sz
  simp only [List.length_nil]
  omega
theorem i30_blank : I30 (initR 1 0 none 0) := ⟨rfl, rfl, rfl, fun e he => (nomatch he), Nat.zero_le _, .inl ⟨rfl, rfl, rfl, rfl⟩⟩
theorem FoG.i30 {t c : Int} {es : List RN} (h : FoG 1 (baseN 3) 0 t es c r) (hn : ∀ e ∈ es, NnE e) (hl : es.length ≤ 10) : I30 r := by
  refine ⟨h.me, h.group, h.role, by rw [h.ents]; exact hn, by rw [h.ents]; exact hl, .inr ⟨baseN 3, 0, h.base, h.ap.trans h.cm.symm, h.st, by rw [h.cm]; exact h.cb.1, by rw [h.cm, h.ents]; exact h.cb.2, ⟨rfl, by decide, by decide, by decide⟩⟩⟩
/-- at last a copy behind all that is here -/
theorem F30.copy (h : F30 b n0 r) (hg : r.group = 0) {e : RN} (hc : isCh e.c = false) : CopyOk r (lastI r) [e] ∧ lastI (takeLv r 2 r.term (.copy (lastI r) (lastT r) [e] (lastI r + 1))) = lastI r + 1 ∧ (takeLv r 2 r.term (.copy (lastI r) (lastT r) [e] (lastI r + 1))).ap = lastI r + 1 := by
  have hl := h.last
  have c1 := h.cb1
  have c2 := h.cb2
  refine ⟨fun b' hb => ?_, ?_⟩
  · rw [h.base] at hb
    obtain rfl := Option.some.inj hb
    refine ⟨h.run, fun k x hx hk => ?_⟩
    omega
  obtain ⟨r2, hr2⟩ : ∃ r2 : Rpl, r2 = { r with role := "follower", leader := some 2 } := ⟨_, rfl⟩
  have hb2 : r2.base = some b := by rw [hr2]; exact h.base
  have l2 : lastI r2 = lastI r := by rw [hr2]; rfl
  have n2 : r2.ents = r.ents := by rw [hr2]
  have e0 : takeLv r 2 r.term (.copy (lastI r) (lastT r) [e] (lastI r + 1)) = copyR r2 (lastI r) (lastT r) [e] (lastI r + 1) := by
    unfold takeLv downR followR
    rw [if_neg (Int.lt_irrefl _), if_neg (Int.lt_irrefl _), hr2]
  have et : takeEnts r2 (lastI r + 1) [e] = attachR (cutR r2 r.ents.length) e := by
    show takeEntry r2 (lastI r + 1) e = _
    unfold takeEntry
    rw [hb2]
    dsimp only
    rw [if_neg, show (lastI r + 1 - b.i - 1).toNat = r.ents.length by omega]
    rintro (z | z)
    · omega
    · unfold hasE at z
      rw [hb2] at z
      dsimp only at z
      simp only [Bool.and_eq_true, decide_eq_true_eq] at z
      omega
  obtain ⟨r3, hr3⟩ : ∃ r3, r3 = attachR (cutR r2 r.ents.length) e := ⟨_, rfl⟩
  have n3 : r3.ents = r.ents ++ [e] := by
    rw [hr3]
    show r2.ents.take r.ents.length ++ [e] = _
    rw [n2, List.take_length]
  have f3 : r3.base = some b ∧ r3.cm = r.cm ∧ r3.ap = r.ap ∧ r3.st = r.st := by
    rw [hr3, hr2]
    exact ⟨h.base, rfl, rfl, rfl⟩
  have l3 : lastI r3 = lastI r + 1 := by
    unfold lastI
    rw [f3.1, n3, h.base, List.length_append]
    show b.i + ((r.ents.length + 1 : Nat) : Int) = b.i + (r.ents.length : Int) + 1
    omega
  have ru : RunOk r3 b := by
    refine ⟨f3.1, by rw [f3.2.2.1, h.ap]; exact c1, by rw [f3.2.2.1, f3.2.1, h.ap]; exact Int.le_refl _, ?_, ?_⟩
    · rw [f3.2.1, n3, List.length_append]
      simp only [List.length_cons, List.length_nil]
      omega
    · rw [f3.2.2.2]; exact ⟨_, h.st⟩
  have co := commit_o (i := lastI r + 1) ru (by omega)
  rw [f3.2.1, if_pos (show lastI r + 1 > r.cm by omega)] at co
  have ec : copyR r2 (lastI r) (lastT r) [e] (lastI r + 1) = gotTo (commitR r3 (lastI r + 1)) true (lastI r + ((1 : Nat) : Int)) := by
    have tl : lastT r = termAt r (lastI r) := by unfold lastT; rw [h.base]
    unfold copyR
    rw [hb2]
    dsimp only
    rw [l2, if_neg (Int.lt_irrefl _), if_neg (fun z => z.2 (by rw [tl, hr2]; rfl)), et, ← hr3]
    have : minI (lastI r + 1) (lastI r + (([e] : List RN).length : Int)) = lastI r + 1 := by
      unfold minI
      rw [if_neg (by show ¬ lastI r + ((1 : Nat) : Int) < lastI r + 1; omega)]
    rw [this]; rfl
  rw [e0, ec]
  obtain ⟨r4, hr4⟩ : ∃ r4, r4 = commitR r3 (lastI r + 1) := ⟨_, rfl⟩
  rw [← hr4] at co ⊢
  have e4 := co.eq
  constructor
  · show lastI r4 = _
    rw [← l3]
    unfold lastI
    rw [e4]
  · show r4.ap = _
    rw [e4]
end
/-! ### a law's draws and its replica, beside a cell of one's own -/
section
variable {K : PySem.W.Frag} {C CC : Addr} {M G : Hp} {p b : Addr} {a : RepA} {r : Rpl} {o : HO}
theorem SR.new (h : SR K C CC M G p a r) (hb : M b = none) : b ≠ p ∧ b ∉ a.cells := by
  refine ⟨fun z => ?_, fun m => ?_⟩
  · obtain ⟨xs, hx⟩ := h.dr.atR
    rw [← z, hb] at hx; cases hx
  · obtain ⟨u, e⟩ := Cells.ex h.rp.c m
    rw [hb] at e; cases e
theorem SR.off (h : SR K C CC M G p a r) (n1 : b ≠ p) (n2 : b ∉ a.cells) (ho : ∀ xs, o ≠ .tup xs) : SR K C CC (upd M b o) G p a r :=
  ⟨h.dr.upd n1, h.rp.mv (fun c m u e => upd_ne' e fun z => n2 (z ▸ m)) (h.rp.nt.upd ho), h.pc⟩
theorem SR.plus (h : SR K C CC M G p a r) (hb : M b = none) (ho : ∀ xs, o ≠ .tup xs) : SR K C CC (upd M b o) G p a r := h.off (h.new hb).1 (h.new hb).2 ho
/-- the cell was its own, and it stands from now on -/
theorem SR.less (h : SR K C CC M G p a r) (n1 : b ≠ p) (n2 : b ∉ a.cells) : SR K C CC (del M b) G p a r := by
  obtain ⟨xs, hx⟩ := h.dr.atR
  refine ⟨h.dr.mvR fun o ho => (del_ne (fun z => n1 z.symm)).trans ho, h.rp.mv (fun c m u e => (del_ne (fun (z : c = b) => n2 (z ▸ m))).trans e) ?_, h.pc⟩
  intro c ys e
  by_cases q : c = b
  · rw [q, del_same] at e; cases e
  · rw [del_ne q] at e; exact h.rp.nt c ys e
end
/-! ### terms by index -/
def lookN (b : RB) (es : List RN) (k : Nat) (x : Int) : Option Int := if b.i < x ∧ x ≤ b.i + k then (es[(x - b.i - 1).toNat]?).map (·.t) else none
def lookT (r : Rpl) (x : Int) : Option Int := match r.base with
  | none => none
  | some b => lookN b r.ents r.ents.length x
theorem lookN_succ {b : RB} {es : List RN} {k : Nat} {e : RN} (h : es[k]? = some e) (x : Int) : lookN b es (k + 1) x = if x = b.i + 1 + k then some e.t else lookN b es k x := by
  unfold lookN
  by_cases q : x = b.i + 1 + k
  · rw [if_pos (by omega), if_pos q, show (x - b.i - 1).toNat = k by omega, h]; rfl
  · rw [if_neg q]
    by_cases z : b.i < x ∧ x ≤ b.i + k
    · rw [if_pos z, if_pos (by omega)]
    · rw [if_neg z, if_neg (by omega)]
theorem hasE_look (r : Rpl) (i t : Int) : hasE r i t = decide (lookT r i = some t) := by
  cases hb : r.base with
  | none =>
    have e1 : lookT r i = none := by unfold lookT; rw [hb]
    have e2 : hasE r i t = false := by unfold hasE; rw [hb]
    rw [e1, e2]
    exact (decide_eq_false fun z => nomatch z).symm
  | some b =>
    have el : lastI r = b.i + r.ents.length := by unfold lastI; rw [hb]
    have eh : hasE r i t = (decide (b.i < i) && (decide (i ≤ lastI r) && decide (termAt r i = t))) := by unfold hasE; rw [hb]
    have e1 : lookT r i = lookN b r.ents r.ents.length i := by unfold lookT; rw [hb]
    rw [e1, eh]
    by_cases z : b.i < i ∧ i ≤ b.i + r.ents.length
    · have hl : (i - b.i - 1).toNat < r.ents.length := by omega
      have e2 : lookN b r.ents r.ents.length i = some (r.ents[(i - b.i - 1).toNat]).t := by
        unfold lookN
        rw [if_pos z, List.getElem?_eq_getElem hl]; rfl
      have e3 : termAt r i = (r.ents[(i - b.i - 1).toNat]).t := by
        unfold termAt
        rw [hb]
        dsimp only
        rw [if_neg (by omega), List.getElem?_eq_getElem hl]; rfl
      rw [e2, e3, decide_eq_true z.1, decide_eq_true (show i ≤ lastI r by omega), Bool.true_and, Bool.true_and]
      exact decide_eq_decide.mpr ⟨fun h => congrArg some h, fun h => Option.some.inj h⟩
    · have e2 : lookN b r.ents r.ents.length i = none := by
        unfold lookN
        rw [if_neg z]
      rw [e2, decide_eq_false (show ¬ ((none : Option Int) = some t) from fun z => nomatch z)]
      by_cases z1 : b.i < i
      · rw [decide_eq_false (show ¬ i ≤ lastI r by omega), Bool.false_and, Bool.and_false]
      · rw [decide_eq_false z1, Bool.false_and]
/-! ### _law_terms -/
abbrev s_law_terms : Stmt := top 30
abbrev n_law_terms : List Str := ["part", "terms", "k"]
theorem sc_law_terms : FnScope n_law_terms ["part"] (defScope s_law_terms) := ⟨rfl, rfl, rfl, by decide +kernel, rfl, by decide +kernel, by decide +kernel⟩
def sp_law_terms (K : PySem.W.Frag) (C CC : Addr) : Sp := Sg (α := RepA × Rpl) (fun x vs M G => vs = [.ref x.1.p] ∧ RepAt K C CC M G x.1 x.2 ∧ x.2.ents.length ≤ 1000) (fun x M _ v M' G' => M' = M ∧ ∃ q kv, v = .ref q ∧ G' q = some (.dK (tk kv)) ∧ ∀ i, look kv i = lookT x.2 i)
theorem ok_law_terms {P : Program} {w : World} {K : PySem.W.Frag} {mg : Str → Option Value} {base : Heap}
    {C_Replica : Addr} (T_Replica : Tx_Replica K mg C_Replica)
    {C_Counter : Addr} (T_Counter : Tx_Counter K mg C_Counter)
    {f : Addr} {fd : FuncData} (D : Dn K mg "_law_terms" s_law_terms ["part"] f fd)
    (b_range : mg "range" = none)
    (b_len : mg "len" = none) : Cal P w K mg base CX0 1 "_law_terms" (sp_law_terms K C_Replica C_Counter) := by
  refine D.ok sc_law_terms (fun vs H Q E h => ?_) fun cdv A outer s0 H vs Q E hr h => ?_
  · obtain ⟨x, M, G, j, ⟨rfl, _⟩, _⟩ := h; rfl
  obtain ⟨⟨a, r⟩, M, G, j, ⟨rfl, hR, hl⟩, k⟩ := h
  dsimp only at hR hl k
  refine ⟨_, (pss_cons (ps_set (i := 1) sc_law_terms.nd rfl (Or.inl rfl) pe_dnewK)
(pss_cons (ps_if (pt_cmp (pc_notN (pe_fld (pv 0) rfl)))
(pss_one (ps_for PassesOwn.never rfl (pi_range1 (by rfl) b_range (pa_cons (pe_callB (call_uLenK (K := K) rfl) (by rfl) b_len PySem.boot_len (pa_cons (pe_fld (pv 0) rfl) pa_nil)) pa_nil)) (pg_name (i := 2) sc_law_terms.nd rfl (Or.inl rfl))
(pss_one (ps_dput (hu_of hr) (pv 1) (pe_op (op_uAddK (K := K) rfl) (pe_op (op_uAddK (K := K) rfl) (pe_ix (ix_uK (K := K) rfl) (pe_fld (pv 0) rfl) pe_int (fun _ _ => rfl)) pe_int) (pv 2)) (pe_ix (ix_uK (K := K) rfl) (pe_ix (ix_uK (K := K) rfl) (pe_fld (pv 0) rfl) (pv 2) (fun _ _ => rfl)) pe_int (fun _ _ => rfl)) rfl))))
pss_nil)
(pss_one (ps_ret (pv 1))))), ?_⟩
  have le := dpAll_len hR.d.en
  rw [List.length_map] at le
  walk_at "start"
  refine w_newM j (Nat.zero_le _) fun D1 H1 j1 nd gd => ?_
  have hRx : ∀ kvs, RepAt K C_Replica C_Counter (upd M D1 (.dK kvs)) G a r := fun kvs => hR.plus nd (fun _ z => nomatch z)
  have fin : ∀ kv H', J (upd M D1 (.dK (tk kv))) G H' → (∀ i, look kv i = lookT r i) → Q (.ref D1) H' := fun kv H' j' h' => k _ _ _ _ (j'.freeze nd) (Ex.new gd) ⟨rfl, D1, kv, rfl, upd_same, h'⟩
  walk_at "go"
  refine w_fldM j1 (RepAt.op (hRx _)) T_Replica.cl T_Replica.n_base fl_Replica_base ?_
  rcases hR.bs with ⟨hb, hv⟩ | ⟨b, q0, m0, x0, hb, hv, hq0, _, _⟩
  · rw [hv]
    walk_at "go"
    rw [show decide (V.non = V.non) = true from decide_eq_true rfl]
    walk_at "go"
    refine fin [] _ j1 fun i => ?_
    unfold lookT
    rw [hb]; rfl
  rw [hv]
  walk_at "go"
  rw [show decide (V.ref q0 = V.non) = false from decide_eq_false fun z => nomatch z]
  walk_at "go"
  refine w_fldM j1 (RepAt.op (hRx _)) T_Replica.cl T_Replica.n_entries fl_Replica_entries ?_
  walk_at "go"
  refine w_lenM j1 (hRx _).en ?_
  rw [le]
  walk_at "go"
  refine w_rng (fun i σ H => ∃ kv x2, J (upd M D1 (.dK (tk kv))) G H ∧ kv.length ≤ i ∧ (∀ x, look kv x = lookN b r.ents i x) ∧ σ = [some (.ref a.p), some (.ref D1), x2]) ⟨[], _, j1, Nat.le_refl _, fun x => ?_, rfl⟩ ?_ ?_ (by omega) (by omega)
  · unfold lookN
    rw [if_neg (by omega)]; rfl
  · rintro i σ H hi ⟨kv, x2, j2, lk, hk, rfl⟩
    have hi : i < r.ents.length := by omega
    have hee : r.ents[i]? = some r.ents[i] := List.getElem?_eq_getElem hi
    obtain ⟨ev, hev, hxd⟩ := dpAll_at hR.d.en (i := i) (d := rnD r.ents[i]) (by rw [List.getElem?_map, hee]; rfl)
    generalize r.ents[i] = ee at *
    obtain ⟨ea, cx, rfl, hea, hcx⟩ := dp_rn hxd
    walk_at "go"
    refine w_fldM j2 (RepAt.op (hRx _)) T_Replica.cl T_Replica.n_entries fl_Replica_entries ?_
    walk_at "go"
    refine w_ixM j2 (hRx _).en (v := .ref ea) (atI_nat hev) ?_
    walk_at "go"
    refine w_ixT j2 hea atI_0 ?_
    walk_at "go"
    refine w_fldM j2 (RepAt.op (hRx _)) T_Replica.cl T_Replica.n_base fl_Replica_base ?_
    rw [hv]
    walk_at "go"
    refine w_ixT j2 hq0 atI_0 ?_
    walk_at "go"
    refine w_putX j2 upd_same (by rw [tk_len]; omega) fun H3 j3 => ?_
    rw [upd_upd, tk_put] at j3
    walk_at "go"
    refine ⟨_, _, j3, Nat.le_trans putI_len (by omega), fun x => ?_, rfl⟩
    rw [look_put, lookN_succ hee, hk]
  · rintro σ H ⟨kv, x2, j2, lk, hk, rfl⟩
    walk_at "go"
    refine fin kv _ j2 fun x => ?_
    unfold lookT
    rw [hb, hk, Int.toNat_natCast]
/-! ### _law_letter -/
abbrev s_law_letter : Stmt := top 31
abbrev n_law_letter : List Str := ["draws", "part", "term", "index", "terms", "at", "members"]
theorem sc_law_letter : FnScope n_law_letter ["draws", "part", "term"] (defScope s_law_letter) := ⟨rfl, rfl, rfl, by decide +kernel, rfl, by decide +kernel, by decide +kernel⟩
structure Lt30 where
  p : Addr
  a : RepA
  r : Rpl
  t : Int
def sp_law_letter (K : PySem.W.Frag) (C CC : Addr) : Sp := Sg (α := Lt30) (fun x vs M G => vs = [.ref x.p, .ref x.a.p, .int x.t] ∧ SR K C CC M G x.p x.a x.r ∧ I30 x.r) (fun x _ _ v M' G' => SR K C CC M' G' x.p x.a x.r ∧ ∃ b n, LvAt K G' v x.t (.base b n) ∧ Bs30 b n)
theorem ok_law_letter {P : Program} {w : World} {K : PySem.W.Frag} {mg : Str → Option Value} {base : Heap}
    {C_Replica : Addr} (T_Replica : Tx_Replica K mg C_Replica)
    {C_Counter : Addr} (T_Counter : Tx_Counter K mg C_Counter)
    {f : Addr} {fd : FuncData} (D : Dn K mg "_law_letter" s_law_letter ["draws", "part", "term"] f fd)
    (c_law_draw : Cal P w K mg base CX0 2 "_law_draw" (sp_law_draw K))
    (c_law_terms : Cal P w K mg base CX0 1 "_law_terms" (sp_law_terms K C_Replica C_Counter)) : Cal P w K mg base CX0 3 "_law_letter" (sp_law_letter K C_Replica C_Counter) := by
  refine D.ok sc_law_letter (fun vs H Q E h => ?_) fun cdv A outer s0 H vs Q E hr h => ?_
  · obtain ⟨x, M, G, j, ⟨rfl, _⟩, _⟩ := h; rfl
  obtain ⟨⟨p, a, r, t⟩, M, G, j, ⟨rfl, hS, hI⟩, k⟩ := h
  dsimp only at hS hI k
  refine ⟨_, (pss_cons (ps_set (i := 3) sc_law_letter.nd rfl (Or.inl rfl) (pe_op op_mod (pe_cal c_law_draw hr (by first | decide | omega) (by rfl) (pa_cons (pv 0) pa_nil)) pe_int))
(pss_cons (ps_set (i := 4) sc_law_letter.nd rfl (Or.inl rfl) (pe_cal c_law_terms hr (by first | decide | omega) (by rfl) (pa_cons (pv 1) pa_nil)))
(pss_cons (ps_set (i := 5) sc_law_letter.nd rfl (Or.inl rfl) (pe_dget2 (hu_of hr) (pv 4) (pv 3) (pv 2) ⟨by rfl, by rfl, by rfl, by rfl⟩))
(pss_cons (ps_if (PW.pt (pw_and (pt_cmpR op_gt (pv 3) (pe_fld (pv 1) rfl) (nomark _)) (pw_and1 (pt_cmpR (op_uEqK (K := K) rfl hr) (pe_op op_mod (pe_cal c_law_draw hr (by first | decide | omega) (by rfl) (pa_cons (pv 0) pa_nil)) pe_int) pe_int (nomark _)))))
(pss_one (ps_set (i := 5) sc_law_letter.nd rfl (Or.inl rfl) (pv 2)))
pss_nil)
(pss_cons (ps_set (i := 6) sc_law_letter.nd rfl (Or.inl rfl) (pe_ix (ix_uK (K := K) rfl) (pe_lst (pa_cons (pe_tup (pa_cons pe_int (pa_cons pe_int (pa_cons pe_int pa_nil)))) (pa_cons (pe_tup (pa_cons pe_int (pa_cons pe_int pa_nil))) (pa_cons (pe_tup (pa_cons pe_int (pa_cons pe_int (pa_cons pe_int (pa_cons pe_int pa_nil))))) pa_nil)))) (pe_op op_mod (pe_cal c_law_draw hr (by first | decide | omega) (by rfl) (pa_cons (pv 0) pa_nil)) pe_int) (fun _ _ => rfl)))
(pss_one (ps_ret (pe_tup (pa_cons pe_str (pa_cons pe_int (pa_cons (pv 2) (pa_cons (pe_tup (pa_cons (pv 3) (pa_cons (pv 5) (pa_cons (pv 6) (pa_cons (pe_tup (pa_cons pe_str (pa_cons (pe_op (op_uAddK (K := K) rfl) pe_int (pv 3)) pa_nil))) pa_nil))))) pa_nil)))))))))))), ?_⟩
  walk_at "start"
  refine use_draw j hS.dr fun n1 M1 G1 H1 _ _ j1 e1 d1 a1 => ?_
  have hS1 := hS.draw e1 d1 a1
  obtain ⟨i, hi⟩ : ∃ i, i = n1 % 9 := ⟨_, rfl⟩
  have hi0 : 0 ≤ i ∧ i ≤ 8 := by omega
  walk_at "go"
  rw [← hi]
  refine w_sg (α := RepA × Rpl) (a, r) j1 ⟨rfl, hS1.rp, by have := hI.le; dsimp only; omega⟩ fun v M2 G2 H2 j2 e2 ⟨em, tq, kv, ev, htq, hk⟩ => ?_
  subst ev em
  have hS2 := hS1.ex e2
  walk_at "go"
  refine w_getB j2 (.ofG htq) ?_
  walk_at "go"
  refine w_getE j2 (.ofG htq) ?_
  rw [tk_look, show ((look kv i).map V.int).getD (.int t) = V.int ((look kv i).getD t) by cases look kv i <;> rfl]
  generalize (look kv i).getD t = at0
  walk_at "to"
  refine w_seqO (fun σ H => ∃ M G at1, J M G H ∧ Ex G2 G ∧ SR K C_Replica C_Counter M G p a r ∧ σ = [some (.ref p), some (.ref a.p), some (.int t), some (.int i), some (.ref tq), some (.int at1), none]) ?_ fun N hN => ?_
  rotate_left
  · walk_at "go"
    (have hop := RepAt.op hS2.rp; refine w_fldM j2 hop T_Replica.cl T_Replica.n_committed fl_Replica_committed ?_; clear hop; walk_at "go")
    refine w_dec (fun c => ?_) (fun c => ?_)
    rotate_left
    · walk_at "go"
      exact hN _ _ ⟨_, G2, at0, j2, Same.refl _, hS2, rfl⟩
    walk_at "go"
    refine use_draw j2 hS2.dr fun n3 M3 G3 H3 _ _ j3 e3 d3 a3 => ?_
    have hS3 := hS2.draw e3 d3 a3
    walk_at "go"
    refine w_dec (fun c => ?_) (fun c => ?_)
    · walk_at "go"
      exact hN _ _ ⟨M3, G3, t, j3, e3, hS3, rfl⟩
    · walk_at "go"
      exact hN _ _ ⟨M3, G3, at0, j3, e3, hS3, rfl⟩
  rintro σ H ⟨M3, G3, at1, j3, e3, hS3, rfl⟩
  walk_at "go"
  refine w_new j3 (by show 3 ≤ sizeLine; decide) fun u1 G4 H4 j4 e4 hu1 _ => ?_
  walk_at "go"
  refine w_new j4 (by show 2 ≤ sizeLine; decide) fun u2 G5 H5 j5 e5 hu2 _ => ?_
  walk_at "go"
  refine w_new j5 (by show 4 ≤ sizeLine; decide) fun u3 G6 H6 j6 e6 hu3 _ => ?_
  walk_at "go"
  refine w_new j6 (by show 3 ≤ sizeLine; decide) fun ul G7 H7 j7 e7 hul _ => ?_
  have hS7 := hS3.ex (e4.trans (e5.trans (e6.trans e7)))
  walk_at "go"
  refine use_draw j7 hS7.dr fun n8 M8 G8 H8 _ _ j8 e8 d8 a8 => ?_
  have hS8 := hS7.draw e8 d8 a8
  obtain ⟨um, ms, hum, hms, lms⟩ : ∃ (um : Addr) (ms : List Int), atI [V.ref u1, V.ref u2, V.ref u3] (n8 % 3) = some (.ref um) ∧ SqT K G8 um (ms.map V.int) ∧ ms.length ≤ 10 := by
    rcases (show n8 % 3 = 0 ∨ n8 % 3 = 1 ∨ n8 % 3 = 2 by omega) with z | z | z
    · exact ⟨u1, [0, 1, 2], by rw [z]; rfl, st_of ((e5.trans (e6.trans (e7.trans e8))) _ _ hu1), by decide⟩
    · exact ⟨u2, [1, 2], by rw [z]; rfl, st_of ((e6.trans (e7.trans e8)) _ _ hu2), by decide⟩
    · exact ⟨u3, [1, 2, 3, 104], by rw [z]; rfl, st_of ((e7.trans e8) _ _ hu3), by decide⟩
  walk_at "go"
  refine w_ixL j8 (sl_of (e8 _ _ hul)) hum ?_
  walk_at "go"
  refine w_new j8 (by show 2 ≤ sizeLine; decide) fun t1 G9 H9 j9 e9 ht1 _ => ?_
  walk_at "go"
  refine w_new j9 (by show 4 ≤ sizeLine; decide) fun t2 G10 H10 j10 e10 ht2 _ => ?_
  walk_at "go"
  refine w_new j10 (by show 4 ≤ sizeLine; decide) fun t3 G11 H11 j11 e11 ht3 _ => ?_
  have hS11 := hS8.ex (e9.trans (e10.trans e11))
  refine k _ _ _ _ j11 (e1.trans (e2.trans (e3.trans (e4.trans (e5.trans (e6.trans (e7.trans (e8.trans (e9.trans (e10.trans e11)))))))))) ⟨hS11, ⟨i, at1, ms, cntD (100 + i)⟩, 100 + i, ⟨t3, .int 0, .ref t2, rfl, st_of ht3, .tup (st_of (e11 _ _ ht2)) (.cons (.int _) (.cons (.int _) (.cons (dp_intsT (st_mono (e9.trans (e10.trans e11)) hms)) (.cons (.tup (st_of ((e10.trans e11) _ _ ht1)) (.cons (.str _) (.cons (.int _) .nil))) .nil)))), rfl⟩, ⟨rfl, hi0.1, by show i ≤ 100; omega, lms⟩⟩
/-! ### the law's own answer to a base, as a dict -/
def d30a (tm ba lg cm rc : V) : List (Key × V) := [(.inr "term", tm), (.inr "base", ba), (.inr "log", lg), (.inr "committed", cm), (.inr "records", rc)]
def d30k (tm ba lg cm rc ld an : V) : List (Key × V) := [(.inr "term", tm), (.inr "base", ba), (.inr "log", lg), (.inr "committed", cm), (.inr "records", rc), (.inr "leader", ld), (.inr "answer", an)]
section
variable {tm ba lg cm rc ld an x : V}
theorem g30_term : valV (d30k tm ba lg cm rc ld an) (.inr "term") = some tm := valV_hd
theorem g30_base : valV (d30k tm ba lg cm rc ld an) (.inr "base") = some ba := (valV_tl (by decide +kernel)).trans valV_hd
theorem g30_log : valV (d30k tm ba lg cm rc ld an) (.inr "log") = some lg := (valV_tl (by decide +kernel)).trans ((valV_tl (by decide +kernel)).trans valV_hd)
theorem g30_committed : valV (d30k tm ba lg cm rc ld an) (.inr "committed") = some cm := (valV_tl (by decide +kernel)).trans ((valV_tl (by decide +kernel)).trans ((valV_tl (by decide +kernel)).trans valV_hd))
theorem g30_records : valV (d30k tm ba lg cm rc ld an) (.inr "records") = some rc := (valV_tl (by decide +kernel)).trans ((valV_tl (by decide +kernel)).trans ((valV_tl (by decide +kernel)).trans ((valV_tl (by decide +kernel)).trans valV_hd)))
theorem g30_leader : valV (d30k tm ba lg cm rc ld an) (.inr "leader") = some ld := (valV_tl (by decide +kernel)).trans ((valV_tl (by decide +kernel)).trans ((valV_tl (by decide +kernel)).trans ((valV_tl (by decide +kernel)).trans ((valV_tl (by decide +kernel)).trans valV_hd))))
theorem g30_answer : valV (d30k tm ba lg cm rc ld an) (.inr "answer") = some an := (valV_tl (by decide +kernel)).trans ((valV_tl (by decide +kernel)).trans ((valV_tl (by decide +kernel)).trans ((valV_tl (by decide +kernel)).trans ((valV_tl (by decide +kernel)).trans ((valV_tl (by decide +kernel)).trans valV_hd)))))
theorem p30_term : putK (d30k tm ba lg cm rc ld an) (.inr "term") x = d30k x ba lg cm rc ld an := rfl
theorem p30_base : putK (d30k tm ba lg cm rc ld an) (.inr "base") x = d30k tm x lg cm rc ld an := rfl
theorem p30_log : putK (d30k tm ba lg cm rc ld an) (.inr "log") x = d30k tm ba x cm rc ld an := rfl
theorem p30_committed : putK (d30k tm ba lg cm rc ld an) (.inr "committed") x = d30k tm ba lg x rc ld an := rfl
theorem p30_leader : putK (d30k tm ba lg cm rc ld an) (.inr "leader") x = d30k tm ba lg cm rc x an := rfl
theorem p30_answer : putK (d30k tm ba lg cm rc ld an) (.inr "answer") x = d30k tm ba lg cm rc ld x := rfl
end
theorem upd_two1 {M : Hp} {d c : Addr} {o o' o2 : HO} (h : d ≠ c) : upd (upd (upd M d o) c o') d o2 = upd (upd M d o2) c o' := by
  funext b
  by_cases q : b = d
  · subst q
    rw [upd_same, upd_ne h, upd_same]
  · rw [upd_ne q]
    by_cases z : b = c
    · subst z
      rw [upd_same, upd_same]
    · rw [upd_ne z, upd_ne z, upd_ne q, upd_ne q]
def DuAt30 (K : PySem.W.Frag) (G : Hp) (q : Addr) (D : D30) : Prop := ∃ bv lg lv rc rv av, G q = some (.dK (d30k (.int D.tm) bv (.ref lg) (.int D.cm) (.ref rc) (oI D.leader) av)) ∧ RbAt K G bv D.base ∧ G lg = some (.lst lv) ∧ DpAll K G lv (D.log.map rnD) ∧ G rc = some (.lst rv) ∧ DpAll K G rv D.rcs ∧ Dp K G av D.ans
theorem DuAt30.ex {K : PySem.W.Frag} {G G' : Hp} {q : Addr} {D : D30} (h : DuAt30 K G q D) (e : Ex G G') : DuAt30 K G' q D := by
  obtain ⟨bv, lg, lv, rc, rv, av, h1, h2, h3, h4, h5, h6, h7⟩ := h
  exact ⟨bv, lg, lv, rc, rv, av, e _ _ h1, h2.ex e, e _ _ h3, dpAll_mono e h4, e _ _ h5, dpAll_mono e h6, dp_mono e h7⟩
theorem J.freeze2 {M G H : Hp} {d c : Addr} {o o' : HO} (j : J (upd (upd M d o) c o') G H) (hd : M d = none) (hc : M c = none) (n : c ≠ d) : J M (upd (upd G c o') d o) H ∧ Ex G (upd (upd G c o') d o) := by
  have nc : upd M d o c = none := by rw [upd_ne n]; exact hc
  have j1 := j.freeze nc
  have g1 : G c = none := j.freezeG
  have j2 := j1.freeze hd
  have g2 : upd G c o' d = none := j1.freezeG
  exact ⟨j2, (Ex.new g1).trans (Ex.new g2)⟩
/-! ### _law_based -/
abbrev s_law_based : Stmt := top 32
abbrev n_law_based : List Str := ["part", "letter", "due", "base"]
theorem sc_law_based : FnScope n_law_based ["part", "letter"] (defScope s_law_based) := ⟨rfl, rfl, rfl, by decide +kernel, rfl, by decide +kernel, by decide +kernel⟩
structure Bs30P where
  a : RepA
  r : Rpl
  lv : V
  t : Int
  b : RB
  n : Int
def sp_law_based (K : PySem.W.Frag) (C CC : Addr) : Sp := Sg (α := Bs30P) (fun x vs M G => vs = [.ref x.a.p, x.lv] ∧ RepAt K C CC M G x.a x.r ∧ I30 x.r ∧ LvAt K G x.lv x.t (.base x.b x.n)) (fun x M _ v M' G' => M' = M ∧ ∃ dq, v = .ref dq ∧ DuAt30 K G' dq (due30 x.r x.t x.b))
theorem ok_law_based {P : Program} {w : World} {K : PySem.W.Frag} {mg : Str → Option Value} {base : Heap}
    {C_Replica : Addr} (T_Replica : Tx_Replica K mg C_Replica)
    {C_Counter : Addr} (T_Counter : Tx_Counter K mg C_Counter)
    {f : Addr} {fd : FuncData} (D : Dn K mg "_law_based" s_law_based ["part", "letter"] f fd)
    (b_max : mg "max" = none)
    (b_list : mg "list" = none)
    (c_law_terms : Cal P w K mg base CX0 1 "_law_terms" (sp_law_terms K C_Replica C_Counter))
    (c_Replica_last_index : CalP P w K mg base CX0 1 C_Replica "last_index" (sp_Replica_last_index K C_Replica C_Counter)) : Cal P w K mg base CX0 3 "_law_based" (sp_law_based K C_Replica C_Counter) := by
  refine D.ok sc_law_based (fun vs H Q E h => ?_) fun cdv A outer s0 H vs Q E hr h => ?_
  · obtain ⟨x, M, G, j, ⟨rfl, _⟩, _⟩ := h; rfl
  obtain ⟨⟨a, r, lv, t, b, n⟩, M, G, j, ⟨rfl, hR, hI, hlv⟩, k⟩ := h
  dsimp only at hR hI hlv k
  refine ⟨_, (pss_cons (ps_set (i := 2) sc_law_based.nd rfl (Or.inl rfl) (pe_disp (pps_cons pe_str (pe_ix (ix_uK (K := K) rfl) (pv 1) pe_int (fun _ _ => rfl)) (pps_cons pe_str (pe_fld (pv 0) rfl) (pps_cons pe_str (pe_callTy (call_listC (K := K) rfl) (by rfl) b_list bt_list (pa_cons (pe_fld (pv 0) rfl) pa_nil)) (pps_cons pe_str (pe_fld (pv 0) rfl) pps_nil)))) (by rfl) (by rfl) (fun z => by cases z) (by decide)))
(pss_cons (ps_dput (hu_of hr) (pv 2) pe_str (pe_lst pa_nil) rfl)
(pss_cons (ps_dput (hu_of hr) (pv 2) pe_str pe_int rfl)
(pss_cons (ps_dput (hu_of hr) (pv 2) pe_str (pe_tup (pa_cons pe_str (pa_cons pe_int (pa_cons (pe_ix (ix_uK (K := K) rfl) (pv 1) pe_int (fun _ _ => rfl)) (pa_cons pe_bl (pa_cons (pe_ix (ix_uK (K := K) rfl) (pe_ix (ix_uK (K := K) rfl) (pv 1) pe_int (fun _ _ => rfl)) pe_int (fun _ _ => rfl)) pa_nil)))))) rfl)
(pss_cons (ps_if (pt_cmpR op_lt (pe_ix (ix_uK (K := K) rfl) (pv 1) pe_int (fun _ _ => rfl)) (pe_fld (pv 0) rfl) (nomark _))
(pss_cons (ps_dput (hu_of hr) (pv 2) pe_str (pe_fld (pv 0) rfl) rfl)
(pss_cons (ps_dput (hu_of hr) (pv 2) pe_str (pe_fld (pv 0) rfl) rfl)
(pss_cons (ps_dput (hu_of hr) (pv 2) pe_str (pe_tup (pa_cons pe_str (pa_cons pe_int (pa_cons (pe_fld (pv 0) rfl) (pa_cons pe_bl (pa_cons (pe_calP c_Replica_last_index T_Replica.cl hr (by first | decide | omega) (pv 0) (by rfl)) pa_nil)))))) rfl)
(pss_one (ps_ret (pv 2))))))
pss_nil)
(pss_cons (ps_if (pt_cmpR op_gt (pe_ix (ix_uK (K := K) rfl) (pv 1) pe_int (fun _ _ => rfl)) (pe_fld (pv 0) rfl) (nomark _))
(pss_one (ps_expr (pe_bm PySem.F.plainAttrs_list PySem.F.slot_list_append PySem.F.type_list_append mt_append (pe_dget (hu_of hr) (pv 2) pe_str (fun _ _ => rfl)) (pa_cons (pe_tup (pa_cons pe_str (pa_cons pe_int (pa_cons (pe_ix (ix_uK (K := K) rfl) (pv 1) pe_int (fun _ _ => rfl)) (pa_cons pe_non pa_nil))))) pa_nil))))
pss_nil)
(pss_cons (ps_set (i := 3) sc_law_based.nd rfl (Or.inl rfl) (pe_ix (ix_uK (K := K) rfl) (pv 1) pe_int (fun _ _ => rfl)))
(pss_cons (ps_if (PW.pt (pw_and (pt_cmp (pc_din (hu_of hr) (pe_ix (ix_uK (K := K) rfl) (pv 3) pe_int (fun _ _ => rfl)) (pe_cal c_law_terms hr (by first | decide | omega) (by rfl) (pa_cons (pv 0) pa_nil)))) (pw_and1 (pt_cmpR (op_uEqK (K := K) rfl hr) (pe_dget (hu_of hr) (pe_cal c_law_terms hr (by first | decide | omega) (by rfl) (pa_cons (pv 0) pa_nil)) (pe_ix (ix_uK (K := K) rfl) (pv 3) pe_int (fun _ _ => rfl)) (fun _ _ => rfl)) (pe_ix (ix_uK (K := K) rfl) (pv 3) pe_int (fun _ _ => rfl)) (nomark _)))))
(pss_one (ps_dput (hu_of hr) (pv 2) pe_str (pe_callB (call_max2 rfl) (by rfl) b_max bt_max (pa_cons (pe_fld (pv 0) rfl) (pa_cons (pe_ix (ix_uK (K := K) rfl) (pv 3) pe_int (fun _ _ => rfl)) pa_nil))) rfl))
(pss_one (ps_if (PW.pt (pw_or (pt_cmp (pc_isN (pe_fld (pv 0) rfl))) (pw_or1 (pt_cmpR op_gt (pe_ix (ix_uK (K := K) rfl) (pv 3) pe_int (fun _ _ => rfl)) (pe_fld (pv 0) rfl) (nomark _)))))
(pss_cons (ps_dput (hu_of hr) (pv 2) pe_str (pv 3) rfl)
(pss_cons (ps_dput (hu_of hr) (pv 2) pe_str (pe_lst pa_nil) rfl)
(pss_cons (ps_dput (hu_of hr) (pv 2) pe_str (pe_ix (ix_uK (K := K) rfl) (pv 3) pe_int (fun _ _ => rfl)) rfl)
(pss_one (ps_expr (pe_bm PySem.F.plainAttrs_list PySem.F.slot_list_append PySem.F.type_list_append mt_append (pe_dget (hu_of hr) (pv 2) pe_str (fun _ _ => rfl)) (pa_cons (pe_tup (pa_cons pe_str (pa_cons pe_int (pa_cons (pv 3) pa_nil)))) pa_nil)))))))
pss_nil)))
(pss_one (ps_ret (pv 2))))))))))), ?_⟩
  obtain ⟨lq, gr, ex, rfl, hlq, hex, _⟩ := hlv
  obtain ⟨bq, bm, bx, rfl, hbq, hbm, hbx⟩ := dp_rb hex
  have hlen := hI.le
  walk_at "start"
  refine w_dispM j fun dq H1 j1 nd gd => ?_
  have hR1 : ∀ kvs, RepAt K C_Replica C_Counter (upd M dq (.dK kvs)) G a r := fun kvs => hR.plus nd (fun _ z => nomatch z)
  walk_at "go"
  refine w_ixT j1 hlq (atI_nat (j := 2) rfl) ?_
  walk_at "go"
  (have hop := RepAt.op (hR1 []); refine w_fldM j1 hop T_Replica.cl T_Replica.n_base fl_Replica_base ?_; clear hop; walk_at "go")
  walk_at "go"
  (have hop := RepAt.op (hR1 []); refine w_fldM j1 hop T_Replica.cl T_Replica.n_entries fl_Replica_entries ?_; clear hop; walk_at "go")
  refine w_listC (.inl (sl_of (j1.m _ _ (hR1 []).en))) (w_new j1 (Nat.zero_le _) fun lg G2 H2 j2 e2 hlg _ => ?_)
  walk_at "go"
  (have hop := RepAt.op ((hR1 []).ex e2); refine w_fldM j2 hop T_Replica.cl T_Replica.n_committed fl_Replica_committed ?_; clear hop; walk_at "go")
  refine w_dispE [(.inr "term", .int t), (.inr "base", a.bv), (.inr "log", .ref lg), (.inr "committed", .int r.cm)] j2 upd_same rfl (by show 4 ≤ 15; decide) (by show (([.inr "term", .inr "base", .inr "log", .inr "committed"] : List Key)).Nodup; decide +kernel) fun H3 j3 => ?_
  rw [upd_upd] at j3
  have hR2 := fun kvs => (hR1 kvs).ex e2
  have hlq2 := st_mono e2 hlq
  have hbq2 := st_mono e2 hbq
  have hev2 := (hR2 []).d.en
  have hbv2 := (hR2 []).d.b
  walk_at "go"
  refine w_newM j3 (Nat.zero_le _) fun rc H4 j4 nr gr4 => ?_
  obtain ⟨d1, nr'⟩ := none_upd nr
  walk_at "go"
  refine w_putXS j4 (upd_ne' upd_same d1.symm) (by show 4 < 1000000; decide) fun H5 j5 => ?_
  rw [upd_two1 d1.symm] at j5
  have hR3 : ∀ kvs rvs, RepAt K C_Replica C_Counter (upd (upd M dq (.dK kvs)) rc (.lst rvs)) G2 a r := fun kvs rvs => (hR2 kvs).plus (by rw [upd_ne d1]; exact nr') (fun _ z => nomatch z)
  walk_at "go"
  refine w_putXS j5 (upd_ne' upd_same d1.symm) (by show 5 < 1000000; decide) fun H6 j6 => ?_
  rw [upd_two1 d1.symm] at j6
  walk_at "go"
  refine w_ixT j6 hlq2 (atI_nat (j := 2) rfl) ?_
  walk_at "go"
  refine w_ixT j6 hlq2 (atI_nat (j := 3) rfl) ?_
  walk_at "go"
  refine w_ixT j6 hbq2 atI_0 ?_
  walk_at "go"
  refine w_new j6 (by show 5 ≤ sizeLine; decide) fun g1 G7 H7 j7 e7 hg1 _ => ?_
  walk_at "go"
  refine w_putXS j7 (upd_ne' upd_same d1.symm) (by show 6 < 1000000; decide) fun H8 j8 => ?_
  rw [upd_two1 d1.symm] at j8
  have j8 : J (upd (upd M dq (.dK (d30k (.int t) a.bv (.ref lg) (.int r.cm) (.ref rc) (.int 2) (.ref g1)))) rc (.lst [])) G7 H8 := j8
  have hR8 := fun kvs rvs => (hR3 kvs rvs).ex e7
  have fin : ∀ (D : D30) G1 H1 bv lg lv rv av, J (upd (upd M dq (.dK (d30k (.int D.tm) bv (.ref lg) (.int D.cm) (.ref rc) (oI D.leader) av))) rc (.lst rv)) G1 H1 → Ex G G1 → RbAt K G1 bv D.base → G1 lg = some (.lst lv) → DpAll K G1 lv (D.log.map rnD) → DpAll K G1 rv D.rcs → Dp K G1 av D.ans → D = due30 r t b → Q (.ref dq) H1 := by
    intro D G1 H1 bv lg lv rv av j e h0 h1 h2 h3 h4 hD
    obtain ⟨j', e'⟩ := J.freeze2 j nd nr' d1
    refine k _ _ _ _ j' (e.trans e') ⟨rfl, dq, rfl, ?_⟩
    rw [← hD]
    exact ⟨bv, lg, lv, rc, rv, av, upd_same, h0.ex e', e' _ _ h1, dpAll_mono e' h2, upd_ne' upd_same d1, dpAll_mono e' h3, dp_mono e' h4⟩
  have E7 := e2.trans e7
  have hlq7 := st_mono e7 hlq2
  have hbq7 := st_mono e7 hbq2
  have hbv7 := hbv2.ex e7
  have hev7 := dpAll_mono e7 hev2
  have hlg7 := e7 _ _ hlg
  walk_at "go"
  refine w_ixT j8 hlq7 (atI_nat (j := 2) rfl) ?_
  walk_at "go"
  refine w_fldM j8 (RepAt.op (hR8 _ _)) T_Replica.cl T_Replica.n_term fl_Replica_term ?_
  walk_at "go"
  refine w_dec (fun q => ?_) (fun q => ?_)
  · walk_at "go"
    refine w_fldM j8 (RepAt.op (hR8 _ _)) T_Replica.cl T_Replica.n_term fl_Replica_term ?_
    walk_at "go"
    refine w_putXS j8 (upd_ne' upd_same d1.symm) (by show 7 < 1000000; decide) fun H9 j9 => ?_
    rw [upd_two1 d1.symm, p30_term] at j9
    walk_at "go"
    refine w_fldM j9 (RepAt.op (hR8 _ _)) T_Replica.cl T_Replica.n_leader fl_Replica_leader ?_
    walk_at "go"
    refine w_putXS j9 (upd_ne' upd_same d1.symm) (by show 7 < 1000000; decide) fun H10 j10 => ?_
    rw [upd_two1 d1.symm, p30_leader] at j10
    walk_at "go"
    refine w_fldM j10 (RepAt.op (hR8 _ _)) T_Replica.cl T_Replica.n_term fl_Replica_term ?_
    walk_at "go"
    refine w_propM j10 (RepAt.op (hR8 _ _)) ?_
    refine w_sg (α := RepA × Rpl) (a, r) j10 ⟨rfl, hR8 _ _⟩ fun v M11 G11 H11 j11 e11 ⟨ev, em⟩ => ?_
    subst ev em
    walk_at "go"
    refine w_new j11 (by show 5 ≤ sizeLine; decide) fun g2 G12 H12 j12 e12 hg2 _ => ?_
    have E12 := e11.trans e12
    walk_at "go"
    refine w_putXS j12 (upd_ne' upd_same d1.symm) (by show 7 < 1000000; decide) fun H13 j13 => ?_
    rw [upd_two1 d1.symm, p30_answer] at j13
    walk_at "go"
    refine fin ⟨r.term, r.base, r.ents, r.cm, [], r.leader, gotD r.term false (lastI r)⟩ G12 _ a.bv lg a.ev [] (.ref g2) j13 (E7.trans E12) (hbv7.ex E12) (E12 _ _ hlg7) (dpAll_mono E12 hev7) .nil (.tup (st_of hg2) (.cons (.str _) (.cons (.int _) (.cons (.int _) (.cons (.bl _) (.cons (.int _) .nil)))))) ?_
    unfold due30
    rw [if_pos q]
  walk_at "to"
  refine w_seqO (fun σ H => ∃ G9 rv, J (upd (upd M dq (.dK (d30k (.int t) a.bv (.ref lg) (.int r.cm) (.ref rc) (.int 2) (.ref g1)))) rc (.lst rv)) G9 H ∧ Ex G7 G9 ∧ DpAll K G9 rv (rec1 r t) ∧ rv.length ≤ 1 ∧ σ = [some (.ref a.p), some (.ref lq), some (.ref dq), none]) ?_ fun N hN => ?_
  rotate_left
  · walk_at "go"
    refine w_ixT j8 hlq7 (atI_nat (j := 2) rfl) ?_
    walk_at "go"
    refine w_fldM j8 (RepAt.op (hR8 _ _)) T_Replica.cl T_Replica.n_term fl_Replica_term ?_
    walk_at "go"
    refine w_dec (fun q2 => ?_) (fun q2 => ?_)
    · walk_at "go"
      refine w_getXS j8 (.ofM (upd_ne' upd_same d1.symm)) g30_records ?_
      walk_at "go"
      refine ⟨ty_listM j8 upd_same, ?_⟩
      walk_at "go"
      refine w_ixT j8 hlq7 (atI_nat (j := 2) rfl) ?_
      walk_at "go"
      refine w_new j8 (by show 4 ≤ sizeLine; decide) fun t1 G10 H10 j10 e10 ht1 _ => ?_
      walk_at "go"
      refine w_appendA j10 upd_same (by decide) fun H11 j11 => ?_
      rw [upd_upd] at j11
      walk_at "go"
      refine hN _ _ ⟨G10, [.ref t1], j11, e10, ?_, Nat.le_refl _, rfl⟩
      unfold rec1
      rw [if_pos q2]
      exact .cons (.tup (st_of ht1) (.cons (.str _) (.cons (.int _) (.cons (.int _) (.cons .non .nil))))) .nil
    · walk_at "go"
      refine hN _ _ ⟨G7, [], j8, Same.refl _, ?_, Nat.zero_le _, rfl⟩
      unfold rec1
      rw [if_neg q2]
      exact .nil
  rintro σ H9 ⟨G9, rv, j9, e9, hrv, lrv, rfl⟩
  have E9 := E7.trans e9
  have hlq9 := st_mono e9 hlq7
  have hbq9 := st_mono e9 hbq7
  have hbv9 := hbv7.ex e9
  have hev9 := dpAll_mono e9 hev7
  have hlg9 := e9 _ _ hlg7
  have hex9 := dp_mono E9 hex
  have hg19 := e9 _ _ hg1
  have hR9 := fun kvs rvs => (hR8 kvs rvs).ex e9
  have ans9 : ∀ G', Ex G9 G' → Dp K G' (.ref g1) (gotD t true b.i) := fun G' e => .tup (st_of (e _ _ hg19)) (.cons (.str _) (.cons (.int _) (.cons (.int _) (.cons (.bl _) (.cons (.int _) .nil)))))
  obtain ⟨rvx, hrvx⟩ : ∃ x, x = upd (upd M dq (.dK (d30k (.int t) a.bv (.ref lg) (.int r.cm) (.ref rc) (.int 2) (.ref g1)))) rc (.lst rv) := ⟨_, rfl⟩
  walk_at "go"
  refine w_ixT j9 hlq9 (atI_nat (j := 3) rfl) ?_
  walk_at "to"
  have fin9 : ∀ (D : D30) G1 H1 bv lg lv rv, J (upd (upd M dq (.dK (d30k (.int t) bv (.ref lg) (.int D.cm) (.ref rc) (.int 2) (.ref g1)))) rc (.lst rv)) G1 H1 → Ex G9 G1 → RbAt K G1 bv D.base → G1 lg = some (.lst lv) → DpAll K G1 lv (D.log.map rnD) → DpAll K G1 rv D.rcs → D.tm = t → D.leader = some 2 → D.ans = gotD t true b.i → D = due30 r t b → Q (.ref dq) H1 := by
    intro D G1 H1 bv lg lv rv j e h0 h1 h2 h3 et el ea hD
    refine fin D G1 H1 bv lg lv rv (.ref g1) ?_ (E9.trans e) h0 h1 h2 h3 (by rw [ea]; exact ans9 _ e) hD
    rw [et, el]
    exact j
  clear fin
  with_reducible refine w_seq ?_
  with_reducible refine w_if ?_
  refine w_testP (fun bb H' => ∃ G', J (upd (upd M dq (.dK (d30k (.int t) a.bv (.ref lg) (.int r.cm) (.ref rc) (.int 2) (.ref g1)))) rc (.lst rv)) G' H' ∧ Ex G9 G' ∧ bb = hasE r b.i b.t) (fun bb H' ⟨G10, j10, e10, eb⟩ => ?_) fun hP => ?_
  rotate_left
  · walk_at "go"
    refine w_ixT j9 hbq9 atI_0 ?_
    walk_at "go"
    refine w_sg (α := RepA × Rpl) (a, r) j9 ⟨rfl, hR9 _ _, by dsimp only; omega⟩ fun v M10 G10 H10 j10 e10 ⟨em, tq, kv, ev, htq, hk⟩ => ?_
    subst ev em
    refine w_inX j10 (.ofG htq) ?_
    rw [tk_look, Option.isSome_map, hk]
    walk_at "go"
    cases hlk : lookT r b.i with
    | none =>
      rw [show (none : Option Int).isSome = false from rfl]
      refine w_F ?_
      refine hP _ _ ⟨G10, j10, e10, ?_⟩
      rw [hasE_look, hlk]
      exact (decide_eq_false fun z => nomatch z).symm
    | some tt =>
      rw [show (some tt : Option Int).isSome = true from rfl]
      walk_at "go"
      refine w_sg (α := RepA × Rpl) (a, r) j10 ⟨rfl, (hR9 _ _).ex e10, by dsimp only; omega⟩ fun v M11 G11 H11 j11 e11 ⟨em, tq2, kv2, ev, htq2, hk2⟩ => ?_
      subst ev em
      walk_at "go"
      refine w_ixT j11 (st_mono (e10.trans e11) hbq9) atI_0 ?_
      walk_at "go"
      refine w_getX j11 (.ofG htq2) (v := .int tt) (by rw [tk_look, hk2, hlk]; rfl) ?_
      walk_at "go"
      refine w_ixT j11 (st_mono (e10.trans e11) hbq9) (atI_nat (j := 1) rfl) ?_
      walk_at "go"
      refine hP _ _ ⟨G11, j11, e10.trans e11, ?_⟩
      rw [hasE_look, hlk]
      exact decide_eq_decide.mpr ⟨fun z => congrArg some z, fun z => Option.some.inj z⟩
  have hbq10 := st_mono e10 hbq9
  have hR10 := fun kvs rvs => (hR9 kvs rvs).ex e10
  cases bb with
  | true =>
    walk_at "go"
    refine w_fldM j10 (RepAt.op (hR10 _ _)) T_Replica.cl T_Replica.n_committed fl_Replica_committed ?_
    walk_at "go"
    refine w_ixT j10 hbq10 atI_0 ?_
    walk_at "go"
    refine ⟨_, _, rfl, ?_⟩
    walk_at "go"
    refine w_putXS j10 (upd_ne' upd_same d1.symm) (by show 7 < 1000000; decide) fun H11 j11 => ?_
    rw [upd_two1 d1.symm, p30_committed] at j11
    walk_at "go"
    refine fin9 ⟨t, r.base, r.ents, maxI r.cm b.i, rec1 r t, some 2, gotD t true b.i⟩ G10 _ a.bv lg a.ev rv j11 e10 (hbv9.ex e10) (e10 _ _ hlg9) (dpAll_mono e10 hev9) (dpAll_mono e10 hrv) rfl rfl rfl ?_
    unfold due30
    rw [if_neg q, if_pos eb.symm]
  | false =>
    have eb' : ¬ hasE r b.i b.t = true := by rw [← eb]; exact Bool.false_ne_true
    have hcm : r.base = none → r.cm = r.cm := fun _ => rfl
    walk_at "go"
    have two : ∀ (c : Bool), c = decide (r.base = none ∨ b.i > r.cm) → if c = true then tSeq (sDPut (tVar 2) (tC (.str "base")) (tVar 3)) (tSeq (sDPut (tVar 2) (tC (.str "log")) (tLst tNil)) (tSeq (sDPut (tVar 2) (tC (.str "committed")) (tOp (uIx K) (tVar 3) (tC (.int 0)))) (tDrop (tBM K "list" rAppend (tDGet (tVar 2) (tC (.str "records"))) (tCons (tTup (tCons (tC (.str "base")) (tCons (tC (.int 0)) (tCons (tVar 3) tNil)))) tNil))))) { nx := tRet (tVar 2) { nx := fun x H' => Q V.non H', rt := Q }, rt := Q } [some (.ref a.p), some (.ref lq), some (.ref dq), some (.ref bq)] H' else tNext { nx := tRet (tVar 2) { nx := fun x H' => Q V.non H', rt := Q }, rt := Q } [some (.ref a.p), some (.ref lq), some (.ref dq), some (.ref bq)] H' := by
      intro c hc
      cases c with
      | false =>
        walk_at "go"
        refine fin9 ⟨t, r.base, r.ents, r.cm, rec1 r t, some 2, gotD t true b.i⟩ G10 _ a.bv lg a.ev rv j10 e10 (hbv9.ex e10) (e10 _ _ hlg9) (dpAll_mono e10 hev9) (dpAll_mono e10 hrv) rfl rfl rfl ?_
        unfold due30
        rw [if_neg q, if_neg eb', if_neg (of_decide_eq_false hc.symm)]
      | true =>
        walk_at "go"
        refine w_putXS j10 (upd_ne' upd_same d1.symm) (by show 7 < 1000000; decide) fun H11 j11 => ?_
        rw [upd_two1 d1.symm, p30_base] at j11
        walk_at "go"
        refine w_new j11 (Nat.zero_le _) fun l2 G12 H12 j12 e12 hl2 _ => ?_
        walk_at "go"
        refine w_putXS j12 (upd_ne' upd_same d1.symm) (by show 7 < 1000000; decide) fun H13 j13 => ?_
        rw [upd_two1 d1.symm, p30_log] at j13
        walk_at "go"
        refine w_ixT j13 (st_mono e12 hbq10) atI_0 ?_
        walk_at "go"
        refine w_putXS j13 (upd_ne' upd_same d1.symm) (by show 7 < 1000000; decide) fun H14 j14 => ?_
        rw [upd_two1 d1.symm, p30_committed] at j14
        walk_at "go"
        refine w_getXS j14 (.ofM (upd_ne' upd_same d1.symm)) g30_records ?_
        walk_at "go"
        refine ⟨ty_listM j14 upd_same, ?_⟩
        walk_at "go"
        refine w_new j14 (by show 3 ≤ sizeLine; decide) fun t1 G15 H15 j15 e15 ht1 _ => ?_
        walk_at "go"
        refine w_appendA j15 upd_same (by omega) fun H16 j16 => ?_
        rw [upd_upd] at j16
        have E15 := e10.trans (e12.trans e15)
        walk_at "go"
        refine fin9 ⟨t, some b, [], b.i, rec1 r t ++ [baseRec b], some 2, gotD t true b.i⟩ G15 _ (.ref bq) l2 [] _ j16 E15 (dp_mono E15 hex9) (e15 _ _ hl2) .nil (dpAll_snoc (dpAll_mono E15 hrv) (.tup (st_of ht1) (.cons (.str _) (.cons (.int _) (.cons (dp_mono E15 hex9) .nil))))) rfl rfl rfl ?_
        unfold due30
        rw [if_neg q, if_neg eb', if_pos (of_decide_eq_true hc.symm)]
    refine w_fldM j10 (RepAt.op (hR10 _ _)) T_Replica.cl T_Replica.n_base fl_Replica_base ?_
    rcases hR.bs with ⟨hb0, hv0⟩ | ⟨b0, q0, m0, x0, hb0, hv0, hq0, _, _⟩
    · rw [hv0]
      walk_at "go"
      rw [show decide (V.non = V.non) = true from decide_eq_true rfl]
      refine w_T ?_
      exact two true (decide_eq_true (.inl hb0)).symm
    · rw [hv0]
      walk_at "go"
      rw [show decide (V.ref q0 = V.non) = false from decide_eq_false fun z => nomatch z]
      walk_at "go"
      refine w_ixT j10 hbq10 atI_0 ?_
      walk_at "go"
      refine w_fldM j10 (RepAt.op (hR10 _ _)) T_Replica.cl T_Replica.n_committed fl_Replica_committed ?_
      walk_at "go"
      refine two _ (decide_eq_decide.mpr ⟨fun z => .inr z, fun z => z.elim (fun z => by rw [hb0] at z; cases z) id⟩)
/-! ### _law_all_equal -/
abbrev s_law_all_equal : Stmt := top 28
abbrev n_law_all_equal : List Str := ["actual", "due", "k"]
theorem sc_law_all_equal : FnScope n_law_all_equal ["actual", "due"] (defScope s_law_all_equal) := ⟨rfl, rfl, rfl, by decide +kernel, rfl, by decide +kernel, by decide +kernel⟩
theorem ok_law_all_equal {P : Program} {w : World} {K : PySem.W.Frag} {mg : Str → Option Value} {base : Heap} {f : Addr} {fd : FuncData} (D : Dn K mg "_law_all_equal" s_law_all_equal ["actual", "due"] f fd)
    (b_range : mg "range" = none) (b_len : mg "len" = none) (n : Nat) (c_law_equal : Cal P w K mg base CX0 (2 * n + 1) "_law_equal" (spEq K n)) : Cal P w K mg base CX0 (2 * n + 2) "_law_all_equal" (spAll K (n + 1)) := by
  refine D.ok sc_law_all_equal (fun vs H Q E h => ?_) fun cdv A outer s H vs Q E hr h => ?_
  · obtain ⟨x, M, G, j, ⟨rfl, _⟩, _⟩ := h; rfl
  obtain ⟨⟨a, b, xs, ys, ds⟩, M, G, j, ⟨rfl, ha, hb, hx, hy, hl, hok⟩, k⟩ := h
  dsimp only at ha hb hx hy hl hok k
  refine ⟨_, (pss_cons (ps_for PassesOwn.never rfl (pi_range1 (by rfl) b_range (pa_cons (pe_callB (call_uLenK (K := K) rfl) (by rfl) b_len PySem.boot_len (pa_cons (pv 1) pa_nil)) pa_nil)) (pg_name (i := 2) sc_law_all_equal.nd rfl (Or.inl rfl))
(pss_one (ps_if (pt_not (pt_val (pe_cal c_law_equal hr (by first | decide | omega) (by rfl) (pa_cons (pe_ix (ix_uK (K := K) rfl) (pv 0) (pv 2) (fun _ _ => rfl)) (pa_cons (pe_ix (ix_uK (K := K) rfl) (pv 1) (pv 2) (fun _ _ => rfl)) pa_nil)))))
(pss_one (ps_ret pe_bl))
pss_nil)))
(pss_one (ps_ret pe_bl))), ?_⟩
  walk_at "start"
  refine w_lenB j hb ?_
  walk_at "go"
  have hyl := dpAll_len hy
  refine w_rng (fun i σ H => ∃ G1 z, J M G1 H ∧ Ex G G1 ∧ σ = [some (.ref a), some (.ref b), z]) ⟨G, _, j, Same.refl G, rfl⟩ ?_ ?_ (by omega) (by omega)
  · rintro i σ H hi ⟨G1, z, j, e, rfl⟩
    have hi : i < ds.length := by rw [← hyl]; simpa using hi
    obtain ⟨x, hx1, hx2⟩ := dpAll_get hx (List.getElem?_eq_getElem hi)
    obtain ⟨y, hy1, hy2⟩ := dpAll_get hy (List.getElem?_eq_getElem hi)
    walk_at "go"
    refine w_ixB j (ha.imp (sl_mono e) (st_mono e)) (atI_nat hx1) ?_
    walk_at "go"
    refine w_ixB j (hb.imp (sl_mono e) (st_mono e)) (atI_nat hy1) ?_
    walk_at "go"
    refine use_eq j (dp_mono e hx2) (dp_mono e hy2) (hok _ (List.getElem_mem hi)) fun G2 H2 j2 e2 => ?_
    walk_at "go"
    exact ⟨G2, _, j2, e.trans e2, rfl⟩
  · rintro σ H ⟨G1, z, j, e, rfl⟩
    walk_at "go"
    exact k _ _ _ _ j e ⟨rfl, rfl⟩
/-! ### _law_equal -/
abbrev s_law_equal : Stmt := top 27
abbrev n_law_equal : List Str := ["actual", "due"]
theorem sc_law_equal : FnScope n_law_equal ["actual", "due"] (defScope s_law_equal) := ⟨rfl, rfl, rfl, by decide +kernel, rfl, by decide +kernel, by decide +kernel⟩
theorem ok_law_equal {P : Program} {w : World} {K : PySem.W.Frag} {mg : Str → Option Value} {base : Heap} {f : Addr} {fd : FuncData} (D : Dn K mg "_law_equal" s_law_equal ["actual", "due"] f fd)
    (b_isinstance : mg "isinstance" = none) (b_list : mg "list" = none) (b_tuple : mg "tuple" = none) (b_bool : mg "bool" = none) (b_int : mg "int" = none) (b_str : mg "str" = none) (b_len : mg "len" = none) (n : Nat)
    (c_law_all_equal : Cal P w K mg base CX0 (2 * n) "_law_all_equal" (spAll K n)) : Cal P w K mg base CX0 (2 * n + 1) "_law_equal" (spEq K n) := by
  refine D.ok sc_law_equal (fun vs H Q E h => ?_) fun cdv A outer s H vs Q E hr h => ?_
  · obtain ⟨x, M, G, j, ⟨rfl, _⟩, _⟩ := h; rfl
  obtain ⟨⟨x, y, d⟩, M, G, j, ⟨rfl, hx, hy, hok⟩, k⟩ := h
  dsimp only at hx hy hok k
  refine ⟨_, (pss_cons (ps_if (pt_val (pe_callB (call_isiK' (K := K) rfl) (by rfl) b_isinstance bt_isinstance (pa_cons (pv 1) (pa_cons (pe_bltn (v := .ty "list") (by rfl) b_list bt_list rfl) pa_nil))))
(pss_cons (ps_if (PW.pt (pw_or (pt_not (pt_val (pe_callB (call_isiK' (K := K) rfl) (by rfl) b_isinstance bt_isinstance (pa_cons (pv 0) (pa_cons (pe_bltn (v := .ty "list") (by rfl) b_list bt_list rfl) pa_nil))))) (pw_or1 (pt_cmpR (op_uNeK (K := K) rfl hr) (pe_callB (call_uLenK (K := K) rfl) (by rfl) b_len PySem.boot_len (pa_cons (pv 0) pa_nil)) (pe_callB (call_uLenK (K := K) rfl) (by rfl) b_len PySem.boot_len (pa_cons (pv 1) pa_nil)) (nomark _)))))
(pss_one (ps_ret pe_bl))
pss_nil)
(pss_one (ps_ret (pe_cal c_law_all_equal hr (by first | decide | omega) (by rfl) (pa_cons (pv 0) (pa_cons (pv 1) pa_nil))))))
pss_nil)
(pss_cons (ps_if (pt_val (pe_callB (call_isiK' (K := K) rfl) (by rfl) b_isinstance bt_isinstance (pa_cons (pv 1) (pa_cons (pe_bltn (v := .ty "tuple") (by rfl) b_tuple bt_tuple rfl) pa_nil))))
(pss_cons (ps_if (PW.pt (pw_or (pt_not (pt_val (pe_callB (call_isiK' (K := K) rfl) (by rfl) b_isinstance bt_isinstance (pa_cons (pv 0) (pa_cons (pe_bltn (v := .ty "tuple") (by rfl) b_tuple bt_tuple rfl) pa_nil))))) (pw_or1 (pt_cmpR (op_uNeK (K := K) rfl hr) (pe_callB (call_uLenK (K := K) rfl) (by rfl) b_len PySem.boot_len (pa_cons (pv 0) pa_nil)) (pe_callB (call_uLenK (K := K) rfl) (by rfl) b_len PySem.boot_len (pa_cons (pv 1) pa_nil)) (nomark _)))))
(pss_one (ps_ret pe_bl))
pss_nil)
(pss_one (ps_ret (pe_cal c_law_all_equal hr (by first | decide | omega) (by rfl) (pa_cons (pv 0) (pa_cons (pv 1) pa_nil))))))
pss_nil)
(pss_cons (ps_if (pt_val (pe_callB (call_isiK' (K := K) rfl) (by rfl) b_isinstance bt_isinstance (pa_cons (pv 1) (pa_cons (pe_bltn (v := .ty "bool") (by rfl) b_bool bt_bool rfl) pa_nil))))
(pss_one (ps_ret (pe_and (pe_callB (call_isiK' (K := K) rfl) (by rfl) b_isinstance bt_isinstance (pa_cons (pv 0) (pa_cons (pe_bltn (v := .ty "bool") (by rfl) b_bool bt_bool rfl) pa_nil))) (pe_one (pe_cmpR (op_uEqK (K := K) rfl hr) (pv 0) (pv 1) (nomark _))))))
pss_nil)
(pss_cons (ps_if (pt_val (pe_callB (call_isiK' (K := K) rfl) (by rfl) b_isinstance bt_isinstance (pa_cons (pv 1) (pa_cons (pe_bltn (v := .ty "int") (by rfl) b_int bt_int rfl) pa_nil))))
(pss_one (ps_ret (pe_and (pe_callB (call_isiK' (K := K) rfl) (by rfl) b_isinstance bt_isinstance (pa_cons (pv 0) (pa_cons (pe_bltn (v := .ty "int") (by rfl) b_int bt_int rfl) pa_nil))) (pe_and (pe_not (pe_callB (call_isiK' (K := K) rfl) (by rfl) b_isinstance bt_isinstance (pa_cons (pv 0) (pa_cons (pe_bltn (v := .ty "bool") (by rfl) b_bool bt_bool rfl) pa_nil)))) (pe_one (pe_cmpR (op_uEqK (K := K) rfl hr) (pv 0) (pv 1) (nomark _)))))))
pss_nil)
(pss_cons (ps_if (pt_val (pe_callB (call_isiK' (K := K) rfl) (by rfl) b_isinstance bt_isinstance (pa_cons (pv 1) (pa_cons (pe_bltn (v := .ty "str") (by rfl) b_str bt_str rfl) pa_nil))))
(pss_one (ps_ret (pe_and (pe_callB (call_isiK' (K := K) rfl) (by rfl) b_isinstance bt_isinstance (pa_cons (pv 0) (pa_cons (pe_bltn (v := .ty "str") (by rfl) b_str bt_str rfl) pa_nil))) (pe_one (pe_cmpR (op_uEqK (K := K) rfl hr) (pv 0) (pv 1) (nomark _))))))
pss_nil)
(pss_one (ps_ret (pe_cmp (pc_isN (pv 0)))))))))), ?_⟩
  walk_at "start"
  have fin : Q (.bl true) H := k _ _ _ _ j (Same.refl G) ⟨rfl, rfl⟩
  cases hy with
  | non =>
    cases hx
    walk_at "gx"
    exact fin
  | bl b =>
    cases hx
    walk_at "gx"
    refine w_eqV rfl (decide_eq_true rfl) ?_
    exact fin
  | int b =>
    cases hx
    walk_at "gx"
    rw [decide_eq_true rfl]
    exact fin
  | str b =>
    cases hx
    walk_at "gx"
    exact fin
  | lst hb hyl =>
    cases hx with
    | lst ha hxl =>
      cases n with
      | zero => cases hok
      | succ n =>
        walk_at "gx"
        refine w_isi true (ty_L (sl_mono j.g hb)) (by rfl) ?_
        walk_at "gx"
        refine w_isi true (ty_L (sl_mono j.g ha)) (by rfl) ?_
        walk_at "gx"
        refine w_lenL j ha ?_
        walk_at "gx"
        refine w_lenL j hb ?_
        walk_at "gx"
        rw [dpAll_len hxl, dpAll_len hyl, decide_eq_true rfl]
        refine w_F ?_
        walk_at "gx"
        exact use_all j (.inl ha) (.inl hb) hxl hyl hok.1 hok.2 fun G' H' j' e => k _ _ _ _ j' e ⟨rfl, rfl⟩
  | tup hb hyl =>
    cases hx with
    | tup ha hxl =>
      cases n with
      | zero => cases hok
      | succ n =>
        walk_at "gx"
        refine w_isi false (ty_T (st_mono j.g hb)) (by rfl) ?_
        walk_at "gx"
        refine w_isi true (ty_T (st_mono j.g hb)) (by rfl) ?_
        walk_at "gx"
        refine w_isi true (ty_T (st_mono j.g ha)) (by rfl) ?_
        walk_at "gx"
        refine w_lenT j ha ?_
        walk_at "gx"
        refine w_lenT j hb ?_
        walk_at "gx"
        rw [dpAll_len hxl, dpAll_len hyl, decide_eq_true rfl]
        refine w_F ?_
        walk_at "gx"
        exact use_all j (.inr ha) (.inr hb) hxl hyl hok.1 hok.2 fun G' H' j' e => k _ _ _ _ j' e ⟨rfl, rfl⟩
/-- both, at every depth -/
theorem ok_equal {P : Program} {w : World} {K : PySem.W.Frag} {mg : Str → Option Value} {base : Heap} {f g : Addr} {fd gd : FuncData} (D : Dn K mg "_law_equal" s_law_equal ["actual", "due"] f fd) (D2 : Dn K mg "_law_all_equal" s_law_all_equal ["actual", "due"] g gd)
    (b_isinstance : mg "isinstance" = none) (b_list : mg "list" = none) (b_tuple : mg "tuple" = none) (b_bool : mg "bool" = none) (b_int : mg "int" = none) (b_str : mg "str" = none) (b_len : mg "len" = none) (b_range : mg "range" = none) (n : Nat) :
    Cal P w K mg base CX0 (2 * n + 1) "_law_equal" (spEq K n) := by
  induction n with
  | zero => exact ok_law_equal D b_isinstance b_list b_tuple b_bool b_int b_str b_len 0 (D2.cal ⟨fun _ _ _ _ h => h.elim, fun _ _ _ _ _ _ _ _ _ _ _ _ _ h => h.elim⟩)
  | succ n ih => exact ok_law_equal D b_isinstance b_list b_tuple b_bool b_int b_str b_len (n + 1) (ok_law_all_equal D2 b_range b_len n ih)
/-! ### Counter.picture -/
abbrev s_Counter_picture : Stmt := inClass (top 2) 2
abbrev n_Counter_picture : List Str := ["self"]
theorem sc_Counter_picture : FnScope n_Counter_picture ["self"] (defScope s_Counter_picture) := ⟨rfl, rfl, rfl, by decide +kernel, rfl, by decide +kernel, by decide +kernel⟩
def sp_Counter_picture (K : PySem.W.Frag) (C : Addr) : Sp := Sg (α := Addr × Addr × Int) (fun x vs M _ => vs = [.ref x.1] ∧ M x.1 = some (.ins C x.2.1 (fl_Counter (.int x.2.2))))
  (fun x M _ v M' G' => (∃ t, v = .ref t ∧ G' t = some (.tup [.str "counter", .int x.2.2])) ∧ M' = M)
theorem ok_Counter_picture {P : Program} {w : World} {K : PySem.W.Frag} {mg : Str → Option Value} {base : Heap}
    {C_Counter : Addr} (T_Counter : Tx_Counter K mg C_Counter)
    {f : Addr} {fd : FuncData} (D : Dm K C_Counter "picture" "Counter.picture" s_Counter_picture ["self"] f fd) : CalM P w K mg base CX0 1 C_Counter "picture" (sp_Counter_picture K C_Counter) := by
  refine D.ok sc_Counter_picture (fun vs H Q E h => ?_) fun cdv A outer s H vs Q E hr h => ?_
  · obtain ⟨x, M, G, j, ⟨rfl, _⟩, _⟩ := h; rfl
  obtain ⟨⟨p, dx, n⟩, M, G, j, ⟨rfl, hp⟩, k⟩ := h
  dsimp only at hp k
  refine ⟨_, (pss_one (ps_ret (pe_tup (pa_cons pe_str (pa_cons (pe_fld (pv 0) rfl) pa_nil))))), ?_⟩
  walk_at "start"
  refine w_fldM j hp T_Counter.cl T_Counter.n_last fl_Counter_last ?_
  walk_at "go"
  refine w_new j (by show 2 ≤ sizeLine; decide) fun t G2 H2 j2 e2 ht _ => ?_
  exact k _ _ _ _ j2 e2 ⟨⟨t, rfl, ht⟩, rfl⟩
/-! ### what the law compares of bases is small -/
def rbO : Option RB → PyData
  | none => .none
  | some b => rbD b
theorem RbAt.dp {K : PySem.W.Frag} {G : Hp} {v : V} {o : Option RB} (h : RbAt K G v o) : Dp K G v (rbO o) := by
  cases o with
  | none =>
    have h : v = .non := h
    rw [h]; exact .non
  | some b => exact h
theorem okD_rbD {m : Nat} {b : RB} {n : Int} (h : Bs30 b n) : okD (m + 2) (rbD b) := by
  refine ⟨by show 4 ≤ 100000; decide, fun x hx => ?_⟩
  simp only [List.mem_cons, List.not_mem_nil, or_false] at hx
  rcases hx with rfl | rfl | rfl | rfl
  · unfold okD; trivial
  · unfold okD; trivial
  · refine ⟨by rw [List.length_map]; have := h.ms; omega, fun x hx => ?_⟩
    obtain ⟨z, _, rfl⟩ := List.mem_map.mp hx
    unfold okD; trivial
  · rw [h.pic]
    refine ⟨by show 2 ≤ 100000; decide, fun x hx => ?_⟩
    simp only [List.mem_cons, List.not_mem_nil, or_false] at hx
    rcases hx with rfl | rfl <;> (unfold okD; trivial)
theorem okD_gotD (n : Nat) (t : Int) (g : Bool) (i : Int) : okD (n + 1) (gotD t g i) := by
  refine ⟨by show 5 ≤ 100000; decide, fun x hx => ?_⟩
  simp only [List.mem_cons, List.not_mem_nil, or_false] at hx
  rcases hx with rfl | rfl | rfl | rfl | rfl <;> (unfold okD; trivial)
theorem okD_rbO {m : Nat} {r : Rpl} (h : I30 r) : okD (m + 2) (rbO r.base) := by
  rcases h.c with z | ⟨b, n0, z⟩
  · rw [z.base]; unfold rbO okD; trivial
  · rw [z.base]; exact okD_rbD z.ok
structure Sm30 (D : D30) : Prop where
  rcs : okD 7 (.list D.rcs)
  ans : okD 5 D.ans
theorem sm30 {r : Rpl} {t : Int} {b : RB} {n : Int} (hb : Bs30 b n) : Sm30 (due30 r t b) := by
  have l1 : (rec1 r t).length ≤ 1 := by unfold rec1; split <;> simp
  have o1 : ∀ d ∈ rec1 r t, okD 6 d := fun d hd => by
    unfold rec1 at hd
    split at hd
    · rw [List.mem_singleton.mp hd]; exact okD_recT _ _ _
    · cases hd
  unfold due30
  split
  · exact ⟨⟨by show 0 ≤ 100000; decide, fun d hd => nomatch hd⟩, okD_gotD _ _ _ _⟩
  split
  · exact ⟨⟨by show (rec1 r t).length ≤ 100000; omega, o1⟩, okD_gotD _ _ _ _⟩
  split
  · refine ⟨⟨?_, fun d hd => ?_⟩, okD_gotD _ _ _ _⟩
    · show (rec1 r t ++ [baseRec b]).length ≤ 100000
      rw [List.length_append]
      simp only [List.length_cons, List.length_nil]
      omega
    · rcases List.mem_append.mp (show d ∈ rec1 r t ++ [baseRec b] from hd) with z | z
      · exact o1 d z
      · rw [List.mem_singleton.mp z]
        refine ⟨by show 3 ≤ 100000; decide, fun x hx => ?_⟩
        simp only [List.mem_cons, List.not_mem_nil, or_false] at hx
        rcases hx with rfl | rfl | rfl
        · unfold okD; trivial
        · unfold okD; trivial
        · exact okD_rbD hb
  · exact ⟨⟨by show (rec1 r t).length ≤ 100000; omega, o1⟩, okD_gotD _ _ _ _⟩
/-! ### _law_agrees -/
abbrev s_law_agrees : Stmt := top 33
abbrev n_law_agrees : List Str := ["part", "due", "answer", "many", "picture", "entry"]
theorem sc_law_agrees : FnScope n_law_agrees ["part", "due"] (defScope s_law_agrees) := ⟨rfl, rfl, rfl, by decide +kernel, rfl, by decide +kernel, by decide +kernel⟩
structure Ag30 where
  a : RepA
  r : Rpl
  D : D30
  z : Nat
  q : Addr
def sp_law_agrees (K : PySem.W.Frag) (C CC : Addr) : Sp := Sg (α := Ag30) (fun x vs M G => vs = [.ref x.a.p, .ref x.q] ∧ RepAt K C CC M G x.a x.r ∧ DuAt30 K G x.q x.D ∧ Af30 x.D x.r x.z ∧ Sm30 x.D) (fun x M _ v M' G' => v = .bl true ∧ M' = M)
theorem ok_law_agrees {P : Program} {w : World} {K : PySem.W.Frag} {mg : Str → Option Value} {base : Heap}
    {C_Counter : Addr} (T_Counter : Tx_Counter K mg C_Counter)
    {C_Replica : Addr} (T_Replica : Tx_Replica K mg C_Replica)
    {f : Addr} {fd : FuncData} (D : Dn K mg "_law_agrees" s_law_agrees ["part", "due"] f fd)
    (b_list : mg "list" = none)
    (b_len : mg "len" = none)
    (c_law_equal : Cal P w K mg base CX0 15 "_law_equal" (spEq K 7))
    (c_Counter_picture : CalM P w K mg base CX0 1 C_Counter "picture" (sp_Counter_picture K C_Counter)) : Cal P w K mg base CX0 16 "_law_agrees" (sp_law_agrees K C_Replica C_Counter) := by
  refine D.ok sc_law_agrees (fun vs H Q E h => ?_) fun cdv A outer s0 H vs Q E hr h => ?_
  · obtain ⟨x, M, G, j, ⟨rfl, _⟩, _⟩ := h; rfl
  obtain ⟨⟨a, r, DD, z, q⟩, M, G, j, ⟨rfl, hR, hD, hA, hs⟩, k⟩ := h
  dsimp only at hR hD hA hs k
  refine ⟨_, (pss_cons (ps_if (PW.pt (pw_or (pt_not (pt_val (pe_cal c_law_equal hr (by first | decide | omega) (by rfl) (pa_cons (pe_fld (pv 0) rfl) (pa_cons (pe_dget (hu_of hr) (pv 1) pe_str (fun _ _ => rfl)) pa_nil))))) (pw_or1 (pt_not (pt_val (pe_cal c_law_equal hr (by first | decide | omega) (by rfl) (pa_cons (pe_fld (pv 0) rfl) (pa_cons (pe_dget (hu_of hr) (pv 1) pe_str (fun _ _ => rfl)) pa_nil))))))))
(pss_one (ps_ret pe_bl))
pss_nil)
(pss_cons (ps_if (PW.pt (pw_or (pt_not (pt_val (pe_cal c_law_equal hr (by first | decide | omega) (by rfl) (pa_cons (pe_callTy (call_listC (K := K) rfl) (by rfl) b_list bt_list (pa_cons (pe_fld (pv 0) rfl) pa_nil)) (pa_cons (pe_dget (hu_of hr) (pv 1) pe_str (fun _ _ => rfl)) pa_nil))))) (pw_or1 (pt_not (pt_val (pe_cal c_law_equal hr (by first | decide | omega) (by rfl) (pa_cons (pe_fld (pv 0) rfl) (pa_cons (pe_dget (hu_of hr) (pv 1) pe_str (fun _ _ => rfl)) pa_nil))))))))
(pss_one (ps_ret pe_bl))
pss_nil)
(pss_cons (ps_if (PW.pt (pw_or (pt_not (pt_val (pe_cal c_law_equal hr (by first | decide | omega) (by rfl) (pa_cons (pe_fld (pv 0) rfl) (pa_cons (pe_dget (hu_of hr) (pv 1) pe_str (fun _ _ => rfl)) pa_nil))))) (pw_or1 (pt_not (pt_val (pe_cal c_law_equal hr (by first | decide | omega) (by rfl) (pa_cons (pe_fld (pv 0) rfl) (pa_cons (pe_dget (hu_of hr) (pv 1) pe_str (fun _ _ => rfl)) pa_nil))))))))
(pss_one (ps_ret pe_bl))
pss_nil)
(pss_cons (ps_if (pt_not (pt_val (pe_cal c_law_equal hr (by first | decide | omega) (by rfl) (pa_cons (pe_callTy (call_listC (K := K) rfl) (by rfl) b_list bt_list (pa_cons (pe_fld (pv 0) rfl) pa_nil)) (pa_cons (pe_dget (hu_of hr) (pv 1) pe_str (fun _ _ => rfl)) pa_nil)))))
(pss_one (ps_ret pe_bl))
pss_nil)
(pss_cons (ps_set (i := 2) sc_law_agrees.nd rfl (Or.inl rfl) (pe_tup (pa_cons pe_int (pa_cons (pe_dget (hu_of hr) (pv 1) pe_str (fun _ _ => rfl)) pa_nil))))
(pss_cons (ps_if (pt_cmp (pc_isN (pe_dget (hu_of hr) (pv 1) pe_str (fun _ _ => rfl))))
(pss_one (ps_ret (pe_and (pe_cal c_law_equal hr (by first | decide | omega) (by rfl) (pa_cons (pe_callTy (call_listC (K := K) rfl) (by rfl) b_list bt_list (pa_cons (pe_fld (pv 0) rfl) pa_nil)) (pa_cons (pe_lst (pa_cons (pv 2) pa_nil)) pa_nil))) (pe_one (pe_cmp (pc_isN (pe_fld (pv 0) rfl)))))))
pss_nil)
(pss_cons (ps_setLc (i := 3) (own := [("entry", 5)]) (by rfl) sc_law_agrees.nd rfl rfl (sw_true rfl rfl rfl (by decide +kernel)) (pi_list (pe_slice (sl_uK (K := K) rfl) (pe_dget (hu_of hr) (pv 1) pe_str (fun _ _ => rfl)) po_none (po_some (pe_op op_sub (pe_dget (hu_of hr) (pv 1) pe_str (fun _ _ => rfl)) (pe_ix (ix_uK (K := K) rfl) (pe_dget (hu_of hr) (pv 1) pe_str (fun _ _ => rfl)) pe_int (fun _ _ => rfl)))))) (blkOk_by (own := [("entry", 5)]) (N := n_law_agrees) (sc := defScope s_law_agrees) (by decide +kernel)) (fun _ _ _ _ _ => (pg_name (i := 5) sc_law_agrees.nd rfl (Or.inl rfl))) (fun _ _ _ _ _ => pts_one (pt_cmpR (op_uEqK (K := K) rfl hr) (pe_ix (ix_uK (K := K) rfl) (pv 5) pe_int (fun _ _ => rfl)) (pe_tup (pa_cons pe_str pa_nil)) (nomark _))) (fun _ _ _ _ _ => (pv 5)))
(pss_cons (ps_set (i := 4) sc_law_agrees.nd rfl (Or.inl rfl) (pe_tup (pa_cons pe_str (pa_cons (pe_op (op_uAddK (K := K) rfl) (pe_ix (ix_uK (K := K) rfl) (pe_ix (ix_uK (K := K) rfl) (pe_dget (hu_of hr) (pv 1) pe_str (fun _ _ => rfl)) pe_int (fun _ _ => rfl)) pe_int (fun _ _ => rfl)) (pe_callB (call_uLenK (K := K) rfl) (by rfl) b_len PySem.boot_len (pa_cons (pv 3) pa_nil))) pa_nil))))
(pss_one (ps_ret (pe_and (pe_cal c_law_equal hr (by first | decide | omega) (by rfl) (pa_cons (pe_callTy (call_listC (K := K) rfl) (by rfl) b_list bt_list (pa_cons (pe_fld (pv 0) rfl) pa_nil)) (pa_cons (pe_lst (pa_cons (pv 2) pa_nil)) pa_nil))) (pe_one (pe_cal c_law_equal hr (by first | decide | omega) (by rfl) (pa_cons (pe_calM0 c_Counter_picture T_Counter.cl hr (by first | decide | omega) (pe_fld (pv 0) rfl)) (pa_cons (pv 4) pa_nil))))))))))))))), ?_⟩
  have hI := hA.inv
  have hle := hI.le
  obtain ⟨bv, lg, lv, rc, rv, gv, hq, hbv, hlg, hlv, hrc, hrv, hgv⟩ := hD
  have lf := dpAll_len hlv
  rw [List.length_map, ← hA.ents] at lf
  walk_at "start"
  (have hop := RepAt.op hR; refine w_fldM j hop T_Replica.cl T_Replica.n_term fl_Replica_term ?_; clear hop; walk_at "go")
  refine w_getXS j (.ofG hq) g30_term ?_
  rw [hA.tm]
  refine use_eq (d := .int DD.tm) j (.int _) (.int _) trivial fun G1 H1 j1 e1 => ?_
  have hR1 := hR.ex e1
  walk_at "go"
  (have hop := RepAt.op hR1; refine w_fldM j1 hop T_Replica.cl T_Replica.n_base fl_Replica_base ?_; clear hop; walk_at "go")
  refine w_getXS j1 (.ofG (e1 _ _ hq)) g30_base ?_
  rw [← hA.base] at hbv
  refine use_eq (d := rbO r.base) j1 hR1.d.b.dp (hbv.ex e1).dp (okD_rbO hI) fun G2 H2 j2 e2 => ?_
  have hR2 := hR1.ex e2
  have E2 := e1.trans e2
  walk_at "go"
  (have hop := RepAt.op hR2; refine w_fldM j2 hop T_Replica.cl T_Replica.n_entries fl_Replica_entries ?_; clear hop; walk_at "go")
  refine w_listC (.inl (sl_of (j2.m _ _ hR2.en))) (w_new j2 (Nat.zero_le _) fun l3 G3 H3 j3 e3 hl3 _ => ?_)
  have hR3 := hR2.ex e3
  have E3 := E2.trans e3
  have hen := hR3.d.en
  rw [hA.ents] at hen
  walk_at "go"
  refine w_getXS j3 (.ofG (E3 _ _ hq)) g30_log ?_
  refine use_eq (d := .list (DD.log.map rnD)) j3 (.lst (sl_of hl3) hen) (.lst (sl_of (E3 _ _ hlg)) (dpAll_mono E3 hlv)) ⟨by rw [List.length_map, ← hA.ents]; omega, fun x hx => by obtain ⟨e, he, rfl⟩ := List.mem_map.mp hx; exact okD_nil (hI.nn e (by rw [hA.ents]; exact he)).ds⟩ fun G4 H4 j4 e4 => ?_
  have hR4 := hR3.ex e4
  have E4 := E3.trans e4
  walk_at "go"
  (have hop := RepAt.op hR4; refine w_fldM j4 hop T_Replica.cl T_Replica.n_committed fl_Replica_committed ?_; clear hop; walk_at "go")
  refine w_getXS j4 (.ofG (E4 _ _ hq)) g30_committed ?_
  rw [hA.cm]
  refine use_eq (d := .int DD.cm) j4 (.int _) (.int _) trivial fun G5 H5 j5 e5 => ?_
  have hR5 := hR4.ex e5
  have E5 := E4.trans e5
  walk_at "go"
  (have hop := RepAt.op hR5; refine w_fldM j5 hop T_Replica.cl T_Replica.n_applied fl_Replica_applied ?_; clear hop; walk_at "go")
  refine w_getXS j5 (.ofG (E5 _ _ hq)) g30_committed ?_
  rw [hA.ap]
  refine use_eq (d := .int DD.cm) j5 (.int _) (.int _) trivial fun G6 H6 j6 e6 => ?_
  have hR6 := hR5.ex e6
  have E6 := E5.trans e6
  walk_at "go"
  (have hop := RepAt.op hR6; refine w_fldM j6 hop T_Replica.cl T_Replica.n_leader fl_Replica_leader ?_; clear hop; walk_at "go")
  refine w_getXS j6 (.ofG (E6 _ _ hq)) g30_leader ?_
  rw [hA.leader]
  refine use_eq (d := oID DD.leader) j6 (dp_oI _) (dp_oI _) (okD_oID _ _) fun G7 H7 j7 e7 => ?_
  have hR7 := hR6.ex e7
  have E7 := E6.trans e7
  walk_at "go"
  (have hop := RepAt.op hR7; refine w_fldM j7 hop T_Replica.cl T_Replica.n_records fl_Replica_records ?_; clear hop; walk_at "go")
  refine w_listC (.inl (sl_of (j7.m _ _ hR7.o_rc))) (w_new j7 (Nat.zero_le _) fun l6 G8 H8 j8 e8 hl6 _ => ?_)
  have hR8 := hR7.ex e8
  have E8 := E7.trans e8
  have hrd := hR8.d.rc
  rw [hA.rcs] at hrd
  walk_at "go"
  refine w_getXS j8 (.ofG (E8 _ _ hq)) g30_records ?_
  refine use_eq (d := .list DD.rcs) j8 (.lst (sl_of hl6) hrd) (.lst (sl_of (E8 _ _ hrc)) (dpAll_mono E8 hrv)) hs.rcs fun G9 H9 j9 e9 => ?_
  have hR9 := hR8.ex e9
  have E9 := E8.trans e9
  walk_at "go"
  refine w_getXS j9 (.ofG (E9 _ _ hq)) g30_answer ?_
  walk_at "go"
  refine w_new j9 (by show 2 ≤ sizeLine; decide) fun t1 G10 H10 j10 e10 ht1 _ => ?_
  have hR10 := hR9.ex e10
  have E10 := E9.trans e10
  have okl : okD 7 (.list [.tuple [.int 2, DD.ans]]) := ⟨by show 1 ≤ 100000; decide, fun x hx => by
    rw [List.mem_singleton.mp hx]
    refine ⟨by show 2 ≤ 100000; decide, fun x hx => ?_⟩
    simp only [List.mem_cons, List.not_mem_nil, or_false] at hx
    rcases hx with rfl | rfl
    · unfold okD; trivial
    · exact hs.ans⟩
  walk_at "go"
  refine w_getXS j10 (.ofG (E10 _ _ hq)) g30_base ?_
  rcases hI.c with zb | ⟨b, n0, zb⟩
  · have hv : bv = .non := by rw [zb.base] at hbv; exact hbv
    rw [hv]
    walk_at "go"
    rw [show decide (V.non = V.non) = true from decide_eq_true rfl]
    walk_at "go"
    (have hop := RepAt.op hR10; refine w_fldM j10 hop T_Replica.cl T_Replica.n_letters fl_Replica_letters ?_; clear hop; walk_at "go")
    refine w_listC (.inl (sl_of (j10.m _ _ hR10.o_lt))) (w_new j10 (Nat.zero_le _) fun l7 G11 H11 j11 e11 hl7 _ => ?_)
    walk_at "go"
    refine w_new j11 (by show 1 ≤ sizeLine; decide) fun l8 G12 H12 j12 e12 hl8 _ => ?_
    have hR12 := hR10.ex (e11.trans e12)
    have E12 := E10.trans (e11.trans e12)
    have hld := hR12.d.lt
    rw [hA.lt] at hld
    walk_at "go"
    refine use_eq (d := .list [.tuple [.int 2, DD.ans]]) j12 (.lst (sl_of (e12 _ _ hl7)) hld) (.lst (sl_of hl8) (.cons (.tup (st_of ((e11.trans e12) _ _ ht1)) (.cons (.int _) (.cons (dp_mono E12 hgv) .nil))) .nil)) okl fun G13 H13 j13 e13 => ?_
    have hR13 := hR12.ex e13
    walk_at "go"
    (have hop := RepAt.op hR13; refine w_fldM j13 hop T_Replica.cl T_Replica.n_state fl_Replica_state ?_; clear hop; walk_at "go")
    have hst := hR13.d.s
    rw [zb.st] at hst
    have hst : a.sv = .non ∧ _ := hst
    rw [hst.1, show decide (V.non = V.non) = true from decide_eq_true rfl]
    exact k _ _ _ _ j13 (E12.trans e13) ⟨rfl, rfl⟩
  have hbd : Dp K G bv (rbD b) := by rw [zb.base] at hbv; exact hbv
  obtain ⟨bq, bm, bx, rfl, hbq, hbm, hbx⟩ := dp_rb hbd
  rw [zb.ok.pic] at hbx
  obtain ⟨xa, xs0, rfl, hxa, hxs⟩ := dp_tup hbx
  obtain ⟨y1, ys1, rfl, hy1, hxs1⟩ := dpAll_consE hxs
  obtain ⟨y2, ys2, rfl, hy2, hxs2⟩ := dpAll_consE hxs1
  obtain rfl := dpAll_nilE hxs2
  obtain rfl := dp_intE hy2
  rw [show decide (V.ref bq = V.non) = false from decide_eq_false fun z => nomatch z]
  obtain ⟨c, hc⟩ := Int.eq_ofNat_of_zero_le (show 0 ≤ r.cm - b.i by have := zb.cb1; omega)
  have hcl : c ≤ r.ents.length := by have := zb.cb2; omega
  have hst : r.st = some (.cnt (n0 + nxs (r.ents.take c))) := by
    have := zb.st
    unfold StG at this
    rw [this, zb.ap, hc, Int.toNat_natCast]
  have hcm : DD.cm - b.i = (c : Int) := by rw [← hA.cm]; exact hc
  rw [← hA.ents] at hlv
  walk_at "go"
  refine w_getXS j10 (.ofG (E10 _ _ hq)) g30_log ?_
  walk_at "go"
  refine w_getXS j10 (.ofG (E10 _ _ hq)) g30_committed ?_
  walk_at "go"
  refine w_getXS j10 (.ofG (E10 _ _ hq)) g30_base ?_
  walk_at "go"
  refine w_ixT j10 (st_mono E10 hbq) atI_0 ?_
  walk_at "go"
  rw [hcm]
  refine w_slL j10 (sl_of (E10 _ _ hlg)) (w_new j10 (Nat.zero_le _) fun l4 G11 H11 j11 e11 hl4 _ => ?_)
  rw [cutV_to] at hl4
  have E11 := E10.trans e11
  have hdt : DpAll K G11 (lv.take c) ((r.ents.take c).map rnD) := by
    rw [List.map_take]
    exact dpAll_mono E11 (dpAll_take c hlv)
  have ltk := dpAll_len hdt
  rw [List.length_map] at ltk
  refine w_lcLro j11 (sl_of hl4) (fun i acc _ => acc.length = nxs ((r.ents.take c).take i)) rfl ?_ ?_
  · rintro L3 i x acc G12 H12 hx nM8 j8 e8 hacc
    have il : i < (r.ents.take c).length := by have := (List.getElem?_eq_some_iff.mp hx).1; omega
    have hee : (r.ents.take c)[i]? = some (r.ents.take c)[i] := List.getElem?_eq_getElem il
    obtain ⟨x', hx', hxd⟩ := dpAll_at (dpAll_mono e8 hdt) (i := i) (d := rnD (r.ents.take c)[i]) (by rw [List.getElem?_map, hee]; rfl)
    rw [hx] at hx'
    obtain rfl := Option.some.inj hx'
    have hed : NnE ((r.ents.take c)[i]) := hI.nn _ (List.mem_of_mem_take (List.getElem_mem il))
    have bnd : nxs ((r.ents.take c).take i) ≤ 900 := by
      unfold nxs
      refine Nat.le_trans (List.length_filter_le _ _) ?_
      rw [List.length_take, List.length_take]
      omega
    generalize (r.ents.take c)[i] = ee at *
    obtain ⟨ea, cx, rfl, hea, hcx⟩ := dp_rn hxd
    refine w_gName ⟨rfl, ?_⟩
    walk_at "go"
    refine w_ixT j8 hea (atI_nat (j := 1) rfl) ?_
    walk_at "go"
    refine w_new j8 (by show 1 ≤ sizeLine; decide) fun nq G9 H9 j9 e9 hnq _ => ?_
    refine .inr ⟨rcD ee.c, .tuple [.str "next"], dp_mono (e9.trans j9.g) hcx, .tup (st_of (j9.g _ _ hnq)) (.cons (.str _) .nil), shaped_nil hed, by simp [SeqAt.shaped, PyData.depth, PyData.depthAll, PyData.canLay0, PyData.canLayAll0]; decide +kernel, ?_⟩
    rw [eqv_next hed.ds]
    refine ⟨_, rfl, ?_⟩
    cases hb : isNx ee.c with
    | true =>
      walk_at "go"
      refine ro_add j9 (e8.trans e9) (by omega) ?_
      rw [List.length_append, hacc, List.take_add_one, hee]
      unfold nxs
      rw [List.filter_append, List.length_append]
      show _ + 1 = _ + (List.filter (fun e => isNx e.c) [ee]).length
      rw [List.filter_cons, if_pos hb]; rfl
    | false =>
      rw [if_neg Bool.false_ne_true]
      refine ro_skip j9 (e8.trans e9) ?_
      rw [hacc, List.take_add_one, hee]
      unfold nxs
      rw [List.filter_append, List.length_append]
      show _ = _ + (List.filter (fun e => isNx e.c) [ee]).length
      rw [List.filter_cons, if_neg (by rw [hb]; exact Bool.false_ne_true)]; rfl
  rintro L4 acc G12 G13 H13 j13 e12 e13 hL4 hacc
  rw [ltk, List.take_length] at hacc
  have E13 := E11.trans (e12.trans e13)
  have hR13 := hR.ex E13
  walk_at "go"
  refine w_getXS j13 (.ofG (E13 _ _ hq)) g30_base ?_
  walk_at "go"
  refine w_ixT j13 (st_mono E13 hbq) (atI_nat (j := 3) rfl) ?_
  walk_at "go"
  refine w_ixT j13 (st_mono E13 hxa) (atI_nat (j := 1) rfl) ?_
  walk_at "go"
  refine w_lenL j13 (sl_of hL4) ?_
  rw [hacc]
  walk_at "go"
  refine w_new j13 (by show 2 ≤ sizeLine; decide) fun cq G14 H14 j14 e14 hcq _ => ?_
  have hR14 := hR13.ex e14
  have E14 := E13.trans e14
  walk_at "go"
  (have hop := RepAt.op hR14; refine w_fldM j14 hop T_Replica.cl T_Replica.n_letters fl_Replica_letters ?_; clear hop; walk_at "go")
  refine w_listC (.inl (sl_of (j14.m _ _ hR14.o_lt))) (w_new j14 (Nat.zero_le _) fun l7 G15 H15 j15 e15 hl7 _ => ?_)
  walk_at "go"
  refine w_new j15 (by show 1 ≤ sizeLine; decide) fun l8 G16 H16 j16 e16 hl8 _ => ?_
  have hR16 := hR14.ex (e15.trans e16)
  have E16 := E14.trans (e15.trans e16)
  have hld := hR16.d.lt
  rw [hA.lt] at hld
  walk_at "go"
  refine use_eq (d := .list [.tuple [.int 2, DD.ans]]) j16 (.lst (sl_of (e16 _ _ hl7)) hld) (.lst (sl_of hl8) (.cons (.tup (st_of ((e11.trans (e12.trans (e13.trans (e14.trans (e15.trans e16))))) _ _ ht1)) (.cons (.int _) (.cons (dp_mono E16 hgv) .nil))) .nil)) okl fun G17 H17 j17 e17 => ?_
  have hR17 := hR16.ex e17
  have E17 := E16.trans e17
  walk_at "go"
  (have hop := RepAt.op hR17; refine w_fldM j17 hop T_Replica.cl T_Replica.n_state fl_Replica_state ?_; clear hop; walk_at "go")
  obtain ⟨s, dx, q1, q2, q3, q4⟩ := hR17.o_st hst
  rw [q3]
  refine w_methM j17 q4 (no_Counter (by decide +kernel)) ?_
  walk_at "go"
  refine w_sg (s, dx, n0 + ((nxs (r.ents.take c) : Nat) : Int)) j17 ⟨rfl, q4⟩ fun v M18 G18 H18 j18 e18 ⟨⟨t, ev, ht⟩, em⟩ => ?_
  subst ev em
  walk_at "go"
  refine use_eq (d := cntD (n0 + ((nxs (r.ents.take c) : Nat) : Int))) j18 (.tup (st_of ht) (.cons (.str _) (.cons (.int _) .nil))) (.tup (st_of ((e15.trans (e16.trans (e17.trans e18))) _ _ hcq)) (.cons (.str _) (.cons (.int _) .nil))) ⟨by show 2 ≤ 100000; decide, fun x hx => by
    simp only [List.mem_cons, List.not_mem_nil, or_false] at hx
    rcases hx with rfl | rfl <;> trivial⟩ fun G19 H19 j19 e19 => ?_
  exact k _ _ _ _ j19 (E17.trans (e18.trans e19)) ⟨rfl, rfl⟩
/-! ### a new replica beside what stands -/
theorem made_sr {K : PySem.W.Frag} {C CC : Addr} {M M' G G' : Hp} {p x dx : Addr} {r : Rpl} (d : Dr K M G p) (nx : M x = none) (e : Ex G G') (h : MadeR K C CC (upd M x (.ins C dx [])) x M' G' r) : ∃ a, a.p = x ∧ SR K C CC M' G' p a r ∧ (∀ b o, M b = some o → M' b = some o) := by
  obtain ⟨a, hR, pe, kp, nw⟩ := h
  have kp0 : ∀ b o, M b = some o → M' b = some o := fun b o e => kp b o (upd_ne' e (ne_of_none e nx)) (ne_of_none e nx)
  have nw0 : ∀ b ∈ a.cells, M b = none := fun b m => by
    rcases nw b m with z | z
    · rw [z]; exact nx
    · by_cases q : b = x
      · rw [q]; exact nx
      · rw [upd_ne q] at z; exact z
  obtain ⟨xs, hx⟩ := d.atR
  exact ⟨a, pe, ⟨(d.ex e).mvR fun o ho => kp0 p o ho, hR, fun m => by rw [nw0 p m] at hx; cases hx⟩, kp0⟩
def sp_law (K : PySem.W.Frag) : Sp := fun vs H Q _ => ∃ (a : Addr) (ns : List Int), vs = [.ref a] ∧ SqL K H a (ns.map V.int) ∧ ns.length ≤ 63 ∧ ∀ H', Q (.bl true) H'
/-! ### law -/
abbrev s_law : Stmt := top 34
abbrev n_law : List Str := ["script", "draws", "part", "k", "term", "letter", "due", "index"]
theorem sc_law : FnScope n_law ["script"] (defScope s_law) := ⟨rfl, rfl, rfl, by decide +kernel, rfl, by decide +kernel, by decide +kernel⟩
theorem ok_law {P : Program} {w : World} {K : PySem.W.Frag} {mg : Str → Option Value} {base : Heap}
    {C_Replica : Addr} (T_Replica : Tx_Replica K mg C_Replica)
    {C_Counter : Addr} (T_Counter : Tx_Counter K mg C_Counter)
    {f : Addr} {fd : FuncData} (D : Dn K mg "law" s_law ["script"] f fd)
    (b_len : mg "len" = none)
    (b_range : mg "range" = none)
    (b_max : mg "max" = none)
    (c_law_equal : Cal P w K mg base CX0 15 "_law_equal" (spEq K 7))
    (c_Replica_last_index : CalP P w K mg base CX0 1 C_Replica "last_index" (sp_Replica_last_index K C_Replica C_Counter))
    (c_Replica_take : CalM P w K mg base CX0 11 C_Replica "take" (sp_Replica_take K C_Replica C_Counter))
    (c_law_draw : Cal P w K mg base CX0 2 "_law_draw" (sp_law_draw K))
    (c_Replica_members : CalP P w K mg base CX0 4 C_Replica "members" (sp_Replica_members K C_Replica C_Counter))
    (c_law_agrees : Cal P w K mg base CX0 16 "_law_agrees" (sp_law_agrees K C_Replica C_Counter))
    (c_law_based : Cal P w K mg base CX0 3 "_law_based" (sp_law_based K C_Replica C_Counter))
    (c_law_letter : Cal P w K mg base CX0 3 "_law_letter" (sp_law_letter K C_Replica C_Counter))
    (c_Replica___init__ : CalI P w K mg base CX0 5 C_Replica (sp_Replica___init__ K C_Replica C_Counter))
    (c_law_follower : Cal P w K mg base CX0 12 "_law_follower" (sp_law_follower K C_Replica C_Counter))
    (c_law_numbers : Cal P w K mg base CX0 2 "_law_numbers" (sp_law_numbers K)) : FnOk P w K mg base CX0 17 f fd ["script"] (sp_law K) := by
  refine D.fn.ok sc_law (fun vs H Q E h => ?_) fun cdv A0 outer s H vs Q E hr h => ?_
  · obtain ⟨a, ns, rfl, _⟩ := h; rfl
  obtain ⟨sc, ns, rfl, ha, hl, k⟩ := h
  have j := J.start H
  refine ⟨_, (pss_cons (ps_set (i := 1) sc_law.nd rfl (Or.inl rfl) (pe_lst (pa_cons (pe_cal c_law_numbers hr (by first | decide | omega) (by rfl) (pa_cons (pv 0) pa_nil)) (pa_cons pe_int pa_nil))))
(pss_cons (ps_set (i := 2) sc_law.nd rfl (Or.inl rfl) (pe_cal c_law_follower hr (by first | decide | omega) (by rfl) (pa_cons (pv 1) pa_nil)))
(pss_cons (ps_if (pt_cmpR (op_uEqK (K := K) rfl hr) (pe_op op_mod (pe_cal c_law_draw hr (by first | decide | omega) (by rfl) (pa_cons (pv 1) pa_nil)) pe_int) pe_int (nomark _))
(pss_one (ps_set (i := 2) sc_law.nd rfl (Or.inl rfl) (pe_calI c_Replica___init__ T_Replica.gC hr (by first | decide | omega) (by rfl) (pa_cons pe_int (pa_cons pe_int (pa_cons pe_non pa_nil))))))
pss_nil)
(pss_cons (ps_for PassesOwn.never rfl (pi_range1 (by rfl) b_range (pa_cons (pe_op (op_uAddK (K := K) rfl) pe_int (pe_op op_mod (pe_cal c_law_draw hr (by first | decide | omega) (by rfl) (pa_cons (pv 1) pa_nil)) pe_int)) pa_nil)) (pg_name (i := 3) sc_law.nd rfl (Or.inl rfl))
(pss_cons (ps_set (i := 4) sc_law.nd rfl (Or.inl rfl) (pe_callB (call_max2 rfl) (by rfl) b_max bt_max (pa_cons pe_int (pa_cons (pe_op (op_uAddK (K := K) rfl) (pe_fld (pv 2) rfl) (pe_ix (ix_uK (K := K) rfl) (pe_lst (pa_cons pe_int (pa_cons pe_int (pa_cons pe_int (pa_cons pe_int (pa_cons (pe_un un_neg pe_int) pa_nil)))))) (pe_op op_mod (pe_cal c_law_draw hr (by first | decide | omega) (by rfl) (pa_cons (pv 1) pa_nil)) pe_int) (fun _ _ => rfl))) pa_nil))))
(pss_cons (ps_set (i := 5) sc_law.nd rfl (Or.inl rfl) (pe_cal c_law_letter hr (by first | decide | omega) (by rfl) (pa_cons (pv 1) (pa_cons (pv 2) (pa_cons (pv 4) pa_nil)))))
(pss_cons (ps_set (i := 6) sc_law.nd rfl (Or.inl rfl) (pe_cal c_law_based hr (by first | decide | omega) (by rfl) (pa_cons (pv 2) (pa_cons (pv 5) pa_nil))))
(pss_cons (ps_expr (pe_calM c_Replica_take T_Replica.cl hr (by first | decide | omega) (pv 2) (pa_cons pe_int (pa_cons (pv 5) pa_nil))))
(pss_cons (ps_if (pt_not (pt_val (pe_cal c_law_agrees hr (by first | decide | omega) (by rfl) (pa_cons (pv 2) (pa_cons (pv 6) pa_nil)))))
(pss_one (ps_ret pe_bl))
pss_nil)
(pss_cons (ps_if (PW.pt (pw_and (pt_cmp (pc_notN (pe_dget (hu_of hr) (pv 6) pe_str (fun _ _ => rfl)))) (pw_and1 (pt_not (pt_val (pe_cal c_law_equal hr (by first | decide | omega) (by rfl) (pa_cons (pe_calP c_Replica_members T_Replica.cl hr (by first | decide | omega) (pv 2) (by rfl)) (pa_cons (pe_ix (ix_uK (K := K) rfl) (pe_dget (hu_of hr) (pv 6) pe_str (fun _ _ => rfl)) pe_int (fun _ _ => rfl)) pa_nil))))))))
(pss_one (ps_ret pe_bl))
pss_nil)
(pss_cons (ps_expr (pe_bm0 PySem.F.plainAttrs_list PySem.F.slot_list_clear PySem.F.type_list_clear mt_clear (pe_fld (pv 2) rfl)))
(pss_cons (ps_expr (pe_bm0 PySem.F.plainAttrs_list PySem.F.slot_list_clear PySem.F.type_list_clear mt_clear (pe_fld (pv 2) rfl)))
(pss_one (ps_expr (pe_bm0 PySem.F.plainAttrs_list PySem.F.slot_list_clear PySem.F.type_list_clear mt_clear (pe_fld (pv 2) rfl)))))))))))))
(pss_cons (ps_if (pt_cmp (pc_isN (pe_fld (pv 2) rfl)))
(pss_one (ps_ret pe_bl))
pss_nil)
(pss_cons (ps_set (i := 7) sc_law.nd rfl (Or.inl rfl) (pe_calP c_Replica_last_index T_Replica.cl hr (by first | decide | omega) (pv 2) (by rfl)))
(pss_cons (ps_set (i := 4) sc_law.nd rfl (Or.inl rfl) (pe_ix (ix_uK (K := K) rfl) (pe_fld (pv 2) rfl) pe_int (fun _ _ => rfl)))
(pss_cons (ps_if (pt_cmpR op_gt (pe_callB (call_uLenK (K := K) rfl) (by rfl) b_len PySem.boot_len (pa_cons (pe_fld (pv 2) rfl) pa_nil)) pe_int (nomark _))
(pss_one (ps_set (i := 4) sc_law.nd rfl (Or.inl rfl) (pe_ix (ix_uK (K := K) rfl) (pe_ix (ix_uK (K := K) rfl) (pe_fld (pv 2) rfl) (pe_op op_sub (pe_callB (call_uLenK (K := K) rfl) (by rfl) b_len PySem.boot_len (pa_cons (pe_fld (pv 2) rfl) pa_nil)) pe_int) (fun _ _ => rfl)) pe_int (fun _ _ => rfl))))
pss_nil)
(pss_cons (ps_expr (pe_calM c_Replica_take T_Replica.cl hr (by first | decide | omega) (pv 2) (pa_cons pe_int (pa_cons (pe_tup (pa_cons pe_str (pa_cons pe_int (pa_cons (pe_fld (pv 2) rfl) (pa_cons (pv 7) (pa_cons (pv 4) (pa_cons (pe_tup (pa_cons (pe_tup (pa_cons (pe_fld (pv 2) rfl) (pa_cons (pe_tup (pa_cons pe_str pa_nil)) pa_nil))) pa_nil)) (pa_cons (pe_op (op_uAddK (K := K) rfl) (pv 7) pe_int) pa_nil)))))))) pa_nil))))
(pss_one (ps_ret (pe_and (pe_cal c_law_equal hr (by first | decide | omega) (by rfl) (pa_cons (pe_calP c_Replica_last_index T_Replica.cl hr (by first | decide | omega) (pv 2) (by rfl)) (pa_cons (pe_op (op_uAddK (K := K) rfl) (pv 7) pe_int) pa_nil))) (pe_one (pe_cal c_law_equal hr (by first | decide | omega) (by rfl) (pa_cons (pe_fld (pv 2) rfl) (pa_cons (pe_op (op_uAddK (K := K) rfl) (pv 7) pe_int) pa_nil)))))))))))))))), ?_⟩
  walk_at "start"
  refine w_sg (sc, ns) j ⟨rfl, ha, hl⟩ fun v M1 G1 H1 j1 e1 ⟨q, nums, ev, hq, hn, em⟩ => ?_
  subst ev em
  walk_at "go"
  refine w_newM j1 (by show 2 ≤ sizeLine; decide) fun p H2 j2 nM nG => ?_
  walk_at "go"
  have d2 : Dr K (upd (fun _ => none) p (.lst [.ref q, .int 0])) G1 p := ⟨q, nums, 0, upd_same, sl_of hq, hn, Int.le_refl _⟩
  have nt2 : NoT (upd (fun _ => none) p (.lst [.ref q, .int 0])) := NoT.emp.updL
  generalize upd (fun _ => none) p (.lst [.ref q, .int 0]) = M2 at *
  refine w_sg (α := Addr) p j2 ⟨rfl, d2, nt2⟩ fun v M3 G3 H3 j3 e3 ⟨a3, r3, es, t, c3, ev, hS3, hF3, hE3, hdu3, hlt3, hrc3, hle3, hvo3, hvt3, hz3⟩ => ?_
  subst ev
  have hI3 : I30 r3 := hF3.i30 (fun e he => .inl (hE3.c e he).1) (by have := hE3.len; omega)
  walk_at "to"
  refine w_seqO (fun σ H => ∃ M G a r, J M G H ∧ SR K C_Replica C_Counter M G p a r ∧ I30 r ∧ r.records = [] ∧ r.letters = [] ∧ r.sz ≤ 100 ∧ σ = [some (.ref sc), some (.ref p), some (.ref a.p), none, none, none, none, none]) ?_ fun N hN => ?_
  rotate_left
  · walk_at "go"
    refine use_draw j3 hS3.dr fun n4 M4 G4 H4 _ _ j4 e4 d4 a4 => ?_
    have hS4 := hS3.draw e4 d4 a4
    walk_at "go"
    refine w_dec (fun c => ?_) (fun c => ?_)
    rotate_left
    · walk_at "go"
      exact hN _ _ ⟨M4, G4, a3, r3, j4, hS4, hI3, hrc3, hlt3, by omega, rfl⟩
    walk_at "go"
    refine w_makeX j4 fun x dx H5 j5 nx gx => ?_
    refine w_sg (α := IrP) ⟨x, dx, 1, 0, .non, none, 0⟩ j5 ⟨rfl, upd_same, hS4.rp.nt.updI, rfl, fun b hb => nomatch hb⟩ fun v M6 G6 H6 j6 e6 ⟨ev, hm⟩ => ⟨ev, ?_⟩
    obtain ⟨a6, p6, hS6, _⟩ := made_sr hS4.dr nx e6 hm
    have hI6 := i30_blank
    have hr6 : (initR 1 0 none 0).records = [] ∧ (initR 1 0 none 0).letters = [] ∧ (initR 1 0 none 0).sz = 0 := ⟨rfl, rfl, rfl⟩
    dsimp only at hS6
    generalize initR 1 0 none 0 = r6 at hS6 hI6 hr6
    walk_at "go"
    exact hN _ _ ⟨M6, G6, a6, r6, j6, hS6, hI6, hr6.1, hr6.2.1, by omega, by rw [p6]; rfl⟩
  clear hS3 hF3 hE3 hdu3 hlt3 hrc3 hle3 hvo3 hvt3 hz3 j3 hI3
  rintro σ H ⟨M4, G4, a4, r4, j4, hS4, hI4, hrc4, hlt4, hz4, rfl⟩
  walk_at "to"
  refine w_seqO (fun σ H => ∃ M G a r x3 x4 x5 x6, J M G H ∧ SR K C_Replica C_Counter M G p a r ∧ I30 r ∧ r.records = [] ∧ r.letters = [] ∧ r.sz ≤ 1000 ∧ σ = [some (.ref sc), some (.ref p), some (.ref a.p), x3, x4, x5, x6, none]) ?_ fun N hN => ?_
  rotate_left
  · walk_at "go"
    refine use_draw j4 hS4.dr fun n8 M8 G8 H8 _ _ j8 e8 d8 a8 => ?_
    have hS8 := hS4.draw e8 d8 a8
    walk_at "go"
    refine w_rng (fun i σ H => ∃ M G a r x3 x4 x5 x6, J M G H ∧ SR K C_Replica C_Counter M G p a r ∧ I30 r ∧ r.records = [] ∧ r.letters = [] ∧ r.sz ≤ 100 + 60 * i ∧ a.p = a4.p ∧ σ = [some (.ref sc), some (.ref p), some (.ref a4.p), x3, x4, x5, x6, none]) ⟨M8, G8, a4, r4, _, _, _, _, j8, hS8, hI4, hrc4, hlt4, by omega, rfl, rfl⟩ ?_ ?_ (by omega) (by omega)
    rotate_left
    · rintro σ H ⟨M, G, a, r, x3, x4, x5, x6, j, hS, hI, hrc, hlt, hz, pe, rfl⟩
      walk_at "go"
      exact hN _ _ ⟨M, G, a, r, x3, x4, x5, x6, j, hS, hI, hrc, hlt, by omega, by rw [pe]⟩
    rintro i σ H hi ⟨M, G, a, r, x3, x4, x5, x6, j, hS, hI, hrc, hlt, hz, pe, rfl⟩
    have hi4 : i < 4 := by omega
    rw [← pe]
    walk_at "go"
    (have hop := RepAt.op hS.rp; refine w_fldM j hop T_Replica.cl T_Replica.n_term fl_Replica_term ?_; clear hop; walk_at "go")
    walk_at "go"
    refine w_new j (by show 5 ≤ sizeLine; decide) fun l5 G1 H1 j1 e1 hl5 _ => ?_
    have hS1 := hS.ex e1
    walk_at "go"
    refine use_draw j1 hS1.dr fun n2 M2 G2 H2 _ _ j2 e2 d2 a2 => ?_
    have hS2 := hS1.draw e2 d2 a2
    obtain ⟨dd, hdd⟩ : ∃ dd : Int, atI [V.int 0, V.int 0, V.int 1, V.int 1, V.int (-1)] (n2 % 5) = some (.int dd) := by
      rcases (show n2 % 5 = 0 ∨ n2 % 5 = 1 ∨ n2 % 5 = 2 ∨ n2 % 5 = 3 ∨ n2 % 5 = 4 by omega) with z | z | z | z | z
      · exact ⟨0, by rw [z]; rfl⟩
      · exact ⟨0, by rw [z]; rfl⟩
      · exact ⟨1, by rw [z]; rfl⟩
      · exact ⟨1, by rw [z]; rfl⟩
      · exact ⟨-1, by rw [z]; rfl⟩
    walk_at "go"
    refine w_ixL j2 (sl_of (e2 _ _ hl5)) hdd ?_
    walk_at "go"
    refine ⟨_, _, rfl, ?_⟩
    generalize (if r.term + dd > 1 then r.term + dd else 1) = tm
    walk_at "go"
    refine w_sg (α := Lt30) ⟨p, a, r, tm⟩ j2 ⟨rfl, hS2, hI⟩ fun v M3 G3 H3 j3 e3 ⟨hS3, b, n, hlv, hb⟩ => ?_
    dsimp only at hS3 hlv
    walk_at "go"
    refine w_sg (α := Bs30P) ⟨a, r, v, tm, b, n⟩ j3 ⟨rfl, hS3.rp, hI, hlv⟩ fun v2 M4 G4 H4 j4 e4 ⟨em, dq, ev, hdu⟩ => ?_
    subst ev em
    have hS4 := hS3.ex e4
    dsimp only at hdu
    have hlv4 := hlv.ex e4
    have hA := hI.base hrc hlt (t := tm) hb
    have hsm := sm30 (r := r) (t := tm) hb
    generalize due30 r tm b = DD at *
    walk_at "go"
    (have hop := RepAt.op hS4.rp; refine w_methM j4 hop (no_Replica (by decide +kernel) (by decide +kernel) (by decide +kernel) (by decide +kernel) (by decide +kernel) (by decide +kernel) (by decide +kernel) (by decide +kernel) (by decide +kernel) (by decide +kernel) (by decide +kernel) (by decide +kernel) (by decide +kernel) (by decide +kernel) (by decide +kernel) (by decide +kernel) (by decide +kernel) (by decide +kernel) (by decide +kernel) (by decide +kernel) (by decide +kernel)) ?_; clear hop; walk_at "go")
    refine w_sg (α := TkP) ⟨a, r, 2, v, tm, .base b n, baseN 3⟩ j4 ⟨rfl, hS4.rp, hlv4, hI.run, by dsimp only; omega⟩ fun v3 M5 G5 H5 j5 e5 ⟨ev, a5, hR5⟩ => ?_
    obtain ⟨r5, hr5⟩ : ∃ r5, r5 = takeLv r 2 tm (.base b n) := ⟨_, rfl⟩
    obtain ⟨a5, p5, hR5⟩ := hR5.pack (p := a.p) hr5 hR5.f.pe
    rw [← hr5] at hA
    have hS5 := hS4.rep e5 hR5
    have hI5 := hA.inv
    have hle5 := hI5.le
    have hdu5 := hdu.ex e5
    rw [← p5]
    walk_at "go"
    refine w_sg (α := Ag30) ⟨a5, r5, DD, _, dq⟩ j5 ⟨rfl, hS5.rp, hdu5, hA, hsm⟩ fun v4 M6 G6 H6 j6 e6 ⟨ev, em⟩ => ?_
    subst ev em
    have hS6 := hS5.ex e6
    have hdu6 := hdu5.ex e6
    obtain ⟨bv, lg, lw, rc, rv, av, hdq, hbv, _, _, _, _, _⟩ := hdu6
    rw [← hA.base] at hbv
    walk_at "to"
    refine w_seqO (fun σ H' => ∃ G', J M6 G' H' ∧ Ex G6 G' ∧ σ = [some (.ref sc), some (.ref p), some (.ref a5.p), some (.int i), some (.int tm), some v, some (.ref dq), none]) ?_ fun N2 hN2 => ?_
    rotate_left
    · walk_at "go"
      refine w_getXS j6 (.ofG hdq) g30_base ?_
      rcases hI5.c with zb | ⟨b5, n5, zb⟩
      · have hv : bv = .non := by rw [zb.base] at hbv; exact hbv
        rw [hv]
        walk_at "go"
        rw [show decide (V.non = V.non) = true from decide_eq_true rfl]
        walk_at "go"
        exact hN2 _ _ ⟨G6, j6, Same.refl _, rfl⟩
      have hbd : Dp K G6 bv (rbD b5) := by rw [zb.base] at hbv; exact hbv
      obtain ⟨bq, bm, bx, rfl, hbq, hbm, hbx⟩ := dp_rb hbd
      walk_at "go"
      rw [show decide (V.ref bq = V.non) = false from decide_eq_false fun z => nomatch z]
      walk_at "go"
      (have hop := RepAt.op hS6.rp; refine w_propM j6 hop ?_; clear hop)
      refine w_sg (α := RepA × Rpl) (a5, r5) j6 ⟨rfl, hS6.rp, hI5.okR, by dsimp only; omega⟩ fun v5 M7 G7 H7 j7 e7 ⟨em, hmd⟩ => ?_
      subst em
      dsimp only at hmd
      rw [hI5.mem zb.base] at hmd
      walk_at "go"
      refine w_getXS j7 (.ofG (e7 _ _ hdq)) g30_base ?_
      walk_at "go"
      refine w_ixT j7 (st_mono e7 hbq) (atI_nat (j := 2) rfl) ?_
      walk_at "go"
      refine use_eq (d := intsD b5.ms) j7 hmd (dp_intsT (st_mono e7 hbm)) ⟨by rw [List.length_map]; have := zb.ok.ms; omega, fun x hx => by obtain ⟨z, _, rfl⟩ := List.mem_map.mp hx; unfold okD; trivial⟩ fun G8 H8 j8 e8 => ?_
      walk_at "go"
      exact hN2 _ _ ⟨G8, j8, e7.trans e8, rfl⟩
    rintro σ H' ⟨G7, j7, e7, rfl⟩
    have hS7 := hS6.ex e7
    walk_at "go"
    (have hop := RepAt.op hS7.rp; refine w_fldM j7 hop T_Replica.cl T_Replica.n_records fl_Replica_records ?_; clear hop; walk_at "go")
    refine ⟨ty_listM j7 hS7.rp.o_rc, ?_⟩
    refine w_clear j7 hS7.rp.o_rc fun H8 j8 => ?_
    have hS8 := hS7.rep (Same.refl _) hS7.rp.s.c_rc
    walk_at "go"
    (have hop := RepAt.op hS8.rp; refine w_fldM j8 hop T_Replica.cl T_Replica.n_letters fl_Replica_letters ?_; clear hop; walk_at "go")
    refine ⟨ty_listM j8 hS8.rp.o_lt, ?_⟩
    refine w_clear j8 hS8.rp.o_lt fun H9 j9 => ?_
    have hS9 := hS8.rep (Same.refl _) hS8.rp.s.c_lt
    walk_at "go"
    (have hop := RepAt.op hS9.rp; refine w_fldM j9 hop T_Replica.cl T_Replica.n_ledger fl_Replica_ledger ?_; clear hop; walk_at "go")
    refine ⟨ty_listM j9 hS9.rp.o_le, ?_⟩
    refine w_clear j9 hS9.rp.o_le fun H10 j10 => ?_
    have hS10 := hS9.rep (Same.refl _) hS9.rp.s.c_le
    obtain ⟨hI10, hz10⟩ := hI5.clear
    have hz5 := hA.sz
    walk_at "go"
    exact ⟨_, _, _, _, _, _, _, _, j10, hS10, hI10, rfl, rfl, Nat.le_trans hz10 (by omega), rfl, rfl⟩
  rintro σ H ⟨M, G, a, r, x3, x4, x5, x6, j, hS, hI, hrc, hlt, hz, rfl⟩
  have hle := hI.le
  walk_at "go"
  (have hop := RepAt.op hS.rp; refine w_fldM j hop T_Replica.cl T_Replica.n_base fl_Replica_base ?_; clear hop; walk_at "go")
  rcases hI.c with zb | ⟨b, n0, zb⟩
  · have hv : a.bv = .non := by
      have := hS.rp.d.b
      rw [zb.base] at this; exact this
    rw [hv]
    walk_at "go"
    rw [show decide (V.non = V.non) = true from decide_eq_true rfl]
    walk_at "go"
    exact k _
  rcases hS.rp.bs with ⟨hb, hv⟩ | ⟨b', q0, m0, x0, hb, hv, hq0, _, _⟩
  · rw [zb.base] at hb; cases hb
  rw [zb.base] at hb
  obtain rfl := Option.some.inj hb
  rw [hv]
  walk_at "go"
  rw [show decide (V.ref q0 = V.non) = false from decide_eq_false fun z => nomatch z]
  walk_at "go"
  (have hop := RepAt.op hS.rp; refine w_propM j hop ?_; clear hop)
  refine w_sg (α := RepA × Rpl) (a, r) j ⟨rfl, hS.rp⟩ fun v1 M1 G1 H1 j1 e1 ⟨ev, em⟩ => ?_
  subst ev em
  have hS1 := hS.ex e1
  walk_at "go"
  (have hop := RepAt.op hS1.rp; refine w_fldM j1 hop T_Replica.cl T_Replica.n_base fl_Replica_base ?_; clear hop; walk_at "go")
  rw [hv]
  refine w_ixT j1 (st_mono e1 hq0) (atI_nat (j := 1) rfl) ?_
  walk_at "to"
  have el := zb.last
  have lev := dpAll_len hS1.rp.d.en
  rw [List.length_map] at lev
  refine w_seqO (fun σ H' => H' = H1 ∧ σ = [some (.ref sc), some (.ref p), some (.ref a.p), x3, some (.int (lastT r)), x5, x6, some (.int (lastI r))]) ?_ fun N hN => ?_
  rotate_left
  · walk_at "go"
    (have hop := RepAt.op hS1.rp; refine w_fldM j1 hop T_Replica.cl T_Replica.n_entries fl_Replica_entries ?_; clear hop; walk_at "go")
    refine w_lenM j1 hS1.rp.en ?_
    rw [lev]
    walk_at "go"
    refine w_dec (fun c => ?_) (fun c => ?_)
    rotate_left
    · walk_at "go"
      have e0 : r.ents = [] := List.length_eq_zero_iff.mp (by omega)
      have et : lastT r = b.t := by
        unfold lastT termAt
        rw [zb.base]
        dsimp only
        rw [el, if_pos (by rw [e0]; show b.i + ((0 : Nat) : Int) = b.i; omega)]
      exact hN _ _ ⟨rfl, by rw [et]; rfl⟩
    · obtain ⟨m, hm⟩ : ∃ m, r.ents.length = m + 1 := ⟨r.ents.length - 1, by omega⟩
      have hml : m < r.ents.length := by omega
      have hee : r.ents[m]? = some r.ents[m] := List.getElem?_eq_getElem hml
      obtain ⟨ev, hev, hxd⟩ := dpAll_at hS1.rp.d.en (i := m) (d := rnD r.ents[m]) (by rw [List.getElem?_map, hee]; rfl)
      have et : lastT r = r.ents[m].t := by
        unfold lastT termAt
        rw [zb.base]
        dsimp only
        rw [el, if_neg (by omega), show (b.i + (r.ents.length : Int) - b.i - 1).toNat = m by omega, hee]; rfl
      generalize r.ents[m] = ee at *
      obtain ⟨ea, cx, rfl, hea, hcx⟩ := dp_rn hxd
      walk_at "go"
      (have hop := RepAt.op hS1.rp; refine w_fldM j1 hop T_Replica.cl T_Replica.n_entries fl_Replica_entries ?_; clear hop; walk_at "go")
      (have hop := RepAt.op hS1.rp; refine w_fldM j1 hop T_Replica.cl T_Replica.n_entries fl_Replica_entries ?_; clear hop; walk_at "go")
      refine w_lenM j1 hS1.rp.en ?_
      rw [lev]
      walk_at "go"
      refine w_ixM j1 hS1.rp.en (v := .ref ea) (by rw [show (r.ents.length : Int) - 1 = (m : Int) by omega]; exact atI_nat hev) ?_
      walk_at "go"
      refine w_ixT j1 hea atI_0 ?_
      walk_at "go"
      exact hN _ _ ⟨rfl, by rw [et]; rfl⟩
  rintro σ H' ⟨rfl, rfl⟩
  walk_at "go"
  (have hop := RepAt.op hS1.rp; refine w_methM j1 hop (no_Replica (by decide +kernel) (by decide +kernel) (by decide +kernel) (by decide +kernel) (by decide +kernel) (by decide +kernel) (by decide +kernel) (by decide +kernel) (by decide +kernel) (by decide +kernel) (by decide +kernel) (by decide +kernel) (by decide +kernel) (by decide +kernel) (by decide +kernel) (by decide +kernel) (by decide +kernel) (by decide +kernel) (by decide +kernel) (by decide +kernel) (by decide +kernel)) ?_; clear hop; walk_at "go")
  (have hop := RepAt.op hS1.rp; refine w_fldM j1 hop T_Replica.cl T_Replica.n_term fl_Replica_term ?_; clear hop; walk_at "go")
  walk_at "go"
  (have hop := RepAt.op hS1.rp; refine w_fldM j1 hop T_Replica.cl T_Replica.n_term fl_Replica_term ?_; clear hop; walk_at "go")
  walk_at "go"
  refine w_new j1 (by show 1 ≤ sizeLine; decide) fun u1 G2 H2 j2 e2 hu1 _ => ?_
  walk_at "go"
  refine w_new j2 (by show 2 ≤ sizeLine; decide) fun u2 G3 H3 j3 e3 hu2 _ => ?_
  walk_at "go"
  refine w_new j3 (by show 1 ≤ sizeLine; decide) fun u3 G4 H4 j4 e4 hu3 _ => ?_
  walk_at "go"
  refine w_new j4 (by show 7 ≤ sizeLine; decide) fun lq G5 H5 j5 e5 hlq _ => ?_
  have hS5 := hS1.ex (e2.trans (e3.trans (e4.trans e5)))
  obtain ⟨f1, f2, f3⟩ := zb.copy hI.group (e := ⟨r.term, ⟨"next", []⟩⟩) (ch_nil rfl)
  have i0 := zb.ok.i0
  have i1 := zb.ok.i1
  walk_at "go"
  refine w_sg (α := TkP) ⟨a, r, 2, .ref lq, r.term, .copy (lastI r) (lastT r) [⟨r.term, ⟨"next", []⟩⟩] (lastI r + 1), b⟩ j5 ⟨rfl, hS5.rp, ⟨lq, .int 0, .ref u3, rfl, st_of hlq, .tup (st_of (e5 _ _ hu3)) (.cons (.tup (st_of ((e4.trans e5) _ _ hu2)) (.cons (.int _) (.cons (.tup (st_of ((e3.trans (e4.trans e5)) _ _ hu1)) (.cons (.str _) .nil)) .nil))) .nil)⟩, ⟨f1, by omega, by omega, by show 1 ≤ 1000; decide⟩, by dsimp only; omega⟩ fun v M6 G6 H6 j6 e6 ⟨ev, a6, hR6⟩ => ?_
  obtain ⟨r6, hr6⟩ : ∃ r6, r6 = takeLv r 2 r.term (.copy (lastI r) (lastT r) [⟨r.term, ⟨"next", []⟩⟩] (lastI r + 1)) := ⟨_, rfl⟩
  obtain ⟨a6, p6, hR6⟩ := hR6.pack (p := a.p) hr6 hR6.f.pe
  rw [← hr6] at f2 f3
  have hS6 := hS5.rep e6 hR6
  rw [← p6]
  walk_at "go"
  (have hop := RepAt.op hS6.rp; refine w_propM j6 hop ?_; clear hop)
  refine w_sg (α := RepA × Rpl) (a6, r6) j6 ⟨rfl, hS6.rp⟩ fun v7 M7 G7 H7 j7 e7 ⟨ev, em⟩ => ?_
  subst ev em
  have hS7 := hS6.ex e7
  walk_at "go"
  rw [f2]
  refine use_eq (d := .int (lastI r + 1)) j7 (.int _) (.int _) trivial fun G8 H8 j8 e8 => ?_
  have hS8 := hS7.ex e8
  walk_at "go"
  (have hop := RepAt.op hS8.rp; refine w_fldM j8 hop T_Replica.cl T_Replica.n_applied fl_Replica_applied ?_; clear hop; walk_at "go")
  rw [f3]
  refine use_eq (d := .int (lastI r + 1)) j8 (.int _) (.int _) trivial fun G9 H9 j9 e9 => ?_
  exact k _
/-! ### the end -/
set_option maxHeartbeats 16000000 in
theorem all_mk {l : PySem.W.OpenLaw} {w : World} {K : PySem.W.Frag} {h : Heap} {mg : Str → Option Value} {fa : Addr} (X : K.In h) (G : h.Ns mainGlobals mg) (hfa : mg "law" = some (.ref fa))
    {C_Replica : Addr}
    {C_Counter : Addr}
    {f0 : Addr} {od0 an0 : Option Addr} {sl0 : Array (Option Value)} {oc0 kV0 dc0 pm0 cd0 ct0 : Value}
    {p0 : Addr} {re0 : List Value}
    {f1 : Addr} {od1 an1 : Option Addr} {sl1 : Array (Option Value)} {oc1 kV1 dc1 pm1 cd1 ct1 : Value}
    {dT1 : Addr} {dC1 : Value} {dO1 : Option Addr} {dn1 : Nat} {dS1 : Array (Option Value)}
    {t1 : Tok}
    {f2 : Addr} {od2 an2 : Option Addr} {sl2 : Array (Option Value)} {oc2 kV2 dc2 pm2 cd2 ct2 : Value}
    {f3 : Addr} {od3 an3 : Option Addr} {sl3 : Array (Option Value)} {oc3 kV3 dc3 pm3 cd3 ct3 : Value}
    {f4 : Addr} {od4 an4 : Option Addr} {sl4 : Array (Option Value)} {oc4 kV4 dc4 pm4 cd4 ct4 : Value}
    {f5 : Addr} {od5 an5 : Option Addr} {sl5 : Array (Option Value)} {oc5 kV5 dc5 pm5 cd5 ct5 : Value}
    {f6 : Addr} {od6 an6 : Option Addr} {sl6 : Array (Option Value)} {oc6 kV6 dc6 pm6 cd6 ct6 : Value}
    {f7 : Addr} {od7 an7 : Option Addr} {sl7 : Array (Option Value)} {oc7 kV7 dc7 pm7 cd7 ct7 : Value}
    {f8 : Addr} {od8 an8 : Option Addr} {sl8 : Array (Option Value)} {oc8 kV8 dc8 pm8 cd8 ct8 : Value}
    {f9 : Addr} {od9 an9 : Option Addr} {sl9 : Array (Option Value)} {oc9 kV9 dc9 pm9 cd9 ct9 : Value}
    {f10 : Addr} {od10 an10 : Option Addr} {sl10 : Array (Option Value)} {oc10 kV10 dc10 pm10 cd10 ct10 : Value}
    {f11 : Addr} {od11 an11 : Option Addr} {sl11 : Array (Option Value)} {oc11 kV11 dc11 pm11 cd11 ct11 : Value}
    {f12 : Addr} {od12 an12 : Option Addr} {sl12 : Array (Option Value)} {oc12 kV12 dc12 pm12 cd12 ct12 : Value}
    {f13 : Addr} {od13 an13 : Option Addr} {sl13 : Array (Option Value)} {oc13 kV13 dc13 pm13 cd13 ct13 : Value}
    {f14 : Addr} {od14 an14 : Option Addr} {sl14 : Array (Option Value)} {oc14 kV14 dc14 pm14 cd14 ct14 : Value}
    {p14 : Addr} {re14 : List Value}
    {f15 : Addr} {od15 an15 : Option Addr} {sl15 : Array (Option Value)} {oc15 kV15 dc15 pm15 cd15 ct15 : Value}
    {f16 : Addr} {od16 an16 : Option Addr} {sl16 : Array (Option Value)} {oc16 kV16 dc16 pm16 cd16 ct16 : Value}
    {f17 : Addr} {od17 an17 : Option Addr} {sl17 : Array (Option Value)} {oc17 kV17 dc17 pm17 cd17 ct17 : Value}
    {f18 : Addr} {od18 an18 : Option Addr} {sl18 : Array (Option Value)} {oc18 kV18 dc18 pm18 cd18 ct18 : Value}
    {f19 : Addr} {od19 an19 : Option Addr} {sl19 : Array (Option Value)} {oc19 kV19 dc19 pm19 cd19 ct19 : Value}
    {f20 : Addr} {od20 an20 : Option Addr} {sl20 : Array (Option Value)} {oc20 kV20 dc20 pm20 cd20 ct20 : Value}
    {f21 : Addr} {od21 an21 : Option Addr} {sl21 : Array (Option Value)} {oc21 kV21 dc21 pm21 cd21 ct21 : Value}
    {f22 : Addr} {od22 an22 : Option Addr} {sl22 : Array (Option Value)} {oc22 kV22 dc22 pm22 cd22 ct22 : Value}
    {f23 : Addr} {od23 an23 : Option Addr} {sl23 : Array (Option Value)} {oc23 kV23 dc23 pm23 cd23 ct23 : Value}
    {f24 : Addr} {od24 an24 : Option Addr} {sl24 : Array (Option Value)} {oc24 kV24 dc24 pm24 cd24 ct24 : Value}
    {f25 : Addr} {od25 an25 : Option Addr} {sl25 : Array (Option Value)} {oc25 kV25 dc25 pm25 cd25 ct25 : Value}
    {f26 : Addr} {od26 an26 : Option Addr} {sl26 : Array (Option Value)} {oc26 kV26 dc26 pm26 cd26 ct26 : Value}
    {f27 : Addr} {od27 an27 : Option Addr} {sl27 : Array (Option Value)} {oc27 kV27 dc27 pm27 cd27 ct27 : Value}
    {f28 : Addr} {od28 an28 : Option Addr} {sl28 : Array (Option Value)} {oc28 kV28 dc28 pm28 cd28 ct28 : Value}
    {f29 : Addr} {od29 an29 : Option Addr} {sl29 : Array (Option Value)} {oc29 kV29 dc29 pm29 cd29 ct29 : Value}
    {f30 : Addr} {od30 an30 : Option Addr} {sl30 : Array (Option Value)} {oc30 kV30 dc30 pm30 cd30 ct30 : Value}
    {f31 : Addr} {od31 an31 : Option Addr} {sl31 : Array (Option Value)} {oc31 kV31 dc31 pm31 cd31 ct31 : Value}
    {f32 : Addr} {od32 an32 : Option Addr} {sl32 : Array (Option Value)} {oc32 kV32 dc32 pm32 cd32 ct32 : Value}
    {f33 : Addr} {od33 an33 : Option Addr} {sl33 : Array (Option Value)} {oc33 kV33 dc33 pm33 cd33 ct33 : Value}
    {f34 : Addr} {od34 an34 : Option Addr} {sl34 : Array (Option Value)} {oc34 kV34 dc34 pm34 cd34 ct34 : Value}
    {f35 : Addr} {od35 an35 : Option Addr} {sl35 : Array (Option Value)} {oc35 kV35 dc35 pm35 cd35 ct35 : Value}
    {f36 : Addr} {od36 an36 : Option Addr} {sl36 : Array (Option Value)} {oc36 kV36 dc36 pm36 cd36 ct36 : Value}
    {f37 : Addr} {od37 an37 : Option Addr} {sl37 : Array (Option Value)} {oc37 kV37 dc37 pm37 cd37 ct37 : Value}
    {f38 : Addr} {od38 an38 : Option Addr} {sl38 : Array (Option Value)} {oc38 kV38 dc38 pm38 cd38 ct38 : Value}
    {f39 : Addr} {od39 an39 : Option Addr} {sl39 : Array (Option Value)} {oc39 kV39 dc39 pm39 cd39 ct39 : Value}
    {f40 : Addr} {od40 an40 : Option Addr} {sl40 : Array (Option Value)} {oc40 kV40 dc40 pm40 cd40 ct40 : Value}
    {f41 : Addr} {od41 an41 : Option Addr} {sl41 : Array (Option Value)} {oc41 kV41 dc41 pm41 cd41 ct41 : Value}
    {f42 : Addr} {od42 an42 : Option Addr} {sl42 : Array (Option Value)} {oc42 kV42 dc42 pm42 cd42 ct42 : Value}
    {f43 : Addr} {od43 an43 : Option Addr} {sl43 : Array (Option Value)} {oc43 kV43 dc43 pm43 cd43 ct43 : Value}
    {f44 : Addr} {od44 an44 : Option Addr} {sl44 : Array (Option Value)} {oc44 kV44 dc44 pm44 cd44 ct44 : Value}
    {f45 : Addr} {od45 an45 : Option Addr} {sl45 : Array (Option Value)} {oc45 kV45 dc45 pm45 cd45 ct45 : Value}
    {f46 : Addr} {od46 an46 : Option Addr} {sl46 : Array (Option Value)} {oc46 kV46 dc46 pm46 cd46 ct46 : Value}
    {f47 : Addr} {od47 an47 : Option Addr} {sl47 : Array (Option Value)} {oc47 kV47 dc47 pm47 cd47 ct47 : Value}
    {f48 : Addr} {od48 an48 : Option Addr} {sl48 : Array (Option Value)} {oc48 kV48 dc48 pm48 cd48 ct48 : Value}
    {f49 : Addr} {od49 an49 : Option Addr} {sl49 : Array (Option Value)} {oc49 kV49 dc49 pm49 cd49 ct49 : Value}
    {f50 : Addr} {od50 an50 : Option Addr} {sl50 : Array (Option Value)} {oc50 kV50 dc50 pm50 cd50 ct50 : Value}
    {f51 : Addr} {od51 an51 : Option Addr} {sl51 : Array (Option Value)} {oc51 kV51 dc51 pm51 cd51 ct51 : Value}
    {t2 : Tok}
    {t3 : Tok}
    {t4 : Tok}
    {e_NOTHING : Addr} {en_NOTHING : Nat} {es_NOTHING : Array (Option Value)}
    {t5 : Tok}
    (aC_Replica : PySem.W.nsIn K mainGlobals "Replica" = some (some (.ref C_Replica)))
    (pgC_Replica : PySem.W.plainGet K C_Replica Str.empty = true)
    (hdC_Replica : PySem.W.hasDictIn K C_Replica = true)
    (poC_Replica : PySem.W.plainOver K C_Replica = true)
    (saC_Replica : PySem.W.findIn K (.ref C_Replica) "__setattr__" = some (some (.builtin "object.__setattr__")))
    (kcC_Replica : PySem.W.keepIn K (.ref C_Replica) = true)
    (mkC_Replica : PySem.W.makesIn K C_Replica = true)
    (nfC_me_Replica : PySem.W.findIn K (.ref C_Replica) "me" = some none)
    (nfC_group_Replica : PySem.W.findIn K (.ref C_Replica) "group" = some none)
    (nfC_term_Replica : PySem.W.findIn K (.ref C_Replica) "term" = some none)
    (nfC_voted_Replica : PySem.W.findIn K (.ref C_Replica) "voted" = some none)
    (nfC_base_Replica : PySem.W.findIn K (.ref C_Replica) "base" = some none)
    (nfC_entries_Replica : PySem.W.findIn K (.ref C_Replica) "entries" = some none)
    (nfC_role_Replica : PySem.W.findIn K (.ref C_Replica) "role" = some none)
    (nfC_leader_Replica : PySem.W.findIn K (.ref C_Replica) "leader" = some none)
    (nfC_committed_Replica : PySem.W.findIn K (.ref C_Replica) "committed" = some none)
    (nfC_applied_Replica : PySem.W.findIn K (.ref C_Replica) "applied" = some none)
    (nfC_durable_Replica : PySem.W.findIn K (.ref C_Replica) "durable" = some none)
    (nfC_state_Replica : PySem.W.findIn K (.ref C_Replica) "state" = some none)
    (nfC_ledger_Replica : PySem.W.findIn K (.ref C_Replica) "ledger" = some none)
    (nfC_records_Replica : PySem.W.findIn K (.ref C_Replica) "records" = some none)
    (nfC_letters_Replica : PySem.W.findIn K (.ref C_Replica) "letters" = some none)
    (nfC_answers_Replica : PySem.W.findIn K (.ref C_Replica) "answers" = some none)
    (nfC_births_Replica : PySem.W.findIn K (.ref C_Replica) "births" = some none)
    (nfC_votes_Replica : PySem.W.findIn K (.ref C_Replica) "votes" = some none)
    (nfC_ahead_Replica : PySem.W.findIn K (.ref C_Replica) "ahead" = some none)
    (nfC_known_Replica : PySem.W.findIn K (.ref C_Replica) "known" = some none)
    (nfC_tokens_Replica : PySem.W.findIn K (.ref C_Replica) "tokens" = some none)
    (aC_Counter : PySem.W.nsIn K mainGlobals "Counter" = some (some (.ref C_Counter)))
    (pgC_Counter : PySem.W.plainGet K C_Counter Str.empty = true)
    (hdC_Counter : PySem.W.hasDictIn K C_Counter = true)
    (poC_Counter : PySem.W.plainOver K C_Counter = true)
    (saC_Counter : PySem.W.findIn K (.ref C_Counter) "__setattr__" = some (some (.builtin "object.__setattr__")))
    (kcC_Counter : PySem.W.keepIn K (.ref C_Counter) = true)
    (mkC_Counter : PySem.W.makesIn K C_Counter = true)
    (nfC_last_Counter : PySem.W.findIn K (.ref C_Counter) "last" = some none)
    (a0 : PySem.W.findIn K (.ref C_Replica) "last_index" = some (some (.ref p0))) (gq0 : PySem.W.specialIn K (.ref p0) "__get__" = some (some (.builtin "property.__get__"))) (t0p : PySem.W.takesIn K (.ref p0) = some true) (rq0 : PySem.W.recIn K p0 "property" = some (.ref f0 :: re0))
    (l0 : K.lookup f0 = some ⟨oc0, od0, .func (PySem.W.fnOf "last_index" "Replica.last_index" (defArgs s_Replica_last_index) (defBody s_Replica_last_index) (defScope s_Replica_last_index) .none kV0 dc0 pm0 an0 cd0 ct0), sl0⟩)
    (c0 : PySem.W.codeIn K cd0 "Replica.last_index" = true) (k0 : PySem.W.keepIn K (.ref f0) = true)
    (a1 : PySem.W.findIn K (.ref C_Counter) "__init__" = some (some (.ref f1))) (i1 : PySem.W.isFn K (.ref f1) = true)
    (l1 : K.lookup f1 = some ⟨oc1, od1, .func (PySem.W.fnOf "__init__" "Counter.__init__" (defArgs s_Counter___init__) (defBody s_Counter___init__) (defScope s_Counter___init__) (.ref dT1) kV1 dc1 pm1 an1 cd1 ct1), sl1⟩)
    (c1 : PySem.W.codeIn K cd1 "Counter.__init__" = true) (k1 : PySem.W.keepIn K (.ref f1) = true)
    (lT1 : K.lookup dT1 = some ⟨dC1, dO1, .seq #[Value.int 0 t1] dn1, dS1⟩)
    (a2 : PySem.W.nsIn K mainGlobals "state_of" = some (some (.ref f2)))
    (l2 : K.lookup f2 = some ⟨oc2, od2, .func (PySem.W.fnOf "state_of" "state_of" (defArgs s_state_of) (defBody s_state_of) (defScope s_state_of) .none kV2 dc2 pm2 an2 cd2 ct2), sl2⟩)
    (c2 : PySem.W.codeIn K cd2 "state_of" = true) (k2 : PySem.W.keepIn K (.ref f2) = true)
    (a3 : PySem.W.findIn K (.ref C_Replica) "wake" = some (some (.ref f3))) (i3 : PySem.W.isFn K (.ref f3) = true)
    (l3 : K.lookup f3 = some ⟨oc3, od3, .func (PySem.W.fnOf "wake" "Replica.wake" (defArgs s_Replica_wake) (defBody s_Replica_wake) (defScope s_Replica_wake) .none kV3 dc3 pm3 an3 cd3 ct3), sl3⟩)
    (c3 : PySem.W.codeIn K cd3 "Replica.wake" = true) (k3 : PySem.W.keepIn K (.ref f3) = true)
    (a4 : PySem.W.findIn K (.ref C_Replica) "__init__" = some (some (.ref f4))) (i4 : PySem.W.isFn K (.ref f4) = true)
    (l4 : K.lookup f4 = some ⟨oc4, od4, .func (PySem.W.fnOf "__init__" "Replica.__init__" (defArgs s_Replica___init__) (defBody s_Replica___init__) (defScope s_Replica___init__) .none kV4 dc4 pm4 an4 cd4 ct4), sl4⟩)
    (c4 : PySem.W.codeIn K cd4 "Replica.__init__" = true) (k4 : PySem.W.keepIn K (.ref f4) = true)
    (a5 : PySem.W.findIn K (.ref C_Replica) "refuse" = some (some (.ref f5))) (i5 : PySem.W.isFn K (.ref f5) = true)
    (l5 : K.lookup f5 = some ⟨oc5, od5, .func (PySem.W.fnOf "refuse" "Replica.refuse" (defArgs s_Replica_refuse) (defBody s_Replica_refuse) (defScope s_Replica_refuse) .none kV5 dc5 pm5 an5 cd5 ct5), sl5⟩)
    (c5 : PySem.W.codeIn K cd5 "Replica.refuse" = true) (k5 : PySem.W.keepIn K (.ref f5) = true)
    (a6 : PySem.W.findIn K (.ref C_Replica) "set_term" = some (some (.ref f6))) (i6 : PySem.W.isFn K (.ref f6) = true)
    (l6 : K.lookup f6 = some ⟨oc6, od6, .func (PySem.W.fnOf "set_term" "Replica.set_term" (defArgs s_Replica_set_term) (defBody s_Replica_set_term) (defScope s_Replica_set_term) .none kV6 dc6 pm6 an6 cd6 ct6), sl6⟩)
    (c6 : PySem.W.codeIn K cd6 "Replica.set_term" = true) (k6 : PySem.W.keepIn K (.ref f6) = true)
    (a7 : PySem.W.findIn K (.ref C_Replica) "entry_at" = some (some (.ref f7))) (i7 : PySem.W.isFn K (.ref f7) = true)
    (l7 : K.lookup f7 = some ⟨oc7, od7, .func (PySem.W.fnOf "entry_at" "Replica.entry_at" (defArgs s_Replica_entry_at) (defBody s_Replica_entry_at) (defScope s_Replica_entry_at) .none kV7 dc7 pm7 an7 cd7 ct7), sl7⟩)
    (c7 : PySem.W.codeIn K cd7 "Replica.entry_at" = true) (k7 : PySem.W.keepIn K (.ref f7) = true)
    (a8 : PySem.W.findIn K (.ref C_Replica) "term_at" = some (some (.ref f8))) (i8 : PySem.W.isFn K (.ref f8) = true)
    (l8 : K.lookup f8 = some ⟨oc8, od8, .func (PySem.W.fnOf "term_at" "Replica.term_at" (defArgs s_Replica_term_at) (defBody s_Replica_term_at) (defScope s_Replica_term_at) .none kV8 dc8 pm8 an8 cd8 ct8), sl8⟩)
    (c8 : PySem.W.codeIn K cd8 "Replica.term_at" = true) (k8 : PySem.W.keepIn K (.ref f8) = true)
    (a9 : PySem.W.findIn K (.ref C_Replica) "last_term" = some (some (.ref f9))) (i9 : PySem.W.isFn K (.ref f9) = true)
    (l9 : K.lookup f9 = some ⟨oc9, od9, .func (PySem.W.fnOf "last_term" "Replica.last_term" (defArgs s_Replica_last_term) (defBody s_Replica_last_term) (defScope s_Replica_last_term) .none kV9 dc9 pm9 an9 cd9 ct9), sl9⟩)
    (c9 : PySem.W.codeIn K cd9 "Replica.last_term" = true) (k9 : PySem.W.keepIn K (.ref f9) = true)
    (a10 : PySem.W.findIn K (.ref C_Replica) "vote" = some (some (.ref f10))) (i10 : PySem.W.isFn K (.ref f10) = true)
    (l10 : K.lookup f10 = some ⟨oc10, od10, .func (PySem.W.fnOf "vote" "Replica.vote" (defArgs s_Replica_vote) (defBody s_Replica_vote) (defScope s_Replica_vote) .none kV10 dc10 pm10 an10 cd10 ct10), sl10⟩)
    (c10 : PySem.W.codeIn K cd10 "Replica.vote" = true) (k10 : PySem.W.keepIn K (.ref f10) = true)
    (a11 : PySem.W.nsIn K mainGlobals "is_change" = some (some (.ref f11)))
    (l11 : K.lookup f11 = some ⟨oc11, od11, .func (PySem.W.fnOf "is_change" "is_change" (defArgs s_is_change) (defBody s_is_change) (defScope s_is_change) .none kV11 dc11 pm11 an11 cd11 ct11), sl11⟩)
    (c11 : PySem.W.codeIn K cd11 "is_change" = true) (k11 : PySem.W.keepIn K (.ref f11) = true)
    (a12 : PySem.W.nsIn K mainGlobals "members_of" = some (some (.ref f12)))
    (l12 : K.lookup f12 = some ⟨oc12, od12, .func (PySem.W.fnOf "members_of" "members_of" (defArgs s_members_of) (defBody s_members_of) (defScope s_members_of) .none kV12 dc12 pm12 an12 cd12 ct12), sl12⟩)
    (c12 : PySem.W.codeIn K cd12 "members_of" = true) (k12 : PySem.W.keepIn K (.ref f12) = true)
    (a13 : PySem.W.findIn K (.ref C_Replica) "members_at" = some (some (.ref f13))) (i13 : PySem.W.isFn K (.ref f13) = true)
    (l13 : K.lookup f13 = some ⟨oc13, od13, .func (PySem.W.fnOf "members_at" "Replica.members_at" (defArgs s_Replica_members_at) (defBody s_Replica_members_at) (defScope s_Replica_members_at) .none kV13 dc13 pm13 an13 cd13 ct13), sl13⟩)
    (c13 : PySem.W.codeIn K cd13 "Replica.members_at" = true) (k13 : PySem.W.keepIn K (.ref f13) = true)
    (a14 : PySem.W.findIn K (.ref C_Replica) "members" = some (some (.ref p14))) (gq14 : PySem.W.specialIn K (.ref p14) "__get__" = some (some (.builtin "property.__get__"))) (t14p : PySem.W.takesIn K (.ref p14) = some true) (rq14 : PySem.W.recIn K p14 "property" = some (.ref f14 :: re14))
    (l14 : K.lookup f14 = some ⟨oc14, od14, .func (PySem.W.fnOf "members" "Replica.members" (defArgs s_Replica_members) (defBody s_Replica_members) (defScope s_Replica_members) .none kV14 dc14 pm14 an14 cd14 ct14), sl14⟩)
    (c14 : PySem.W.codeIn K cd14 "Replica.members" = true) (k14 : PySem.W.keepIn K (.ref f14) = true)
    (a15 : PySem.W.nsIn K mainGlobals "is_majority" = some (some (.ref f15)))
    (l15 : K.lookup f15 = some ⟨oc15, od15, .func (PySem.W.fnOf "is_majority" "is_majority" (defArgs s_is_majority) (defBody s_is_majority) (defScope s_is_majority) .none kV15 dc15 pm15 an15 cd15 ct15), sl15⟩)
    (c15 : PySem.W.codeIn K cd15 "is_majority" = true) (k15 : PySem.W.keepIn K (.ref f15) = true)
    (a16 : PySem.W.findIn K (.ref C_Replica) "expect" = some (some (.ref f16))) (i16 : PySem.W.isFn K (.ref f16) = true)
    (l16 : K.lookup f16 = some ⟨oc16, od16, .func (PySem.W.fnOf "expect" "Replica.expect" (defArgs s_Replica_expect) (defBody s_Replica_expect) (defScope s_Replica_expect) .none kV16 dc16 pm16 an16 cd16 ct16), sl16⟩)
    (c16 : PySem.W.codeIn K cd16 "Replica.expect" = true) (k16 : PySem.W.keepIn K (.ref f16) = true)
    (a17 : PySem.W.findIn K (.ref C_Replica) "attach" = some (some (.ref f17))) (i17 : PySem.W.isFn K (.ref f17) = true)
    (l17 : K.lookup f17 = some ⟨oc17, od17, .func (PySem.W.fnOf "attach" "Replica.attach" (defArgs s_Replica_attach) (defBody s_Replica_attach) (defScope s_Replica_attach) .none kV17 dc17 pm17 an17 cd17 ct17), sl17⟩)
    (c17 : PySem.W.codeIn K cd17 "Replica.attach" = true) (k17 : PySem.W.keepIn K (.ref f17) = true)
    (a18 : PySem.W.findIn K (.ref C_Replica) "others" = some (some (.ref f18))) (i18 : PySem.W.isFn K (.ref f18) = true)
    (l18 : K.lookup f18 = some ⟨oc18, od18, .func (PySem.W.fnOf "others" "Replica.others" (defArgs s_Replica_others) (defBody s_Replica_others) (defScope s_Replica_others) .none kV18 dc18 pm18 an18 cd18 ct18), sl18⟩)
    (c18 : PySem.W.codeIn K cd18 "Replica.others" = true) (k18 : PySem.W.keepIn K (.ref f18) = true)
    (a19 : PySem.W.findIn K (.ref C_Replica) "send_to" = some (some (.ref f19))) (i19 : PySem.W.isFn K (.ref f19) = true)
    (l19 : K.lookup f19 = some ⟨oc19, od19, .func (PySem.W.fnOf "send_to" "Replica.send_to" (defArgs s_Replica_send_to) (defBody s_Replica_send_to) (defScope s_Replica_send_to) .none kV19 dc19 pm19 an19 cd19 ct19), sl19⟩)
    (c19 : PySem.W.codeIn K cd19 "Replica.send_to" = true) (k19 : PySem.W.keepIn K (.ref f19) = true)
    (a20 : PySem.W.findIn K (.ref C_Replica) "nudge" = some (some (.ref f20))) (i20 : PySem.W.isFn K (.ref f20) = true)
    (l20 : K.lookup f20 = some ⟨oc20, od20, .func (PySem.W.fnOf "nudge" "Replica.nudge" (defArgs s_Replica_nudge) (defBody s_Replica_nudge) (defScope s_Replica_nudge) .none kV20 dc20 pm20 an20 cd20 ct20), sl20⟩)
    (c20 : PySem.W.codeIn K cd20 "Replica.nudge" = true) (k20 : PySem.W.keepIn K (.ref f20) = true)
    (a21 : PySem.W.findIn K (.ref C_Replica) "take_lead" = some (some (.ref f21))) (i21 : PySem.W.isFn K (.ref f21) = true)
    (l21 : K.lookup f21 = some ⟨oc21, od21, .func (PySem.W.fnOf "take_lead" "Replica.take_lead" (defArgs s_Replica_take_lead) (defBody s_Replica_take_lead) (defScope s_Replica_take_lead) .none kV21 dc21 pm21 an21 cd21 ct21), sl21⟩)
    (c21 : PySem.W.codeIn K cd21 "Replica.take_lead" = true) (k21 : PySem.W.keepIn K (.ref f21) = true)
    (a22 : PySem.W.findIn K (.ref C_Replica) "count_votes" = some (some (.ref f22))) (i22 : PySem.W.isFn K (.ref f22) = true)
    (l22 : K.lookup f22 = some ⟨oc22, od22, .func (PySem.W.fnOf "count_votes" "Replica.count_votes" (defArgs s_Replica_count_votes) (defBody s_Replica_count_votes) (defScope s_Replica_count_votes) .none kV22 dc22 pm22 an22 cd22 ct22), sl22⟩)
    (c22 : PySem.W.codeIn K cd22 "Replica.count_votes" = true) (k22 : PySem.W.keepIn K (.ref f22) = true)
    (a23 : PySem.W.findIn K (.ref C_Replica) "take_vote" = some (some (.ref f23))) (i23 : PySem.W.isFn K (.ref f23) = true)
    (l23 : K.lookup f23 = some ⟨oc23, od23, .func (PySem.W.fnOf "take_vote" "Replica.take_vote" (defArgs s_Replica_take_vote) (defBody s_Replica_take_vote) (defScope s_Replica_take_vote) .none kV23 dc23 pm23 an23 cd23 ct23), sl23⟩)
    (c23 : PySem.W.codeIn K cd23 "Replica.take_vote" = true) (k23 : PySem.W.keepIn K (.ref f23) = true)
    (a24 : PySem.W.findIn K (.ref C_Replica) "follow" = some (some (.ref f24))) (i24 : PySem.W.isFn K (.ref f24) = true)
    (l24 : K.lookup f24 = some ⟨oc24, od24, .func (PySem.W.fnOf "follow" "Replica.follow" (defArgs s_Replica_follow) (defBody s_Replica_follow) (defScope s_Replica_follow) .none kV24 dc24 pm24 an24 cd24 ct24), sl24⟩)
    (c24 : PySem.W.codeIn K cd24 "Replica.follow" = true) (k24 : PySem.W.keepIn K (.ref f24) = true)
    (a25 : PySem.W.findIn K (.ref C_Replica) "got" = some (some (.ref f25))) (i25 : PySem.W.isFn K (.ref f25) = true)
    (l25 : K.lookup f25 = some ⟨oc25, od25, .func (PySem.W.fnOf "got" "Replica.got" (defArgs s_Replica_got) (defBody s_Replica_got) (defScope s_Replica_got) .none kV25 dc25 pm25 an25 cd25 ct25), sl25⟩)
    (c25 : PySem.W.codeIn K cd25 "Replica.got" = true) (k25 : PySem.W.keepIn K (.ref f25) = true)
    (a26 : PySem.W.findIn K (.ref C_Counter) "run" = some (some (.ref f26))) (i26 : PySem.W.isFn K (.ref f26) = true)
    (l26 : K.lookup f26 = some ⟨oc26, od26, .func (PySem.W.fnOf "run" "Counter.run" (defArgs s_Counter_run) (defBody s_Counter_run) (defScope s_Counter_run) .none kV26 dc26 pm26 an26 cd26 ct26), sl26⟩)
    (c26 : PySem.W.codeIn K cd26 "Counter.run" = true) (k26 : PySem.W.keepIn K (.ref f26) = true)
    (a27 : PySem.W.findIn K (.ref C_Replica) "apply" = some (some (.ref f27))) (i27 : PySem.W.isFn K (.ref f27) = true)
    (l27 : K.lookup f27 = some ⟨oc27, od27, .func (PySem.W.fnOf "apply" "Replica.apply" (defArgs s_Replica_apply) (defBody s_Replica_apply) (defScope s_Replica_apply) .none kV27 dc27 pm27 an27 cd27 ct27), sl27⟩)
    (c27 : PySem.W.codeIn K cd27 "Replica.apply" = true) (k27 : PySem.W.keepIn K (.ref f27) = true)
    (a28 : PySem.W.findIn K (.ref C_Replica) "commit" = some (some (.ref f28))) (i28 : PySem.W.isFn K (.ref f28) = true)
    (l28 : K.lookup f28 = some ⟨oc28, od28, .func (PySem.W.fnOf "commit" "Replica.commit" (defArgs s_Replica_commit) (defBody s_Replica_commit) (defScope s_Replica_commit) .none kV28 dc28 pm28 an28 cd28 ct28), sl28⟩)
    (c28 : PySem.W.codeIn K cd28 "Replica.commit" = true) (k28 : PySem.W.keepIn K (.ref f28) = true)
    (a29 : PySem.W.findIn K (.ref C_Replica) "has_entry" = some (some (.ref f29))) (i29 : PySem.W.isFn K (.ref f29) = true)
    (l29 : K.lookup f29 = some ⟨oc29, od29, .func (PySem.W.fnOf "has_entry" "Replica.has_entry" (defArgs s_Replica_has_entry) (defBody s_Replica_has_entry) (defScope s_Replica_has_entry) .none kV29 dc29 pm29 an29 cd29 ct29), sl29⟩)
    (c29 : PySem.W.codeIn K cd29 "Replica.has_entry" = true) (k29 : PySem.W.keepIn K (.ref f29) = true)
    (a30 : PySem.W.findIn K (.ref C_Replica) "take_entry" = some (some (.ref f30))) (i30 : PySem.W.isFn K (.ref f30) = true)
    (l30 : K.lookup f30 = some ⟨oc30, od30, .func (PySem.W.fnOf "take_entry" "Replica.take_entry" (defArgs s_Replica_take_entry) (defBody s_Replica_take_entry) (defScope s_Replica_take_entry) .none kV30 dc30 pm30 an30 cd30 ct30), sl30⟩)
    (c30 : PySem.W.codeIn K cd30 "Replica.take_entry" = true) (k30 : PySem.W.keepIn K (.ref f30) = true)
    (a31 : PySem.W.findIn K (.ref C_Replica) "take_copy" = some (some (.ref f31))) (i31 : PySem.W.isFn K (.ref f31) = true)
    (l31 : K.lookup f31 = some ⟨oc31, od31, .func (PySem.W.fnOf "take_copy" "Replica.take_copy" (defArgs s_Replica_take_copy) (defBody s_Replica_take_copy) (defScope s_Replica_take_copy) .none kV31 dc31 pm31 an31 cd31 ct31), sl31⟩)
    (c31 : PySem.W.codeIn K cd31 "Replica.take_copy" = true) (k31 : PySem.W.keepIn K (.ref f31) = true)
    (a32 : PySem.W.findIn K (.ref C_Replica) "move_base" = some (some (.ref f32))) (i32 : PySem.W.isFn K (.ref f32) = true)
    (l32 : K.lookup f32 = some ⟨oc32, od32, .func (PySem.W.fnOf "move_base" "Replica.move_base" (defArgs s_Replica_move_base) (defBody s_Replica_move_base) (defScope s_Replica_move_base) .none kV32 dc32 pm32 an32 cd32 ct32), sl32⟩)
    (c32 : PySem.W.codeIn K cd32 "Replica.move_base" = true) (k32 : PySem.W.keepIn K (.ref f32) = true)
    (a33 : PySem.W.findIn K (.ref C_Replica) "restart_at" = some (some (.ref f33))) (i33 : PySem.W.isFn K (.ref f33) = true)
    (l33 : K.lookup f33 = some ⟨oc33, od33, .func (PySem.W.fnOf "restart_at" "Replica.restart_at" (defArgs s_Replica_restart_at) (defBody s_Replica_restart_at) (defScope s_Replica_restart_at) .none kV33 dc33 pm33 an33 cd33 ct33), sl33⟩)
    (c33 : PySem.W.codeIn K cd33 "Replica.restart_at" = true) (k33 : PySem.W.keepIn K (.ref f33) = true)
    (a34 : PySem.W.findIn K (.ref C_Replica) "take_base" = some (some (.ref f34))) (i34 : PySem.W.isFn K (.ref f34) = true)
    (l34 : K.lookup f34 = some ⟨oc34, od34, .func (PySem.W.fnOf "take_base" "Replica.take_base" (defArgs s_Replica_take_base) (defBody s_Replica_take_base) (defScope s_Replica_take_base) .none kV34 dc34 pm34 an34 cd34 ct34), sl34⟩)
    (c34 : PySem.W.codeIn K cd34 "Replica.take_base" = true) (k34 : PySem.W.keepIn K (.ref f34) = true)
    (a35 : PySem.W.findIn K (.ref C_Replica) "kept_index" = some (some (.ref f35))) (i35 : PySem.W.isFn K (.ref f35) = true)
    (l35 : K.lookup f35 = some ⟨oc35, od35, .func (PySem.W.fnOf "kept_index" "Replica.kept_index" (defArgs s_Replica_kept_index) (defBody s_Replica_kept_index) (defScope s_Replica_kept_index) .none kV35 dc35 pm35 an35 cd35 ct35), sl35⟩)
    (c35 : PySem.W.codeIn K cd35 "Replica.kept_index" = true) (k35 : PySem.W.keepIn K (.ref f35) = true)
    (a36 : PySem.W.findIn K (.ref C_Replica) "commit_kept" = some (some (.ref f36))) (i36 : PySem.W.isFn K (.ref f36) = true)
    (l36 : K.lookup f36 = some ⟨oc36, od36, .func (PySem.W.fnOf "commit_kept" "Replica.commit_kept" (defArgs s_Replica_commit_kept) (defBody s_Replica_commit_kept) (defScope s_Replica_commit_kept) .none kV36 dc36 pm36 an36 cd36 ct36), sl36⟩)
    (c36 : PySem.W.codeIn K cd36 "Replica.commit_kept" = true) (k36 : PySem.W.keepIn K (.ref f36) = true)
    (a37 : PySem.W.findIn K (.ref C_Replica) "take_got" = some (some (.ref f37))) (i37 : PySem.W.isFn K (.ref f37) = true)
    (l37 : K.lookup f37 = some ⟨oc37, od37, .func (PySem.W.fnOf "take_got" "Replica.take_got" (defArgs s_Replica_take_got) (defBody s_Replica_take_got) (defScope s_Replica_take_got) .none kV37 dc37 pm37 an37 cd37 ct37), sl37⟩)
    (c37 : PySem.W.codeIn K cd37 "Replica.take_got" = true) (k37 : PySem.W.keepIn K (.ref f37) = true)
    (a38 : PySem.W.findIn K (.ref C_Replica) "take" = some (some (.ref f38))) (i38 : PySem.W.isFn K (.ref f38) = true)
    (l38 : K.lookup f38 = some ⟨oc38, od38, .func (PySem.W.fnOf "take" "Replica.take" (defArgs s_Replica_take) (defBody s_Replica_take) (defScope s_Replica_take) .none kV38 dc38 pm38 an38 cd38 ct38), sl38⟩)
    (c38 : PySem.W.codeIn K cd38 "Replica.take" = true) (k38 : PySem.W.keepIn K (.ref f38) = true)
    (a39 : PySem.W.findIn K (.ref C_Replica) "synced" = some (some (.ref f39))) (i39 : PySem.W.isFn K (.ref f39) = true)
    (l39 : K.lookup f39 = some ⟨oc39, od39, .func (PySem.W.fnOf "synced" "Replica.synced" (defArgs s_Replica_synced) (defBody s_Replica_synced) (defScope s_Replica_synced) .none kV39 dc39 pm39 an39 cd39 ct39), sl39⟩)
    (c39 : PySem.W.codeIn K cd39 "Replica.synced" = true) (k39 : PySem.W.keepIn K (.ref f39) = true)
    (a40 : PySem.W.nsIn K mainGlobals "_law_mixed" = some (some (.ref f40)))
    (l40 : K.lookup f40 = some ⟨oc40, od40, .func (PySem.W.fnOf "_law_mixed" "_law_mixed" (defArgs s_law_mixed) (defBody s_law_mixed) (defScope s_law_mixed) .none kV40 dc40 pm40 an40 cd40 ct40), sl40⟩)
    (c40 : PySem.W.codeIn K cd40 "_law_mixed" = true) (k40 : PySem.W.keepIn K (.ref f40) = true)
    (a41 : PySem.W.nsIn K mainGlobals "_law_draw" = some (some (.ref f41)))
    (l41 : K.lookup f41 = some ⟨oc41, od41, .func (PySem.W.fnOf "_law_draw" "_law_draw" (defArgs s_law_draw) (defBody s_law_draw) (defScope s_law_draw) .none kV41 dc41 pm41 an41 cd41 ct41), sl41⟩)
    (c41 : PySem.W.codeIn K cd41 "_law_draw" = true) (k41 : PySem.W.keepIn K (.ref f41) = true)
    (a42 : PySem.W.nsIn K mainGlobals "_law_follower" = some (some (.ref f42)))
    (l42 : K.lookup f42 = some ⟨oc42, od42, .func (PySem.W.fnOf "_law_follower" "_law_follower" (defArgs s_law_follower) (defBody s_law_follower) (defScope s_law_follower) .none kV42 dc42 pm42 an42 cd42 ct42), sl42⟩)
    (c42 : PySem.W.codeIn K cd42 "_law_follower" = true) (k42 : PySem.W.keepIn K (.ref f42) = true)
    (a43 : PySem.W.nsIn K mainGlobals "_law_numbers" = some (some (.ref f43)))
    (l43 : K.lookup f43 = some ⟨oc43, od43, .func (PySem.W.fnOf "_law_numbers" "_law_numbers" (defArgs s_law_numbers) (defBody s_law_numbers) (defScope s_law_numbers) .none kV43 dc43 pm43 an43 cd43 ct43), sl43⟩)
    (c43 : PySem.W.codeIn K cd43 "_law_numbers" = true) (k43 : PySem.W.keepIn K (.ref f43) = true)
    (a44 : PySem.W.nsIn K mainGlobals "_law_terms" = some (some (.ref f44)))
    (l44 : K.lookup f44 = some ⟨oc44, od44, .func (PySem.W.fnOf "_law_terms" "_law_terms" (defArgs s_law_terms) (defBody s_law_terms) (defScope s_law_terms) .none kV44 dc44 pm44 an44 cd44 ct44), sl44⟩)
    (c44 : PySem.W.codeIn K cd44 "_law_terms" = true) (k44 : PySem.W.keepIn K (.ref f44) = true)
    (a45 : PySem.W.nsIn K mainGlobals "_law_letter" = some (some (.ref f45)))
    (l45 : K.lookup f45 = some ⟨oc45, od45, .func (PySem.W.fnOf "_law_letter" "_law_letter" (defArgs s_law_letter) (defBody s_law_letter) (defScope s_law_letter) .none kV45 dc45 pm45 an45 cd45 ct45), sl45⟩)
    (c45 : PySem.W.codeIn K cd45 "_law_letter" = true) (k45 : PySem.W.keepIn K (.ref f45) = true)
    (a46 : PySem.W.nsIn K mainGlobals "_law_based" = some (some (.ref f46)))
    (l46 : K.lookup f46 = some ⟨oc46, od46, .func (PySem.W.fnOf "_law_based" "_law_based" (defArgs s_law_based) (defBody s_law_based) (defScope s_law_based) .none kV46 dc46 pm46 an46 cd46 ct46), sl46⟩)
    (c46 : PySem.W.codeIn K cd46 "_law_based" = true) (k46 : PySem.W.keepIn K (.ref f46) = true)
    (a47 : PySem.W.nsIn K mainGlobals "_law_all_equal" = some (some (.ref f47)))
    (l47 : K.lookup f47 = some ⟨oc47, od47, .func (PySem.W.fnOf "_law_all_equal" "_law_all_equal" (defArgs s_law_all_equal) (defBody s_law_all_equal) (defScope s_law_all_equal) .none kV47 dc47 pm47 an47 cd47 ct47), sl47⟩)
    (c47 : PySem.W.codeIn K cd47 "_law_all_equal" = true) (k47 : PySem.W.keepIn K (.ref f47) = true)
    (a48 : PySem.W.nsIn K mainGlobals "_law_equal" = some (some (.ref f48)))
    (l48 : K.lookup f48 = some ⟨oc48, od48, .func (PySem.W.fnOf "_law_equal" "_law_equal" (defArgs s_law_equal) (defBody s_law_equal) (defScope s_law_equal) .none kV48 dc48 pm48 an48 cd48 ct48), sl48⟩)
    (c48 : PySem.W.codeIn K cd48 "_law_equal" = true) (k48 : PySem.W.keepIn K (.ref f48) = true)
    (a49 : PySem.W.findIn K (.ref C_Counter) "picture" = some (some (.ref f49))) (i49 : PySem.W.isFn K (.ref f49) = true)
    (l49 : K.lookup f49 = some ⟨oc49, od49, .func (PySem.W.fnOf "picture" "Counter.picture" (defArgs s_Counter_picture) (defBody s_Counter_picture) (defScope s_Counter_picture) .none kV49 dc49 pm49 an49 cd49 ct49), sl49⟩)
    (c49 : PySem.W.codeIn K cd49 "Counter.picture" = true) (k49 : PySem.W.keepIn K (.ref f49) = true)
    (a50 : PySem.W.nsIn K mainGlobals "_law_agrees" = some (some (.ref f50)))
    (l50 : K.lookup f50 = some ⟨oc50, od50, .func (PySem.W.fnOf "_law_agrees" "_law_agrees" (defArgs s_law_agrees) (defBody s_law_agrees) (defScope s_law_agrees) .none kV50 dc50 pm50 an50 cd50 ct50), sl50⟩)
    (c50 : PySem.W.codeIn K cd50 "_law_agrees" = true) (k50 : PySem.W.keepIn K (.ref f50) = true)
    (a51 : PySem.W.nsIn K mainGlobals "law" = some (some (.ref f51)))
    (l51 : K.lookup f51 = some ⟨oc51, od51, .func (PySem.W.fnOf "law" "law" (defArgs s_law) (defBody s_law) (defScope s_law) .none kV51 dc51 pm51 an51 cd51 ct51), sl51⟩)
    (c51 : PySem.W.codeIn K cd51 "law" = true) (k51 : PySem.W.keepIn K (.ref f51) = true)
    (z_len : PySem.W.nsIn K mainGlobals "len" = some none)
    (z_range : PySem.W.nsIn K mainGlobals "range" = some none)
    (z_tuple : PySem.W.nsIn K mainGlobals "tuple" = some none)
    (z_max : PySem.W.nsIn K mainGlobals "max" = some none)
    (z_min : PySem.W.nsIn K mainGlobals "min" = some none)
    (z_enumerate : PySem.W.nsIn K mainGlobals "enumerate" = some none)
    (z_list : PySem.W.nsIn K mainGlobals "list" = some none)
    (z_isinstance : PySem.W.nsIn K mainGlobals "isinstance" = some none)
    (z_str : PySem.W.nsIn K mainGlobals "str" = some none)
    (z_int : PySem.W.nsIn K mainGlobals "int" = some none)
    (z_bool : PySem.W.nsIn K mainGlobals "bool" = some none)
    (q_FOLLOWER : PySem.W.nsIn K mainGlobals "FOLLOWER" = some (some (.str "follower" t2)))
    (q_LEADER : PySem.W.nsIn K mainGlobals "LEADER" = some (some (.str "leader" t3)))
    (q_NOTHING : PySem.W.nsIn K mainGlobals "NOTHING" = some (some (.ref e_NOTHING)))
    (w_NOTHING : K.lookup e_NOTHING = some ⟨.type "tuple", none, .seq #[Value.str "none" t4] en_NOTHING, es_NOTHING⟩)
    (q_CANDIDATE : PySem.W.nsIn K mainGlobals "CANDIDATE" = some (some (.str "candidate" t5))) :
    ∃ fd : FuncData, (∀ (s : Shared) (v : Value), BindsTo s fd ⟨[v], []⟩ [("script", v)]) ∧ ∀ base : Heap, K.In base → base.Ns mainGlobals mg → FnOk l.prog w K mg base CX0 17 fa fd ["script"] (sp_law K) := by
  have e := hfa.symm.trans (PySem.W.mg_of X G a51)
  cases e
  have F0 := fun_mk (st := s_Replica_last_index) l0 c0 k0
  have B0 := F0.binds (ps := ["self"]) fun _ _ _ _ _ _ us hl => match us, hl with | [_], _ => rfl
  have D_Replica_last_index : Dpr K C_Replica "last_index" "Replica.last_index" s_Replica_last_index ["self"] p0 f0 _ := ⟨F0, ⟨a0, gq0, t0p, _, rq0⟩, B0⟩
  have D_Counter___init__ : Did K C_Counter "Counter.__init__" s_Counter___init__ ["self", "last"] [V.int 0] f1 _ := did_mk (n := 1) (its := [_]) l1 c1 k1 lT1 rfl (fun z => by cases z) (.cons ⟨_, rfl⟩ .nil) ⟨mkC_Counter, a1, i1, kcC_Counter⟩ rfl (fun _ _ _ _ _ _ _ us its h1 h2 => match us, its, h1, h2 with | [_, _], [_], _, _ => ⟨_, rfl, rfl⟩) (fun _ _ _ _ _ _ _ us its h1 h2 => match us, its, h1, h2 with | [_], [_], _, _ => ⟨_, rfl, rfl⟩)
  have F2 := fun_mk (st := s_state_of) l2 c2 k2
  have B2 := F2.binds (ps := ["base"]) fun _ _ _ _ _ _ us hl => match us, hl with | [_], _ => rfl
  have D_state_of : Dn K mg "state_of" s_state_of ["base"] f2 _ := ⟨F2, PySem.W.mg_of X G a2, k2, B2⟩
  have F3 := fun_mk (st := s_Replica_wake) l3 c3 k3
  have B3 := F3.binds (ps := ["self"]) fun _ _ _ _ _ _ us hl => match us, hl with | [_], _ => rfl
  have D_Replica_wake : Dm K C_Replica "wake" "Replica.wake" s_Replica_wake ["self"] f3 _ := ⟨F3, ⟨a3, i3, k3⟩, B3⟩
  have F4 := fun_mk (st := s_Replica___init__) l4 c4 k4
  have B4 := F4.binds (ps := ["self", "me", "group", "base"]) fun _ _ _ _ _ _ us hl => match us, hl with | [_, _, _, _], _ => rfl
  have D_Replica___init__ : Di K C_Replica "Replica.__init__" s_Replica___init__ ["self", "me", "group", "base"] f4 _ := ⟨F4, ⟨mkC_Replica, a4, i4, kcC_Replica⟩, B4⟩
  have F5 := fun_mk (st := s_Replica_refuse) l5 c5 k5
  have B5 := F5.binds (ps := ["self", "sender", "word"]) fun _ _ _ _ _ _ us hl => match us, hl with | [_, _, _], _ => rfl
  have D_Replica_refuse : Dm K C_Replica "refuse" "Replica.refuse" s_Replica_refuse ["self", "sender", "word"] f5 _ := ⟨F5, ⟨a5, i5, k5⟩, B5⟩
  have F6 := fun_mk (st := s_Replica_set_term) l6 c6 k6
  have B6 := F6.binds (ps := ["self", "term", "voted"]) fun _ _ _ _ _ _ us hl => match us, hl with | [_, _, _], _ => rfl
  have D_Replica_set_term : Dm K C_Replica "set_term" "Replica.set_term" s_Replica_set_term ["self", "term", "voted"] f6 _ := ⟨F6, ⟨a6, i6, k6⟩, B6⟩
  have F7 := fun_mk (st := s_Replica_entry_at) l7 c7 k7
  have B7 := F7.binds (ps := ["self", "index"]) fun _ _ _ _ _ _ us hl => match us, hl with | [_, _], _ => rfl
  have D_Replica_entry_at : Dm K C_Replica "entry_at" "Replica.entry_at" s_Replica_entry_at ["self", "index"] f7 _ := ⟨F7, ⟨a7, i7, k7⟩, B7⟩
  have F8 := fun_mk (st := s_Replica_term_at) l8 c8 k8
  have B8 := F8.binds (ps := ["self", "index"]) fun _ _ _ _ _ _ us hl => match us, hl with | [_, _], _ => rfl
  have D_Replica_term_at : Dm K C_Replica "term_at" "Replica.term_at" s_Replica_term_at ["self", "index"] f8 _ := ⟨F8, ⟨a8, i8, k8⟩, B8⟩
  have F9 := fun_mk (st := s_Replica_last_term) l9 c9 k9
  have B9 := F9.binds (ps := ["self"]) fun _ _ _ _ _ _ us hl => match us, hl with | [_], _ => rfl
  have D_Replica_last_term : Dm K C_Replica "last_term" "Replica.last_term" s_Replica_last_term ["self"] f9 _ := ⟨F9, ⟨a9, i9, k9⟩, B9⟩
  have F10 := fun_mk (st := s_Replica_vote) l10 c10 k10
  have B10 := F10.binds (ps := ["self", "sender", "last_index", "last_term"]) fun _ _ _ _ _ _ us hl => match us, hl with | [_, _, _, _], _ => rfl
  have D_Replica_vote : Dm K C_Replica "vote" "Replica.vote" s_Replica_vote ["self", "sender", "last_index", "last_term"] f10 _ := ⟨F10, ⟨a10, i10, k10⟩, B10⟩
  have F11 := fun_mk (st := s_is_change) l11 c11 k11
  have B11 := F11.binds (ps := ["command"]) fun _ _ _ _ _ _ us hl => match us, hl with | [_], _ => rfl
  have D_is_change : Dn K mg "is_change" s_is_change ["command"] f11 _ := ⟨F11, PySem.W.mg_of X G a11, k11, B11⟩
  have F12 := fun_mk (st := s_members_of) l12 c12 k12
  have B12 := F12.binds (ps := ["base", "entries", "many"]) fun _ _ _ _ _ _ us hl => match us, hl with | [_, _, _], _ => rfl
  have D_members_of : Dn K mg "members_of" s_members_of ["base", "entries", "many"] f12 _ := ⟨F12, PySem.W.mg_of X G a12, k12, B12⟩
  have F13 := fun_mk (st := s_Replica_members_at) l13 c13 k13
  have B13 := F13.binds (ps := ["self", "index"]) fun _ _ _ _ _ _ us hl => match us, hl with | [_, _], _ => rfl
  have D_Replica_members_at : Dm K C_Replica "members_at" "Replica.members_at" s_Replica_members_at ["self", "index"] f13 _ := ⟨F13, ⟨a13, i13, k13⟩, B13⟩
  have F14 := fun_mk (st := s_Replica_members) l14 c14 k14
  have B14 := F14.binds (ps := ["self"]) fun _ _ _ _ _ _ us hl => match us, hl with | [_], _ => rfl
  have D_Replica_members : Dpr K C_Replica "members" "Replica.members" s_Replica_members ["self"] p14 f14 _ := ⟨F14, ⟨a14, gq14, t14p, _, rq14⟩, B14⟩
  have F15 := fun_mk (st := s_is_majority) l15 c15 k15
  have B15 := F15.binds (ps := ["some", "members"]) fun _ _ _ _ _ _ us hl => match us, hl with | [_, _], _ => rfl
  have D_is_majority : Dn K mg "is_majority" s_is_majority ["some", "members"] f15 _ := ⟨F15, PySem.W.mg_of X G a15, k15, B15⟩
  have F16 := fun_mk (st := s_Replica_expect) l16 c16 k16
  have B16 := F16.binds (ps := ["self", "members"]) fun _ _ _ _ _ _ us hl => match us, hl with | [_, _], _ => rfl
  have D_Replica_expect : Dm K C_Replica "expect" "Replica.expect" s_Replica_expect ["self", "members"] f16 _ := ⟨F16, ⟨a16, i16, k16⟩, B16⟩
  have F17 := fun_mk (st := s_Replica_attach) l17 c17 k17
  have B17 := F17.binds (ps := ["self", "entry"]) fun _ _ _ _ _ _ us hl => match us, hl with | [_, _], _ => rfl
  have D_Replica_attach : Dm K C_Replica "attach" "Replica.attach" s_Replica_attach ["self", "entry"] f17 _ := ⟨F17, ⟨a17, i17, k17⟩, B17⟩
  have F18 := fun_mk (st := s_Replica_others) l18 c18 k18
  have B18 := F18.binds (ps := ["self"]) fun _ _ _ _ _ _ us hl => match us, hl with | [_], _ => rfl
  have D_Replica_others : Dm K C_Replica "others" "Replica.others" s_Replica_others ["self"] f18 _ := ⟨F18, ⟨a18, i18, k18⟩, B18⟩
  have F19 := fun_mk (st := s_Replica_send_to) l19 c19 k19
  have B19 := F19.binds (ps := ["self", "member"]) fun _ _ _ _ _ _ us hl => match us, hl with | [_, _], _ => rfl
  have D_Replica_send_to : Dm K C_Replica "send_to" "Replica.send_to" s_Replica_send_to ["self", "member"] f19 _ := ⟨F19, ⟨a19, i19, k19⟩, B19⟩
  have F20 := fun_mk (st := s_Replica_nudge) l20 c20 k20
  have B20 := F20.binds (ps := ["self"]) fun _ _ _ _ _ _ us hl => match us, hl with | [_], _ => rfl
  have D_Replica_nudge : Dm K C_Replica "nudge" "Replica.nudge" s_Replica_nudge ["self"] f20 _ := ⟨F20, ⟨a20, i20, k20⟩, B20⟩
  have F21 := fun_mk (st := s_Replica_take_lead) l21 c21 k21
  have B21 := F21.binds (ps := ["self"]) fun _ _ _ _ _ _ us hl => match us, hl with | [_], _ => rfl
  have D_Replica_take_lead : Dm K C_Replica "take_lead" "Replica.take_lead" s_Replica_take_lead ["self"] f21 _ := ⟨F21, ⟨a21, i21, k21⟩, B21⟩
  have F22 := fun_mk (st := s_Replica_count_votes) l22 c22 k22
  have B22 := F22.binds (ps := ["self"]) fun _ _ _ _ _ _ us hl => match us, hl with | [_], _ => rfl
  have D_Replica_count_votes : Dm K C_Replica "count_votes" "Replica.count_votes" s_Replica_count_votes ["self"] f22 _ := ⟨F22, ⟨a22, i22, k22⟩, B22⟩
  have F23 := fun_mk (st := s_Replica_take_vote) l23 c23 k23
  have B23 := F23.binds (ps := ["self", "sender", "granted"]) fun _ _ _ _ _ _ us hl => match us, hl with | [_, _, _], _ => rfl
  have D_Replica_take_vote : Dm K C_Replica "take_vote" "Replica.take_vote" s_Replica_take_vote ["self", "sender", "granted"] f23 _ := ⟨F23, ⟨a23, i23, k23⟩, B23⟩
  have F24 := fun_mk (st := s_Replica_follow) l24 c24 k24
  have B24 := F24.binds (ps := ["self", "sender"]) fun _ _ _ _ _ _ us hl => match us, hl with | [_, _], _ => rfl
  have D_Replica_follow : Dm K C_Replica "follow" "Replica.follow" s_Replica_follow ["self", "sender"] f24 _ := ⟨F24, ⟨a24, i24, k24⟩, B24⟩
  have F25 := fun_mk (st := s_Replica_got) l25 c25 k25
  have B25 := F25.binds (ps := ["self", "good", "index"]) fun _ _ _ _ _ _ us hl => match us, hl with | [_, _, _], _ => rfl
  have D_Replica_got : Dm K C_Replica "got" "Replica.got" s_Replica_got ["self", "good", "index"] f25 _ := ⟨F25, ⟨a25, i25, k25⟩, B25⟩
  have F26 := fun_mk (st := s_Counter_run) l26 c26 k26
  have B26 := F26.binds (ps := ["self", "command"]) fun _ _ _ _ _ _ us hl => match us, hl with | [_, _], _ => rfl
  have D_Counter_run : Dm K C_Counter "run" "Counter.run" s_Counter_run ["self", "command"] f26 _ := ⟨F26, ⟨a26, i26, k26⟩, B26⟩
  have F27 := fun_mk (st := s_Replica_apply) l27 c27 k27
  have B27 := F27.binds (ps := ["self", "index"]) fun _ _ _ _ _ _ us hl => match us, hl with | [_, _], _ => rfl
  have D_Replica_apply : Dm K C_Replica "apply" "Replica.apply" s_Replica_apply ["self", "index"] f27 _ := ⟨F27, ⟨a27, i27, k27⟩, B27⟩
  have F28 := fun_mk (st := s_Replica_commit) l28 c28 k28
  have B28 := F28.binds (ps := ["self", "index"]) fun _ _ _ _ _ _ us hl => match us, hl with | [_, _], _ => rfl
  have D_Replica_commit : Dm K C_Replica "commit" "Replica.commit" s_Replica_commit ["self", "index"] f28 _ := ⟨F28, ⟨a28, i28, k28⟩, B28⟩
  have F29 := fun_mk (st := s_Replica_has_entry) l29 c29 k29
  have B29 := F29.binds (ps := ["self", "index", "term"]) fun _ _ _ _ _ _ us hl => match us, hl with | [_, _, _], _ => rfl
  have D_Replica_has_entry : Dm K C_Replica "has_entry" "Replica.has_entry" s_Replica_has_entry ["self", "index", "term"] f29 _ := ⟨F29, ⟨a29, i29, k29⟩, B29⟩
  have F30 := fun_mk (st := s_Replica_take_entry) l30 c30 k30
  have B30 := F30.binds (ps := ["self", "index", "entry"]) fun _ _ _ _ _ _ us hl => match us, hl with | [_, _, _], _ => rfl
  have D_Replica_take_entry : Dm K C_Replica "take_entry" "Replica.take_entry" s_Replica_take_entry ["self", "index", "entry"] f30 _ := ⟨F30, ⟨a30, i30, k30⟩, B30⟩
  have F31 := fun_mk (st := s_Replica_take_copy) l31 c31 k31
  have B31 := F31.binds (ps := ["self", "index", "index_term", "pairs", "committed"]) fun _ _ _ _ _ _ us hl => match us, hl with | [_, _, _, _, _], _ => rfl
  have D_Replica_take_copy : Dm K C_Replica "take_copy" "Replica.take_copy" s_Replica_take_copy ["self", "index", "index_term", "pairs", "committed"] f31 _ := ⟨F31, ⟨a31, i31, k31⟩, B31⟩
  have F32 := fun_mk (st := s_Replica_move_base) l32 c32 k32
  have B32 := F32.binds (ps := ["self", "base"]) fun _ _ _ _ _ _ us hl => match us, hl with | [_, _], _ => rfl
  have D_Replica_move_base : Dm K C_Replica "move_base" "Replica.move_base" s_Replica_move_base ["self", "base"] f32 _ := ⟨F32, ⟨a32, i32, k32⟩, B32⟩
  have F33 := fun_mk (st := s_Replica_restart_at) l33 c33 k33
  have B33 := F33.binds (ps := ["self", "base"]) fun _ _ _ _ _ _ us hl => match us, hl with | [_, _], _ => rfl
  have D_Replica_restart_at : Dm K C_Replica "restart_at" "Replica.restart_at" s_Replica_restart_at ["self", "base"] f33 _ := ⟨F33, ⟨a33, i33, k33⟩, B33⟩
  have F34 := fun_mk (st := s_Replica_take_base) l34 c34 k34
  have B34 := F34.binds (ps := ["self", "base"]) fun _ _ _ _ _ _ us hl => match us, hl with | [_, _], _ => rfl
  have D_Replica_take_base : Dm K C_Replica "take_base" "Replica.take_base" s_Replica_take_base ["self", "base"] f34 _ := ⟨F34, ⟨a34, i34, k34⟩, B34⟩
  have F35 := fun_mk (st := s_Replica_kept_index) l35 c35 k35
  have B35 := F35.binds (ps := ["self"]) fun _ _ _ _ _ _ us hl => match us, hl with | [_], _ => rfl
  have D_Replica_kept_index : Dm K C_Replica "kept_index" "Replica.kept_index" s_Replica_kept_index ["self"] f35 _ := ⟨F35, ⟨a35, i35, k35⟩, B35⟩
  have F36 := fun_mk (st := s_Replica_commit_kept) l36 c36 k36
  have B36 := F36.binds (ps := ["self"]) fun _ _ _ _ _ _ us hl => match us, hl with | [_], _ => rfl
  have D_Replica_commit_kept : Dm K C_Replica "commit_kept" "Replica.commit_kept" s_Replica_commit_kept ["self"] f36 _ := ⟨F36, ⟨a36, i36, k36⟩, B36⟩
  have F37 := fun_mk (st := s_Replica_take_got) l37 c37 k37
  have B37 := F37.binds (ps := ["self", "sender", "good", "index"]) fun _ _ _ _ _ _ us hl => match us, hl with | [_, _, _, _], _ => rfl
  have D_Replica_take_got : Dm K C_Replica "take_got" "Replica.take_got" s_Replica_take_got ["self", "sender", "good", "index"] f37 _ := ⟨F37, ⟨a37, i37, k37⟩, B37⟩
  have F38 := fun_mk (st := s_Replica_take) l38 c38 k38
  have B38 := F38.binds (ps := ["self", "sender", "letter"]) fun _ _ _ _ _ _ us hl => match us, hl with | [_, _, _], _ => rfl
  have D_Replica_take : Dm K C_Replica "take" "Replica.take" s_Replica_take ["self", "sender", "letter"] f38 _ := ⟨F38, ⟨a38, i38, k38⟩, B38⟩
  have F39 := fun_mk (st := s_Replica_synced) l39 c39 k39
  have B39 := F39.binds (ps := ["self"]) fun _ _ _ _ _ _ us hl => match us, hl with | [_], _ => rfl
  have D_Replica_synced : Dm K C_Replica "synced" "Replica.synced" s_Replica_synced ["self"] f39 _ := ⟨F39, ⟨a39, i39, k39⟩, B39⟩
  have F40 := fun_mk (st := s_law_mixed) l40 c40 k40
  have B40 := F40.binds (ps := ["number", "k"]) fun _ _ _ _ _ _ us hl => match us, hl with | [_, _], _ => rfl
  have D_law_mixed : Dn K mg "_law_mixed" s_law_mixed ["number", "k"] f40 _ := ⟨F40, PySem.W.mg_of X G a40, k40, B40⟩
  have F41 := fun_mk (st := s_law_draw) l41 c41 k41
  have B41 := F41.binds (ps := ["draws"]) fun _ _ _ _ _ _ us hl => match us, hl with | [_], _ => rfl
  have D_law_draw : Dn K mg "_law_draw" s_law_draw ["draws"] f41 _ := ⟨F41, PySem.W.mg_of X G a41, k41, B41⟩
  have F42 := fun_mk (st := s_law_follower) l42 c42 k42
  have B42 := F42.binds (ps := ["draws"]) fun _ _ _ _ _ _ us hl => match us, hl with | [_], _ => rfl
  have D_law_follower : Dn K mg "_law_follower" s_law_follower ["draws"] f42 _ := ⟨F42, PySem.W.mg_of X G a42, k42, B42⟩
  have F43 := fun_mk (st := s_law_numbers) l43 c43 k43
  have B43 := F43.binds (ps := ["script"]) fun _ _ _ _ _ _ us hl => match us, hl with | [_], _ => rfl
  have D_law_numbers : Dn K mg "_law_numbers" s_law_numbers ["script"] f43 _ := ⟨F43, PySem.W.mg_of X G a43, k43, B43⟩
  have F44 := fun_mk (st := s_law_terms) l44 c44 k44
  have B44 := F44.binds (ps := ["part"]) fun _ _ _ _ _ _ us hl => match us, hl with | [_], _ => rfl
  have D_law_terms : Dn K mg "_law_terms" s_law_terms ["part"] f44 _ := ⟨F44, PySem.W.mg_of X G a44, k44, B44⟩
  have F45 := fun_mk (st := s_law_letter) l45 c45 k45
  have B45 := F45.binds (ps := ["draws", "part", "term"]) fun _ _ _ _ _ _ us hl => match us, hl with | [_, _, _], _ => rfl
  have D_law_letter : Dn K mg "_law_letter" s_law_letter ["draws", "part", "term"] f45 _ := ⟨F45, PySem.W.mg_of X G a45, k45, B45⟩
  have F46 := fun_mk (st := s_law_based) l46 c46 k46
  have B46 := F46.binds (ps := ["part", "letter"]) fun _ _ _ _ _ _ us hl => match us, hl with | [_, _], _ => rfl
  have D_law_based : Dn K mg "_law_based" s_law_based ["part", "letter"] f46 _ := ⟨F46, PySem.W.mg_of X G a46, k46, B46⟩
  have F47 := fun_mk (st := s_law_all_equal) l47 c47 k47
  have B47 := F47.binds (ps := ["actual", "due"]) fun _ _ _ _ _ _ us hl => match us, hl with | [_, _], _ => rfl
  have D_law_all_equal : Dn K mg "_law_all_equal" s_law_all_equal ["actual", "due"] f47 _ := ⟨F47, PySem.W.mg_of X G a47, k47, B47⟩
  have F48 := fun_mk (st := s_law_equal) l48 c48 k48
  have B48 := F48.binds (ps := ["actual", "due"]) fun _ _ _ _ _ _ us hl => match us, hl with | [_, _], _ => rfl
  have D_law_equal : Dn K mg "_law_equal" s_law_equal ["actual", "due"] f48 _ := ⟨F48, PySem.W.mg_of X G a48, k48, B48⟩
  have F49 := fun_mk (st := s_Counter_picture) l49 c49 k49
  have B49 := F49.binds (ps := ["self"]) fun _ _ _ _ _ _ us hl => match us, hl with | [_], _ => rfl
  have D_Counter_picture : Dm K C_Counter "picture" "Counter.picture" s_Counter_picture ["self"] f49 _ := ⟨F49, ⟨a49, i49, k49⟩, B49⟩
  have F50 := fun_mk (st := s_law_agrees) l50 c50 k50
  have B50 := F50.binds (ps := ["part", "due"]) fun _ _ _ _ _ _ us hl => match us, hl with | [_, _], _ => rfl
  have D_law_agrees : Dn K mg "_law_agrees" s_law_agrees ["part", "due"] f50 _ := ⟨F50, PySem.W.mg_of X G a50, k50, B50⟩
  have F51 := fun_mk (st := s_law) l51 c51 k51
  have B51 := F51.binds (ps := ["script"]) fun _ _ _ _ _ _ us hl => match us, hl with | [_], _ => rfl
  have D_law : Dn K mg "law" s_law ["script"] fa _ := ⟨F51, PySem.W.mg_of X G a51, k51, B51⟩
  have T_Replica : Tx_Replica K mg C_Replica := ⟨⟨pgC_Replica, hdC_Replica, poC_Replica, saC_Replica⟩, PySem.W.mg_of X G aC_Replica, nfC_me_Replica, nfC_group_Replica, nfC_term_Replica, nfC_voted_Replica, nfC_base_Replica, nfC_entries_Replica, nfC_role_Replica, nfC_leader_Replica, nfC_committed_Replica, nfC_applied_Replica, nfC_durable_Replica, nfC_state_Replica, nfC_ledger_Replica, nfC_records_Replica, nfC_letters_Replica, nfC_answers_Replica, nfC_births_Replica, nfC_votes_Replica, nfC_ahead_Replica, nfC_known_Replica, nfC_tokens_Replica⟩
  have T_Counter : Tx_Counter K mg C_Counter := ⟨⟨pgC_Counter, hdC_Counter, poC_Counter, saC_Counter⟩, PySem.W.mg_of X G aC_Counter, nfC_last_Counter⟩
  have b_len := PySem.W.mg_none_of X G z_len
  have b_range := PySem.W.mg_none_of X G z_range
  have b_tuple := PySem.W.mg_none_of X G z_tuple
  have b_max := PySem.W.mg_none_of X G z_max
  have b_min := PySem.W.mg_none_of X G z_min
  have b_enumerate := PySem.W.mg_none_of X G z_enumerate
  have b_list := PySem.W.mg_none_of X G z_list
  have b_isinstance := PySem.W.mg_none_of X G z_isinstance
  have b_str := PySem.W.mg_none_of X G z_str
  have b_int := PySem.W.mg_none_of X G z_int
  have b_bool := PySem.W.mg_none_of X G z_bool
  have g_FOLLOWER : ∃ u, mg "FOLLOWER" = some u ∧ RelV (.str "follower") u := ⟨_, PySem.W.mg_of X G q_FOLLOWER, _, rfl⟩
  have g_LEADER : ∃ u, mg "LEADER" = some u ∧ RelV (.str "leader") u := ⟨_, PySem.W.mg_of X G q_LEADER, _, rfl⟩
  have g_NOTHING : ∃ u, mg "NOTHING" = some u ∧ RelV (.ref e_NOTHING) u := ⟨_, PySem.W.mg_of X G q_NOTHING, rfl⟩
  have t_NOTHING : ∃ o, K.lookup e_NOTHING = some o ∧ o.cls = .type "tuple" ∧ o.dict = none := ⟨_, w_NOTHING, rfl, rfl⟩
  have k_NOTHING : ∀ H, SqT K H e_NOTHING [V.str "none"] := fun H => .inr ⟨_, _, _, w_NOTHING, rfl, rfl, by show 1 ≤ sizeLine; decide, (.cons ⟨_, rfl⟩ .nil)⟩
  have g_CANDIDATE : ∃ u, mg "CANDIDATE" = some u ∧ RelV (.str "candidate") u := ⟨_, PySem.W.mg_of X G q_CANDIDATE, _, rfl⟩
  refine ⟨PySem.W.fnOf "law" "law" (defArgs s_law) (defBody s_law) (defScope s_law) .none kV51 dc51 pm51 an51 cd51 ct51, fun s v => .of_eq rfl, fun base hb1 hb2 => ?_⟩
  have c_Replica_last_index := ok_Replica_last_index (P := l.prog) (w := w) (base := base) T_Replica T_Counter D_Replica_last_index b_len
  have c_Counter___init__ := ok_Counter___init__ (P := l.prog) (w := w) (base := base) T_Counter D_Counter___init__
  have c_state_of := ok_state_of (P := l.prog) (w := w) (base := base) T_Counter D_state_of c_Counter___init__
  have c_Replica_wake := ok_Replica_wake (P := l.prog) (w := w) (base := base) T_Replica T_Counter D_Replica_wake c_state_of c_Replica_last_index
  have c_Replica___init__ := ok_Replica___init__ (P := l.prog) (w := w) (base := base) T_Replica T_Counter D_Replica___init__ g_FOLLOWER c_Replica_wake
  have c_Replica_refuse := ok_Replica_refuse (P := l.prog) (w := w) (base := base) T_Replica T_Counter D_Replica_refuse c_Replica_last_index
  have c_Replica_set_term := ok_Replica_set_term (P := l.prog) (w := w) (base := base) T_Replica T_Counter D_Replica_set_term
  have c_Replica_entry_at := ok_Replica_entry_at (P := l.prog) (w := w) (base := base) T_Replica T_Counter D_Replica_entry_at
  have c_Replica_term_at := ok_Replica_term_at (P := l.prog) (w := w) (base := base) T_Replica T_Counter D_Replica_term_at c_Replica_entry_at
  have c_Replica_last_term := ok_Replica_last_term (P := l.prog) (w := w) (base := base) T_Replica T_Counter D_Replica_last_term c_Replica_term_at c_Replica_last_index
  have c_Replica_vote := ok_Replica_vote (P := l.prog) (w := w) (base := base) T_Replica T_Counter D_Replica_vote c_Replica_set_term c_Replica_last_index c_Replica_last_term
  have c_is_change := ok_is_change (P := l.prog) (w := w) (base := base) D_is_change b_len
  have c_members_of := ok_members_of (P := l.prog) (w := w) (base := base) D_members_of b_range c_is_change
  have c_Replica_members_at := ok_Replica_members_at (P := l.prog) (w := w) (base := base) T_Replica T_Counter D_Replica_members_at c_members_of
  have c_Replica_members := ok_Replica_members (P := l.prog) (w := w) (base := base) T_Replica T_Counter D_Replica_members c_Replica_members_at c_Replica_last_index
  have c_is_majority := ok_is_majority (P := l.prog) (w := w) (base := base) D_is_majority b_len
  have c_Replica_expect := ok_Replica_expect (P := l.prog) (w := w) (base := base) T_Replica T_Counter D_Replica_expect c_Replica_last_index
  have c_Replica_attach := ok_Replica_attach (P := l.prog) (w := w) (base := base) T_Replica T_Counter D_Replica_attach c_Replica_last_index
  have c_Replica_others := ok_Replica_others (P := l.prog) (w := w) (base := base) T_Replica T_Counter D_Replica_others c_Replica_members
  have c_Replica_send_to := ok_Replica_send_to (P := l.prog) (w := w) (base := base) T_Replica T_Counter D_Replica_send_to b_tuple c_Replica_term_at
  have c_Replica_nudge := ok_Replica_nudge (P := l.prog) (w := w) (base := base) T_Replica T_Counter D_Replica_nudge g_LEADER c_Replica_others c_Replica_send_to
  have c_Replica_take_lead := ok_Replica_take_lead (P := l.prog) (w := w) (base := base) T_Replica T_Counter D_Replica_take_lead g_NOTHING k_NOTHING g_LEADER c_Replica_nudge c_Replica_attach c_Replica_expect c_Replica_members
  have c_Replica_count_votes := ok_Replica_count_votes (P := l.prog) (w := w) (base := base) T_Replica T_Counter D_Replica_count_votes c_is_majority c_Replica_take_lead c_Replica_members
  have c_Replica_take_vote := ok_Replica_take_vote (P := l.prog) (w := w) (base := base) T_Replica T_Counter D_Replica_take_vote g_CANDIDATE c_Replica_count_votes
  have c_Replica_follow := ok_Replica_follow (P := l.prog) (w := w) (base := base) T_Replica T_Counter D_Replica_follow g_FOLLOWER
  have c_Replica_got := ok_Replica_got (P := l.prog) (w := w) (base := base) T_Replica T_Counter D_Replica_got
  have c_Counter_run := ok_Counter_run (P := l.prog) (w := w) (base := base) T_Counter D_Counter_run
  have c_Replica_apply := ok_Replica_apply (P := l.prog) (w := w) (base := base) T_Replica T_Counter D_Replica_apply g_LEADER g_NOTHING k_NOTHING c_Counter_run c_is_change c_Replica_entry_at
  have c_Replica_commit := ok_Replica_commit (P := l.prog) (w := w) (base := base) T_Replica T_Counter D_Replica_commit b_max c_Replica_apply
  have c_Replica_has_entry := ok_Replica_has_entry (P := l.prog) (w := w) (base := base) T_Replica T_Counter D_Replica_has_entry c_Replica_term_at c_Replica_last_index
  have c_Replica_take_entry := ok_Replica_take_entry (P := l.prog) (w := w) (base := base) T_Replica T_Counter D_Replica_take_entry b_min c_Replica_attach c_Replica_last_index c_Replica_has_entry
  have c_Replica_take_copy := ok_Replica_take_copy (P := l.prog) (w := w) (base := base) T_Replica T_Counter D_Replica_take_copy b_len b_min b_enumerate c_Replica_last_index c_Replica_got c_Replica_term_at c_Replica_commit c_Replica_take_entry
  have c_Replica_move_base := ok_Replica_move_base (P := l.prog) (w := w) (base := base) T_Replica T_Counter D_Replica_move_base b_max b_min c_Replica_last_index c_Replica_has_entry
  have c_Replica_restart_at := ok_Replica_restart_at (P := l.prog) (w := w) (base := base) T_Replica T_Counter D_Replica_restart_at c_state_of c_Replica_move_base
  have c_Replica_take_base := ok_Replica_take_base (P := l.prog) (w := w) (base := base) T_Replica T_Counter D_Replica_take_base c_Replica_got c_Replica_has_entry c_Replica_commit c_Replica_restart_at
  have c_Replica_kept_index := ok_Replica_kept_index (P := l.prog) (w := w) (base := base) T_Replica T_Counter D_Replica_kept_index b_range c_Replica_last_index c_is_majority c_Replica_term_at c_Replica_members
  have c_Replica_commit_kept := ok_Replica_commit_kept (P := l.prog) (w := w) (base := base) T_Replica T_Counter D_Replica_commit_kept g_LEADER c_Replica_commit c_Replica_kept_index
  have c_Replica_take_got := ok_Replica_take_got (P := l.prog) (w := w) (base := base) T_Replica T_Counter D_Replica_take_got b_max b_min g_LEADER c_Replica_commit_kept c_Replica_send_to c_Replica_members
  have c_Replica_take := ok_Replica_take (P := l.prog) (w := w) (base := base) T_Replica T_Counter D_Replica_take g_FOLLOWER c_Replica_take_got c_Replica_take_base c_Replica_follow c_Replica_take_copy c_Replica_take_vote c_Replica_vote c_Replica_set_term c_Replica_refuse
  have c_Replica_synced := ok_Replica_synced (P := l.prog) (w := w) (base := base) T_Replica T_Counter D_Replica_synced c_Replica_commit_kept c_Replica_last_index
  have c_law_mixed := ok_law_mixed (P := l.prog) (w := w) (base := base) D_law_mixed
  have c_law_draw := ok_law_draw (P := l.prog) (w := w) (base := base) D_law_draw b_len c_law_mixed
  have c_law_follower := ok_law_follower (P := l.prog) (w := w) (base := base) T_Replica T_Counter D_law_follower b_len b_tuple b_range b_max c_Replica_synced c_Replica_take c_law_draw c_Replica___init__
  have c_law_numbers := ok_law_numbers (P := l.prog) (w := w) (base := base) D_law_numbers b_range c_law_mixed
  have c_law_terms := ok_law_terms (P := l.prog) (w := w) (base := base) T_Replica T_Counter D_law_terms b_range b_len
  have c_law_letter := ok_law_letter (P := l.prog) (w := w) (base := base) T_Replica T_Counter D_law_letter c_law_draw c_law_terms
  have c_law_based := ok_law_based (P := l.prog) (w := w) (base := base) T_Replica T_Counter D_law_based b_max b_list c_law_terms c_Replica_last_index
  have c_law_equal := fun n => ok_equal (P := l.prog) (w := w) (base := base) D_law_equal D_law_all_equal b_isinstance b_list b_tuple b_bool b_int b_str b_len b_range n
  have c_Counter_picture := ok_Counter_picture (P := l.prog) (w := w) (base := base) T_Counter D_Counter_picture
  have c_law_agrees := ok_law_agrees (P := l.prog) (w := w) (base := base) T_Counter T_Replica D_law_agrees b_list b_len (c_law_equal 7) c_Counter_picture
  exact ok_law T_Replica T_Counter D_law b_len b_range b_max (c_law_equal 7) c_Replica_last_index c_Replica_take c_law_draw c_Replica_members c_law_agrees c_law_based c_law_letter c_Replica___init__ c_law_follower c_law_numbers
theorem walk {l : PySem.W.OpenLaw} {q : Program} {loose : List Str} {XP : (Str → Option Value) → Heap → Prop} {YP : World → Heap → Prop} {d : DefRec} {K : Params → PySem.W.Frag} (hn : l.most = some 63) (hdf : d.params.defaults = [])
    (hY : ∀ (w : World) (h : Heap), YP w h → (K w.params).In h)
    (F : ∀ (w : World) (mg : Str → Option Value) (fa : Addr) (h : Heap), (K w.params).In h → h.Ns mainGlobals mg → mg d.name = some (.ref fa) →
      ∃ fd : FuncData, (∀ (s : Shared) (u : Value), BindsTo s fd ⟨[u], []⟩ [("script", u)]) ∧ ∀ base : Heap, (K w.params).In base → base.Ns mainGlobals mg → FnOk l.prog w (K w.params) mg base CX0 17 fa fd ["script"] (sp_law (K w.params))) :
    PySem.W.WalkO q loose XP YP l.row.toRowW d [] (fun f vs => PySem.call f vs) :=
  L2.walk_of (n := 63) (k := 17) (x := "script") (CX := fun _ => CX0) (sp := fun w => sp_law (K w.params)) hn (by decide) hdf ⟨rfl, by decide, by decide⟩ hY F (fun _ _ a ns hl _ hS => ⟨a, ns, rfl, hS, hl, fun _ => rfl⟩) fun _ _ _ _ _ z => z
end Nz
open PySem PySem.W PyProof.Rows
set_option maxRecDepth 100000 in
set_option maxHeartbeats 0 in
theorem PySem.Challenge.cw_wholecloth_k30_bases_holds : PySem.Challenge.rw_wholecloth_k30_bases.Holds := by
  w_on; o_law; k_head; (case hw => w_witness2)
  k_fill
  refine Nz.walk (l := PySem.Challenge.rw_wholecloth_k30_bases) rfl rfl (fun w h Y => PySem.W.kIn_of Y) ?F
  case F =>
    intro w mg fa h KX G hmg
    refine' Nz.all_mk KX G hmg ?aC_Replica ?pgC_Replica ?hdC_Replica ?poC_Replica ?saC_Replica ?kcC_Replica ?mkC_Replica ?nfC_me_Replica ?nfC_group_Replica ?nfC_term_Replica ?nfC_voted_Replica ?nfC_base_Replica ?nfC_entries_Replica ?nfC_role_Replica ?nfC_leader_Replica ?nfC_committed_Replica ?nfC_applied_Replica ?nfC_durable_Replica ?nfC_state_Replica ?nfC_ledger_Replica ?nfC_records_Replica ?nfC_letters_Replica ?nfC_answers_Replica ?nfC_births_Replica ?nfC_votes_Replica ?nfC_ahead_Replica ?nfC_known_Replica ?nfC_tokens_Replica ?aC_Counter ?pgC_Counter ?hdC_Counter ?poC_Counter ?saC_Counter ?kcC_Counter ?mkC_Counter ?nfC_last_Counter ?a0 ?gq0 ?t0p ?rq0 ?l0 ?c0 ?k0 ?a1 ?i1 ?l1 ?c1 ?k1 ?lT1 ?a2 ?l2 ?c2 ?k2 ?a3 ?i3 ?l3 ?c3 ?k3 ?a4 ?i4 ?l4 ?c4 ?k4 ?a5 ?i5 ?l5 ?c5 ?k5 ?a6 ?i6 ?l6 ?c6 ?k6 ?a7 ?i7 ?l7 ?c7 ?k7 ?a8 ?i8 ?l8 ?c8 ?k8 ?a9 ?i9 ?l9 ?c9 ?k9 ?a10 ?i10 ?l10 ?c10 ?k10 ?a11 ?l11 ?c11 ?k11 ?a12 ?l12 ?c12 ?k12 ?a13 ?i13 ?l13 ?c13 ?k13 ?a14 ?gq14 ?t14p ?rq14 ?l14 ?c14 ?k14 ?a15 ?l15 ?c15 ?k15 ?a16 ?i16 ?l16 ?c16 ?k16 ?a17 ?i17 ?l17 ?c17 ?k17 ?a18 ?i18 ?l18 ?c18 ?k18 ?a19 ?i19 ?l19 ?c19 ?k19 ?a20 ?i20 ?l20 ?c20 ?k20 ?a21 ?i21 ?l21 ?c21 ?k21 ?a22 ?i22 ?l22 ?c22 ?k22 ?a23 ?i23 ?l23 ?c23 ?k23 ?a24 ?i24 ?l24 ?c24 ?k24 ?a25 ?i25 ?l25 ?c25 ?k25 ?a26 ?i26 ?l26 ?c26 ?k26 ?a27 ?i27 ?l27 ?c27 ?k27 ?a28 ?i28 ?l28 ?c28 ?k28 ?a29 ?i29 ?l29 ?c29 ?k29 ?a30 ?i30 ?l30 ?c30 ?k30 ?a31 ?i31 ?l31 ?c31 ?k31 ?a32 ?i32 ?l32 ?c32 ?k32 ?a33 ?i33 ?l33 ?c33 ?k33 ?a34 ?i34 ?l34 ?c34 ?k34 ?a35 ?i35 ?l35 ?c35 ?k35 ?a36 ?i36 ?l36 ?c36 ?k36 ?a37 ?i37 ?l37 ?c37 ?k37 ?a38 ?i38 ?l38 ?c38 ?k38 ?a39 ?i39 ?l39 ?c39 ?k39 ?a40 ?l40 ?c40 ?k40 ?a41 ?l41 ?c41 ?k41 ?a42 ?l42 ?c42 ?k42 ?a43 ?l43 ?c43 ?k43 ?a44 ?l44 ?c44 ?k44 ?a45 ?l45 ?c45 ?k45 ?a46 ?l46 ?c46 ?k46 ?a47 ?l47 ?c47 ?k47 ?a48 ?l48 ?c48 ?k48 ?a49 ?i49 ?l49 ?c49 ?k49 ?a50 ?l50 ?c50 ?k50 ?a51 ?l51 ?c51 ?k51 ?z_len ?z_range ?z_tuple ?z_max ?z_min ?z_enumerate ?z_list ?z_isinstance ?z_str ?z_int ?z_bool ?q_FOLLOWER ?q_LEADER ?q_NOTHING ?w_NOTHING ?q_CANDIDATE
    (case aC_Replica => k_is)
    (case pgC_Replica => k_is)
    (case hdC_Replica => k_is)
    (case poC_Replica => k_is)
    (case saC_Replica => k_is)
    (case kcC_Replica => k_is)
    (case mkC_Replica => k_is)
    (case nfC_me_Replica => k_is)
    (case nfC_group_Replica => k_is)
    (case nfC_term_Replica => k_is)
    (case nfC_voted_Replica => k_is)
    (case nfC_base_Replica => k_is)
    (case nfC_entries_Replica => k_is)
    (case nfC_role_Replica => k_is)
    (case nfC_leader_Replica => k_is)
    (case nfC_committed_Replica => k_is)
    (case nfC_applied_Replica => k_is)
    (case nfC_durable_Replica => k_is)
    (case nfC_state_Replica => k_is)
    (case nfC_ledger_Replica => k_is)
    (case nfC_records_Replica => k_is)
    (case nfC_letters_Replica => k_is)
    (case nfC_answers_Replica => k_is)
    (case nfC_births_Replica => k_is)
    (case nfC_votes_Replica => k_is)
    (case nfC_ahead_Replica => k_is)
    (case nfC_known_Replica => k_is)
    (case nfC_tokens_Replica => k_is)
    (case aC_Counter => k_is)
    (case pgC_Counter => k_is)
    (case hdC_Counter => k_is)
    (case poC_Counter => k_is)
    (case saC_Counter => k_is)
    (case kcC_Counter => k_is)
    (case mkC_Counter => k_is)
    (case nfC_last_Counter => k_is)
    (case a0 => k_is)
    (case gq0 => k_is)
    (case t0p => k_is)
    (case rq0 => k_is)
    (case l0 => k_is)
    (case c0 => k_is)
    (case k0 => k_is)
    (case a1 => k_is)
    (case i1 => k_is)
    (case l1 => k_is)
    (case c1 => k_is)
    (case k1 => k_is)
    (case lT1 => k_is)
    (case a2 => k_is)
    (case l2 => k_is)
    (case c2 => k_is)
    (case k2 => k_is)
    (case a3 => k_is)
    (case i3 => k_is)
    (case l3 => k_is)
    (case c3 => k_is)
    (case k3 => k_is)
    (case a4 => k_is)
    (case i4 => k_is)
    (case l4 => k_is)
    (case c4 => k_is)
    (case k4 => k_is)
    (case a5 => k_is)
    (case i5 => k_is)
    (case l5 => k_is)
    (case c5 => k_is)
    (case k5 => k_is)
    (case a6 => k_is)
    (case i6 => k_is)
    (case l6 => k_is)
    (case c6 => k_is)
    (case k6 => k_is)
    (case a7 => k_is)
    (case i7 => k_is)
    (case l7 => k_is)
    (case c7 => k_is)
    (case k7 => k_is)
    (case a8 => k_is)
    (case i8 => k_is)
    (case l8 => k_is)
    (case c8 => k_is)
    (case k8 => k_is)
    (case a9 => k_is)
    (case i9 => k_is)
    (case l9 => k_is)
    (case c9 => k_is)
    (case k9 => k_is)
    (case a10 => k_is)
    (case i10 => k_is)
    (case l10 => k_is)
    (case c10 => k_is)
    (case k10 => k_is)
    (case a11 => k_is)
    (case l11 => k_is)
    (case c11 => k_is)
    (case k11 => k_is)
    (case a12 => k_is)
    (case l12 => k_is)
    (case c12 => k_is)
    (case k12 => k_is)
    (case a13 => k_is)
    (case i13 => k_is)
    (case l13 => k_is)
    (case c13 => k_is)
    (case k13 => k_is)
    (case a14 => k_is)
    (case gq14 => k_is)
    (case t14p => k_is)
    (case rq14 => k_is)
    (case l14 => k_is)
    (case c14 => k_is)
    (case k14 => k_is)
    (case a15 => k_is)
    (case l15 => k_is)
    (case c15 => k_is)
    (case k15 => k_is)
    (case a16 => k_is)
    (case i16 => k_is)
    (case l16 => k_is)
    (case c16 => k_is)
    (case k16 => k_is)
    (case a17 => k_is)
    (case i17 => k_is)
    (case l17 => k_is)
    (case c17 => k_is)
    (case k17 => k_is)
    (case a18 => k_is)
    (case i18 => k_is)
    (case l18 => k_is)
    (case c18 => k_is)
    (case k18 => k_is)
    (case a19 => k_is)
    (case i19 => k_is)
    (case l19 => k_is)
    (case c19 => k_is)
    (case k19 => k_is)
    (case a20 => k_is)
    (case i20 => k_is)
    (case l20 => k_is)
    (case c20 => k_is)
    (case k20 => k_is)
    (case a21 => k_is)
    (case i21 => k_is)
    (case l21 => k_is)
    (case c21 => k_is)
    (case k21 => k_is)
    (case a22 => k_is)
    (case i22 => k_is)
    (case l22 => k_is)
    (case c22 => k_is)
    (case k22 => k_is)
    (case a23 => k_is)
    (case i23 => k_is)
    (case l23 => k_is)
    (case c23 => k_is)
    (case k23 => k_is)
    (case a24 => k_is)
    (case i24 => k_is)
    (case l24 => k_is)
    (case c24 => k_is)
    (case k24 => k_is)
    (case a25 => k_is)
    (case i25 => k_is)
    (case l25 => k_is)
    (case c25 => k_is)
    (case k25 => k_is)
    (case a26 => k_is)
    (case i26 => k_is)
    (case l26 => k_is)
    (case c26 => k_is)
    (case k26 => k_is)
    (case a27 => k_is)
    (case i27 => k_is)
    (case l27 => k_is)
    (case c27 => k_is)
    (case k27 => k_is)
    (case a28 => k_is)
    (case i28 => k_is)
    (case l28 => k_is)
    (case c28 => k_is)
    (case k28 => k_is)
    (case a29 => k_is)
    (case i29 => k_is)
    (case l29 => k_is)
    (case c29 => k_is)
    (case k29 => k_is)
    (case a30 => k_is)
    (case i30 => k_is)
    (case l30 => k_is)
    (case c30 => k_is)
    (case k30 => k_is)
    (case a31 => k_is)
    (case i31 => k_is)
    (case l31 => k_is)
    (case c31 => k_is)
    (case k31 => k_is)
    (case a32 => k_is)
    (case i32 => k_is)
    (case l32 => k_is)
    (case c32 => k_is)
    (case k32 => k_is)
    (case a33 => k_is)
    (case i33 => k_is)
    (case l33 => k_is)
    (case c33 => k_is)
    (case k33 => k_is)
    (case a34 => k_is)
    (case i34 => k_is)
    (case l34 => k_is)
    (case c34 => k_is)
    (case k34 => k_is)
    (case a35 => k_is)
    (case i35 => k_is)
    (case l35 => k_is)
    (case c35 => k_is)
    (case k35 => k_is)
    (case a36 => k_is)
    (case i36 => k_is)
    (case l36 => k_is)
    (case c36 => k_is)
    (case k36 => k_is)
    (case a37 => k_is)
    (case i37 => k_is)
    (case l37 => k_is)
    (case c37 => k_is)
    (case k37 => k_is)
    (case a38 => k_is)
    (case i38 => k_is)
    (case l38 => k_is)
    (case c38 => k_is)
    (case k38 => k_is)
    (case a39 => k_is)
    (case i39 => k_is)
    (case l39 => k_is)
    (case c39 => k_is)
    (case k39 => k_is)
    (case a40 => k_is)
    (case l40 => k_is)
    (case c40 => k_is)
    (case k40 => k_is)
    (case a41 => k_is)
    (case l41 => k_is)
    (case c41 => k_is)
    (case k41 => k_is)
    (case a42 => k_is)
    (case l42 => k_is)
    (case c42 => k_is)
    (case k42 => k_is)
    (case a43 => k_is)
    (case l43 => k_is)
    (case c43 => k_is)
    (case k43 => k_is)
    (case a44 => k_is)
    (case l44 => k_is)
    (case c44 => k_is)
    (case k44 => k_is)
    (case a45 => k_is)
    (case l45 => k_is)
    (case c45 => k_is)
    (case k45 => k_is)
    (case a46 => k_is)
    (case l46 => k_is)
    (case c46 => k_is)
    (case k46 => k_is)
    (case a47 => k_is)
    (case l47 => k_is)
    (case c47 => k_is)
    (case k47 => k_is)
    (case a48 => k_is)
    (case l48 => k_is)
    (case c48 => k_is)
    (case k48 => k_is)
    (case a49 => k_is)
    (case i49 => k_is)
    (case l49 => k_is)
    (case c49 => k_is)
    (case k49 => k_is)
    (case a50 => k_is)
    (case l50 => k_is)
    (case c50 => k_is)
    (case k50 => k_is)
    (case a51 => k_is)
    (case l51 => k_is)
    (case c51 => k_is)
    (case k51 => k_is)
    (case z_len => k_is)
    (case z_range => k_is)
    (case z_tuple => k_is)
    (case z_max => k_is)
    (case z_min => k_is)
    (case z_enumerate => k_is)
    (case z_list => k_is)
    (case z_isinstance => k_is)
    (case z_str => k_is)
    (case z_int => k_is)
    (case z_bool => k_is)
    (case q_FOLLOWER => k_is)
    (case q_LEADER => k_is)
    (case q_NOTHING => k_is)
    (case w_NOTHING => k_is)
    (case q_CANDIDATE => k_is)
