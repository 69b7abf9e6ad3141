import PyProof.Rows.All
import Wide.All
import OpenK.AllK
import Wide.FinOn
import HandS.ForMost
import HandS.IsInst
import HandS.TupAny
import HandS.Flow
import HandS.SortInts
import HandS.More
import HandS.Exc
import HandS.TryOnly
import HandS.SuiteRaise
import HandS.RaiseFrom
import HandS.ExcOwn
import HandS.WordsExc
import HandS.ExcIs
import HandS.Strs
import HandS.SetBool
import HandS.TupSets
import HandS.SetFor
import HandS.Deep
import HandS.Property
import HandS.Zip
import HandS.SortKw
import HandS.Defaults
import HandS.DictTup
import HandS.DictComp
import HandS.Conv
import HandS.Walk
import KE.DataMinMax
import KE.SortData
import KE.SortKeyHeap
import HandS.Iter
import HandS.ExcValue
import KE.DatumOrd
import KE.GoesEnumKw
import KE.DataCmp
import HandS.TupLe
import KE.KDictCopyH
import PySem.Challenge.RW_wholecloth_k50_clerks_ask_for_a_start
set_option Elab.async false
set_option linter.all false
set_option maxRecDepth 100000
set_option maxHeartbeats 4000000
/-! The walk's own layer: M (what is owned and may change), G (what stands for good), H (both). -/
namespace Nz
open PySem L2 PySem.Spec PyProof.Rows

/-! ### heaps -/
abbrev Ex (G G' : Hp) : Prop := Same G G'
structure J (M G H : Hp) : Prop where
  m : Same M H
  g : Same G H
  d : ∀ a o, M a = some o → G a = none
theorem upd_ne' {H : Hp} {a b : Addr} {o u : HO} (e : H b = some u) (h : b ≠ a) : upd H a o b = some u := by rw [upd_ne h]; exact e
theorem Ex.new {G : Hp} {t : Addr} {o : HO} (h : G t = none) : Ex G (upd G t o) := fun a u e => by
  rw [upd_ne (ne_of_none e h)]; exact e
section
variable {M G H : Hp} {t d : Addr} {o o' : HO}
theorem J.freeM (j : J M G H) (h : H t = none) : M t = none := j.m.free h
theorem J.freeG (j : J M G H) (h : H t = none) : G t = none := j.g.free h
theorem J.newG (j : J M G H) (h : H t = none) : J M (upd G t o) (upd H t o) where
  m := fun a u e => by rw [upd_ne (ne_of_none (j.m a u e) h)]; exact j.m a u e
  g := fun a u e => by
    by_cases q : a = t
    · subst q; rw [upd_same] at e ⊢; exact e
    · rw [upd_ne q] at e ⊢; exact j.g a u e
  d := fun a u e => by rw [upd_ne (ne_of_none (j.m a u e) h)]; exact j.d a u e
theorem J.newM (j : J M G H) (h : H t = none) : J (upd M t o) G (upd H t o) where
  g := fun a u e => by rw [upd_ne (ne_of_none (j.g a u e) h)]; exact j.g a u e
  m := fun a u e => by
    by_cases q : a = t
    · subst q; rw [upd_same] at e ⊢; exact e
    · rw [upd_ne q] at e ⊢; exact j.m a u e
  d := fun a u e => by
    by_cases q : a = t
    · subst q; exact j.freeG h
    · rw [upd_ne q] at e; exact j.d a u e
theorem J.put (j : J M G H) (h : M t = some o) : J (upd M t o') G (upd H t o') where
  g := fun a u e => by
    have q : a ≠ t := fun z => by subst z; rw [j.d a o h] at e; cases e
    rw [upd_ne q]; exact j.g a u e
  m := fun a u e => by
    by_cases q : a = t
    · subst q; rw [upd_same] at e ⊢; exact e
    · rw [upd_ne q] at e ⊢; exact j.m a u e
  d := fun a u e => by
    by_cases q : a = t
    · subst q; exact j.d a o h
    · rw [upd_ne q] at e; exact j.d a u e
theorem J.freeze (j : J (upd M t o) G H) (h : M t = none) : J M (upd G t o) H where
  m := fun a u e => j.m a u (by rw [upd_ne (ne_of_none e h)]; exact e)
  g := fun a u e => by
    by_cases q : a = t
    · subst q; rw [upd_same] at e; cases e; exact j.m a _ upd_same
    · rw [upd_ne q] at e; exact j.g a u e
  d := fun a u e => by
    have q : a ≠ t := ne_of_none e h
    rw [upd_ne q]; exact j.d a u (by rw [upd_ne q]; exact e)
theorem J.freezeG (j : J (upd M t o) G H) : G t = none := j.d t o upd_same
theorem J.ex (j : J M G H) {H' : Hp} (e : Same H H') : J M G H' := ⟨j.m.trans e, j.g.trans e, j.d⟩
theorem J.start (H : Hp) : J (fun _ => none) H H := ⟨fun _ _ e => (nomatch e), Same.refl H, fun _ _ e => (nomatch e)⟩
end

/-! ### reading along -/
theorem rd_same {G G' : Hp} {a : Addr} {u : HO} (e : Same G G') (h : Rd G a u) : Rd G' a u := by
  rcases h with h | ⟨o, h⟩
  · exact .inl (e a _ h)
  · exact .inr ⟨o, e a _ h⟩
section
variable {K : PySem.W.Frag} {G G' : Hp} {a : Addr} {xs : List V}
theorem sl_of (h : G a = some (.lst xs)) : SqL K G a xs := .inl (.inl h)
theorem st_of (h : G a = some (.tup xs)) : SqT K G a xs := .inl (.inl h)
theorem sl_mono (e : Same G G') (h : SqL K G a xs) : SqL K G' a xs := h.elim (fun h => .inl (rd_same e h)) .inr
theorem st_mono (e : Same G G') (h : SqT K G a xs) : SqT K G' a xs := h.elim (fun h => .inl (rd_same e h)) .inr
end

/-! ### M but for one cell -/
def Ag (p : Addr) (M M' : Hp) : Prop := ∀ b, b ≠ p → M' b = M b
theorem Ag.refl (p : Addr) (M : Hp) : Ag p M M := fun _ _ => rfl
theorem Ag.trans {p : Addr} {M M1 M2 : Hp} (a : Ag p M M1) (b : Ag p M1 M2) : Ag p M M2 := fun c h => (b c h).trans (a c h)
theorem Ag.upd {p : Addr} {M : Hp} {o : HO} : Ag p M (upd M p o) := fun _ h => upd_ne h

/-- M without a cell -/
def del (M : Hp) (L : Addr) : Hp := fun b => if b = L then none else M b
theorem del_same {M : Hp} {L : Addr} : del M L L = none := by unfold del; rw [if_pos rfl]
theorem del_ne {M : Hp} {L b : Addr} (h : b ≠ L) : del M L b = M b := by unfold del; rw [if_neg h]
theorem J.seal {M G H : Hp} {L : Addr} {o : HO} (j : J M G H) (h : M L = some o) : J (del M L) (upd G L o) H where
  m := fun a u e => by
    by_cases q : a = L
    · subst q; rw [del_same] at e; cases e
    · rw [del_ne q] at e; exact j.m a u e
  g := fun a u e => by
    by_cases q : a = L
    · subst q; rw [upd_same] at e; cases e; exact j.m _ _ h
    · rw [upd_ne q] at e; exact j.g a u e
  d := fun a u e => by
    by_cases q : a = L
    · subst q; rw [del_same] at e; cases e
    · rw [del_ne q] at e; rw [upd_ne q]; exact j.d a u e
theorem J.out {M G H : Hp} {L : Addr} {o : HO} (j : J M G H) (h : M L = some o) : G L = none := j.d L o h
theorem J.drop {M G H : Hp} (L : Addr) (j : J M G H) : J (del M L) G H where
  m := fun a u e => by
    by_cases q : a = L
    · subst q; rw [del_same] at e; cases e
    · rw [del_ne q] at e; exact j.m a u e
  g := j.g
  d := fun a u e => by
    by_cases q : a = L
    · subst q; rw [del_same] at e; cases e
    · rw [del_ne q] at e; exact j.d a u e
/-- what stood for good is owned again, where G0 knew nothing of it -/
theorem J.thaw {M G G0 H : Hp} {b : Addr} {u : HO} (j : J M G H) (e : Ex G0 G) (h : G b = some u) (hb : G0 b = none) : J (upd M b u) G0 H where
  m := fun a x q => by
    by_cases z : a = b
    · subst z; rw [upd_same] at q; cases q; exact j.g _ _ h
    · rw [upd_ne z] at q; exact j.m a x q
  g := fun a x q => j.g a x (e a x q)
  d := fun a x q => by
    by_cases z : a = b
    · subst z; exact hb
    · rw [upd_ne z] at q
      cases r : G0 a with
      | none => rfl
      | some y => have := j.d a x q; rw [e a y r] at this; cases this
theorem J.less {M G G0 H : Hp} (j : J M G H) (e : Ex G0 G) : J M G0 H where
  m := j.m
  g := fun a x q => j.g a x (e a x q)
  d := fun a x q => by
    cases r : G0 a with
    | none => rfl
    | some y => have := j.d a x q; rw [e a y r] at this; cases this
theorem J.own {M G H : Hp} {b : Addr} {u : HO} (j : J M G H) (h : H b = some u) (hb : G b = none) : J (upd M b u) G H where
  m := fun a x q => by
    by_cases z : a = b
    · subst z; rw [upd_same] at q; cases q; exact h
    · rw [upd_ne z] at q; exact j.m a x q
  g := j.g
  d := fun a x q => by
    by_cases z : a = b
    · subst z; exact hb
    · rw [upd_ne z] at q; exact j.d a x q
/-- M but for two cells -/
def Ag2 (p L : Addr) (M M' : Hp) : Prop := ∀ b, b ≠ p → b ≠ L → M' b = M b
theorem Ag2.refl (p L : Addr) (M : Hp) : Ag2 p L M M := fun _ _ _ => rfl
theorem Ag2.upd {p L : Addr} {M M' : Hp} {o : HO} (h : Ag2 p L M M') : Ag2 p L M (upd M' L o) := fun b h1 h2 => (upd_ne h2).trans (h b h1 h2)
theorem Ag2.ag {p L : Addr} {M M1 M2 : Hp} (h : Ag2 p L M M1) (a : Ag p M1 M2) : Ag2 p L M M2 := fun b h1 h2 => (a b h1).trans (h b h1 h2)
theorem Ag2.del {p L : Addr} {M M' : Hp} (h : Ag2 p L M M') (n : M L = none) : Ag p M (del M' L) := fun b h1 => by
  by_cases q : b = L
  · subst q; rw [del_same, n]
  · rw [del_ne q]; exact h b h1 q
theorem Ag.del_eq {L : Addr} {M M2 : Hp} (a : Ag L M M2) (n : M L = none) : del M2 L = M := by
  funext b
  by_cases q : b = L
  · subst q; rw [del_same, n]
  · rw [del_ne q]; exact a b q
theorem Ag.at {p b : Addr} {M M' : Hp} {o : HO} (a : Ag p M M') (e : M b = some o) (h : b ≠ p) : M' b = some o := (a b h).trans e

/-! ### promises: al: what is known of the arguments, then J; the end likewise -/
def Sg {α : Type} (pre : α → List V → Hp → Hp → Prop) (post : α → Hp → Hp → V → Hp → Hp → Prop) : Sp := fun vs H Q _ =>
  ∃ a M G, J M G H ∧ pre a vs M G ∧ ∀ v M' G' H', J M' G' H' → Ex G G' → post a M G v M' G' → Q v H'
theorem w_sg {α : Type} {pre : α → List V → Hp → Hp → Prop} {post : α → Hp → Hp → V → Hp → Hp → Prop} {vs : List V} {M G H : Hp} {Q : VK} {E : XK} (a : α) (j : J M G H) (hp : pre a vs M G)
    (k : ∀ v M' G' H', J M' G' H' → Ex G G' → post a M G v M' G' → Q v H') : Sg pre post vs H Q E := ⟨a, M, G, j, hp, k⟩

/-! ### a def under its name -/
structure Dn (K : PySem.W.Frag) (mg : Str → Option Value) (x : Str) (st : Stmt) (ps : List Str) (f : Addr) (fd : FuncData) : Prop where
  fn : Fun K x x st f fd
  mgf : mg x = some (.ref f)
  kp : PySem.W.keepIn K (.ref f) = true
  bn : Binds K fd ps []
structure Cal (P : Program) (w : World) (K : PySem.W.Frag) (mg : Str → Option Value) (base : Heap) (CX : CXT) (k : Nat) (x : Str) (sp : Sp) : Prop where
  ex : ∃ (f : Addr) (fd : FuncData) (ps : List Str), FnOk P w K mg base CX k f fd ps sp ∧ mg x = some (.ref f) ∧ PySem.W.keepIn K (.ref f) = true ∧ Binds K fd ps []
section
variable {P : Program} {w : World} {K : PySem.W.Frag} {mg : Str → Option Value} {base : Heap} {CX : CXT}
theorem Dn.cal {x : Str} {st : Stmt} {ps : List Str} {f : Addr} {fd : FuncData} {k : Nat} {sp : Sp} (D : Dn K mg x st ps f fd) (F : FnOk P w K mg base CX k f fd ps sp) : Cal P w K mg base CX k x sp := ⟨f, fd, ps, F, D.mgf, D.kp, D.bn⟩
theorem Cal.mono {x : Str} {j k : Nat} {sp : Sp} (c : Cal P w K mg base CX j x sp) (h : j ≤ k) : Cal P w K mg base CX k x sp := by
  obtain ⟨f, fd, ps, F, a, b, d⟩ := c.ex
  exact ⟨f, fd, ps, F.mono h, a, b, d⟩
/-- a def that lets nothing out: its body -/
theorem Dn.ok {x : Str} {st : Stmt} {ps : List Str} {f : Addr} {fd : FuncData} {N : List Str} {k : Nat} {sp : Sp} (D : Dn K mg x st ps f fd) (S : FnScope N ps (defScope st)) (len : ∀ vs H Q E, sp vs H Q E → vs.length = ps.length)
    (hbody : ∀ (cdv : Value) (A : Around) (outer : List Env) (s : Shared) (H : Hp) (vs : List V) (Q : VK) (E : XK), Room k (A.deeper (envOfC x (defScope st) s.heap.objs.size f cdv)) → sp vs H Q E →
      ∃ t, PSs (cxOf CX0 P w K mg base N x (defScope st) f cdv A outer s H E).nox (defBody st) t ∧ t { nx := fun _ H' => Q .non H', rt := Q } (start N vs) H) : Cal P w K mg base CX0 (k + 1) x sp :=
  D.cal (D.fn.ok S len hbody)
end
section
variable {X : Cx} {CX : CXT} {k j : Nat} {x : Str} {sp : Sp} {p pos : Pos} {e : Expr} {es : List Expr} {t : TA} {E : XK}
theorem pe_cal (c : Cal X.prog X.w X.K X.mg X.base CX0 k x sp) (hr : Room j X.A) (hk : k ≤ j) (hg : Gl X x) (ha : PA X (e :: es) t)
    (hdb : (x == ("__debug__" : Str)) = false := by decide) (he : starEach (e :: es) X.env = (false, eval e X.env) :: starEach es X.env := by rfl) (hpl : (backTo pos (starEach es X.env)).any (·.1) = false := by rfl) :
    PE X (.Call (.Name x p) (e :: es) [] pos) (tCall sp [] E0 t) := by
  obtain ⟨f, fd, ps, F, hm, kp, b⟩ := c.ex
  exact pe_call F (hr.mono hk) hg hm kp b .nil pass0 ha hdb he hpl
theorem pe_cal0 (c : Cal X.prog X.w X.K X.mg X.base CX0 k x sp) (hr : Room j X.A) (hk : k ≤ j) (hg : Gl X x)
    (hdb : (x == ("__debug__" : Str)) = false := by decide) : PE X (.Call (.Name x p) [] [] pos) (tCall sp [] E0 tNil) := by
  obtain ⟨f, fd, ps, F, hm, kp, b⟩ := c.ex
  exact pe_call0 F (hr.mono hk) hg hm kp b .nil pass0 hdb
/-! ### operators whatever their operands are -/
def uAdd (K : PySem.W.Frag) : R2 := fun x y H Q => rI0 (fun i j => .int (i + j)) x y H Q ∨ (rCat x y H Q ∨ rCatA K x y H Q)
theorem op_uAdd : OpR X (binaryOp .Add) (uAdd X.K) := op_add.or (op_cat.or op_catA)
def uEq (K : PySem.W.Frag) : R2 := fun x y H Q => rEq x y H Q ∨ rEqD K x y H Q
theorem op_uEq (hr : Room j X.A) : OpR X (compareOp .Eq) (uEq X.K) := op_eq.or (op_eqD hr.units)
def uNe (K : PySem.W.Frag) : R2 := fun x y H Q => rNe x y H Q ∨ rNeD K x y H Q
theorem op_uNe (hr : Room j X.A) : OpR X (compareOp .NotEq) (uNe X.K) := op_ne.or (op_neD hr.units)
def uIx (K : PySem.W.Frag) : R2 := fun x y H Q => rIxL K x y H Q ∨ rIxT K x y H Q
theorem ix_u : IxR X (uIx X.K) := ix_list.or ix_tup
def uSl (K : PySem.W.Frag) : V → Option Int → Option Int → Hp → VK → Prop := fun x lo hi H Q => rSlL K x lo hi H Q ∨ rSlA K x lo hi H Q
theorem sl_u : SlR X (uSl X.K) := sl_list.or sl_tupA
def uMul : R2 := fun x y H Q => rI CMul (fun i j => .int (i * j)) x y H Q ∨ rRep x y H Q
theorem op_uMul : OpR X (binaryOp .Mult) uMul := op_mul.or op_rep
def uLen (K : PySem.W.Frag) : List V → Hp → VK → Prop := fun xs H Q => (∃ p ys, xs = [.ref p] ∧ (SqL K H p ys ∨ SqT K H p ys) ∧ Q (.int ys.length) H) ∨ (∃ a kvs, xs = [V.ref a] ∧ H a = some (.dK kvs) ∧ Q (.int kvs.length) H)
theorem call_uLen : CallR X (.builtin "len") (uLen X.K) := call_len_seq.or call_lenD
end

theorem bt_int : bootBuiltins "int" = some (.type "int") := by decide +kernel
theorem bt_str : bootBuiltins "str" = some (.type "str") := by decide +kernel
theorem bt_bool : bootBuiltins "bool" = some (.type "bool") := by decide +kernel
theorem bt_list : bootBuiltins "list" = some (.type "list") := by decide +kernel
theorem bt_tuple : bootBuiltins "tuple" = some (.type "tuple") := by decide +kernel
theorem bt_dict : bootBuiltins "dict" = some (.type "dict") := by decide +kernel
theorem bt_set : bootBuiltins "set" = some (.type "set") := by decide +kernel
theorem bt_isinstance : bootBuiltins "isinstance" = some (.builtin "isinstance") := by decide +kernel
theorem bt_min : bootBuiltins "min" = some (.builtin "min") := by decide +kernel
theorem bt_max : bootBuiltins "max" = some (.builtin "max") := by decide +kernel
theorem bt_sorted : bootBuiltins "sorted" = some (.builtin "sorted") := by decide +kernel
theorem bt_sum : bootBuiltins "sum" = some (.builtin "sum") := by decide +kernel
theorem bt_abs : bootBuiltins "abs" = some (.builtin "abs") := by decide +kernel
theorem pe_gk {X : Cx} {x : Str} {pos : Pos} {v : V} (hg : Gl X x) (h : ∃ u, X.mg x = some u ∧ RelV v u) (hd : (x == ("__debug__" : Str)) = false := by decide) : PE X (.Name x pos) (tC v) := by
  obtain ⟨u, hm, r⟩ := h
  exact pe_glob hg hm r hd

section
variable {X : Cx} {j : Nat} {K : PySem.W.Frag}
theorem op_uAddK (h : X.K = K) : OpR X (binaryOp .Add) (uAdd K) := h ▸ op_uAdd
theorem op_uEqK (h : X.K = K) (hr : Room j X.A) : OpR X (compareOp .Eq) (uEq K) := h ▸ op_uEq hr
theorem op_uNeK (h : X.K = K) (hr : Room j X.A) : OpR X (compareOp .NotEq) (uNe K) := h ▸ op_uNe hr
theorem ix_uK (h : X.K = K) : IxR X (uIx K) := h ▸ ix_u
theorem sl_uK (h : X.K = K) : SlR X (uSl K) := h ▸ sl_u
theorem call_uLenK (h : X.K = K) : CallR X (.builtin "len") (uLen K) := h ▸ call_uLen
theorem call_isiK' (h : X.K = K) : CallR X (.builtin "isinstance") (rIsi K) := h ▸ call_isi
theorem op_inK (h : X.K = K) : OpR X (compareOp .In) (rIn K false) := h ▸ op_in_seq
theorem op_notInK (h : X.K = K) : OpR X (compareOp .NotIn) (rIn K true) := h ▸ op_notIn_seq
end

/-! ### the steps -/
section
variable {K : PySem.W.Frag} {M G H : Hp} {σ : L2.St} {i : Nat} {v x y : V} {ta tb tc te : TE} {r r' : R2} {Q : VK} {D : Ends} {t u : TS} {c c' : TT} {QB : Bool → Hp → Prop} {g : TG} {a b p : Addr} {xs ys : List V} {m n : Int} {QL : List V → Hp → Prop}
theorem w_var (h : σ[i]? = some (some v)) (q : Q v H) : tVar i σ H Q := ⟨v, h, q⟩
theorem w_c (q : Q v H) : tC v σ H Q := q
theorem w_op (h : ta σ H fun x H1 => tb σ H1 fun y H2 => r x y H2 Q) : tOp r ta tb σ H Q := h
theorem w_un {r : V → Hp → VK → Prop} (h : ta σ H fun x H1 => r x H1 Q) : tUn r ta σ H Q := h
theorem w_chain (h : ta σ H fun x H1 => tb σ H1 fun y H2 => r x y H2 fun z H3 => ∃ k, z = .bl k ∧ (if k = true then tc σ H3 fun w' H4 => r' y w' H4 Q else Q (.bl false) H3)) : tChain r r' ta tb tc σ H Q := h
theorem w_test (h : ta σ H fun x H' => ∃ k, x = .bl k ∧ QB k H') : tTest ta σ H QB := h
theorem w_tB (h : ta σ H fun x H' => ∃ k, x = .bl k ∧ QB k H') : tB ta σ H QB := h
theorem w_bl {P : Bool → Prop} {b : Bool} (q : P b) : ∃ k, V.bl b = .bl k ∧ P k := ⟨b, rfl, q⟩
theorem w_and (h : c σ H fun k H1 => if k = true then c' σ H1 QB else QB false H1) : tAnd c c' σ H QB := h
theorem w_or (h : c σ H fun k H1 => if k = true then QB true H1 else c' σ H1 QB) : tOr c c' σ H QB := h
theorem w_not (h : c σ H fun k H1 => QB (!k) H1) : tNot c σ H QB := h
theorem w_andV (h : ta σ H fun x H1 => ∃ k, x = .bl k ∧ if k = true then tb σ H1 Q else Q (.bl false) H1) : tAndV ta tb σ H Q := h
theorem w_orV (h : ta σ H fun x H1 => ∃ k, x = .bl k ∧ if k = true then Q (.bl true) H1 else tb σ H1 Q) : tOrV ta tb σ H Q := h
theorem w_notV (h : ta σ H fun x H1 => ∃ k, x = .bl k ∧ Q (.bl (!k)) H1) : tNotV ta σ H Q := h
theorem w_ifE (h : c σ H fun k H1 => if k = true then ta σ H1 Q else tb σ H1 Q) : tIf c ta tb σ H Q := h
theorem w_isN (h : ta σ H fun x H1 => Q (.bl (decide (x = .non))) H1) : tIsN ta σ H Q := h
theorem w_notN (h : ta σ H fun x H1 => Q (.bl (!decide (x = .non))) H1) : tNotN ta σ H Q := h
/- statements -/
theorem w_seq (h : t { D with nx := u D } σ H) : tSeq t u D σ H := h
theorem w_next (h : D.nx σ H) : tNext D σ H := h
theorem w_ret (h : te σ H D.rt) : tRet te D σ H := h
theorem w_retN (h : D.rt .non H) : tRetN D σ H := h
theorem w_if (h : c σ H fun b H1 => if b = true then t D σ H1 else u D σ H1) : tIfS c t u D σ H := h
theorem w_asg (h : te σ H fun x H1 => g x σ H1 D.nx) : tAsg te g D σ H := h
theorem w_drop (h : te σ H fun _ H1 => D.nx σ H1) : tDrop te D σ H := h
theorem w_gName {R : L2.St → Hp → Prop} (h : R (σ.set i (some v)) H) : gName i v σ H R := h
theorem w_gSub {s : TSet} {to ti : TE} {R : L2.St → Hp → Prop} (h : to σ H fun o H1 => ti σ H1 fun i H2 => s o i v H2 fun H3 => R σ H3) : gSub to ti s v σ H R := h
theorem w_gTup {gs : TGs} {R : L2.St → Hp → Prop} (j : J M G H) (h : SqT K G a xs) (l : xs.length = i) (q : gs xs σ H R) : gTup K i gs (.ref a) σ H R := ⟨a, xs, rfl, st_mono j.g h, l, q⟩
theorem w_gCons {g : TG} {gs : TGs} {R : L2.St → Hp → Prop} (q : g v σ H fun σ' H' => gs xs σ' H' R) : gCons g gs (v :: xs) σ H R := ⟨v, xs, rfl, q⟩
theorem w_gNil {R : L2.St → Hp → Prop} (q : R σ H) : gNil [] σ H R := ⟨rfl, q⟩
/- arguments, calls -/
theorem w_anil (q : QL [] H) : tNil σ H QL := q
theorem w_acons {tr : TA} (h : ta σ H fun x H1 => tr σ H1 fun xs H2 => QL (x :: xs) H2) : tCons ta tr σ H QL := h
theorem w_call {sp : Sp} {dvs : List V} {E : XK} {tr : TA} (h : tr σ H fun vs H1 => sp (vs ++ dvs) H1 Q E) : tCall sp dvs E tr σ H Q := h
theorem w_cb {r : List V → Hp → VK → Prop} {tr : TA} (h : tr σ H fun vs H1 => r vs H1 Q) : tCB r tr σ H Q := h
def NewO (o : HO) (n : Nat) (H : Hp) (Q : VK) : Prop := n ≤ sizeLine ∧ ∀ p, H p = none → Q (.ref p) (upd H p o)
theorem w_tup {tr : TA} (h : tr σ H fun xs H1 => NewO (.tup xs) xs.length H1 Q) : tTup tr σ H Q := h
theorem w_lst {tr : TA} (h : tr σ H fun xs H1 => NewO (.lst xs) xs.length H1 Q) : tLst tr σ H Q := h
theorem sz_le {n : Nat} (h : n ≤ 1000000) : n ≤ sizeLine := Nat.le_trans h (by decide)
theorem sz_lt {n : Nat} (h : n < 1000000) : n < sizeLine := Nat.lt_of_lt_of_le h (by decide)
/-- a new object that stands for good -/
theorem w_new {o : HO} {n : Nat} (j : J M G H) (z : n ≤ sizeLine) (k : ∀ p G' H', J M G' H' → Ex G G' → G' p = some o → G p = none → Q (.ref p) H') : NewO o n H Q :=
  ⟨z, fun p h => k p _ _ (j.newG h) (Ex.new (j.freeG h)) upd_same (j.freeG h)⟩
/-- .. that may change -/
theorem w_newM {o : HO} {n : Nat} (j : J M G H) (z : n ≤ sizeLine) (k : ∀ p H', J (upd M p o) G H' → M p = none → G p = none → Q (.ref p) H') : NewO o n H Q :=
  ⟨z, fun p h => k p _ (j.newM h) (j.freeM h) (j.freeG h)⟩
/- operators -/
theorem w_I0 {f : Int → Int → V} (q : Q (f m n) H) : rI0 f (.int m) (.int n) H Q := ⟨m, n, rfl, rfl, q⟩
theorem w_I {C : Int → Int → Prop} {f : Int → Int → V} (hc : C m n) (q : Q (f m n) H) : rI C f (.int m) (.int n) H Q := ⟨m, n, rfl, rfl, hc, q⟩
theorem w_U {f : Int → V} (q : Q (f m) H) : rU f (.int m) H Q := ⟨m, rfl, q⟩
theorem w_addI (q : Q (.int (m + n)) H) : uAdd K (.int m) (.int n) H Q := .inl (w_I0 q)
theorem w_mulI (hc : CMul m n) (q : Q (.int (m * n)) H) : uMul (.int m) (.int n) H Q := .inl (w_I hc q)
theorem w_eqI (q : Q (.bl (decide (m = n))) H) : uEq K (.int m) (.int n) H Q := .inl ⟨rfl, by
  have e : decide (V.int m = V.int n) = decide (m = n) := decide_eq_decide.mpr ⟨fun h => V.int.inj h, fun h => h ▸ rfl⟩
  rw [e]; exact q⟩
theorem w_neI (q : Q (.bl (!decide (m = n))) H) : uNe K (.int m) (.int n) H Q := .inl ⟨rfl, by
  have e : decide (V.int m = V.int n) = decide (m = n) := decide_eq_decide.mpr ⟨fun h => V.int.inj h, fun h => h ▸ rfl⟩
  rw [e]; exact q⟩
theorem w_eqV {k : Bool} (hs : scal x y = true) (e : decide (x = y) = k) (q : Q (.bl k) H) : uEq K x y H Q := .inl ⟨hs, by rw [e]; exact q⟩
theorem w_eqS {k : Bool} {s1 s2 : Str} (e : decide (s1 = s2) = k) (q : Q (.bl k) H) : uEq K (.str s1) (.str s2) H Q := .inl ⟨rfl, by
  have e' : decide (V.str s1 = V.str s2) = decide (s1 = s2) := decide_eq_decide.mpr ⟨fun h => V.str.inj h, fun h => h ▸ rfl⟩
  rw [e', e]; exact q⟩
theorem w_neV {k : Bool} (hs : scal x y = true) (e : (!decide (x = y)) = k) (q : Q (.bl k) H) : uNe K x y H Q := .inl ⟨hs, by rw [e]; exact q⟩
theorem w_ixL (j : J M G H) (h : SqL K G a xs) (e : atI xs m = some v) (q : Q v H) : uIx K (.ref a) (.int m) H Q := .inl ⟨a, xs, m, v, rfl, rfl, sl_mono j.g h, e, q⟩
theorem w_ixT (j : J M G H) (h : SqT K G a xs) (e : atI xs m = some v) (q : Q v H) : uIx K (.ref a) (.int m) H Q := .inr ⟨a, xs, m, v, rfl, rfl, st_mono j.g h, e, q⟩
theorem w_ixM (j : J M G H) (h : M a = some (.lst xs)) (e : atI xs m = some v) (q : Q v H) : uIx K (.ref a) (.int m) H Q := .inl ⟨a, xs, m, v, rfl, rfl, .inl (.inl (j.m a _ h)), e, q⟩
theorem w_lenL (j : J M G H) (h : SqL K G a xs) (q : Q (.int xs.length) H) : uLen K [.ref a] H Q := .inl ⟨a, xs, rfl, .inl (sl_mono j.g h), q⟩
theorem w_lenT (j : J M G H) (h : SqT K G a xs) (q : Q (.int xs.length) H) : uLen K [.ref a] H Q := .inl ⟨a, xs, rfl, .inr (st_mono j.g h), q⟩
theorem w_lenM (j : J M G H) (h : M a = some (.lst xs)) (q : Q (.int xs.length) H) : uLen K [.ref a] H Q := .inl ⟨a, xs, rfl, .inl (.inl (.inl (j.m a _ h))), q⟩
theorem w_setM {QH : Hp → Prop} {jx : Nat} (j : J M G H) (h : M a = some (.lst xs)) (e : ixN xs.length m = some jx) (q : ∀ H', J (upd M a (.lst (xs.set jx v))) G H' → QH H') : rSetL (.ref a) (.int m) v H QH :=
  ⟨a, xs, m, jx, rfl, rfl, j.m a _ h, e, q _ (j.put h)⟩
/- methods -/
theorem w_bm {T : String} {r : V → List V → Hp → VK → Prop} {tr : TA} (h : ta σ H fun x H1 => tyV K T x H1 ∧ tr σ H1 fun xs H2 => r x xs H2 Q) : tBM K T r ta tr σ H Q := h
theorem w_appendM (j : J M G H) (h : M a = some (.lst xs)) (z : xs.length < sizeLine) (q : ∀ H', J (upd M a (.lst (xs ++ [v]))) G H' → Q .non H') : rAppend (.ref a) [v] H Q :=
  ⟨a, xs, v, rfl, rfl, j.m a _ h, z, q _ (j.put h)⟩
theorem ty_listM (j : J M G H) (h : M a = some (.lst xs)) : tyV K "list" (.ref a) H := .inl ⟨rfl, xs, .inl (.inl (j.m a _ h))⟩
theorem ty_listG (j : J M G H) (h : SqL K G a xs) : tyV K "list" (.ref a) H := .inl ⟨rfl, xs, sl_mono j.g h⟩
/- two ways -/
theorem w_two {k : Bool} {A B : Prop} (h1 : k = true → A) (h2 : k = false → B) : if k = true then A else B := by
  cases k with
  | true => rw [if_pos rfl]; exact h1 rfl
  | false => rw [if_neg Bool.false_ne_true]; exact h2 rfl
theorem w_dec {p : Prop} [Decidable p] {A B : Prop} (h1 : p → A) (h2 : ¬ p → B) : if decide p = true then A else B := w_two (fun h => h1 (of_decide_eq_true h)) fun h => h2 (of_decide_eq_false h)
theorem w_decN {p : Prop} [Decidable p] {A B : Prop} (h1 : ¬ p → A) (h2 : p → B) : if (!decide p) = true then A else B := w_two (fun h => h1 (of_decide_eq_false (by simpa using h))) fun h => h2 (of_decide_eq_true (by simpa using h))
theorem w_T {A B : Prop} (h : A) : if true = true then A else B := by rw [if_pos rfl]; exact h
theorem w_F {A B : Prop} (h : B) : if false = true then A else B := by rw [if_neg Bool.false_ne_true]; exact h
theorem w_nt {A B : Prop} (h : B) : if (!true) = true then A else B := w_F h
theorem w_nf {A B : Prop} (h : A) : if (!false) = true then A else B := w_T h
theorem w_dT {p : Prop} [Decidable p] {A B : Prop} (h : p) (q : A) : if decide p = true then A else B := by rw [decide_eq_true h]; exact w_T q
theorem w_dF {p : Prop} [Decidable p] {A B : Prop} (h : ¬ p) (q : B) : if decide p = true then A else B := by rw [decide_eq_false h]; exact w_F q
theorem w_nT {p : Prop} [Decidable p] {A B : Prop} (h : p) (q : B) : if (!decide p) = true then A else B := by rw [decide_eq_true h]; exact w_F q
theorem w_nF {p : Prop} [Decidable p] {A B : Prop} (h : ¬ p) (q : A) : if (!decide p) = true then A else B := by rw [decide_eq_false h]; exact w_T q
/- loops -/
theorem w_forL {tl : TE} {a : Addr} (h : tl σ H fun v H1 => v = .ref a ∧ SqL K H1 a xs ∧ ∃ Pv : Nat → L2.St → Hp → Prop, Pv 0 σ H1 ∧ (∀ i σ H, i ≤ xs.length → Pv i σ H → SqL K H a xs) ∧
    (∀ i x σ H, xs[i]? = some x → Pv i σ H → g x σ H fun σ2 H2 => t { D with nx := Pv (i + 1), ct := Pv (i + 1), bk := D.nx } σ2 H2) ∧ ∀ σ H, Pv xs.length σ H → D.nx σ H)
    (mono : ∀ Q Q' : VK, (∀ v H, Q v H → Q' v H) → tl σ H Q → tl σ H Q') : tFor (iList K tl) g t D σ H := by
  refine mono _ _ (fun v H1 q => ?_) h
  obtain ⟨rfl, hs, Pv, h0, hl, hs', hd⟩ := q
  exact ⟨a, rfl, ⟨xs, hs⟩, for_list Pv h0 hl hs' hd⟩
theorem mono_var (Q Q' : VK) (h : ∀ v H, Q v H → Q' v H) (q : tVar i σ H Q) : tVar i σ H Q' := by
  obtain ⟨v, e, q⟩ := q
  exact ⟨v, e, h v H q⟩
/-- for x in xs, xs a local name -/
theorem w_forLV {s : Nat} {a : Addr} (e : σ[s]? = some (some (.ref a))) (Pv : Nat → L2.St → Hp → Prop) (hS : SqL K H a xs) (h0 : Pv 0 σ H) (hl : ∀ i σ H, i ≤ xs.length → Pv i σ H → SqL K H a xs)
    (hs : ∀ i x σ H, xs[i]? = some x → Pv i σ H → g x σ H fun σ2 H2 => t { D with nx := Pv (i + 1), ct := Pv (i + 1), bk := D.nx } σ2 H2) (hd : ∀ σ H, Pv xs.length σ H → D.nx σ H) : tFor (iList K (tVar s)) g t D σ H :=
  ⟨.ref a, e, a, rfl, ⟨xs, hS⟩, for_list Pv h0 hl hs hd⟩
theorem w_forTV {s : Nat} {a : Addr} (e : σ[s]? = some (some (.ref a))) (Pv : Nat → L2.St → Hp → Prop) (hS : SqT K H a xs) (h0 : Pv 0 σ H) (hl : ∀ i σ H, i ≤ xs.length → Pv i σ H → SqT K H a xs)
    (hs : ∀ i x σ H, xs[i]? = some x → Pv i σ H → g x σ H fun σ2 H2 => t { D with nx := Pv (i + 1), ct := Pv (i + 1), bk := D.nx } σ2 H2) (hd : ∀ σ H, Pv xs.length σ H → D.nx σ H) : tFor (iTup K (tVar s)) g t D σ H :=
  ⟨.ref a, e, a, rfl, ⟨xs, hS⟩, for_tup Pv h0 hl hs hd⟩
/-- for k in range(e) -/
def RngR (g : TG) (t : TS) (D : Ends) (σ : L2.St) : List V → Hp → Prop := fun vs H1 => ∃ j : Int, vs = [.int j] ∧ -(2 ^ 62) ≤ j ∧ j < 2 ^ 62 ∧ ∃ Pv : Nat → L2.St → Hp → Prop, Pv 0 σ H1 ∧
  (∀ i σ H, i < j.toNat → Pv i σ H → g (.int i) σ H fun σ2 H2 => t { D with nx := Pv (i + 1), ct := Pv (i + 1), bk := D.nx } σ2 H2) ∧ ∀ σ H, Pv j.toNat σ H → D.nx σ H
theorem RngR.go {vs : List V} (h : RngR g t D σ vs H) : ∃ j : Int, vs = [.int j] ∧ -(2 ^ 62) ≤ j ∧ j < 2 ^ 62 ∧ ∃ W : Nat → Nat → L2.St → Hp → Prop, (∃ m, W 0 m σ H) ∧ ∀ i m σ H, W i m σ H →
      ((Itr 0 j.toNat).stop i H ∧ D.nx σ H) ∨ ((Itr 0 j.toNat).go i H ∧ ∃ N : L2.St → Hp → Prop, (∀ σ' H', N σ' H' → ∃ m', m' < m ∧ W (i + 1) m' σ' H') ∧ ∀ x H', (Itr 0 j.toNat).yld i H x H' → g x σ H' fun σ2 H2 => t { D with nx := N, ct := N, bk := D.nx } σ2 H2) := by
  obtain ⟨jj, e, h1, h2, Pv, h0, hs, hd⟩ := h
  refine ⟨jj, e, h1, h2, for_range Pv h0 (fun i σ H hi p => ?_) hd⟩
  have q := hs i σ H hi p
  rw [Int.zero_add]; exact q
def RngD (g : TG) (t : TS) (D : Ends) (σ : L2.St) (vs : List V) (H : Hp) : Prop := ∃ j : Int, vs = [.int j] ∧ -(2 ^ 62) ≤ j ∧ j < 2 ^ 62 ∧ ∃ W : Nat → Nat → L2.St → Hp → Prop, (∃ m, W 0 m σ H) ∧ ∀ i m σ H, W i m σ H →
      ((Itr 0 j.toNat).stop i H ∧ D.nx σ H) ∨ ((Itr 0 j.toNat).go i H ∧ ∃ N : L2.St → Hp → Prop, (∀ σ' H', N σ' H' → ∃ m', m' < m ∧ W (i + 1) m' σ' H') ∧ ∀ x H', (Itr 0 j.toNat).yld i H x H' → g x σ H' fun σ2 H2 => t { D with nx := N, ct := N, bk := D.nx } σ2 H2)
theorem w_forR {ta : TA} (h : ta σ H fun vs H1 => RngD g t D σ vs H1) : tFor (iRng1 ta) g t D σ H := h
theorem w_rng (Pv : Nat → L2.St → Hp → Prop) (h0 : Pv 0 σ H)
    (hs : ∀ i σ H, i < m.toNat → Pv i σ H → g (.int i) σ H fun σ2 H2 => t { D with nx := Pv (i + 1), ct := Pv (i + 1), bk := D.nx } σ2 H2) (hd : ∀ σ H, Pv m.toNat σ H → D.nx σ H) (h1 : -(2 ^ 62) ≤ m := by first | decide | omega) (h2 : m < 2 ^ 62 := by first | decide | omega) :
    RngD g t D σ [.int m] H := RngR.go ⟨m, rfl, h1, h2, Pv, h0, hs, hd⟩
theorem w_appendU (j : J (upd M a (.lst xs)) G H) (z : xs.length < 1000000) (q : ∀ H', J (upd M a (.lst (xs ++ [v]))) G H' → Q .non H') : rAppend (.ref a) [v] H Q :=
  w_appendM j upd_same (sz_lt z) fun H' j' => q H' (by rw [upd_upd] at j'; exact j')
theorem w_appendA (j : J M G H) (h : M a = some (.lst xs)) (z : xs.length < 1000000) (q : ∀ H', J (upd M a (.lst (xs ++ [v]))) G H' → Q .non H') : rAppend (.ref a) [v] H Q := w_appendM j h (sz_lt z) q
theorem ty_listU (j : J (upd M a (.lst xs)) G H) : tyV K "list" (.ref a) H := ty_listM j upd_same
theorem map_snoc (ns : List Int) (n : Int) : ns.map V.int ++ [V.int n] = (ns ++ [n]).map V.int := by rw [List.map_append]; rfl
/-- list(xs), xs[a:b] of lists, xs + ys -/
theorem w_catL (h1 : H a = some (.lst xs)) (h2 : H b = some (.lst ys)) (k : NewO (.lst (xs ++ ys)) (xs.length + ys.length) H Q) : uAdd K (.ref a) (.ref b) H Q :=
  .inr (.inl ⟨a, b, xs, ys, rfl, rfl, h1, h2, k.1, k.2⟩)
theorem w_slL {lo hi : Option Int} (j : J M G H) (h : SqL K G a xs) (k : NewO (.lst (cutV xs lo hi)) 0 H Q) : uSl K (.ref a) lo hi H Q := .inl ⟨a, xs, rfl, sl_mono j.g h, k.2⟩
theorem w_slT {lo hi : Option Int} (j : J M G H) (h : SqT K G a xs) (k1 : HT.sIx xs.length 0 lo = 0 ∧ HT.sIx xs.length xs.length hi = xs.length → Q (.ref a) H)
    (k : ¬ (HT.sIx xs.length 0 lo = 0 ∧ HT.sIx xs.length xs.length hi = xs.length) → NewO (.tup (cutV xs lo hi)) 0 H Q) : uSl K (.ref a) lo hi H Q := .inr ⟨a, xs, rfl, st_mono j.g h, k1, fun h => (k h).2⟩
def PartX (x : V) (H : Hp) (Q : Option Int → Hp → Prop) : Prop := ∃ i, x = .int i ∧ Q (some i) H
theorem w_part {QO : Option Int → Hp → Prop} (h : te σ H fun x H1 => PartX x H1 QO) : tPart te σ H QO := h
theorem w_partX {QO : Option Int → Hp → Prop} (h : QO (some m) H) : PartX (.int m) H QO := ⟨m, rfl, h⟩
theorem w_nopart {QO : Option Int → Hp → Prop} (h : QO none H) : tNoPart σ H QO := h
theorem atI_0 {α : Type} {y : α} {ys : List α} : atI (y :: ys) 0 = some y := atI_nat (j := 0) rfl
theorem w_sl {r : V → Option Int → Option Int → Hp → VK → Prop} {tl th : TO} (h : te σ H fun x H1 => tl σ H1 fun l H2 => th σ H2 fun u H3 => r x l u H3 Q) : tSl r te tl th σ H Q := h
/-! comprehensions -/
variable {tt : TT} {vs : List Nat} {s : Nat}
/-- the block's end at one element: the new list stands at L as before, it gets y -/
def StepL (L : Addr) (acc : List V) (R : List V → Hp → Hp → Prop) (y : V) (H4 : Hp) : Prop := ∃ M4 G4, J M4 G4 H4 ∧ M4 L = some (.lst acc) ∧ acc.length < sizeLine ∧ R (acc ++ [y]) (upd M4 L (.lst (acc ++ [y]))) G4
def SkipL (L : Addr) (acc : List V) (R : List V → Hp → Hp → Prop) (H3 : Hp) : Prop := ∃ M3 G3, J M3 G3 H3 ∧ M3 L = some (.lst acc) ∧ R acc M3 G3
def LcI (P : Addr → Nat → List V → Hp → Hp → Prop) (L : Addr) (i : Nat) (H : Hp) : Prop := ∃ acc M1 G1, J M1 G1 H ∧ M1 L = some (.lst acc) ∧ P L i acc M1 G1
theorem StepL.go {P : Addr → Nat → List V → Hp → Hp → Prop} {L : Addr} {acc : List V} {k : Nat} (h : StepL L acc (P L k) y H) : ∃ acc', H L = some (.lst acc') ∧ acc'.length < sizeLine ∧ LcI P L k (upd H L (.lst (acc' ++ [y]))) := by
  obtain ⟨M4, G4, j, e, z, r⟩ := h
  exact ⟨acc, j.m _ _ e, z, acc ++ [y], _, _, j.put e, upd_same, r⟩
def LcD (J' : It) (g : TG) (tt : TT) (te : TE) (vs : List Nat) (σ : L2.St) (H1 : Hp) (Q : VK) : Prop := ∀ D, H1 D = none → ∃ W : Nat → Nat → Hp → Prop, (∃ m, W 0 m (upd H1 D (.lst []))) ∧ ∀ i m H, W i m H →
  (J'.stop i H ∧ Q (.ref D) H) ∨ (J'.go i H ∧ ∃ Nx : Hp → Prop, (∀ H', Nx H' → ∃ m', m' < m ∧ W (i + 1) m' H') ∧ ∀ x H', J'.yld i H x H' → g x (wipe σ vs) H' fun σ2 H2 => wipe σ2 vs = wipe σ vs ∧ tt σ2 H2 fun b H3 =>
    if b = true then te σ2 H3 fun y H4 => ∃ acc, H4 D = some (.lst acc) ∧ acc.length < sizeLine ∧ Nx (upd H4 D (.lst (acc ++ [y]))) else Nx H3)
def LcR (g : TG) (tt : TT) (te : TE) (vs : List Nat) (σ : L2.St) (vs' : List V) (H1 : Hp) (Q : VK) : Prop := ∃ j : Int, vs' = [.int j] ∧ -(2 ^ 62) ≤ j ∧ j < 2 ^ 62 ∧ LcD (Itr 0 j.toNat) g tt te vs σ H1 Q
def LcL (K : PySem.W.Frag) (g : TG) (tt : TT) (te : TE) (vs : List Nat) (σ : L2.St) (x : V) (H1 : Hp) (Q : VK) : Prop := ∃ a, x = .ref a ∧ (∃ xs, SqL K H1 a xs) ∧ LcD (Itl K a) g tt te vs σ H1 Q
theorem w_lcR {ta : TA} (h : ta σ H fun vs' H1 => LcR g tt te vs σ vs' H1 Q) : tLc (iRng1 ta) g tt te vs σ H Q := h
theorem w_lcL {tl : TE} (h : tl σ H fun x H1 => LcL K g tt te vs σ x H1 Q) : tLc (iList K tl) g tt te vs σ H Q := h
/-- [e for k in range(m)]; the element's reading must be monotone in what is wanted: it is given by its steps, so the law of the turn is asked for any wish that is weaker -/
theorem w_lcr (j : J M G H) (P : Addr → Nat → List V → Hp → Hp → Prop) (h0 : ∀ L, M L = none → G L = none → P L 0 [] (upd M L (.lst [])) G) (hw : ∀ x, wipe ((wipe σ vs).set s (some x)) vs = wipe σ vs)
    (hs : ∀ L i acc M1 G1 H1 (R : V → Hp → Prop), i < m.toNat → J M1 G1 H1 → M1 L = some (.lst acc) → P L i acc M1 G1 → (∀ y H4, StepL L acc (P L (i + 1)) y H4 → R y H4) → te ((wipe σ vs).set s (some (.int i))) H1 R)
    (hd : ∀ L acc M1 G1 H1, J M1 G1 H1 → M1 L = some (.lst acc) → P L m.toNat acc M1 G1 → Q (.ref L) H1) (h1 : -(2 ^ 62) ≤ m := by first | decide | omega) (h2 : m < 2 ^ 62 := by first | decide | omega) : LcR (gName s) tYes te vs σ [.int m] H Q := by
  refine ⟨m, rfl, h1, h2, fun L hL => lc_range (LcI P L) ⟨[], _, _, j.newM hL, upd_same, h0 L (j.freeM hL) (j.freeG hL)⟩ (fun i H1 hi p => ?_) fun H1 p => ?_⟩
  · obtain ⟨acc, M1, G1, j1, e, p⟩ := p
    rw [Int.zero_add]
    refine ⟨hw (.int i), ?_⟩
    refine w_T (B := LcI P L (i + 1) H1) ?_
    refine hs L i acc M1 G1 H1 _ hi j1 e p ?_
    intro y H4 q
    exact q.go
  · obtain ⟨acc, M1, G1, j1, e, p⟩ := p
    exact hd L acc M1 G1 H1 j1 e p
/-- [e for x in xs if t] -/
theorem w_lcl (j : J M G H) (P : Addr → Nat → List V → Hp → Hp → Prop) (hx : SqL K G a xs) (h0 : ∀ L, M L = none → G L = none → P L 0 [] (upd M L (.lst [])) G) (hG : ∀ L i acc M1 G1, P L i acc M1 G1 → Ex G G1) (hw : ∀ x, wipe ((wipe σ vs).set s (some x)) vs = wipe σ vs)
    (hs : ∀ L i x acc M1 G1 H1 (R : Bool → Hp → Prop), xs[i]? = some x → J M1 G1 H1 → M1 L = some (.lst acc) → P L i acc M1 G1 →
      (∀ b H3, (if b = true then te ((wipe σ vs).set s (some x)) H3 (fun y H4 => ∃ acc, H4 L = some (.lst acc) ∧ acc.length < sizeLine ∧ LcI P L (i + 1) (upd H4 L (.lst (acc ++ [y])))) else SkipL L acc (P L (i + 1)) H3) → R b H3) → tt ((wipe σ vs).set s (some x)) H1 R)
    (hd : ∀ L acc M1 G1 H1, J M1 G1 H1 → M1 L = some (.lst acc) → P L xs.length acc M1 G1 → Q (.ref L) H1) : LcL K (gName s) tt te vs σ (.ref a) H Q := by
  refine ⟨a, rfl, ⟨xs, sl_mono j.g hx⟩, fun L hL => lc_list (xs := xs) (LcI P L) ⟨[], _, _, j.newM hL, upd_same, h0 L (j.freeM hL) (j.freeG hL)⟩ (fun i H1 _ p => ?_) (fun i x H1 hi p => ?_) fun H1 p => ?_⟩
  · obtain ⟨acc, M1, G1, j1, e, p⟩ := p
    exact sl_mono ((hG _ _ _ _ _ p).trans j1.g) hx
  · obtain ⟨acc, M1, G1, j1, e, p⟩ := p
    refine ⟨hw _, ?_⟩
    refine hs L i x acc M1 G1 H1 _ hi j1 e p fun b H3 q => ?_
    cases b with
    | true => rw [if_pos rfl] at q ⊢; exact q
    | false =>
      rw [if_neg Bool.false_ne_true] at q ⊢
      obtain ⟨M3, G3, j3, e3, r⟩ := q
      exact ⟨acc, M3, G3, j3, e3, r⟩
  · obtain ⟨acc, M1, G1, j1, e, p⟩ := p
    exact hd L acc M1 G1 H1 j1 e p
theorem w_yes {R : Bool → Hp → Prop} (h : R true H) : tYes σ H R := h
/-! dicts -/
variable {kvs : List (Key × V)} {td ty tx tv : TE}
def Hd (M G : Hp) (a : Addr) (kvs : List (Key × V)) : Prop := M a = some (.dK kvs) ∨ Rd G a (.dK kvs)
theorem Hd.rd (j : J M G H) (h : Hd M G a kvs) : Rd H a (.dK kvs) := h.elim (fun h => .inl (j.m _ _ h)) (rd_same j.g)
theorem Hd.ofM (h : M a = some (.dK kvs)) : Hd M G a kvs := .inl h
theorem Hd.ofG (h : G a = some (.dK kvs)) : Hd M G a kvs := .inr (.inl h)
def GetA (x : V) (ty : TE) (σ : L2.St) (H1 : Hp) (Q : VK) : Prop := ∃ a, x = .ref a ∧ IsD H1 a ∧ ty σ H1 fun y H2 => ∃ o, DGet H2 a y o ∧ Q (o.getD .non) H2
def GetB (x : V) (ty tx : TE) (σ : L2.St) (H1 : Hp) (Q : VK) : Prop := ∃ a, x = .ref a ∧ IsD H1 a ∧ ty σ H1 fun y H2 => tx σ H2 fun z H3 => ∃ o, DGet H3 a y o ∧ Q (o.getD z) H3
def GetE (a : Addr) (y z : V) (H3 : Hp) (Q : VK) : Prop := ∃ o, DGet H3 a y o ∧ Q (o.getD z) H3
theorem w_dget1 (h : td σ H fun x H1 => GetA x ty σ H1 Q) : tDGet1 td ty σ H Q := h
theorem w_dget2 (h : td σ H fun x H1 => GetB x ty tx σ H1 Q) : tDGet2 td ty tx σ H Q := h
theorem w_getA (j : J M G H) (h : Hd M G a kvs) (q : ty σ H fun y H2 => GetE a y .non H2 Q) : GetA (.ref a) ty σ H Q := ⟨a, rfl, .inl ⟨kvs, h.rd j⟩, q⟩
theorem w_getB (j : J M G H) (h : Hd M G a kvs) (q : ty σ H fun y H2 => tx σ H2 fun z H3 => GetE a y z H3 Q) : GetB (.ref a) ty tx σ H Q := ⟨a, rfl, .inl ⟨kvs, h.rd j⟩, q⟩
theorem w_getE (j : J M G H) (h : Hd M G a kvs) (q : Q ((valV kvs (.inl m)).getD y) H) : GetE a (.int m) y H Q := ⟨_, .inl ⟨kvs, .inl m, h.rd j, rfl, rfl⟩, q⟩
def GetX (x y : V) (H2 : Hp) (Q : VK) : Prop := ∃ a v, x = .ref a ∧ DGet H2 a y (some v) ∧ Q v H2
theorem w_dget (h : td σ H fun x H1 => ty σ H1 fun y H2 => GetX x y H2 Q) : tDGet td ty σ H Q := h
theorem w_getX (j : J M G H) (h : Hd M G a kvs) (e : valV kvs (.inl m) = some v) (q : Q v H) : GetX (.ref a) (.int m) H Q := ⟨a, v, rfl, .inl ⟨kvs, .inl m, h.rd j, rfl, e.symm⟩, q⟩
def InX (neg : Bool) (x y : V) (H2 : Hp) (Q : VK) : Prop := ∃ a o, x = .ref a ∧ DGet H2 a y o ∧ Q (.bl (if neg then !o.isSome else o.isSome)) H2
theorem w_din (h : ty σ H fun y H1 => td σ H1 fun x H2 => InX false x y H2 Q) : tDIn ty td σ H Q := h
theorem w_dnotin (h : ty σ H fun y H1 => td σ H1 fun x H2 => InX true x y H2 Q) : tDNotIn ty td σ H Q := h
theorem w_inX (j : J M G H) (h : Hd M G a kvs) (q : Q (.bl (valV kvs (.inl m)).isSome) H) : InX false (.ref a) (.int m) H Q := ⟨a, _, rfl, .inl ⟨kvs, .inl m, h.rd j, rfl, rfl⟩, q⟩
theorem w_notinX (j : J M G H) (h : Hd M G a kvs) (q : Q (.bl (!(valV kvs (.inl m)).isSome)) H) : InX true (.ref a) (.int m) H Q := ⟨a, _, rfl, .inl ⟨kvs, .inl m, h.rd j, rfl, rfl⟩, q⟩
def PutX (x y v : V) (H3 : Hp) (R : Hp → Prop) : Prop := ∃ a H4, x = .ref a ∧ DPut H3 a y v H4 ∧ R H4
theorem w_dput (h : tv σ H fun v H1 => td σ H1 fun x H2 => ty σ H2 fun y H3 => PutX x y v H3 (D.nx σ)) : sDPut td ty tv D σ H := h
theorem w_putX {R : Hp → Prop} (j : J M G H) (h : M a = some (.dK kvs)) (z : kvs.length < 1000000) (q : ∀ H', J (upd M a (.dK (putK kvs (.inl m) v))) G H' → R H') : PutX (.ref a) (.int m) v H R :=
  ⟨a, _, rfl, .inl ⟨kvs, .inl m, j.m _ _ h, rfl, sz_lt z, rfl⟩, q _ (j.put h)⟩
def PopB (x : V) (ty tx : TE) (σ : L2.St) (H1 : Hp) (Q : VK) : Prop := ∃ a, x = .ref a ∧ IsD H1 a ∧ ty σ H1 fun y H2 => tx σ H2 fun z H3 => ∃ kvs k, H3 a = some (.dK kvs) ∧ y = kV k ∧
  (∀ v, valV kvs k = some v → Q v (upd H3 a (.dK (dropK kvs k)))) ∧ (valV kvs k = none → Q z H3)
def PopE (a : Addr) (y z : V) (H3 : Hp) (Q : VK) : Prop := ∃ kvs k, H3 a = some (.dK kvs) ∧ y = kV k ∧ (∀ v, valV kvs k = some v → Q v (upd H3 a (.dK (dropK kvs k)))) ∧ (valV kvs k = none → Q z H3)
theorem w_dpop2 (h : td σ H fun x H1 => PopB x ty tx σ H1 Q) : tDPop2 td ty tx σ H Q := h
theorem w_popB (j : J M G H) (h : M a = some (.dK kvs)) (q : ty σ H fun y H2 => tx σ H2 fun z H3 => PopE a y z H3 Q) : PopB (.ref a) ty tx σ H Q := ⟨a, rfl, .inl ⟨kvs, .inl (j.m _ _ h)⟩, q⟩
theorem dropK_none (h : valV kvs (.inl m : Key) = none) : dropK kvs (.inl m) = kvs := dropK_no (valV_not h)
theorem w_popE (j : J M G H) (h : M a = some (.dK kvs)) (q : ∀ v H', J (upd M a (.dK (dropK kvs (.inl m)))) G H' → Q v H') : PopE a (.int m) y H Q := by
  refine ⟨kvs, .inl m, j.m _ _ h, rfl, fun v _ => q v _ (j.put h), fun e => q y H ?_⟩
  rw [dropK_none e]
  have e2 : upd M a (.dK kvs) = M := by
    funext b; unfold upd; split
    · rename_i hb; rw [hb, h]
    · rfl
  rw [e2]; exact j
theorem w_lenD (j : J M G H) (h : M a = some (.dK kvs) ∨ G a = some (.dK kvs)) (q : Q (.int kvs.length) H) : uLen K [.ref a] H Q := .inr ⟨a, kvs, rfl, h.elim (j.m _ _) (j.g _ _), q⟩
/-- {} -/
theorem w_dnew (h : NewO (.dK []) 0 H Q) : tDNewK σ H Q := h.2
/-- isinstance -/
theorem w_isi (bb : Bool) {n cc : String} (h : TyX K H x (.type n)) (e : kitB n cc = some bb) (q : Q (.bl bb) H) : rIsi K [x, .ty cc] H Q := ⟨x, .ty cc, .type n, .type cc, bb, rfl, .ty cc, h, kit_ty e, q⟩
theorem ty_int : TyX K H (.int m) (.type "int") := .base (.int m)
theorem ty_bl {b : Bool} : TyX K H (.bl b) (.type "bool") := .base (.bl b)
theorem ty_str {z : Str} : TyX K H (.str z) (.type "str") := .base (.str z)
theorem ty_non : TyX K H .non (.type "NoneType") := .base .non
theorem ty_L (h : SqL K H a xs) : TyX K H (.ref a) (.type "list") := by
  rcases h with (h | ⟨o, h⟩) | ⟨o, _, _, h, c, _⟩
  · exact .base (.lst h)
  · exact .base (.frz h)
  · exact .kList h c
theorem ty_T (h : SqT K H a xs) : TyX K H (.ref a) (.type "tuple") := by
  rcases h with (h | ⟨o, h⟩) | ⟨o, _, _, h, c, _⟩
  · exact .base (.tup h)
  · exact .fTuple h
  · exact .kTuple h c
theorem ty_D (h : Rd H a (.dK kvs)) : TyX K H (.ref a) (.type "dict") := by
  rcases h with h | ⟨o, h⟩
  · exact .base (.dK h)
  · exact .fDict h
/-- dict(d), sorted(d), list(xs), tuple(xs) -/
def DictC (xs : List V) (H : Hp) (Q : VK) : Prop := ∃ (a : Addr) (kvs : List (Key × V)), xs = [.ref a] ∧ Rd H a (.dK kvs) ∧ ∀ p, H p = none → Q (.ref p) (upd H p (.dK kvs))
theorem w_dictC (j : J M G H) (h : Hd M G a kvs) (q : NewO (.dK kvs) 0 H Q) : DictC [.ref a] H Q := ⟨a, kvs, rfl, h.rd j, q.2⟩
def ListC (K : PySem.W.Frag) (xs : List V) (H : Hp) (Q : VK) : Prop := ∃ p ys, xs = [.ref p] ∧ (SqL K H p ys ∨ SqT K H p ys) ∧ ∀ l, H l = none → Q (.ref l) (upd H l (.lst ys))
theorem w_listC (h : SqL K H a xs ∨ SqT K H a xs) (q : NewO (.lst xs) 0 H Q) : ListC K [.ref a] H Q := ⟨a, xs, rfl, h, q.2⟩
def TupC (K : PySem.W.Frag) (xs : List V) (H : Hp) (Q : VK) : Prop := ∃ p ys, xs = [.ref p] ∧ ((SqL K H p ys ∧ ∀ l, H l = none → Q (.ref l) (upd H l (.tup ys))) ∨ (SqT K H p ys ∧ Q (.ref p) H))
theorem w_tupC (h : SqL K H a xs) (q : NewO (.tup xs) 0 H Q) : TupC K [.ref a] H Q := ⟨a, xs, rfl, .inl ⟨h, q.2⟩⟩
def SortD (xs : List V) (H : Hp) (Q : VK) : Prop := ∃ (a : Addr) (kvs : List (Key × V)) (ks : List Int), xs = [.ref a] ∧ Rd H a (.dK kvs) ∧ kvs.map (·.1) = ks.map Sum.inl ∧ ks.length < 64 ∧
    ∀ (ys : List Int) (p : Addr), ys.Perm ks → ys.Pairwise (· ≤ ·) → H p = none → Q (.ref p) (upd H p (.lst (ys.map V.int)))
theorem w_sortD {ks : List Int} (j : J M G H) (h : Hd M G a kvs) (e : kvs.map (·.1) = ks.map Sum.inl) (z : ks.length < 64) (q : ∀ ys : List Int, ys.Perm ks → ys.Pairwise (· ≤ ·) → NewO (.lst (ys.map V.int)) 0 H Q) : SortD [.ref a] H Q :=
  ⟨a, kvs, ks, rfl, h.rd j, e, z, fun ys p h1 h2 => (q ys h1 h2).2 p⟩
theorem w_cDict {tr : TA} (h : tr σ H fun vs H1 => DictC vs H1 Q) : tCB (fun xs H Q => ∃ (a : Addr) (kvs : List (Key × V)), xs = [.ref a] ∧ Rd H a (.dK kvs) ∧ ∀ p, H p = none → Q (.ref p) (upd H p (.dK kvs))) tr σ H Q := h
theorem w_cList {tr : TA} (h : tr σ H fun vs H1 => ListC K vs H1 Q) : tCB (fun xs H Q => ∃ p ys, xs = [.ref p] ∧ (SqL K H p ys ∨ SqT K H p ys) ∧ ∀ l, H l = none → Q (.ref l) (upd H l (.lst ys))) tr σ H Q := h
theorem w_cTup {tr : TA} (h : tr σ H fun vs H1 => TupC K vs H1 Q) : tCB (fun xs H Q => ∃ p ys, xs = [.ref p] ∧ ((SqL K H p ys ∧ ∀ l, H l = none → Q (.ref l) (upd H l (.tup ys))) ∨ (SqT K H p ys ∧ Q (.ref p) H))) tr σ H Q := h
theorem w_cSortD {tr : TA} (h : tr σ H fun vs H1 => SortD vs H1 Q) : tCB (fun xs H Q => ∃ (a : Addr) (kvs : List (Key × V)) (ks : List Int), xs = [.ref a] ∧ Rd H a (.dK kvs) ∧ kvs.map (·.1) = ks.map Sum.inl ∧ ks.length < 64 ∧
    ∀ (ys : List Int) (p : Addr), ys.Perm ks → ys.Pairwise (· ≤ ·) → H p = none → Q (.ref p) (upd H p (.lst (ys.map V.int)))) tr σ H Q := h
/-- x in xs, flat items -/
theorem w_inT {neg : Bool} (j : J M G H) (h : SqT K G a xs) (hx : flatV x = true) (hf : xs.all flatV = true) (q : Q (.bl (if neg then !inV x xs else inV x xs)) H) : rIn K neg x (.ref a) H Q := ⟨a, xs, rfl, .inr (st_mono j.g h), hx, hf, q⟩
theorem w_inL {neg : Bool} (j : J M G H) (h : SqL K G a xs) (hx : flatV x = true) (hf : xs.all flatV = true) (q : Q (.bl (if neg then !inV x xs else inV x xs)) H) : rIn K neg x (.ref a) H Q := ⟨a, xs, rfl, .inl (sl_mono j.g h), hx, hf, q⟩
end
section
variable {X : Cx} {K : PySem.W.Frag}
theorem call_listC (h : X.K = K) : CallR X (.type "list") (ListC K) := h ▸ call_list_of
theorem call_tupC (h : X.K = K) : CallR X (.type "tuple") (TupC K) := h ▸ call_tuple_of
theorem call_dictC : CallR X (.type "dict") DictC := call_dictD
theorem call_sortDC (hc : X.calm = true) : CallR X (.builtin "sorted") SortD := call_sortedDI hc
end
/-! ### errors of the program: raised, let through, caught -/
structure Xc (K : PySem.W.Frag) (mg : Str → Option Value) (x : Str) (C : Addr) : Prop where
  gP : mg x = some (.ref C)
  xP : PySem.W.excIn K C [.type "ValueError", .type "Exception", .type "BaseException", .type "object"] "ValueError.__new__" = true
  kP : PySem.W.keepIn K (.ref C) = true
  bP : PySem.W.subIn K (.ref C) (.type "BaseException") = some true
  tP : PySem.W.typeIn K (.ref C) = some (.type "type")
  hD : PySem.W.hasDictIn K C = true
  sP : PySem.W.subIn K (.ref C) (.ref C) = some true
  hg : PySem.W.findIn K (.ref C) "__getattribute__" = some (some (.builtin "BaseException.__getattribute__"))
  hk : PySem.W.findIn K (.ref C) "__getattr__" = some none
  ha : PySem.W.findIn K (.ref C) "__class__" = some (some (.builtin "object.__class__"))
  hn : PySem.W.specialIn K (.builtin "object.__class__") "__get__" = some (some (.builtin "getset_descriptor.__get__"))
  ht : PySem.W.takesIn K (.builtin "object.__class__") = some true
  hm : PySem.W.mroIn K C (.type "object") = some true
theorem Xc.excC {K : PySem.W.Frag} {mg : Str → Option Value} {x : Str} {C : Addr} (X : Xc K mg x C) : ExcC K C := ⟨X.hg, X.hk, X.bP, X.hD, X.ha, X.hn, X.ht, X.hm⟩
theorem Xc.exm {K : PySem.W.Frag} {mg : Str → Option Value} {x : Str} {C : Addr} (X : Xc K mg x C) : PySem.W.exmOne K (.ref C) (.ref C) = some true := PySem.W.exm_ref X.bP X.hD X.tP X.sP
theorem Xc.g {K : PySem.W.Frag} {mg : Str → Option Value} {x : Str} {C : Addr} (X : Xc K mg x C) : ∃ u, mg x = some u ∧ RelV (.ref C) u := ⟨_, X.gP, rfl⟩
/-- a promise that tells how it may raise -/
def Sx {α : Type} (pre : α → List V → Hp → Hp → Prop) (post : α → Hp → Hp → V → Hp → Hp → Prop) (exc : α → Hp → Hp → Addr → Hp → Hp → Prop) : Sp := fun vs H Q E =>
  ∃ a M G, J M G H ∧ pre a vs M G ∧ (∀ v M' G' H', J M' G' H' → Ex G G' → post a M G v M' G' → Q v H') ∧ ∀ C M' G' H', J M' G' H' → Ex G G' → exc a M G C M' G' → E (.ref C) none H'
theorem w_sx {α : Type} {pre : α → List V → Hp → Hp → Prop} {post : α → Hp → Hp → V → Hp → Hp → Prop} {exc : α → Hp → Hp → Addr → Hp → Hp → Prop} {vs : List V} {M G H : Hp} {Q : VK} {E : XK} (a : α) (j : J M G H) (hp : pre a vs M G)
    (k : ∀ v M' G' H', J M' G' H' → Ex G G' → post a M G v M' G' → Q v H') (kx : ∀ C M' G' H', J M' G' H' → Ex G G' → exc a M G C M' G' → E (.ref C) none H') : Sx pre post exc vs H Q E := ⟨a, M, G, j, hp, k, kx⟩
theorem Dn.okX {P : Program} {w : World} {K : PySem.W.Frag} {mg : Str → Option Value} {base : Heap} {x : Str} {st : Stmt} {ps : List Str} {f : Addr} {fd : FuncData} {N : List Str} {k : Nat} {sp : Sp} (D : Dn K mg x st ps f fd) (S : FnScope N ps (defScope st)) (len : ∀ vs H Q E, sp vs H Q E → vs.length = ps.length)
    (hbody : ∀ (cdv : Value) (A : Around) (outer : List Env) (s : Shared) (H : Hp) (vs : List V) (Q : VK) (E : XK), Room k (A.deeper (envOfC x (defScope st) s.heap.objs.size f cdv)) → sp vs H Q E →
      ∃ t, PSs (cxOf (L2.CX P w) P w K mg base N x (defScope st) f cdv A outer s H E) (defBody st) t ∧ t { nx := fun _ H' => Q .non H', rt := Q } (start N vs) H) : Cal P w K mg base (L2.CX P w) (k + 1) x sp :=
  D.cal (D.fn.okX S len hbody)
/-- a call of what may raise, where an error is wished for -/
theorem pe_calX {X : Cx} {k j : Nat} {x : Str} {sp : Sp} {p pos : Pos} {e : Expr} {es : List Expr} {t : TA} {W : WX} (c : Cal X.prog X.w X.K X.mg X.base (L2.CX X.prog X.w) k x sp) (hr : Room j X.A) (hk : k ≤ j) (hg : Gl X x) (tk : Takes X W) (ha : PA X (e :: es) t)
    (hdb : (x == ("__debug__" : Str)) = false := by decide) (he : starEach (e :: es) X.env = (false, eval e X.env) :: starEach es X.env := by rfl) (hpl : (backTo pos (starEach es X.env)).any (·.1) = false := by rfl) :
    PE X (.Call (.Name x p) (e :: es) [] pos) (tCallS sp (WE W) t) := by
  obtain ⟨f, fd, ps, F, hm, kp, b⟩ := c.ex
  exact pe_callS F (hr.mono hk) hg hm kp b (fun σ => passAt tk σ) ha hdb he hpl
theorem w_callS {sp : Sp} {E : L2.St → XK} {t : TA} {σ : L2.St} {H : Hp} {Q : VK} (h : t σ H fun vs H1 => sp vs H1 Q (E σ)) : tCallS sp E t σ H Q := h
def tRaiseA (C : Addr) (W : WX) : TS := fun _ σ H => W (.ref C) none σ H
theorem ps_raiseA {X : Cx} {W : WX} {x m : Str} {C : Addr} {j : Nat} {p p2 pos pos2 : Pos} (hc : X.calm = true) (tk : Takes X W) (h : Xc X.K X.mg x C) (hg : Gl X x) (hdb : (x == ("__debug__" : Str)) = false := by decide) :
    PS X (.Raise (some (.Call (.Name x p) [.Constant (.str m) j p2] [] pos)) none pos2) (tRaiseA C W) := ps_raise hc tk (pmk_own PySem.F.excBase_ValueError h.xP h.gP h.kP (raises_own h.bP h.tP) hg hdb)
theorem w_raise {C : Addr} {W : WX} {D : Ends} {σ : L2.St} {H : Hp} (h : W (.ref C) none σ H) : tRaiseA C W D σ H := h
def tTryA (K : PySem.W.Frag) (c : Value) (i : Nat) (tb : WX → TS) (ts : Addr → Value → Option Addr → TS) (Wout : WX) : TS := fun D σ H => tb (wAs K c i ts Wout D) D σ H
theorem w_tryA {K : PySem.W.Frag} {c : Value} {i : Nat} {tb : WX → TS} {ts : Addr → Value → Option Addr → TS} {Wout : WX} {D : Ends} {σ : L2.St} {H : Hp} (h : tb (wAs K c i ts Wout D) D σ H) : tTryA K c i tb ts Wout D σ H := h
theorem ps_tryA {X : Cx} {x n : Str} {c : Value} {i : Nat} {body suite : List Stmt} {b₀ : Stmt} {np pos pos' : Pos} {tb : WX → TS} {ts : Addr → Value → Option Addr → TS} {Wout : WX} (hs : X.stack = X.env :: X.outer) (hf : X.env.frame = some X.env.locals) (hN : X.N.Nodup) (hi : X.N[i]? = some n) (hln : X.env.kindOf n = some .local) (hc : Names X x c) (tk : Takes X Wout)
    (hb : ∀ (W : WX) (pn : List (Addr × Obj)) (xe : Value → Shared → Prop), Takes (X.tr pn xe) W → PassesOwn (model X.prog X.w) X.A X.env xe → PSs (X.tr pn xe) body (tb W))
    (hsu : ∀ (a : Addr) (oe : Obj) (cls : Value) (d : Option Addr) (pn : List (Addr × Obj)), Zc cls d oe → (∃ vs, oe.data = .fields vs) → PSs (X.suite a ((a, oe) :: pn)) (b₀ :: suite) (ts a cls d)) :
    PS X (.Try body [.ExceptHandler (some (.Name x np)) (some n) (b₀ :: suite) pos'] [] [] pos) (tTryA X.K c i tb ts Wout) := ps_try_as hs hf hN hi hln hc tk hb hsu
/-- a fact that the suite's rules want is asked of its reading -/
theorem pss_given {X : Cx} {b : List Stmt} {t : TS} {p : Prop} (h : p → PSs X b t) : PSs X b (fun D σ H => p ∧ t D σ H) := ⟨fun pins s σ H D I z => (h z.1).run pins s σ H D I z.2⟩
/-- what a caught error of the class C asks -/
theorem w_caught {K : PySem.W.Frag} {c : Value} {C : Addr} {i : Nat} {ts : Addr → Value → Option Addr → TS} {Wout : WX} {D : Ends} {σ : L2.St} {H : Hp} (e : PySem.W.exmOne K (.ref C) c = some true)
    (h : ∀ a, H a = none → ts a (.ref C) none { nx := fun σ' H' => D.nx (σ'.set i none) H', rt := D.rt, bk := fun σ' H' => D.bk (σ'.set i none) H', ct := fun σ' H' => D.ct (σ'.set i none) H' } (σ.set i (some (.ref a))) H) : wAs K c i ts Wout D (.ref C) none σ H :=
  ⟨true, e, fun _ => h, fun q => Bool.noConfusion q⟩
theorem w_isE {K : PySem.W.Frag} {D a C : Addr} {b : Bool} {H : Hp} {Q : VK} (e : PySem.W.kitOne K (.ref D) (.ref C) = some b) (q : Q (.bl b) H) : rIsE K D a [.ref a, .ref C] H Q := ⟨.ref C, .ref C, b, rfl, fun _ r => r, e, q⟩
theorem w_seqP {t : TS} {u : TS} {D : Ends} {σ : L2.St} {H : Hp} (Pm : L2.St → Hp → Prop) (rest : ∀ σ H, Pm σ H → u D σ H) (first : (∀ σ H, Pm σ H → u D σ H) → t { D with nx := u D } σ H) : tSeq t u D σ H := first rest
/-- a op1 b op2 c op3 d -/
def tChain3 (r1 r2 r3 : R2) (ta tb tc td : TE) : TE := fun σ H Q => ta σ H fun x H1 => tb σ H1 fun y H2 => r1 x y H2 fun z H3 => ∃ k, z = .bl k ∧
  (if k = true then tc σ H3 fun u H4 => r2 y u H4 fun z2 H5 => ∃ k2, z2 = .bl k2 ∧ (if k2 = true then td σ H5 fun v H6 => r3 u v H6 Q else Q (.bl false) H5) else Q (.bl false) H3)
theorem pe_chain3 {X : Cx} {o1 o2 o3 : CmpOp} {r1 r2 r3 : R2} {a b c d : Expr} {ta tb tc td : TE} {pos : Pos} (h1 : OpR X (compareOp o1) r1) (h2 : OpR X (compareOp o2) r2) (h3 : OpR X (compareOp o3) r3) (ha : PE X a ta) (hb : PE X b tb) (hc : PE X c tc) (hd : PE X d td)
    (hm : lastMarks [o1, o2, o3] [b, c, d] = false := by with_unfolding_all rfl) : PE X (.Compare a [o1, o2, o3] [b, c, d] pos) (tChain3 r1 r2 r3 ta tb tc td) := by
  refine ⟨fun pins s σ H Q I h => Compare_chain (thn (ha.run pins s σ H _ I h) fun v0 s1 ⟨x, H1, I1, q1, w1⟩ => chain_link (thn (hb.run pins s1 σ H1 _ I1 w1) fun u0 s2 ⟨y, H2, I2, q2, w2⟩ => thn (h1 pins s2 σ H2 x y v0 u0 _ I2 q1 q2 w2) fun e0 s3 ⟨z, H3, I3, q3, k, ez, w3⟩ => ?_)) hm⟩
  subst ez; cases q3
  refine wpAny_truthy_bool ?_
  cases k with
  | false => exact ite_ff ⟨.bl false, H3, I3, rfl, w3⟩
  | true =>
    refine ite_tt (chain_link (thn (hc.run pins s3 σ H3 _ I3 w3) fun u1 s4 ⟨y1, H4, I4, q4, w4⟩ => thn (h2 pins s4 σ H4 y y1 u0 u1 _ I4 q2 q4 w4) fun e1 s5 ⟨z1, H5, I5, q5, k1, ez1, w5⟩ => ?_))
    subst ez1; cases q5
    refine wpAny_truthy_bool ?_
    cases k1 with
    | false => exact ite_ff ⟨.bl false, H5, I5, rfl, w5⟩
    | true => exact ite_tt (chain_last (thn (hd.run pins s5 σ H5 _ I5 w5) fun u2 s6 ⟨y2, H6, I6, q6, w6⟩ => h3 pins s6 σ H6 y1 y2 u1 u2 Q I6 q4 q6 w6))
theorem w_chain3 {r1 r2 r3 : R2} {ta tb tc td : TE} {σ : L2.St} {H : Hp} {Q : VK} (h : ta σ H fun x H1 => tb σ H1 fun y H2 => r1 x y H2 fun z H3 => ∃ k, z = .bl k ∧
  (if k = true then tc σ H3 fun u H4 => r2 y u H4 fun z2 H5 => ∃ k2, z2 = .bl k2 ∧ (if k2 = true then td σ H5 fun v H6 => r3 u v H6 Q else Q (.bl false) H5) else Q (.bl false) H3)) : tChain3 r1 r2 r3 ta tb tc td σ H Q := h
/-- tuples that stand: what is behind + and a slice stands too -/
theorem w_catT {K : PySem.W.Frag} {M G H : Hp} {a b : Addr} {xs ys : List V} {Q : VK} (j : J M G H) (h1 : SqT K G a xs) (h2 : SqT K G b ys) (z : xs.length + ys.length ≤ 1000000)
    (k : ∀ p G' H', J M G' H' → Ex G G' → SqT K G' p (xs ++ ys) → Q (.ref p) H') : uAdd K (.ref a) (.ref b) H Q :=
  .inr (.inr ⟨a, b, xs, ys, rfl, rfl, st_mono j.g h1, st_mono j.g h2, sz_le z, fun e => k b G H j (Same.refl G) (by subst e; exact h2), fun _ e => k a G H j (Same.refl G) (by subst e; rw [List.append_nil]; exact h1),
    fun _ _ p hp => k p _ _ (j.newG hp) (Ex.new (j.freeG hp)) (st_of upd_same)⟩)
theorem cut_all {xs : List V} {lo hi : Option Int} (h : HT.sIx xs.length 0 lo = 0 ∧ HT.sIx xs.length xs.length hi = xs.length) : cutV xs lo hi = xs := by
  unfold cutV
  rw [h.1, h.2]
  simp
theorem w_slTG {K : PySem.W.Frag} {M G H : Hp} {a : Addr} {xs : List V} {lo hi : Option Int} {Q : VK} (j : J M G H) (h : SqT K G a xs)
    (k : ∀ p G' H', J M G' H' → Ex G G' → SqT K G' p (cutV xs lo hi) → Q (.ref p) H') : uSl K (.ref a) lo hi H Q :=
  w_slT j h (fun e => k a G H j (Same.refl G) (by rw [cut_all e]; exact h)) fun _ => ⟨Nat.zero_le _, fun p hp => k p _ _ (j.newG hp) (Ex.new (j.freeG hp)) (st_of upd_same)⟩
theorem cut_sub {xs : List V} {lo hi : Option Int} {v : V} (h : v ∈ cutV xs lo hi) : v ∈ xs := by
  unfold cutV at h
  first
    | exact List.mem_of_mem_drop (List.mem_of_mem_take h)
    | exact List.mem_of_mem_take (List.mem_of_mem_drop h)
theorem cut_len {xs : List V} {lo hi : Option Int} : (cutV xs lo hi).length ≤ xs.length := by
  unfold cutV
  simp only [List.length_take, List.length_drop]
  omega
theorem kit_no {K : PySem.W.Frag} {A B : Addr} (h0 : (Value.ref A == Value.ref B) = false) (h1 : PySem.W.isClsIn K B = true) (h2 : PySem.W.typeIn K (.ref B) = some (.type "type")) (h3 : PySem.W.subIn K (.ref A) (.ref B) = some false) : PySem.W.kitOne K (.ref A) (.ref B) = some false := by
  have e : ((PySem.W.clsIn K B).isSome && PySem.W.typeIn K (.ref B) == some (.type "type")) = true := by rw [show (PySem.W.clsIn K B).isSome = true from h1, h2]; rfl
  unfold PySem.W.kitOne
  rw [h0, if_neg Bool.false_ne_true]
  exact (if_pos e).trans h3
/-! within a comprehension's block the context's own K is not to be named -/
section
variable {X : Cx} {K : PySem.W.Frag}
theorem pe_fldK {e : Expr} {te : TE} {f : Str} {pos : Pos} (h : X.K = K) (he : PE X e te) (hb : attributeBase e f X.env (eval e X.env) = eval e X.env) : PE X (.Attribute e f pos) (tFld K te f) := h ▸ pe_fld he hb
theorem pi_tupK {tg l : Expr} {tl : TE} (h : X.K = K) (hl : PE X l tl) : PI X tg l (iTup K tl) := h ▸ pi_tup hl
theorem pi_listK {tg l : Expr} {tl : TE} (h : X.K = K) (hl : PE X l tl) : PI X tg l (iList K tl) := h ▸ pi_list hl
theorem pg_tupK {es : List Expr} {k : Nat} {pos : Pos} {t : TGs} {n : Nat} (hK : X.K = K) (hc : X.calm = true) (h : PGs X es t) (hn : (assignEach es X.env).length = n := by rfl) (hst : (assignEach es X.env).findIdx? (·.1) = none := by rfl) :
    PG X (.Tuple es k pos) (gTup K n t) := hK ▸ pg_tup hc h hn hst
end
end Nz

namespace Nz
open PySem L2 PySem.Spec PyProof.Rows
local macro_rules
  | `(tactic| walk_at "v") => `(tactic| first
    | with_reducible refine w_asg ?_
    | ((with_reducible refine' w_var ?h ?_); (case h => rfl))
    | with_reducible refine w_c ?_
    | with_reducible refine w_op ?_
    | with_reducible refine w_if ?_
    | with_reducible refine w_test ?_
    | with_reducible refine w_bl ?_
    | with_reducible refine w_ret ?_
    | with_reducible refine w_gName ?_
    | with_reducible refine w_call ?_
    | with_reducible refine w_acons ?_
    | with_reducible refine w_anil ?_
    | with_reducible refine w_cDict ?_
    | with_reducible refine w_cList ?_
    | with_reducible refine w_cTup ?_
    | with_reducible refine w_cSortD ?_
    | with_reducible refine w_cb ?_
    | with_reducible refine w_next ?_
    | with_reducible refine w_drop ?_
    | with_reducible refine w_gSub ?_
    | with_reducible refine w_addI ?_
    | with_reducible refine w_I0 ?_
    | ((with_reducible refine' w_I ?hc ?_); (case hc => first | decide | exact ⟨by decide, by decide⟩ | exact ⟨by decide, by decide, by decide⟩))
    | ((with_reducible refine' w_mulI ?hc ?_); (case hc => first | exact .inr (by decide) | exact .inl (by decide)))
    | with_reducible refine w_eqI ?_
    | with_reducible refine w_neI ?_
    | with_reducible refine w_U ?_
    | with_reducible refine w_un ?_
    | with_reducible refine w_and ?_
    | with_reducible refine w_or ?_
    | with_reducible refine w_not ?_
    | with_reducible refine w_andV ?_
    | with_reducible refine w_orV ?_
    | with_reducible refine w_notV ?_
    | with_reducible refine w_ifE ?_
    | with_reducible refine w_isN ?_
    | with_reducible refine w_notN ?_
    | with_reducible refine w_tB ?_
    | with_reducible refine w_chain ?_
    | with_reducible refine w_chain3 ?_
    | with_reducible refine w_callS ?_
    | with_reducible refine w_raise ?_
    | with_reducible refine w_tryA ?_
    | with_reducible refine w_tup ?_
    | with_reducible refine w_lst ?_
    | with_reducible refine w_bm ?_
    | with_reducible refine w_sl ?_
    | with_reducible refine w_retN ?_
    | with_reducible refine w_forR ?_
    | ((with_reducible refine' w_eqS ?he ?_); (case he => first | exact decide_eq_true rfl | exact decide_eq_false (by decide +kernel)))
    | with_reducible refine w_T ?_
    | with_reducible refine w_nt ?_
    | with_reducible refine w_nf ?_
    | with_reducible refine w_F ?_
    | with_reducible refine w_part ?_
    | with_reducible refine w_partX ?_
    | with_reducible refine w_nopart ?_
    | with_reducible refine w_dget1 ?_
    | with_reducible refine w_dget2 ?_
    | with_reducible refine w_dget ?_
    | with_reducible refine w_din ?_
    | with_reducible refine w_dnotin ?_
    | with_reducible refine w_dput ?_
    | with_reducible refine w_dpop2 ?_
    | with_reducible refine w_dnew ?_
    | ((with_reducible refine' w_isi true ?hh ?e ?_); (case hh => first | exact ty_int | exact ty_bl | exact ty_str | exact ty_non); (case e => rfl))
    | ((with_reducible refine' w_isi false ?hh ?e ?_); (case hh => first | exact ty_int | exact ty_bl | exact ty_str | exact ty_non); (case e => rfl))
    | with_reducible refine w_lcR ?_
    | with_reducible refine w_lcL ?_)
local macro_rules
  | `(tactic| walk_at "w") => `(tactic| first | with_reducible refine w_seq ?_ | walk_at "v")
local macro_rules
  | `(tactic| walk_at "to") => `(tactic| ((repeat walk_at "v"); (try dsimp only [Int.reduceToNat, Int.reducePow, Int.reduceNeg, Int.reduceMul]); (with_reducible show tSeq _ _ _ _ _)))
local macro_rules
  | `(tactic| walk_at "go") => `(tactic| ((repeat walk_at "w"); (try dsimp only [Int.reduceToNat, Int.reducePow, Int.reduceNeg, Int.reduceMul])))
local macro_rules
  | `(tactic| walk_at "start") => `(tactic| ((try dsimp only [cxOf]); (repeat walk_at "w"); (try dsimp only [Int.reduceToNat, Int.reducePow, Int.reduceNeg, Int.reduceMul])))
local macro_rules
  | `(tactic| walk_at "ix") => `(tactic| first
    | refine w_ixT (by assumption) (st_of (by assumption)) (by rfl) ?_
    | refine w_ixL (by assumption) (sl_of (by assumption)) (by rfl) ?_
    | refine w_ixT (by assumption) (by assumption) (by rfl) ?_
    | refine w_ixL (by assumption) (by assumption) (by rfl) ?_
    | refine w_ixM (by assumption) (by assumption) (by rfl) ?_)
local macro_rules
  | `(tactic| walk_at "gx") => `(tactic| (repeat (first | walk_at "w" | walk_at "ix")); (try dsimp only [Int.reduceToNat, Int.reducePow, Int.reduceNeg, Int.reduceMul]))

def top (i : Nat) : Stmt := PySem.Challenge.pw_wholecloth_k50_clerks_ask_for_a_start.main.body.getD i (.Pass ⟨0, 0, 0, 0⟩)
/-! ### classes: their facts, methods, makings, properties -/
theorem lk_ne {a k : Str} {b : V} {es : List (Str × V)} (h : ¬ a = k) : ((k, b) :: es).lookup a = es.lookup a := by
  have hb : (a == k) = false := beq_eq_false_iff_ne.mpr h
  simp only [List.lookup, hb]
theorem lk_eq {k : Str} {b : V} {es : List (Str × V)} : ((k, b) :: es).lookup k = some b := by
  have hb : (k == k) = true := beq_iff_eq.mpr rfl
  simp only [List.lookup, hb]
theorem pf_ne {f g : Str} {v x : V} {r r' : List (Str × V)} (h : ¬ g = f) (e : putF f v r = r') : putF f v ((g, x) :: r) = (g, x) :: r' := by
  show (if g = f then _ else _) = _
  rw [if_neg h, e]
theorem pf_eq {f : Str} {v x : V} {r : List (Str × V)} : putF f v ((f, x) :: r) = (f, v) :: r := if_pos rfl
theorem upd_self {M : Hp} {a : Addr} {o : HO} (h : M a = some o) : upd M a o = M := by
  funext b
  by_cases q : b = a
  · subst q; rw [upd_same, h]
  · rw [upd_ne q]
structure Dm (K : PySem.W.Frag) (C : Addr) (m q : Str) (st : Stmt) (ps : List Str) (f : Addr) (fd : FuncData) : Prop where
  fn : Fun K m q st f fd
  me : Meth K C m f
  bn : Binds K fd ps []
structure Di (K : PySem.W.Frag) (C : Addr) (q : Str) (st : Stmt) (ps : List Str) (f : Addr) (fd : FuncData) : Prop where
  fn : Fun K "__init__" q st f fd
  mke : Mk K C f
  bn : Binds K fd ps []
structure Dpr (K : PySem.W.Frag) (C : Addr) (m q : Str) (st : Stmt) (ps : List Str) (pf f : Addr) (fd : FuncData) : Prop where
  fn : Fun K m q st f fd
  pr : PropOf K C m pf f
  bn : Binds K fd ps []
structure CalM (P : Program) (w : World) (K : PySem.W.Frag) (mg : Str → Option Value) (base : Heap) (CX : CXT) (k : Nat) (C : Addr) (m : Str) (sp : Sp) : Prop where
  ex : ∃ (f : Addr) (fd : FuncData) (ps : List Str), FnOk P w K mg base CX k f fd ps sp ∧ Meth K C m f ∧ Binds K fd ps []
structure CalI (P : Program) (w : World) (K : PySem.W.Frag) (mg : Str → Option Value) (base : Heap) (CX : CXT) (k : Nat) (C : Addr) (sp : Sp) : Prop where
  ex : ∃ (f : Addr) (fd : FuncData) (ps : List Str), FnOk P w K mg base CX k f fd ps sp ∧ Mk K C f ∧ Binds K fd ps []
structure CalP (P : Program) (w : World) (K : PySem.W.Frag) (mg : Str → Option Value) (base : Heap) (CX : CXT) (k : Nat) (C : Addr) (m : Str) (sp : Sp) : Prop where
  ex : ∃ (p f : Addr) (fd : FuncData) (ps : List Str), FnOk P w K mg base CX k f fd ps sp ∧ PropOf K C m p f ∧ Binds K fd ps []
section
variable {P : Program} {w : World} {K : PySem.W.Frag} {mg : Str → Option Value} {base : Heap} {C : Addr} {m q : Str} {st : Stmt} {ps : List Str} {f pf : Addr} {fd : FuncData} {N : List Str} {k : Nat} {sp : Sp}
theorem Dm.ok (D : Dm K C m q st ps f fd) (S : FnScope N ps (defScope st)) (len : ∀ vs H Q E, sp vs H Q E → vs.length = ps.length)
    (hbody : ∀ (cdv : Value) (A : Around) (outer : List Env) (s : Shared) (H : Hp) (vs : List V) (Q : VK) (E : XK), Room k (A.deeper (envOfC q (defScope st) s.heap.objs.size f cdv)) → sp vs H Q E →
      ∃ t, PSs (cxOf CX0 P w K mg base N q (defScope st) f cdv A outer s H E).nox (defBody st) t ∧ t { nx := fun _ H' => Q .non H', rt := Q } (start N vs) H) : CalM P w K mg base CX0 (k + 1) C m sp :=
  ⟨f, fd, ps, D.fn.ok S len hbody, D.me, D.bn⟩
theorem Dm.okX (D : Dm K C m q st ps f fd) (S : FnScope N ps (defScope st)) (len : ∀ vs H Q E, sp vs H Q E → vs.length = ps.length)
    (hbody : ∀ (cdv : Value) (A : Around) (outer : List Env) (s : Shared) (H : Hp) (vs : List V) (Q : VK) (E : XK), Room k (A.deeper (envOfC q (defScope st) s.heap.objs.size f cdv)) → sp vs H Q E →
      ∃ t, PSs (cxOf (L2.CX P w) P w K mg base N q (defScope st) f cdv A outer s H E) (defBody st) t ∧ t { nx := fun _ H' => Q .non H', rt := Q } (start N vs) H) : CalM P w K mg base (L2.CX P w) (k + 1) C m sp :=
  ⟨f, fd, ps, D.fn.okX S len hbody, D.me, D.bn⟩
theorem Di.ok (D : Di K C q st ps f fd) (S : FnScope N ps (defScope st)) (len : ∀ vs H Q E, sp vs H Q E → vs.length = ps.length)
    (hbody : ∀ (cdv : Value) (A : Around) (outer : List Env) (s : Shared) (H : Hp) (vs : List V) (Q : VK) (E : XK), Room k (A.deeper (envOfC q (defScope st) s.heap.objs.size f cdv)) → sp vs H Q E →
      ∃ t, PSs (cxOf CX0 P w K mg base N q (defScope st) f cdv A outer s H E).nox (defBody st) t ∧ t { nx := fun _ H' => Q .non H', rt := Q } (start N vs) H) : CalI P w K mg base CX0 (k + 1) C sp :=
  ⟨f, fd, ps, D.fn.ok S len hbody, D.mke, D.bn⟩
theorem Dpr.ok (D : Dpr K C m q st ps pf f fd) (S : FnScope N ps (defScope st)) (len : ∀ vs H Q E, sp vs H Q E → vs.length = ps.length)
    (hbody : ∀ (cdv : Value) (A : Around) (outer : List Env) (s : Shared) (H : Hp) (vs : List V) (Q : VK) (E : XK), Room k (A.deeper (envOfC q (defScope st) s.heap.objs.size f cdv)) → sp vs H Q E →
      ∃ t, PSs (cxOf CX0 P w K mg base N q (defScope st) f cdv A outer s H E).nox (defBody st) t ∧ t { nx := fun _ H' => Q .non H', rt := Q } (start N vs) H) : CalP P w K mg base CX0 (k + 1) C m sp :=
  ⟨pf, f, fd, ps, D.fn.ok S len hbody, D.pr, D.bn⟩
end
section
variable {X : Cx} {k j : Nat} {C : Addr} {m x : Str} {sp : Sp} {p pos apos : Pos} {o e : Expr} {es : List Expr} {ta : TE} {t : TA}
theorem pe_calM (c : CalM X.prog X.w X.K X.mg X.base CX0 k C m sp) (cl : Cls X.K C) (hr : Room j X.A) (hk : k ≤ j) (ho : PE X o ta) (ha : PA X (e :: es) t) {pl : Sem Bool}
    (hst : starEach (e :: es) X.env = (false, eval e X.env) :: starEach es X.env := by rfl) (hpl : (backTo pos (starEach es X.env)).any (·.1) = false := by rfl)
    (ht : eval (.Call (.Attribute o m apos) (e :: es) [] pos) X.env = (do
      let ov ← eval o X.env
      standAt apos.atName
      let (f, first) ← holding [ov] (getMethod ov m pl)
      callWith pos f first (backTo pos (starEach (e :: es) X.env)) (backToKw pos (keywordEach [] X.env))) := by rfl) :
    PE X (.Call (.Attribute o m apos) (e :: es) [] pos) (tMeth C m sp [] E0 ta t) := by
  obtain ⟨f, fd, ps, F, me, b⟩ := c.ex
  exact pe_meth ho cl me F (hr.mono hk) b .nil pass0 ha hst hpl ht
theorem pe_calM0 (c : CalM X.prog X.w X.K X.mg X.base CX0 k C m sp) (cl : Cls X.K C) (hr : Room j X.A) (hk : k ≤ j) (ho : PE X o ta) {pl : Sem Bool}
    (ht : eval (.Call (.Attribute o m apos) [] [] pos) X.env = (do
      let ov ← eval o X.env
      standAt apos.atName
      let (f, first) ← holding [ov] (getMethod ov m pl)
      callWith pos f first (backTo pos (starEach [] X.env)) (backToKw pos (keywordEach [] X.env))) := by rfl) :
    PE X (.Call (.Attribute o m apos) [] [] pos) (tMeth C m sp [] E0 ta tNil) := by
  obtain ⟨f, fd, ps, F, me, b⟩ := c.ex
  exact pe_meth0 ho cl me F (hr.mono hk) b .nil pass0 ht
theorem pe_calI (c : CalI X.prog X.w X.K X.mg X.base CX0 k C sp) (gC : X.mg x = some (.ref C)) (hr : Room j X.A) (hk : k + 1 ≤ j) (hg : Gl X x) (ha : PA X (e :: es) t)
    (hdb : (x == ("__debug__" : Str)) = false := by decide) (he : starEach (e :: es) X.env = (false, eval e X.env) :: starEach es X.env := by rfl) (hpl : (backTo pos (starEach es X.env)).any (·.1) = false := by rfl) :
    PE X (.Call (.Name x p) (e :: es) [] pos) (tMake C sp [] E0 t) := by
  obtain ⟨f, fd, ps, F, mk, b⟩ := c.ex
  exact pe_make mk F (hr.mono hk) hg gC b .nil pass0 ha hdb he hpl
theorem pe_calI0 (c : CalI X.prog X.w X.K X.mg X.base CX0 k C sp) (gC : X.mg x = some (.ref C)) (hr : Room j X.A) (hk : k + 1 ≤ j) (hg : Gl X x)
    (hdb : (x == ("__debug__" : Str)) = false := by decide) : PE X (.Call (.Name x p) [] [] pos) (tMake C sp [] E0 tNil) := by
  obtain ⟨f, fd, ps, F, mk, b⟩ := c.ex
  exact pe_make0 mk F (hr.mono hk) hg gC b .nil pass0 hdb
theorem pe_calP (c : CalP X.prog X.w X.K X.mg X.base CX0 k C m sp) (cl : Cls X.K C) (hr : Room j X.A) (hk : k + 1 ≤ j) (ho : PE X o ta)
    (hab : attributeBase o m X.env (eval o X.env) = eval o X.env) : PE X (.Attribute o m pos) (tProp C sp [] E0 ta) := by
  obtain ⟨q, f, fd, ps, F, pr, b⟩ := c.ex
  exact pe_prop ho cl pr F (hr.mono hk) b .nil pass0 hab
end
/-! the steps -/
section
variable {K : PySem.W.Frag} {M G H : Hp} {σ : L2.St} {x y v : V} {ta tv : TE} {tr : TA} {Q : VK} {D : Ends} {a C dx : Addr} {fs : List (Str × V)} {f m : Str} {sp : Sp} {dvs : List V} {E : XK}
def FldX (K : PySem.W.Frag) (f : Str) (x : V) (H1 : Hp) (Q : VK) : Prop := ∃ a C dx fs v, x = .ref a ∧ H1 a = some (.ins C dx fs) ∧ Cls K C ∧ NoAttr K C f ∧ fs.lookup f = some v ∧ Q v H1
theorem w_fld (h : ta σ H fun x H1 => FldX K f x H1 Q) : tFld K ta f σ H Q := h
theorem w_fldM (j : J M G H) (h : M a = some (.ins C dx fs)) (c : Cls K C) (n : NoAttr K C f) (l : fs.lookup f = some v) (q : Q v H) : FldX K f (.ref a) H Q := ⟨a, C, dx, fs, v, rfl, j.m _ _ h, c, n, l, q⟩
theorem w_fldG (j : J M G H) (h : G a = some (.ins C dx fs)) (c : Cls K C) (n : NoAttr K C f) (l : fs.lookup f = some v) (q : Q v H) : FldX K f (.ref a) H Q := ⟨a, C, dx, fs, v, rfl, j.g _ _ h, c, n, l, q⟩
def SetX (K : PySem.W.Frag) (f : Str) (x y : V) (H2 : Hp) (R : Hp → Prop) : Prop := ∃ a C dx fs, x = .ref a ∧ H2 a = some (.ins C dx fs) ∧ Cls K C ∧ NoAttr K C f ∧ fs.length < 1000 ∧ R (upd H2 a (.ins C dx (putF f y fs)))
theorem w_sfld (h : tv σ H fun y H1 => ta σ H1 fun x H2 => SetX K f x y H2 (D.nx σ)) : sFld K ta tv f D σ H := h
theorem w_setX {R : Hp → Prop} (j : J M G H) (h : M a = some (.ins C dx fs)) (c : Cls K C) (n : NoAttr K C f) (l : fs.length < 1000) (q : ∀ H', J (upd M a (.ins C dx (putF f y fs))) G H' → R H') : SetX K f (.ref a) y H R :=
  ⟨a, C, dx, fs, rfl, j.m _ _ h, c, n, l, q _ (j.put h)⟩
def MethX (C : Addr) (m : Str) (sp : Sp) (dvs : List V) (E : XK) (t : TA) (σ : L2.St) (x : V) (H1 : Hp) (Q : VK) : Prop := ∃ a dx fs, x = .ref a ∧ H1 a = some (.ins C dx fs) ∧ fs.lookup m = none ∧ t σ H1 fun vs H2 => sp (x :: (vs ++ dvs)) H2 Q E
theorem w_meth (h : ta σ H fun x H1 => MethX C m sp dvs E tr σ x H1 Q) : tMeth C m sp dvs E ta tr σ H Q := h
theorem w_methM (j : J M G H) (h : M a = some (.ins C dx fs)) (l : fs.lookup m = none) (q : tr σ H fun vs H2 => sp (.ref a :: (vs ++ dvs)) H2 Q E) : MethX C m sp dvs E tr σ (.ref a) H Q := ⟨a, dx, fs, rfl, j.m _ _ h, l, q⟩
theorem w_methG (j : J M G H) (h : G a = some (.ins C dx fs)) (l : fs.lookup m = none) (q : tr σ H fun vs H2 => sp (.ref a :: (vs ++ dvs)) H2 Q E) : MethX C m sp dvs E tr σ (.ref a) H Q := ⟨a, dx, fs, rfl, j.g _ _ h, l, q⟩
def PropX (C : Addr) (sp : Sp) (dvs : List V) (E : XK) (x : V) (H1 : Hp) (Q : VK) : Prop := ∃ a dx fs, x = .ref a ∧ H1 a = some (.ins C dx fs) ∧ sp (.ref a :: dvs) H1 Q E
theorem w_prop (h : ta σ H fun x H1 => PropX C sp dvs E x H1 Q) : tProp C sp dvs E ta σ H Q := h
theorem w_propM (j : J M G H) (h : M a = some (.ins C dx fs)) (q : sp (.ref a :: dvs) H Q E) : PropX C sp dvs E (.ref a) H Q := ⟨a, dx, fs, rfl, j.m _ _ h, q⟩
theorem w_propG (j : J M G H) (h : G a = some (.ins C dx fs)) (q : sp (.ref a :: dvs) H Q E) : PropX C sp dvs E (.ref a) H Q := ⟨a, dx, fs, rfl, j.g _ _ h, q⟩
/-- C(..): what is asked behind the arguments -/
def MakeX (C : Addr) (sp : Sp) (dvs : List V) (E : XK) (vs : List V) (H1 : Hp) (Q : VK) : Prop := ∀ x dx, H1 x = none → H1 dx = none → dx ≠ x →
  sp (.ref x :: (vs ++ dvs)) (upd (upd H1 dx (.own x)) x (.ins C dx [])) (fun v H2 => v = .non ∧ Q (.ref x) H2) E
theorem w_make (h : tr σ H fun vs H1 => MakeX C sp dvs E vs H1 Q) : tMake C sp dvs E tr σ H Q := h
/-- a new instance, owned; its dict stands nowhere in M, G -/
theorem w_makeX {vs : List V} (j : J M G H) (q : ∀ x dx H', J (upd M x (.ins C dx [])) G H' → M x = none → G x = none → sp (.ref x :: (vs ++ dvs)) H' (fun v H2 => v = .non ∧ Q (.ref x) H2) E) : MakeX C sp dvs E vs H Q := by
  intro x dx hx hd ne
  have j1 : J M G (upd H dx (.own x)) := ⟨fun a o e => by rw [upd_ne (ne_of_none (j.m a o e) hd)]; exact j.m a o e, fun a o e => by rw [upd_ne (ne_of_none (j.g a o e) hd)]; exact j.g a o e, j.d⟩
  exact q x dx _ (j1.newM (by rw [upd_ne ne.symm]; exact hx)) (j.freeM hx) (j.freeG hx)
end
/-! zip of two lists, as far as both go -/
def ZipX (K : PySem.W.Frag) (g : TG) (t : TS) (D : Ends) (σ : L2.St) (vs : List V) (H1 : Hp) : Prop := ∃ a b xs ys, vs = [.ref a, .ref b] ∧ SqL K H1 a xs ∧ SqL K H1 b ys ∧ ∃ W : Nat → Nat → L2.St → Hp → Prop, (∃ m, W 0 m σ H1) ∧ ∀ i m σ H, W i m σ H →
      ((Itz K a b).stop i H ∧ D.nx σ H) ∨ ((Itz K a b).go i H ∧ ∃ N : L2.St → Hp → Prop, (∀ σ' H', N σ' H' → ∃ m', m' < m ∧ W (i + 1) m' σ' H') ∧ ∀ v H', (Itz K a b).yld i H v H' → g v σ H' fun σ2 H2 => t { D with nx := N, ct := N, bk := D.nx } σ2 H2)
theorem w_forZ {K : PySem.W.Frag} {ta : TA} {g : TG} {t : TS} {D : Ends} {σ : L2.St} {H : Hp} (h : ta σ H fun vs H1 => ZipX K g t D σ vs H1) : tFor (iZip K ta) g t D σ H := h
theorem w_zip {K : PySem.W.Frag} {a b : Addr} {xs ys : List V} {g : TG} {tb : TS} {D : Ends} {σ : L2.St} {H : Hp} (Pv : Nat → L2.St → Hp → Prop) (h0 : Pv 0 σ H) (hq : ∀ i σ H, Pv i σ H → SqL K H a xs ∧ SqL K H b ys)
    (hs : ∀ (i : Nat) (x y : V) (T : Addr) (σ : L2.St) (H : Hp), xs[i]? = some x → ys[i]? = some y → Pv i σ H → H T = none → g (.ref T) σ (upd H T (.tup [x, y])) fun σ2 H2 => tb { D with nx := Pv (i + 1), ct := Pv (i + 1), bk := D.nx } σ2 H2) (hd : ∀ σ H, Pv (min xs.length ys.length) σ H → D.nx σ H) :
    ZipX K g tb D σ [.ref a, .ref b] H := by
  obtain ⟨q1, q2⟩ := hq 0 σ H h0
  refine ⟨a, b, xs, ys, rfl, q1, q2, fun i m σ H => m = min xs.length ys.length - i ∧ i ≤ min xs.length ys.length ∧ Pv i σ H, ⟨_, rfl, Nat.zero_le _, h0⟩, ?_⟩
  rintro i m σ H ⟨rfl, hi, p⟩
  obtain ⟨qx, qy⟩ := hq i σ H p
  by_cases hlt : i < min xs.length ys.length
  · have hx : xs[i]? = some xs[i] := List.getElem?_eq_getElem (by omega)
    have hy : ys[i]? = some ys[i] := List.getElem?_eq_getElem (by omega)
    refine .inr ⟨⟨xs, ys, _, _, qx, qy, hx, hy⟩, Pv (i + 1), fun σ' H' p' => ⟨min xs.length ys.length - (i + 1), by omega, rfl, hlt, p'⟩, fun v H' y => ?_⟩
    obtain ⟨T, x', y', rfl, hT, rfl, f1, f2⟩ := y
    exact hs i x' y' T σ H (f1 xs qx) (f2 ys qy) p hT
  · have e : i = min xs.length ys.length := by omega
    subst e
    exact .inl ⟨⟨xs, ys, qx, qy, by omega⟩, hd σ H p⟩
/-! for x in e, e a list -/
def ForX (K : PySem.W.Frag) (g : TG) (t : TS) (D : Ends) (σ : L2.St) (x : V) (H1 : Hp) : Prop := ∃ a, x = .ref a ∧ (∃ xs, SqL K H1 a xs) ∧ ∃ W : Nat → Nat → L2.St → Hp → Prop, (∃ m, W 0 m σ H1) ∧ ∀ i m σ H, W i m σ H →
      ((Itl K a).stop i H ∧ D.nx σ H) ∨ ((Itl K a).go i H ∧ ∃ N : L2.St → Hp → Prop, (∀ σ' H', N σ' H' → ∃ m', m' < m ∧ W (i + 1) m' σ' H') ∧ ∀ x H', (Itl K a).yld i H x H' → g x σ H' fun σ2 H2 => t { D with nx := N, ct := N, bk := D.nx } σ2 H2)
theorem w_forE {K : PySem.W.Frag} {tl : TE} {g : TG} {t : TS} {D : Ends} {σ : L2.St} {H : Hp} (h : tl σ H fun x H1 => ForX K g t D σ x H1) : tFor (iList K tl) g t D σ H := h
theorem w_forX {K : PySem.W.Frag} {a : Addr} {xs : List V} {g : TG} {t : TS} {D : Ends} {σ : L2.St} {H : Hp} (Pv : Nat → L2.St → Hp → Prop) (h0 : Pv 0 σ H) (hl : ∀ i σ H, i ≤ xs.length → Pv i σ H → SqL K H a xs)
    (hs : ∀ i x σ H, xs[i]? = some x → Pv i σ H → g x σ H fun σ2 H2 => t { D with nx := Pv (i + 1), ct := Pv (i + 1), bk := D.nx } σ2 H2) (hd : ∀ σ H, Pv xs.length σ H → D.nx σ H) : ForX K g t D σ (.ref a) H :=
  ⟨a, rfl, ⟨xs, hl 0 σ H (Nat.zero_le _) h0⟩, for_list Pv h0 hl hs hd⟩
local macro_rules
  | `(tactic| walk_at "v") => `(tactic| first
    | with_reducible refine w_fld ?_
    | with_reducible refine w_sfld ?_
    | with_reducible refine w_meth ?_
    | with_reducible refine w_prop ?_
    | with_reducible refine w_make ?_
    | with_reducible refine w_forZ ?_
    | with_reducible refine w_forE (tl := tFld _ _ _) ?_
    | with_reducible refine w_forE (tl := tOp _ _ _) ?_
    | with_reducible refine w_forE (tl := tCB _ _) ?_
    | with_reducible refine w_forE (tl := tLst _) ?_)
def ForTX (K : PySem.W.Frag) (g : TG) (t : TS) (D : Ends) (σ : L2.St) (x : V) (H1 : Hp) : Prop := ∃ a, x = .ref a ∧ (∃ xs, SqT K H1 a xs) ∧ ∃ W : Nat → Nat → L2.St → Hp → Prop, (∃ m, W 0 m σ H1) ∧ ∀ i m σ H, W i m σ H →
      ((Itt K a).stop i H ∧ D.nx σ H) ∨ ((Itt K a).go i H ∧ ∃ N : L2.St → Hp → Prop, (∀ σ' H', N σ' H' → ∃ m', m' < m ∧ W (i + 1) m' σ' H') ∧ ∀ x H', (Itt K a).yld i H x H' → g x σ H' fun σ2 H2 => t { D with nx := N, ct := N, bk := D.nx } σ2 H2)
theorem w_forTE {K : PySem.W.Frag} {tl : TE} {g : TG} {t : TS} {D : Ends} {σ : L2.St} {H : Hp} (h : tl σ H fun x H1 => ForTX K g t D σ x H1) : tFor (iTup K tl) g t D σ H := h
theorem w_forTX {K : PySem.W.Frag} {a : Addr} {xs : List V} {g : TG} {t : TS} {D : Ends} {σ : L2.St} {H : Hp} (Pv : Nat → L2.St → Hp → Prop) (h0 : Pv 0 σ H) (hl : ∀ i σ H, i ≤ xs.length → Pv i σ H → SqT K H a xs)
    (hs : ∀ i x σ H, xs[i]? = some x → Pv i σ H → g x σ H fun σ2 H2 => t { D with nx := Pv (i + 1), ct := Pv (i + 1), bk := D.nx } σ2 H2) (hd : ∀ σ H, Pv xs.length σ H → D.nx σ H) : ForTX K g t D σ (.ref a) H :=
  ⟨a, rfl, ⟨xs, hl 0 σ H (Nat.zero_le _) h0⟩, for_tup Pv h0 hl hs hd⟩
local macro_rules
  | `(tactic| walk_at "v") => `(tactic| first
    | with_reducible refine w_forTE (tl := tFld _ _ _) ?_
    | with_reducible refine w_forTE (tl := tOp _ _ _) ?_
    | with_reducible refine w_forTE (tl := tC _) ?_
    | with_reducible refine w_forE (tl := tC _) ?_
    | with_reducible refine w_forTE (tl := tCall _ _ _ _) ?_
    | with_reducible refine w_forE (tl := tCall _ _ _ _) ?_)
/-! ### class Route -/
structure Tx_Route (K : PySem.W.Frag) (mg : Str → Option Value) (C : Addr) : Prop where
  cl : Cls K C
  gC : mg "Route" = some (.ref C)
  n_machine : NoAttr K C "machine"
  n_turn : NoAttr K C "turn"
  n_taken : NoAttr K C "taken"
def fl_Route (x0 x1 x2 : V) : List (Str × V) := [("machine", x0), ("turn", x1), ("taken", x2)]
theorem fl_Route_machine {x0 x1 x2 : V} : (fl_Route x0 x1 x2).lookup ("machine" : Str) = some x0 := lk_eq
theorem sf_Route_machine {x0 x1 x2 y : V} : putF "machine" y (fl_Route x0 x1 x2) = fl_Route y x1 x2 := pf_eq
theorem fl_Route_turn {x0 x1 x2 : V} : (fl_Route x0 x1 x2).lookup ("turn" : Str) = some x1 := (lk_ne (by decide +kernel : ¬ (("turn" : Str) = "machine"))).trans (lk_eq)
theorem sf_Route_turn {x0 x1 x2 y : V} : putF "turn" y (fl_Route x0 x1 x2) = fl_Route x0 y x2 := pf_ne (by decide +kernel : ¬ (("machine" : Str) = "turn")) (pf_eq)
theorem fl_Route_taken {x0 x1 x2 : V} : (fl_Route x0 x1 x2).lookup ("taken" : Str) = some x2 := (lk_ne (by decide +kernel : ¬ (("taken" : Str) = "machine"))).trans ((lk_ne (by decide +kernel : ¬ (("taken" : Str) = "turn"))).trans (lk_eq))
theorem sf_Route_taken {x0 x1 x2 y : V} : putF "taken" y (fl_Route x0 x1 x2) = fl_Route x0 x1 y := pf_ne (by decide +kernel : ¬ (("machine" : Str) = "taken")) (pf_ne (by decide +kernel : ¬ (("turn" : Str) = "taken")) (pf_eq))
theorem no_Route {x0 x1 x2 : V} {m : Str} (h_machine : ¬ m = "machine") (h_turn : ¬ m = "turn") (h_taken : ¬ m = "taken") : (fl_Route x0 x1 x2).lookup m = none := (lk_ne h_machine).trans ((lk_ne h_turn).trans ((lk_ne h_taken).trans (rfl)))
theorem nf_Route_machine {x0 : V} : putF "machine" x0 ([] : List (Str × V)) = ([("machine", x0)] : List (Str × V)) := rfl
theorem nf_Route_turn {x0 x1 : V} : putF "turn" x1 ([("machine", x0)] : List (Str × V)) = ([("machine", x0), ("turn", x1)] : List (Str × V)) := pf_ne (by decide +kernel : ¬ (("machine" : Str) = "turn")) (rfl)
theorem nf_Route_taken {x0 x1 x2 : V} : putF "taken" x2 ([("machine", x0), ("turn", x1)] : List (Str × V)) = ([("machine", x0), ("turn", x1), ("taken", x2)] : List (Str × V)) := pf_ne (by decide +kernel : ¬ (("machine" : Str) = "taken")) (pf_ne (by decide +kernel : ¬ (("turn" : Str) = "taken")) (rfl))
/-! ### class Call -/
structure Tx_Call (K : PySem.W.Frag) (mg : Str → Option Value) (C : Addr) : Prop where
  cl : Cls K C
  gC : mg "Call" = some (.ref C)
  n_group : NoAttr K C "group"
  n_command : NoAttr K C "command"
  n_blocked : NoAttr K C "blocked"
  n_hint : NoAttr K C "hint"
def fl_Call (x0 x1 x2 x3 : V) : List (Str × V) := [("group", x0), ("command", x1), ("blocked", x2), ("hint", x3)]
theorem fl_Call_group {x0 x1 x2 x3 : V} : (fl_Call x0 x1 x2 x3).lookup ("group" : Str) = some x0 := lk_eq
theorem sf_Call_group {x0 x1 x2 x3 y : V} : putF "group" y (fl_Call x0 x1 x2 x3) = fl_Call y x1 x2 x3 := pf_eq
theorem fl_Call_command {x0 x1 x2 x3 : V} : (fl_Call x0 x1 x2 x3).lookup ("command" : Str) = some x1 := (lk_ne (by decide +kernel : ¬ (("command" : Str) = "group"))).trans (lk_eq)
theorem sf_Call_command {x0 x1 x2 x3 y : V} : putF "command" y (fl_Call x0 x1 x2 x3) = fl_Call x0 y x2 x3 := pf_ne (by decide +kernel : ¬ (("group" : Str) = "command")) (pf_eq)
theorem fl_Call_blocked {x0 x1 x2 x3 : V} : (fl_Call x0 x1 x2 x3).lookup ("blocked" : Str) = some x2 := (lk_ne (by decide +kernel : ¬ (("blocked" : Str) = "group"))).trans ((lk_ne (by decide +kernel : ¬ (("blocked" : Str) = "command"))).trans (lk_eq))
theorem sf_Call_blocked {x0 x1 x2 x3 y : V} : putF "blocked" y (fl_Call x0 x1 x2 x3) = fl_Call x0 x1 y x3 := pf_ne (by decide +kernel : ¬ (("group" : Str) = "blocked")) (pf_ne (by decide +kernel : ¬ (("command" : Str) = "blocked")) (pf_eq))
theorem fl_Call_hint {x0 x1 x2 x3 : V} : (fl_Call x0 x1 x2 x3).lookup ("hint" : Str) = some x3 := (lk_ne (by decide +kernel : ¬ (("hint" : Str) = "group"))).trans ((lk_ne (by decide +kernel : ¬ (("hint" : Str) = "command"))).trans ((lk_ne (by decide +kernel : ¬ (("hint" : Str) = "blocked"))).trans (lk_eq)))
theorem sf_Call_hint {x0 x1 x2 x3 y : V} : putF "hint" y (fl_Call x0 x1 x2 x3) = fl_Call x0 x1 x2 y := pf_ne (by decide +kernel : ¬ (("group" : Str) = "hint")) (pf_ne (by decide +kernel : ¬ (("command" : Str) = "hint")) (pf_ne (by decide +kernel : ¬ (("blocked" : Str) = "hint")) (pf_eq)))
theorem no_Call {x0 x1 x2 x3 : V} {m : Str} (h_group : ¬ m = "group") (h_command : ¬ m = "command") (h_blocked : ¬ m = "blocked") (h_hint : ¬ m = "hint") : (fl_Call x0 x1 x2 x3).lookup m = none := (lk_ne h_group).trans ((lk_ne h_command).trans ((lk_ne h_blocked).trans ((lk_ne h_hint).trans (rfl))))
theorem nf_Call_group {x0 : V} : putF "group" x0 ([] : List (Str × V)) = ([("group", x0)] : List (Str × V)) := rfl
theorem nf_Call_command {x0 x1 : V} : putF "command" x1 ([("group", x0)] : List (Str × V)) = ([("group", x0), ("command", x1)] : List (Str × V)) := pf_ne (by decide +kernel : ¬ (("group" : Str) = "command")) (rfl)
theorem nf_Call_blocked {x0 x1 x2 : V} : putF "blocked" x2 ([("group", x0), ("command", x1)] : List (Str × V)) = ([("group", x0), ("command", x1), ("blocked", x2)] : List (Str × V)) := pf_ne (by decide +kernel : ¬ (("group" : Str) = "blocked")) (pf_ne (by decide +kernel : ¬ (("command" : Str) = "blocked")) (rfl))
theorem nf_Call_hint {x0 x1 x2 x3 : V} : putF "hint" x3 ([("group", x0), ("command", x1), ("blocked", x2)] : List (Str × V)) = ([("group", x0), ("command", x1), ("blocked", x2), ("hint", x3)] : List (Str × V)) := pf_ne (by decide +kernel : ¬ (("group" : Str) = "hint")) (pf_ne (by decide +kernel : ¬ (("command" : Str) = "hint")) (pf_ne (by decide +kernel : ¬ (("blocked" : Str) = "hint")) (rfl)))
/-! ### class Attempt -/
structure Tx_Attempt (K : PySem.W.Frag) (mg : Str → Option Value) (C : Addr) : Prop where
  cl : Cls K C
  gC : mg "Attempt" = some (.ref C)
  n_deal : NoAttr K C "deal"
  n_ops : NoAttr K C "ops"
  n_step : NoAttr K C "step"
  n_needed : NoAttr K C "needed"
  n_start : NoAttr K C "start"
  n_parts : NoAttr K C "parts"
  n_rows : NoAttr K C "rows"
  n_results : NoAttr K C "results"
  n_groups : NoAttr K C "groups"
  n_lead : NoAttr K C "lead"
  n_verdict : NoAttr K C "verdict"
  n_ended : NoAttr K C "ended"
  n_over : NoAttr K C "over"
def fl_Attempt (x0 x1 x2 x3 x4 x5 x6 x7 x8 x9 x10 x11 x12 : V) : List (Str × V) := [("deal", x0), ("ops", x1), ("step", x2), ("needed", x3), ("start", x4), ("parts", x5), ("rows", x6), ("results", x7), ("groups", x8), ("lead", x9), ("verdict", x10), ("ended", x11), ("over", x12)]
theorem fl_Attempt_deal {x0 x1 x2 x3 x4 x5 x6 x7 x8 x9 x10 x11 x12 : V} : (fl_Attempt x0 x1 x2 x3 x4 x5 x6 x7 x8 x9 x10 x11 x12).lookup ("deal" : Str) = some x0 := lk_eq
theorem sf_Attempt_deal {x0 x1 x2 x3 x4 x5 x6 x7 x8 x9 x10 x11 x12 y : V} : putF "deal" y (fl_Attempt x0 x1 x2 x3 x4 x5 x6 x7 x8 x9 x10 x11 x12) = fl_Attempt y x1 x2 x3 x4 x5 x6 x7 x8 x9 x10 x11 x12 := pf_eq
theorem fl_Attempt_ops {x0 x1 x2 x3 x4 x5 x6 x7 x8 x9 x10 x11 x12 : V} : (fl_Attempt x0 x1 x2 x3 x4 x5 x6 x7 x8 x9 x10 x11 x12).lookup ("ops" : Str) = some x1 := (lk_ne (by decide +kernel : ¬ (("ops" : Str) = "deal"))).trans (lk_eq)
theorem sf_Attempt_ops {x0 x1 x2 x3 x4 x5 x6 x7 x8 x9 x10 x11 x12 y : V} : putF "ops" y (fl_Attempt x0 x1 x2 x3 x4 x5 x6 x7 x8 x9 x10 x11 x12) = fl_Attempt x0 y x2 x3 x4 x5 x6 x7 x8 x9 x10 x11 x12 := pf_ne (by decide +kernel : ¬ (("deal" : Str) = "ops")) (pf_eq)
theorem fl_Attempt_step {x0 x1 x2 x3 x4 x5 x6 x7 x8 x9 x10 x11 x12 : V} : (fl_Attempt x0 x1 x2 x3 x4 x5 x6 x7 x8 x9 x10 x11 x12).lookup ("step" : Str) = some x2 := (lk_ne (by decide +kernel : ¬ (("step" : Str) = "deal"))).trans ((lk_ne (by decide +kernel : ¬ (("step" : Str) = "ops"))).trans (lk_eq))
theorem sf_Attempt_step {x0 x1 x2 x3 x4 x5 x6 x7 x8 x9 x10 x11 x12 y : V} : putF "step" y (fl_Attempt x0 x1 x2 x3 x4 x5 x6 x7 x8 x9 x10 x11 x12) = fl_Attempt x0 x1 y x3 x4 x5 x6 x7 x8 x9 x10 x11 x12 := pf_ne (by decide +kernel : ¬ (("deal" : Str) = "step")) (pf_ne (by decide +kernel : ¬ (("ops" : Str) = "step")) (pf_eq))
theorem fl_Attempt_needed {x0 x1 x2 x3 x4 x5 x6 x7 x8 x9 x10 x11 x12 : V} : (fl_Attempt x0 x1 x2 x3 x4 x5 x6 x7 x8 x9 x10 x11 x12).lookup ("needed" : Str) = some x3 := (lk_ne (by decide +kernel : ¬ (("needed" : Str) = "deal"))).trans ((lk_ne (by decide +kernel : ¬ (("needed" : Str) = "ops"))).trans ((lk_ne (by decide +kernel : ¬ (("needed" : Str) = "step"))).trans (lk_eq)))
theorem sf_Attempt_needed {x0 x1 x2 x3 x4 x5 x6 x7 x8 x9 x10 x11 x12 y : V} : putF "needed" y (fl_Attempt x0 x1 x2 x3 x4 x5 x6 x7 x8 x9 x10 x11 x12) = fl_Attempt x0 x1 x2 y x4 x5 x6 x7 x8 x9 x10 x11 x12 := pf_ne (by decide +kernel : ¬ (("deal" : Str) = "needed")) (pf_ne (by decide +kernel : ¬ (("ops" : Str) = "needed")) (pf_ne (by decide +kernel : ¬ (("step" : Str) = "needed")) (pf_eq)))
theorem fl_Attempt_start {x0 x1 x2 x3 x4 x5 x6 x7 x8 x9 x10 x11 x12 : V} : (fl_Attempt x0 x1 x2 x3 x4 x5 x6 x7 x8 x9 x10 x11 x12).lookup ("start" : Str) = some x4 := (lk_ne (by decide +kernel : ¬ (("start" : Str) = "deal"))).trans ((lk_ne (by decide +kernel : ¬ (("start" : Str) = "ops"))).trans ((lk_ne (by decide +kernel : ¬ (("start" : Str) = "step"))).trans ((lk_ne (by decide +kernel : ¬ (("start" : Str) = "needed"))).trans (lk_eq))))
theorem sf_Attempt_start {x0 x1 x2 x3 x4 x5 x6 x7 x8 x9 x10 x11 x12 y : V} : putF "start" y (fl_Attempt x0 x1 x2 x3 x4 x5 x6 x7 x8 x9 x10 x11 x12) = fl_Attempt x0 x1 x2 x3 y x5 x6 x7 x8 x9 x10 x11 x12 := pf_ne (by decide +kernel : ¬ (("deal" : Str) = "start")) (pf_ne (by decide +kernel : ¬ (("ops" : Str) = "start")) (pf_ne (by decide +kernel : ¬ (("step" : Str) = "start")) (pf_ne (by decide +kernel : ¬ (("needed" : Str) = "start")) (pf_eq))))
theorem fl_Attempt_parts {x0 x1 x2 x3 x4 x5 x6 x7 x8 x9 x10 x11 x12 : V} : (fl_Attempt x0 x1 x2 x3 x4 x5 x6 x7 x8 x9 x10 x11 x12).lookup ("parts" : Str) = some x5 := (lk_ne (by decide +kernel : ¬ (("parts" : Str) = "deal"))).trans ((lk_ne (by decide +kernel : ¬ (("parts" : Str) = "ops"))).trans ((lk_ne (by decide +kernel : ¬ (("parts" : Str) = "step"))).trans ((lk_ne (by decide +kernel : ¬ (("parts" : Str) = "needed"))).trans ((lk_ne (by decide +kernel : ¬ (("parts" : Str) = "start"))).trans (lk_eq)))))
theorem sf_Attempt_parts {x0 x1 x2 x3 x4 x5 x6 x7 x8 x9 x10 x11 x12 y : V} : putF "parts" y (fl_Attempt x0 x1 x2 x3 x4 x5 x6 x7 x8 x9 x10 x11 x12) = fl_Attempt x0 x1 x2 x3 x4 y x6 x7 x8 x9 x10 x11 x12 := pf_ne (by decide +kernel : ¬ (("deal" : Str) = "parts")) (pf_ne (by decide +kernel : ¬ (("ops" : Str) = "parts")) (pf_ne (by decide +kernel : ¬ (("step" : Str) = "parts")) (pf_ne (by decide +kernel : ¬ (("needed" : Str) = "parts")) (pf_ne (by decide +kernel : ¬ (("start" : Str) = "parts")) (pf_eq)))))
theorem fl_Attempt_rows {x0 x1 x2 x3 x4 x5 x6 x7 x8 x9 x10 x11 x12 : V} : (fl_Attempt x0 x1 x2 x3 x4 x5 x6 x7 x8 x9 x10 x11 x12).lookup ("rows" : Str) = some x6 := (lk_ne (by decide +kernel : ¬ (("rows" : Str) = "deal"))).trans ((lk_ne (by decide +kernel : ¬ (("rows" : Str) = "ops"))).trans ((lk_ne (by decide +kernel : ¬ (("rows" : Str) = "step"))).trans ((lk_ne (by decide +kernel : ¬ (("rows" : Str) = "needed"))).trans ((lk_ne (by decide +kernel : ¬ (("rows" : Str) = "start"))).trans ((lk_ne (by decide +kernel : ¬ (("rows" : Str) = "parts"))).trans (lk_eq))))))
theorem sf_Attempt_rows {x0 x1 x2 x3 x4 x5 x6 x7 x8 x9 x10 x11 x12 y : V} : putF "rows" y (fl_Attempt x0 x1 x2 x3 x4 x5 x6 x7 x8 x9 x10 x11 x12) = fl_Attempt x0 x1 x2 x3 x4 x5 y x7 x8 x9 x10 x11 x12 := pf_ne (by decide +kernel : ¬ (("deal" : Str) = "rows")) (pf_ne (by decide +kernel : ¬ (("ops" : Str) = "rows")) (pf_ne (by decide +kernel : ¬ (("step" : Str) = "rows")) (pf_ne (by decide +kernel : ¬ (("needed" : Str) = "rows")) (pf_ne (by decide +kernel : ¬ (("start" : Str) = "rows")) (pf_ne (by decide +kernel : ¬ (("parts" : Str) = "rows")) (pf_eq))))))
theorem fl_Attempt_results {x0 x1 x2 x3 x4 x5 x6 x7 x8 x9 x10 x11 x12 : V} : (fl_Attempt x0 x1 x2 x3 x4 x5 x6 x7 x8 x9 x10 x11 x12).lookup ("results" : Str) = some x7 := (lk_ne (by decide +kernel : ¬ (("results" : Str) = "deal"))).trans ((lk_ne (by decide +kernel : ¬ (("results" : Str) = "ops"))).trans ((lk_ne (by decide +kernel : ¬ (("results" : Str) = "step"))).trans ((lk_ne (by decide +kernel : ¬ (("results" : Str) = "needed"))).trans ((lk_ne (by decide +kernel : ¬ (("results" : Str) = "start"))).trans ((lk_ne (by decide +kernel : ¬ (("results" : Str) = "parts"))).trans ((lk_ne (by decide +kernel : ¬ (("results" : Str) = "rows"))).trans (lk_eq)))))))
theorem sf_Attempt_results {x0 x1 x2 x3 x4 x5 x6 x7 x8 x9 x10 x11 x12 y : V} : putF "results" y (fl_Attempt x0 x1 x2 x3 x4 x5 x6 x7 x8 x9 x10 x11 x12) = fl_Attempt x0 x1 x2 x3 x4 x5 x6 y x8 x9 x10 x11 x12 := pf_ne (by decide +kernel : ¬ (("deal" : Str) = "results")) (pf_ne (by decide +kernel : ¬ (("ops" : Str) = "results")) (pf_ne (by decide +kernel : ¬ (("step" : Str) = "results")) (pf_ne (by decide +kernel : ¬ (("needed" : Str) = "results")) (pf_ne (by decide +kernel : ¬ (("start" : Str) = "results")) (pf_ne (by decide +kernel : ¬ (("parts" : Str) = "results")) (pf_ne (by decide +kernel : ¬ (("rows" : Str) = "results")) (pf_eq)))))))
theorem fl_Attempt_groups {x0 x1 x2 x3 x4 x5 x6 x7 x8 x9 x10 x11 x12 : V} : (fl_Attempt x0 x1 x2 x3 x4 x5 x6 x7 x8 x9 x10 x11 x12).lookup ("groups" : Str) = some x8 := (lk_ne (by decide +kernel : ¬ (("groups" : Str) = "deal"))).trans ((lk_ne (by decide +kernel : ¬ (("groups" : Str) = "ops"))).trans ((lk_ne (by decide +kernel : ¬ (("groups" : Str) = "step"))).trans ((lk_ne (by decide +kernel : ¬ (("groups" : Str) = "needed"))).trans ((lk_ne (by decide +kernel : ¬ (("groups" : Str) = "start"))).trans ((lk_ne (by decide +kernel : ¬ (("groups" : Str) = "parts"))).trans ((lk_ne (by decide +kernel : ¬ (("groups" : Str) = "rows"))).trans ((lk_ne (by decide +kernel : ¬ (("groups" : Str) = "results"))).trans (lk_eq))))))))
theorem sf_Attempt_groups {x0 x1 x2 x3 x4 x5 x6 x7 x8 x9 x10 x11 x12 y : V} : putF "groups" y (fl_Attempt x0 x1 x2 x3 x4 x5 x6 x7 x8 x9 x10 x11 x12) = fl_Attempt x0 x1 x2 x3 x4 x5 x6 x7 y x9 x10 x11 x12 := pf_ne (by decide +kernel : ¬ (("deal" : Str) = "groups")) (pf_ne (by decide +kernel : ¬ (("ops" : Str) = "groups")) (pf_ne (by decide +kernel : ¬ (("step" : Str) = "groups")) (pf_ne (by decide +kernel : ¬ (("needed" : Str) = "groups")) (pf_ne (by decide +kernel : ¬ (("start" : Str) = "groups")) (pf_ne (by decide +kernel : ¬ (("parts" : Str) = "groups")) (pf_ne (by decide +kernel : ¬ (("rows" : Str) = "groups")) (pf_ne (by decide +kernel : ¬ (("results" : Str) = "groups")) (pf_eq))))))))
theorem fl_Attempt_lead {x0 x1 x2 x3 x4 x5 x6 x7 x8 x9 x10 x11 x12 : V} : (fl_Attempt x0 x1 x2 x3 x4 x5 x6 x7 x8 x9 x10 x11 x12).lookup ("lead" : Str) = some x9 := (lk_ne (by decide +kernel : ¬ (("lead" : Str) = "deal"))).trans ((lk_ne (by decide +kernel : ¬ (("lead" : Str) = "ops"))).trans ((lk_ne (by decide +kernel : ¬ (("lead" : Str) = "step"))).trans ((lk_ne (by decide +kernel : ¬ (("lead" : Str) = "needed"))).trans ((lk_ne (by decide +kernel : ¬ (("lead" : Str) = "start"))).trans ((lk_ne (by decide +kernel : ¬ (("lead" : Str) = "parts"))).trans ((lk_ne (by decide +kernel : ¬ (("lead" : Str) = "rows"))).trans ((lk_ne (by decide +kernel : ¬ (("lead" : Str) = "results"))).trans ((lk_ne (by decide +kernel : ¬ (("lead" : Str) = "groups"))).trans (lk_eq)))))))))
theorem sf_Attempt_lead {x0 x1 x2 x3 x4 x5 x6 x7 x8 x9 x10 x11 x12 y : V} : putF "lead" y (fl_Attempt x0 x1 x2 x3 x4 x5 x6 x7 x8 x9 x10 x11 x12) = fl_Attempt x0 x1 x2 x3 x4 x5 x6 x7 x8 y x10 x11 x12 := pf_ne (by decide +kernel : ¬ (("deal" : Str) = "lead")) (pf_ne (by decide +kernel : ¬ (("ops" : Str) = "lead")) (pf_ne (by decide +kernel : ¬ (("step" : Str) = "lead")) (pf_ne (by decide +kernel : ¬ (("needed" : Str) = "lead")) (pf_ne (by decide +kernel : ¬ (("start" : Str) = "lead")) (pf_ne (by decide +kernel : ¬ (("parts" : Str) = "lead")) (pf_ne (by decide +kernel : ¬ (("rows" : Str) = "lead")) (pf_ne (by decide +kernel : ¬ (("results" : Str) = "lead")) (pf_ne (by decide +kernel : ¬ (("groups" : Str) = "lead")) (pf_eq)))))))))
theorem fl_Attempt_verdict {x0 x1 x2 x3 x4 x5 x6 x7 x8 x9 x10 x11 x12 : V} : (fl_Attempt x0 x1 x2 x3 x4 x5 x6 x7 x8 x9 x10 x11 x12).lookup ("verdict" : Str) = some x10 := (lk_ne (by decide +kernel : ¬ (("verdict" : Str) = "deal"))).trans ((lk_ne (by decide +kernel : ¬ (("verdict" : Str) = "ops"))).trans ((lk_ne (by decide +kernel : ¬ (("verdict" : Str) = "step"))).trans ((lk_ne (by decide +kernel : ¬ (("verdict" : Str) = "needed"))).trans ((lk_ne (by decide +kernel : ¬ (("verdict" : Str) = "start"))).trans ((lk_ne (by decide +kernel : ¬ (("verdict" : Str) = "parts"))).trans ((lk_ne (by decide +kernel : ¬ (("verdict" : Str) = "rows"))).trans ((lk_ne (by decide +kernel : ¬ (("verdict" : Str) = "results"))).trans ((lk_ne (by decide +kernel : ¬ (("verdict" : Str) = "groups"))).trans ((lk_ne (by decide +kernel : ¬ (("verdict" : Str) = "lead"))).trans (lk_eq))))))))))
theorem sf_Attempt_verdict {x0 x1 x2 x3 x4 x5 x6 x7 x8 x9 x10 x11 x12 y : V} : putF "verdict" y (fl_Attempt x0 x1 x2 x3 x4 x5 x6 x7 x8 x9 x10 x11 x12) = fl_Attempt x0 x1 x2 x3 x4 x5 x6 x7 x8 x9 y x11 x12 := pf_ne (by decide +kernel : ¬ (("deal" : Str) = "verdict")) (pf_ne (by decide +kernel : ¬ (("ops" : Str) = "verdict")) (pf_ne (by decide +kernel : ¬ (("step" : Str) = "verdict")) (pf_ne (by decide +kernel : ¬ (("needed" : Str) = "verdict")) (pf_ne (by decide +kernel : ¬ (("start" : Str) = "verdict")) (pf_ne (by decide +kernel : ¬ (("parts" : Str) = "verdict")) (pf_ne (by decide +kernel : ¬ (("rows" : Str) = "verdict")) (pf_ne (by decide +kernel : ¬ (("results" : Str) = "verdict")) (pf_ne (by decide +kernel : ¬ (("groups" : Str) = "verdict")) (pf_ne (by decide +kernel : ¬ (("lead" : Str) = "verdict")) (pf_eq))))))))))
theorem fl_Attempt_ended {x0 x1 x2 x3 x4 x5 x6 x7 x8 x9 x10 x11 x12 : V} : (fl_Attempt x0 x1 x2 x3 x4 x5 x6 x7 x8 x9 x10 x11 x12).lookup ("ended" : Str) = some x11 := (lk_ne (by decide +kernel : ¬ (("ended" : Str) = "deal"))).trans ((lk_ne (by decide +kernel : ¬ (("ended" : Str) = "ops"))).trans ((lk_ne (by decide +kernel : ¬ (("ended" : Str) = "step"))).trans ((lk_ne (by decide +kernel : ¬ (("ended" : Str) = "needed"))).trans ((lk_ne (by decide +kernel : ¬ (("ended" : Str) = "start"))).trans ((lk_ne (by decide +kernel : ¬ (("ended" : Str) = "parts"))).trans ((lk_ne (by decide +kernel : ¬ (("ended" : Str) = "rows"))).trans ((lk_ne (by decide +kernel : ¬ (("ended" : Str) = "results"))).trans ((lk_ne (by decide +kernel : ¬ (("ended" : Str) = "groups"))).trans ((lk_ne (by decide +kernel : ¬ (("ended" : Str) = "lead"))).trans ((lk_ne (by decide +kernel : ¬ (("ended" : Str) = "verdict"))).trans (lk_eq)))))))))))
theorem sf_Attempt_ended {x0 x1 x2 x3 x4 x5 x6 x7 x8 x9 x10 x11 x12 y : V} : putF "ended" y (fl_Attempt x0 x1 x2 x3 x4 x5 x6 x7 x8 x9 x10 x11 x12) = fl_Attempt x0 x1 x2 x3 x4 x5 x6 x7 x8 x9 x10 y x12 := pf_ne (by decide +kernel : ¬ (("deal" : Str) = "ended")) (pf_ne (by decide +kernel : ¬ (("ops" : Str) = "ended")) (pf_ne (by decide +kernel : ¬ (("step" : Str) = "ended")) (pf_ne (by decide +kernel : ¬ (("needed" : Str) = "ended")) (pf_ne (by decide +kernel : ¬ (("start" : Str) = "ended")) (pf_ne (by decide +kernel : ¬ (("parts" : Str) = "ended")) (pf_ne (by decide +kernel : ¬ (("rows" : Str) = "ended")) (pf_ne (by decide +kernel : ¬ (("results" : Str) = "ended")) (pf_ne (by decide +kernel : ¬ (("groups" : Str) = "ended")) (pf_ne (by decide +kernel : ¬ (("lead" : Str) = "ended")) (pf_ne (by decide +kernel : ¬ (("verdict" : Str) = "ended")) (pf_eq)))))))))))
theorem fl_Attempt_over {x0 x1 x2 x3 x4 x5 x6 x7 x8 x9 x10 x11 x12 : V} : (fl_Attempt x0 x1 x2 x3 x4 x5 x6 x7 x8 x9 x10 x11 x12).lookup ("over" : Str) = some x12 := (lk_ne (by decide +kernel : ¬ (("over" : Str) = "deal"))).trans ((lk_ne (by decide +kernel : ¬ (("over" : Str) = "ops"))).trans ((lk_ne (by decide +kernel : ¬ (("over" : Str) = "step"))).trans ((lk_ne (by decide +kernel : ¬ (("over" : Str) = "needed"))).trans ((lk_ne (by decide +kernel : ¬ (("over" : Str) = "start"))).trans ((lk_ne (by decide +kernel : ¬ (("over" : Str) = "parts"))).trans ((lk_ne (by decide +kernel : ¬ (("over" : Str) = "rows"))).trans ((lk_ne (by decide +kernel : ¬ (("over" : Str) = "results"))).trans ((lk_ne (by decide +kernel : ¬ (("over" : Str) = "groups"))).trans ((lk_ne (by decide +kernel : ¬ (("over" : Str) = "lead"))).trans ((lk_ne (by decide +kernel : ¬ (("over" : Str) = "verdict"))).trans ((lk_ne (by decide +kernel : ¬ (("over" : Str) = "ended"))).trans (lk_eq))))))))))))
theorem sf_Attempt_over {x0 x1 x2 x3 x4 x5 x6 x7 x8 x9 x10 x11 x12 y : V} : putF "over" y (fl_Attempt x0 x1 x2 x3 x4 x5 x6 x7 x8 x9 x10 x11 x12) = fl_Attempt x0 x1 x2 x3 x4 x5 x6 x7 x8 x9 x10 x11 y := pf_ne (by decide +kernel : ¬ (("deal" : Str) = "over")) (pf_ne (by decide +kernel : ¬ (("ops" : Str) = "over")) (pf_ne (by decide +kernel : ¬ (("step" : Str) = "over")) (pf_ne (by decide +kernel : ¬ (("needed" : Str) = "over")) (pf_ne (by decide +kernel : ¬ (("start" : Str) = "over")) (pf_ne (by decide +kernel : ¬ (("parts" : Str) = "over")) (pf_ne (by decide +kernel : ¬ (("rows" : Str) = "over")) (pf_ne (by decide +kernel : ¬ (("results" : Str) = "over")) (pf_ne (by decide +kernel : ¬ (("groups" : Str) = "over")) (pf_ne (by decide +kernel : ¬ (("lead" : Str) = "over")) (pf_ne (by decide +kernel : ¬ (("verdict" : Str) = "over")) (pf_ne (by decide +kernel : ¬ (("ended" : Str) = "over")) (pf_eq))))))))))))
theorem no_Attempt {x0 x1 x2 x3 x4 x5 x6 x7 x8 x9 x10 x11 x12 : V} {m : Str} (h_deal : ¬ m = "deal") (h_ops : ¬ m = "ops") (h_step : ¬ m = "step") (h_needed : ¬ m = "needed") (h_start : ¬ m = "start") (h_parts : ¬ m = "parts") (h_rows : ¬ m = "rows") (h_results : ¬ m = "results") (h_groups : ¬ m = "groups") (h_lead : ¬ m = "lead") (h_verdict : ¬ m = "verdict") (h_ended : ¬ m = "ended") (h_over : ¬ m = "over") : (fl_Attempt x0 x1 x2 x3 x4 x5 x6 x7 x8 x9 x10 x11 x12).lookup m = none := (lk_ne h_deal).trans ((lk_ne h_ops).trans ((lk_ne h_step).trans ((lk_ne h_needed).trans ((lk_ne h_start).trans ((lk_ne h_parts).trans ((lk_ne h_rows).trans ((lk_ne h_results).trans ((lk_ne h_groups).trans ((lk_ne h_lead).trans ((lk_ne h_verdict).trans ((lk_ne h_ended).trans ((lk_ne h_over).trans (rfl)))))))))))))
theorem nf_Attempt_deal {x0 : V} : putF "deal" x0 ([] : List (Str × V)) = ([("deal", x0)] : List (Str × V)) := rfl
theorem nf_Attempt_ops {x0 x1 : V} : putF "ops" x1 ([("deal", x0)] : List (Str × V)) = ([("deal", x0), ("ops", x1)] : List (Str × V)) := pf_ne (by decide +kernel : ¬ (("deal" : Str) = "ops")) (rfl)
theorem nf_Attempt_step {x0 x1 x2 : V} : putF "step" x2 ([("deal", x0), ("ops", x1)] : List (Str × V)) = ([("deal", x0), ("ops", x1), ("step", x2)] : List (Str × V)) := pf_ne (by decide +kernel : ¬ (("deal" : Str) = "step")) (pf_ne (by decide +kernel : ¬ (("ops" : Str) = "step")) (rfl))
theorem nf_Attempt_needed {x0 x1 x2 x3 : V} : putF "needed" x3 ([("deal", x0), ("ops", x1), ("step", x2)] : List (Str × V)) = ([("deal", x0), ("ops", x1), ("step", x2), ("needed", x3)] : List (Str × V)) := pf_ne (by decide +kernel : ¬ (("deal" : Str) = "needed")) (pf_ne (by decide +kernel : ¬ (("ops" : Str) = "needed")) (pf_ne (by decide +kernel : ¬ (("step" : Str) = "needed")) (rfl)))
theorem nf_Attempt_start {x0 x1 x2 x3 x4 : V} : putF "start" x4 ([("deal", x0), ("ops", x1), ("step", x2), ("needed", x3)] : List (Str × V)) = ([("deal", x0), ("ops", x1), ("step", x2), ("needed", x3), ("start", x4)] : List (Str × V)) := pf_ne (by decide +kernel : ¬ (("deal" : Str) = "start")) (pf_ne (by decide +kernel : ¬ (("ops" : Str) = "start")) (pf_ne (by decide +kernel : ¬ (("step" : Str) = "start")) (pf_ne (by decide +kernel : ¬ (("needed" : Str) = "start")) (rfl))))
theorem nf_Attempt_parts {x0 x1 x2 x3 x4 x5 : V} : putF "parts" x5 ([("deal", x0), ("ops", x1), ("step", x2), ("needed", x3), ("start", x4)] : List (Str × V)) = ([("deal", x0), ("ops", x1), ("step", x2), ("needed", x3), ("start", x4), ("parts", x5)] : List (Str × V)) := pf_ne (by decide +kernel : ¬ (("deal" : Str) = "parts")) (pf_ne (by decide +kernel : ¬ (("ops" : Str) = "parts")) (pf_ne (by decide +kernel : ¬ (("step" : Str) = "parts")) (pf_ne (by decide +kernel : ¬ (("needed" : Str) = "parts")) (pf_ne (by decide +kernel : ¬ (("start" : Str) = "parts")) (rfl)))))
theorem nf_Attempt_rows {x0 x1 x2 x3 x4 x5 x6 : V} : putF "rows" x6 ([("deal", x0), ("ops", x1), ("step", x2), ("needed", x3), ("start", x4), ("parts", x5)] : List (Str × V)) = ([("deal", x0), ("ops", x1), ("step", x2), ("needed", x3), ("start", x4), ("parts", x5), ("rows", x6)] : List (Str × V)) := pf_ne (by decide +kernel : ¬ (("deal" : Str) = "rows")) (pf_ne (by decide +kernel : ¬ (("ops" : Str) = "rows")) (pf_ne (by decide +kernel : ¬ (("step" : Str) = "rows")) (pf_ne (by decide +kernel : ¬ (("needed" : Str) = "rows")) (pf_ne (by decide +kernel : ¬ (("start" : Str) = "rows")) (pf_ne (by decide +kernel : ¬ (("parts" : Str) = "rows")) (rfl))))))
theorem nf_Attempt_results {x0 x1 x2 x3 x4 x5 x6 x7 : V} : putF "results" x7 ([("deal", x0), ("ops", x1), ("step", x2), ("needed", x3), ("start", x4), ("parts", x5), ("rows", x6)] : List (Str × V)) = ([("deal", x0), ("ops", x1), ("step", x2), ("needed", x3), ("start", x4), ("parts", x5), ("rows", x6), ("results", x7)] : List (Str × V)) := pf_ne (by decide +kernel : ¬ (("deal" : Str) = "results")) (pf_ne (by decide +kernel : ¬ (("ops" : Str) = "results")) (pf_ne (by decide +kernel : ¬ (("step" : Str) = "results")) (pf_ne (by decide +kernel : ¬ (("needed" : Str) = "results")) (pf_ne (by decide +kernel : ¬ (("start" : Str) = "results")) (pf_ne (by decide +kernel : ¬ (("parts" : Str) = "results")) (pf_ne (by decide +kernel : ¬ (("rows" : Str) = "results")) (rfl)))))))
theorem nf_Attempt_groups {x0 x1 x2 x3 x4 x5 x6 x7 x8 : V} : putF "groups" x8 ([("deal", x0), ("ops", x1), ("step", x2), ("needed", x3), ("start", x4), ("parts", x5), ("rows", x6), ("results", x7)] : List (Str × V)) = ([("deal", x0), ("ops", x1), ("step", x2), ("needed", x3), ("start", x4), ("parts", x5), ("rows", x6), ("results", x7), ("groups", x8)] : List (Str × V)) := pf_ne (by decide +kernel : ¬ (("deal" : Str) = "groups")) (pf_ne (by decide +kernel : ¬ (("ops" : Str) = "groups")) (pf_ne (by decide +kernel : ¬ (("step" : Str) = "groups")) (pf_ne (by decide +kernel : ¬ (("needed" : Str) = "groups")) (pf_ne (by decide +kernel : ¬ (("start" : Str) = "groups")) (pf_ne (by decide +kernel : ¬ (("parts" : Str) = "groups")) (pf_ne (by decide +kernel : ¬ (("rows" : Str) = "groups")) (pf_ne (by decide +kernel : ¬ (("results" : Str) = "groups")) (rfl))))))))
theorem nf_Attempt_lead {x0 x1 x2 x3 x4 x5 x6 x7 x8 x9 : V} : putF "lead" x9 ([("deal", x0), ("ops", x1), ("step", x2), ("needed", x3), ("start", x4), ("parts", x5), ("rows", x6), ("results", x7), ("groups", x8)] : List (Str × V)) = ([("deal", x0), ("ops", x1), ("step", x2), ("needed", x3), ("start", x4), ("parts", x5), ("rows", x6), ("results", x7), ("groups", x8), ("lead", x9)] : List (Str × V)) := pf_ne (by decide +kernel : ¬ (("deal" : Str) = "lead")) (pf_ne (by decide +kernel : ¬ (("ops" : Str) = "lead")) (pf_ne (by decide +kernel : ¬ (("step" : Str) = "lead")) (pf_ne (by decide +kernel : ¬ (("needed" : Str) = "lead")) (pf_ne (by decide +kernel : ¬ (("start" : Str) = "lead")) (pf_ne (by decide +kernel : ¬ (("parts" : Str) = "lead")) (pf_ne (by decide +kernel : ¬ (("rows" : Str) = "lead")) (pf_ne (by decide +kernel : ¬ (("results" : Str) = "lead")) (pf_ne (by decide +kernel : ¬ (("groups" : Str) = "lead")) (rfl)))))))))
theorem nf_Attempt_verdict {x0 x1 x2 x3 x4 x5 x6 x7 x8 x9 x10 : V} : putF "verdict" x10 ([("deal", x0), ("ops", x1), ("step", x2), ("needed", x3), ("start", x4), ("parts", x5), ("rows", x6), ("results", x7), ("groups", x8), ("lead", x9)] : List (Str × V)) = ([("deal", x0), ("ops", x1), ("step", x2), ("needed", x3), ("start", x4), ("parts", x5), ("rows", x6), ("results", x7), ("groups", x8), ("lead", x9), ("verdict", x10)] : List (Str × V)) := pf_ne (by decide +kernel : ¬ (("deal" : Str) = "verdict")) (pf_ne (by decide +kernel : ¬ (("ops" : Str) = "verdict")) (pf_ne (by decide +kernel : ¬ (("step" : Str) = "verdict")) (pf_ne (by decide +kernel : ¬ (("needed" : Str) = "verdict")) (pf_ne (by decide +kernel : ¬ (("start" : Str) = "verdict")) (pf_ne (by decide +kernel : ¬ (("parts" : Str) = "verdict")) (pf_ne (by decide +kernel : ¬ (("rows" : Str) = "verdict")) (pf_ne (by decide +kernel : ¬ (("results" : Str) = "verdict")) (pf_ne (by decide +kernel : ¬ (("groups" : Str) = "verdict")) (pf_ne (by decide +kernel : ¬ (("lead" : Str) = "verdict")) (rfl))))))))))
theorem nf_Attempt_ended {x0 x1 x2 x3 x4 x5 x6 x7 x8 x9 x10 x11 : V} : putF "ended" x11 ([("deal", x0), ("ops", x1), ("step", x2), ("needed", x3), ("start", x4), ("parts", x5), ("rows", x6), ("results", x7), ("groups", x8), ("lead", x9), ("verdict", x10)] : List (Str × V)) = ([("deal", x0), ("ops", x1), ("step", x2), ("needed", x3), ("start", x4), ("parts", x5), ("rows", x6), ("results", x7), ("groups", x8), ("lead", x9), ("verdict", x10), ("ended", x11)] : List (Str × V)) := pf_ne (by decide +kernel : ¬ (("deal" : Str) = "ended")) (pf_ne (by decide +kernel : ¬ (("ops" : Str) = "ended")) (pf_ne (by decide +kernel : ¬ (("step" : Str) = "ended")) (pf_ne (by decide +kernel : ¬ (("needed" : Str) = "ended")) (pf_ne (by decide +kernel : ¬ (("start" : Str) = "ended")) (pf_ne (by decide +kernel : ¬ (("parts" : Str) = "ended")) (pf_ne (by decide +kernel : ¬ (("rows" : Str) = "ended")) (pf_ne (by decide +kernel : ¬ (("results" : Str) = "ended")) (pf_ne (by decide +kernel : ¬ (("groups" : Str) = "ended")) (pf_ne (by decide +kernel : ¬ (("lead" : Str) = "ended")) (pf_ne (by decide +kernel : ¬ (("verdict" : Str) = "ended")) (rfl)))))))))))
theorem nf_Attempt_over {x0 x1 x2 x3 x4 x5 x6 x7 x8 x9 x10 x11 x12 : V} : putF "over" x12 ([("deal", x0), ("ops", x1), ("step", x2), ("needed", x3), ("start", x4), ("parts", x5), ("rows", x6), ("results", x7), ("groups", x8), ("lead", x9), ("verdict", x10), ("ended", x11)] : List (Str × V)) = ([("deal", x0), ("ops", x1), ("step", x2), ("needed", x3), ("start", x4), ("parts", x5), ("rows", x6), ("results", x7), ("groups", x8), ("lead", x9), ("verdict", x10), ("ended", x11), ("over", x12)] : List (Str × V)) := pf_ne (by decide +kernel : ¬ (("deal" : Str) = "over")) (pf_ne (by decide +kernel : ¬ (("ops" : Str) = "over")) (pf_ne (by decide +kernel : ¬ (("step" : Str) = "over")) (pf_ne (by decide +kernel : ¬ (("needed" : Str) = "over")) (pf_ne (by decide +kernel : ¬ (("start" : Str) = "over")) (pf_ne (by decide +kernel : ¬ (("parts" : Str) = "over")) (pf_ne (by decide +kernel : ¬ (("rows" : Str) = "over")) (pf_ne (by decide +kernel : ¬ (("results" : Str) = "over")) (pf_ne (by decide +kernel : ¬ (("groups" : Str) = "over")) (pf_ne (by decide +kernel : ¬ (("lead" : Str) = "over")) (pf_ne (by decide +kernel : ¬ (("verdict" : Str) = "over")) (pf_ne (by decide +kernel : ¬ (("ended" : Str) = "over")) (rfl))))))))))))
/-! ### class Clerk -/
structure Tx_Clerk (K : PySem.W.Frag) (mg : Str → Option Value) (C : Addr) : Prop where
  cl : Cls K C
  gC : mg "Clerk" = some (.ref C)
  n_client : NoAttr K C "client"
  n_machines : NoAttr K C "machines"
  n_deals : NoAttr K C "deals"
  n_number : NoAttr K C "number"
  n_busy : NoAttr K C "busy"
  n_places : NoAttr K C "places"
  n_routes : NoAttr K C "routes"
  n_token : NoAttr K C "token"
  n_calls : NoAttr K C "calls"
  n_attempt : NoAttr K C "attempt"
  n_tries : NoAttr K C "tries"
  n_news : NoAttr K C "news"
def fl_Clerk (x0 x1 x2 x3 x4 x5 x6 x7 x8 x9 x10 x11 : V) : List (Str × V) := [("client", x0), ("machines", x1), ("deals", x2), ("number", x3), ("busy", x4), ("places", x5), ("routes", x6), ("token", x7), ("calls", x8), ("attempt", x9), ("tries", x10), ("news", x11)]
theorem fl_Clerk_client {x0 x1 x2 x3 x4 x5 x6 x7 x8 x9 x10 x11 : V} : (fl_Clerk x0 x1 x2 x3 x4 x5 x6 x7 x8 x9 x10 x11).lookup ("client" : Str) = some x0 := lk_eq
theorem sf_Clerk_client {x0 x1 x2 x3 x4 x5 x6 x7 x8 x9 x10 x11 y : V} : putF "client" y (fl_Clerk x0 x1 x2 x3 x4 x5 x6 x7 x8 x9 x10 x11) = fl_Clerk y x1 x2 x3 x4 x5 x6 x7 x8 x9 x10 x11 := pf_eq
theorem fl_Clerk_machines {x0 x1 x2 x3 x4 x5 x6 x7 x8 x9 x10 x11 : V} : (fl_Clerk x0 x1 x2 x3 x4 x5 x6 x7 x8 x9 x10 x11).lookup ("machines" : Str) = some x1 := (lk_ne (by decide +kernel : ¬ (("machines" : Str) = "client"))).trans (lk_eq)
theorem sf_Clerk_machines {x0 x1 x2 x3 x4 x5 x6 x7 x8 x9 x10 x11 y : V} : putF "machines" y (fl_Clerk x0 x1 x2 x3 x4 x5 x6 x7 x8 x9 x10 x11) = fl_Clerk x0 y x2 x3 x4 x5 x6 x7 x8 x9 x10 x11 := pf_ne (by decide +kernel : ¬ (("client" : Str) = "machines")) (pf_eq)
theorem fl_Clerk_deals {x0 x1 x2 x3 x4 x5 x6 x7 x8 x9 x10 x11 : V} : (fl_Clerk x0 x1 x2 x3 x4 x5 x6 x7 x8 x9 x10 x11).lookup ("deals" : Str) = some x2 := (lk_ne (by decide +kernel : ¬ (("deals" : Str) = "client"))).trans ((lk_ne (by decide +kernel : ¬ (("deals" : Str) = "machines"))).trans (lk_eq))
theorem sf_Clerk_deals {x0 x1 x2 x3 x4 x5 x6 x7 x8 x9 x10 x11 y : V} : putF "deals" y (fl_Clerk x0 x1 x2 x3 x4 x5 x6 x7 x8 x9 x10 x11) = fl_Clerk x0 x1 y x3 x4 x5 x6 x7 x8 x9 x10 x11 := pf_ne (by decide +kernel : ¬ (("client" : Str) = "deals")) (pf_ne (by decide +kernel : ¬ (("machines" : Str) = "deals")) (pf_eq))
theorem fl_Clerk_number {x0 x1 x2 x3 x4 x5 x6 x7 x8 x9 x10 x11 : V} : (fl_Clerk x0 x1 x2 x3 x4 x5 x6 x7 x8 x9 x10 x11).lookup ("number" : Str) = some x3 := (lk_ne (by decide +kernel : ¬ (("number" : Str) = "client"))).trans ((lk_ne (by decide +kernel : ¬ (("number" : Str) = "machines"))).trans ((lk_ne (by decide +kernel : ¬ (("number" : Str) = "deals"))).trans (lk_eq)))
theorem sf_Clerk_number {x0 x1 x2 x3 x4 x5 x6 x7 x8 x9 x10 x11 y : V} : putF "number" y (fl_Clerk x0 x1 x2 x3 x4 x5 x6 x7 x8 x9 x10 x11) = fl_Clerk x0 x1 x2 y x4 x5 x6 x7 x8 x9 x10 x11 := pf_ne (by decide +kernel : ¬ (("client" : Str) = "number")) (pf_ne (by decide +kernel : ¬ (("machines" : Str) = "number")) (pf_ne (by decide +kernel : ¬ (("deals" : Str) = "number")) (pf_eq)))
theorem fl_Clerk_busy {x0 x1 x2 x3 x4 x5 x6 x7 x8 x9 x10 x11 : V} : (fl_Clerk x0 x1 x2 x3 x4 x5 x6 x7 x8 x9 x10 x11).lookup ("busy" : Str) = some x4 := (lk_ne (by decide +kernel : ¬ (("busy" : Str) = "client"))).trans ((lk_ne (by decide +kernel : ¬ (("busy" : Str) = "machines"))).trans ((lk_ne (by decide +kernel : ¬ (("busy" : Str) = "deals"))).trans ((lk_ne (by decide +kernel : ¬ (("busy" : Str) = "number"))).trans (lk_eq))))
theorem sf_Clerk_busy {x0 x1 x2 x3 x4 x5 x6 x7 x8 x9 x10 x11 y : V} : putF "busy" y (fl_Clerk x0 x1 x2 x3 x4 x5 x6 x7 x8 x9 x10 x11) = fl_Clerk x0 x1 x2 x3 y x5 x6 x7 x8 x9 x10 x11 := pf_ne (by decide +kernel : ¬ (("client" : Str) = "busy")) (pf_ne (by decide +kernel : ¬ (("machines" : Str) = "busy")) (pf_ne (by decide +kernel : ¬ (("deals" : Str) = "busy")) (pf_ne (by decide +kernel : ¬ (("number" : Str) = "busy")) (pf_eq))))
theorem fl_Clerk_places {x0 x1 x2 x3 x4 x5 x6 x7 x8 x9 x10 x11 : V} : (fl_Clerk x0 x1 x2 x3 x4 x5 x6 x7 x8 x9 x10 x11).lookup ("places" : Str) = some x5 := (lk_ne (by decide +kernel : ¬ (("places" : Str) = "client"))).trans ((lk_ne (by decide +kernel : ¬ (("places" : Str) = "machines"))).trans ((lk_ne (by decide +kernel : ¬ (("places" : Str) = "deals"))).trans ((lk_ne (by decide +kernel : ¬ (("places" : Str) = "number"))).trans ((lk_ne (by decide +kernel : ¬ (("places" : Str) = "busy"))).trans (lk_eq)))))
theorem sf_Clerk_places {x0 x1 x2 x3 x4 x5 x6 x7 x8 x9 x10 x11 y : V} : putF "places" y (fl_Clerk x0 x1 x2 x3 x4 x5 x6 x7 x8 x9 x10 x11) = fl_Clerk x0 x1 x2 x3 x4 y x6 x7 x8 x9 x10 x11 := pf_ne (by decide +kernel : ¬ (("client" : Str) = "places")) (pf_ne (by decide +kernel : ¬ (("machines" : Str) = "places")) (pf_ne (by decide +kernel : ¬ (("deals" : Str) = "places")) (pf_ne (by decide +kernel : ¬ (("number" : Str) = "places")) (pf_ne (by decide +kernel : ¬ (("busy" : Str) = "places")) (pf_eq)))))
theorem fl_Clerk_routes {x0 x1 x2 x3 x4 x5 x6 x7 x8 x9 x10 x11 : V} : (fl_Clerk x0 x1 x2 x3 x4 x5 x6 x7 x8 x9 x10 x11).lookup ("routes" : Str) = some x6 := (lk_ne (by decide +kernel : ¬ (("routes" : Str) = "client"))).trans ((lk_ne (by decide +kernel : ¬ (("routes" : Str) = "machines"))).trans ((lk_ne (by decide +kernel : ¬ (("routes" : Str) = "deals"))).trans ((lk_ne (by decide +kernel : ¬ (("routes" : Str) = "number"))).trans ((lk_ne (by decide +kernel : ¬ (("routes" : Str) = "busy"))).trans ((lk_ne (by decide +kernel : ¬ (("routes" : Str) = "places"))).trans (lk_eq))))))
theorem sf_Clerk_routes {x0 x1 x2 x3 x4 x5 x6 x7 x8 x9 x10 x11 y : V} : putF "routes" y (fl_Clerk x0 x1 x2 x3 x4 x5 x6 x7 x8 x9 x10 x11) = fl_Clerk x0 x1 x2 x3 x4 x5 y x7 x8 x9 x10 x11 := pf_ne (by decide +kernel : ¬ (("client" : Str) = "routes")) (pf_ne (by decide +kernel : ¬ (("machines" : Str) = "routes")) (pf_ne (by decide +kernel : ¬ (("deals" : Str) = "routes")) (pf_ne (by decide +kernel : ¬ (("number" : Str) = "routes")) (pf_ne (by decide +kernel : ¬ (("busy" : Str) = "routes")) (pf_ne (by decide +kernel : ¬ (("places" : Str) = "routes")) (pf_eq))))))
theorem fl_Clerk_token {x0 x1 x2 x3 x4 x5 x6 x7 x8 x9 x10 x11 : V} : (fl_Clerk x0 x1 x2 x3 x4 x5 x6 x7 x8 x9 x10 x11).lookup ("token" : Str) = some x7 := (lk_ne (by decide +kernel : ¬ (("token" : Str) = "client"))).trans ((lk_ne (by decide +kernel : ¬ (("token" : Str) = "machines"))).trans ((lk_ne (by decide +kernel : ¬ (("token" : Str) = "deals"))).trans ((lk_ne (by decide +kernel : ¬ (("token" : Str) = "number"))).trans ((lk_ne (by decide +kernel : ¬ (("token" : Str) = "busy"))).trans ((lk_ne (by decide +kernel : ¬ (("token" : Str) = "places"))).trans ((lk_ne (by decide +kernel : ¬ (("token" : Str) = "routes"))).trans (lk_eq)))))))
theorem sf_Clerk_token {x0 x1 x2 x3 x4 x5 x6 x7 x8 x9 x10 x11 y : V} : putF "token" y (fl_Clerk x0 x1 x2 x3 x4 x5 x6 x7 x8 x9 x10 x11) = fl_Clerk x0 x1 x2 x3 x4 x5 x6 y x8 x9 x10 x11 := pf_ne (by decide +kernel : ¬ (("client" : Str) = "token")) (pf_ne (by decide +kernel : ¬ (("machines" : Str) = "token")) (pf_ne (by decide +kernel : ¬ (("deals" : Str) = "token")) (pf_ne (by decide +kernel : ¬ (("number" : Str) = "token")) (pf_ne (by decide +kernel : ¬ (("busy" : Str) = "token")) (pf_ne (by decide +kernel : ¬ (("places" : Str) = "token")) (pf_ne (by decide +kernel : ¬ (("routes" : Str) = "token")) (pf_eq)))))))
theorem fl_Clerk_calls {x0 x1 x2 x3 x4 x5 x6 x7 x8 x9 x10 x11 : V} : (fl_Clerk x0 x1 x2 x3 x4 x5 x6 x7 x8 x9 x10 x11).lookup ("calls" : Str) = some x8 := (lk_ne (by decide +kernel : ¬ (("calls" : Str) = "client"))).trans ((lk_ne (by decide +kernel : ¬ (("calls" : Str) = "machines"))).trans ((lk_ne (by decide +kernel : ¬ (("calls" : Str) = "deals"))).trans ((lk_ne (by decide +kernel : ¬ (("calls" : Str) = "number"))).trans ((lk_ne (by decide +kernel : ¬ (("calls" : Str) = "busy"))).trans ((lk_ne (by decide +kernel : ¬ (("calls" : Str) = "places"))).trans ((lk_ne (by decide +kernel : ¬ (("calls" : Str) = "routes"))).trans ((lk_ne (by decide +kernel : ¬ (("calls" : Str) = "token"))).trans (lk_eq))))))))
theorem sf_Clerk_calls {x0 x1 x2 x3 x4 x5 x6 x7 x8 x9 x10 x11 y : V} : putF "calls" y (fl_Clerk x0 x1 x2 x3 x4 x5 x6 x7 x8 x9 x10 x11) = fl_Clerk x0 x1 x2 x3 x4 x5 x6 x7 y x9 x10 x11 := pf_ne (by decide +kernel : ¬ (("client" : Str) = "calls")) (pf_ne (by decide +kernel : ¬ (("machines" : Str) = "calls")) (pf_ne (by decide +kernel : ¬ (("deals" : Str) = "calls")) (pf_ne (by decide +kernel : ¬ (("number" : Str) = "calls")) (pf_ne (by decide +kernel : ¬ (("busy" : Str) = "calls")) (pf_ne (by decide +kernel : ¬ (("places" : Str) = "calls")) (pf_ne (by decide +kernel : ¬ (("routes" : Str) = "calls")) (pf_ne (by decide +kernel : ¬ (("token" : Str) = "calls")) (pf_eq))))))))
theorem fl_Clerk_attempt {x0 x1 x2 x3 x4 x5 x6 x7 x8 x9 x10 x11 : V} : (fl_Clerk x0 x1 x2 x3 x4 x5 x6 x7 x8 x9 x10 x11).lookup ("attempt" : Str) = some x9 := (lk_ne (by decide +kernel : ¬ (("attempt" : Str) = "client"))).trans ((lk_ne (by decide +kernel : ¬ (("attempt" : Str) = "machines"))).trans ((lk_ne (by decide +kernel : ¬ (("attempt" : Str) = "deals"))).trans ((lk_ne (by decide +kernel : ¬ (("attempt" : Str) = "number"))).trans ((lk_ne (by decide +kernel : ¬ (("attempt" : Str) = "busy"))).trans ((lk_ne (by decide +kernel : ¬ (("attempt" : Str) = "places"))).trans ((lk_ne (by decide +kernel : ¬ (("attempt" : Str) = "routes"))).trans ((lk_ne (by decide +kernel : ¬ (("attempt" : Str) = "token"))).trans ((lk_ne (by decide +kernel : ¬ (("attempt" : Str) = "calls"))).trans (lk_eq)))))))))
theorem sf_Clerk_attempt {x0 x1 x2 x3 x4 x5 x6 x7 x8 x9 x10 x11 y : V} : putF "attempt" y (fl_Clerk x0 x1 x2 x3 x4 x5 x6 x7 x8 x9 x10 x11) = fl_Clerk x0 x1 x2 x3 x4 x5 x6 x7 x8 y x10 x11 := pf_ne (by decide +kernel : ¬ (("client" : Str) = "attempt")) (pf_ne (by decide +kernel : ¬ (("machines" : Str) = "attempt")) (pf_ne (by decide +kernel : ¬ (("deals" : Str) = "attempt")) (pf_ne (by decide +kernel : ¬ (("number" : Str) = "attempt")) (pf_ne (by decide +kernel : ¬ (("busy" : Str) = "attempt")) (pf_ne (by decide +kernel : ¬ (("places" : Str) = "attempt")) (pf_ne (by decide +kernel : ¬ (("routes" : Str) = "attempt")) (pf_ne (by decide +kernel : ¬ (("token" : Str) = "attempt")) (pf_ne (by decide +kernel : ¬ (("calls" : Str) = "attempt")) (pf_eq)))))))))
theorem fl_Clerk_tries {x0 x1 x2 x3 x4 x5 x6 x7 x8 x9 x10 x11 : V} : (fl_Clerk x0 x1 x2 x3 x4 x5 x6 x7 x8 x9 x10 x11).lookup ("tries" : Str) = some x10 := (lk_ne (by decide +kernel : ¬ (("tries" : Str) = "client"))).trans ((lk_ne (by decide +kernel : ¬ (("tries" : Str) = "machines"))).trans ((lk_ne (by decide +kernel : ¬ (("tries" : Str) = "deals"))).trans ((lk_ne (by decide +kernel : ¬ (("tries" : Str) = "number"))).trans ((lk_ne (by decide +kernel : ¬ (("tries" : Str) = "busy"))).trans ((lk_ne (by decide +kernel : ¬ (("tries" : Str) = "places"))).trans ((lk_ne (by decide +kernel : ¬ (("tries" : Str) = "routes"))).trans ((lk_ne (by decide +kernel : ¬ (("tries" : Str) = "token"))).trans ((lk_ne (by decide +kernel : ¬ (("tries" : Str) = "calls"))).trans ((lk_ne (by decide +kernel : ¬ (("tries" : Str) = "attempt"))).trans (lk_eq))))))))))
theorem sf_Clerk_tries {x0 x1 x2 x3 x4 x5 x6 x7 x8 x9 x10 x11 y : V} : putF "tries" y (fl_Clerk x0 x1 x2 x3 x4 x5 x6 x7 x8 x9 x10 x11) = fl_Clerk x0 x1 x2 x3 x4 x5 x6 x7 x8 x9 y x11 := pf_ne (by decide +kernel : ¬ (("client" : Str) = "tries")) (pf_ne (by decide +kernel : ¬ (("machines" : Str) = "tries")) (pf_ne (by decide +kernel : ¬ (("deals" : Str) = "tries")) (pf_ne (by decide +kernel : ¬ (("number" : Str) = "tries")) (pf_ne (by decide +kernel : ¬ (("busy" : Str) = "tries")) (pf_ne (by decide +kernel : ¬ (("places" : Str) = "tries")) (pf_ne (by decide +kernel : ¬ (("routes" : Str) = "tries")) (pf_ne (by decide +kernel : ¬ (("token" : Str) = "tries")) (pf_ne (by decide +kernel : ¬ (("calls" : Str) = "tries")) (pf_ne (by decide +kernel : ¬ (("attempt" : Str) = "tries")) (pf_eq))))))))))
theorem fl_Clerk_news {x0 x1 x2 x3 x4 x5 x6 x7 x8 x9 x10 x11 : V} : (fl_Clerk x0 x1 x2 x3 x4 x5 x6 x7 x8 x9 x10 x11).lookup ("news" : Str) = some x11 := (lk_ne (by decide +kernel : ¬ (("news" : Str) = "client"))).trans ((lk_ne (by decide +kernel : ¬ (("news" : Str) = "machines"))).trans ((lk_ne (by decide +kernel : ¬ (("news" : Str) = "deals"))).trans ((lk_ne (by decide +kernel : ¬ (("news" : Str) = "number"))).trans ((lk_ne (by decide +kernel : ¬ (("news" : Str) = "busy"))).trans ((lk_ne (by decide +kernel : ¬ (("news" : Str) = "places"))).trans ((lk_ne (by decide +kernel : ¬ (("news" : Str) = "routes"))).trans ((lk_ne (by decide +kernel : ¬ (("news" : Str) = "token"))).trans ((lk_ne (by decide +kernel : ¬ (("news" : Str) = "calls"))).trans ((lk_ne (by decide +kernel : ¬ (("news" : Str) = "attempt"))).trans ((lk_ne (by decide +kernel : ¬ (("news" : Str) = "tries"))).trans (lk_eq)))))))))))
theorem sf_Clerk_news {x0 x1 x2 x3 x4 x5 x6 x7 x8 x9 x10 x11 y : V} : putF "news" y (fl_Clerk x0 x1 x2 x3 x4 x5 x6 x7 x8 x9 x10 x11) = fl_Clerk x0 x1 x2 x3 x4 x5 x6 x7 x8 x9 x10 y := pf_ne (by decide +kernel : ¬ (("client" : Str) = "news")) (pf_ne (by decide +kernel : ¬ (("machines" : Str) = "news")) (pf_ne (by decide +kernel : ¬ (("deals" : Str) = "news")) (pf_ne (by decide +kernel : ¬ (("number" : Str) = "news")) (pf_ne (by decide +kernel : ¬ (("busy" : Str) = "news")) (pf_ne (by decide +kernel : ¬ (("places" : Str) = "news")) (pf_ne (by decide +kernel : ¬ (("routes" : Str) = "news")) (pf_ne (by decide +kernel : ¬ (("token" : Str) = "news")) (pf_ne (by decide +kernel : ¬ (("calls" : Str) = "news")) (pf_ne (by decide +kernel : ¬ (("attempt" : Str) = "news")) (pf_ne (by decide +kernel : ¬ (("tries" : Str) = "news")) (pf_eq)))))))))))
theorem no_Clerk {x0 x1 x2 x3 x4 x5 x6 x7 x8 x9 x10 x11 : V} {m : Str} (h_client : ¬ m = "client") (h_machines : ¬ m = "machines") (h_deals : ¬ m = "deals") (h_number : ¬ m = "number") (h_busy : ¬ m = "busy") (h_places : ¬ m = "places") (h_routes : ¬ m = "routes") (h_token : ¬ m = "token") (h_calls : ¬ m = "calls") (h_attempt : ¬ m = "attempt") (h_tries : ¬ m = "tries") (h_news : ¬ m = "news") : (fl_Clerk x0 x1 x2 x3 x4 x5 x6 x7 x8 x9 x10 x11).lookup m = none := (lk_ne h_client).trans ((lk_ne h_machines).trans ((lk_ne h_deals).trans ((lk_ne h_number).trans ((lk_ne h_busy).trans ((lk_ne h_places).trans ((lk_ne h_routes).trans ((lk_ne h_token).trans ((lk_ne h_calls).trans ((lk_ne h_attempt).trans ((lk_ne h_tries).trans ((lk_ne h_news).trans (rfl))))))))))))
theorem nf_Clerk_client {x0 : V} : putF "client" x0 ([] : List (Str × V)) = ([("client", x0)] : List (Str × V)) := rfl
theorem nf_Clerk_machines {x0 x1 : V} : putF "machines" x1 ([("client", x0)] : List (Str × V)) = ([("client", x0), ("machines", x1)] : List (Str × V)) := pf_ne (by decide +kernel : ¬ (("client" : Str) = "machines")) (rfl)
theorem nf_Clerk_deals {x0 x1 x2 : V} : putF "deals" x2 ([("client", x0), ("machines", x1)] : List (Str × V)) = ([("client", x0), ("machines", x1), ("deals", x2)] : List (Str × V)) := pf_ne (by decide +kernel : ¬ (("client" : Str) = "deals")) (pf_ne (by decide +kernel : ¬ (("machines" : Str) = "deals")) (rfl))
theorem nf_Clerk_number {x0 x1 x2 x3 : V} : putF "number" x3 ([("client", x0), ("machines", x1), ("deals", x2)] : List (Str × V)) = ([("client", x0), ("machines", x1), ("deals", x2), ("number", x3)] : List (Str × V)) := pf_ne (by decide +kernel : ¬ (("client" : Str) = "number")) (pf_ne (by decide +kernel : ¬ (("machines" : Str) = "number")) (pf_ne (by decide +kernel : ¬ (("deals" : Str) = "number")) (rfl)))
theorem nf_Clerk_busy {x0 x1 x2 x3 x4 : V} : putF "busy" x4 ([("client", x0), ("machines", x1), ("deals", x2), ("number", x3)] : List (Str × V)) = ([("client", x0), ("machines", x1), ("deals", x2), ("number", x3), ("busy", x4)] : List (Str × V)) := pf_ne (by decide +kernel : ¬ (("client" : Str) = "busy")) (pf_ne (by decide +kernel : ¬ (("machines" : Str) = "busy")) (pf_ne (by decide +kernel : ¬ (("deals" : Str) = "busy")) (pf_ne (by decide +kernel : ¬ (("number" : Str) = "busy")) (rfl))))
theorem nf_Clerk_places {x0 x1 x2 x3 x4 x5 : V} : putF "places" x5 ([("client", x0), ("machines", x1), ("deals", x2), ("number", x3), ("busy", x4)] : List (Str × V)) = ([("client", x0), ("machines", x1), ("deals", x2), ("number", x3), ("busy", x4), ("places", x5)] : List (Str × V)) := pf_ne (by decide +kernel : ¬ (("client" : Str) = "places")) (pf_ne (by decide +kernel : ¬ (("machines" : Str) = "places")) (pf_ne (by decide +kernel : ¬ (("deals" : Str) = "places")) (pf_ne (by decide +kernel : ¬ (("number" : Str) = "places")) (pf_ne (by decide +kernel : ¬ (("busy" : Str) = "places")) (rfl)))))
theorem nf_Clerk_routes {x0 x1 x2 x3 x4 x5 x6 : V} : putF "routes" x6 ([("client", x0), ("machines", x1), ("deals", x2), ("number", x3), ("busy", x4), ("places", x5)] : List (Str × V)) = ([("client", x0), ("machines", x1), ("deals", x2), ("number", x3), ("busy", x4), ("places", x5), ("routes", x6)] : List (Str × V)) := pf_ne (by decide +kernel : ¬ (("client" : Str) = "routes")) (pf_ne (by decide +kernel : ¬ (("machines" : Str) = "routes")) (pf_ne (by decide +kernel : ¬ (("deals" : Str) = "routes")) (pf_ne (by decide +kernel : ¬ (("number" : Str) = "routes")) (pf_ne (by decide +kernel : ¬ (("busy" : Str) = "routes")) (pf_ne (by decide +kernel : ¬ (("places" : Str) = "routes")) (rfl))))))
theorem nf_Clerk_token {x0 x1 x2 x3 x4 x5 x6 x7 : V} : putF "token" x7 ([("client", x0), ("machines", x1), ("deals", x2), ("number", x3), ("busy", x4), ("places", x5), ("routes", x6)] : List (Str × V)) = ([("client", x0), ("machines", x1), ("deals", x2), ("number", x3), ("busy", x4), ("places", x5), ("routes", x6), ("token", x7)] : List (Str × V)) := pf_ne (by decide +kernel : ¬ (("client" : Str) = "token")) (pf_ne (by decide +kernel : ¬ (("machines" : Str) = "token")) (pf_ne (by decide +kernel : ¬ (("deals" : Str) = "token")) (pf_ne (by decide +kernel : ¬ (("number" : Str) = "token")) (pf_ne (by decide +kernel : ¬ (("busy" : Str) = "token")) (pf_ne (by decide +kernel : ¬ (("places" : Str) = "token")) (pf_ne (by decide +kernel : ¬ (("routes" : Str) = "token")) (rfl)))))))
theorem nf_Clerk_calls {x0 x1 x2 x3 x4 x5 x6 x7 x8 : V} : putF "calls" x8 ([("client", x0), ("machines", x1), ("deals", x2), ("number", x3), ("busy", x4), ("places", x5), ("routes", x6), ("token", x7)] : List (Str × V)) = ([("client", x0), ("machines", x1), ("deals", x2), ("number", x3), ("busy", x4), ("places", x5), ("routes", x6), ("token", x7), ("calls", x8)] : List (Str × V)) := pf_ne (by decide +kernel : ¬ (("client" : Str) = "calls")) (pf_ne (by decide +kernel : ¬ (("machines" : Str) = "calls")) (pf_ne (by decide +kernel : ¬ (("deals" : Str) = "calls")) (pf_ne (by decide +kernel : ¬ (("number" : Str) = "calls")) (pf_ne (by decide +kernel : ¬ (("busy" : Str) = "calls")) (pf_ne (by decide +kernel : ¬ (("places" : Str) = "calls")) (pf_ne (by decide +kernel : ¬ (("routes" : Str) = "calls")) (pf_ne (by decide +kernel : ¬ (("token" : Str) = "calls")) (rfl))))))))
theorem nf_Clerk_attempt {x0 x1 x2 x3 x4 x5 x6 x7 x8 x9 : V} : putF "attempt" x9 ([("client", x0), ("machines", x1), ("deals", x2), ("number", x3), ("busy", x4), ("places", x5), ("routes", x6), ("token", x7), ("calls", x8)] : List (Str × V)) = ([("client", x0), ("machines", x1), ("deals", x2), ("number", x3), ("busy", x4), ("places", x5), ("routes", x6), ("token", x7), ("calls", x8), ("attempt", x9)] : List (Str × V)) := pf_ne (by decide +kernel : ¬ (("client" : Str) = "attempt")) (pf_ne (by decide +kernel : ¬ (("machines" : Str) = "attempt")) (pf_ne (by decide +kernel : ¬ (("deals" : Str) = "attempt")) (pf_ne (by decide +kernel : ¬ (("number" : Str) = "attempt")) (pf_ne (by decide +kernel : ¬ (("busy" : Str) = "attempt")) (pf_ne (by decide +kernel : ¬ (("places" : Str) = "attempt")) (pf_ne (by decide +kernel : ¬ (("routes" : Str) = "attempt")) (pf_ne (by decide +kernel : ¬ (("token" : Str) = "attempt")) (pf_ne (by decide +kernel : ¬ (("calls" : Str) = "attempt")) (rfl)))))))))
theorem nf_Clerk_tries {x0 x1 x2 x3 x4 x5 x6 x7 x8 x9 x10 : V} : putF "tries" x10 ([("client", x0), ("machines", x1), ("deals", x2), ("number", x3), ("busy", x4), ("places", x5), ("routes", x6), ("token", x7), ("calls", x8), ("attempt", x9)] : List (Str × V)) = ([("client", x0), ("machines", x1), ("deals", x2), ("number", x3), ("busy", x4), ("places", x5), ("routes", x6), ("token", x7), ("calls", x8), ("attempt", x9), ("tries", x10)] : List (Str × V)) := pf_ne (by decide +kernel : ¬ (("client" : Str) = "tries")) (pf_ne (by decide +kernel : ¬ (("machines" : Str) = "tries")) (pf_ne (by decide +kernel : ¬ (("deals" : Str) = "tries")) (pf_ne (by decide +kernel : ¬ (("number" : Str) = "tries")) (pf_ne (by decide +kernel : ¬ (("busy" : Str) = "tries")) (pf_ne (by decide +kernel : ¬ (("places" : Str) = "tries")) (pf_ne (by decide +kernel : ¬ (("routes" : Str) = "tries")) (pf_ne (by decide +kernel : ¬ (("token" : Str) = "tries")) (pf_ne (by decide +kernel : ¬ (("calls" : Str) = "tries")) (pf_ne (by decide +kernel : ¬ (("attempt" : Str) = "tries")) (rfl))))))))))
theorem nf_Clerk_news {x0 x1 x2 x3 x4 x5 x6 x7 x8 x9 x10 x11 : V} : putF "news" x11 ([("client", x0), ("machines", x1), ("deals", x2), ("number", x3), ("busy", x4), ("places", x5), ("routes", x6), ("token", x7), ("calls", x8), ("attempt", x9), ("tries", x10)] : List (Str × V)) = ([("client", x0), ("machines", x1), ("deals", x2), ("number", x3), ("busy", x4), ("places", x5), ("routes", x6), ("token", x7), ("calls", x8), ("attempt", x9), ("tries", x10), ("news", x11)] : List (Str × V)) := pf_ne (by decide +kernel : ¬ (("client" : Str) = "news")) (pf_ne (by decide +kernel : ¬ (("machines" : Str) = "news")) (pf_ne (by decide +kernel : ¬ (("deals" : Str) = "news")) (pf_ne (by decide +kernel : ¬ (("number" : Str) = "news")) (pf_ne (by decide +kernel : ¬ (("busy" : Str) = "news")) (pf_ne (by decide +kernel : ¬ (("places" : Str) = "news")) (pf_ne (by decide +kernel : ¬ (("routes" : Str) = "news")) (pf_ne (by decide +kernel : ¬ (("token" : Str) = "news")) (pf_ne (by decide +kernel : ¬ (("calls" : Str) = "news")) (pf_ne (by decide +kernel : ¬ (("attempt" : Str) = "news")) (pf_ne (by decide +kernel : ¬ (("tries" : Str) = "news")) (rfl)))))))))))
/-! ### data of any depth, both sides alike -/
def okD : Nat → PyData → Prop
  | _, .none => True
  | _, .bool _ => True
  | _, .int _ => True
  | _, .str _ => True
  | 0, .list _ => False
  | 0, .tuple _ => False
  | n + 1, .list xs => xs.length ≤ 100000 ∧ ∀ x ∈ xs, okD n x
  | n + 1, .tuple xs => xs.length ≤ 100000 ∧ ∀ x ∈ xs, okD n x
  | _, .dict _ => False
theorem dpAll_len {K : PySem.W.Frag} {G : Hp} : ∀ {xs : List V} {ds : List PyData}, DpAll K G xs ds → xs.length = ds.length
  | _, _, .nil => rfl
  | _, _, .cons _ t => by rw [List.length_cons, List.length_cons, dpAll_len t]
theorem dpAll_get {K : PySem.W.Frag} {G : Hp} : ∀ {xs : List V} {ds : List PyData} {i : Nat} {d : PyData}, DpAll K G xs ds → ds[i]? = some d → ∃ x, xs[i]? = some x ∧ Dp K G x d
  | _, _, _, _, .nil, e => by simp at e
  | _, _, 0, d, .cons h t, e => ⟨_, rfl, by have e := Option.some.inj e; subst e; exact h⟩
  | _, _, i + 1, d, .cons h t, e => by
    obtain ⟨x, h1, h2⟩ := dpAll_get (i := i) t (by simpa using e)
    exact ⟨x, by simpa using h1, h2⟩
mutual
theorem dp_mono {K : PySem.W.Frag} {G G' : Hp} (e : Same G G') : ∀ {v : V} {d : PyData}, Dp K G v d → Dp K G' v d
  | _, _, .non => .non
  | _, _, .bl b => .bl b
  | _, _, .int i => .int i
  | _, _, .str x => .str x
  | _, _, .lst h t => .lst (sl_mono e h) (dpAll_mono e t)
  | _, _, .tup h t => .tup (st_mono e h) (dpAll_mono e t)
theorem dpAll_mono {K : PySem.W.Frag} {G G' : Hp} (e : Same G G') : ∀ {vs : List V} {ds : List PyData}, DpAll K G vs ds → DpAll K G' vs ds
  | _, _, .nil => .nil
  | _, _, .cons h t => .cons (dp_mono e h) (dpAll_mono e t)
end
theorem dpAll_snoc {K : PySem.W.Frag} {G : Hp} : ∀ {xs : List V} {ds : List PyData} {x : V} {d : PyData}, DpAll K G xs ds → Dp K G x d → DpAll K G (xs ++ [x]) (ds ++ [d])
  | _, _, _, _, .nil, h => .cons h .nil
  | _, _, _, _, .cons a t, h => .cons a (dpAll_snoc t h)
theorem dpAll_of {K : PySem.W.Frag} {G : Hp} : ∀ {xs : List V} {ds : List PyData}, xs.length = ds.length → (∀ (i : Nat) (x : V) (d : PyData), xs[i]? = some x → ds[i]? = some d → Dp K G x d) → DpAll K G xs ds
  | [], [], _, _ => .nil
  | x :: xs, d :: ds, h, f => .cons (f 0 x d rfl rfl) (dpAll_of (by simpa using h) fun i y e h1 h2 => f (i + 1) y e (by simpa using h1) (by simpa using h2))
  | [], _ :: _, h, _ => by simp at h
  | _ :: _, [], h, _ => by simp at h
/-- a sequence of either kind -/
def SqB (K : PySem.W.Frag) (G : Hp) (a : Addr) (xs : List V) : Prop := SqL K G a xs ∨ SqT K G a xs
theorem w_ixB {K : PySem.W.Frag} {M G H : Hp} {a : Addr} {xs : List V} {m : Int} {v : V} {Q : VK} (j : J M G H) (h : SqB K G a xs) (e : atI xs m = some v) (q : Q v H) : uIx K (.ref a) (.int m) H Q :=
  h.elim (fun h => w_ixL j h e q) fun h => w_ixT j h e q
theorem w_lenB {K : PySem.W.Frag} {M G H : Hp} {a : Addr} {xs : List V} {Q : VK} (j : J M G H) (h : SqB K G a xs) (q : Q (.int xs.length) H) : uLen K [.ref a] H Q := h.elim (fun h => w_lenL j h q) fun h => w_lenT j h q
def spNo : Sp := fun _ _ _ _ => False
def spAll1 (K : PySem.W.Frag) (n : Nat) : Sp := Sg (α := Addr × Addr × List V × List V × List PyData) (fun x vs M G => vs = [.ref x.1, .ref x.2.1] ∧ SqB K G x.1 x.2.2.1 ∧ SqB K G x.2.1 x.2.2.2.1 ∧ DpAll K G x.2.2.1 x.2.2.2.2 ∧ DpAll K G x.2.2.2.1 x.2.2.2.2 ∧ x.2.2.2.2.length ≤ 100000 ∧ ∀ d ∈ x.2.2.2.2, okD n d)
      (fun x M _ v M' _ => v = .bl true ∧ M' = M)
def spAll (K : PySem.W.Frag) : Nat → Sp
  | 0 => spNo
  | n + 1 => spAll1 K n
def spEq (K : PySem.W.Frag) (n : Nat) : Sp := Sg (α := V × V × PyData) (fun x vs M G => vs = [x.1, x.2.1] ∧ Dp K G x.1 x.2.2 ∧ Dp K G x.2.1 x.2.2 ∧ okD n x.2.2) (fun x M _ v M' _ => v = .bl true ∧ M' = M)
theorem use_eq {K : PySem.W.Frag} {n : Nat} {M G H : Hp} {x y : V} {d : PyData} {Q : VK} {E : XK} (j : J M G H) (h1 : Dp K G x d) (h2 : Dp K G y d) (h3 : okD n d) (k : ∀ G' H', J M G' H' → Ex G G' → Q (.bl true) H') : spEq K n ([x, y] ++ []) H Q E :=
  w_sg (x, y, d) j ⟨rfl, h1, h2, h3⟩ fun v M' G' H' j' e ⟨ev, em⟩ => by subst ev em; exact k G' H' j' e
theorem use_all {K : PySem.W.Frag} {n : Nat} {M G H : Hp} {a b : Addr} {xs ys : List V} {ds : List PyData} {Q : VK} {E : XK} (j : J M G H) (h1 : SqB K G a xs) (h2 : SqB K G b ys) (h3 : DpAll K G xs ds) (h4 : DpAll K G ys ds) (h5 : ds.length ≤ 100000) (h6 : ∀ d ∈ ds, okD n d)
    (k : ∀ G' H', J M G' H' → Ex G G' → Q (.bl true) H') : spAll K (n + 1) ([.ref a, .ref b] ++ []) H Q E := by
  show spAll1 K n _ H Q E
  exact w_sg (a, b, xs, ys, ds) j ⟨rfl, h1, h2, h3, h4, h5, h6⟩ fun v M' G' H' j' e ⟨ev, em⟩ => by subst ev em; exact k G' H' j' e
/-! ### _law_equal, decided -/
def spAllW1 (K : PySem.W.Frag) (n : Nat) : Sp := Sg (α := Addr × Addr × (List V × List V) × (List PyData × List PyData)) (fun x vs M G => vs = [.ref x.1, .ref x.2.1] ∧ SqB K G x.1 x.2.2.1.1 ∧ SqB K G x.2.1 x.2.2.1.2 ∧ DpAll K G x.2.2.1.1 x.2.2.2.1 ∧ DpAll K G x.2.2.1.2 x.2.2.2.2 ∧ x.2.2.2.1.length = x.2.2.2.2.length ∧ x.2.2.2.2.length ≤ 100000 ∧ ∀ d ∈ x.2.2.2.2, okD n d)
      (fun x M _ v M' _ => ∃ b, v = .bl b ∧ (b = true ↔ x.2.2.2.1 = x.2.2.2.2) ∧ M' = M)
def spAllW (K : PySem.W.Frag) : Nat → Sp
  | 0 => spNo
  | n + 1 => spAllW1 K n
def spEqW (K : PySem.W.Frag) (n : Nat) : Sp := Sg (α := V × V × PyData × PyData) (fun x vs M G => vs = [x.1, x.2.1] ∧ Dp K G x.1 x.2.2.1 ∧ Dp K G x.2.1 x.2.2.2 ∧ okD n x.2.2.2) (fun x M _ v M' _ => ∃ b, v = .bl b ∧ (b = true ↔ x.2.2.1 = x.2.2.2) ∧ M' = M)
theorem use_eqw {K : PySem.W.Frag} {n : Nat} {M G H : Hp} {x y : V} {d e : PyData} {Q : VK} {E : XK} (j : J M G H) (h1 : Dp K G x d) (h2 : Dp K G y e) (h3 : okD n e) (k : ∀ b G' H', (b = true ↔ d = e) → J M G' H' → Ex G G' → Q (.bl b) H') : spEqW K n ([x, y] ++ []) H Q E :=
  w_sg (x, y, d, e) j ⟨rfl, h1, h2, h3⟩ fun v M' G' H' j' e ⟨b, ev, eb, em⟩ => by subst ev em; exact k b G' H' eb j' e
theorem use_allw {K : PySem.W.Frag} {n : Nat} {M G H : Hp} {a b : Addr} {xs ys : List V} {ds es : List PyData} {Q : VK} {E : XK} (j : J M G H) (h1 : SqB K G a xs) (h2 : SqB K G b ys) (h3 : DpAll K G xs ds) (h4 : DpAll K G ys es) (hl : ds.length = es.length) (h5 : es.length ≤ 100000) (h6 : ∀ d ∈ es, okD n d)
    (k : ∀ b G' H', (b = true ↔ ds = es) → J M G' H' → Ex G G' → Q (.bl b) H') : spAllW K (n + 1) ([.ref a, .ref b] ++ []) H Q E := by
  show spAllW1 K n _ H Q E
  exact w_sg (a, b, (xs, ys), (ds, es)) j ⟨rfl, h1, h2, h3, h4, hl, h5, h6⟩ fun v M' G' H' j' e ⟨b, ev, eb, em⟩ => by subst ev em; exact k b G' H' eb j' e
theorem use_eqt {K : PySem.W.Frag} {n : Nat} {M G H : Hp} {x y : V} {d : PyData} {Q : VK} {E : XK} (j : J M G H) (h1 : Dp K G x d) (h2 : Dp K G y d) (h3 : okD n d) (k : ∀ G' H', J M G' H' → Ex G G' → Q (.bl true) H') : spEqW K n ([x, y] ++ []) H Q E :=
  use_eqw j h1 h2 h3 fun b G' H' eb j' e => by
    obtain rfl : b = true := eb.mpr rfl
    exact k G' H' j' e
/-! ### stretches -/
def mx (a b : Int) : Int := if b > a then b else a
def mn (a b : Int) : Int := if b < a then b else a
def PrAt (G : Hp) (t : Addr) (p : Int × Int) : Prop := G t = some (.tup [.int p.1, .int p.2])
theorem PrAt.ex {G G' : Hp} {t : Addr} {p : Int × Int} (h : PrAt G t p) (e : Ex G G') : PrAt G' t p := e _ _ h
def clipM (a b : Int × Int) : Option (Int × Int) := if mx a.1 b.1 < mn a.2 b.2 then some (mx a.1 b.1, mn a.2 b.2) else none
def PoAt (G : Hp) (v : V) : Option (Int × Int) → Prop
  | none => v = .non
  | some p => ∃ t, v = .ref t ∧ PrAt G t p
def insM (a b : Int × Int) : Bool := decide (b.1 ≤ a.1) && (decide (a.1 < a.2) && decide (a.2 ≤ b.2))
theorem clipM_t {a b : Int × Int} (h : mx a.1 b.1 < mn a.2 b.2) : clipM a b = some (mx a.1 b.1, mn a.2 b.2) := if_pos h
theorem clipM_f {a b : Int × Int} (h : ¬ mx a.1 b.1 < mn a.2 b.2) : clipM a b = none := if_neg h
def poD : Option (Int × Int) → PyData
  | none => .none
  | some p => .tuple [.int p.1, .int p.2]
theorem PoAt.dp {K : PySem.W.Frag} {G : Hp} {v : V} {o : Option (Int × Int)} (h : PoAt G v o) : Dp K G v (poD o) := by
  cases o with
  | none => cases h; exact .non
  | some p => obtain ⟨t, rfl, ht⟩ := h; exact .tup (st_of ht) (.cons (.int _) (.cons (.int _) .nil))
theorem PoAt.ex {G G' : Hp} {v : V} {o : Option (Int × Int)} (h : PoAt G v o) (e : Ex G G') : PoAt G' v o := by
  cases o with
  | none => exact h
  | some p => obtain ⟨t, ev, ht⟩ := h; exact ⟨t, ev, ht.ex e⟩
theorem okD_int {n : Nat} (i : Int) : okD n (.int i) := by cases n <;> trivial
theorem okD_po {o : Option (Int × Int)} {n : Nat} : okD (n + 1) (poD o) := by
  cases o with
  | none => exact trivial
  | some p =>
    refine ⟨by show 2 ≤ 100000; decide, fun x hx => ?_⟩
    rcases List.mem_cons.mp hx with rfl | hx
    · exact okD_int _
    · rw [List.mem_singleton.mp hx]; exact okD_int _
/-! ### max(xs, default=d), whole numbers -/
def topI (d : Int) : List Int → Int
  | [] => d
  | n :: ns => ns.foldl max n
theorem topI_spec (d : Int) : ∀ ns : List Int, (ns = [] ∧ topI d ns = d) ∨ (topI d ns ∈ ns ∧ ∀ y ∈ ns, y ≤ topI d ns)
  | [] => .inl ⟨rfl, rfl⟩
  | n :: ns => by
    refine .inr ?_
    show ns.foldl max n ∈ n :: ns ∧ ∀ y ∈ n :: ns, y ≤ ns.foldl max n
    induction ns generalizing n with
    | nil => simp
    | cons k r ih =>
      obtain ⟨h1, h2⟩ := ih (max n k)
      simp only [List.foldl_cons]
      refine ⟨?_, fun y hy => ?_⟩
      · rcases List.mem_cons.mp h1 with e | e
        · rw [e]; rcases Int.le_total n k with q | q
          · rw [Int.max_eq_right q]; simp
          · rw [Int.max_eq_left q]; simp
        · exact List.mem_cons_of_mem _ (List.mem_cons_of_mem _ e)
      · have h0 := h2 _ (List.mem_cons_self)
        rcases List.mem_cons.mp hy with e | e
        · rw [e]; exact Int.le_trans (Int.le_max_left _ _) h0
        · rcases List.mem_cons.mp e with e | e
          · rw [e]; exact Int.le_trans (Int.le_max_right _ _) h0
          · exact h2 _ (List.mem_cons_of_mem _ e)
theorem reads_nums {h : Heap} : ∀ {vs : List Value} {ns : List Int}, IntsAre vs ns → ReadsAll h vs (ns.map .int) []
  | _, _, .nil => .nil
  | _, _, .cons _ _ r => .cons (.int _ _) (reads_nums r)
def MaxD (K : PySem.W.Frag) : List V → List V → Hp → VK → Prop := fun vs zs H Q => ∃ (l : Addr) (ns : List Int) (d : Int), vs = [V.ref l] ∧ zs = [V.int d] ∧ SqL K H l (ns.map V.int) ∧ Q (.int (topI d ns)) H
theorem call_maxD {X : Cx} (hc : X.calm = true) (hu : X.A.units + 64 < cLine) : CallRK X (.builtin "max") [Str.ofString "default"] (MaxD X.K) := by
  intro pins s σ H vs zs us ws Q I r rz h
  obtain ⟨l, ns, d, rfl, rfl, hs, q⟩ := h
  obtain ⟨its, rv, pl, hz⟩ := I.list hs
  obtain rfl := Vals.ref1 r
  obtain ⟨w1, rfl, t1, rfl⟩ := vals1 rz
  refine PySem.W.max_list_default (I.ok.hd hc) pl.isList (xs := ns.map PyData.int) (as := []) (by simpa using reads_nums rv.ints) ⟨fun x hx y hy => ?_, fun x hx => ?_⟩ ?_ (fun e h' tk keep => ?_) (fun y ys i v h' tk bs e hv rd keep => ?_)
  · obtain ⟨i, _, rfl⟩ := List.mem_map.mp hx; obtain ⟨k, _, rfl⟩ := List.mem_map.mp hy; simp [PySem.W.alike]
  · obtain ⟨i, _, rfl⟩ := List.mem_map.mp hx; exact fun z => nomatch z
  · rw [PySem.W.depth_ints]; omega
  · obtain rfl : ns = [] := List.map_eq_nil_iff.mp e
    exact ⟨.int d, H, I.kept keep, ⟨_, rfl⟩, q⟩
  · cases ns with
    | nil => cases e
    | cons n ns =>
      obtain ⟨rfl, rfl⟩ := List.cons.inj e
      rw [PySem.W.maxD_ints] at rd
      cases rd
      exact ⟨.int (topI d (n :: ns)), H, I.kept keep, ⟨_, rfl⟩, q⟩
theorem w_maxD {K : PySem.W.Frag} {M G H : Hp} {l : Addr} {ns : List Int} {d : Int} {Q : VK} (j : J M G H) (h : SqL K G l (ns.map V.int)) (k : Q (.int (topI d ns)) H) : MaxD K [.ref l] [.int d] H Q :=
  ⟨l, ns, d, rfl, rfl, sl_mono j.g h, k⟩
theorem w_ckw {r : List V → List V → Hp → VK → Prop} {t tk : TA} {σ : L2.St} {H : Hp} {Q : VK} (h : t σ H fun vs H1 => tk σ H1 fun zs H2 => r vs zs H2 Q) : tCKw r t tk σ H Q := h
local macro_rules
  | `(tactic| walk_at "v") => `(tactic| with_reducible refine w_ckw ?_)
/-! ### sorted(d) of a dict with tuple keys, all of whole numbers -/
def ky (d : List Int) : List Key := d.map Sum.inl
theorem ky_kV (d : List Int) : (ky d).map kV = d.map V.int := by unfold ky; rw [List.map_map]; rfl
theorem ky_inj {a b : List Int} (h : ky a = ky b) : a = b := by
  induction a generalizing b with
  | nil => cases b with
    | nil => rfl
    | cons y b => cases h
  | cons x a ih => cases b with
    | nil => cases h
    | cons y b =>
      obtain ⟨h1, h2⟩ := List.cons.inj h
      rw [Sum.inl.inj h1, ih h2]
def encI (d : List Int) : PyData := .tuple (d.map PyData.int)
def leI (a b : List Int) : Bool := !decide (b < a)
theorem leI_trans {a b c : List Int} (h1 : leI a b = true) (h2 : leI b c = true) : leI a c = true := by
  unfold leI at *
  simp only [Bool.not_eq_true', decide_eq_false_iff_not] at *
  exact List.le_trans h1 h2
theorem leI_total (a b : List Int) : (leI a b || leI b a) = true := by
  unfold leI
  rcases List.le_total a b with h | h
  · rw [decide_eq_false h]; rfl
  · rw [decide_eq_false h, Bool.not_false, Bool.or_true]
theorem leI_antisymm {a b : List Int} (h1 : leI a b = true) (h2 : leI b a = true) : a = b := by
  unfold leI at *
  simp only [Bool.not_eq_true', decide_eq_false_iff_not] at *
  exact List.le_antisymm h1 h2
def srt (ds : List (List Int)) : List (List Int) := ds.mergeSort leI
theorem srt_perm (ds : List (List Int)) : (srt ds).Perm ds := List.mergeSort_perm _ _
theorem srt_pw (ds : List (List Int)) : (srt ds).Pairwise fun a b => leI a b = true := List.pairwise_mergeSort (le := leI) (fun _ _ _ h1 h2 => leI_trans h1 h2) (fun a b => leI_total a b) ds
theorem srt_eq {a b : List (List Int)} (h : a.Perm b) : srt a = srt b :=
  List.Perm.eq_of_pairwise (le := fun a b => leI a b = true) (fun x y _ _ => leI_antisymm) (srt_pw a) (srt_pw b) ((srt_perm a).trans (h.trans (srt_perm b).symm))
theorem leI_data : PySem.W.dataLe false encI = leI := by
  funext a b
  show (!PySem.W.dataLt (encI b) (encI a)) = _
  unfold encI leI
  rw [PySem.W.dataLt_tuple]
  congr 1
  exact PySem.W.dataLt_ints b a

theorem srt_snd {α : Type} (zs : List (α × List Int)) : (zs.mergeSort fun x y => leI x.2 y.2).map (·.2) = srt (zs.map (·.2)) := by
  have p1 := (List.mergeSort_perm zs fun x y => leI x.2 y.2).map (·.2)
  have p2 := List.pairwise_mergeSort (le := fun x y : α × List Int => leI x.2 y.2) (fun _ _ _ h1 h2 => leI_trans h1 h2) (fun a b => leI_total a.2 b.2) zs
  exact List.Perm.eq_of_pairwise (le := fun a b => leI a b = true) (fun x y _ _ => leI_antisymm) (List.pairwise_map.mpr p2) (srt_pw _) (p1.trans (srt_perm _).symm)
/-- the tuples of whole numbers at the addresses -/
def AtI (H : Hp) (qs : List Addr) (ds : List (List Int)) : Prop := Paired (fun q d => H q = some (.tup (d.map V.int))) qs ds
theorem reads_encI {P : Program} {w : World} {H : Hp} {h : Heap} (ok : HOk P w H h) {q : Addr} {d : List Int} (e : H q = some (.tup (d.map V.int))) : Reads h (.ref q) (encI d) [] := by
  obtain ⟨_, its, rv, o, ho, hc, n, hd⟩ := (show ObjOk P w H h q (.tup (d.map V.int)) from ok q _ e)
  exact .tuple ho hc hd (reads_nums rv.ints)
theorem each_zip {R : Value → Addr × List Int → Prop} : ∀ {qs : List Addr} {ds : List (List Int)}, Paired (fun q d => R (.ref q) (q, d)) qs ds → PySem.W.EachIs R (qs.map Value.ref) (qs.zip ds)
  | _, _, .nil => .nil
  | _, _, .cons h t => .cons h (each_zip t)
theorem each_out {zs : List (Addr × List Int)} : ∀ {out : List Value}, PySem.W.EachIs (fun v z => v = Value.ref z.1) out zs → out = (zs.map (·.1)).map Value.ref := by
  induction zs with
  | nil => intro out h; cases h; rfl
  | cons z zs ih => intro out h; cases h with | cons e t => rw [e, ih t]; rfl
theorem paired_mem {α β : Type} {F : α → β → Prop} : ∀ {xs : List α} {ys : List β}, Paired F xs ys → ∀ z ∈ xs.zip ys, F z.1 z.2
  | _, _, .nil, z, h => by cases h
  | _, _, .cons f t, z, h => by
    rcases List.mem_cons.mp h with e | e
    · subst e; exact f
    · exact paired_mem t z e
theorem paired_of {α β γ : Type} {F : β → γ → Prop} {f : α → β} {g : α → γ} : ∀ {zs : List α}, (∀ z ∈ zs, F (f z) (g z)) → Paired F (zs.map f) (zs.map g)
  | [], _ => .nil
  | z :: zs, h => .cons (h z List.mem_cons_self) (paired_of fun y m => h y (List.mem_cons_of_mem _ m))
def SortDT (xs : List V) (H : Hp) (Q : VK) : Prop := ∃ (a : Addr) (kvs : List (List Key × V)) (ds : List (List Int)), xs = [.ref a] ∧ Rd H a (.dT kvs) ∧ kvs.map (·.1) = ds.map ky ∧ (∀ d ∈ ds, d ≠ []) ∧ ds.length ≤ 1000000 ∧
  ∀ (qs : List Addr) (p : Addr), AtI H qs (srt ds) → H p = none → Q (.ref p) (upd H p (.lst (qs.map V.ref)))
theorem call_sortedDT {X : Cx} (hc : X.calm = true) (hu : X.A.units + 64 < cLine) : CallR X (.builtin "sorted") SortDT := by
  intro pins s σ H xs us Q I r q
  obtain ⟨a, kvs, ds, rfl, hd, hks, hne, hz, q⟩ := q
  obtain rfl := Vals.ref1 r
  obtain ⟨z, hs, ks, pr, o, es, ep, ho, hx, hdt, he, hn⟩ := (show ObjOk X.prog X.w H s.heap a (.dT kvs) from hd.ok I.hok)
  have l1 : es.size = ks.length := size_of_entries he
  have l2 : kvs.length = ks.length := Paired.length pr
  have l3 : kvs.length = ds.length := by rw [← List.length_map (f := (·.1)) (as := kvs), hks, List.length_map]
  refine Calls.call_function_entry PyProof.Rows.kind_sorted PyProof.Rows.plain_sorted PyProof.Rows.entry_sorted (PyProof.Rows.args_sorted1 _) ?_
  unfold Builtin.«sorted»
  refine wpAny_bind (m := checkCount "sorted" 1 1 _) (wpAny_pure ?_)
  refine wpAny_bind (PySem.W.kdu_collect (A := X.A.in1) (kdl_raw hs hx hdt) (I.ok.hd hc) ho (by omega) fun h' tk acc hk hacc => ?_)
  have ea : acc.toList = (ks.map fun x => x.2.1).map Value.ref := by
    have hl : acc.toList.length = ks.length := by rw [Array.length_toList, hacc.1, l1]
    refine List.ext_getElem? fun j => ?_
    rw [List.getElem?_map, List.getElem?_map]
    cases hj : acc.toList[j]? with
    | none =>
      have h1 := List.getElem?_eq_none_iff.mp hj
      rw [List.getElem?_eq_none (show ks.length ≤ j by omega)]; rfl
    | some v =>
      obtain ⟨en, hen, hv⟩ := hacc.2 j v (by rw [← Array.getElem?_toList]; exact hj)
      have qe := entry_at he j
      rw [hen] at qe
      cases hb : ks[j]? with
      | none => rw [hb] at qe; exact nomatch (show some en = none from qe)
      | some b =>
        rw [hb] at qe
        have e2 : en = entryOfKey (tupleKind (mixKind X.prog X.w)) b := Option.some.inj qe
        rw [hv, e2]; rfl
  generalize hqs : (ks.map fun x => x.2.1) = qs at ea
  have hat : Paired (fun q d => H q = some (.tup (d.map V.int))) qs ds := by
    have g : ∀ {kvs : List (List Key × V)} {ks : List (List Key × Addr × Value)} {ds : List (List Int)}, Paired (fun (p : List Key × V) (q : List Key × Addr × Value) => p.1 = q.1 ∧ H q.2.1 = some (.tup (p.1.map kV)) ∧ RelV p.2 q.2.2) kvs ks → kvs.map (·.1) = ds.map ky → Paired (fun q d => H q = some (.tup (d.map V.int))) (ks.map fun x => x.2.1) ds := fun {kvs ks ds} pr => by
      induction pr generalizing ds with
      | nil => intro h; cases ds with
        | nil => exact .nil
        | cons d ds => cases h
      | cons f t ih => intro h; cases ds with
        | nil => cases h
        | cons d ds =>
          obtain ⟨h1, h2⟩ := List.cons.inj h
          refine .cons ?_ (ih h2)
          have e1 := f.2.1
          have h1 : ‹List Key × V›.1 = ky d := h1
          rw [h1, ky_kV] at e1
          exact e1
    rw [← hqs]; exact g pr hks
  have lq : qs.length = ds.length := Paired.length hat
  have I1 : Inv X pins σ H { s with heap := h', toks := tk } := I.kept hk
  refine wpAny_bind (wpAny_newList ?_ (by rw [ea, List.length_map, lq]; exact sz_le hz))
  rw [ea]
  have hoL : (h'.push (seqObj "list" (qs.map Value.ref).toArray 0)).get? h'.objs.size = some (seqObj "list" (qs.map Value.ref).toArray 0) := Heap.get?_push_size _ rfl
  have I2 : Inv X pins σ H { s with heap := h'.push (seqObj "list" (qs.map Value.ref).toArray 0), toks := tk } := I1.kept (t' := tk) fun b o e => Heap.get?_push_of_some _ e
  show wpAny _ _ _ _ _ { s with heap := h'.push (seqObj "list" (qs.map Value.ref).toArray 0), toks := tk }
  refine wpAny_bind (wpAny_holding (PySem.W.list_sort_data (s := { s with heap := h'.push (seqObj "list" (qs.map Value.ref).toArray 0), toks := tk }) (enc := fun z : Addr × List Int => encI z.2) (R := fun v z => v = Value.ref z.1) (bs := qs.zip ds) hoL
    (each_zip (L2.Paired.mapP hat fun _ _ _ => rfl)) (each_zip (L2.Paired.mapP hat fun q d e => ⟨[], reads_encI I2.hok e, List.not_mem_nil⟩)) (fun d h1 d' h2 => ?_) (.inl fun d h1 => ?_) (by rw [List.length_zip, lq, Nat.min_self]; exact sz_le hz) (fun b _ => ?_) fun out hl ho => ?_))
  · obtain ⟨x, _, rfl⟩ := List.mem_map.mp h1
    obtain ⟨y, _, rfl⟩ := List.mem_map.mp h2
    show PySem.W.alikeAll _ _ = true
    exact PySem.W.alike_ints _ _
  · obtain ⟨x, hx, rfl⟩ := List.mem_map.mp h1
    have := hne x.2 (List.of_mem_zip hx).2
    cases e : x.2 with
    | nil => exact (this e).elim
    | cons y r => exact ⟨.int y, r.map PyData.int, rfl⟩
  · have : (encI b.2).depth ≤ 1 := by
      unfold encI
      rw [PyData.depth, PySem.W.depth_ints]
      exact Nat.le_refl _
    show X.A.units + 1 + 1 + _ < cLine
    omega
  · have hout := each_out ho
    have hle : PySem.W.dataLe false (fun z : Addr × List Int => encI z.2) = fun x y => leI x.2 y.2 := by
      funext x y
      exact congrFun (congrFun leI_data x.2) y.2
    rw [hle] at hout
    have hsrt : ((qs.zip ds).mergeSort fun x y => leI x.2 y.2).map (·.2) = srt ds := by
      rw [srt_snd, List.map_snd_zip (by omega)]
    generalize hzs : ((qs.zip ds).mergeSort fun x y => leI x.2 y.2) = zs at hout hsrt
    have hmem : ∀ z ∈ zs, H z.1 = some (.tup (z.2.map V.int)) := fun z hz => paired_mem hat z (by rw [← hzs] at hz; exact List.mem_mergeSort.mp hz)
    obtain ⟨e', he'⟩ := PyProof.Rows.sortedHeap_at (vs := qs.map Value.ref) (out := out.toArray) hoL
    have rv : Vals ((zs.map (·.1)).map V.ref) out := by rw [hout]; exact vals_refs _
    have hlen : ((zs.map (·.1)).map V.ref).length ≤ sizeLine := by
      rw [List.length_map, List.length_map, ← List.length_map (f := (·.2)) (as := zs), hsrt, (srt_perm ds).length_eq]
      exact sz_le hz
    refine wpAny_pure ⟨_, rfl, .ref h'.objs.size, upd H h'.objs.size (.lst ((zs.map (·.1)).map V.ref)), I1.laid (t' := tk) (fun b u e => ?_) (Nat.le_refl _)
      (show ObjOk X.prog X.w _ _ _ (.lst ((zs.map (·.1)).map V.ref)) from ⟨hlen, out, e', rv, he'⟩), rfl, q (zs.map (·.1)) _ (by rw [← hsrt]; exact paired_of hmem) (I1.hok.fresh (Nat.le_refl _))⟩
    have hb : b < h'.objs.size := Heap.lt_size e
    rw [PyProof.Rows.sortedHeap_old (Nat.ne_of_lt hb) (by rw [size_push']; exact Nat.lt_succ_of_lt hb)]
    exact Heap.get?_push_of_some _ e
/-! ### sorted of a list of pairs (time, value), the times different; min of pairs (time, name) -/
def ovV : Option Int → V
  | none => .non
  | some n => .int n
def TvAt (H : Hp) (t : Addr) (p : Int × Option Int) : Prop := H t = some (.tup [.int p.1, ovV p.2])
def leT (a b : Int × Option Int) : Bool := decide (a.1 ≤ b.1)
def srtT (ps : List (Int × Option Int)) : List (Int × Option Int) := ps.mergeSort leT
noncomputable def timeKind (zs : List (Addr × Int × Option Int)) : PyProof.Rows.KeyKind where
  toKeyOrd := PyProof.Rows.listOrd PyProof.Rows.itemOrd
  keyOf v := match v with
    | .ref a => (zs.find? fun z => z.1 == a).map fun z => [Sum.inl z.2.1]
    | _ => none
  dflt := []
theorem timeKind_some {zs : List (Addr × Int × Option Int)} {v : Value} {a : List (Int ⊕ List Nat)} (h : (timeKind zs).keyOf v = some a) : ∃ z ∈ zs, v = .ref z.1 ∧ a = [Sum.inl z.2.1] := by
  cases v with
  | ref b =>
    replace h : (zs.find? fun z => z.1 == b).map (fun z => [Sum.inl z.2.1]) = some a := h
    cases e : zs.find? fun z => z.1 == b with
    | none => rw [e] at h; cases h
    | some z =>
      rw [e] at h
      have e1 := List.find?_some e
      have e1 : z.1 = b := by simpa using e1
      exact ⟨z, List.mem_of_find?_eq_some e, by rw [e1], (Option.some.inj h).symm⟩
  | _ => exact nomatch (show none = some a from h)
theorem timeKind_mem {zs : List (Addr × Int × Option Int)} (hn : ∀ z ∈ zs, ∀ y ∈ zs, z.1 = y.1 → z = y) {z : Addr × Int × Option Int} (h : z ∈ zs) : (timeKind zs).keyOf (.ref z.1) = some [Sum.inl z.2.1] := by
  show (zs.find? fun y => y.1 == z.1).map (fun z => [Sum.inl z.2.1]) = _
  cases e : zs.find? fun y => y.1 == z.1 with
  | none => have := List.find?_eq_none.mp e z h; simp at this
  | some y =>
    have e1 := List.find?_some e
    have e1 : y.1 = z.1 := by simpa using e1
    rw [hn y (List.mem_of_find?_eq_some e) z h e1]; rfl
theorem time_ltAt {P : Program} {w : World} {A : Around} {s : Shared} {zs : List (Addr × Int × Option Int)} (hu : A.units < cLine) (hz : ∀ z ∈ zs, ∃ (o : Obj) (n : Nat) (t u : Tok) (x : Value), s.heap.get? z.1 = some o ∧ o.data = .seq #[.int z.2.1 t, x] n ∧ (x = .none ∨ ∃ i, x = .int i u))
    (hd : ∀ z ∈ zs, ∀ y ∈ zs, z.2.1 = y.2.1 → z = y) : PyProof.Rows.H.LtAt P w A s (timeKind zs) (tuples' true) := by
  intro E x y a b Q hx hy hq
  obtain ⟨z, mz, rfl, rfl⟩ := timeKind_some hx
  obtain ⟨y, my, rfl, rfl⟩ := timeKind_some hy
  obtain ⟨o, n, t, u, x1, g1, g2, g3⟩ := hz z mz
  obtain ⟨o', n', t', u', x2, h1, h2, h3⟩ := hz y my
  replace hq : Q (PyProof.Rows.lexLt PyProof.Rows.itemOrd [Sum.inl z.2.1] [Sum.inl y.2.1]) s := hq
  refine PySem.W.kat_lt g1 g2 h1 h2 ?_
  show PySem.W.KatLex P w A true false Q [(Value.int z.2.1 t, Value.int y.2.1 t'), (x1, x2)] 0 s
  refine PySem.W.kat_cons (wpAny_eqBool_int (PySem.W.kat_go (fun e => ?_) fun e => ?_))
  · have e1 : z.2.1 = y.2.1 := by simpa using e
    obtain rfl := hd z mz y my e1
    have e2 : o = o' := Option.some.inj (g1.symm.trans h1)
    subst e2
    rw [g2] at h2
    injection h2 with h2 _
    have e3 : Value.int z.2.1 t = Value.int z.2.1 t' ∧ x1 = x2 := by simpa using h2
    obtain ⟨_, rfl⟩ := e3
    have irr : PyProof.Rows.lexLt PyProof.Rows.itemOrd [Sum.inl z.2.1] [Sum.inl z.2.1] = false := by
      rw [PyProof.Rows.lex_self]; rfl
    rw [irr] at hq
    refine PySem.W.kat_yes (PySem.W.kat_cons ?_)
    rcases g3 with rfl | ⟨i, rfl⟩
    · exact PySem.W.eqAt_alike .none .none A s .none .none [] [] .none .none rfl (by simpa [PyData.depth] using hu) P w _ _ (PySem.W.kat_go (fun _ => PySem.W.kat_yes (PySem.W.kat_nil hq)) fun e => by simp [PyData.eqv] at e)
    · exact wpAny_eqBool_int (PySem.W.kat_go (fun _ => PySem.W.kat_yes (PySem.W.kat_nil hq)) fun e => by simp at e)
  · have e1 : ¬ z.2.1 = y.2.1 := by simpa using e
    rw [PyProof.Rows.lex_diff (fun x => e1 (Sum.inl.inj x))] at hq
    exact PySem.W.kat_no (PyProof.Rows.oneLt_any_int hq)
theorem leT_data : PySem.W.sortLe (PyProof.Rows.listOrd PyProof.Rows.itemOrd) false (fun z : Addr × Int × Option Int => [Sum.inl z.2.1]) = fun x y => leT x.2 y.2 := PySem.W.dataLe_int fun z : Addr × Int × Option Int => z.2.1
theorem leT_trans {a b c : Int × Option Int} (h1 : leT a b = true) (h2 : leT b c = true) : leT a c = true := by
  unfold leT at *
  rw [decide_eq_true_iff] at *
  omega
theorem leT_total (a b : Int × Option Int) : (leT a b || leT b a) = true := by
  unfold leT
  rw [Bool.or_eq_true, decide_eq_true_iff, decide_eq_true_iff]
  omega
theorem srtT_perm (ps : List (Int × Option Int)) : (srtT ps).Perm ps := List.mergeSort_perm _ _
theorem srtT_pw (ps : List (Int × Option Int)) : (srtT ps).Pairwise fun a b => leT a b = true := List.pairwise_mergeSort (le := leT) (fun _ _ _ h1 h2 => leT_trans h1 h2) leT_total ps
theorem nodup_at {α β : Type} {f : α → β} : ∀ {xs : List α}, (xs.map f).Nodup → ∀ x ∈ xs, ∀ y ∈ xs, f x = f y → x = y
  | [], _, x, hx, _, _, _ => by cases hx
  | a :: xs, hn, x, hx, y, hy, e => by
    rw [List.map_cons, List.nodup_cons] at hn
    rcases List.mem_cons.mp hx with rfl | hx
    · rcases List.mem_cons.mp hy with rfl | hy
      · rfl
      · exact (hn.1 (e ▸ List.mem_map_of_mem hy)).elim
    · rcases List.mem_cons.mp hy with hy | hy
      · rw [hy] at e
        exact (hn.1 (e ▸ List.mem_map_of_mem hx)).elim
      · exact nodup_at hn.2 x hx y hy e
theorem kat_ints {h : Heap} : ∀ {ts : List Addr}, (∀ t ∈ ts, ∃ (o : Obj) (n : Nat) (i : Int) (tk : Tok) (x : Value), h.get? t = some o ∧ o.data = .seq #[.int i tk, x] n ∧ o.cls = .type "tuple") →
    ∃ fs : List Value, PySem.W.KatTups h (ts.map Value.ref) fs ∧ fs.length = ts.length ∧ ∀ f ∈ fs, ∃ i t, f = Value.int i t
  | [], _ => ⟨[], PySem.W.KatTups.nil, rfl, fun f h => nomatch h⟩
  | t :: ts, hh => by
    obtain ⟨fs, h1, h2, h3⟩ := kat_ints (ts := ts) fun y m => hh y (List.mem_cons_of_mem _ m)
    obtain ⟨o, n, i, tk, x, g1, g2, g3⟩ := hh t List.mem_cons_self
    refine ⟨.int i tk :: fs, PySem.W.KatTups.cons g1 g3 g2 rfl h1, by rw [List.length_cons, List.length_cons, h2], fun f hf => ?_⟩
    rcases List.mem_cons.mp hf with rfl | hf
    · exact ⟨i, tk, rfl⟩
    · exact h3 f hf
/-- two sorted lists of the same pairs of different times -/
theorem srtT_uniq {a b : List (Int × Option Int)} (hn : (a.map (·.1)).Nodup) (h : a.Perm b) : srtT a = srtT b := by
  refine List.Perm.eq_of_pairwise (le := fun a b => leT a b = true) (fun x y hx hy h1 h2 => ?_) (srtT_pw a) (srtT_pw b) ((srtT_perm a).trans (h.trans (srtT_perm b).symm))
  unfold leT at h1 h2
  rw [decide_eq_true_iff] at h1 h2
  exact nodup_at hn x ((srtT_perm a).mem_iff.mp hx) y (h.mem_iff.mpr ((srtT_perm b).mem_iff.mp hy)) (by omega)
theorem each_zipG {α : Type} {F : Addr → α → Prop} {R : Value → Addr × α → Prop} : ∀ {qs : List Addr} {ds : List α}, Paired F qs ds → (∀ z ∈ qs.zip ds, R (.ref z.1) z) → PySem.W.EachIs R (qs.map Value.ref) (qs.zip ds)
  | _, _, .nil, _ => .nil
  | _, _, .cons h t, f => .cons (f _ List.mem_cons_self) (each_zipG t fun z m => f z (List.mem_cons_of_mem _ m))
theorem each_outG {α : Type} {zs : List (Addr × α)} : ∀ {out : List Value}, PySem.W.EachIs (fun v z => v = Value.ref z.1) out zs → out = (zs.map (·.1)).map Value.ref := by
  induction zs with
  | nil => intro out h; cases h; rfl
  | cons z zs ih => intro out h; cases h with | cons e t => rw [e, ih t]; rfl
theorem vals_of_refs : ∀ {qs : List Addr} {us : List Value}, Vals (qs.map V.ref) us → us = qs.map Value.ref
  | [], _, .nil => rfl
  | q :: qs, _, .cons h t => by rw [vals_of_refs t]; cases h; rfl
def SortTV (K : PySem.W.Frag) (xs : List V) (H : Hp) (Q : VK) : Prop := ∃ (a : Addr) (ts : List Addr) (ps : List (Int × Option Int)), xs = [.ref a] ∧ SqL K H a (ts.map V.ref) ∧ Paired (TvAt H) ts ps ∧ (ps.map (·.1)).Nodup ∧ ps.length ≤ 1000000 ∧
  ∀ (ts' : List Addr) (p : Addr), Paired (TvAt H) ts' (srtT ps) → H p = none → Q (.ref p) (upd H p (.lst (ts'.map V.ref)))
theorem call_sortTV {X : Cx} (hu : X.A.units + 64 < cLine) : CallR X (.builtin "sorted") (SortTV X.K) := by
  intro pins s σ H xs us Q I r q
  obtain ⟨a, ts, ps, rfl, hs, hat, hn, hz, q⟩ := q
  obtain rfl := Vals.ref1 r
  obtain ⟨its, rv, pl, _⟩ := I.list hs
  obtain rfl := vals_of_refs rv
  have lt : ts.length = ps.length := Paired.length hat
  have hm : ∀ z ∈ ts.zip ps, TvAt H z.1 z.2 := fun z h => paired_mem hat z h
  have ht : ∀ z ∈ ts.zip ps, ∀ y ∈ ts.zip ps, z.2.1 = y.2.1 → z = y := by
    refine nodup_at (f := fun z : Addr × Int × Option Int => z.2.1) ?_
    have e : ((ts.zip ps).map fun z => z.2.1) = ps.map (·.1) := by
      rw [← List.map_snd_zip (l₁ := ts) (l₂ := ps) (by omega), List.map_map, List.map_snd_zip (by omega)]; rfl
    rw [e]; exact hn
  have ha : ∀ z ∈ ts.zip ps, ∀ y ∈ ts.zip ps, z.1 = y.1 → z = y := fun z mz y my e => ht z mz y my (by
    have h1 := hm z mz
    have h2 := hm y my
    unfold TvAt at h1 h2
    rw [e, h2] at h1
    have h1 := Option.some.inj h1
    injection h1 with h1
    have h1 := (List.cons.inj h1).1
    injection h1 with h1
    exact h1.symm)
  have ob : ∀ z ∈ ts.zip ps, ∃ (o : Obj) (n : Nat) (t u : Tok) (x : Value), s.heap.get? z.1 = some o ∧ o.data = .seq #[.int z.2.1 t, x] n ∧ (x = .none ∨ ∃ i, x = .int i u) ∧ o.cls = .type "tuple" := fun z mz => by
    obtain ⟨_, its, rv, o, ho, hc, n, hd⟩ := (show ObjOk X.prog X.w H s.heap z.1 (.tup [.int z.2.1, ovV z.2.2]) from I.hok z.1 _ (hm z mz))
    cases rv with
    | cons r1 r2 => cases r2 with
      | cons r3 r4 =>
        cases r4
        obtain ⟨t, rfl⟩ := r1
        cases e : z.2.2 with
        | none =>
          rw [e] at r3
          cases (show _ = Value.none from r3)
          exact ⟨o, n, t, t, _, ho, hd, .inl rfl, hc⟩
        | some i =>
          rw [e] at r3
          obtain ⟨u, rfl⟩ := (show ∃ u, _ = Value.int i u from r3)
          exact ⟨o, n, t, u, _, ho, hd, .inr ⟨i, rfl⟩, hc⟩
  refine PySem.W.sorted_vals (κ := timeKind (ts.zip ps)) (vs := ts.map Value.ref) pl.isList ⟨fun v hv => ?_, tuples' true, ?_, fun h2 E Q hq => ?_⟩ (by rw [List.length_map, lt]; exact sz_le hz) ?_
  · obtain ⟨t, mt, rfl⟩ := List.mem_map.mp hv
    obtain ⟨i, hi⟩ := List.mem_iff_getElem?.mp mt
    have li := (List.getElem?_eq_some_iff.mp hi).1
    have mz : (t, ps[i]'(by omega)) ∈ ts.zip ps := List.mem_iff_getElem?.mpr ⟨i, List.getElem?_zip_eq_some.mpr ⟨hi, List.getElem?_eq_getElem _⟩⟩
    exact ⟨_, timeKind_mem ha mz⟩
  · refine time_ltAt (by show X.A.units + 1 + 1 < cLine; omega) (fun z mz => ?_) ht
    obtain ⟨o, n, t, u, x, h1, h2, h3, _⟩ := ob z mz
    exact ⟨o, n, t, u, x, PySem.W.sorting_copy_old h1, h2, h3⟩
  · obtain ⟨fs, k1, k2, k3⟩ := kat_ints (h := PySem.W.sortingHeap (PySem.W.copyHeap s.heap (ts.map Value.ref)) (s.heap.objs.size + 1) (ts.map Value.ref)) (ts := ts) fun t mt => by
      obtain ⟨i, hi⟩ := List.mem_iff_getElem?.mp mt
      have li := (List.getElem?_eq_some_iff.mp hi).1
      have mz : (t, ps[i]'(by omega)) ∈ ts.zip ps := List.mem_iff_getElem?.mpr ⟨i, List.getElem?_zip_eq_some.mpr ⟨hi, List.getElem?_eq_getElem _⟩⟩
      obtain ⟨o, n, t', u, x, h1, h2, _, h4⟩ := ob _ mz
      exact ⟨o, n, _, t', x, PySem.W.sorting_copy_old h1, h2, h4⟩
    rw [List.length_map] at h2
    exact PySem.W.kat_kind (T := PySem.W.dataType (.int 0)) k1 (by omega) (fun f hf => by
      obtain ⟨i, t, rfl⟩ := k3 f hf
      have lk := PySem.W.looks_reads (M := model X.prog X.w) (h := PySem.W.sortingHeap (PySem.W.copyHeap s.heap (ts.map Value.ref)) (s.heap.objs.size + 1) (ts.map Value.ref)) (Reads.int i t)
      rw [show PySem.W.dataType (.int i) = PySem.W.dataType (.int 0) from rfl] at lk
      exact lk) (beq_self_eq_true _) hq
  · have ez : PySem.W.EachIs (fun v z => v = Value.ref z.1) (PySem.W.sortVals (timeKind (ts.zip ps)) false (ts.map Value.ref) (ts.map Value.ref)) ((ts.zip ps).mergeSort (PySem.W.sortLe (PyProof.Rows.listOrd PyProof.Rows.itemOrd) false fun z : Addr × Int × Option Int => [Sum.inl z.2.1])) := PySem.W.sortVals_each (κ := timeKind (ts.zip ps)) (rev := false) (R := fun v z => v = Value.ref z.1) (ks := ts.map Value.ref) (vs := ts.map Value.ref) (bs := ts.zip ps) (fun z => [Sum.inl z.2.1])
      (each_zipG hat fun _ _ => rfl) (each_zipG hat fun z mz => timeKind_mem ha mz)
    rw [leT_data] at ez
    have hout := each_outG ez
    generalize hzs : ((ts.zip ps).mergeSort fun x y => leT x.2 y.2) = zs at hout
    have hmem : ∀ z ∈ zs, TvAt H z.1 z.2 := fun z hz => hm z (by rw [← hzs] at hz; exact List.mem_mergeSort.mp hz)
    have hsrt : zs.map (·.2) = srtT ps := by
      have p1 := (List.mergeSort_perm (ts.zip ps) fun x y => leT x.2 y.2).map (·.2)
      rw [hzs, List.map_snd_zip (by omega)] at p1
      have p2 := List.pairwise_mergeSort (le := fun x y : Addr × Int × Option Int => leT x.2 y.2) (fun _ _ _ h1 h2 => leT_trans h1 h2) (fun a b => leT_total a.2 b.2) (ts.zip ps)
      rw [hzs] at p2
      refine List.Perm.eq_of_pairwise (le := fun a b => leT a b = true) (fun x y hx hy h1 h2 => ?_) (List.pairwise_map.mpr p2) (srtT_pw ps) (p1.trans (srtT_perm ps).symm)
      unfold leT at h1 h2
      rw [decide_eq_true_iff] at h1 h2
      exact nodup_at hn x (p1.mem_iff.mp hx) y ((srtT_perm ps).mem_iff.mp hy) (by omega)
    generalize PySem.W.sortVals (timeKind (ts.zip ps)) false (ts.map Value.ref) (ts.map Value.ref) = out at hout
    obtain ⟨c, hcx⟩ := PyProof.Rows.sortedAll_at s.heap (ts.map Value.ref) out.toArray
    have rvo : Vals ((zs.map (·.1)).map V.ref) out := by rw [hout]; exact vals_refs _
    have hlen : ((zs.map (·.1)).map V.ref).length ≤ sizeLine := by
      rw [List.length_map, List.length_map, ← List.length_map (f := (·.2)) (as := zs), hsrt, (srtT_perm ps).length_eq]
      exact sz_le hz
    exact ⟨.ref (s.heap.objs.size + 1), upd H (s.heap.objs.size + 1) (.lst ((zs.map (·.1)).map V.ref)), I.laid (t' := s.toks) (fun b u e => PyProof.Rows.sortedAll_old e) (Nat.le_succ _)
      (show ObjOk X.prog X.w _ _ _ (.lst ((zs.map (·.1)).map V.ref)) from ⟨hlen, out, c, rvo, hcx⟩), rfl, q (zs.map (·.1)) _ (by rw [← hsrt]; exact paired_of hmem) (I.hok.fresh (Nat.le_succ _))⟩
/-! min of a list of pairs (time, name) -/
def NpAt (H : Hp) (t : Addr) (p : Int × List Int) : Prop := ∃ q, H t = some (.tup [.int p.1, .ref q]) ∧ H q = some (.tup (p.2.map V.int))
def encP (p : Int × List Int) : PyData := .tuple [.int p.1, encI p.2]
def ltP (a b : Int × List Int) : Bool := if a.1 = b.1 then decide (a.2 < b.2) else decide (a.1 < b.1)
def minP (x : Int × List Int) (xs : List (Int × List Int)) : Int × List Int := xs.foldl (fun a y => if ltP y a = true then y else a) x
theorem eqv_ints : ∀ a b : List Int, PyData.eqvAll (a.map PyData.int) (b.map PyData.int) = decide (a = b)
  | [], [] => by simp [PyData.eqvAll]
  | [], y :: b => by simp [PyData.eqvAll]
  | x :: a, [] => by simp [PyData.eqvAll]
  | x :: a, y :: b => by
    have ih := eqv_ints a b
    simp only [List.map_cons, PyData.eqvAll, PyData.eqv, ih]
    by_cases h : x = y
    · subst h; simp
    · simp [h]
theorem ltP_data (a b : Int × List Int) : PySem.W.dataLt (encP a) (encP b) = ltP a b := by
  unfold encP ltP
  rw [PySem.W.dataLt_pair (by rfl) (by show PySem.W.alikeAll _ _ = true; exact PySem.W.alike_ints _ _), PySem.W.dataLt_int]
  have h1 : PySem.W.dataLt (encI a.2) (encI b.2) = decide (a.2 < b.2) := by
    unfold encI
    rw [PySem.W.dataLt_tuple]
    exact PySem.W.dataLt_ints a.2 b.2
  have h2 : PyData.eqv (encI a.2) (encI b.2) = decide (a.2 = b.2) := eqv_ints a.2 b.2
  rw [h1, h2]
  by_cases e1 : a.1 = b.1
  · rw [if_pos e1, if_pos (by rw [e1]; simp [PyData.eqv])]
    by_cases e2 : a.2 = b.2
    · rw [if_pos (decide_eq_true e2), e2]
      exact (decide_eq_false (List.lt_irrefl _)).symm
    · rw [if_neg (by simpa using e2)]
  · rw [if_neg e1, if_neg (by simpa [PyData.eqv] using e1)]
theorem minP_data (x : Int × List Int) : ∀ xs : List (Int × List Int), PySem.W.minD (encP x) (xs.map encP) = encP (minP x xs) := by
  intro xs
  unfold PySem.W.minD minP
  induction xs generalizing x with
  | nil => rfl
  | cons y xs ih =>
    rw [List.map_cons, List.foldl_cons, List.foldl_cons, ltP_data]
    by_cases h : ltP y x = true
    · rw [if_pos h, if_pos h]; exact ih y
    · rw [if_neg h, if_neg h]; exact ih x
theorem mapI_inj : ∀ {a b : List Int}, a.map PyData.int = b.map PyData.int → a = b
  | [], [], _ => rfl
  | [], _ :: _, h => by cases h
  | _ :: _, [], h => by cases h
  | x :: a, y :: b, h => by
    obtain ⟨h1, h2⟩ := List.cons.inj h
    injection h1 with h1
    rw [h1, mapI_inj h2]
theorem encI_inj {a b : List Int} (h : encI a = encI b) : a = b := by
  unfold encI at h
  injection h with h
  exact mapI_inj h
theorem encP_inj {a b : Int × List Int} (h : encP a = encP b) : a = b := by
  unfold encP at h
  injection h with h
  obtain ⟨h1, h2⟩ := List.cons.inj h
  have h2 := (List.cons.inj h2).1
  injection h1 with h1
  exact Prod.ext h1 (encI_inj h2)
theorem minP_mem (x : Int × List Int) : ∀ xs : List (Int × List Int), minP x xs ∈ x :: xs := by
  intro xs
  unfold minP
  induction xs generalizing x with
  | nil => exact List.mem_cons_self
  | cons y xs ih =>
    rw [List.foldl_cons]
    by_cases h : ltP y x = true
    · rw [if_pos h]; exact List.mem_cons_of_mem _ (ih y)
    · rw [if_neg h]
      rcases List.mem_cons.mp (ih x) with e | e
      · rw [e]; exact List.mem_cons_self
      · exact List.mem_cons_of_mem _ (List.mem_cons_of_mem _ e)
/-- the order of pairs -/
def leP (a b : Int × List Int) : Prop := ltP b a = false
theorem leP_refl (a : Int × List Int) : leP a a := by
  unfold leP ltP
  rw [if_pos rfl]
  exact decide_eq_false (List.lt_irrefl _)
theorem leP_trans {a b c : Int × List Int} (h1 : leP a b) (h2 : leP b c) : leP a c := by
  unfold leP ltP at *
  by_cases e1 : b.1 = a.1
  · rw [if_pos e1, decide_eq_false_iff_not] at h1
    by_cases e2 : c.1 = b.1
    · rw [if_pos e2, decide_eq_false_iff_not] at h2
      rw [if_pos (e2.trans e1), decide_eq_false_iff_not]
      exact List.le_trans h1 h2
    · rw [if_neg e2, decide_eq_false_iff_not] at h2
      rw [if_neg (by omega), decide_eq_false_iff_not]
      omega
  · rw [if_neg e1, decide_eq_false_iff_not] at h1
    by_cases e2 : c.1 = b.1
    · rw [if_neg (by omega), decide_eq_false_iff_not]
      omega
    · rw [if_neg e2, decide_eq_false_iff_not] at h2
      rw [if_neg (by omega), decide_eq_false_iff_not]
      omega
theorem leP_antisymm {a b : Int × List Int} (h1 : leP a b) (h2 : leP b a) : a = b := by
  unfold leP ltP at *
  by_cases e1 : b.1 = a.1
  · rw [if_pos e1, decide_eq_false_iff_not] at h1
    rw [if_pos e1.symm, decide_eq_false_iff_not] at h2
    exact Prod.ext e1.symm (List.le_antisymm h1 h2)
  · rw [if_neg e1, decide_eq_false_iff_not] at h1
    rw [if_neg (fun z => e1 z.symm), decide_eq_false_iff_not] at h2
    omega
theorem leP_of_lt {a b : Int × List Int} (h : ltP a b = true) : leP a b := by
  unfold leP ltP at *
  by_cases e : a.1 = b.1
  · rw [if_pos e, decide_eq_true_iff] at h
    rw [if_pos e.symm, decide_eq_false_iff_not]
    exact List.not_lt.mpr (List.le_of_lt h)
  · rw [if_neg e, decide_eq_true_iff] at h
    rw [if_neg (fun z => e z.symm), decide_eq_false_iff_not]
    omega
theorem minP_le (x : Int × List Int) : ∀ (xs : List (Int × List Int)), ∀ y ∈ x :: xs, leP (minP x xs) y := by
  intro xs
  unfold minP
  induction xs generalizing x with
  | nil =>
    intro y hy
    rw [List.mem_singleton.mp hy]; exact leP_refl x
  | cons z xs ih =>
    intro y hy
    rw [List.foldl_cons]
    by_cases h : ltP z x = true
    · rw [if_pos h]
      rcases List.mem_cons.mp hy with rfl | hy
      · exact leP_trans (ih z z List.mem_cons_self) (leP_of_lt h)
      · exact ih z y hy
    · rw [if_neg h]
      have h : leP x z := by unfold leP; simpa using h
      rcases List.mem_cons.mp hy with rfl | hy
      · exact ih y y List.mem_cons_self
      · rcases List.mem_cons.mp hy with rfl | hy
        · exact leP_trans (ih x x List.mem_cons_self) h
        · exact ih x y (List.mem_cons_of_mem _ hy)
def MinNP (K : PySem.W.Frag) (xs : List V) (H : Hp) (Q : VK) : Prop := ∃ (a : Addr) (ts : List Addr) (ps : List (Int × List Int)), xs = [.ref a] ∧ SqL K H a (ts.map V.ref) ∧ Paired (NpAt H) ts ps ∧ ps ≠ [] ∧ ps.length ≤ 1000000 ∧
  ∀ (i : Nat) (t : Addr) (p : Int × List Int), ts[i]? = some t → ps[i]? = some p → (∀ y ∈ ps, leP p y) → Q (.ref t) H
theorem reads_encP {P : Program} {w : World} {H : Hp} {h : Heap} (ok : HOk P w H h) {t : Addr} {p : Int × List Int} (e : NpAt H t p) : Reads h (.ref t) (encP p) [] := by
  obtain ⟨q, e1, e2⟩ := e
  obtain ⟨_, its, rv, o, ho, hc, n, hd⟩ := (show ObjOk P w H h t (.tup [.int p.1, .ref q]) from ok t _ e1)
  cases rv with
  | cons r1 r2 => cases r2 with
    | cons r3 r4 =>
      cases r4
      obtain ⟨tk, rfl⟩ := r1
      cases r3
      exact .tuple ho hc hd (.cons (.int _ _) (.cons (reads_encI ok e2) .nil))
theorem reads_allP {P : Program} {w : World} {H : Hp} {h : Heap} (ok : HOk P w H h) : ∀ {ts : List Addr} {ps : List (Int × List Int)}, Paired (NpAt H) ts ps → ReadsAll h (ts.map Value.ref) (ps.map encP) []
  | _, _, .nil => .nil
  | _, _, .cons f t => .cons (as := []) (bs := []) (reads_encP ok f) (reads_allP ok t)
theorem call_minNP {X : Cx} (hc : X.calm = true) (hu : X.A.units + 64 < cLine) : CallR X (.builtin "min") (MinNP X.K) := by
  intro pins s σ H xs us Q I r q
  obtain ⟨a, ts, ps, rfl, hs, hat, hne, hz, q⟩ := q
  obtain rfl := Vals.ref1 r
  obtain ⟨its, rv, pl, _⟩ := I.list hs
  obtain rfl := vals_of_refs rv
  have lt : ts.length = ps.length := Paired.length hat
  cases ps with
  | nil => exact (hne rfl).elim
  | cons p ps =>
    have dep : ∀ l : List (Int × List Int), PyData.depthAll (l.map encP) ≤ 2 := fun l => by
      induction l with
      | nil => exact Nat.zero_le _
      | cons y l ih =>
        rw [List.map_cons, PyData.depthAll]
        have : (encP y).depth ≤ 2 := by
          unfold encP encI
          rw [PyData.depth, PyData.depthAll, PyData.depthAll, PyData.depthAll, PyData.depth, PyData.depth, PySem.W.depth_ints]
          decide
        omega
    refine PySem.W.min_list_data (I.ok.hd hc) pl.isList (x := encP p) (xs := ps.map encP) (as := []) (by simpa using reads_allP I.hok hat) ⟨fun x hx y hy => ?_, fun x hx => ?_⟩ ?_ fun i v h' tk bs hv rd keep => ?_
    · rw [← List.map_cons] at hx hy
      obtain ⟨x, _, rfl⟩ := List.mem_map.mp hx
      obtain ⟨y, _, rfl⟩ := List.mem_map.mp hy
      show PySem.W.alikeAll [.int x.1, encI x.2] [.int y.1, encI y.2] = true
      have h2 : PySem.W.alike (encI x.2) (encI y.2) = true := by show PySem.W.alikeAll _ _ = true; exact PySem.W.alike_ints _ _
      simp only [PySem.W.alikeAll, PySem.W.alike, h2]
      rfl
    · rw [← List.map_cons] at hx
      obtain ⟨x, _, rfl⟩ := List.mem_map.mp hx
      exact fun z => nomatch z
    · have := dep (p :: ps)
      rw [List.map_cons] at this
      omega
    · have hv : (ts.map Value.ref)[i]? = some v := by simpa using hv
      rw [List.getElem?_map] at hv
      cases e : ts[i]? with
      | none => rw [e] at hv; cases hv
      | some t =>
        rw [e] at hv
        cases (Option.some.inj hv)
        have li := (List.getElem?_eq_some_iff.mp e).1
        have mz : (t, (p :: ps)[i]'(by omega)) ∈ ts.zip (p :: ps) := List.mem_iff_getElem?.mpr ⟨i, List.getElem?_zip_eq_some.mpr ⟨e, List.getElem?_eq_getElem _⟩⟩
        have nt : NpAt H t _ := paired_mem hat _ mz
        have I1 : Inv X pins σ H { s with heap := h', toks := tk } := I.kept keep
        have e2 := (Reads.unique (reads_encP I1.hok nt) _ _ rd).1
        rw [minP_data] at e2
        have e3 := encP_inj e2
        exact ⟨.ref t, H, I1, rfl, q i t _ e (by rw [List.getElem?_eq_getElem (by omega)]; exact congrArg some e3) (minP_le p ps)⟩
/-! ### d.items() of a dict with tuple keys, walked -/
theorem frz_tv {X : Cx} {pins : List (Addr × Obj)} {σ : L2.St} {H : Hp} {s : Shared} {d : Addr} {o : Obj} {kvs : List (List Key × V)} (I : Inv X pins σ H s) (h : H d = some (.frz o (.dT kvs))) :
    (d == sysModules) = false ∧ s.heap.get? d = some o ∧ o.ExactDict ∧ ∃ (es : Array DictEntry) (ep : Nat), o.data = .dict es ep ∧ es.size = kvs.length ∧
      ∀ (i : Nat) (k : List Key) (v : V), kvs[i]? = some (k, v) → ∃ (en : DictEntry) (q : Addr), es[i]? = some en ∧ en.key = .ref q ∧ H q = some (.tup (k.map kV)) ∧ RelV v en.val := by
  have ok := I.hok d _ h
  obtain ⟨h1, _, h2, zs, pr, o', es, ep, ho, hx, hdt, he, _⟩ := ok
  obtain rfl : o = o' := Option.some.inj (h1.symm.trans ho)
  have l1 : es.size = zs.length := size_of_entries he
  have l2 : kvs.length = zs.length := Paired.length pr
  refine ⟨h2, h1, hx, es, ep, hdt, l1.trans l2.symm, fun i k v e => ?_⟩
  obtain ⟨b, hb, _, e2, e3⟩ := paired_get pr e
  have at_ := entry_at he i
  rw [hb] at at_
  exact ⟨_, b.2.1, at_, rfl, e2, e3⟩
/-- the pairs, each a new tuple -/
def Itit (d : Addr) (o : Obj) (kvs : List (List Key × V)) : It where
  go := fun i H => H d = some (.frz o (.dT kvs)) ∧ i < kvs.length
  yld := fun i H x H' => ∃ (T q : Addr) (k : List Key) (v : V), kvs[i]? = some (k, v) ∧ H q = some (.tup (k.map kV)) ∧ x = .ref T ∧ H T = none ∧ H' = upd H T (.tup [.ref q, v])
  stop := fun i H => H d = some (.frz o (.dT kvs)) ∧ kvs.length ≤ i
theorem turn_itt {P : Program} {w : World} {K : PySem.W.Frag} {d : Addr} {o : Obj} {es : Array DictEntry} {ep : Nat} {kvs : List (List Key × V)} {elts : List Expr} {kk : Nat} {tpos : Pos} (it : Addr) (hod : o.data = .dict es ep) :
    Turn P w K (.Tuple elts kk tpos) (Itit d o kvs) [it] it (fun i h => ∃ ok ov, IsItemIter h it d i kvs.length ep ok ov) where
  mem := List.mem_singleton.mpr rfl
  obj := fun i h st b hb => by
    obtain rfl : b = it := List.mem_singleton.mp hb
    obtain ⟨ok, ov, e⟩ := st
    exact ⟨_, e, fun v z => nomatch z⟩
  keep := fun i h h' st k => st.imp fun ok st => st.imp fun ov e => k it (List.mem_singleton.mpr rfl) _ e
  self := fun A i s Q E st h => by
    obtain ⟨_, _, e⟩ := st
    exact PySem.W.kcp_self e h
  done := by
    rintro X rfl rfl rfl hc i pins s σ H E I hf ⟨ok, ov, he⟩ ⟨hd, hi⟩
    obtain ⟨f0, f1, f2, f3, f4, f5⟩ := hf it (List.mem_singleton.mpr rfl)
    obtain ⟨hs, hgd, hx, es', ep', hdt, hsz, ent⟩ := frz_tv I hd
    obtain ⟨rfl, rfl⟩ := dict_ep hod hdt
    rw [← hsz] at he hi
    exact DT.endI (I.ok.hd hc) he ⟨o, hgd, hx, hdt⟩ hi fun h' eb => ⟨rfl, I.turned (t' := s.toks) (fun b ob hb e => eb b ob hb e) f0 f1 f3 f4 f5⟩
  item := by
    rintro X rfl rfl rfl hc i pins s σ H E I hf ⟨ok, ov, he⟩ ⟨hd, hi⟩
    obtain ⟨f0, f1, f2, f3, f4, f5⟩ := hf it (List.mem_singleton.mpr rfl)
    obtain ⟨hs, hgd, hx, es', ep', hdt, hsz, ent⟩ := frz_tv I hd
    obtain ⟨rfl, rfl⟩ := dict_ep hod hdt
    obtain ⟨⟨k, v⟩, hkv⟩ : ∃ p, kvs[i]? = some p := ⟨kvs[i], List.getElem?_eq_getElem hi⟩
    obtain ⟨en, q, hen, hkey, hq, hval⟩ := ent i k v hkv
    rw [← hsz] at he
    have hi2 : i < es'.size := by rw [hsz]; exact hi
    have hen2 : es'[i] = en := Option.some.inj ((Array.getElem?_eq_getElem hi2).symm.trans hen)
    have hlt : it < s.heap.objs.size := Heap.lt_size he
    refine DT.nextI he ⟨o, hgd, hx, hdt⟩ hi2 fun h' ho hT hz hk => ?_
    rw [hen2, hkey] at ho hT
    refine ⟨_, rfl, wpAny_letOwnedTupleGo_items (s := { s with heap := h' }) ho fun h2 he2 sb => ?_⟩
    have hT2 : h2.get? s.heap.objs.size = some { cls := .type "tuple", data := .seq #[.ref q, en.val] } := (sb.2 _ (Nat.ne_of_gt hlt)).trans hT
    have ob : ObjOk X.prog X.w (upd H s.heap.objs.size (.tup [.ref q, v])) h2 s.heap.objs.size (.tup [.ref q, v]) := ⟨by show 2 ≤ sizeLine; decide, [.ref q, en.val], .cons rfl (.cons hval .nil), _, hT2, rfl, _, rfl⟩
    have I1 : Inv X pins σ (upd H s.heap.objs.size (.tup [.ref q, v])) { s with heap := h2 } :=
      I.turnedNew (t' := s.toks) (ch := [it]) (fun b ob hb e => (sb.2 b (fun z => hb (z ▸ List.mem_singleton.mpr rfl))).trans (hk b ob (fun z => hb (z ▸ List.mem_singleton.mpr rfl)) e)) hf (Nat.le_refl _) ob
    refine ⟨.ref s.heap.objs.size, _, I1, rfl, ⟨_, q, k, v, hkv, hq, rfl, I.hok.fresh (Nat.le_refl _), rfl⟩, ⟨.ref q, en.val, ?_⟩, fun b hb => ?_⟩
    · rw [← hsz]; exact he2
    · obtain rfl : b = it := List.mem_singleton.mp hb
      rw [upd_ne (Nat.ne_of_lt hlt)]
      exact f0
def iItemsT (td : TE) : TI := fun σ H R => td σ H fun x H1 => ∃ d o kvs, x = .ref d ∧ H1 d = some (.frz o (.dT kvs)) ∧ R (Itit d o kvs) H1
theorem pi_itemsT {X : Cx} {e : Expr} {td : TE} {apos cpos : Pos} {elts : List Expr} {kk : Nat} {tpos : Pos} (he : PE X e td) (hbase : attributeBase e "items" X.env (eval e X.env) = eval e X.env := by rfl) (hline : (apos.endLine == cpos.line) = true := by rfl) :
    PI X (.Tuple elts kk tpos) (.Call (.Attribute e "items" apos) [] [] cpos) (iItemsT td) := by
  constructor
  intro pins s σ H R I h
  refine wpAny_Call_method (T := "dict") (id := "dict.items") hbase rfl hline F.plainAttrs_dict F.slot_dict_items F.type_dict_items (thn (he.run pins s σ H _ I h) ?_)
  rintro u s1 ⟨_, H1, I1, rx, d, o, kvs, rfl, hd, q⟩
  obtain rfl : u = Value.ref d := rx
  obtain ⟨hs, hgd, hx, es, ep, hdt, hsz, ent⟩ := frz_tv I1 hd
  have raw : DT.Raw s1.heap d es ep := ⟨o, hgd, hx, hdt⟩
  refine ⟨raw.typeIs, fun b z => by cases z; exact ⟨o, hgd, hx.2.1⟩, ?_⟩
  have I2 : Inv X pins σ H1 { s1 with heap := s1.heap.push { cls := .type "dict_items", data := .fields #[.ref d] } } := I1.kept (t' := s1.toks) fun b ob q => Heap.get?_push_of_some _ q
  refine method_meetsIn F.slot_dict_items F.entry_dict_items rfl (PySem.evalArgs_none ⟨rfl, raw.typeIs, F.args_dict_items_1 _, _, DT.meetsItems (es := es) (ep := ep) hs, raw, ?_⟩)
  refine DT.iterI (d := d) ⟨_, Heap.get?_push_size _ rfl, rfl, rfl⟩ (raw.push _) (pi_one (tk := s1.toks) I2 _ (turn_itt _ hdt) ⟨.none, .none, ?_⟩ q)
  rw [← hsz]
  exact Heap.get?_push_size _ rfl
/-! ### del d[k], k a tuple -/
theorem meetsDelT {P : Program} {w : World} {d b : Addr} {k : List Key} :
    MeetsIn P w (Builtin.«dict.__delitem__» ⟨[.ref d, .ref b], []⟩) (fun A R s => ∃ xs, (tupleKind (mixKind P w)).room A.in1 ∧ (tupleKind (mixKind P w)).is s.heap k b ∧ s.heap.DictOfH (tupleKind (mixKind P w)) d xs ∧ xs.length ≤ sizeLine ∧ (atKey xs k).isSome = true ∧
      ∀ h' tk, h'.DictOfH (tupleKind (mixKind P w)) d (DT.dropH xs k) → Heap.SameBut d s.heap h' → R (.ok (.ret .none)) { s with heap := h', toks := tk }) := by
  refine .of_wp ?_
  rintro A R s ⟨xs, hu, hkey, hm, hsz, hsome, h⟩
  unfold Builtin.«dict.__delitem__»
  refine wpAny_bind ?_
  unfold Builtin.Dict.dictSlotArgs
  refine wpAny_bind (wpAny_notOrdered_dict hm.typeIs ?_)
  show wpAny _ _ (pure (Value.ref d, Value.ref b)) _ _ s
  refine wpAny_pure ?_
  show wpAny _ _ (Builtin.Dict.takeOut d (.ref b) >>= _) _ _ s
  refine wpAny_bind (DT.takeH hu hkey hm hsz (fun e => ?_) fun p e hp hev h' hm' hs' => ?_)
  · rw [e] at hsome; cases hsome
  · refine wpAny_bind (wpAny_letGo (wpAny_pure ⟨.none, rfl, h h' _ hm' hs'⟩))
def DelX (x y : V) (H2 : Hp) (R : Hp → Prop) : Prop := ∃ a kvs k b, x = .ref a ∧ y = .ref b ∧ H2 a = some (.dT kvs) ∧ H2 b = some (.tup (k.map kV)) ∧ (valV kvs k).isSome = true ∧ R (upd H2 a (.dT (dropK kvs k)))
def sDelT (td ty : TE) : TS := fun D σ H => td σ H fun x H1 => ty σ H1 fun y H2 => DelX x y H2 (D.nx σ)
theorem ps_delT {X : Cx} {o i : Expr} {td ty : TE} {tpos pos : Pos} (hu : X.A.units + 1 < cLine) (ho : PE X o td) (hi : PE X i ty) : PS X (.Delete [.Subscript o i tpos] pos) (sDelT td ty) := by
  constructor
  intro pins s σ H D I h
  refine wpAny_Delete (wpAny_deleteEach_cons (wpAny_delete_Subscript (thn (ho.run pins s σ H _ I h) ?_)))
  rintro u s1 ⟨x, H1, I1, rx, q1⟩
  refine thn (hi.run pins s1 σ H1 _ I1 q1) ?_
  rintro iv s2 ⟨y, H2, I2, ry, a, kvs, k, b, rfl, rfl, e, eb, l, q2⟩
  obtain rfl : u = Value.ref a := rx
  obtain rfl : iv = Value.ref b := ry
  obtain ⟨z, hd, xs, rel, dd⟩ := dt_of I2.hok e
  have r := rel.val k
  have there : (atKey xs k).isSome = true := by
    cases ev : valV kvs k with
    | none => rw [ev] at l; cases l
    | some v0 =>
      rw [ev] at r
      cases ea : atKey xs k with
      | none => rw [ea] at r; exact (show False from r).elim
      | some p => rfl
  refine wpAny_delItem_slot dd.typeIs (by decide) PySem.F.slot_dict_delitem
    (call_meetsIn PySem.F.slot_dict_delitem dd.typeIs PySem.F.entry_dict_delitem (PySem.F.args_dict_delitem_2 _ _) (meetsDelT (k := k))
      ⟨xs, tupleKind_room_in1 hu, key_of I2.hok eb, dd, by rw [← Paired.length rel]; exact z, there, fun h' tk dd' hs => ?_⟩)
  obtain ⟨q, es, ep, hq, g2, g3, g4, _, g5⟩ := dd'
  have I3 : Inv X pins σ (upd H2 a (.dT (dropK kvs k))) { s2 with heap := h', toks := tk } := d_write I2 (by rw [e]; exact True.intro) hs ⟨q, hq⟩ ⟨Nat.le_trans (dropK_le kvs k) z, hd, _, (DX.KT_drop k rel).keeps (fun c ys ec => by
    rw [upd_ne (ne_of ec e (fun z => nomatch z))]
    exact ec), q, es, ep, hq, g2, g3, g4, g5⟩
  exact wpAny_deleteEach_nil ⟨σ, _, I3, q2⟩
/-! ### comprehensions that only read, over anything that is walked -/
def NoT (M : Hp) : Prop := ∀ a xs, M a ≠ some (.tup xs)
theorem NoT.emp : NoT (fun _ => none) := fun _ _ e => nomatch e
theorem NoT.upd {M : Hp} {a : Addr} {o : HO} (h : NoT M) (ho : ∀ xs, o ≠ .tup xs) : NoT (upd M a o) := fun b xs e => by
  by_cases q : b = a
  · subst q; rw [upd_same] at e; exact ho xs (Option.some.inj e)
  · rw [upd_ne q] at e; exact h b xs e
theorem NoT.updL {M : Hp} {a : Addr} {x : List V} (h : NoT M) : NoT (L2.upd M a (.lst x)) := h.upd fun _ z => nomatch z
theorem NoT.updK {M : Hp} {a : Addr} {x : List (Key × V)} (h : NoT M) : NoT (L2.upd M a (.dK x)) := h.upd fun _ z => nomatch z
theorem NoT.updT {M : Hp} {a : Addr} {x : List (List Key × V)} (h : NoT M) : NoT (L2.upd M a (.dT x)) := h.upd fun _ z => nomatch z
theorem NoT.updI {M : Hp} {a C dx : Addr} {x : List (Str × V)} (h : NoT M) : NoT (L2.upd M a (.ins C dx x)) := h.upd fun _ z => nomatch z
theorem NoT.updF {M : Hp} {a : Addr} {o : Obj} {u : HO} (h : NoT M) : NoT (L2.upd M a (.frz o u)) := h.upd fun _ z => nomatch z
theorem NoT.ag {M M' : Hp} {p : Addr} {o : HO} (h : NoT M) (a : Ag p M M') (e : M' p = some o) (ho : ∀ xs, o ≠ .tup xs) : NoT M' := fun b xs e2 => by
  by_cases q : b = p
  · subst q; rw [e] at e2; exact ho xs (Option.some.inj e2)
  · rw [a b q] at e2; exact h b xs e2
theorem J.adopt {M G H : Hp} {q : Addr} {xs : List V} (j : J M G H) (n : NoT M) (h : H q = some (.tup xs)) : ∃ G', J M G' H ∧ Ex G G' ∧ G' q = some (.tup xs) := by
  cases e : G q with
  | some o =>
    have := j.g q o e
    rw [h] at this
    exact ⟨G, j, Same.refl G, by rw [e, this]⟩
  | none =>
    refine ⟨upd G q (.tup xs), ⟨j.m, fun a u e2 => ?_, fun a u e2 => ?_⟩, Ex.new e, upd_same⟩
    · by_cases z : a = q
      · subst z; rw [upd_same] at e2; rw [← e2]; exact h
      · rw [upd_ne z] at e2; exact j.g a u e2
    · by_cases z : a = q
      · subst z
        have := j.m a u e2
        rw [h] at this
        rw [← Option.some.inj this] at e2
        exact (n _ _ e2).elim
      · rw [upd_ne z]; exact j.d a u e2
section
variable {K : PySem.W.Frag} {M G H : Hp} {σ : L2.St} {Q : VK} {g : TG} {tt : TT} {te tl td : TE} {vs : List Nat} {J' : It} {n : Nat} {GG : Hp → Prop} {Y : Nat → Hp → V → Hp → Prop} {R : Nat → List V → Hp → Prop} {L a d : Addr} {k : Nat} {acc xs : List V} {y : V}
def RoI (M G : Hp) (R : Nat → List V → Hp → Prop) (L : Addr) (k : Nat) (H : Hp) : Prop := ∃ acc G1, J (upd M L (.lst acc)) G1 H ∧ Ex G G1 ∧ R k acc G1
def RoAdd (M G : Hp) (R : Nat → List V → Hp → Prop) (L : Addr) (k : Nat) : VK := fun y H5 => ∃ acc', H5 L = some (.lst acc') ∧ acc'.length < sizeLine ∧ RoI M G R L k (upd H5 L (.lst (acc' ++ [y])))
theorem ro_add {G2 H5 : Hp} (j : J (upd M L (.lst acc)) G2 H5) (e : Ex G G2) (z : acc.length < 1000000) (r : R k (acc ++ [y]) G2) : RoAdd M G R L k y H5 :=
  ⟨acc, j.m _ _ upd_same, sz_lt z, acc ++ [y], G2, by have := j.put (o' := .lst (acc ++ [y])) upd_same; rw [upd_upd] at this; exact this, e, r⟩
theorem ro_skip {G2 H5 : Hp} (j : J (upd M L (.lst acc)) G2 H5) (e : Ex G G2) (r : R k acc G2) : RoI M G R L k H5 := ⟨acc, G2, j, e, r⟩
theorem lcd_ro (w : Walk J' n GG Y) (j : J M G H) (R : Nat → List V → Hp → Prop) (h0 : R 0 [] G) (hG : ∀ H1, Same M H1 → Same G H1 → GG H1)
    (hs : ∀ L i x acc G1 H1 H2, i < n → M L = none → J (upd M L (.lst acc)) G1 H1 → Ex G G1 → R i acc G1 → Y i H1 x H2 → g x (wipe σ vs) H2 fun σ2 H3 => wipe σ2 vs = wipe σ vs ∧ tt σ2 H3 fun b H4 => if b = true then te σ2 H4 (RoAdd M G R L (i + 1)) else RoI M G R L (i + 1) H4)
    (hd : ∀ L acc G1 G2 H1, J M G2 H1 → Ex G G1 → Ex G1 G2 → G2 L = some (.lst acc) → R n acc G1 → Q (.ref L) H1) : LcD J' g tt te vs σ H Q := fun L hL => by
  have nM := j.freeM hL
  have nG := j.freeG hL
  refine lc_it w (fun i H => RoI M G R L i H) ⟨[], G, j.newM hL, Same.refl G, h0⟩ (fun i H1 _ p => ?_) (fun i x H1 H2 hi p y => ?_) (fun H1 p => ?_)
  · obtain ⟨acc, G1, j1, e1, _⟩ := p
    exact hG H1 (fun b u e => j1.m b u (upd_ne' e (ne_of_none e nM))) (e1.trans j1.g)
  · obtain ⟨acc, G1, j1, e1, r⟩ := p
    exact hs L i x acc G1 H1 H2 hi nM j1 e1 r y
  · obtain ⟨acc, G1, j1, e1, r⟩ := p
    exact hd L acc G1 _ H1 (j1.freeze nM) e1 (Ex.new j1.freezeG) upd_same r
/-- over a tuple -/
def LcT (K : PySem.W.Frag) (g : TG) (tt : TT) (te : TE) (vs : List Nat) (σ : L2.St) (x : V) (H1 : Hp) (Q : VK) : Prop := ∃ a, x = .ref a ∧ (∃ xs, SqT K H1 a xs) ∧ LcD (Itt K a) g tt te vs σ H1 Q
theorem w_lcT (h : tl σ H fun x H1 => LcT K g tt te vs σ x H1 Q) : tLc (iTup K tl) g tt te vs σ H Q := h
theorem w_lcTro (j : J M G H) (hx : SqT K G a xs) (R : Nat → List V → Hp → Prop) (h0 : R 0 [] G)
    (hs : ∀ L i x acc G1 H1, xs[i]? = some x → M L = none → J (upd M L (.lst acc)) G1 H1 → Ex G G1 → R i acc G1 → g x (wipe σ vs) H1 fun σ2 H3 => wipe σ2 vs = wipe σ vs ∧ tt σ2 H3 fun b H4 => if b = true then te σ2 H4 (RoAdd M G R L (i + 1)) else RoI M G R L (i + 1) H4)
    (hd : ∀ L acc G1 G2 H1, J M G2 H1 → Ex G G1 → Ex G1 G2 → G2 L = some (.lst acc) → R xs.length acc G1 → Q (.ref L) H1) : LcT K g tt te vs σ (.ref a) H Q :=
  ⟨a, rfl, ⟨xs, st_mono j.g hx⟩, lcd_ro walk_tup j R h0 (fun H1 _ e => st_mono e hx) (fun L i x acc G1 H1 H2 _ nM j1 e1 r y => by obtain ⟨rfl, hy⟩ := y; exact hs L i x acc G1 _ hy nM j1 e1 r) hd⟩
/-- over a list that stands -/
theorem w_lcLro (j : J M G H) (hx : SqL K G a xs) (R : Nat → List V → Hp → Prop) (h0 : R 0 [] G)
    (hs : ∀ L i x acc G1 H1, xs[i]? = some x → M L = none → J (upd M L (.lst acc)) G1 H1 → Ex G G1 → R i acc G1 → g x (wipe σ vs) H1 fun σ2 H3 => wipe σ2 vs = wipe σ vs ∧ tt σ2 H3 fun b H4 => if b = true then te σ2 H4 (RoAdd M G R L (i + 1)) else RoI M G R L (i + 1) H4)
    (hd : ∀ L acc G1 G2 H1, J M G2 H1 → Ex G G1 → Ex G1 G2 → G2 L = some (.lst acc) → R xs.length acc G1 → Q (.ref L) H1) : LcL K g tt te vs σ (.ref a) H Q :=
  ⟨a, rfl, ⟨xs, sl_mono j.g hx⟩, lcd_ro walk_list j R h0 (fun H1 _ e => sl_mono e hx) (fun L i x acc G1 H1 H2 _ nM j1 e1 r y => by obtain ⟨rfl, hy⟩ := y; exact hs L i x acc G1 _ hy nM j1 e1 r) hd⟩
/-- over the pairs of a locked dict with tuple keys -/
def LcIT (g : TG) (tt : TT) (te : TE) (vs : List Nat) (σ : L2.St) (x : V) (H1 : Hp) (Q : VK) : Prop := ∃ d o kvs, x = .ref d ∧ H1 d = some (.frz o (.dT kvs)) ∧ LcD (Itit d o kvs) g tt te vs σ H1 Q
theorem w_lcIT (h : td σ H fun x H1 => LcIT g tt te vs σ x H1 Q) : tLc (iItemsT td) g tt te vs σ H Q := h
theorem walk_itt {o : Obj} {kvs : List (List Key × V)} : Walk (Itit d o kvs) kvs.length (fun H => H d = some (.frz o (.dT kvs))) (fun i H x H' => ∃ (T q : Addr) (k : List Key) (v : V), kvs[i]? = some (k, v) ∧ H q = some (.tup (k.map kV)) ∧ x = .ref T ∧ H T = none ∧ H' = upd H T (.tup [.ref q, v])) :=
  ⟨fun _ _ hi q => ⟨q, hi⟩, fun _ q => ⟨q, Nat.le_refl _⟩, fun _ _ _ _ _ _ y => y⟩
theorem w_lcITro {o : Obj} {kvs : List (List Key × V)} (j : J M G H) (nt : NoT M) (hx : M d = some (.frz o (.dT kvs))) (R : Nat → List V → Hp → Prop) (h0 : R 0 [] G)
    (hs : ∀ L i T q k v acc G1 G2 H1, kvs[i]? = some (k, v) → M L = none → J (upd M L (.lst acc)) G2 H1 → Ex G G1 → Ex G1 G2 → R i acc G1 → G2 T = some (.tup [.ref q, v]) → G2 q = some (.tup (k.map kV)) → g (.ref T) (wipe σ vs) H1 fun σ2 H3 => wipe σ2 vs = wipe σ vs ∧ tt σ2 H3 fun b H4 => if b = true then te σ2 H4 (RoAdd M G R L (i + 1)) else RoI M G R L (i + 1) H4)
    (hd : ∀ L acc G1 G2 H1, J M G2 H1 → Ex G G1 → Ex G1 G2 → G2 L = some (.lst acc) → R kvs.length acc G1 → Q (.ref L) H1) : LcIT g tt te vs σ (.ref d) H Q := by
  refine ⟨d, o, kvs, rfl, j.m _ _ hx, lcd_ro walk_itt j R h0 (fun H1 e _ => e _ _ hx) (fun L i x acc G1 H1 H2 _ nM j1 e1 r y => ?_) hd⟩
  obtain ⟨T, q, k, v, hkv, hq, rfl, hT, rfl⟩ := y
  obtain ⟨G2, j2, e2, hq2⟩ := j1.adopt (nt.upd fun _ z => nomatch z) hq
  have j3 := j2.newG (o := .tup [.ref q, v]) hT
  have e3 : Ex G2 (upd G2 T (.tup [.ref q, v])) := Ex.new (j2.freeG hT)
  exact hs L i T q k v acc G1 _ _ hkv nM j3 e1 (e2.trans e3) r upd_same (e3 _ _ hq2)
/-- over the pairs of a locked dict with plain keys -/
def LcIK (g : TG) (tt : TT) (te : TE) (vs : List Nat) (σ : L2.St) (x : V) (H1 : Hp) (Q : VK) : Prop := ∃ d o kvs, x = .ref d ∧ H1 d = some (.frz o (.dK kvs)) ∧ LcD (Iti d o kvs) g tt te vs σ H1 Q
theorem w_lcIK (h : td σ H fun x H1 => LcIK g tt te vs σ x H1 Q) : tLc (iItems td) g tt te vs σ H Q := h
/-- over the keys of a locked dict -/
def LcKy (g : TG) (tt : TT) (te : TE) (vs : List Nat) (σ : L2.St) (x : V) (H1 : Hp) (Q : VK) : Prop := ∃ d o, x = .ref d ∧ ((∃ kvs, H1 d = some (.frz o (.dK kvs)) ∧ LcD (Itk d o kvs) g tt te vs σ H1 Q) ∨ ∃ kvs, H1 d = some (.frz o (.dT kvs)) ∧ LcD (Itkt d o kvs) g tt te vs σ H1 Q)
theorem w_lcKy (h : td σ H fun x H1 => LcKy g tt te vs σ x H1 Q) : tLc (iKeys td) g tt te vs σ H Q := h
theorem w_lcKyTro {o : Obj} {kvs : List (List Key × V)} (j : J M G H) (nt : NoT M) (hx : M d = some (.frz o (.dT kvs))) (R : Nat → List V → Hp → Prop) (h0 : R 0 [] G)
    (hs : ∀ L i q k v acc G1 G2 H1, kvs[i]? = some (k, v) → M L = none → J (upd M L (.lst acc)) G2 H1 → Ex G G1 → Ex G1 G2 → R i acc G1 → G2 q = some (.tup (k.map kV)) → g (.ref q) (wipe σ vs) H1 fun σ2 H3 => wipe σ2 vs = wipe σ vs ∧ tt σ2 H3 fun b H4 => if b = true then te σ2 H4 (RoAdd M G R L (i + 1)) else RoI M G R L (i + 1) H4)
    (hd : ∀ L acc G1 G2 H1, J M G2 H1 → Ex G G1 → Ex G1 G2 → G2 L = some (.lst acc) → R kvs.length acc G1 → Q (.ref L) H1) : LcKy g tt te vs σ (.ref d) H Q := by
  refine ⟨d, o, rfl, .inr ⟨kvs, j.m _ _ hx, lcd_ro walk_keysT j R h0 (fun H1 e _ => e _ _ hx) (fun L i x acc G1 H1 H2 _ nM j1 e1 r y => ?_) hd⟩⟩
  obtain ⟨rfl, k, v, q, hkv, rfl, hq⟩ := y
  obtain ⟨G2, j2, e2, hq2⟩ := j1.adopt (nt.upd fun _ z => nomatch z) hq
  exact hs L i q k v acc G1 _ _ hkv nM j2 e1 e2 r hq2
/-! locks -/
theorem upd_back {M : Hp} {d : Addr} {o u : HO} (h : M d = some u) : upd (upd M d o) d u = M := by
  funext b
  by_cases q : b = d
  · subst q; rw [upd_same, h]
  · rw [upd_ne q, upd_ne q]
theorem w_lockS {t : TS} {D : Ends} {u : HO} (j : J M G H) (h : M d = some u) (mu : Mut (some u)) (k : ∀ od H1, J (upd M d (.frz od u)) G H1 →
      t ⟨fun σ' H' => H' d = some (.frz od u) ∧ D.nx σ' (upd H' d u), fun v H' => H' d = some (.frz od u) ∧ D.rt v (upd H' d u), fun σ' H' => H' d = some (.frz od u) ∧ D.bk σ' (upd H' d u), fun σ' H' => H' d = some (.frz od u) ∧ D.ct σ' (upd H' d u)⟩ σ H1) : tLock t D σ H :=
  ⟨d, u, j.m _ _ h, mu, fun od => k od _ (j.put h)⟩
theorem w_lockE {t : TE} {u : HO} (j : J M G H) (h : M d = some u) (mu : Mut (some u)) (k : ∀ od H1, J (upd M d (.frz od u)) G H1 → t σ H1 fun v H' => H' d = some (.frz od u) ∧ Q v (upd H' d u)) : tLockE t σ H Q :=
  ⟨d, u, j.m _ _ h, mu, fun od => k od _ (j.put h)⟩
theorem w_unlock {u : HO} {od : Obj} {A : Hp → Prop} (j : J (upd M d (.frz od u)) G H) (h : M d = some u) (k : ∀ H2, J M G H2 → A H2) : H d = some (.frz od u) ∧ A (upd H d u) :=
  ⟨j.m _ _ upd_same, k _ (by have := j.put (o' := u) upd_same; rw [upd_back h] at this; exact this)⟩
/-! two clauses, both over tuples -/
def Lc2T (K : PySem.W.Frag) (g : TG) (tt : TT) (wi1 : TI) (g1 : TG) (tt1 : TT) (te : TE) (vs vs1 : List Nat) (σ : L2.St) (x : V) (H1 : Hp) (Q : VK) : Prop := ∃ a, x = .ref a ∧ (∃ xs, SqT K H1 a xs) ∧ ∀ D, H1 D = none → ∃ W : Nat → Nat → Hp → Prop, (∃ m, W 0 m (upd H1 D (.lst []))) ∧ ∀ i m H, W i m H →
  ((Itt K a).stop i H ∧ Q (.ref D) H) ∨ ((Itt K a).go i H ∧ ∃ Nx : Hp → Prop, (∀ H', Nx H' → ∃ m', m' < m ∧ W (i + 1) m' H') ∧ ∀ x H', (Itt K a).yld i H x H' → g x (wipe σ vs) H' fun σ2 H2 => wipe σ2 vs = wipe σ vs ∧ tt σ2 H2 fun b H3 =>
    if b = true then wi1 σ2 H3 fun J1 H4 => ∃ W1 : Nat → Nat → Hp → Prop, (∃ m, W1 0 m H4) ∧ ∀ j k H, W1 j k H →
      (J1.stop j H ∧ Nx H) ∨ (J1.go j H ∧ ∃ Nx1 : Hp → Prop, (∀ H', Nx1 H' → ∃ k', k' < k ∧ W1 (j + 1) k' H') ∧ ∀ x H', J1.yld j H x H' → g1 x (wipe σ2 vs1) H' fun σ3 H5 => wipe σ3 vs1 = wipe σ2 vs1 ∧ tt1 σ3 H5 fun b H6 =>
        if b = true then te σ3 H6 fun y H7 => ∃ acc, H7 D = some (.lst acc) ∧ acc.length < sizeLine ∧ Nx1 (upd H7 D (.lst (acc ++ [y]))) else Nx1 H6)
    else Nx H3)
theorem w_lc2T {wi1 : TI} {g1 : TG} {tt1 : TT} {vs1 : List Nat} (h : tl σ H fun x H1 => Lc2T K g tt wi1 g1 tt1 te vs vs1 σ x H1 Q) : tLc2 (iTup K tl) g tt wi1 g1 tt1 te vs vs1 σ H Q := h
/-- the second one's turns -/
def In2 (K : PySem.W.Frag) (g1 : TG) (tt1 : TT) (te : TE) (vs1 : List Nat) (M G : Hp) (R : Nat → List V → Hp → Prop) (L : Addr) (i : Nat) (σ2 : L2.St) (x : V) (H4 : Hp) : Prop := ∃ b, x = .ref b ∧ (∃ ys, SqT K H4 b ys) ∧ ∃ W1 : Nat → Nat → Hp → Prop, (∃ m, W1 0 m H4) ∧ ∀ j k H, W1 j k H →
  ((Itt K b).stop j H ∧ RoI M G R L (i + 1) H) ∨ ((Itt K b).go j H ∧ ∃ Nx1 : Hp → Prop, (∀ H', Nx1 H' → ∃ k', k' < k ∧ W1 (j + 1) k' H') ∧ ∀ x H', (Itt K b).yld j H x H' → g1 x (wipe σ2 vs1) H' fun σ3 H5 => wipe σ3 vs1 = wipe σ2 vs1 ∧ tt1 σ3 H5 fun b H6 =>
    if b = true then te σ3 H6 fun y H7 => ∃ acc, H7 L = some (.lst acc) ∧ acc.length < sizeLine ∧ Nx1 (upd H7 L (.lst (acc ++ [y]))) else Nx1 H6)
theorem w_lc2Tro {td1 : TE} {g1 : TG} {tt1 : TT} {vs1 : List Nat} (j : J M G H) (hx : SqT K G a xs) (R : Nat → List V → Hp → Prop) (h0 : R 0 [] G)
    (hs : ∀ L i x acc G1 H1, xs[i]? = some x → M L = none → J (upd M L (.lst acc)) G1 H1 → Ex G G1 → R i acc G1 → g x (wipe σ vs) H1 fun σ2 H3 => wipe σ2 vs = wipe σ vs ∧ tt σ2 H3 fun b H4 => if b = true then td1 σ2 H4 (In2 K g1 tt1 te vs1 M G R L i σ2) else RoI M G R L (i + 1) H4)
    (hd : ∀ L acc G1 G2 H1, J M G2 H1 → Ex G G1 → Ex G1 G2 → G2 L = some (.lst acc) → R xs.length acc G1 → Q (.ref L) H1) : Lc2T K g tt (iTup K td1) g1 tt1 te vs vs1 σ (.ref a) H Q := by
  refine ⟨a, rfl, ⟨xs, st_mono j.g hx⟩, fun L hL => ⟨fun i m H1 => m = xs.length - i ∧ i ≤ xs.length ∧ RoI M G R L i H1, ⟨_, rfl, Nat.zero_le _, [], G, j.newM hL, Same.refl G, h0⟩, ?_⟩⟩
  have nM := j.freeM hL
  rintro i m H1 ⟨rfl, hi, acc, G1, j1, e1, r⟩
  have q1 : SqT K H1 a xs := st_mono (e1.trans j1.g) hx
  by_cases hlt : i < xs.length
  · refine .inr ⟨⟨xs, xs[i], q1, by simp [hlt]⟩, RoI M G R L (i + 1), fun H' p' => ⟨xs.length - (i + 1), by omega, rfl, hlt, p'⟩, fun x H2 y => ?_⟩
    obtain ⟨rfl, hy⟩ := y
    exact hs L i x acc G1 _ (hy xs q1) nM j1 e1 r
  · have e : i = xs.length := by omega
    subst e
    exact .inl ⟨⟨xs, q1, Nat.le_refl _⟩, hd L acc G1 _ H1 (j1.freeze nM) e1 (Ex.new j1.freezeG) upd_same r⟩
theorem w_in2 {g1 : TG} {tt1 : TT} {vs1 : List Nat} {G1 : Hp} {b : Addr} {ys : List V} {i : Nat} {σ2 : L2.St} (j : J (upd M L (.lst acc)) G1 H) (e : Ex G G1) (hy : SqT K G1 b ys) (R1 : Nat → List V → Hp → Prop) (h0 : R1 0 acc G1)
    (hs : ∀ k y acc G2 H1, ys[k]? = some y → J (upd M L (.lst acc)) G2 H1 → Ex G1 G2 → R1 k acc G2 → g1 y (wipe σ2 vs1) H1 fun σ3 H5 => wipe σ3 vs1 = wipe σ2 vs1 ∧ tt1 σ3 H5 fun b H6 => if b = true then te σ3 H6 (RoAdd M G1 R1 L (k + 1)) else RoI M G1 R1 L (k + 1) H6)
    (hd : ∀ acc G2, Ex G1 G2 → R1 ys.length acc G2 → R (i + 1) acc G2) : In2 K g1 tt1 te vs1 M G R L i σ2 (.ref b) H := by
  refine ⟨b, rfl, ⟨ys, st_mono j.g hy⟩, fun k m H1 => m = ys.length - k ∧ k ≤ ys.length ∧ RoI M G1 R1 L k H1, ⟨_, rfl, Nat.zero_le _, acc, G1, j, Same.refl G1, h0⟩, ?_⟩
  rintro k m H1 ⟨rfl, hk, acc2, G2, j2, e2, r⟩
  have q1 : SqT K H1 b ys := st_mono (e2.trans j2.g) hy
  by_cases hlt : k < ys.length
  · refine .inr ⟨⟨ys, ys[k], q1, by simp [hlt]⟩, RoI M G1 R1 L (k + 1), fun H' p' => ⟨ys.length - (k + 1), by omega, rfl, hlt, p'⟩, fun x H2 y => ?_⟩
    obtain ⟨rfl, hy2⟩ := y
    exact hs k x acc2 G2 _ (hy2 ys q1) j2 e2 r
  · have e3 : k = ys.length := by omega
    subst e3
    exact .inl ⟨⟨ys, q1, Nat.le_refl _⟩, acc2, G2, j2, e.trans e2, hd acc2 G2 e2 r⟩
end
/-! ### words over lists of truth values, pairs, versions -/
theorem bt_any : bootBuiltins "any" = some (.builtin "any") := by decide +kernel
theorem bt_all : bootBuiltins "all" = some (.builtin "all") := by decide +kernel
section
variable {X : Cx} {K : PySem.W.Frag}
theorem call_anyK (h : X.K = K) (hc : X.calm = true) : CallR X (.builtin "any") (rAny K) := h ▸ cr_any hc
theorem call_allK (h : X.K = K) (hc : X.calm = true) : CallR X (.builtin "all") (rAll K) := h ▸ cr_all hc
theorem call_minNPK (h : X.K = K) (hc : X.calm = true) (hu : X.A.units + 64 < cLine) : CallR X (.builtin "min") (MinNP K) := h ▸ call_minNP hc hu
theorem call_sortTVK (h : X.K = K) (hu : X.A.units + 64 < cLine) : CallR X (.builtin "sorted") (SortTV K) := h ▸ call_sortTV hu
end
section
variable {K : PySem.W.Frag} {M G H : Hp} {Q : VK} {a q : Addr} {σ : L2.St}
theorem w_any {bs : List Bool} (j : J M G H) (h : SqL K G a (bs.map V.bl)) (k : Q (.bl (bs.any id)) H) : rAny K [.ref a] H Q := ⟨a, bs, rfl, sl_mono j.g h, k⟩
theorem w_all {bs : List Bool} (j : J M G H) (h : SqL K G a (bs.map V.bl)) (k : Q (.bl (bs.all id)) H) : rAll K [.ref a] H Q := ⟨a, bs, rfl, sl_mono j.g h, k⟩
def AtG (G : Hp) (qs : List Addr) (ds : List (List Int)) : Prop := Paired (fun q d => G q = some (.tup (d.map V.int))) qs ds
/-- tuples that the heap holds are taken in -/
theorem adoptAll {α : Type} {f : α → List V} : ∀ {qs : List Addr} {ds : List α} {M G H : Hp}, J M G H → NoT M → Paired (fun q d => H q = some (.tup (f d))) qs ds → ∃ G', J M G' H ∧ Ex G G' ∧ Paired (fun q d => G' q = some (.tup (f d))) qs ds
  | _, _, _, G, _, j, _, .nil => ⟨G, j, Same.refl G, .nil⟩
  | _, _, _, _, _, j, n, .cons h t => by
    obtain ⟨G1, j1, e1, p1⟩ := adoptAll j n t
    obtain ⟨G2, j2, e2, p2⟩ := j1.adopt n h
    exact ⟨G2, j2, e1.trans e2, .cons p2 (L2.Paired.mapP p1 fun _ _ h => e2 _ _ h)⟩
theorem w_sortDT {kvs : List (List Key × V)} {ds : List (List Int)} (j : J M G H) (nt : NoT M) (h : M a = some (.dT kvs)) (e : kvs.map (·.1) = ds.map ky) (hn : ∀ d ∈ ds, d ≠ []) (z : ds.length ≤ 1000000)
    (k : ∀ qs p G' H', J M G' H' → Ex G G' → G' p = some (.lst (qs.map V.ref)) → AtG G' qs (srt ds) → Q (.ref p) H') : SortDT [.ref a] H Q :=
  ⟨a, kvs, ds, rfl, .inl (j.m _ _ h), e, hn, z, fun qs p hq hp => by
    obtain ⟨G1, j1, e1, p1⟩ := adoptAll (f := fun d : List Int => d.map V.int) j nt hq
    have hp1 := j1.freeG hp
    exact k qs p _ _ (j1.newG hp) (e1.trans (Ex.new hp1)) upd_same (L2.Paired.mapP p1 fun _ _ h => Ex.new hp1 _ _ h)⟩
theorem w_minNP {ts : List Addr} {ps : List (Int × List Int)} (j : J M G H) (h : SqL K G a (ts.map V.ref)) (hp : Paired (NpAt G) ts ps) (hn : ps ≠ []) (z : ps.length ≤ 1000000)
    (k : ∀ (i : Nat) t p, ts[i]? = some t → ps[i]? = some p → NpAt G t p → (∀ y ∈ ps, leP p y) → Q (.ref t) H) : MinNP K [.ref a] H Q :=
  ⟨a, ts, ps, rfl, sl_mono j.g h, L2.Paired.mapP hp fun _ _ ⟨q, h1, h2⟩ => ⟨q, j.g _ _ h1, j.g _ _ h2⟩, hn, z, fun i t p ht hm hl => k i t p ht hm (paired_mem hp (t, p) (List.mem_iff_getElem?.mpr ⟨i, List.getElem?_zip_eq_some.mpr ⟨ht, hm⟩⟩)) hl⟩
theorem w_sortTV {ts : List Addr} {ps : List (Int × Option Int)} (j : J M G H) (nt : NoT M) (h : SqL K G a (ts.map V.ref)) (hp : Paired (TvAt G) ts ps) (hn : (ps.map (·.1)).Nodup) (z : ps.length ≤ 1000000)
    (k : ∀ ts' p G' H', J M G' H' → Ex G G' → G' p = some (.lst (ts'.map V.ref)) → Paired (TvAt G') ts' (srtT ps) → Q (.ref p) H') : SortTV K [.ref a] H Q :=
  ⟨a, ts, ps, rfl, sl_mono j.g h, L2.Paired.mapP hp fun _ _ h => j.g _ _ h, hn, z, fun ts' p hq hp => by
    obtain ⟨G1, j1, e1, p1⟩ := adoptAll (f := fun p : Int × Option Int => [V.int p.1, ovV p.2]) j nt hq
    have hp1 := j1.freeG hp
    exact k ts' p _ _ (j1.newG hp) (e1.trans (Ex.new hp1)) upd_same (L2.Paired.mapP p1 fun _ _ h => Ex.new hp1 _ _ h)⟩
end

theorem w_dnewT {σ : L2.St} {H : Hp} {Q : VK} (h : NewO (.dT []) 0 H Q) : tDNewT σ H Q := h.2
theorem upd_pre {M : Hp} {p r : Addr} {o1 o2 o3 : HO} (h : p ≠ r) : upd (upd (upd M p o1) r o2) p o3 = upd (upd M r o2) p o3 := by
  funext a
  by_cases q : a = p
  · rw [q, upd_same, upd_same]
  · rw [upd_ne q, upd_ne q]
    by_cases q2 : a = r
    · rw [q2, upd_same, upd_same]
    · rw [upd_ne q2, upd_ne q2, upd_ne q]
theorem none_upd {M : Hp} {a b : Addr} {o : HO} (h : upd M a o b = none) : b ≠ a ∧ M b = none := by
  by_cases q : b = a
  · subst q; rw [upd_same] at h; cases h
  · rw [upd_ne q] at h; exact ⟨q, h⟩
local macro_rules
  | `(tactic| walk_at "v") => `(tactic| first
    | with_reducible refine w_dnewT ?_
    | with_reducible refine w_yes ?_
    | with_reducible refine w_lcT ?_
    | with_reducible refine w_lcIT ?_
    | with_reducible refine w_lcIK ?_
    | with_reducible refine w_lcKy ?_
    | with_reducible refine w_lc2T ?_)
/-! ### are_same: data without truth values, any other data -/
theorem ps_no {X : Cx} {st : Stmt} : PS X st (fun _ _ _ => False) := ⟨fun _ _ _ _ _ _ h => h.elim⟩
theorem tk1 {α : Type} {l : List α} {i : Nat} {x : α} (h : l[i]? = some x) : l.take (i + 1) = l.take i ++ [x] := by rw [List.take_add_one, h]; rfl
theorem w_cont {D : Ends} {σ : L2.St} {H : Hp} (h : D.ct σ H) : tCont D σ H := h
def okM : Nat → PyData → Prop
  | _, .none => True
  | _, .bool _ => False
  | _, .int _ => True
  | _, .str _ => True
  | 0, .list _ => False
  | 0, .tuple _ => False
  | n + 1, .list xs => xs.length ≤ 100000 ∧ ∀ x ∈ xs, okM n x
  | n + 1, .tuple xs => xs.length ≤ 100000 ∧ ∀ x ∈ xs, okM n x
  | _, .dict _ => False
def Sq2 (K : PySem.W.Frag) (G : Hp) (a b : Addr) (xs ys : List V) : Prop := (SqL K G a xs ∧ SqL K G b ys) ∨ (SqT K G a xs ∧ SqT K G b ys)
def spAllS1 (K : PySem.W.Frag) (n : Nat) : Sp := Sg (α := Addr × Addr × (List V × List V) × (List PyData × List PyData)) (fun x vs M G => vs = [.ref x.1, .ref x.2.1] ∧ Sq2 K G x.1 x.2.1 x.2.2.1.1 x.2.2.1.2 ∧ DpAll K G x.2.2.1.1 x.2.2.2.1 ∧ DpAll K G x.2.2.1.2 x.2.2.2.2 ∧ x.2.2.2.1.length ≤ 100000 ∧ ∀ d ∈ x.2.2.2.1, okM n d)
      (fun x M _ v M' _ => ∃ b, v = .bl b ∧ (b = true ↔ x.2.2.2.1 = x.2.2.2.2) ∧ M' = M)
def spAllS (K : PySem.W.Frag) : Nat → Sp
  | 0 => spNo
  | n + 1 => spAllS1 K n
def spSame (K : PySem.W.Frag) (n : Nat) : Sp := Sg (α := V × V × PyData × PyData) (fun x vs M G => vs = [x.1, x.2.1] ∧ Dp K G x.1 x.2.2.1 ∧ Dp K G x.2.1 x.2.2.2 ∧ okM n x.2.2.1) (fun x M _ v M' _ => ∃ b, v = .bl b ∧ (b = true ↔ x.2.2.1 = x.2.2.2) ∧ M' = M)
theorem use_same {K : PySem.W.Frag} {n : Nat} {M G H : Hp} {x y : V} {d e : PyData} {Q : VK} {E : XK} (j : J M G H) (h1 : Dp K G x d) (h2 : Dp K G y e) (h3 : okM n d) (k : ∀ b G' H', (b = true ↔ d = e) → J M G' H' → Ex G G' → Q (.bl b) H') : spSame K n ([x, y] ++ []) H Q E :=
  w_sg (x, y, d, e) j ⟨rfl, h1, h2, h3⟩ fun v M' G' H' j' e ⟨b, ev, eb, em⟩ => by subst ev em; exact k b G' H' eb j' e
theorem use_alls {K : PySem.W.Frag} {n : Nat} {M G H : Hp} {a b : Addr} {xs ys : List V} {ds es : List PyData} {Q : VK} {E : XK} (j : J M G H) (h1 : Sq2 K G a b xs ys) (h3 : DpAll K G xs ds) (h4 : DpAll K G ys es) (h5 : ds.length ≤ 100000) (h6 : ∀ d ∈ ds, okM n d)
    (k : ∀ b G' H', (b = true ↔ ds = es) → J M G' H' → Ex G G' → Q (.bl b) H') : spAllS K (n + 1) ([.ref a, .ref b] ++ []) H Q E := by
  show spAllS1 K n _ H Q E
  exact w_sg (a, b, (xs, ys), (ds, es)) j ⟨rfl, h1, h3, h4, h5, h6⟩ fun v M' G' H' j' e ⟨b, ev, eb, em⟩ => by subst ev em; exact k b G' H' eb j' e
/-- a comprehension that reads two lists, or two tuples, side by side -/
def LcZ (K : PySem.W.Frag) (g : TG) (tt : TT) (te : TE) (vs : List Nat) (σ : L2.St) (ws : List V) (H1 : Hp) (Q : VK) : Prop := ∃ a b xs ys, ws = [.ref a, .ref b] ∧ ((SqL K H1 a xs ∧ SqL K H1 b ys ∧ LcD (Itz K a b) g tt te vs σ H1 Q) ∨ (SqT K H1 a xs ∧ SqT K H1 b ys ∧ LcD (RZ.ItzT K a b) g tt te vs σ H1 Q))
section
variable {K : PySem.W.Frag} {M G H : Hp} {σ : L2.St} {Q : VK} {g : TG} {tt : TT} {te : TE} {ta : TA} {vs : List Nat} {a b : Addr} {xs ys : List V}
theorem w_lcZ (h : ta σ H fun ws H1 => LcZ K g tt te vs σ ws H1 Q) : tLc (RZ.iZipA K ta) g tt te vs σ H Q := h
def YZ (xs ys : List V) (i : Nat) (H : Hp) (v : V) (H' : Hp) : Prop := ∃ T x y, xs[i]? = some x ∧ ys[i]? = some y ∧ v = .ref T ∧ H T = none ∧ H' = upd H T (.tup [x, y])
theorem walk_zL (l : xs.length = ys.length) : Walk (Itz K a b) xs.length (fun H => SqL K H a xs ∧ SqL K H b ys) (YZ xs ys) :=
  ⟨fun i _ hi q => ⟨xs, ys, xs[i], ys[i], q.1, q.2, by simp [hi], by simp [show i < ys.length by omega]⟩, fun _ q => ⟨xs, ys, q.1, q.2, .inl (Nat.le_refl _)⟩, fun i H v H' _ q y => by
    obtain ⟨T, x, y, rfl, hT, rfl, f1, f2⟩ := y
    exact ⟨T, x, y, f1 xs q.1, f2 ys q.2, rfl, hT, rfl⟩⟩
theorem walk_zT (l : xs.length = ys.length) : Walk (RZ.ItzT K a b) xs.length (fun H => SqT K H a xs ∧ SqT K H b ys) (YZ xs ys) :=
  ⟨fun i _ hi q => ⟨xs, ys, xs[i], ys[i], q.1, q.2, by simp [hi], by simp [show i < ys.length by omega]⟩, fun _ q => ⟨xs, ys, q.1, q.2, .inl (Nat.le_refl _)⟩, fun i H v H' _ q y => by
    obtain ⟨T, x, y, rfl, hT, rfl, f1, f2⟩ := y
    exact ⟨T, x, y, f1 xs q.1, f2 ys q.2, rfl, hT, rfl⟩⟩
theorem w_lcZro (j : J M G H) (hx : Sq2 K G a b xs ys) (l : xs.length = ys.length) (R : Nat → List V → Hp → Prop) (h0 : R 0 [] G) (mo : ∀ i acc G1 G2, Ex G1 G2 → R i acc G1 → R i acc G2)
    (hs : ∀ L i T x y acc G1 H1, xs[i]? = some x → ys[i]? = some y → M L = none → J (upd M L (.lst acc)) G1 H1 → Ex G G1 → R i acc G1 → G1 T = some (.tup [x, y]) → g (.ref T) (wipe σ vs) H1 fun σ2 H3 => wipe σ2 vs = wipe σ vs ∧ tt σ2 H3 fun b H4 => if b = true then te σ2 H4 (RoAdd M G R L (i + 1)) else RoI M G R L (i + 1) H4)
    (hd : ∀ L acc G1 G2 H1, J M G2 H1 → Ex G G1 → Ex G1 G2 → G2 L = some (.lst acc) → R xs.length acc G1 → Q (.ref L) H1) : LcZ K g tt te vs σ [.ref a, .ref b] H Q := by
  have turn : ∀ L i x acc G1 H1 H2, i < xs.length → M L = none → J (upd M L (.lst acc)) G1 H1 → Ex G G1 → R i acc G1 → YZ xs ys i H1 x H2 → g x (wipe σ vs) H2 fun σ2 H3 => wipe σ2 vs = wipe σ vs ∧ tt σ2 H3 fun b H4 => if b = true then te σ2 H4 (RoAdd M G R L (i + 1)) else RoI M G R L (i + 1) H4 := by
    rintro L i x acc G1 H1 H2 _ nM j1 e1 r ⟨T, u, v, hu, hv, rfl, hT, rfl⟩
    exact hs L i T u v acc _ _ hu hv nM (j1.newG hT) (e1.trans (Ex.new (j1.freeG hT))) (mo _ _ _ _ (Ex.new (j1.freeG hT)) r) upd_same
  rcases hx with ⟨h1, h2⟩ | ⟨h1, h2⟩
  · exact ⟨a, b, xs, ys, rfl, .inl ⟨sl_mono j.g h1, sl_mono j.g h2, lcd_ro (walk_zL l) j R h0 (fun H1 _ e => ⟨sl_mono e h1, sl_mono e h2⟩) turn hd⟩⟩
  · exact ⟨a, b, xs, ys, rfl, .inr ⟨st_mono j.g h1, st_mono j.g h2, lcd_ro (walk_zT l) j R h0 (fun H1 _ e => ⟨st_mono e h1, st_mono e h2⟩) turn hd⟩⟩
end
local macro_rules
  | `(tactic| walk_at "v") => `(tactic| first
    | with_reducible refine w_cont ?_
    | with_reducible refine w_lcZ ?_)
/-! ### keys, values -/
def IsVal (n : Int) : Prop := -1000000000000000000 ≤ n ∧ n ≤ 1000000000000000000
instance (n : Int) : Decidable (IsVal n) := inferInstanceAs (Decidable (_ ∧ _))
def IsKey (n : Int) : Prop := 0 ≤ n ∧ n < 1000
def ov : Option Int → V
  | none => .non
  | some n => .int n
def OkV : Option Int → Prop
  | none => True
  | some n => IsVal n
/-! ### tables of values -/
def look (kv : List (Int × Int)) (k : Int) : Option Int := (kv.find? fun p => decide (p.1 = k)).map (·.2)
def putI (kv : List (Int × Int)) (k v : Int) : List (Int × Int) := if (look kv k).isSome then kv.map (fun p => if p.1 = k then (p.1, v) else p) else kv ++ [(k, v)]
def dropI (kv : List (Int × Int)) (k : Int) : List (Int × Int) := kv.filter fun p => decide (p.1 ≠ k)
def tk (kv : List (Int × Int)) : List (Key × V) := kv.map fun p => ((Sum.inl p.1 : Key), V.int p.2)
theorem look_nil (k : Int) : look [] k = none := rfl
theorem look_cons (p : Int × Int) (r : List (Int × Int)) (k : Int) : look (p :: r) k = if p.1 = k then some p.2 else look r k := by
  unfold look; rw [List.find?_cons]
  by_cases h : p.1 = k
  · rw [decide_eq_true h, if_pos h]; rfl
  · rw [decide_eq_false h, if_neg h]
theorem tk_look : ∀ (kv : List (Int × Int)) (k : Int), valV (tk kv) (.inl k) = (look kv k).map V.int
  | [], k => rfl
  | p :: r, k => by
    show valV (((Sum.inl p.1 : Key), V.int p.2) :: tk r) (.inl k) = _
    rw [look_cons]
    by_cases h : p.1 = k
    · rw [valV_pos (by rw [h]), if_pos h]; rfl
    · rw [valV_neg (fun z => h (Sum.inl.inj z)), if_neg h]; exact tk_look r k
theorem tk_put (kv : List (Int × Int)) (k v : Int) : putK (tk kv) (.inl k) (.int v) = tk (putI kv k v) := by
  have ha : ((tk kv).any fun kv => decide (kv.1 = (Sum.inl k : Key))) = (look kv k).isSome := by rw [valV_any, tk_look]; cases look kv k <;> rfl
  unfold putK putI
  rw [ha]
  cases look kv k with
  | none => show tk kv ++ _ = tk (kv ++ [(k, v)]); unfold tk; rw [List.map_append]; rfl
  | some x =>
    show (tk kv).map _ = tk (kv.map _)
    unfold tk
    rw [List.map_map, List.map_map]
    refine List.map_congr_left fun p _ => ?_
    show (if (Sum.inl p.1 : Key) = Sum.inl k then ((Sum.inl p.1 : Key), V.int v) else ((Sum.inl p.1 : Key), V.int p.2)) = (((Sum.inl (if p.1 = k then (p.1, v) else p).1 : Key)), V.int (if p.1 = k then (p.1, v) else p).2)
    by_cases h : p.1 = k
    · rw [if_pos (by rw [h]), if_pos h]
    · rw [if_neg (fun z => h (Sum.inl.inj z)), if_neg h]
theorem tk_drop : ∀ (kv : List (Int × Int)) (k : Int), dropK (tk kv) (.inl k) = tk (dropI kv k)
  | [], k => rfl
  | p :: r, k => by
    show dropK (((Sum.inl p.1 : Key), V.int p.2) :: tk r) (.inl k) = _
    unfold dropI
    rw [List.filter_cons]
    by_cases h : p.1 = k
    · rw [dropK_pos (by rw [h]), if_neg (by simp [h])]; exact tk_drop r k
    · rw [dropK_neg (fun z => h (Sum.inl.inj z)), if_pos (by simp [h])]
      show _ = ((Sum.inl p.1 : Key), V.int p.2) :: tk (dropI r k)
      rw [tk_drop r k]
theorem tk_len (kv : List (Int × Int)) : (tk kv).length = kv.length := List.length_map _
theorem tk_keys (kv : List (Int × Int)) : (tk kv).map (·.1) = (kv.map (·.1)).map Sum.inl := by unfold tk; rw [List.map_map, List.map_map]; rfl
theorem look_mem : ∀ {kv : List (Int × Int)} {k v : Int}, look kv k = some v → (k, v) ∈ kv
  | [], k, v, h => by cases h
  | p :: r, k, v, h => by
    rw [look_cons] at h
    by_cases e : p.1 = k
    · rw [if_pos e] at h
      have : p = (k, v) := by rw [← e, ← Option.some.inj h]
      rw [this]; exact List.mem_cons_self
    · rw [if_neg e] at h; exact List.mem_cons_of_mem _ (look_mem h)
theorem look_none : ∀ {kv : List (Int × Int)} {k : Int}, look kv k = none ↔ k ∉ kv.map (·.1)
  | [], k => by simp [look]
  | p :: r, k => by
    rw [look_cons, List.map_cons, List.mem_cons]
    by_cases e : p.1 = k
    · rw [if_pos e]; simp [e]
    · rw [if_neg e, look_none]
      constructor
      · intro h z; rcases z with z | z
        · exact e z.symm
        · exact h z
      · intro h z; exact h (.inr z)
theorem mem_look : ∀ {kv : List (Int × Int)} {k v : Int}, (kv.map (·.1)).Nodup → (k, v) ∈ kv → look kv k = some v
  | [], k, v, _, h => by cases h
  | p :: r, k, v, hn, h => by
    rw [List.map_cons, List.nodup_cons] at hn
    rw [look_cons]
    rcases List.mem_cons.mp h with rfl | h
    · rw [if_pos rfl]
    · by_cases e : p.1 = k
      · exact absurd (by rw [e]; exact List.mem_map_of_mem (f := (·.1)) h) hn.1
      · rw [if_neg e]; exact mem_look hn.2 h
theorem put_keys_old {kv : List (Int × Int)} {k v : Int} (h : (look kv k).isSome = true) : (putI kv k v).map (·.1) = kv.map (·.1) := by
  unfold putI; rw [if_pos h, List.map_map]
  refine List.map_congr_left fun p _ => ?_
  show (if p.1 = k then (p.1, v) else p).1 = p.1
  by_cases e : p.1 = k
  · rw [if_pos e]
  · rw [if_neg e]
theorem put_new {kv : List (Int × Int)} {k v : Int} (h : look kv k = none) : putI kv k v = kv ++ [(k, v)] := by unfold putI; rw [h]; rfl
theorem look_map (k v j : Int) : ∀ kv : List (Int × Int), look (kv.map fun p => if p.1 = k then (p.1, v) else p) j = (look kv j).map fun x => if j = k then v else x
  | [] => rfl
  | p :: r => by
    rw [List.map_cons, look_cons, look_cons]
    by_cases e : p.1 = k
    · rw [if_pos e]
      by_cases f : p.1 = j
      · rw [if_pos f, if_pos f]; show some v = some (if j = k then v else p.2); rw [if_pos (f.symm.trans e)]
      · rw [if_neg f, if_neg f]; exact look_map k v j r
    · rw [if_neg e]
      by_cases f : p.1 = j
      · rw [if_pos f, if_pos f]; show some p.2 = some (if j = k then v else p.2); rw [if_neg (fun z => e (f.trans z))]
      · rw [if_neg f, if_neg f]; exact look_map k v j r
theorem look_snoc (k v j : Int) : ∀ kv : List (Int × Int), look (kv ++ [(k, v)]) j = (look kv j).or (if k = j then some v else none)
  | [] => by rw [List.nil_append, look_cons]; rfl
  | p :: r => by
    rw [List.cons_append, look_cons, look_cons]
    by_cases f : p.1 = j
    · rw [if_pos f, if_pos f]; rfl
    · rw [if_neg f, if_neg f]; exact look_snoc k v j r
theorem look_put (kv : List (Int × Int)) (k v j : Int) : look (putI kv k v) j = if j = k then some v else look kv j := by
  cases h : look kv k with
  | some x =>
    unfold putI; rw [h, if_pos (show (some x).isSome = true from rfl), look_map]
    by_cases e : j = k
    · subst e; rw [h, if_pos rfl]; show some (if j = j then v else x) = _; rw [if_pos rfl]
    · rw [if_neg e]; cases look kv j with
      | none => rfl
      | some y => show some (if j = k then v else y) = _; rw [if_neg e]
  | none =>
    rw [put_new h, look_snoc]
    by_cases e : j = k
    · subst e; rw [h, if_pos rfl]; rfl
    · rw [if_neg (fun z => e z.symm), if_neg e]; cases look kv j <;> rfl
theorem look_drop (k j : Int) : ∀ kv : List (Int × Int), look (dropI kv k) j = if j = k then none else look kv j
  | [] => by rw [show dropI [] k = [] from rfl, look_nil]; split <;> rfl
  | p :: r => by
    unfold dropI
    rw [List.filter_cons]
    by_cases e : p.1 = k
    · rw [if_neg (by simp [e])]
      show look (dropI r k) j = _
      rw [look_drop k j r, look_cons]
      by_cases f : j = k
      · rw [if_pos f, if_pos f]
      · rw [if_neg f, if_neg f, if_neg (fun z => f (z.symm.trans e))]
    · rw [if_pos (by simp [e]), look_cons]
      show (if p.1 = j then some p.2 else look (dropI r k) j) = _
      rw [look_drop k j r, look_cons]
      by_cases f : p.1 = j
      · rw [if_pos f, if_pos f, if_neg (fun z => e (f.trans z))]
      · rw [if_neg f, if_neg f]
/-- keys once, keys and values within their bounds, not too many -/
structure TabOk (kv : List (Int × Int)) (n : Nat) : Prop where
  nd : (kv.map (·.1)).Nodup
  ok : ∀ p ∈ kv, IsKey p.1 ∧ IsVal p.2
  len : kv.length ≤ n
theorem TabOk.nil : TabOk [] 0 := ⟨List.nodup_nil, fun p h => (by cases h), Nat.le_refl _⟩
theorem TabOk.mono {kv : List (Int × Int)} {n m : Nat} (h : TabOk kv n) (e : n ≤ m) : TabOk kv m := ⟨h.nd, h.ok, Nat.le_trans h.len e⟩
theorem put_len (kv : List (Int × Int)) (k v : Int) : (putI kv k v).length ≤ kv.length + 1 := by
  unfold putI; split
  · rw [List.length_map]; omega
  · rw [List.length_append]; exact Nat.le_refl _
theorem TabOk.put {kv : List (Int × Int)} {n : Nat} {k v : Int} (h : TabOk kv n) (hk : IsKey k) (hv : IsVal v) : TabOk (putI kv k v) (n + 1) := by
  refine ⟨?_, ?_, Nat.le_trans (put_len kv k v) (Nat.succ_le_succ h.len)⟩
  · cases e : look kv k with
    | some x => rw [put_keys_old (by rw [e]; rfl)]; exact h.nd
    | none =>
      rw [put_new e, List.map_append]
      exact nd_snoc h.nd (look_none.mp e)
  · intro p hp
    unfold putI at hp
    split at hp
    · obtain ⟨q, hq, e⟩ := List.mem_map.mp hp
      have := h.ok q hq
      by_cases c : q.1 = k
      · rw [if_pos c] at e; rw [← e]; exact ⟨this.1, hv⟩
      · rw [if_neg c] at e; rw [← e]; exact this
    · rcases List.mem_append.mp hp with hp | hp
      · exact h.ok p hp
      · rw [List.mem_singleton.mp hp]; exact ⟨hk, hv⟩
theorem TabOk.drop {kv : List (Int × Int)} {n : Nat} {k : Int} (h : TabOk kv n) : TabOk (dropI kv k) n := by
  refine ⟨?_, fun p hp => h.ok p (List.mem_filter.mp hp).1, Nat.le_trans (List.length_filter_le _ _) h.len⟩
  have hs : ((dropI kv k).map (·.1)).Sublist (kv.map (·.1)) := (List.filter_sublist (l := kv)).map _
  exact hs.nodup h.nd
/-- a table as a function -/
abbrev Fn := Int → Option Int
def Rep (kv : List (Int × Int)) (m : Fn) : Prop := ∀ k, look kv k = m k
def setM (m : Fn) (k : Int) (v : Option Int) : Fn := fun j => if j = k then v else m j
theorem Rep.put {kv : List (Int × Int)} {m : Fn} {k v : Int} (h : Rep kv m) : Rep (putI kv k v) (setM m k (some v)) := fun j => by rw [look_put, h j]; rfl
theorem Rep.drop {kv : List (Int × Int)} {m : Fn} {k : Int} (h : Rep kv m) : Rep (dropI kv k) (setM m k none) := fun j => by rw [look_drop, h j]; rfl
/-- the keys of a table, within borders, ascending, with their values -/
def scanM (m : Fn) (lo hi : Int) : List (Int × Int) := (List.range 1000).filterMap fun (i : Nat) => if lo ≤ (i : Int) ∧ (i : Int) < hi then (m i).map fun v => ((i : Int), v) else none
theorem scan_mem {m : Fn} {lo hi : Int} {p : Int × Int} : p ∈ scanM m lo hi ↔ 0 ≤ p.1 ∧ p.1 < 1000 ∧ lo ≤ p.1 ∧ p.1 < hi ∧ m p.1 = some p.2 := by
  unfold scanM
  rw [List.mem_filterMap]
  constructor
  · rintro ⟨i, hi', e⟩
    rw [List.mem_range] at hi'
    split at e
    · rename_i hb
      cases hm : m i with
      | none => rw [hm] at e; cases e
      | some v =>
        rw [hm] at e
        have e := Option.some.inj e
        subst e
        exact ⟨by show (0 : Int) ≤ (i : Int); omega, by show (i : Int) < 1000; omega, hb.1, hb.2, hm⟩
    · cases e
  · rintro ⟨h0, h1, h2, h3, h4⟩
    refine ⟨p.1.toNat, by rw [List.mem_range]; omega, ?_⟩
    have e : ((p.1.toNat : Nat) : Int) = p.1 := by omega
    rw [e, if_pos ⟨h2, h3⟩, h4]; rfl
theorem scan_sorted (m : Fn) (lo hi : Int) : (scanM m lo hi).Pairwise fun p q => p.1 < q.1 := by
  unfold scanM
  rw [List.pairwise_filterMap]
  refine List.Pairwise.imp (R := fun a b => a < b) ?_ List.pairwise_lt_range
  intro a b h x hx y hy
  split at hx
  · split at hy
    · cases ha : m a with
      | none => rw [ha] at hx; cases hx
      | some u =>
        cases hb : m b with
        | none => rw [hb] at hy; cases hy
        | some v =>
          rw [ha] at hx; rw [hb] at hy
          cases hx; cases hy
          show (a : Int) < b; omega
    · cases hy
  · cases hx
/-- two ascending lists with the same members are one -/
theorem asc_unique : ∀ {xs ys : List (Int × Int)}, xs.Pairwise (fun p q => p.1 < q.1) → ys.Pairwise (fun p q => p.1 < q.1) → (∀ p, p ∈ xs ↔ p ∈ ys) → xs = ys
  | [], [], _, _, _ => rfl
  | [], y :: ys, _, _, h => by have := (h y).mpr List.mem_cons_self; cases this
  | x :: xs, [], _, _, h => by have := (h x).mp List.mem_cons_self; cases this
  | x :: xs, y :: ys, hx, hy, h => by
    rw [List.pairwise_cons] at hx hy
    have e : x = y := by
      rcases List.mem_cons.mp ((h x).mp List.mem_cons_self) with e | m1
      · exact e
      · rcases List.mem_cons.mp ((h y).mpr List.mem_cons_self) with e | m2
        · exact e.symm
        · have := hy.1 x m1; have := hx.1 y m2; omega
    subst e
    congr 1
    refine asc_unique hx.2 hy.2 fun p => ?_
    constructor
    · intro hp
      rcases List.mem_cons.mp ((h p).mp (List.mem_cons_of_mem _ hp)) with e | q
      · have := hx.1 p hp; rw [e] at this; omega
      · exact q
    · intro hp
      rcases List.mem_cons.mp ((h p).mpr (List.mem_cons_of_mem _ hp)) with e | q
      · have := hy.1 p hp; rw [e] at this; omega
      · exact q
/-- the rows that a comprehension over the sorted keys gives -/
def rowsOf (kv : List (Int × Int)) (ys : List Int) (lo hi : Int) : List (Int × Int) := ys.filterMap fun k => if lo ≤ k ∧ k < hi then (look kv k).map fun v => (k, v) else none
theorem rows_eq {kv : List (Int × Int)} {m : Fn} {n : Nat} {ys : List Int} {lo hi : Int} (h : TabOk kv n) (r : Rep kv m) (hp : ys.Perm (kv.map (·.1))) (hs : ys.Pairwise (· ≤ ·)) : rowsOf kv ys lo hi = scanM m lo hi := by
  have hnd : ys.Nodup := hp.nodup_iff.mpr h.nd
  have hlt : ys.Pairwise (· < ·) := by
    refine List.Pairwise.imp₂ (R := fun a b => a ≤ b) (S := fun a b => a ≠ b) (fun a b h1 h2 => by omega) hs hnd
  refine asc_unique ?_ (scan_sorted m lo hi) fun p => ?_
  · unfold rowsOf
    rw [List.pairwise_filterMap]
    refine List.Pairwise.imp (R := fun a b => a < b) ?_ hlt
    intro a b h x hx y hy
    split at hx
    · split at hy
      · cases ha : look kv a with
        | none => rw [ha] at hx; cases hx
        | some u =>
          cases hb : look kv b with
          | none => rw [hb] at hy; cases hy
          | some v =>
            rw [ha] at hx; rw [hb] at hy
            cases hx; cases hy
            exact h
      · cases hy
    · cases hx
  · rw [scan_mem]
    unfold rowsOf
    rw [List.mem_filterMap]
    constructor
    · rintro ⟨k, hk, e⟩
      split at e
      · rename_i hb
        cases hm : look kv k with
        | none => rw [hm] at e; cases e
        | some v =>
          rw [hm] at e
          have e := Option.some.inj e
          subst e
          have hk2 := (h.ok _ (look_mem hm)).1
          exact ⟨hk2.1, hk2.2, hb.1, hb.2, by rw [← r k]; exact hm⟩
      · cases e
    · rintro ⟨h0, h1, h2, h3, h4⟩
      have hl : look kv p.1 = some p.2 := by rw [r]; exact h4
      refine ⟨p.1, hp.mem_iff.mpr (List.mem_map_of_mem (f := (·.1)) (look_mem hl)), ?_⟩
      rw [if_pos ⟨h2, h3⟩, hl]; rfl
theorem scal_ov (x y : Option Int) : scal (ov x) (ov y) = true := by cases x <;> cases y <;> rfl
theorem dec_ov (x y : Option Int) : decide (ov x = ov y) = decide (x = y) := by
  refine decide_eq_decide.mpr ⟨fun h => ?_, fun h => h ▸ rfl⟩
  cases x <;> cases y
  · rfl
  · cases h
  · cases h
  · exact congrArg some (V.int.inj h)
theorem ov_get (o : Option Int) : (o.map V.int).getD .non = ov o := by cases o <;> rfl
/-! ### dictionaries by lists of pairs (as for tables) -/
theorem paired_snoc {α β : Type} {F : α → β → Prop} {x : α} {y : β} (h : F x y) : ∀ {xs : List α} {ys : List β}, Paired F xs ys → Paired F (xs ++ [x]) (ys ++ [y])
  | _, _, .nil => .cons h .nil
  | _, _, .cons h' t => .cons h' (paired_snoc h t)
section
variable {α β κ : Type} [DecidableEq α] [DecidableEq κ]
def getA (l : List (α × β)) (a : α) : Option β := (l.find? fun p => decide (p.1 = a)).map (·.2)
def putA (l : List (α × β)) (a : α) (b : β) : List (α × β) := if (l.any fun p => decide (p.1 = a)) = true then l.map (fun p => if p.1 = a then (p.1, b) else p) else l ++ [(a, b)]
def dropA (l : List (α × β)) (a : α) : List (α × β) := l.filter fun p => decide (p.1 ≠ a)
theorem getA_nil {a : α} : getA ([] : List (α × β)) a = none := rfl
theorem getA_pos {p : α × β} {r : List (α × β)} {a : α} (e : p.1 = a) : getA (p :: r) a = some p.2 := by simp [getA, e]
theorem getA_neg {p : α × β} {r : List (α × β)} {a : α} (e : ¬ p.1 = a) : getA (p :: r) a = getA r a := by simp [getA, e]
theorem getA_mem {l : List (α × β)} {a : α} {b : β} (h : getA l a = some b) : (a, b) ∈ l := by
  induction l with
  | nil => cases h
  | cons p r ih =>
    by_cases e : p.1 = a
    · rw [getA_pos e] at h
      have h := Option.some.inj h
      subst e h
      exact List.mem_cons_self
    · rw [getA_neg e] at h; exact List.mem_cons_of_mem _ (ih h)
theorem getA_of {l : List (α × β)} (hn : (l.map (·.1)).Nodup) {p : α × β} (h : p ∈ l) : getA l p.1 = some p.2 := by
  induction l with
  | nil => cases h
  | cons q r ih =>
    rw [List.map_cons, List.nodup_cons] at hn
    rcases List.mem_cons.mp h with rfl | h
    · exact getA_pos rfl
    · rw [getA_neg (fun e => hn.1 (e ▸ List.mem_map_of_mem h)), ih hn.2 h]
theorem getA_none {l : List (α × β)} {a : α} : getA l a = none ↔ a ∉ l.map (·.1) := by
  induction l with
  | nil => simp [getA_nil]
  | cons p r ih =>
    by_cases e : p.1 = a
    · rw [getA_pos e]; simp [e]
    · rw [getA_neg e, ih, List.map_cons, List.mem_cons]
      constructor
      · rintro h (z | z)
        · exact e z.symm
        · exact h z
      · exact fun h z => h (.inr z)
theorem getA_any {l : List (α × β)} {a : α} : (l.any fun p => decide (p.1 = a)) = (getA l a).isSome := by
  induction l with
  | nil => rfl
  | cons p r ih =>
    by_cases e : p.1 = a
    · rw [getA_pos e, List.any_cons, decide_eq_true e]; rfl
    · rw [getA_neg e, List.any_cons, decide_eq_false e, ih]; rfl
theorem putA_keys {l : List (α × β)} {a : α} {b : β} : (putA l a b).map (·.1) = if (getA l a).isSome = true then l.map (·.1) else l.map (·.1) ++ [a] := by
  unfold putA
  rw [getA_any]
  split
  · rw [List.map_map]
    refine List.map_congr_left fun p _ => ?_
    show (if p.1 = a then (p.1, b) else p).1 = p.1
    split <;> rfl
  · rw [List.map_append]; rfl
theorem putA_nodup {l : List (α × β)} {a : α} {b : β} (h : (l.map (·.1)).Nodup) : ((putA l a b).map (·.1)).Nodup := by
  rw [putA_keys]
  split
  · exact h
  · rename_i q
    have : getA l a = none := by cases e : getA l a with
      | none => rfl
      | some x => rw [e] at q; exact (q rfl).elim
    rw [List.nodup_append]
    refine ⟨h, by simp, fun x hx y hy => ?_⟩
    rw [List.mem_singleton.mp hy]
    exact fun z => getA_none.mp this (z ▸ hx)
theorem putA_mem {l : List (α × β)} {a : α} {b : β} {p : α × β} (h : p ∈ putA l a b) : p ∈ l ∨ p = (a, b) := by
  unfold putA at h
  split at h
  · obtain ⟨q, hq, rfl⟩ := List.mem_map.mp h
    by_cases e : q.1 = a
    · rw [if_pos e, e]; exact .inr rfl
    · rw [if_neg e]; exact .inl hq
  · rcases List.mem_append.mp h with m | m
    · exact .inl m
    · exact .inr (List.mem_singleton.mp m)
theorem putA_len {l : List (α × β)} {a : α} {b : β} : (putA l a b).length ≤ l.length + 1 := by
  unfold putA
  split
  · rw [List.length_map]; omega
  · rw [List.length_append]; exact Nat.le_refl _
theorem getA_map {a c : α} {b : β} : ∀ l : List (α × β), getA (l.map fun p => if p.1 = a then (p.1, b) else p) c = (getA l c).map fun x => if c = a then b else x
  | [] => rfl
  | p :: r => by
    have ih := getA_map (a := a) (c := c) (b := b) r
    rw [List.map_cons]
    by_cases h : p.1 = a
    · rw [if_pos h]
      by_cases e : p.1 = c
      · rw [getA_pos (p := (p.1, b)) e, getA_pos e, Option.map_some, if_pos (e.symm.trans h)]
      · rw [getA_neg (p := (p.1, b)) e, getA_neg e, ih]
    · rw [if_neg h]
      by_cases e : p.1 = c
      · rw [getA_pos e, getA_pos e, Option.map_some, if_neg (fun z => h (e.trans z))]
      · rw [getA_neg e, getA_neg e, ih]
theorem getA_snoc {a c : α} {b : β} : ∀ l : List (α × β), getA l a = none → getA (l ++ [(a, b)]) c = if c = a then some b else getA l c
  | [], _ => by
    by_cases e : a = c
    · rw [if_pos e.symm]; exact getA_pos (p := (a, b)) e
    · rw [if_neg (fun z => e z.symm)]; exact getA_neg (p := (a, b)) e
  | p :: r, h => by
    have hk : ¬ p.1 = a := fun z => by rw [getA_pos z] at h; cases h
    rw [getA_neg hk] at h
    rw [List.cons_append]
    by_cases e : p.1 = c
    · rw [getA_pos e, getA_pos e, if_neg (fun z => hk (e.trans z))]
    · rw [getA_neg e, getA_neg e, getA_snoc r h]
theorem getA_put {l : List (α × β)} {a c : α} {b : β} : getA (putA l a b) c = if c = a then some b else getA l c := by
  unfold putA
  rw [getA_any]
  cases e : getA l a with
  | some x =>
    rw [if_pos (show (some x).isSome = true from rfl), getA_map]
    by_cases q : c = a
    · subst q; rw [if_pos rfl, e, Option.map_some, if_pos rfl]
    · rw [if_neg q]
      cases getA l c with
      | none => rfl
      | some y => rw [Option.map_some, if_neg q]
  | none => rw [if_neg (by simp), getA_snoc l e]
theorem dropA_mem {l : List (α × β)} {a : α} {p : α × β} : p ∈ dropA l a ↔ p ∈ l ∧ p.1 ≠ a := by
  unfold dropA
  rw [List.mem_filter, decide_eq_true_iff]
theorem dropA_nodup {l : List (α × β)} {a : α} (h : (l.map (·.1)).Nodup) : ((dropA l a).map (·.1)).Nodup := h.sublist (List.filter_sublist.map _)
theorem dropA_len {l : List (α × β)} {a : α} : (dropA l a).length ≤ l.length := List.length_filter_le _ _
/-- a dict -/
def DcAt (enc : α → κ) (F : V → β → Prop) (kv : List (κ × V)) (l : List (α × β)) : Prop := Paired (fun (e : κ × V) (p : α × β) => e.1 = enc p.1 ∧ F e.2 p.2) kv l
variable {enc : α → κ} {F : V → β → Prop} {kv : List (κ × V)} {l : List (α × β)} {a : α} {b : β} {v : V}
theorem DcAt.len (h : DcAt enc F kv l) : kv.length = l.length := Paired.length h
theorem DcAt.keys (h : DcAt enc F kv l) : kv.map (·.1) = (l.map (·.1)).map enc := by
  induction h with
  | nil => rfl
  | cons f _ ih => rw [List.map_cons, List.map_cons, List.map_cons, ih, f.1]
theorem DcAt.get (inj : ∀ x y, enc x = enc y → x = y) (h : DcAt enc F kv l) (a : α) : (getA l a = none ∧ valV kv (enc a) = none) ∨ ∃ b v, getA l a = some b ∧ valV kv (enc a) = some v ∧ F v b := by
  induction h with
  | nil => exact .inl ⟨rfl, rfl⟩
  | @cons e p kv l f t ih =>
    by_cases q : p.1 = a
    · exact .inr ⟨p.2, e.2, getA_pos q, valV_pos (f.1.trans (congrArg enc q)), f.2⟩
    · rw [getA_neg q, valV_neg (fun z => q (inj _ _ (f.1.symm.trans z)))]
      exact ih
theorem DcAt.any (inj : ∀ x y, enc x = enc y → x = y) (h : DcAt enc F kv l) (a : α) : (valV kv (enc a)).isSome = (getA l a).isSome := by
  rcases h.get inj a with ⟨h1, h2⟩ | ⟨b, v, h1, h2, _⟩
  · rw [h1, h2]; rfl
  · rw [h1, h2]; rfl
theorem DcAt.put (inj : ∀ x y, enc x = enc y → x = y) (h : DcAt enc F kv l) (hv : F v b) : DcAt enc F (putK kv (enc a) v) (putA l a b) := by
  unfold putK putA
  rw [valV_any, getA_any, h.any inj a]
  split
  · rename_i hs
    clear hs
    unfold DcAt
    induction h with
    | nil => exact .nil
    | @cons e p kv l f t ih =>
      refine .cons ?_ ih
      show (if e.1 = enc a then (e.1, v) else e).1 = enc (if p.1 = a then (p.1, b) else p).1 ∧ F (if e.1 = enc a then (e.1, v) else e).2 (if p.1 = a then (p.1, b) else p).2
      by_cases q : p.1 = a
      · rw [if_pos (f.1.trans (congrArg enc q)), if_pos q]; exact ⟨f.1, hv⟩
      · rw [if_neg (fun z => q (inj _ _ (f.1.symm.trans z))), if_neg q]; exact f
  · exact paired_snoc ⟨rfl, hv⟩ h
theorem DcAt.drop (inj : ∀ x y, enc x = enc y → x = y) (h : DcAt enc F kv l) : DcAt enc F (dropK kv (enc a)) (dropA l a) := by
  unfold dropK dropA DcAt
  induction h with
  | nil => exact .nil
  | @cons e p kv l f t ih =>
    by_cases q : p.1 = a
    · have q2 := f.1.trans (congrArg enc q)
      rw [List.filter_cons_of_neg (by simpa using q2), List.filter_cons_of_neg (by simpa using q)]
      exact ih
    · have q2 : e.1 ≠ enc a := fun z => q (inj _ _ (f.1.symm.trans z))
      rw [List.filter_cons_of_pos (by simpa using q2), List.filter_cons_of_pos (by simpa using q)]
      exact .cons f ih
theorem DcAt.mono {F' : V → β → Prop} (h : DcAt enc F kv l) (g : ∀ v b, F v b → F' v b) : DcAt enc F' kv l := L2.Paired.mapP h fun _ _ f => ⟨f.1, g _ _ f.2⟩
end

theorem inl_inj (x y : Int) (h : (Sum.inl x : Key) = Sum.inl y) : x = y := Sum.inl.inj h
theorem putA_new {α β : Type} [DecidableEq α] {l : List (α × β)} {a : α} {b : β} (h : getA l a = none) : putA l a b = l ++ [(a, b)] := by
  unfold putA
  rw [getA_any, h, if_neg (by simp)]
theorem getA_take {α β : Type} [DecidableEq α] {l : List (α × β)} (hn : (l.map (·.1)).Nodup) {i : Nat} {x : α × β} (hi : l[i]? = some x) : getA (l.take i) x.1 = none := by
  rw [getA_none]
  intro m
  obtain ⟨y, hy, e⟩ := List.mem_map.mp m
  obtain ⟨k, hk, rfl⟩ := List.mem_take_iff_getElem.mp hy
  have li := (List.getElem?_eq_some_iff.mp hi).1
  have e2 : l[i] = x := (List.getElem?_eq_some_iff.mp hi).2
  have e3 : (l.map (·.1))[k]'(by rw [List.length_map]; omega) = (l.map (·.1))[i]'(by rw [List.length_map]; exact li) := by
    rw [List.getElem_map, List.getElem_map, e2]; exact e
  have := (List.getElem_inj (h₀ := by rw [List.length_map]; omega) (h₁ := by rw [List.length_map]; exact li) hn).mp e3
  omega
def ForKyT (g : TG) (t : TS) (D : Ends) (σ : L2.St) (x : V) (H1 : Hp) : Prop := ∃ d o, x = .ref d ∧
  ((∃ kvs, H1 d = some (.frz o (.dK kvs)) ∧ ∃ W : Nat → Nat → L2.St → Hp → Prop, (∃ m, W 0 m σ H1) ∧ ∀ i m σ H, W i m σ H →
  ((Itk d o kvs).stop i H ∧ D.nx σ H) ∨ ((Itk d o kvs).go i H ∧ ∃ N : L2.St → Hp → Prop, (∀ σ' H', N σ' H' → ∃ m', m' < m ∧ W (i + 1) m' σ' H') ∧ ∀ x H', (Itk d o kvs).yld i H x H' → g x σ H' fun σ2 H2 => t { D with nx := N, ct := N, bk := D.nx } σ2 H2)) ∨
  ∃ kvs, H1 d = some (.frz o (.dT kvs)) ∧ ∃ W : Nat → Nat → L2.St → Hp → Prop, (∃ m, W 0 m σ H1) ∧ ∀ i m σ H, W i m σ H →
  ((Itkt d o kvs).stop i H ∧ D.nx σ H) ∨ ((Itkt d o kvs).go i H ∧ ∃ N : L2.St → Hp → Prop, (∀ σ' H', N σ' H' → ∃ m', m' < m ∧ W (i + 1) m' σ' H') ∧ ∀ x H', (Itkt d o kvs).yld i H x H' → g x σ H' fun σ2 H2 => t { D with nx := N, ct := N, bk := D.nx } σ2 H2))
theorem w_forKyTe {td : TE} {g : TG} {t : TS} {D : Ends} {σ : L2.St} {H : Hp} (h : td σ H fun x H1 => ForKyT g t D σ x H1) : tFor (iKeys td) g t D σ H := h
local macro_rules
  | `(tactic| walk_at "v") => `(tactic| with_reducible refine w_forKyTe ?_)
theorem w_forKyTM {H : Hp} {d : Addr} {o : Obj} {kvs : List (List Key × V)} {g : TG} {t : TS} {D : Ends} {σ : L2.St} (hx : H d = some (.frz o (.dT kvs))) (Pv : Nat → L2.St → Hp → Prop) (h0 : Pv 0 σ H) (hl : ∀ i σ H, Pv i σ H → H d = some (.frz o (.dT kvs)))
    (hs : ∀ i q k v σ H1, kvs[i]? = some (k, v) → H1 q = some (.tup (k.map kV)) → Pv i σ H1 → g (.ref q) σ H1 fun σ2 H2 => t { D with nx := Pv (i + 1), ct := Pv (i + 1), bk := D.nx } σ2 H2) (hd : ∀ σ H1, Pv kvs.length σ H1 → D.nx σ H1) : ForKyT g t D σ (.ref d) H := by
  refine ⟨d, o, rfl, .inr ⟨kvs, hx, for_it walk_keysT Pv h0 (fun i σ H _ p => hl i σ H p) ?_ hd⟩⟩
  rintro i x σ H H' hi p ⟨rfl, k, v, q, hkv, rfl, hq⟩
  exact hs i q k v σ _ hkv hq p
theorem w_forKyKM {H : Hp} {d : Addr} {o : Obj} {kvs : List (Key × V)} {g : TG} {t : TS} {D : Ends} {σ : L2.St} (hx : H d = some (.frz o (.dK kvs))) (Pv : Nat → L2.St → Hp → Prop) (h0 : Pv 0 σ H) (hl : ∀ i σ H, Pv i σ H → H d = some (.frz o (.dK kvs)))
    (hs : ∀ i k v σ H1, kvs[i]? = some (k, v) → Pv i σ H1 → g (kV k) σ H1 fun σ2 H2 => t { D with nx := Pv (i + 1), ct := Pv (i + 1), bk := D.nx } σ2 H2) (hd : ∀ σ H1, Pv kvs.length σ H1 → D.nx σ H1) : ForKyT g t D σ (.ref d) H := by
  refine ⟨d, o, rfl, .inl ⟨kvs, hx, for_it walk_keys Pv h0 (fun i σ H _ p => hl i σ H p) ?_ hd⟩⟩
  rintro i x σ H H' hi p ⟨rfl, k, v, hkv, rfl⟩
  exact hs i k v σ _ hkv p
/-! ### what may raise, called where it cannot -/
def calmS (sp : Sp) : Sp := fun vs H Q _ => sp vs H Q E0
section
variable {P : Program} {w : World} {K : PySem.W.Frag} {mg : Str → Option Value} {base : Heap} {k n : Nat} {f C : Addr} {fd : FuncData} {ps : List Str} {sp : Sp} {x m kw : Str} {kv : V}
theorem fn_calm (F : FnOk P w K mg base (L2.CX P w) k f fd ps sp) : FnOk P w K mg base CX0 k f fd ps (calmS sp) :=
  ⟨fun vs H Q E h => F.len vs H Q E0 h, fun A outer s H args us vs Q E hr he hb hv hs => codeAny_mono (F.run A outer s H args us vs Q E0 hr he hb hv hs) fun r s' q => by
    cases r with
    | error e =>
      obtain ⟨_, _, _, _, _, _, _, _, _, _, _, _, z⟩ := (show L2.CX P w outer H s E0 e s' from q)
      exact z.elim
    | ok fl => cases fl <;> exact q⟩
theorem Cal.calm (c : Cal P w K mg base (L2.CX P w) k x sp) : Cal P w K mg base CX0 k x (calmS sp) := by
  obtain ⟨f, fd, ps, F, a, b, d⟩ := c.ex
  exact ⟨f, fd, ps, fn_calm F, a, b, d⟩
theorem CalM.calm (c : CalM P w K mg base (L2.CX P w) k C m sp) : CalM P w K mg base CX0 k C m (calmS sp) := by
  obtain ⟨f, fd, ps, F, a, b⟩ := c.ex
  exact ⟨f, fd, ps, fn_calm F, a, b⟩
theorem w_sxc {α : Type} {pre : α → List V → Hp → Hp → Prop} {post : α → Hp → Hp → V → Hp → Hp → Prop} {exc : α → Hp → Hp → Addr → Hp → Hp → Prop} {vs : List V} {M G H : Hp} {Q : VK} {E : XK} (a : α) (j : J M G H) (hp : pre a vs M G)
    (k : ∀ v M' G' H', J M' G' H' → Ex G G' → post a M G v M' G' → Q v H') (kx : ∀ C M' G' H', J M' G' H' → Ex G G' → exc a M G C M' G' → False) : calmS (Sx pre post exc) vs H Q E := ⟨a, M, G, j, hp, k, kx⟩
end
/-! ### while -/
def Below (W : Nat → L2.St → Hp → Prop) (m : Nat) (σ : L2.St) (H : Hp) : Prop := ∃ m', m' < m ∧ W m' σ H
theorem w_while {c : TT} {tb : TS} {D : Ends} {σ : L2.St} {H : Hp} (W : Nat → L2.St → Hp → Prop) (m : Nat) (h0 : W m σ H)
    (hs : ∀ m σ H (R : Bool → Hp → Prop), W m σ H → (∀ b H1, (if b = true then tb { D with nx := Below W m, ct := Below W m, bk := D.nx } σ H1 else D.nx σ H1) → R b H1) → c σ H R) : tWhile c tb D σ H :=
  ⟨W, ⟨m, h0⟩, fun m σ H w => hs m σ H _ w fun b H1 q => by
    cases b with
    | true => rw [if_pos rfl] at q ⊢; exact ⟨_, fun σ' H' x => x, q⟩
    | false => rw [if_neg Bool.false_ne_true] at q ⊢; exact q⟩
/-! ### try .. except X: without a name, truth of a list, o.f += n -/
def tTryO (K : PySem.W.Frag) (c : Value) (tb : WX → TS) (ts : Addr → Value → Option Addr → TS) (Wout : WX) : TS := fun D σ H => tb (wOnly K c ts Wout D) D σ H
theorem w_tryO {K : PySem.W.Frag} {c : Value} {tb : WX → TS} {ts : Addr → Value → Option Addr → TS} {Wout : WX} {D : Ends} {σ : L2.St} {H : Hp} (h : tb (wOnly K c ts Wout D) D σ H) : tTryO K c tb ts Wout D σ H := h
theorem ps_tryO {X : Cx} {x : Str} {c : Value} {body suite : List Stmt} {b₀ : Stmt} {np pos pos' : Pos} {tb : WX → TS} {ts : Addr → Value → Option Addr → TS} {Wout : WX} (hs : X.stack = X.env :: X.outer) (hf : X.env.frame = some X.env.locals) (hc : Names X x c) (tk : Takes X Wout)
    (hb : ∀ (W : WX) (pn : List (Addr × Obj)) (xe : Value → Shared → Prop), Takes (X.tr pn xe) W → PassesOwn (model X.prog X.w) X.A X.env xe → PSs (X.tr pn xe) body (tb W))
    (hsu : ∀ (a : Addr) (oe : Obj) (cls : Value) (d : Option Addr) (pn : List (Addr × Obj)), Zc cls d oe → (∃ vs, oe.data = .fields vs) → PSs (X.suite a ((a, oe) :: pn)) (b₀ :: suite) (ts a cls d)) :
    PS X (.Try body [.ExceptHandler (some (.Name x np)) none (b₀ :: suite) pos'] [] [] pos) (tTryO X.K c tb ts Wout) := ps_try_only hs hf hc tk hb hsu
theorem w_caughtO {K : PySem.W.Frag} {c : Value} {C : Addr} {ts : Addr → Value → Option Addr → TS} {Wout : WX} {D : Ends} {σ : L2.St} {H : Hp} (e : PySem.W.exmOne K (.ref C) c = some true) (h : ∀ a, H a = none → ts a (.ref C) none D σ H) : wOnly K c ts Wout D (.ref C) none σ H :=
  ⟨true, e, fun _ => h, fun q => Bool.noConfusion q⟩
/-- truth -/
def TruX (K : PySem.W.Frag) (x : V) (H : Hp) (Q : Bool → Hp → Prop) : Prop := ∃ k, TruV K x H k ∧ Q k H
def tTruV (K : PySem.W.Frag) (ta : TE) : TT := fun σ H Q => ta σ H fun x H' => TruX K x H' Q
theorem pt_truV {X : Cx} {K : PySem.W.Frag} {a : Expr} {ta : TE} (hK : X.K = K) (ha : PE X a ta) (he : ∀ whole, isTrue a X.env whole = (do let v ← whole; standAt a.pos; holding [v] (truthy v)) := by intro _; rfl) : PT X a (tTruV K ta) := by
  subst hK; exact pt_truth ha he
theorem w_tru {K : PySem.W.Frag} {ta : TE} {σ : L2.St} {H : Hp} {Q : Bool → Hp → Prop} (h : ta σ H fun x H' => TruX K x H' Q) : tTruV K ta σ H Q := h
theorem w_truL {K : PySem.W.Frag} {M G H : Hp} {a : Addr} {xs : List V} {Q : Bool → Hp → Prop} (j : J M G H) (h : SqL K G a xs) (q : Q (!xs.isEmpty) H) : TruX K (.ref a) H Q := ⟨_, .inl ⟨xs, sl_mono j.g h, rfl⟩, q⟩
theorem w_truB {K : PySem.W.Frag} {H : Hp} {b : Bool} {Q : Bool → Hp → Prop} (q : Q b H) : TruX K (.bl b) H Q := ⟨_, rfl, q⟩
/-- o.f += n -/
def AugX (K : PySem.W.Frag) (f : Str) (tv : TE) (D : Ends) (σ : L2.St) (x : V) (H1 : Hp) : Prop := ∃ a C dx fs v, x = .ref a ∧ H1 a = some (.ins C dx fs) ∧ Cls K C ∧ NoAttr K C f ∧ fs.lookup f = some v ∧
  tv σ H1 fun y H2 => rAdd v y H2 fun z H3 => ∃ dx' fs', H3 a = some (.ins C dx' fs') ∧ fs'.length < 1000 ∧ D.nx σ (upd H3 a (.ins C dx' (putF f z fs')))
theorem w_sfa {K : PySem.W.Frag} {ta tv : TE} {f : Str} {D : Ends} {σ : L2.St} {H : Hp} (h : ta σ H fun x H1 => AugX K f tv D σ x H1) : sFldAug K ta tv rAdd f D σ H := h
/-- the object and its field stand as they were when the number is added -/
def AugE (D : Ends) (σ : L2.St) (a C dx : Addr) (fs : List (Str × V)) (f : Str) (i : Int) (y : V) (H2 : Hp) : Prop := ∃ k M2 G2, y = .int k ∧ J M2 G2 H2 ∧ M2 a = some (.ins C dx fs) ∧ ∀ H', J (upd M2 a (.ins C dx (putF f (.int (i + k)) fs))) G2 H' → D.nx σ H'
theorem w_augX {K : PySem.W.Frag} {M G H : Hp} {a C dx : Addr} {fs : List (Str × V)} {f : Str} {i : Int} {tv : TE} {D : Ends} {σ : L2.St} (j : J M G H) (h : M a = some (.ins C dx fs)) (c : Cls K C) (n : NoAttr K C f) (l : fs.lookup f = some (.int i)) (z : fs.length < 1000)
    (hm : ∀ Q Q' : VK, (∀ v H, Q v H → Q' v H) → tv σ H Q → tv σ H Q') (q : tv σ H (AugE D σ a C dx fs f i)) : AugX K f tv D σ (.ref a) H :=
  ⟨a, C, dx, fs, .int i, rfl, j.m _ _ h, c, n, l, hm _ _ (fun y H2 ⟨k, M2, G2, e, j2, h2, q2⟩ => ⟨i, k, rfl, e, dx, fs, j2.m _ _ h2, z, q2 _ (j2.put h2)⟩) q⟩
/-- .. by steps: the continuation is a letter -/
theorem w_augK {K : PySem.W.Frag} {M G H : Hp} {a C dx : Addr} {fs : List (Str × V)} {f : Str} {i : Int} {tv : TE} {D : Ends} {σ : L2.St} (j : J M G H) (h : M a = some (.ins C dx fs)) (c : Cls K C) (n : NoAttr K C f) (l : fs.lookup f = some (.int i)) (z : fs.length < 1000)
    (q : ∀ R : VK, (∀ y H2, AugE D σ a C dx fs f i y H2 → R y H2) → tv σ H R) : AugX K f tv D σ (.ref a) H :=
  ⟨a, C, dx, fs, .int i, rfl, j.m _ _ h, c, n, l, q _ fun y H2 ⟨k, M2, G2, e, j2, h2, q2⟩ => ⟨i, k, rfl, e, dx, fs, j2.m _ _ h2, z, q2 _ (j2.put h2)⟩⟩
local macro_rules
  | `(tactic| walk_at "v") => `(tactic| first
    | with_reducible refine w_tryO ?_
    | with_reducible refine w_tru ?_
    | with_reducible refine w_sfa ?_)
theorem w_seqO {t : TS} {u : TS} {D : Ends} {σ : L2.St} {H : Hp} (Pm : L2.St → Hp → Prop) (rest : ∀ σ H, Pm σ H → u D σ H) (first : ∀ N : L2.St → Hp → Prop, (∀ σ H, Pm σ H → N σ H) → t { D with nx := N } σ H) : tSeq t u D σ H := first _ rest
/-! ### an __init__ with a default; a method with one keyword-only parameter -/
structure Did (K : PySem.W.Frag) (C : Addr) (q : Str) (st : Stmt) (ps : List Str) (dvs : List V) (f : Addr) (fd : FuncData) : Prop where
  fn : FunD K "__init__" q (defArgs st) (defBody st) (defScope st) dvs [] f fd
  mke : Mk K C f
  bn : Binds K fd ps []
  bd : ∃ ds, Vals dvs ds ∧ Binds K fd ps ds
structure CalID (P : Program) (w : World) (K : PySem.W.Frag) (mg : Str → Option Value) (base : Heap) (CX : CXT) (k : Nat) (C : Addr) (dvs : List V) (sp : Sp) : Prop where
  ex : ∃ (f : Addr) (fd : FuncData) (ps : List Str) (ds : List Value), FnOk P w K mg base CX k f fd ps sp ∧ Mk K C f ∧ Binds K fd ps [] ∧ Vals dvs ds ∧ Binds K fd ps ds
structure Dmk (K : PySem.W.Frag) (C : Addr) (m q : Str) (st : Stmt) (ps : List Str) (n : Nat) (kw : Str) (kv : V) (f : Addr) (fd : FuncData) : Prop where
  fn : Fun K m q st f fd
  me : Meth K C m f
  bd : ∃ ds, Vals [kv] ds ∧ Binds K fd ps ds
  bk : KBn K fd ps n [kw] (fun us ws => us ++ ws) (fun vs zs => vs ++ zs)
structure CalMK (P : Program) (w : World) (K : PySem.W.Frag) (mg : Str → Option Value) (base : Heap) (CX : CXT) (k : Nat) (C : Addr) (m : Str) (n : Nat) (kw : Str) (kv : V) (sp : Sp) : Prop where
  ex : ∃ (f : Addr) (fd : FuncData) (ps : List Str) (ds : List Value), FnOk P w K mg base CX k f fd ps sp ∧ Meth K C m f ∧ Vals [kv] ds ∧ Binds K fd ps ds ∧ KBn K fd ps n [kw] (fun us ws => us ++ ws) (fun vs zs => vs ++ zs)
section
variable {P : Program} {w : World} {K : PySem.W.Frag} {mg : Str → Option Value} {base : Heap} {C : Addr} {m q : Str} {st : Stmt} {ps : List Str} {f pf : Addr} {fd : FuncData} {N : List Str} {k n : Nat} {sp : Sp} {dvs : List V} {kw : Str} {kv : V}
theorem Did.ok (D : Did K C q st ps dvs f fd) (S : FnScope N ps (defScope st)) (len : ∀ vs H Q E, sp vs H Q E → vs.length = ps.length)
    (hbody : ∀ (cdv : Value) (A : Around) (outer : List Env) (s : Shared) (H : Hp) (vs : List V) (Q : VK) (E : XK), Room k (A.deeper (envOfC q (defScope st) s.heap.objs.size f cdv)) → sp vs H Q E →
      ∃ t, PSs (cxOf CX0 P w K mg base N q (defScope st) f cdv A outer s H E).nox (defBody st) t ∧ t { nx := fun _ H' => Q .non H', rt := Q } (start N vs) H) : CalID P w K mg base CX0 (k + 1) C dvs sp := by
  obtain ⟨ds, v, b⟩ := D.bd
  refine ⟨f, fd, ps, ds, D.fn.ok S len fun cdv A outer s H vs Q E hr h => ?_, D.mke, D.bn, v, b⟩
  obtain ⟨t, h1, h2⟩ := hbody cdv A outer s H vs Q E hr h
  exact ⟨t, h1.nox, h2⟩
theorem Dmk.ok (D : Dmk K C m q st ps n kw kv f fd) (S : FnScope N ps (defScope st)) (len : ∀ vs H Q E, sp vs H Q E → vs.length = ps.length)
    (hbody : ∀ (cdv : Value) (A : Around) (outer : List Env) (s : Shared) (H : Hp) (vs : List V) (Q : VK) (E : XK), Room k (A.deeper (envOfC q (defScope st) s.heap.objs.size f cdv)) → sp vs H Q E →
      ∃ t, PSs (cxOf CX0 P w K mg base N q (defScope st) f cdv A outer s H E).nox (defBody st) t ∧ t { nx := fun _ H' => Q .non H', rt := Q } (start N vs) H) : CalMK P w K mg base CX0 (k + 1) C m n kw kv sp := by
  obtain ⟨ds, v, b⟩ := D.bd
  exact ⟨f, fd, ps, ds, D.fn.ok S len hbody, D.me, v, b, D.bk⟩
theorem Dmk.okX (D : Dmk K C m q st ps n kw kv f fd) (S : FnScope N ps (defScope st)) (len : ∀ vs H Q E, sp vs H Q E → vs.length = ps.length)
    (hbody : ∀ (cdv : Value) (A : Around) (outer : List Env) (s : Shared) (H : Hp) (vs : List V) (Q : VK) (E : XK), Room k (A.deeper (envOfC q (defScope st) s.heap.objs.size f cdv)) → sp vs H Q E →
      ∃ t, PSs (cxOf (L2.CX P w) P w K mg base N q (defScope st) f cdv A outer s H E) (defBody st) t ∧ t { nx := fun _ H' => Q .non H', rt := Q } (start N vs) H) : CalMK P w K mg base (L2.CX P w) (k + 1) C m n kw kv sp := by
  obtain ⟨ds, v, b⟩ := D.bd
  exact ⟨f, fd, ps, ds, D.fn.okX S len hbody, D.me, v, b, D.bk⟩
/-- the two ways to bind an __init__ whose last parameter has a default -/
theorem did_mk {oc : Value} {od an : Option Addr} {osl : Array (Option Value)} {kV doc pm cdv ct : Value} {T : Addr} {o : Obj} {its : List Value} {nn : Nat} (l : K.lookup f = some ⟨oc, od, .func (PySem.W.fnOf "__init__" q (defArgs st) (defBody st) (defScope st) (.ref T) kV doc pm an cdv ct), osl⟩)
    (c : PySem.W.codeIn K cdv q = true) (k : PySem.W.keepIn K (.ref f) = true) (lT : K.lookup T = some o) (hd : o.data = .seq its.toArray nn) (ne : dvs ≠ []) (hv : Vals dvs its) (mke : Mk K C f)
    (hn : n + dvs.length = ps.length)
    (h1 : ∀ (T : Addr) (kV doc pm : Value) (an : Option Addr) (cdv ct : Value) (us its : List Value), us.length = ps.length → its.length = dvs.length →
      ∃ k, bindArgs (PySem.W.fnOf "__init__" q (defArgs st) (defBody st) (defScope st) (.ref T) kV doc pm an cdv ct) ⟨us, []⟩ = seqItems? (.ref T) >>= k ∧ k (some its.toArray) = pure (ps.zip (us ++ its.drop dvs.length)))
    (h0 : ∀ (T : Addr) (kV doc pm : Value) (an : Option Addr) (cdv ct : Value) (us its : List Value), us.length = n → its.length = dvs.length →
      ∃ k, bindArgs (PySem.W.fnOf "__init__" q (defArgs st) (defBody st) (defScope st) (.ref T) kV doc pm an cdv ct) ⟨us, []⟩ = seqItems? (.ref T) >>= k ∧ k (some its.toArray) = pure (ps.zip (us ++ its.drop 0))) :
    Did K C q st ps dvs f (PySem.W.fnOf "__init__" q (defArgs st) (defBody st) (defScope st) (.ref T) kV doc pm an cdv ct) := by
  have F : FunD K "__init__" q (defArgs st) (defBody st) (defScope st) dvs [] f (PySem.W.fnOf "__init__" q (defArgs st) (defBody st) (defScope st) (.ref T) kV doc pm an cdv ct) :=
    ⟨⟨oc, od, .ref T, kV, doc, pm, an, cdv, ct, osl, rfl, l, c, .inr ⟨ne, T, o, its, nn, rfl, lT, hd, hv⟩, .inl rfl⟩, k⟩
  refine ⟨F, mke, ?_, ?_⟩
  · obtain ⟨ds, v, b⟩ := F.binds1 (ps := ps) ps.length dvs.length ne (by omega) h1
    rw [List.drop_length] at v
    cases v
    exact b
  · obtain ⟨ds, v, b⟩ := F.binds1 (ps := ps) n 0 ne (by omega) h0
    exact ⟨ds, v, b⟩
/-- .. of a method whose only default is that of its keyword-only parameter -/
theorem dmk_mk {oc : Value} {od an : Option Addr} {osl : Array (Option Value)} {doc pm cdv ct : Value} {D : Addr} {u : Value} (l : K.lookup f = some ⟨oc, od, .func (PySem.W.fnOf m q (defArgs st) (defBody st) (defScope st) .none (.ref D) doc pm an cdv ct), osl⟩)
    (c : PySem.W.codeIn K cdv q = true) (k : PySem.W.keepIn K (.ref f) = true) (hD : PySem.W.nsIn K D kw = some (some u)) (hu : RelV kv u) (me : Meth K C m f) (hps : n + 1 = ps.length)
    (h : ∀ (D : Addr) (doc pm : Value) (an : Option Addr) (cdv ct : Value) (us : List Value) (x : Value), us.length = n → KwChain D [(kw, x)] (bindArgs (PySem.W.fnOf m q (defArgs st) (defBody st) (defScope st) .none (.ref D) doc pm an cdv ct) ⟨us, []⟩) (ps.zip (us ++ [x])))
    (h2 : ∀ (D : Addr) (doc pm : Value) (an : Option Addr) (cdv ct : Value) (us : List Value) (x : Value), us.length = n → bindArgs (PySem.W.fnOf m q (defArgs st) (defBody st) (defScope st) .none (.ref D) doc pm an cdv ct) ⟨us, [(kw, x)]⟩ = pure (ps.zip (us ++ [x]))) :
    Dmk K C m q st ps n kw kv f (PySem.W.fnOf m q (defArgs st) (defBody st) (defScope st) .none (.ref D) doc pm an cdv ct) := by
  have F : FunD K m q (defArgs st) (defBody st) (defScope st) [] [(kw, kv)] f (PySem.W.fnOf m q (defArgs st) (defBody st) (defScope st) .none (.ref D) doc pm an cdv ct) :=
    ⟨⟨oc, od, .none, .ref D, doc, pm, an, cdv, ct, osl, rfl, l, c, .inl ⟨rfl, rfl⟩, .inr ⟨D, rfl, fun p hp => by cases List.mem_singleton.mp hp; exact ⟨u, hD, hu⟩⟩⟩, k⟩
  refine ⟨⟨⟨oc, od, .ref D, doc, pm, an, cdv, ct, osl, rfl, l, c⟩, k⟩, me, ?_, ?_⟩
  · exact F.binds0 (ps := ps) n (fun z => by cases z) hps fun D doc pm an cdv ct us ks h1 h2 => match ks, h2 with
      | [x], _ => h D doc pm an cdv ct us x h1
  · refine ⟨fun s us ws X l1 l2 => ?_, fun r1 r2 => r1.append r2⟩
    match ws, l2 with
    | [x], _ => exact BindsTo.of_eq (h2 D doc pm an cdv ct us x l1)
end
/-- o.m(e, .., k = v) -/
def tMethK (C : Addr) (m : Str) (n : Nat) (sp : Sp) (E : XK) (ta : TE) (t tk : TA) : TE := fun σ H Q => ta σ H fun x H1 => ∃ a dx fs, x = .ref a ∧ H1 a = some (.ins C dx fs) ∧ fs.lookup m = none ∧
  t σ H1 fun vs H2 => tk σ H2 fun zs H3 => vs.length + 1 = n ∧ zs.length = 1 ∧ sp ((x :: vs) ++ zs) H3 Q E
section
variable {X : Cx} {k j n : Nat} {C : Addr} {m x kw : Str} {kv : V} {dvs : List V} {sp : Sp} {p pos apos : Pos} {o e : Expr} {es : List Expr} {kws : List Keyword} {ta : TE} {t tk : TA}
theorem pe_calID (c : CalID X.prog X.w X.K X.mg X.base CX0 k C dvs sp) (gC : X.mg x = some (.ref C)) (hr : Room j X.A) (hk : k + 1 ≤ j) (hg : Gl X x) (ha : PA X (e :: es) t)
    (hdb : (x == ("__debug__" : Str)) = false := by decide) (he : starEach (e :: es) X.env = (false, eval e X.env) :: starEach es X.env := by rfl) (hpl : (backTo pos (starEach es X.env)).any (·.1) = false := by rfl) :
    PE X (.Call (.Name x p) (e :: es) [] pos) (tMake C sp [] E0 t) := by
  obtain ⟨f, fd, ps, ds, F, mk, b, _, _⟩ := c.ex
  exact pe_make mk F (hr.mono hk) hg gC b .nil pass0 ha hdb he hpl
theorem pe_calID0 (c : CalID X.prog X.w X.K X.mg X.base CX0 k C dvs sp) (gC : X.mg x = some (.ref C)) (hr : Room j X.A) (hk : k + 1 ≤ j) (hg : Gl X x)
    (hdb : (x == ("__debug__" : Str)) = false := by decide) : PE X (.Call (.Name x p) [] [] pos) (tMake C sp dvs E0 tNil) := by
  obtain ⟨f, fd, ps, ds, F, mk, _, v, b⟩ := c.ex
  exact pe_make0 mk F (hr.mono hk) hg gC b v pass0 hdb
theorem pe_calMKd (c : CalMK X.prog X.w X.K X.mg X.base CX0 k C m n kw kv sp) (cl : Cls X.K C) (hr : Room j X.A) (hk : k ≤ j) (ho : PE X o ta) (ha : PA X (e :: es) t) {pl : Sem Bool}
    (hst : starEach (e :: es) X.env = (false, eval e X.env) :: starEach es X.env := by rfl) (hpl : (backTo pos (starEach es X.env)).any (·.1) = false := by rfl)
    (ht : eval (.Call (.Attribute o m apos) (e :: es) [] pos) X.env = (do
      let ov ← eval o X.env
      standAt apos.atName
      let (f, first) ← holding [ov] (getMethod ov m pl)
      callWith pos f first (backTo pos (starEach (e :: es) X.env)) (backToKw pos (keywordEach [] X.env))) := by rfl) :
    PE X (.Call (.Attribute o m apos) (e :: es) [] pos) (tMeth C m sp [kv] E0 ta t) := by
  obtain ⟨f, fd, ps, ds, F, me, v, b, _⟩ := c.ex
  exact pe_meth ho cl me F (hr.mono hk) b v pass0 ha hst hpl ht
theorem pe_calMK (c : CalMK X.prog X.w X.K X.mg X.base CX0 k C m n kw kv sp) (cl : Cls X.K C) (hr : Room j X.A) (hk : k ≤ j) (ho : PE X o ta) (ha : PA X (e :: es) t) (hkw : PK X kws tk) {pl : Sem Bool}
    (hall : (backToKw pos (keywordEach kws X.env)).all (·.1.isSome) = true := by rfl) (hks : (backToKw pos (keywordEach kws X.env)).filterMap (·.1) = [kw] := by rfl)
    (he : starEach (e :: es) X.env = (false, eval e X.env) :: starEach es X.env := by rfl) (hpl : ((backTo pos (starEach (e :: es) X.env)).any (·.1) || (backToKw pos (keywordEach kws X.env)).any (·.1.isNone)) = false := by rfl)
    (ht : eval (.Call (.Attribute o m apos) (e :: es) kws pos) X.env = (do
      let ov ← eval o X.env
      standAt apos.atName
      let (f, first) ← holding [ov] (getMethod ov m pl)
      callWith pos f first (backTo pos (starEach (e :: es) X.env)) (backToKw pos (keywordEach kws X.env))) := by rfl) :
    PE X (.Call (.Attribute o m apos) (e :: es) kws pos) (tMethK C m n sp E0 ta t tk) := by
  obtain ⟨f, fd, ps, ds, F, me, _, _, b⟩ := c.ex
  refine ⟨fun pins s σ H Q I h => ?_⟩
  refine PySem.W.methodCall_KW (pl := pl) (thn (ho.run pins s σ H _ I h) fun u s1 ⟨x, H1, I1, rx, a, dx, fs, ex, ea, l, q⟩ => ?_) ht
  subst ex
  obtain rfl : u = Value.ref a := rx
  refine getmeth_ok I1 ea cl me l ?_
  refine PySem.W.callWith_KW (first := [.ref a]) (h₀ := X.base) I.ok.mod.kin me.kp hall (thn (ha.run pos pins s1 σ H1 _ I1 q) fun us s2 ⟨vs, H2, I2, r, q2⟩ => ?_) hpl he
  refine thn (hkw.run pos pins s2 σ H2 _ I2 q2) fun ws s3 ⟨zs, H3, I3, rz, l1, l2, q3⟩ => ⟨I3.kIn, ?_⟩
  rw [hks]
  exact run_fnN (us := .ref a :: us) (vs := .ref a :: vs) F (hr.mono hk) b pass0 I3 (.cons rfl r) rz l1 l2 q3
end
def MkEnd (n : Nat) (sp : Sp) (E : XK) (x : V) (vs zs : List V) (H3 : Hp) (Q : VK) : Prop := vs.length + 1 = n ∧ zs.length = 1 ∧ sp ((x :: vs) ++ zs) H3 Q E
def MethXK (C : Addr) (m : Str) (n : Nat) (sp : Sp) (E : XK) (t tk : TA) (σ : L2.St) (x : V) (H1 : Hp) (Q : VK) : Prop := ∃ a dx fs, x = .ref a ∧ H1 a = some (.ins C dx fs) ∧ fs.lookup m = none ∧
  t σ H1 fun vs H2 => tk σ H2 fun zs H3 => MkEnd n sp E x vs zs H3 Q
section
variable {K : PySem.W.Frag} {M G H : Hp} {σ : L2.St} {x : V} {ta : TE} {t tk : TA} {Q : VK} {a C dx : Addr} {fs : List (Str × V)} {m : Str} {sp : Sp} {E : XK} {n : Nat}
theorem w_methK (h : ta σ H fun x H1 => MethXK C m n sp E t tk σ x H1 Q) : tMethK C m n sp E ta t tk σ H Q := h
theorem w_methKM (j : J M G H) (h : M a = some (.ins C dx fs)) (l : fs.lookup m = none) (q : t σ H fun vs H2 => tk σ H2 fun zs H3 => MkEnd n sp E (.ref a) vs zs H3 Q) : MethXK C m n sp E t tk σ (.ref a) H Q := ⟨a, dx, fs, rfl, j.m _ _ h, l, q⟩
theorem w_mkEnd {vs zs : List V} (l1 : vs.length + 1 = n) (l2 : zs.length = 1) (q : sp ((x :: vs) ++ zs) H Q E) : MkEnd n sp E x vs zs H Q := ⟨l1, l2, q⟩
end
local macro_rules
  | `(tactic| walk_at "v") => `(tactic| with_reducible refine w_methK ?_)
/-! match: patterns that are sequences of texts, names and _, over a tuple -/
inductive MP where
  | txt (s : Str) | cap (i : Nat) | any
def MP.all : List MP → List V → Option (List (Nat × V))
  | .txt s :: ps, x :: xs => if x = .str s then MP.all ps xs else none
  | .cap i :: ps, x :: xs => (MP.all ps xs).map fun r => (i, x) :: r
  | .any :: ps, _ :: xs => MP.all ps xs
  | _, _ => some []
/-- the comparisons that are made are those of texts with plain values -/
def MP.okc : List MP → List V → Prop
  | .txt s :: ps, x :: xs => scal x (.str s) = true ∧ (x = .str s → MP.okc ps xs)
  | .cap _ :: ps, _ :: xs => MP.okc ps xs
  | .any :: ps, _ :: xs => MP.okc ps xs
  | _, _ => True
def setAll : List (Nat × V) → L2.St → L2.St
  | [], σ => σ
  | p :: r, σ => setAll r (σ.set p.1 (some p.2))
def MBind (X : Cx) (b : Str × Value) (p : Nat × V) : Prop := X.N[p.1]? = some b.1 ∧ Loc X.env.scope b.1 ∧ (X.fn b.1 = true ∨ X.env.scope.names.lookup b.1 = some .local) ∧ RelV p.2 b.2
def MBinds (X : Cx) : Option (List (Str × Value)) → Option (List (Nat × V)) → Prop
  | none, none => True
  | some bs, some r => Paired (MBind X) bs r
  | _, _ => False
structure PMs (X : Cx) (ps : List Pattern) (ms : List MP) : Prop where
  len : ms.length = ps.length
  run : ∀ (pins : List (Addr × Obj)) (s : Shared) (σ : L2.St) (H : Hp) (xs : List V) (us : List Value) (Q : Option (List (Str × Value)) → Shared → Prop), Inv X pins σ H s → Vals xs us → xs.length = ps.length → MP.okc ms xs →
    (∀ r s', Inv X pins σ H s' → MBinds X r (MP.all ms xs) → Q r s') → wpAny (model X.prog X.w) X.A (matchEach ps X.env us) Q X.xe s
section
variable {X : Cx} {K : PySem.W.Frag}
theorem pms_nil : PMs X [] [] := ⟨rfl, fun pins s σ H xs us Q I r hl hc k => by
  cases xs with
  | nil => cases r; exact wpAny_matchEach_nil (k _ s I .nil)
  | cons x xs => cases hl⟩
theorem pms_txt {x : Str} {j : Nat} {p p2 : Pos} {ps : List Pattern} {ms : List MP} (h : PMs X ps ms) : PMs X (.MatchValue (.Constant (.str x) j p) p2 :: ps) (.txt x :: ms) := by
  refine ⟨congrArg (· + 1) h.len, fun pins s σ H xs us Q I r hl hc k => ?_⟩
  cases xs with
  | nil => cases hl
  | cons y ys =>
    cases r with
    | cons ry rys =>
      obtain ⟨c1, c2⟩ := hc
      refine wpAny_matchEach_cons (wpAny_matchPattern_Value (thn ((pe_str (X := X) (x := x)).run pins s σ H (fun v H1 => v = .str x ∧ H1 = H) I ⟨rfl, rfl⟩) fun u s1 q => ?_)) rfl
      obtain ⟨v, H1, I1, rv, rfl, rfl⟩ := q
      refine thn (op_eq pins s1 σ H1 y (.str x) _ u (fun z H2 => z = .bl (decide (y = .str x)) ∧ H2 = H1) I1 ry rv ⟨c1, rfl, rfl⟩) fun c s2 q2 => ?_
      obtain ⟨z, H2, I2, rz, rfl, rfl⟩ := q2
      cases rz
      refine wpAny_truthy_bool ?_
      by_cases e : y = .str x
      · rw [decide_eq_true e, if_pos rfl]
        refine h.run pins s2 σ H2 ys _ _ I2 rys (by simpa using hl) (c2 e) fun r' s3 I3 b => ?_
        have e2 : MP.all (.txt x :: ms) (y :: ys) = MP.all ms ys := if_pos e
        have kk := k r' s3 I3 (by rw [e2]; exact b)
        cases r' with
        | none => exact kk
        | some more => exact kk
      · rw [decide_eq_false e, if_neg Bool.false_ne_true]
        refine k none s2 I2 ?_
        have e2 : MP.all (.txt x :: ms) (y :: ys) = none := if_neg e
        rw [e2]; trivial
theorem pms_any {p : Pos} {ps : List Pattern} {ms : List MP} (h : PMs X ps ms) : PMs X (.MatchAs none none p :: ps) (.any :: ms) := by
  refine ⟨congrArg (· + 1) h.len, fun pins s σ H xs us Q I r hl hc k => ?_⟩
  cases xs with
  | nil => cases hl
  | cons y ys =>
    cases r with
    | cons ry rys =>
      refine wpAny_matchEach_cons (wpAny_matchPattern_Capture ?_) rfl
      refine h.run pins s σ H ys _ _ I rys (by simpa using hl) hc fun r' s3 I3 b => ?_
      have kk := k r' s3 I3 b
      cases r' with
      | none => exact kk
      | some more => exact kk
theorem pms_cap {i : Nat} {x : Str} {p : Pos} {ps : List Pattern} {ms : List MP} (hi : X.N[i]? = some x) (hx : Loc X.env.scope x) (h : PMs X ps ms)
    (hf : X.fn x = true ∨ X.env.scope.names.lookup x = some .local := by first | exact .inl rfl | exact .inr rfl | assumption) : PMs X (.MatchAs none (some x) p :: ps) (.cap i :: ms) := by
  refine ⟨congrArg (· + 1) h.len, fun pins s σ H xs us Q I r hl hc k => ?_⟩
  cases xs with
  | nil => cases hl
  | cons y ys =>
    cases r with
    | cons ry rys =>
      refine wpAny_matchEach_cons (wpAny_matchPattern_Capture ?_) rfl
      refine h.run pins s σ H ys _ _ I rys (by simpa using hl) hc fun r' s3 I3 b => ?_
      have kk := k (r'.map fun bs => (x, _) :: bs) s3 I3 (by
        show MBinds X _ ((MP.all ms ys).map _)
        cases e : MP.all ms ys with
        | none => rw [e] at b; cases r' with
          | none => trivial
          | some _ => exact b
        | some t => rw [e] at b; cases r' with
          | none => exact b
          | some _ => exact .cons ⟨hi, hx, hf, ry⟩ b)
      cases r' with
      | none => exact kk
      | some more => exact kk
/-- the names are stored, one after another -/
theorem bind_all (hN : X.N.Nodup) {pins : List (Addr × Obj)} {H : Hp} : ∀ {bs : List (Str × Value)} {r : List (Nat × V)} {σ : L2.St} {s : Shared} {Q : Unit → Shared → Prop}, Paired (MBind X) bs r → Inv X pins σ H s →
    (∀ s', Inv X pins (setAll r σ) H s' → Q () s') → wpAny (model X.prog X.w) X.A (assignInOrder (bs.map fun (n, _) => bindName X.env n) (bs.map (·.2))) Q X.xe s
  | _, _, _, s, _, .nil, I, k => wpAny_assignInOrder_none (k s I)
  | _, _, _, _, _, .cons h t, I, k => by
    obtain ⟨h1, h2, h3, h4⟩ := h
    exact wpAny_assignInOrder_more (wpAny_bindName (store_ok I hN h1 h2 h4 (fun s' I' => bind_all hN t I' k) h3))
def tCs (K : PySem.W.Frag) : List (Option (List MP) × TS) → V → TS
  | [], _ => fun D σ H => D.nx σ H
  | (none, t) :: _, _ => t
  | (some ms, t) :: rest, v => fun D σ H => ∃ a xs, v = .ref a ∧ SqT K H a xs ∧ ((xs.length ≠ ms.length ∧ tCs K rest v D σ H) ∨ (xs.length = ms.length ∧ MP.okc ms xs ∧
      ((MP.all ms xs = none ∧ tCs K rest v D σ H) ∨ ∃ r, MP.all ms xs = some r ∧ t D (setAll r σ) H)))
structure PCs (X : Cx) (cs : List MatchCase) (ts : List (Option (List MP) × TS)) : Prop where
  run : ∀ (pins : List (Addr × Obj)) (s : Shared) (σ : L2.St) (H : Hp) (D : Ends) (v : V) (u : Value) (first : Bool), Inv X pins σ H s → RelV v u → tCs X.K ts v D σ H →
    wpAny (model X.prog X.w) X.A (matchCases cs X.env u first) (SP X pins D) X.xe s
theorem pcs_nil : PCs X [] [] := ⟨fun pins s σ H D v u first I r h => wpAny_matchCases_nil ⟨σ, H, I, h⟩⟩
theorem pcs_any {p : Pos} {body : List Stmt} {rest : List MatchCase} {t : TS} (h : PSs X body t) : PCs X (⟨.MatchAs none none p, none, body⟩ :: rest) [(none, t)] :=
  ⟨fun pins s σ H D v u first I r q => wpAny_matchCases_cons (wpAny_matchPattern_Capture (wpAny_assignInOrder_none (h.run pins s σ H D I q)))⟩
theorem pcs_seq {p : Pos} {ps : List Pattern} {ms : List MP} {body : List Stmt} {rest : List MatchCase} {t : TS} {ts : List (Option (List MP) × TS)} (hc : X.calm = true) (hN : X.N.Nodup) (hm : PMs X ps ms) (h : PSs X body t) (hr : PCs X rest ts)
    (hstar : ps.findIdx? (·.isStar) = none := by rfl) (hwild : (ps.all fun p => p.isWildcard || (p.isStar && p.names.isEmpty)) = false := by rfl) : PCs X (⟨.MatchSequence ps p, none, body⟩ :: rest) ((some ms, t) :: ts) := by
  refine ⟨fun pins s σ H D v u first I r q => wpAny_matchCases_cons ?_⟩
  obtain ⟨a, xs, rfl, hq, q⟩ := q
  cases r
  obtain ⟨its, rv, ht, hz⟩ := I.tuple hq
  have hfit : ((its.toArray.size : Nat) : Int) < 2 ^ 63 := by
    have e := rv.length
    have z : sizeLine < 2 ^ 63 := by decide
    simp only [List.size_toArray]
    omega
  rcases q with ⟨hn, q⟩ | ⟨hn, hok, q⟩
  · refine matchSeq_tuple_miss ht hfit (by simp only [List.size_toArray, ← rv.length, ← hm.len]; exact hn) ?_ hstar hwild
    exact hr.run pins _ σ H D (.ref a) _ _ (I.tok _) rfl q
  · have hn' : its.toArray.size = ps.length := by simp only [List.size_toArray, ← rv.length, ← hm.len]; exact hn
    refine matchSeq_tuple_hit ht hfit hn' ?_ hstar hwild
    rw [← hn']
    refine unpackItems_tuple (s := { s with toks := s.toks + 1 + 1 }) (I.ok.hd hc) ht fun h' hx => ?_
    have I1 : Inv X pins σ H { s with heap := h', toks := s.toks + 1 + 1 } := I.kept (t' := s.toks + 1 + 1) fun b o e => hx b o (Nat.ne_of_lt (Heap.lt_size e)) e
    refine hm.run pins _ σ H xs _ _ I1 (by simpa using rv) (hn.trans hm.len) hok fun r' s2 I2 b => ?_
    rcases q with ⟨e, q⟩ | ⟨r2, e, q⟩
    · rw [e] at b
      cases r' with
      | none => exact hr.run pins s2 σ H D (.ref a) _ _ I2 rfl q
      | some _ => exact b.elim
    · rw [e] at b
      cases r' with
      | none => exact b.elim
      | some bs => exact bind_all hN b I2 fun s3 I3 => h.run pins s3 _ H D I3 q
def tMatch (K : PySem.W.Frag) (te : TE) (ts : List (Option (List MP) × TS)) : TS := fun D σ H => te σ H fun v H1 => tCs K ts v D σ H1
theorem ps_match {e : Expr} {te : TE} {cs : List MatchCase} {ts : List (Option (List MP) × TS)} {pos : Pos} (he : PE X e te) (h : PCs X cs ts) : PS X (.Match e cs pos) (tMatch X.K te ts) :=
  ⟨fun pins s σ H D I q => wpAny_Match (thn (he.run pins s σ H _ I q) fun u s1 ⟨v, H1, I1, r1, q1⟩ => h.run pins s1 σ H1 D v u true I1 r1 q1)⟩
theorem w_match {te : TE} {ts : List (Option (List MP) × TS)} {D : Ends} {σ : L2.St} {H : Hp} (h : te σ H fun v H1 => tCs K ts v D σ H1) : tMatch K te ts D σ H := h
/-- a tuple that is too long or too short, or begins with another text -/
theorem w_caseL {ms : List MP} {t : TS} {rest : List (Option (List MP) × TS)} {M G H : Hp} {a : Addr} {xs : List V} {D : Ends} {σ : L2.St} (j : J M G H) (h : SqT K G a xs) (n : xs.length ≠ ms.length) (q : tCs K rest (.ref a) D σ H) :
    tCs K ((some ms, t) :: rest) (.ref a) D σ H := ⟨a, xs, rfl, st_mono j.g h, .inl ⟨n, q⟩⟩
theorem w_caseN {ms : List MP} {t : TS} {rest : List (Option (List MP) × TS)} {M G H : Hp} {a : Addr} {xs : List V} {D : Ends} {σ : L2.St} (j : J M G H) (h : SqT K G a xs) (n : xs.length = ms.length) (c : MP.okc ms xs) (e : MP.all ms xs = none) (q : tCs K rest (.ref a) D σ H) :
    tCs K ((some ms, t) :: rest) (.ref a) D σ H := ⟨a, xs, rfl, st_mono j.g h, .inr ⟨n, c, .inl ⟨e, q⟩⟩⟩
theorem w_caseY {ms : List MP} {t : TS} {rest : List (Option (List MP) × TS)} {M G H : Hp} {a : Addr} {xs : List V} {r : List (Nat × V)} {D : Ends} {σ : L2.St} (j : J M G H) (h : SqT K G a xs) (n : xs.length = ms.length) (c : MP.okc ms xs) (e : MP.all ms xs = some r) (q : t D (setAll r σ) H) :
    tCs K ((some ms, t) :: rest) (.ref a) D σ H := ⟨a, xs, rfl, st_mono j.g h, .inr ⟨n, c, .inr ⟨r, e, q⟩⟩⟩
theorem w_caseA {t : TS} {v : V} {D : Ends} {σ : L2.St} {H : Hp} (q : t D σ H) : tCs K [(none, t)] v D σ H := q
end
/-- the rest of a pattern: names and _ alone -/
def plainP : List MP → Bool
  | [] => true
  | .txt _ :: _ => false
  | _ :: ps => plainP ps
def bnds : List MP → List V → List (Nat × V)
  | .cap i :: ps, x :: xs => (i, x) :: bnds ps xs
  | .any :: ps, _ :: xs => bnds ps xs
  | _, _ => []
theorem plain_all : ∀ {ps : List MP} {ys : List V}, plainP ps = true → MP.okc ps ys ∧ MP.all ps ys = some (bnds ps ys)
  | [], _, _ => ⟨trivial, rfl⟩
  | .txt _ :: _, _, h => nomatch h
  | .cap _ :: _, [], _ => ⟨trivial, rfl⟩
  | .any :: _, [], _ => ⟨trivial, rfl⟩
  | .cap i :: ps, y :: ys, h => by
    have ih := plain_all (ps := ps) (ys := ys) h
    refine ⟨ih.1, ?_⟩
    show (MP.all ps ys).map _ = _
    rw [ih.2]; rfl
  | .any :: ps, y :: ys, h => plain_all (ps := ps) (ys := ys) h
theorem w_caseS {K : PySem.W.Frag} {z s : Str} {ps : List MP} {t : TS} {rest : List (Option (List MP) × TS)} {M G H : Hp} {a : Addr} {ys : List V} {D : Ends} {σ : L2.St} (j : J M G H) (h : SqT K G a (.str z :: ys)) (hp : plainP ps = true)
    (h1 : z = s → ys.length = ps.length → t D (setAll (bnds ps ys) σ) H) (h2 : ¬ (z = s ∧ ys.length = ps.length) → tCs K rest (.ref a) D σ H) : tCs K ((some (.txt s :: ps), t) :: rest) (.ref a) D σ H := by
  by_cases l : ys.length = ps.length
  · have ll : (V.str z :: ys).length = (MP.txt s :: ps).length := congrArg (· + 1) l
    have c : MP.okc (.txt s :: ps) (.str z :: ys) := ⟨rfl, fun _ => (plain_all hp).1⟩
    by_cases e : z = s
    · refine w_caseY j h ll c (r := bnds ps ys) ?_ (h1 e l)
      show (if V.str z = .str s then _ else _) = _
      rw [if_pos (congrArg V.str e)]
      exact (plain_all hp).2
    · refine w_caseN j h ll c ?_ (h2 fun q => e q.1)
      show (if V.str z = .str s then _ else _) = _
      exact if_neg fun q => e (V.str.inj q)
  · exact w_caseL j h (fun q => l (Nat.succ.inj q)) (h2 fun q => l q.2)
/-- a command that is known: the case of its name and length -/
theorem w_caseK {K : PySem.W.Frag} {z : Str} {ps : List MP} {t : TS} {rest : List (Option (List MP) × TS)} {M G H : Hp} {a : Addr} {ys : List V} {D : Ends} {σ : L2.St} (j : J M G H) (h : SqT K G a (.str z :: ys)) (hp : plainP ps = true) (l : ys.length = ps.length)
    (q : t D (setAll (bnds ps ys) σ) H) : tCs K ((some (.txt z :: ps), t) :: rest) (.ref a) D σ H := w_caseS j h hp (fun _ _ => q) fun n => (n ⟨rfl, l⟩).elim
theorem w_caseO {K : PySem.W.Frag} {z s : Str} {ps : List MP} {t : TS} {rest : List (Option (List MP) × TS)} {M G H : Hp} {a : Addr} {ys : List V} {D : Ends} {σ : L2.St} (j : J M G H) (h : SqT K G a (.str z :: ys)) (hp : plainP ps = true) (n : z ≠ s)
    (q : tCs K rest (.ref a) D σ H) : tCs K ((some (.txt s :: ps), t) :: rest) (.ref a) D σ H := w_caseS j h hp (fun e _ => (n e).elim) fun _ => q
local macro_rules
  | `(tactic| walk_at "v") => `(tactic| with_reducible refine w_match ?_)
/-! ### dicts with text keys, displayed, read and written -/
def DispQ (p : Addr) (Q : VK) : List (V × V) → Hp → Prop := fun ps H2 => H2 p = some (.dK []) ∧ ∃ kvs : List (Key × V), ps = kvs.map (fun kv => (kV kv.1, kv.2)) ∧ kvs.length ≤ 15 ∧ Q (.ref p) (upd H2 p (.dK (mergeK [] kvs)))
theorem w_dispM {M G H : Hp} {trs : List (TE × TE)} {σ : L2.St} {Q : VK} (j : J M G H) (k : ∀ p H1, J (upd M p (.dK [])) G H1 → M p = none → G p = none → tPairs trs σ H1 (DispQ p Q)) : tDisp trs σ H Q :=
  fun p h => k p _ (j.newM h) (j.freeM h) (j.freeG h)
theorem w_pairC {tk tv : TE} {r : List (TE × TE)} {σ : L2.St} {H : Hp} {Q : List (V × V) → Hp → Prop} (h : tk σ H fun x H1 => tv σ H1 fun y H2 => tPairs r σ H2 fun ps H3 => Q ((x, y) :: ps) H3) : tPairs ((tk, tv) :: r) σ H Q := h
theorem w_pairN {σ : L2.St} {H : Hp} {Q : List (V × V) → Hp → Prop} (h : Q [] H) : tPairs [] σ H Q := h
theorem mergeK_nodup : ∀ (kvs acc : List (Key × V)), ((acc ++ kvs).map (·.1)).Nodup → mergeK acc kvs = acc ++ kvs
  | [], acc, _ => by show acc = acc ++ []; rw [List.append_nil]
  | kv :: r, acc, h => by
    have e : putK acc kv.1 kv.2 = acc ++ [kv] := by
      unfold putK
      have n : (acc.any fun x => decide (x.1 = kv.1)) = false := by
        rw [List.any_eq_false]
        intro x hx z
        have z : x.1 = kv.1 := of_decide_eq_true z
        rw [List.map_append, List.nodup_append] at h
        exact h.2.2 _ (List.mem_map_of_mem hx) _ (List.mem_map_of_mem List.mem_cons_self) z
      simp [n]
    show mergeK (putK acc kv.1 kv.2) r = _
    rw [e, mergeK_nodup r (acc ++ [kv]) (by rw [List.append_assoc]; exact h), List.append_assoc]; rfl
theorem w_dispE {M G H : Hp} {p : Addr} {Q : VK} {ps : List (V × V)} (kvs : List (Key × V)) (j : J M G H) (h : M p = some (.dK [])) (e : ps = kvs.map (fun kv => (kV kv.1, kv.2))) (l : kvs.length ≤ 15) (n : (kvs.map (·.1)).Nodup) (k : ∀ H', J (upd M p (.dK kvs)) G H' → Q (.ref p) H') : DispQ p Q ps H :=
  ⟨j.m _ _ h, kvs, e, l, by rw [mergeK_nodup kvs [] n]; exact k _ (j.put h)⟩
theorem valV_hd {k : Key} {v : V} {r : List (Key × V)} : valV ((k, v) :: r) k = some v := by simp [valV]
theorem valV_tl {k k' : Key} {v : V} {r : List (Key × V)} (h : ¬ k' = k) : valV ((k', v) :: r) k = valV r k := by simp [valV, h]
section
variable {M G H : Hp} {a : Addr} {kvs : List (Key × V)} {s : Str} {v y : V} {Q : VK}
theorem w_getXS (j : J M G H) (h : Hd M G a kvs) (e : valV kvs (.inr s) = some v) (q : Q v H) : GetX (.ref a) (.str s) H Q := ⟨a, v, rfl, .inl ⟨kvs, .inr s, h.rd j, rfl, e.symm⟩, q⟩
theorem w_putXS {R : Hp → Prop} (j : J M G H) (h : M a = some (.dK kvs)) (z : kvs.length < 1000000) (q : ∀ H', J (upd M a (.dK (putK kvs (.inr s) v))) G H' → R H') : PutX (.ref a) (.str s) v H R :=
  ⟨a, _, rfl, .inl ⟨kvs, .inr s, j.m _ _ h, rfl, sz_lt z, rfl⟩, q _ (j.put h)⟩
end
local macro_rules
  | `(tactic| walk_at "v") => `(tactic| first
    | with_reducible refine w_pairC ?_
    | with_reducible refine w_pairN ?_)
/-! ### Route.__init__ -/
abbrev s_Route___init__ : Stmt := inClass (top 30) 0
abbrev n_Route___init__ : List Str := ["self"]
theorem sc_Route___init__ : FnScope n_Route___init__ ["self"] (defScope s_Route___init__) := ⟨rfl, rfl, rfl, by decide +kernel, rfl, by decide +kernel, by decide +kernel⟩
def rtO (C dx : Addr) (mc tn : Int) (tk : Bool) : HO := .ins C dx (fl_Route (.int mc) (.int tn) (.bl tk))
def sp_Route___init__ (K : PySem.W.Frag) (C : Addr) : Sp := Sg (α := Addr × Addr) (fun x vs M _ => vs = [.ref x.1] ∧ M x.1 = some (.ins C x.2 [])) (fun x M _ v M' G' => v = .non ∧ M' = upd M x.1 (rtO C x.2 0 0 false))
theorem ok_Route___init__ {P : Program} {w : World} {K : PySem.W.Frag} {mg : Str → Option Value} {base : Heap}
    {C_Route : Addr} (T_Route : Tx_Route K mg C_Route)
    {f : Addr} {fd : FuncData} (D : Di K C_Route "Route.__init__" s_Route___init__ ["self"] f fd) : CalI P w K mg base CX0 1 C_Route (sp_Route___init__ K C_Route) := by
  refine D.ok sc_Route___init__ (fun vs H Q E h => ?_) fun cdv A outer s H vs Q E hr h => ?_
  · obtain ⟨x, M, G, j, ⟨rfl, _⟩, _⟩ := h; rfl
  obtain ⟨⟨x, dx⟩, M, G, j, ⟨rfl, hx⟩, k⟩ := h
  dsimp only at hx k
  refine ⟨_, (pss_cons (ps_fld (pv 0) pe_int rfl)
(pss_cons (ps_fld (pv 0) pe_int rfl)
(pss_one (ps_fld (pv 0) pe_bl rfl)))), ?_⟩
  walk_at "start"
  refine w_setX j hx T_Route.cl T_Route.n_machine (by show 0 < 1000; decide) fun H1 j1 => ?_
  rw [nf_Route_machine] at j1
  walk_at "go"
  refine w_setX j1 upd_same T_Route.cl T_Route.n_turn (by show 1 < 1000; decide) fun H2 j2 => ?_
  rw [nf_Route_turn, upd_upd] at j2
  walk_at "go"
  refine w_setX j2 upd_same T_Route.cl T_Route.n_taken (by show 2 < 1000; decide) fun H3 j3 => ?_
  rw [nf_Route_taken, upd_upd] at j3
  walk_at "go"
  exact k _ _ _ _ j3 (Same.refl G) ⟨rfl, rfl⟩
/-! ### Call.__init__ -/
abbrev s_Call___init__ : Stmt := inClass (top 29) 0
abbrev n_Call___init__ : List Str := ["self", "group", "command", "blocked"]
theorem sc_Call___init__ : FnScope n_Call___init__ ["self", "group", "command", "blocked"] (defScope s_Call___init__) := ⟨rfl, rfl, rfl, by decide +kernel, rfl, by decide +kernel, by decide +kernel⟩
structure CiP where
  p : Addr
  dx : Addr
  g : Int
  cv : V
  bv : V
def sp_Call___init__ (K : PySem.W.Frag) (C : Addr) : Sp := Sg (α := CiP) (fun x vs M _ => vs = [.ref x.p, .int x.g, x.cv, x.bv] ∧ M x.p = some (.ins C x.dx [])) (fun x M _ v M' G' => v = .non ∧ M' = upd M x.p (.ins C x.dx (fl_Call (.int x.g) x.cv x.bv .non)))
theorem ok_Call___init__ {P : Program} {w : World} {K : PySem.W.Frag} {mg : Str → Option Value} {base : Heap}
    {C_Call : Addr} (T_Call : Tx_Call K mg C_Call)
    {f : Addr} {fd : FuncData} (D : Di K C_Call "Call.__init__" s_Call___init__ ["self", "group", "command", "blocked"] f fd) : CalI P w K mg base CX0 1 C_Call (sp_Call___init__ K C_Call) := by
  refine D.ok sc_Call___init__ (fun vs H Q E h => ?_) fun cdv A outer s H vs Q E hr h => ?_
  · obtain ⟨x, M, G, j, ⟨rfl, _⟩, _⟩ := h; rfl
  obtain ⟨⟨x, dx, g, cv, bv⟩, M, G, j, ⟨rfl, hx⟩, k⟩ := h
  dsimp only at hx k
  refine ⟨_, (pss_cons (ps_fld (pv 0) (pv 1) rfl)
(pss_cons (ps_fld (pv 0) (pv 2) rfl)
(pss_cons (ps_fld (pv 0) (pv 3) rfl)
(pss_one (ps_fld (pv 0) pe_non rfl))))), ?_⟩
  walk_at "start"
  refine w_setX j hx T_Call.cl T_Call.n_group (by show 0 < 1000; decide) fun H1 j1 => ?_
  rw [nf_Call_group] at j1
  walk_at "go"
  refine w_setX j1 upd_same T_Call.cl T_Call.n_command (by show 1 < 1000; decide) fun H2 j2 => ?_
  rw [nf_Call_command, upd_upd] at j2
  walk_at "go"
  refine w_setX j2 upd_same T_Call.cl T_Call.n_blocked (by show 2 < 1000; decide) fun H3 j3 => ?_
  rw [nf_Call_blocked, upd_upd] at j3
  walk_at "go"
  refine w_setX j3 upd_same T_Call.cl T_Call.n_hint (by show 3 < 1000; decide) fun H4 j4 => ?_
  rw [nf_Call_hint, upd_upd] at j4
  walk_at "go"
  exact k _ _ _ _ j4 (Same.refl G) ⟨rfl, rfl⟩
/-! ### Route.change -/
abbrev s_Route_change : Stmt := inClass (top 30) 1
abbrev n_Route_change : List Str := ["self", "hint", "machines"]
theorem sc_Route_change : FnScope n_Route_change ["self", "hint", "machines"] (defScope s_Route_change) := ⟨rfl, rfl, rfl, by decide +kernel, rfl, by decide +kernel, by decide +kernel⟩
structure RoD where
  mc : Int
  tn : Int
  tk : Bool
structure RhP where
  p : Addr
  dx : Addr
  d : RoD
  h : Option Int
  n : Int
def oV : Option Int → V
  | none => .non
  | some n => .int n
def chgR (d : RoD) (h : Option Int) (n : Int) : RoD := match h with
  | some m => if d.tk = false then ⟨m, d.tn, true⟩ else ⟨(d.tn + 1) % n, (d.tn + 1) % n, false⟩
  | none => ⟨(d.tn + 1) % n, (d.tn + 1) % n, false⟩
def sp_Route_change (K : PySem.W.Frag) (C : Addr) : Sp := Sg (α := RhP) (fun x vs M _ => vs = [.ref x.p, oV x.h, .int x.n] ∧ M x.p = some (rtO C x.dx x.d.mc x.d.tn x.d.tk) ∧ 0 < x.n) (fun x M _ v M' G' => v = .non ∧ M' = upd M x.p (rtO C x.dx (chgR x.d x.h x.n).mc (chgR x.d x.h x.n).tn (chgR x.d x.h x.n).tk))
theorem ok_Route_change {P : Program} {w : World} {K : PySem.W.Frag} {mg : Str → Option Value} {base : Heap}
    {C_Route : Addr} (T_Route : Tx_Route K mg C_Route)
    {f : Addr} {fd : FuncData} (D : Dm K C_Route "change" "Route.change" s_Route_change ["self", "hint", "machines"] f fd) : CalM P w K mg base CX0 1 C_Route "change" (sp_Route_change K C_Route) := by
  refine D.ok sc_Route_change (fun vs H Q E h => ?_) fun cdv A outer s H vs Q E hr h => ?_
  · obtain ⟨x, M, G, j, ⟨rfl, _⟩, _⟩ := h; rfl
  obtain ⟨⟨x, dx, ⟨mc, tn, tk⟩, hh, n⟩, M, G, j, ⟨rfl, hx, hn⟩, k⟩ := h
  dsimp only at hx hn k
  refine ⟨_, (pss_one (ps_if (PW.pt (pw_and (pt_cmp (pc_notN (pv 1))) (pw_and1 (pt_not (pt_val (pe_fld (pv 0) rfl))))))
(pss_cons (ps_fld (pv 0) (pv 1) rfl)
(pss_one (ps_fld (pv 0) pe_bl rfl)))
(pss_cons (ps_fld (pv 0) (pe_op op_mod (pe_op (op_uAddK (K := K) rfl) (pe_fld (pv 0) rfl) pe_int) (pv 2)) rfl)
(pss_cons (ps_fld (pv 0) (pe_fld (pv 0) rfl) rfl)
(pss_one (ps_fld (pv 0) pe_bl rfl)))))), ?_⟩
  have nxt : ∀ (D : Ends), D.nx = (fun _ H' => Q .non H') → chgR ⟨mc, tn, tk⟩ hh n = ⟨(tn + 1) % n, (tn + 1) % n, false⟩ → tSeq
          (sFld K (tVar 0)
            (tOp (rI (fun x j => 0 < j) fun i j => V.int (i % j))
              (tOp (uAdd K) (tFld K (tVar 0) "turn") (tC (V.int 1))) (tVar 2)) "turn")
          (tSeq (sFld K (tVar 0) (tFld K (tVar 0) "turn") "machine")
            (sFld K (tVar 0) (tC (V.bl false)) "taken")) D (L2.start n_Route_change [V.ref x, oV hh, V.int n]) H := by
    intro D hD hc
    walk_at "go"
    refine w_fldM j hx T_Route.cl T_Route.n_turn fl_Route_turn ?_
    walk_at "go"
    refine w_I hn ?_
    walk_at "go"
    refine w_setX j hx T_Route.cl T_Route.n_turn (by show 3 < 1000; decide) fun H1 j1 => ?_
    rw [sf_Route_turn] at j1
    walk_at "go"
    refine w_fldM j1 upd_same T_Route.cl T_Route.n_turn fl_Route_turn ?_
    walk_at "go"
    refine w_setX j1 upd_same T_Route.cl T_Route.n_machine (by show 3 < 1000; decide) fun H2 j2 => ?_
    rw [sf_Route_machine, upd_upd] at j2
    walk_at "go"
    refine w_setX j2 upd_same T_Route.cl T_Route.n_taken (by show 3 < 1000; decide) fun H3 j3 => ?_
    rw [sf_Route_taken, upd_upd] at j3
    walk_at "go"
    rw [hD]
    refine k _ _ _ _ j3 (Same.refl G) ⟨rfl, ?_⟩
    rw [hc]; rfl
  walk_at "start"
  cases hh with
  | none =>
    rw [show decide (oV none = V.non) = true from decide_eq_true rfl]
    refine w_F ?_
    refine w_F ?_
    exact nxt _ rfl rfl
  | some m =>
    rw [show decide (oV (some m) = V.non) = false from decide_eq_false fun z => nomatch z]
    refine w_nf ?_
    walk_at "go"
    refine w_fldM j hx T_Route.cl T_Route.n_taken fl_Route_taken ?_
    cases tk with
    | true =>
      walk_at "v"
      walk_at "v"
      exact nxt _ rfl rfl
    | false =>
      walk_at "go"
      refine w_setX j hx T_Route.cl T_Route.n_machine (by show 3 < 1000; decide) fun H1 j1 => ?_
      rw [sf_Route_machine] at j1
      walk_at "go"
      refine w_setX j1 upd_same T_Route.cl T_Route.n_taken (by show 3 < 1000; decide) fun H2 j2 => ?_
      rw [sf_Route_taken, upd_upd] at j2
      walk_at "go"
      exact k _ _ _ _ j2 (Same.refl G) ⟨rfl, rfl⟩
/-! ### _law_mixed -/
abbrev s_law_mixed : Stmt := top 33
abbrev n_law_mixed : List Str := ["number", "k", "step"]
theorem sc_law_mixed : FnScope n_law_mixed ["number", "k"] (defScope s_law_mixed) := ⟨rfl, rfl, rfl, by decide +kernel, rfl, by decide +kernel, by decide +kernel⟩
def mixed (n k : Int) : Int :=
  ((n * 48271 + k * 69621 + 12345) % 2147483647 * ((n * 48271 + k * 69621 + 12345) % 2147483647 / 65536 + 3) + k) % 2147483647
theorem mixed_b (n k : Int) : 0 ≤ mixed n k ∧ mixed n k < 2147483647 := by
  unfold mixed
  exact ⟨Int.emod_nonneg _ (by decide), Int.emod_lt_of_pos _ (by decide)⟩
def sp_law_mixed (K : PySem.W.Frag) : Sp := Sg (α := Int × Int) (fun a vs _ _ => vs = [.int a.1, .int a.2]) (fun a M _ v M' _ => v = .int (mixed a.1 a.2) ∧ M' = M)
theorem ok_law_mixed {P : Program} {w : World} {K : PySem.W.Frag} {mg : Str → Option Value} {base : Heap}
    {f : Addr} {fd : FuncData} (D : Dn K mg "_law_mixed" s_law_mixed ["number", "k"] f fd) : Cal P w K mg base CX0 1 "_law_mixed" (sp_law_mixed K) := by
  refine D.ok sc_law_mixed (fun vs H Q E h => ?_) fun cdv A outer s H vs Q E hr h => ?_
  · obtain ⟨a, M, G, j, rfl, _⟩ := h; rfl
  obtain ⟨⟨n, k⟩, M, G, j, rfl, q⟩ := h
  refine ⟨_, (pss_cons (ps_set (i := 2) sc_law_mixed.nd rfl (Or.inl rfl) (pe_op op_mod (pe_op (op_uAddK (K := K) rfl) (pe_op (op_uAddK (K := K) rfl) (pe_op op_uMul (pv 0) pe_int) (pe_op op_uMul (pv 1) pe_int)) pe_int) pe_int))
(pss_one (ps_ret (pe_op op_mod (pe_op (op_uAddK (K := K) rfl) (pe_op op_uMul (pv 2) (pe_op (op_uAddK (K := K) rfl) (pe_op op_fdiv (pv 2) pe_int) pe_int)) (pv 1)) pe_int)))), ?_⟩
  walk_at "start"
  refine w_mulI (.inl ?_) ?_
  · have h1 := Int.emod_nonneg (n * 48271 + k * 69621 + 12345) (b := 2147483647) (by decide)
    have h2 := Int.emod_lt_of_pos (n * 48271 + k * 69621 + 12345) (b := 2147483647) (by decide)
    omega
  walk_at "go"
  exact q _ _ _ _ j (Same.refl G) ⟨rfl, rfl⟩
/-! ### _law_draw -/
abbrev s_law_draw : Stmt := top 35
abbrev n_law_draw : List Str := ["draws", "at", "first"]
theorem sc_law_draw : FnScope n_law_draw ["draws"] (defScope s_law_draw) := ⟨rfl, rfl, rfl, by decide +kernel, rfl, by decide +kernel, by decide +kernel⟩
/-- the law's draws: a list of the numbers and of the place -/
def Dr (K : PySem.W.Frag) (M G : Hp) (p : Addr) : Prop :=
  ∃ (q : Addr) (ns : List Int) (at_ : Int), M p = some (.lst [.ref q, .int at_]) ∧ SqL K G q (ns.map V.int) ∧ (∀ n ∈ ns, 0 ≤ n ∧ n < 1000000) ∧ 0 ≤ at_
theorem Dr.ex {K : PySem.W.Frag} {M G G' : Hp} {p : Addr} (d : Dr K M G p) (e : Ex G G') : Dr K M G' p := by
  obtain ⟨q, ns, at_, h1, h2, h3⟩ := d
  exact ⟨q, ns, at_, h1, sl_mono e h2, h3⟩
theorem Dr.upd {K : PySem.W.Frag} {M G : Hp} {p d : Addr} {o : HO} (h : Dr K M G p) (e : d ≠ p) : Dr K (upd M d o) G p := by
  obtain ⟨q, ns, at_, h1, h2, h3⟩ := h
  exact ⟨q, ns, at_, upd_ne' h1 e.symm, h2, h3⟩
theorem Dr.del {K : PySem.W.Frag} {M G : Hp} {p d : Addr} (h : Dr K M G p) (e : d ≠ p) : Dr K (del M d) G p := by
  obtain ⟨q, ns, at_, h1, h2, h3⟩ := h
  exact ⟨q, ns, at_, (del_ne e.symm).trans h1, h2, h3⟩
theorem Dr.ne {K : PySem.W.Frag} {M G : Hp} {p d : Addr} (h : Dr K M G p) (e : M d = none) : d ≠ p := by
  obtain ⟨q, ns, at_, h1, h2, h3⟩ := h
  exact (ne_of_none h1 e).symm
theorem Dr.at9 {K : PySem.W.Frag} {M G : Hp} {p : Addr} (h : Dr K M G p) : ∃ xs, M p = some (.lst xs) := by
  obtain ⟨q, ns, at_, h1, _⟩ := h
  exact ⟨_, h1⟩
theorem Dr.mv9 {K : PySem.W.Frag} {M M' G : Hp} {p : Addr} (h : Dr K M G p) (e : M' p = M p) : Dr K M' G p := by
  obtain ⟨q, ns, at_, h1, h2⟩ := h
  exact ⟨q, ns, at_, e.trans h1, h2⟩
def sp_law_draw (K : PySem.W.Frag) : Sp := Sg (α := Addr) (fun p vs M G => vs = [.ref p] ∧ Dr K M G p)
  (fun p M _ v M' G' => ∃ n : Int, v = .int n ∧ 0 ≤ n ∧ n < 1000000 ∧ Dr K M' G' p ∧ Ag p M M')
theorem atI_map {ns : List Int} {i : Int} (h0 : 0 ≤ i) (h1 : i < ns.length) : ∃ n, n ∈ ns ∧ atI (ns.map V.int) i = some (.int n) := by
  obtain ⟨k, rfl⟩ : ∃ k : Nat, i = k := ⟨i.toNat, by omega⟩
  have hk : k < ns.length := by omega
  refine ⟨ns[k], List.getElem_mem hk, atI_nat ?_⟩
  rw [List.getElem?_map, List.getElem?_eq_getElem hk]; rfl
theorem use_draw {K : PySem.W.Frag} {M G H : Hp} {p : Addr} {Q : VK} {E : XK} (j : J M G H) (d : Dr K M G p)
    (k : ∀ (n : Int) (M' G' H' : Hp), 0 ≤ n → n < 1000000 → J M' G' H' → Ex G G' → Dr K M' G' p → Ag p M M' → Q (.int n) H') : sp_law_draw K ([.ref p] ++ []) H Q E :=
  w_sg p j ⟨rfl, d⟩ fun v M' G' H' j' e ⟨n, ev, h0, h1, d', ag⟩ => by subst ev; exact k n M' G' H' h0 h1 j' e d' ag
/-- what a def that draws promises: a value of which Pv holds -/
def Dg (K : PySem.W.Frag) (Pv : V → Hp → Prop) : Sp := Sg (α := Addr) (fun p vs M G => vs = [.ref p] ∧ Dr K M G p) (fun p M _ v M' G' => Pv v G' ∧ Dr K M' G' p ∧ Ag p M M')
theorem use_dg {K : PySem.W.Frag} {M G H : Hp} {p : Addr} {Q : VK} {E : XK} {Pv : V → Hp → Prop} (j : J M G H) (d : Dr K M G p)
    (k : ∀ (v : V) (M' G' H' : Hp), Pv v G' → J M' G' H' → Ex G G' → Dr K M' G' p → Ag p M M' → Q v H') : Dg K Pv ([.ref p] ++ []) H Q E :=
  w_sg p j ⟨rfl, d⟩ fun v M' G' H' j' e ⟨h, d', ag⟩ => k v M' G' H' h j' e d' ag
/-- .. with the law's keys -/
def KeysAt (K : PySem.W.Frag) (G : Hp) (t : Addr) (ks : List Int) : Prop := SqL K G t (ks.map V.int) ∧ (∀ k ∈ ks, 0 ≤ k ∧ k < 1000) ∧ 3 ≤ ks.length ∧ ks.length ≤ 15
theorem KeysAt.ex {K : PySem.W.Frag} {G G' : Hp} {t : Addr} {ks : List Int} (h : KeysAt K G t ks) (e : Ex G G') : KeysAt K G' t ks := ⟨sl_mono e h.1, h.2⟩
def Dk (K : PySem.W.Frag) (Pv : V → Hp → Prop) : Sp := Sg (α := Addr × Addr × List Int) (fun a vs M G => vs = [.ref a.1, .ref a.2.1] ∧ Dr K M G a.1 ∧ KeysAt K G a.2.1 a.2.2) (fun a M _ v M' G' => Pv v G' ∧ Dr K M' G' a.1 ∧ Ag a.1 M M')
theorem use_dk {K : PySem.W.Frag} {M G H : Hp} {p t : Addr} {ks : List Int} {Q : VK} {E : XK} {Pv : V → Hp → Prop} (j : J M G H) (d : Dr K M G p) (hk : KeysAt K G t ks)
    (k : ∀ (v : V) (M' G' H' : Hp), Pv v G' → J M' G' H' → Ex G G' → Dr K M' G' p → Ag p M M' → Q v H') : Dk K Pv ([.ref p, .ref t] ++ []) H Q E :=
  w_sg (p, t, ks) j ⟨rfl, d, hk⟩ fun v M' G' H' j' e ⟨h, d', ag⟩ => k v M' G' H' h j' e d' ag
theorem ok_law_draw {P : Program} {w : World} {K : PySem.W.Frag} {mg : Str → Option Value} {base : Heap}
    {f : Addr} {fd : FuncData} (D : Dn K mg "_law_draw" s_law_draw ["draws"] f fd)
    (b_len : mg "len" = none)
    (c_law_mixed : Cal P w K mg base CX0 1 "_law_mixed" (sp_law_mixed K)) : Cal P w K mg base CX0 2 "_law_draw" (sp_law_draw K) := by
  refine D.ok sc_law_draw (fun vs H Q E h => ?_) fun cdv A outer s H vs Q E hr h => ?_
  · obtain ⟨p, M, G, j, ⟨rfl, _⟩, _⟩ := h; rfl
  obtain ⟨p, M, G, j, ⟨rfl, q, ns, at_, hp, hq, hn, h0⟩, k⟩ := h
  refine ⟨_, (pss_cons (ps_set (i := 1) sc_law_draw.nd rfl (Or.inl rfl) (pe_ix (ix_uK (K := K) rfl) (pv 0) pe_int (fun _ _ => rfl)))
(pss_cons (ps_asg (pe_op (op_uAddK (K := K) rfl) (pv 1) pe_int) (pg_sub (pv 0) pe_int set_list))
(pss_cons (ps_if (pt_cmpR op_lt (pv 1) (pe_callB (call_uLenK (K := K) rfl) (by rfl) b_len PySem.boot_len (pa_cons (pe_ix (ix_uK (K := K) rfl) (pv 0) pe_int (fun _ _ => rfl)) pa_nil)) (nomark _))
(pss_one (ps_ret (pe_ix (ix_uK (K := K) rfl) (pe_ix (ix_uK (K := K) rfl) (pv 0) pe_int (fun _ _ => rfl)) (pv 1) (fun _ _ => rfl))))
pss_nil)
(pss_cons (ps_set (i := 2) sc_law_draw.nd rfl (Or.inl rfl) (pe_op (op_uAddK (K := K) rfl) pe_int (pv 1)))
(pss_cons (ps_if (pt_cmpR op_gt (pe_callB (call_uLenK (K := K) rfl) (by rfl) b_len PySem.boot_len (pa_cons (pe_ix (ix_uK (K := K) rfl) (pv 0) pe_int (fun _ _ => rfl)) pa_nil)) pe_int (nomark _))
(pss_one (ps_set (i := 2) sc_law_draw.nd rfl (Or.inl rfl) (pe_op (op_uAddK (K := K) rfl) (pv 2) (pe_op op_uMul pe_int (pe_ix (ix_uK (K := K) rfl) (pe_ix (ix_uK (K := K) rfl) (pv 0) pe_int (fun _ _ => rfl)) pe_int (fun _ _ => rfl))))))
pss_nil)
(pss_one (ps_ret (pe_op op_mod (pe_cal c_law_mixed hr (by first | decide | omega) (by rfl) (pa_cons (pe_cal c_law_mixed hr (by first | decide | omega) (by rfl) (pa_cons (pv 2) (pa_cons (pv 1) pa_nil))) (pa_cons pe_int pa_nil))) pe_int)))))))), ?_⟩
  walk_at "start"
  refine w_ixM j hp (by rfl) ?_
  walk_at "go"
  refine w_setM j hp (by rfl) fun H1 j1 => ?_
  walk_at "go"
  refine w_ixM j1 upd_same (by rfl) ?_
  walk_at "go"
  refine w_lenL j1 hq ?_
  walk_at "go"
  have dr : Dr K (upd M p (.lst [.ref q, .int (at_ + 1)])) G p := ⟨q, ns, _, upd_same, hq, hn, by omega⟩
  refine w_dec (fun hlt => ?_) (fun hlt => ?_)
  · walk_at "go"
    refine w_ixM j1 upd_same (by rfl) ?_
    walk_at "go"
    rw [List.length_map] at hlt
    obtain ⟨n, hm, e⟩ := atI_map h0 hlt
    refine w_ixL j1 hq e ?_
    exact k _ _ _ _ j1 (Same.refl G) ⟨n, rfl, (hn n hm).1, (hn n hm).2, dr, Ag.upd⟩
  · walk_at "go"
    refine w_ixM j1 upd_same (by rfl) ?_
    walk_at "go"
    refine w_lenL j1 hq ?_
    walk_at "go"
    refine w_dec (fun hl => ?_) (fun hl => ?_)
    · walk_at "go"
      refine w_ixM j1 upd_same (by rfl) ?_
      walk_at "go"
      rw [List.length_map] at hl
      obtain ⟨n, hm, e⟩ := atI_map (ns := ns) (i := 0) (by omega) hl
      refine w_ixL j1 hq e ?_
      walk_at "go"
      refine w_sg (_, _) j1 rfl fun v M' G' H' j2 e2 ⟨ev, em⟩ => ?_
      subst ev em
      walk_at "go"
      refine w_sg (_, _) j2 rfl fun v M' G' H' j3 e3 ⟨ev, em⟩ => ?_
      subst ev em
      walk_at "go"
      exact k _ _ _ _ j3 (e2.trans e3) ⟨_, rfl, Int.emod_nonneg _ (by decide), Int.emod_lt_of_pos _ (by decide), dr.ex (e2.trans e3), Ag.upd⟩
    · walk_at "go"
      refine w_sg (_, _) j1 rfl fun v M' G' H' j2 e2 ⟨ev, em⟩ => ?_
      subst ev em
      walk_at "go"
      refine w_sg (_, _) j2 rfl fun v M' G' H' j3 e3 ⟨ev, em⟩ => ?_
      subst ev em
      walk_at "go"
      exact k _ _ _ _ j3 (e2.trans e3) ⟨_, rfl, Int.emod_nonneg _ (by decide), Int.emod_lt_of_pos _ (by decide), dr.ex (e2.trans e3), Ag.upd⟩
/-- an operation -/
inductive Op where
  | get (k : Int) | put (k : Int) (v : Option Int) | add (k a : Int) | need (k : Int) (v : Option Int) | scan (lo hi : Int)
def opV : Op → List V
  | .get k => [.str "get", .int k]
  | .put k v => [.str "put", .int k, ov v]
  | .add k a => [.str "add", .int k, .int a]
  | .need k v => [.str "need", .int k, ov v]
  | .scan lo hi => [.str "scan", .int lo, .int hi]
def OkOp : Op → Prop
  | .get k => IsKey k
  | .put k v => IsKey k ∧ OkV v
  | .add k a => IsKey k ∧ IsVal a
  | .need k v => IsKey k ∧ OkV v
  | .scan lo hi => 0 ≤ lo ∧ lo ≤ hi ∧ hi ≤ 1000
def OpAt (G : Hp) (t : Addr) (op : Op) : Prop := G t = some (.tup (opV op)) ∧ OkOp op
theorem OpAt.ex {G G' : Hp} {t : Addr} {op : Op} (h : OpAt G t op) (e : Ex G G') : OpAt G' t op := ⟨e _ _ h.1, h.2⟩
/-- a list of operations -/
def OpsAt (G : Hp) (as : List Addr) (ops : List Op) : Prop := as.length = ops.length ∧ ∀ (i : Nat) (a : Addr) (op : Op), as[i]? = some a → ops[i]? = some op → OpAt G a op
theorem OpsAt.ex {G G' : Hp} {as : List Addr} {ops : List Op} (h : OpsAt G as ops) (e : Ex G G') : OpsAt G' as ops := ⟨h.1, fun i a op h1 h2 => (h.2 i a op h1 h2).ex e⟩
theorem OpsAt.nil {G : Hp} : OpsAt G [] [] := ⟨rfl, fun i a op h => by simp at h⟩
theorem snoc_get {α : Type} {xs : List α} {x y : α} {i : Nat} (h : (xs ++ [x])[i]? = some y) : (i < xs.length ∧ xs[i]? = some y) ∨ (i = xs.length ∧ x = y) := by
  by_cases hi : i < xs.length
  · rw [List.getElem?_append_left hi] at h; exact .inl ⟨hi, h⟩
  · rw [List.getElem?_append_right (by omega)] at h
    have hj : i - xs.length = 0 := by
      cases hk : i - xs.length with
      | zero => rfl
      | succ m => rw [hk] at h; simp at h
    rw [hj] at h
    exact .inr ⟨by omega, Option.some.inj h⟩
theorem OpsAt.snoc {G : Hp} {as : List Addr} {ops : List Op} {a : Addr} {op : Op} (h : OpsAt G as ops) (o : OpAt G a op) : OpsAt G (as ++ [a]) (ops ++ [op]) := by
  refine ⟨by rw [List.length_append, List.length_append, h.1]; rfl, fun i b q h1 h2 => ?_⟩
  rcases snoc_get h1 with ⟨hi, h1⟩ | ⟨hi, rfl⟩
  · rcases snoc_get h2 with ⟨_, h2⟩ | ⟨hj, _⟩
    · exact h.2 i b q h1 h2
    · have := h.1; omega
  · rcases snoc_get h2 with ⟨hj, _⟩ | ⟨_, rfl⟩
    · have := h.1; omega
    · exact o
theorem OpsAt.get {G : Hp} {as : List Addr} {ops : List Op} {i : Nat} {x : V} (h : OpsAt G as ops) (hx : (as.map V.ref)[i]? = some x) : ∃ a op, x = .ref a ∧ as[i]? = some a ∧ ops[i]? = some op ∧ OpAt G a op := by
  rw [List.getElem?_map] at hx
  cases e : as[i]? with
  | none => rw [e] at hx; cases hx
  | some a =>
    rw [e] at hx
    have hi : i < ops.length := by rw [← h.1]; exact (List.getElem?_eq_some_iff.mp e).1
    exact ⟨a, ops[i], (Option.some.inj hx).symm, rfl, List.getElem?_eq_getElem hi, h.2 i a _ e (List.getElem?_eq_getElem hi)⟩
theorem ref_snoc (as : List Addr) (a : Addr) : as.map V.ref ++ [V.ref a] = (as ++ [a]).map V.ref := by rw [List.map_append]; rfl
def IsDeal (G : Hp) (t : Addr) (as : List Addr) (ops : List Op) : Prop := G t = some (.lst (as.map V.ref)) ∧ OpsAt G as ops ∧ 1 ≤ ops.length ∧ ops.length ≤ 6
theorem IsDeal.ex {G G' : Hp} {t : Addr} {as : List Addr} {ops : List Op} (h : IsDeal G t as ops) (e : Ex G G') : IsDeal G' t as ops := ⟨e _ _ h.1, h.2.1.ex e, h.2.2⟩
/-! ### clerks: what a clerk holds, with its cells -/
structure RoX where
  q : Addr
  dx : Addr
  g : Int
  d : RoD
structure CaX where
  q : Addr
  dx : Addr
  k : Int
  g : Int
  cv : V
  bv : V
  hint : Option Int
  cmd : PyData
structure ClX where
  p : Addr
  dx : Addr
  pl : Addr
  rd : Addr
  cd : Addr
  nw : Addr
  client : Int
  machines : Int
  da : Addr
  dls : List (Addr × List Addr × List Op)
  number : Int
  busy : Bool
  plv : List V
  places : List PyData
  ro : List RoX
  token : Int
  co : List CaX
  av : V
  ac : List Addr
  ao : List HO
  tries : Int
  nwv : List V
  news : List PyData
def roK (ro : List RoX) : List (Key × V) := ro.map fun y => (Sum.inl y.g, V.ref y.q)
def caK (co : List CaX) : List (Key × V) := co.map fun y => (Sum.inl y.k, V.ref y.q)
def roO (CR : Addr) (y : RoX) : HO := rtO CR y.dx y.d.mc y.d.tn y.d.tk
def caO (CC : Addr) (y : CaX) : HO := .ins CC y.dx (fl_Call (.int y.g) y.cv y.bv (oV y.hint))
def clO (C : Addr) (x : ClX) : HO := .ins C x.dx (fl_Clerk (.int x.client) (.int x.machines) (.ref x.da) (.int x.number) (.bl x.busy) (.ref x.pl) (.ref x.rd) (.int x.token) (.ref x.cd) x.av (.int x.tries) (.ref x.nw))
def ClX.cells (x : ClX) : List Addr := [x.p, x.pl, x.rd, x.cd, x.nw] ++ (x.ro.map (·.q) ++ (x.co.map (·.q) ++ x.ac))
def ClX.cont (C CR CC : Addr) (x : ClX) : List HO := [clO C x, .lst x.plv, .dK (roK x.ro), .dK (caK x.co), .lst x.nwv] ++ (x.ro.map (roO CR) ++ (x.co.map (caO CC) ++ x.ao))
def CellsC (M : Hp) (as : List Addr) (os : List HO) : Prop := Paired (fun a o => M a = some o) as os
theorem CellsC.at {M : Hp} : ∀ {as : List Addr} {os : List HO} {i : Nat} {a : Addr}, CellsC M as os → as[i]? = some a → ∃ o, os[i]? = some o ∧ M a = some o
  | _, _, _, _, .nil, e => by simp at e
  | _, _, 0, _, .cons h _, e => by
    have e := Option.some.inj e
    subst e
    exact ⟨_, rfl, h⟩
  | _, _, i + 1, _, .cons _ t, e => by
    obtain ⟨o, h1, h2⟩ := CellsC.at (i := i) t (by simpa using e)
    exact ⟨o, by simpa using h1, h2⟩
theorem CellsC.off {M : Hp} {b : Addr} {o : HO} : ∀ {as : List Addr} {os : List HO}, CellsC M as os → b ∉ as → CellsC (upd M b o) as os
  | _, _, .nil, _ => .nil
  | _, _, .cons h t, n => .cons (upd_ne' h fun z => n (z ▸ List.mem_cons_self)) (CellsC.off t fun m => n (List.mem_cons_of_mem _ m))
theorem CellsC.put {M : Hp} {b : Addr} {o : HO} : ∀ {as : List Addr} {os : List HO} {i : Nat}, as.Nodup → CellsC M as os → as[i]? = some b → CellsC (upd M b o) as (os.set i o)
  | _, _, _, _, .nil, e => by simp at e
  | _, _, 0, n, .cons h t, e => by
    have e := Option.some.inj e
    subst e
    exact .cons upd_same (CellsC.off t (List.nodup_cons.mp n).1)
  | _, _, i + 1, n, .cons h t, e => by
    rw [List.getElem?_cons_succ] at e
    exact .cons (upd_ne' h fun z => (List.nodup_cons.mp n).1 (z ▸ List.mem_of_getElem? e)) (CellsC.put (List.nodup_cons.mp n).2 t e)
theorem CellsC.ex {M : Hp} {b : Addr} : ∀ {as : List Addr} {os : List HO}, CellsC M as os → b ∈ as → ∃ o, M b = Option.some o
  | _, _, .cons h t, m => by
    rcases List.mem_cons.mp m with rfl | m
    · exact ⟨_, h⟩
    · exact CellsC.ex t m
theorem CellsC.mv {M M' : Hp} {as : List Addr} {os : List HO} (h : CellsC M as os) (e : ∀ b ∈ as, ∀ o, M b = some o → M' b = some o) : CellsC M' as os := by
  unfold CellsC at h ⊢
  induction h with
  | nil => exact .nil
  | cons h t ih => exact .cons (e _ List.mem_cons_self _ h) (ih fun b m => e b (List.mem_cons_of_mem _ m))
theorem CellsC.app {M : Hp} : ∀ {as bs : List Addr} {os us : List HO}, CellsC M as os → CellsC M bs us → CellsC M (as ++ bs) (os ++ us)
  | _, _, _, _, .nil, g => g
  | _, _, _, _, .cons h t, g => .cons h (CellsC.app t g)
theorem CellsC.len {M : Hp} : ∀ {as : List Addr} {os : List HO}, CellsC M as os → as.length = os.length
  | _, _, .nil => rfl
  | _, _, .cons _ t => by rw [List.length_cons, List.length_cons, CellsC.len t]
theorem CellsC.cut {M : Hp} : ∀ {as bs : List Addr} {os us : List HO}, as.length = os.length → CellsC M (as ++ bs) (os ++ us) → CellsC M as os ∧ CellsC M bs us
  | [], bs, [], us, _, h => ⟨.nil, h⟩
  | a :: as, bs, o :: os, us, l, h => by
    have h : Paired (fun a o => M a = some o) (a :: (as ++ bs)) (o :: (os ++ us)) := h
    cases h with
    | cons h1 h2 =>
      obtain ⟨q1, q2⟩ := CellsC.cut (by simpa using l) h2
      exact ⟨.cons h1 q1, q2⟩
structure ClD (K : PySem.W.Frag) (G : Hp) (x : ClX) : Prop where
  da : G x.da = some (.lst (x.dls.map fun d => V.ref d.1))
  dd : ∀ d ∈ x.dls, IsDeal G d.1 d.2.1 d.2.2
  dn : x.dls.length ≤ 60
  pl : DpAll K G x.plv x.places
  cv : ∀ y ∈ x.co, Dp K G y.cv y.cmd
  nw : DpAll K G x.nwv x.news
  rn : (x.ro.map (·.g)).Nodup
  cn : (x.co.map (·.k)).Nodup
  rl : x.ro.length ≤ 60
  cl : x.co.length ≤ 60
  nl : x.news.length ≤ 1000
structure ClAt (K : PySem.W.Frag) (C CR CC : Addr) (M G : Hp) (x : ClX) : Prop where
  c : CellsC M x.cells (x.cont C CR CC)
  n : x.cells.Nodup
  d : ClD K G x
  nt : NoT M
/-- what a method of a clerk may change -/
structure FrC (M0 : Hp) (x0 : ClX) (M : Hp) (x : ClX) : Prop where
  kp : ∀ b o, M0 b = some o → b ∉ x0.cells → M b = some o
  nw : ∀ b ∈ x.cells, b ∈ x0.cells ∨ M0 b = none
  pe : x.p = x0.p
theorem FrC.refl (M : Hp) (x : ClX) : FrC M x M x := ⟨fun _ _ e _ => e, fun _ m => .inl m, rfl⟩
theorem FrC.trans {M0 M1 M2 : Hp} {x0 x1 x2 : ClX} (h : FrC M0 x0 M1 x1) (g : FrC M1 x1 M2 x2) : FrC M0 x0 M2 x2 where
  kp := fun b o e n => g.kp b o (h.kp b o e n) fun m => by
    rcases h.nw b m with z | z
    · exact n z
    · rw [e] at z; cases z
  nw := fun b m => by
    rcases g.nw b m with z | z
    · exact h.nw b z
    · by_cases q : b ∈ x0.cells
      · exact .inl q
      · refine .inr ?_
        cases e : M0 b with
        | none => rfl
        | some o => rw [h.kp b o e q] at z; cases z
  pe := g.pe.trans h.pe
structure ClS (K : PySem.W.Frag) (C CR CC : Addr) (M0 : Hp) (x0 : ClX) (M G : Hp) (x : ClX) : Prop where
  t : ClAt K C CR CC M G x
  f : FrC M0 x0 M x
section
variable {K : PySem.W.Frag} {C CR CC : Addr} {M0 M M' G G' H : Hp} {x0 x x' : ClX} {b : Addr} {o : HO} {i : Nat}
theorem ClD.ex (h : ClD K G x) (e : Ex G G') : ClD K G' x := ⟨e _ _ h.da, fun d m => (h.dd d m).ex e, h.dn, dpAll_mono e h.pl, fun y m => dp_mono e (h.cv y m), dpAll_mono e h.nw, h.rn, h.cn, h.rl, h.cl, h.nl⟩
theorem ClAt.ex (h : ClAt K C CR CC M G x) (e : Ex G G') : ClAt K C CR CC M G' x := ⟨h.c, h.n, h.d.ex e, h.nt⟩
theorem ClS.ex (h : ClS K C CR CC M0 x0 M G x) (e : Ex G G') : ClS K C CR CC M0 x0 M G' x := ⟨h.t.ex e, h.f⟩
theorem ClAt.s (h : ClAt K C CR CC M G x) : ClS K C CR CC M x M G x := ⟨h, FrC.refl M x⟩
theorem ClS.then (h : ClS K C CR CC M0 x0 M G x) (g : ClS K C CR CC M x M' G' x') : ClS K C CR CC M0 x0 M' G' x' := ⟨g.t, h.f.trans g.f⟩
theorem ClAt.cell (h : ClAt K C CR CC M G x) (i : Nat) (hb : x.cells[i]? = some b) (ho : (x.cont C CR CC)[i]? = some o) : M b = some o := by
  obtain ⟨o', h1, h2⟩ := CellsC.at (i := i) h.c hb
  rw [h2, ← ho]; exact h1.symm
theorem ClAt.op (h : ClAt K C CR CC M G x) : M x.p = some (clO C x) := h.cell 0 rfl rfl
theorem ClAt.opl (h : ClAt K C CR CC M G x) : M x.pl = some (.lst x.plv) := h.cell 1 rfl rfl
theorem ClAt.ord (h : ClAt K C CR CC M G x) : M x.rd = some (.dK (roK x.ro)) := h.cell 2 rfl rfl
theorem ClAt.ocd (h : ClAt K C CR CC M G x) : M x.cd = some (.dK (caK x.co)) := h.cell 3 rfl rfl
theorem ClAt.onw (h : ClAt K C CR CC M G x) : M x.nw = some (.lst x.nwv) := h.cell 4 rfl rfl
theorem cells_ro {y : RoX} (h : x.ro[i]? = some y) : x.cells[5 + i]? = some y.q := by
  unfold ClX.cells
  have hl : i < x.ro.length := (List.getElem?_eq_some_iff.mp h).1
  rw [List.getElem?_append_right (by show 5 ≤ 5 + i; omega), show 5 + i - ([x.p, x.pl, x.rd, x.cd, x.nw] : List Addr).length = i by show 5 + i - 5 = i; omega, List.getElem?_append_left (by rw [List.length_map]; exact hl), List.getElem?_map, h]; rfl
theorem cont_ro {y : RoX} (h : x.ro[i]? = some y) : (x.cont C CR CC)[5 + i]? = some (roO CR y) := by
  unfold ClX.cont
  have hl : i < x.ro.length := (List.getElem?_eq_some_iff.mp h).1
  rw [List.getElem?_append_right (by show 5 ≤ 5 + i; omega), show 5 + i - ([clO C x, .lst x.plv, .dK (roK x.ro), .dK (caK x.co), .lst x.nwv] : List HO).length = i by show 5 + i - 5 = i; omega, List.getElem?_append_left (by rw [List.length_map]; exact hl), List.getElem?_map, h]; rfl
theorem cells_co {y : CaX} (h : x.co[i]? = some y) : x.cells[5 + x.ro.length + i]? = some y.q := by
  unfold ClX.cells
  have hl : i < x.co.length := (List.getElem?_eq_some_iff.mp h).1
  rw [List.getElem?_append_right (by show 5 ≤ 5 + x.ro.length + i; omega), show 5 + x.ro.length + i - ([x.p, x.pl, x.rd, x.cd, x.nw] : List Addr).length = x.ro.length + i by show 5 + x.ro.length + i - 5 = _; omega, List.getElem?_append_right (by rw [List.length_map]; omega), List.length_map, show x.ro.length + i - x.ro.length = i by omega, List.getElem?_append_left (by rw [List.length_map]; exact hl), List.getElem?_map, h]; rfl
theorem cont_co {y : CaX} (h : x.co[i]? = some y) : (x.cont C CR CC)[5 + x.ro.length + i]? = some (caO CC y) := by
  unfold ClX.cont
  have hl : i < x.co.length := (List.getElem?_eq_some_iff.mp h).1
  rw [List.getElem?_append_right (by show 5 ≤ 5 + x.ro.length + i; omega), show 5 + x.ro.length + i - ([clO C x, .lst x.plv, .dK (roK x.ro), .dK (caK x.co), .lst x.nwv] : List HO).length = x.ro.length + i by show 5 + x.ro.length + i - 5 = _; omega, List.getElem?_append_right (by rw [List.length_map]; omega), List.length_map, show x.ro.length + i - x.ro.length = i by omega, List.getElem?_append_left (by rw [List.length_map]; exact hl), List.getElem?_map, h]; rfl
theorem ClAt.oro (h : ClAt K C CR CC M G x) {y : RoX} (hy : x.ro[i]? = some y) : M y.q = some (roO CR y) := h.cell (5 + i) (cells_ro hy) (cont_ro hy)
theorem ClAt.oco (h : ClAt K C CR CC M G x) {y : CaX} (hy : x.co[i]? = some y) : M y.q = some (caO CC y) := h.cell (5 + x.ro.length + i) (cells_co hy) (cont_co hy)
/-- a cell of its own is written -/
theorem ClS.put (h : ClS K C CR CC M0 x0 M G x) (i : Nat) (x' : ClX) (hb : x.cells[i]? = some b) (ho : ∀ xs, o ≠ .tup xs) (hc : x'.cells = x.cells) (hp : x'.p = x.p) (hv : x'.cont C CR CC = (x.cont C CR CC).set i o) (d : ClD K G x') : ClS K C CR CC M0 x0 (upd M b o) G x' where
  t := ⟨by rw [hc, hv]; exact CellsC.put h.t.n h.t.c hb, by rw [hc]; exact h.t.n, d, h.t.nt.upd ho⟩
  f := h.f.trans ⟨fun y u e n => upd_ne' e fun z => n (z ▸ List.mem_of_getElem? hb), fun y m => .inl (by rw [← hc]; exact m), hp⟩
/-! fields -/
theorem ClS.f_number (h : ClS K C CR CC M0 x0 M G x) (n : Int) : ClS K C CR CC M0 x0 (upd M x.p (clO C { x with number := n })) G { x with number := n } := h.put 0 _ rfl (fun _ z => nomatch z) rfl rfl rfl ⟨h.t.d.da, h.t.d.dd, h.t.d.dn, h.t.d.pl, h.t.d.cv, h.t.d.nw, h.t.d.rn, h.t.d.cn, h.t.d.rl, h.t.d.cl, h.t.d.nl⟩
theorem ClS.f_busy (h : ClS K C CR CC M0 x0 M G x) (n : Bool) : ClS K C CR CC M0 x0 (upd M x.p (clO C { x with busy := n })) G { x with busy := n } := h.put 0 _ rfl (fun _ z => nomatch z) rfl rfl rfl ⟨h.t.d.da, h.t.d.dd, h.t.d.dn, h.t.d.pl, h.t.d.cv, h.t.d.nw, h.t.d.rn, h.t.d.cn, h.t.d.rl, h.t.d.cl, h.t.d.nl⟩
theorem ClS.f_token (h : ClS K C CR CC M0 x0 M G x) (n : Int) : ClS K C CR CC M0 x0 (upd M x.p (clO C { x with token := n })) G { x with token := n } := h.put 0 _ rfl (fun _ z => nomatch z) rfl rfl rfl ⟨h.t.d.da, h.t.d.dd, h.t.d.dn, h.t.d.pl, h.t.d.cv, h.t.d.nw, h.t.d.rn, h.t.d.cn, h.t.d.rl, h.t.d.cl, h.t.d.nl⟩
theorem ClS.f_tries (h : ClS K C CR CC M0 x0 M G x) (n : Int) : ClS K C CR CC M0 x0 (upd M x.p (clO C { x with tries := n })) G { x with tries := n } := h.put 0 _ rfl (fun _ z => nomatch z) rfl rfl rfl ⟨h.t.d.da, h.t.d.dd, h.t.d.dn, h.t.d.pl, h.t.d.cv, h.t.d.nw, h.t.d.rn, h.t.d.cn, h.t.d.rl, h.t.d.cl, h.t.d.nl⟩
theorem ClS.a_news (h : ClS K C CR CC M0 x0 M G x) {v : V} {d : PyData} (hv : Dp K G v d) (l : x.news.length < 1000) : ClS K C CR CC M0 x0 (upd M x.nw (.lst (x.nwv ++ [v]))) G { x with nwv := x.nwv ++ [v], news := x.news ++ [d] } :=
  h.put 4 { x with nwv := x.nwv ++ [v], news := x.news ++ [d] } rfl (fun _ z => nomatch z) rfl rfl rfl ⟨h.t.d.da, h.t.d.dd, h.t.d.dn, h.t.d.pl, h.t.d.cv, dpAll_snoc h.t.d.nw hv, h.t.d.rn, h.t.d.cn, h.t.d.rl, h.t.d.cl, by show (x.news ++ [d]).length ≤ 1000; rw [List.length_append]; exact l⟩
/-- a call's hint -/
def hintAt (co : List CaX) (i : Nat) (h : Option Int) : List CaX := match co[i]? with
  | some y => co.set i { y with hint := h }
  | none => co
theorem ClS.h_co (h : ClS K C CR CC M0 x0 M G x) {y : CaX} (hy : x.co[i]? = some y) (hh : Option Int) : ClS K C CR CC M0 x0 (upd M y.q (caO CC { y with hint := hh })) G { x with co := x.co.set i { y with hint := hh } } := by
  have hl : i < x.co.length := (List.getElem?_eq_some_iff.mp hy).1
  have ey : x.co[i] = y := by rw [List.getElem?_eq_getElem hl] at hy; exact Option.some.inj hy
  have eq : ∀ {β : Type} (f : CaX → β), f { y with hint := hh } = f y → (x.co.set i { y with hint := hh }).map f = x.co.map f := fun f hf => by
    rw [List.map_set, hf]
    refine List.ext_getElem? fun n => ?_
    rw [List.getElem?_set]
    split
    · rename_i q
      subst q
      rw [List.getElem?_map, hy, if_pos (by rw [List.length_map]; exact hl)]; rfl
    · rfl
  refine h.put (5 + x.ro.length + i) _ (cells_co hy) (fun _ z => nomatch z) ?_ rfl ?_ ⟨h.t.d.da, h.t.d.dd, h.t.d.dn, h.t.d.pl, fun z hz => ?_, h.t.d.nw, h.t.d.rn, ?_, h.t.d.rl, by show (x.co.set i _).length ≤ 60; rw [List.length_set]; exact h.t.d.cl, h.t.d.nl⟩
  · show [x.p, x.pl, x.rd, x.cd, x.nw] ++ (x.ro.map (·.q) ++ ((x.co.set i { y with hint := hh }).map (·.q) ++ x.ac)) = _
    rw [eq (·.q) rfl]; rfl
  · show [clO C x, .lst x.plv, .dK (roK x.ro), .dK (caK (x.co.set i { y with hint := hh })), .lst x.nwv] ++ (x.ro.map (roO CR) ++ ((x.co.set i { y with hint := hh }).map (caO CC) ++ x.ao)) = _
    have e1 : caK (x.co.set i { y with hint := hh }) = caK x.co := eq (fun y => ((Sum.inl y.k : Key), V.ref y.q)) rfl
    rw [e1, List.map_set]
    unfold ClX.cont
    rw [List.set_append_right _ _ (by show 5 ≤ 5 + x.ro.length + i; omega), show 5 + x.ro.length + i - ([clO C x, .lst x.plv, .dK (roK x.ro), .dK (caK x.co), .lst x.nwv] : List HO).length = x.ro.length + i by show 5 + x.ro.length + i - 5 = _; omega, List.set_append_right _ _ (by rw [List.length_map]; omega), List.length_map, show x.ro.length + i - x.ro.length = i by omega, List.set_append_left _ _ (by rw [List.length_map]; exact hl)]
  · rcases List.mem_or_eq_of_mem_set hz with z1 | z1
    · exact h.t.d.cv z z1
    · rw [z1]; exact h.t.d.cv y (List.mem_of_getElem? hy)
  · show ((x.co.set i { y with hint := hh }).map (·.k)).Nodup
    rw [eq (·.k) rfl]; exact h.t.d.cn
/-- a route's place -/
theorem ClS.d_ro (h : ClS K C CR CC M0 x0 M G x) {y : RoX} (hy : x.ro[i]? = some y) (d : RoD) : ClS K C CR CC M0 x0 (upd M y.q (roO CR { y with d := d })) G { x with ro := x.ro.set i { y with d := d } } := by
  have hl : i < x.ro.length := (List.getElem?_eq_some_iff.mp hy).1
  have eq : ∀ {β : Type} (f : RoX → β), f { y with d := d } = f y → (x.ro.set i { y with d := d }).map f = x.ro.map f := fun f hf => by
    rw [List.map_set, hf]
    refine List.ext_getElem? fun n => ?_
    rw [List.getElem?_set]
    split
    · rename_i q
      subst q
      rw [List.getElem?_map, hy, if_pos (by rw [List.length_map]; exact hl)]; rfl
    · rfl
  refine h.put (5 + i) _ (cells_ro hy) (fun _ z => nomatch z) ?_ rfl ?_ ⟨h.t.d.da, h.t.d.dd, h.t.d.dn, h.t.d.pl, h.t.d.cv, h.t.d.nw, ?_, h.t.d.cn, by show (x.ro.set i _).length ≤ 60; rw [List.length_set]; exact h.t.d.rl, h.t.d.cl, h.t.d.nl⟩
  · show [x.p, x.pl, x.rd, x.cd, x.nw] ++ ((x.ro.set i { y with d := d }).map (·.q) ++ (x.co.map (·.q) ++ x.ac)) = _
    rw [eq (·.q) rfl]; rfl
  · show [clO C x, .lst x.plv, .dK (roK (x.ro.set i { y with d := d })), .dK (caK x.co), .lst x.nwv] ++ ((x.ro.set i { y with d := d }).map (roO CR) ++ (x.co.map (caO CC) ++ x.ao)) = _
    have e1 : roK (x.ro.set i { y with d := d }) = roK x.ro := eq (fun y => ((Sum.inl y.g : Key), V.ref y.q)) rfl
    rw [e1, List.map_set]
    unfold ClX.cont
    rw [List.set_append_right _ _ (by show 5 ≤ 5 + i; omega), show 5 + i - ([clO C x, .lst x.plv, .dK (roK x.ro), .dK (caK x.co), .lst x.nwv] : List HO).length = i by show 5 + i - 5 = _; omega, List.set_append_left _ _ (by rw [List.length_map]; exact hl)]
  · show ((x.ro.set i { y with d := d }).map (·.g)).Nodup
    rw [eq (·.g) rfl]; exact h.t.d.rn
end
/-! ### clerks: new cells -/
section
variable {K : PySem.W.Frag} {C CR CC : Addr} {M0 M M' G G' H : Hp} {x0 x x' : ClX} {b q : Addr} {o : HO} {i : Nat}
def ClX.hd (x : ClX) : List Addr := [x.p, x.pl, x.rd, x.cd, x.nw]
def ClX.hdO (C : Addr) (x : ClX) : List HO := [clO C x, .lst x.plv, .dK (roK x.ro), .dK (caK x.co), .lst x.nwv]
theorem ClAt.parts (h : ClAt K C CR CC M G x) : CellsC M x.hd (x.hdO C) ∧ CellsC M (x.ro.map (·.q)) (x.ro.map (roO CR)) ∧ CellsC M (x.co.map (·.q)) (x.co.map (caO CC)) ∧ CellsC M x.ac x.ao := by
  obtain ⟨h1, h2⟩ := CellsC.cut (as := x.hd) (os := x.hdO C) rfl h.c
  obtain ⟨h3, h4⟩ := CellsC.cut (by rw [List.length_map, List.length_map]) h2
  obtain ⟨h5, h6⟩ := CellsC.cut (by rw [List.length_map, List.length_map]) h4
  exact ⟨h1, h3, h5, h6⟩
theorem ClAt.none (h : ClAt K C CR CC M G x) (hb : M b = Option.none) : b ∉ x.cells := fun m => by
  obtain ⟨u, e⟩ := CellsC.ex h.c m
  rw [hb] at e; cases e
theorem CellsC.new {as : List Addr} {os : List HO} (h : CellsC M as os) (hb : M b = Option.none) : CellsC (upd M b o) as os := h.mv fun c _ u e => upd_ne' e (ne_of_none e hb)
theorem perm_r37 {A B D : List Addr} {b : Addr} : (A ++ ((B ++ [b]) ++ D)).Perm (b :: (A ++ (B ++ D))) := by
  have e1 : A ++ ((B ++ [b]) ++ D) = (A ++ B) ++ b :: D := by simp
  have e2 : A ++ (B ++ D) = (A ++ B) ++ D := by simp
  rw [e1, e2]
  exact List.perm_middle
theorem perm_s37 {A F B D : List Addr} {b : Addr} : (A ++ (F ++ ((B ++ [b]) ++ D))).Perm (b :: (A ++ (F ++ (B ++ D)))) := by
  rw [← List.append_assoc A F, ← List.append_assoc A F]
  exact perm_r37
/-- a new route -/
theorem ClS.n_ro (h : ClS K C CR CC M0 x0 M G x) (y : RoX) (hq : M y.q = Option.none) (hg : y.g ∉ x.ro.map (·.g)) (l : x.ro.length < 60) : ClS K C CR CC M0 x0 (upd (upd M y.q (roO CR y)) x.rd (.dK (roK (x.ro ++ [y])))) G { x with ro := x.ro ++ [y] } := by
  obtain ⟨c1, c2, c3, c4⟩ := h.t.parts
  have nq := h.t.none hq
  have hp : ({ x with ro := x.ro ++ [y] } : ClX).cells.Perm (y.q :: x.cells) := by
    show ([x.p, x.pl, x.rd, x.cd, x.nw] ++ ((x.ro ++ [y]).map (·.q) ++ (x.co.map (·.q) ++ x.ac))).Perm (y.q :: ([x.p, x.pl, x.rd, x.cd, x.nw] ++ (x.ro.map (·.q) ++ (x.co.map (·.q) ++ x.ac))))
    rw [List.map_append]
    exact perm_r37
  have nd : ({ x with ro := x.ro ++ [y] } : ClX).cells.Nodup := hp.nodup_iff.mpr (List.nodup_cons.mpr ⟨nq, h.t.n⟩)
  have nt1 : NoT (upd M y.q (roO CR y)) := h.t.nt.upd fun _ z => by unfold roO rtO at z; cases z
  have nt2 : NoT (upd (upd M y.q (roO CR y)) x.rd (.dK (roK (x.ro ++ [y])))) := nt1.upd fun _ z => by cases z
  refine ⟨⟨?_, nd, ⟨h.t.d.da, h.t.d.dd, h.t.d.dn, h.t.d.pl, h.t.d.cv, h.t.d.nw, ?_, h.t.d.cn, ?_, h.t.d.cl, h.t.d.nl⟩, nt2⟩, h.f.trans ⟨fun c u e n => ?_, fun c m => ?_, rfl⟩⟩
  · have hh : CellsC (upd M y.q (roO CR y)) ({ x with ro := x.ro ++ [y] } : ClX).cells ([clO C x, .lst x.plv, .dK (roK x.ro), .dK (caK x.co), .lst x.nwv] ++ ((x.ro ++ [y]).map (roO CR) ++ (x.co.map (caO CC) ++ x.ao))) := by
      refine CellsC.app (c1.new hq) (CellsC.app ?_ (CellsC.app (c3.new hq) (c4.new hq)))
      rw [List.map_append, List.map_append]
      exact CellsC.app (c2.new hq) (.cons upd_same .nil)
    exact CellsC.put (i := 2) nd hh rfl
  · show ((x.ro ++ [y]).map (·.g)).Nodup
    rw [List.map_append, List.nodup_append]
    exact ⟨h.t.d.rn, List.nodup_cons.mpr ⟨(fun z => nomatch z), List.nodup_nil⟩, fun a ha c hc e => hg (by have hc' : c = y.g := List.mem_singleton.mp hc; rw [← hc', ← e]; exact ha)⟩
  · show (x.ro ++ [y]).length ≤ 60
    rw [List.length_append]; exact l
  · exact upd_ne' (upd_ne' e (ne_of_none e hq)) fun z => n (z ▸ List.mem_cons_of_mem _ (List.mem_cons_of_mem _ List.mem_cons_self))
  · rcases List.mem_cons.mp (hp.mem_iff.mp m) with z | z
    · exact .inr (z ▸ hq)
    · exact .inl z
/-- a new call -/
theorem ClS.n_co (h : ClS K C CR CC M0 x0 M G x) (y : CaX) (hq : M y.q = Option.none) (hk : y.k ∉ x.co.map (·.k)) (hv : Dp K G y.cv y.cmd) (l : x.co.length < 60) : ClS K C CR CC M0 x0 (upd (upd M y.q (caO CC y)) x.cd (.dK (caK (x.co ++ [y])))) G { x with co := x.co ++ [y] } := by
  obtain ⟨c1, c2, c3, c4⟩ := h.t.parts
  have nq := h.t.none hq
  have hp : ({ x with co := x.co ++ [y] } : ClX).cells.Perm (y.q :: x.cells) := by
    show ([x.p, x.pl, x.rd, x.cd, x.nw] ++ (x.ro.map (·.q) ++ ((x.co ++ [y]).map (·.q) ++ x.ac))).Perm (y.q :: ([x.p, x.pl, x.rd, x.cd, x.nw] ++ (x.ro.map (·.q) ++ (x.co.map (·.q) ++ x.ac))))
    rw [List.map_append]
    exact perm_s37
  have nd : ({ x with co := x.co ++ [y] } : ClX).cells.Nodup := hp.nodup_iff.mpr (List.nodup_cons.mpr ⟨nq, h.t.n⟩)
  have nt1 : NoT (upd M y.q (caO CC y)) := h.t.nt.upd fun _ z => by unfold caO at z; cases z
  have nt2 : NoT (upd (upd M y.q (caO CC y)) x.cd (.dK (caK (x.co ++ [y])))) := nt1.upd fun _ z => by cases z
  refine ⟨⟨?_, nd, ⟨h.t.d.da, h.t.d.dd, h.t.d.dn, h.t.d.pl, fun z hz => ?_, h.t.d.nw, h.t.d.rn, ?_, h.t.d.rl, ?_, h.t.d.nl⟩, nt2⟩, h.f.trans ⟨fun c u e n => ?_, fun c m => ?_, rfl⟩⟩
  · have hh : CellsC (upd M y.q (caO CC y)) ({ x with co := x.co ++ [y] } : ClX).cells ([clO C x, .lst x.plv, .dK (roK x.ro), .dK (caK x.co), .lst x.nwv] ++ (x.ro.map (roO CR) ++ ((x.co ++ [y]).map (caO CC) ++ x.ao))) := by
      refine CellsC.app (c1.new hq) (CellsC.app (c2.new hq) (CellsC.app ?_ (c4.new hq)))
      rw [List.map_append, List.map_append]
      exact CellsC.app (c3.new hq) (.cons upd_same .nil)
    exact CellsC.put (i := 3) nd hh rfl
  · rcases List.mem_append.mp (show z ∈ x.co ++ [y] from hz) with z1 | z1
    · exact h.t.d.cv z z1
    · rw [List.mem_singleton.mp z1]; exact hv
  · show ((x.co ++ [y]).map (·.k)).Nodup
    rw [List.map_append, List.nodup_append]
    exact ⟨h.t.d.cn, List.nodup_cons.mpr ⟨(fun z => nomatch z), List.nodup_nil⟩, fun a ha c hc e => hk (by have hc' : c = y.k := List.mem_singleton.mp hc; rw [← hc', ← e]; exact ha)⟩
  · show (x.co ++ [y]).length ≤ 60
    rw [List.length_append]; exact l
  · exact upd_ne' (upd_ne' e (ne_of_none e hq)) fun z => n (z ▸ List.mem_cons_of_mem _ (List.mem_cons_of_mem _ (List.mem_cons_of_mem _ List.mem_cons_self)))
  · rcases List.mem_cons.mp (hp.mem_iff.mp m) with z | z
    · exact .inr (z ▸ hq)
    · exact .inl z
/-- the news are handed out -/
theorem ClAt.g_nw (h : ClAt K C CR CC M G x) (hq : M q = Option.none) (hg : G x.nw = Option.none) : ClS K C CR CC M x (del (upd (upd M q (.lst [])) x.p (clO C { x with nw := q, nwv := [], news := [] })) x.nw) (upd G x.nw (.lst x.nwv)) { x with nw := q, nwv := [], news := [] } := by
  have nq := h.none hq
  have E : Ex G (upd G x.nw (.lst x.nwv)) := Ex.new hg
  obtain ⟨c1, c2, c3, c4⟩ := h.parts
  have hc : ({ x with nw := q, nwv := [], news := [] } : ClX).cells = x.cells.set 4 q := rfl
  have nn : x.nw ∉ x.cells.set 4 q := fun m => by
    have hn := h.n
    have hn : ([x.p, x.pl, x.rd, x.cd] ++ x.nw :: (x.ro.map (·.q) ++ (x.co.map (·.q) ++ x.ac))).Nodup := hn
    have m : x.nw ∈ [x.p, x.pl, x.rd, x.cd] ++ q :: (x.ro.map (·.q) ++ (x.co.map (·.q) ++ x.ac)) := m
    have hn2 := List.nodup_cons.mp ((List.perm_middle (a := x.nw) (l₁ := [x.p, x.pl, x.rd, x.cd]) (l₂ := x.ro.map (·.q) ++ (x.co.map (·.q) ++ x.ac))).nodup_iff.mp hn)
    rcases List.mem_append.mp m with z | z
    · exact hn2.1 (List.mem_append_left _ z)
    · rcases List.mem_cons.mp z with z | z
      · exact nq (z ▸ List.mem_cons_of_mem _ (List.mem_cons_of_mem _ (List.mem_cons_of_mem _ (List.mem_cons_of_mem _ List.mem_cons_self))))
      · exact hn2.1 (List.mem_append_right _ z)
  have nd : (x.cells.set 4 q).Nodup := by
    have : ∀ {as : List Addr} {i : Nat}, as.Nodup → q ∉ as → (as.set i q).Nodup := by
      intro as
      induction as with
      | nil => exact fun n _ => n
      | cons a r ih =>
        intro i n hb
        cases i with
        | zero => exact List.nodup_cons.mpr ⟨fun m => hb (List.mem_cons_of_mem _ m), (List.nodup_cons.mp n).2⟩
        | succ i =>
          refine List.nodup_cons.mpr ⟨fun m => ?_, ih (List.nodup_cons.mp n).2 fun m => hb (List.mem_cons_of_mem _ m)⟩
          rcases List.mem_or_eq_of_mem_set m with m | rfl
          · exact (List.nodup_cons.mp n).1 m
          · exact hb List.mem_cons_self
    exact this h.n nq
  refine ⟨⟨?_, by rw [hc]; exact nd, ⟨E _ _ h.d.da, fun d m => (h.d.dd d m).ex E, h.d.dn, dpAll_mono E h.d.pl, fun y m => dp_mono E (h.d.cv y m), .nil, h.d.rn, h.d.cn, h.d.rl, h.d.cl, Nat.zero_le _⟩, ?_⟩, ⟨fun c u e n => ?_, fun c m => ?_, rfl⟩⟩
  · have ht := CellsC.app (c2.new (o := .lst []) hq) (CellsC.app (c3.new (o := .lst []) hq) (c4.new (o := .lst []) hq))
    have hh : CellsC (upd M q (.lst [])) (x.cells.set 4 q) ([clO C x, .lst x.plv, .dK (roK x.ro), .dK (caK x.co), .lst []] ++ (x.ro.map (roO CR) ++ (x.co.map (caO CC) ++ x.ao))) := by
      cases c1 with
      | cons a1 r =>
        cases r with
        | cons a2 r =>
          cases r with
          | cons a3 r =>
            cases r with
            | cons a4 r =>
              exact .cons (upd_ne' a1 (ne_of_none a1 hq)) (.cons (upd_ne' a2 (ne_of_none a2 hq)) (.cons (upd_ne' a3 (ne_of_none a3 hq)) (.cons (upd_ne' a4 (ne_of_none a4 hq)) (.cons upd_same ht))))
    have h2 := CellsC.put (i := 0) (b := x.p) (o := clO C { x with nw := q, nwv := [], news := [] }) nd hh rfl
    rw [hc]
    exact h2.mv fun c m u e => (del_ne fun (z : c = x.nw) => nn (z ▸ m)).trans e
  · intro c xs e
    by_cases z : c = x.nw
    · rw [z, del_same] at e; cases e
    · rw [del_ne z] at e
      have nt1 : NoT (upd M q (.lst [])) := h.nt.upd fun _ z => by cases z
      exact (nt1.upd (o := clO C { x with nw := q, nwv := [], news := [] }) fun _ z => by unfold clO at z; cases z) c xs e
  · have z1 : c ≠ x.nw := fun z => n (z ▸ List.mem_cons_of_mem _ (List.mem_cons_of_mem _ (List.mem_cons_of_mem _ (List.mem_cons_of_mem _ List.mem_cons_self))))
    rw [del_ne z1]
    exact upd_ne' (upd_ne' e (ne_of_none e hq)) fun z => n (z ▸ List.mem_cons_self)
  · rw [hc] at m
    rcases List.mem_or_eq_of_mem_set m with m | rfl
    · exact .inl m
    · exact .inr hq
end
/-! ### clerks: routes and calls, as data -/
def rDat (ro : List RoX) : List (Int × RoD) := ro.map fun y => (y.g, y.d)
def route0 : RoD := ⟨0, 0, false⟩
def routeD (l : List (Int × RoD)) (g : Int) : List (Int × RoD) := if g ∈ l.map (·.1) then l else l ++ [(g, route0)]
def lookR (l : List (Int × RoD)) (g : Int) : RoD := ((l.find? fun p => decide (p.1 = g)).map (·.2)).getD route0
structure CaD where
  k : Int
  g : Int
  cmd : PyData
  hint : Option Int
def cDat (co : List CaX) : List CaD := co.map fun y => ⟨y.k, y.g, y.cmd, y.hint⟩
section
variable {ro : List RoX} {co : List CaX} {g k : Int} {i : Nat}
theorem roK_none : valV (roK ro) (.inl g) = none ↔ g ∉ ro.map (·.g) := by
  induction ro with
  | nil => exact ⟨(fun _ z => nomatch z), fun _ => rfl⟩
  | cons y r ih =>
    show valV ((Sum.inl y.g, V.ref y.q) :: roK r) (.inl g) = none ↔ _
    by_cases q : y.g = g
    · rw [q, valV_hd]
      exact ⟨(fun z => nomatch z), fun z => absurd (by rw [List.map_cons, q]; exact List.mem_cons_self) z⟩
    · rw [valV_tl fun z => q (Sum.inl.inj z), ih, List.map_cons, List.mem_cons]
      exact ⟨fun z w => w.elim (fun w => q w.symm) z, fun z w => z (.inr w)⟩
theorem roK_some {y : RoX} (n : (ro.map (·.g)).Nodup) (h : ro[i]? = some y) : valV (roK ro) (.inl y.g) = some (.ref y.q) := by
  induction ro generalizing i with
  | nil => simp at h
  | cons z r ih =>
    show valV ((Sum.inl z.g, V.ref z.q) :: roK r) (.inl y.g) = _
    rw [List.map_cons, List.nodup_cons] at n
    cases i with
    | zero =>
      obtain rfl := Option.some.inj h
      exact valV_hd
    | succ i =>
      rw [List.getElem?_cons_succ] at h
      rw [valV_tl fun w => n.1 (by rw [Sum.inl.inj w]; exact List.mem_map_of_mem (List.mem_of_getElem? h))]
      exact ih n.2 h
theorem caK_none : valV (caK co) (.inl k) = none ↔ k ∉ co.map (·.k) := by
  induction co with
  | nil => exact ⟨(fun _ z => nomatch z), fun _ => rfl⟩
  | cons y r ih =>
    show valV ((Sum.inl y.k, V.ref y.q) :: caK r) (.inl k) = none ↔ _
    by_cases q : y.k = k
    · rw [q, valV_hd]
      exact ⟨(fun z => nomatch z), fun z => absurd (by rw [List.map_cons, q]; exact List.mem_cons_self) z⟩
    · rw [valV_tl fun z => q (Sum.inl.inj z), ih, List.map_cons, List.mem_cons]
      exact ⟨fun z w => w.elim (fun w => q w.symm) z, fun z w => z (.inr w)⟩
theorem caK_some {y : CaX} (n : (co.map (·.k)).Nodup) (h : co[i]? = some y) : valV (caK co) (.inl y.k) = some (.ref y.q) := by
  induction co generalizing i with
  | nil => simp at h
  | cons z r ih =>
    show valV ((Sum.inl z.k, V.ref z.q) :: caK r) (.inl y.k) = _
    rw [List.map_cons, List.nodup_cons] at n
    cases i with
    | zero =>
      obtain rfl := Option.some.inj h
      exact valV_hd
    | succ i =>
      rw [List.getElem?_cons_succ] at h
      rw [valV_tl fun w => n.1 (by rw [Sum.inl.inj w]; exact List.mem_map_of_mem (List.mem_of_getElem? h))]
      exact ih n.2 h
theorem putR_new {y : RoX} (h : y.g ∉ ro.map (·.g)) : putK (roK ro) (.inl y.g) (.ref y.q) = roK (ro ++ [y]) := by
  unfold putK
  rw [valV_any, roK_none.mpr h, if_neg (by simp)]
  unfold roK
  rw [List.map_append]; rfl
theorem putC_new {y : CaX} (h : y.k ∉ co.map (·.k)) : putK (caK co) (.inl y.k) (.ref y.q) = caK (co ++ [y]) := by
  unfold putK
  rw [valV_any, caK_none.mpr h, if_neg (by simp)]
  unfold caK
  rw [List.map_append]; rfl
theorem rDat_keys : (rDat ro).map (·.1) = ro.map (·.g) := by unfold rDat; rw [List.map_map]; rfl
theorem lookR_at {y : RoX} (n : (ro.map (·.g)).Nodup) (h : ro[i]? = some y) : lookR (rDat ro) y.g = y.d := by
  induction ro generalizing i with
  | nil => simp at h
  | cons z r ih =>
    rw [List.map_cons, List.nodup_cons] at n
    unfold lookR rDat
    rw [List.map_cons, List.find?_cons]
    cases i with
    | zero =>
      obtain rfl := Option.some.inj h
      rw [show decide ((z.g, z.d).1 = z.g) = true from decide_eq_true rfl]; rfl
    | succ i =>
      rw [List.getElem?_cons_succ] at h
      rw [show decide ((z.g, z.d).1 = y.g) = false from decide_eq_false fun w => n.1 (by rw [show z.g = y.g from w]; exact List.mem_map_of_mem (List.mem_of_getElem? h))]
      exact ih n.2 h
end
/-! ### clerks: a cell beside them -/
section
variable {K : PySem.W.Frag} {C CR CC : Addr} {M0 M M' G G' H : Hp} {x0 x x' : ClX} {b q : Addr} {o : HO} {i : Nat}
theorem ClS.off (h : ClS K C CR CC M0 x0 M G x) (h0 : M0 b = none) (hb : b ∉ x.cells) (ho : ∀ xs, o ≠ .tup xs) : ClS K C CR CC M0 x0 (upd M b o) G x where
  t := ⟨CellsC.off h.t.c hb, h.t.n, h.t.d, h.t.nt.upd ho⟩
  f := ⟨fun c u e n => upd_ne' (h.f.kp c u e n) (ne_of_none e h0), h.f.nw, h.f.pe⟩
theorem ClS.less (h : ClS K C CR CC M0 x0 M G x) (h0 : M0 b = none) (hb : b ∉ x.cells) : ClS K C CR CC M0 x0 (del M b) G x where
  t := ⟨CellsC.mv h.t.c fun c m u e => (del_ne (fun (z : c = b) => hb (z ▸ m))).trans e, h.t.n, h.t.d, fun c ys e => by
    by_cases q : c = b
    · rw [q, del_same] at e; cases e
    · rw [del_ne q] at e; exact h.t.nt c ys e⟩
  f := ⟨fun c u e n => (del_ne (ne_of_none e h0)).trans (h.f.kp c u e n), h.f.nw, h.f.pe⟩
/-- a cell that is not the clerk's stays none of it -/
theorem FrC.not {M0 M : Hp} {x0 x : ClX} (f : FrC M0 x0 M x) (h0 : M0 b = some o) (hb : b ∉ x0.cells) : b ∉ x.cells := fun m => by
  rcases f.nw b m with z | z
  · exact hb z
  · rw [h0] at z; cases z
end
/-! ### clerks beside the law's draws -/
section
variable {K : PySem.W.Frag} {M M' G : Hp} {p : Addr}
theorem Dr.atR (h : Dr K M G p) : ∃ xs, M p = some (.lst xs) := by
  obtain ⟨q, ns, at_, h1, _⟩ := h
  exact ⟨_, h1⟩
theorem Dr.mvR (h : Dr K M G p) (e : ∀ o, M p = some o → M' p = some o) : Dr K M' G p := by
  obtain ⟨q, ns, at_, h1, h2⟩ := h
  exact ⟨q, ns, at_, e _ h1, h2⟩
end
structure CdA (K : PySem.W.Frag) (C CR CC : Addr) (M G : Hp) (x : ClX) (p : Addr) : Prop where
  dr : Dr K M G p
  cl : ClAt K C CR CC M G x
  np : p ∉ x.cells
section
variable {K : PySem.W.Frag} {C CR CC : Addr} {M M' G G' : Hp} {x x' : ClX} {p : Addr}
theorem CdA.ex (h : CdA K C CR CC M G x p) (e : Ex G G') : CdA K C CR CC M G' x p := ⟨h.dr.ex e, h.cl.ex e, h.np⟩
theorem CdA.draw (h : CdA K C CR CC M G x p) (e : Ex G G') (d : Dr K M' G' p) (a : ∀ b, b ≠ p → M' b = M b) : CdA K C CR CC M' G' x p := by
  obtain ⟨xs, hx⟩ := d.atR
  exact ⟨d, ⟨h.cl.c.mv fun c m u z => (a c fun w => h.np (w ▸ m)).trans z, h.cl.n, h.cl.d.ex e, h.cl.nt.ag a hx fun _ z => nomatch z⟩, h.np⟩
theorem CdA.step (h : CdA K C CR CC M G x p) (e : Ex G G') (s : ClS K C CR CC M x M' G' x') : CdA K C CR CC M' G' x' p := by
  obtain ⟨xs, hx⟩ := h.dr.atR
  exact ⟨(h.dr.ex e).mvR fun o ho => s.f.kp p o ho h.np, s.t, s.f.not hx h.np⟩
end
/-! ### _law_deals -/
abbrev s_law_deals : Stmt := top 38
abbrev n_law_deals : List Str := ["draws", "deals", "k"]
theorem sc_law_deals : FnScope n_law_deals ["draws"] (defScope s_law_deals) := ⟨rfl, rfl, rfl, by decide +kernel, rfl, by decide +kernel, by decide +kernel⟩
def sp_law_deals (K : PySem.W.Frag) : Sp := Sg (α := Addr) (fun p vs M G => vs = [.ref p] ∧ Dr K M G p ∧ NoT M) (fun p M _ v M' G' => Dr K M' G' p ∧ NoT M' ∧ ∃ (q : Addr) (ds : List (Addr × List Addr × List Op)), v = .ref q ∧ G' q = some (.lst (ds.map fun d => V.ref d.1)) ∧ (∀ d ∈ ds, IsDeal G' d.1 d.2.1 d.2.2) ∧ ds.length ≤ 4)
theorem ok_law_deals {P : Program} {w : World} {K : PySem.W.Frag} {mg : Str → Option Value} {base : Heap}
    {f : Addr} {fd : FuncData} (D : Dn K mg "_law_deals" s_law_deals ["draws"] f fd)
    (b_range : mg "range" = none)
    (c_law_draw : Cal P w K mg base CX0 2 "_law_draw" (sp_law_draw K)) : Cal P w K mg base CX0 3 "_law_deals" (sp_law_deals K) := by
  refine D.ok sc_law_deals (fun vs H Q E h => ?_) fun cdv A outer s H vs Q E hr h => ?_
  · obtain ⟨x, M, G, j, ⟨rfl, _⟩, _⟩ := h; rfl
  obtain ⟨p, M, G, j, ⟨rfl, hd, nt⟩, k⟩ := h
  refine ⟨_, (pss_cons (ps_set (i := 1) sc_law_deals.nd rfl (Or.inl rfl) (pe_lst pa_nil))
(pss_cons (ps_for PassesOwn.never rfl (pi_range1 (by rfl) b_range (pa_cons (pe_op op_mod (pe_cal c_law_draw hr (by first | decide | omega) (by rfl) (pa_cons (pv 0) pa_nil)) pe_int) pa_nil)) (pg_name (i := 2) sc_law_deals.nd rfl (Or.inl rfl))
(pss_one (ps_expr (pe_bm PySem.F.plainAttrs_list PySem.F.slot_list_append PySem.F.type_list_append mt_append (pv 1) (pa_cons (pe_lst (pa_cons (pe_tup (pa_cons pe_str (pa_cons (pe_op op_mod (pe_cal c_law_draw hr (by first | decide | omega) (by rfl) (pa_cons (pv 0) pa_nil)) pe_int) pa_nil))) (pa_cons (pe_tup (pa_cons pe_str (pa_cons (pe_op op_mod (pe_cal c_law_draw hr (by first | decide | omega) (by rfl) (pa_cons (pv 0) pa_nil)) pe_int) (pa_cons (pe_cal c_law_draw hr (by first | decide | omega) (by rfl) (pa_cons (pv 0) pa_nil)) pa_nil)))) pa_nil))) pa_nil)))))
(pss_one (ps_ret (pv 1))))), ?_⟩
  obtain ⟨xs0, hx0⟩ := hd.atR
  walk_at "start"
  refine w_newM j (Nat.zero_le _) fun L H1 j1 nL gL => ?_
  have pL : L ≠ p := fun z => by rw [z, hx0] at nL; cases nL
  walk_at "go"
  refine use_draw j1 (hd.upd pL) fun n2 M2 G2 H2 z2 _ j2 e2 d2 a2 => ?_
  obtain ⟨xs2, hx2⟩ := d2.atR
  have nt2 : NoT M2 := nt.updL.ag a2 hx2 fun _ z => nomatch z
  have hL2 : M2 L = some (.lst []) := by rw [a2 L pL]; exact upd_same
  walk_at "go"
  refine w_rng (fun i σ H => ∃ M1 G1 x2, ∃ ds : List (Addr × List Addr × List Op), J M1 G1 H ∧ Ex G2 G1 ∧ Dr K M1 G1 p ∧ NoT M1 ∧ M1 L = some (.lst (ds.map fun d => V.ref d.1)) ∧ (∀ d ∈ ds, IsDeal G1 d.1 d.2.1 d.2.2) ∧ ds.length = i ∧ σ = [some (.ref p), some (.ref L), x2]) ⟨M2, G2, _, [], j2, Same.refl _, d2, nt2, hL2, (fun _ h => nomatch h), rfl, rfl⟩ ?_ ?_ (by omega) (by omega)
  · rintro i σ H hi ⟨M3, G3, x2, ds, j3, e3, d3, nt3, hL3, hds, hl, rfl⟩
    walk_at "go"
    refine ⟨ty_listM j3 hL3, ?_⟩
    walk_at "go"
    refine use_draw j3 d3 fun n4 M4 G4 H4 z4 _ j4 e4 d4 a4 => ?_
    walk_at "go"
    refine w_new j4 (by show 2 ≤ sizeLine; decide) fun t1 G5 H5 j5 e5 ht1 _ => ?_
    walk_at "go"
    refine use_draw j5 (d4.ex e5) fun n6 M6 G6 H6 z6 _ j6 e6 d6 a6 => ?_
    walk_at "go"
    refine use_draw j6 d6 fun n7 M7 G7 H7 z7 y7 j7 e7 d7 a7 => ?_
    walk_at "go"
    refine w_new j7 (by show 3 ≤ sizeLine; decide) fun t2 G8 H8 j8 e8 ht2 _ => ?_
    walk_at "go"
    refine w_new j8 (by show 2 ≤ sizeLine; decide) fun dl G9 H9 j9 e9 hdl _ => ?_
    walk_at "go"
    obtain ⟨xs4, hx4⟩ := d4.atR
    obtain ⟨xs6, hx6⟩ := d6.atR
    obtain ⟨xs7, hx7⟩ := d7.atR
    have nt7 : NoT M7 := ((nt3.ag a4 hx4 fun _ z => nomatch z).ag a6 hx6 fun _ z => nomatch z).ag a7 hx7 fun _ z => nomatch z
    have hL7 : M7 L = some (.lst (ds.map fun d => V.ref d.1)) := by rw [a7 L pL, a6 L pL, a4 L pL]; exact hL3
    refine w_appendA j9 hL7 (by rw [List.length_map]; omega) fun H10 j10 => ?_
    walk_at "go"
    have e59 : Ex G5 G9 := e6.trans (e7.trans (e8.trans e9))
    have e39 : Ex G3 G9 := e4.trans (e5.trans e59)
    have o1 : OpAt G9 t1 (.get (n4 % 1000)) := ⟨e59 _ _ ht1, by show IsKey _; unfold IsKey; omega⟩
    have k2 : IsKey (n6 % 1000) := by unfold IsKey; omega
    have v2 : IsVal n7 := by unfold IsVal; omega
    have o2 : OpAt G9 t2 (.put (n6 % 1000) (some n7)) := ⟨e9 _ _ ht2, k2, v2⟩
    have hdeal : IsDeal G9 dl [t1, t2] [.get (n4 % 1000), .put (n6 % 1000) (some n7)] := ⟨hdl, (OpsAt.nil.snoc o1).snoc o2, by show 1 ≤ 2; decide, by show 2 ≤ 6; decide⟩
    refine ⟨_, G9, _, ds ++ [(dl, [t1, t2], [.get (n4 % 1000), .put (n6 % 1000) (some n7)])], j10, e3.trans e39, (d7.ex (e8.trans e9)).upd pL, nt7.upd (fun _ z => nomatch z), ?_, ?_, ?_, rfl⟩
    · rw [List.map_append]; exact upd_same
    · intro d hd
      rcases List.mem_append.mp hd with h | h
      · exact (hds d h).ex e39
      · rw [List.mem_singleton.mp h]; exact hdeal
    · rw [List.length_append, hl]; rfl
  · rintro σ H ⟨M3, G3, x2, ds, j3, e3, d3, nt3, hL3, hds, hl, rfl⟩
    walk_at "go"
    have nG : G3 L = none := j3.d L _ hL3
    have e4 : Ex G3 (upd G3 L (.lst (ds.map fun d => V.ref d.1))) := Ex.new nG
    refine k _ _ _ _ (j3.seal hL3) (e2.trans (e3.trans e4)) ⟨(d3.ex e4).del pL, ?_, L, ds, rfl, upd_same, fun d hd => (hds d hd).ex e4, by omega⟩
    intro c ys e
    by_cases q : c = L
    · rw [q, del_same] at e; cases e
    · rw [del_ne q] at e; exact nt3 c ys e
/-! ### Attempt.__init__ -/
abbrev s_Attempt___init__ : Stmt := inClass (top 27) 0
abbrev n_Attempt___init__ : List Str := ["self", "deal", "ops"]
theorem sc_Attempt___init__ : FnScope n_Attempt___init__ ["self", "deal", "ops"] (defScope s_Attempt___init__) := ⟨rfl, rfl, rfl, by decide +kernel, rfl, by decide +kernel, by decide +kernel⟩
structure AiP where
  p : Addr
  dx : Addr
  dv : V
  ov : V
theorem upd_two2 {M : Hp} {d c : Addr} {o o' o2 : HO} (h : c ≠ d) : upd (upd (upd M d o) c o') d o2 = upd (upd M c o') d o2 := by
  funext b
  by_cases q : b = d
  · subst q; rw [upd_same, upd_same]
  · rw [upd_ne q, upd_ne q]
    by_cases z : b = c
    · subst z; rw [upd_same, upd_same]
    · rw [upd_ne z, upd_ne z, upd_ne q]
def atO (C dx : Addr) (dv ov : V) (st : Str) (nd : Int) (sv : V) (pa rw re gs : Addr) (ld vd : V) (en ov' : Bool) : HO := .ins C dx (fl_Attempt dv ov (.str st) (.int nd) sv (.ref pa) (.ref rw) (.ref re) (.ref gs) ld vd (.bl en) (.bl ov'))
def sp_Attempt___init__ (K : PySem.W.Frag) (C : Addr) : Sp := Sg (α := AiP) (fun x vs M _ => vs = [.ref x.p, x.dv, x.ov] ∧ M x.p = some (.ins C x.dx [])) (fun x M _ v M' G' => v = .non ∧ ∃ rw pa re gs, M rw = none ∧ M' = upd (upd M rw (.dK [])) x.p (atO C x.dx x.dv x.ov "start" 1 .non pa rw re gs .non .non false false) ∧ G' pa = some (.lst []) ∧ G' re = some (.lst []) ∧ G' gs = some (.lst []))
theorem ok_Attempt___init__ {P : Program} {w : World} {K : PySem.W.Frag} {mg : Str → Option Value} {base : Heap}
    {C_Attempt : Addr} (T_Attempt : Tx_Attempt K mg C_Attempt)
    {f : Addr} {fd : FuncData} (D : Di K C_Attempt "Attempt.__init__" s_Attempt___init__ ["self", "deal", "ops"] f fd)
    (g_START : ∃ u, mg "START" = some u ∧ RelV (.str "start") u) : CalI P w K mg base CX0 1 C_Attempt (sp_Attempt___init__ K C_Attempt) := by
  refine D.ok sc_Attempt___init__ (fun vs H Q E h => ?_) fun cdv A outer s H vs Q E hr h => ?_
  · obtain ⟨x, M, G, j, ⟨rfl, _⟩, _⟩ := h; rfl
  obtain ⟨⟨x, dx, dv, ov⟩, M, G, j, ⟨rfl, hx⟩, k⟩ := h
  dsimp only at hx k
  refine ⟨_, (pss_cons (ps_fld (pv 0) (pv 1) rfl)
(pss_cons (ps_fld (pv 0) (pv 2) rfl)
(pss_cons (ps_fld (pv 0) (pe_gk (by rfl) g_START) rfl)
(pss_cons (ps_fld (pv 0) pe_int rfl)
(pss_cons (ps_fld (pv 0) pe_non rfl)
(pss_cons (ps_fld (pv 0) (pe_lst pa_nil) rfl)
(pss_cons (ps_fld (pv 0) pe_dnewK rfl)
(pss_cons (ps_fld (pv 0) (pe_lst pa_nil) rfl)
(pss_cons (ps_fld (pv 0) (pe_lst pa_nil) rfl)
(pss_cons (ps_fld (pv 0) pe_non rfl)
(pss_cons (ps_fld (pv 0) pe_non rfl)
(pss_cons (ps_fld (pv 0) pe_bl rfl)
(pss_one (ps_fld (pv 0) pe_bl rfl)))))))))))))), ?_⟩
  walk_at "start"
  refine w_setX j hx T_Attempt.cl T_Attempt.n_deal (by show 0 < 1000; decide) fun H1 j1 => ?_
  rw [nf_Attempt_deal] at j1
  walk_at "go"
  refine w_setX j1 upd_same T_Attempt.cl T_Attempt.n_ops (by show 1 < 1000; decide) fun H2 j2 => ?_
  rw [nf_Attempt_ops, upd_upd] at j2
  walk_at "go"
  refine w_setX j2 upd_same T_Attempt.cl T_Attempt.n_step (by show 2 < 1000; decide) fun H3 j3 => ?_
  rw [nf_Attempt_step, upd_upd] at j3
  walk_at "go"
  refine w_setX j3 upd_same T_Attempt.cl T_Attempt.n_needed (by show 3 < 1000; decide) fun H4 j4 => ?_
  rw [nf_Attempt_needed, upd_upd] at j4
  walk_at "go"
  refine w_setX j4 upd_same T_Attempt.cl T_Attempt.n_start (by show 4 < 1000; decide) fun H5 j5 => ?_
  rw [nf_Attempt_start, upd_upd] at j5
  walk_at "go"
  refine w_new j5 (Nat.zero_le _) fun pa G6 H6 j6 e6 hpa _ => ?_
  walk_at "go"
  refine w_setX j6 upd_same T_Attempt.cl T_Attempt.n_parts (by show 5 < 1000; decide) fun H7 j7 => ?_
  rw [nf_Attempt_parts, upd_upd] at j7
  walk_at "go"
  refine w_newM j7 (Nat.zero_le _) fun rw H8 j8 nrw _ => ?_
  have hxr : rw ≠ x := fun z => by rw [z, upd_same] at nrw; cases nrw
  walk_at "go"
  refine w_setX j8 (upd_ne' upd_same hxr.symm) T_Attempt.cl T_Attempt.n_rows (by show 6 < 1000; decide) fun H9 j9 => ?_
  rw [nf_Attempt_rows] at j9
  rw [upd_two2 hxr] at j9
  walk_at "go"
  refine w_new j9 (Nat.zero_le _) fun re G10 H10 j10 e10 hre _ => ?_
  walk_at "go"
  refine w_setX j10 upd_same T_Attempt.cl T_Attempt.n_results (by show 7 < 1000; decide) fun H11 j11 => ?_
  rw [nf_Attempt_results, upd_upd] at j11
  walk_at "go"
  refine w_new j11 (Nat.zero_le _) fun gs G12 H12 j12 e12 hgs _ => ?_
  walk_at "go"
  refine w_setX j12 upd_same T_Attempt.cl T_Attempt.n_groups (by show 8 < 1000; decide) fun H13 j13 => ?_
  rw [nf_Attempt_groups, upd_upd] at j13
  walk_at "go"
  refine w_setX j13 upd_same T_Attempt.cl T_Attempt.n_lead (by show 9 < 1000; decide) fun H14 j14 => ?_
  rw [nf_Attempt_lead, upd_upd] at j14
  walk_at "go"
  refine w_setX j14 upd_same T_Attempt.cl T_Attempt.n_verdict (by show 10 < 1000; decide) fun H15 j15 => ?_
  rw [nf_Attempt_verdict, upd_upd] at j15
  walk_at "go"
  refine w_setX j15 upd_same T_Attempt.cl T_Attempt.n_ended (by show 11 < 1000; decide) fun H16 j16 => ?_
  rw [nf_Attempt_ended, upd_upd] at j16
  walk_at "go"
  refine w_setX j16 upd_same T_Attempt.cl T_Attempt.n_over (by show 12 < 1000; decide) fun H17 j17 => ?_
  rw [nf_Attempt_over, upd_upd] at j17
  walk_at "go"
  have nrw0 : M rw = none := by rw [upd_ne hxr] at nrw; exact nrw
  exact k _ _ _ _ j17 (e6.trans (e10.trans e12)) ⟨rfl, rw, pa, re, gs, nrw0, rfl, (e10.trans e12) _ _ hpa, e12 _ _ hre, hgs⟩
/-! ### an object that is being made: cells so far, beside it -/
/-- cells made so far, beside the object -/
structure MkC (M0 M : Hp) (p : Addr) (f : HO) (as : List Addr) (os : List HO) : Prop where
  op : M p = some f
  c : CellsC M as os
  n : as.Nodup
  np : p ∉ as
  nw : ∀ b ∈ as, M0 b = none
  kp : ∀ b o, M0 b = some o → b ≠ p → M b = some o
  nt : NoT M
theorem MkC.fld {M0 M : Hp} {p : Addr} {f f' : HO} {as : List Addr} {os : List HO} (h : MkC M0 M p f as os) (ho : ∀ xs, f' ≠ .tup xs) : MkC M0 (upd M p f') p f' as os :=
  ⟨upd_same, h.c.off h.np, h.n, h.np, h.nw, fun b o e n => upd_ne' (h.kp b o e n) n, h.nt.upd ho⟩
theorem MkC.new {M0 M : Hp} {p b : Addr} {f o f' : HO} {as : List Addr} {os : List HO} (h : MkC M0 M p f as os) (hb : M b = none) (h0 : ∃ u, M0 p = some u) (ho : ∀ xs, o ≠ .tup xs) (ho' : ∀ xs, f' ≠ .tup xs) : MkC M0 (upd (upd M b o) p f') p f' (as ++ [b]) (os ++ [o]) := by
  have bp : b ≠ p := fun z => by rw [z, h.op] at hb; cases hb
  have nb : b ∉ as := fun m => by
    obtain ⟨u, e⟩ := CellsC.ex h.c m
    rw [hb] at e; cases e
  have np : p ∉ as ++ [b] := fun m => by
    rcases List.mem_append.mp m with m | m
    · exact h.np m
    · exact bp (List.mem_singleton.mp m).symm
  refine ⟨upd_same, (CellsC.app (h.c.off nb) (.cons upd_same .nil)).off np, ?_, np, fun x m => ?_, fun x u e n => upd_ne' (upd_ne' (h.kp x u e n) (ne_of_none (h.kp x u e n) hb)) n, (h.nt.upd ho).upd ho'⟩
  · rw [List.nodup_append]
    exact ⟨h.n, List.nodup_cons.mpr ⟨(fun z => nomatch z), List.nodup_nil⟩, fun x hx y hy e => nb (by rw [← List.mem_singleton.mp hy, ← e]; exact hx)⟩
  · rcases List.mem_append.mp m with m | m
    · exact h.nw x m
    · rw [List.mem_singleton.mp m]
      cases e : M0 b with
      | none => rfl
      | some u => rw [h.kp b u e bp] at hb; cases hb
theorem nt_i {C dx : Addr} {fs : List (Str × V)} : ∀ xs, HO.ins C dx fs ≠ .tup xs := fun _ z => nomatch z
section
variable {K : PySem.W.Frag} {M G H : Hp} {σ : L2.St} {Q : VK} {g : TG} {tt : TT} {te : TE} {vs : List Nat} {a : Addr} {xs : List V}
/-- [.. for x in xs], a list of either kind -/
theorem w_lcLroX (j : J M G H) (hx : M a = some (.lst xs) ∨ G a = some (.lst xs)) (R : Nat → List V → Hp → Prop) (h0 : R 0 [] G)
    (hs : ∀ L i x acc G1 H1, xs[i]? = some x → M L = none → J (upd M L (.lst acc)) G1 H1 → Ex G G1 → R i acc G1 → g x (wipe σ vs) H1 fun σ2 H3 => wipe σ2 vs = wipe σ vs ∧ tt σ2 H3 fun b H4 => if b = true then te σ2 H4 (RoAdd M G R L (i + 1)) else RoI M G R L (i + 1) H4)
    (hd : ∀ L acc G1 G2 H1, J M G2 H1 → Ex G G1 → Ex G1 G2 → G2 L = some (.lst acc) → R xs.length acc G1 → Q (.ref L) H1) : LcL K g tt te vs σ (.ref a) H Q :=
  ⟨a, rfl, ⟨xs, hx.elim (fun h => sl_of (j.m _ _ h)) fun h => sl_of (j.g _ _ h)⟩, lcd_ro walk_list j R h0 (fun H1 e1 e => hx.elim (fun h => sl_of (e1 _ _ h)) fun h => sl_of (e _ _ h)) (fun L i x acc G1 H1 H2 _ nM j1 e1 r y => by obtain ⟨rfl, hy⟩ := y; exact hs L i x acc G1 _ hy nM j1 e1 r) hd⟩
end
/-! ### Clerk.__init__ -/
abbrev s_Clerk___init__ : Stmt := inClass (top 31) 0
abbrev n_Clerk___init__ : List Str := ["self", "client", "machines", "deals", "ops"]
theorem sc_Clerk___init__ : FnScope n_Clerk___init__ ["self", "client", "machines", "deals"] (defScope s_Clerk___init__) := ⟨rfl, rfl, rfl, by decide +kernel, rfl, by decide +kernel, by decide +kernel⟩
structure CkP where
  p : Addr
  dx : Addr
  client : Int
  machines : Int
  q : Addr
  ds : List (Addr × List Addr × List Op)
def plD (a b g : Int) : PyData := .tuple [.int a, .int b, .int g]
def ClNew (K : PySem.W.Frag) (C CR CC : Addr) (k : CkP) (M0 M' G' : Hp) : Prop := ∃ x : ClX, ClAt K C CR CC M' G' x ∧ x.p = k.p ∧ x.client = k.client ∧ x.machines = k.machines ∧ x.number = 0 ∧ x.busy = false ∧ x.places = [plD 0 1000 1] ∧ x.ro = [] ∧ x.token = 0 ∧ x.co = [] ∧ x.av = .non ∧ x.ac = [] ∧ x.ao = [] ∧ x.tries = 0 ∧ x.news = [] ∧ x.dls.map (fun d => (d.2.1, d.2.2)) = k.ds.map (fun d => (d.2.1, d.2.2)) ∧ (∀ b o, M0 b = some o → b ≠ k.p → M' b = some o) ∧ ∀ b ∈ x.cells, b = k.p ∨ M0 b = none
def sp_Clerk___init__ (K : PySem.W.Frag) (C CR CC : Addr) : Sp := Sg (α := CkP) (fun x vs M G => vs = [.ref x.p, .int x.client, .int x.machines, .ref x.q] ∧ M x.p = some (.ins C x.dx []) ∧ (M x.q = some (.lst (x.ds.map fun d => V.ref d.1)) ∨ G x.q = some (.lst (x.ds.map fun d => V.ref d.1))) ∧ (∀ d ∈ x.ds, IsDeal G d.1 d.2.1 d.2.2) ∧ x.ds.length ≤ 60 ∧ NoT M ∧ x.q ≠ x.p) (fun x M _ v M' G' => v = .non ∧ ClNew K C CR CC x M M' G')
theorem ok_Clerk___init__ {P : Program} {w : World} {K : PySem.W.Frag} {mg : Str → Option Value} {base : Heap}
    {C_Clerk : Addr} (T_Clerk : Tx_Clerk K mg C_Clerk)
    {C_Route : Addr} (T_Route : Tx_Route K mg C_Route)
    {C_Call : Addr} (T_Call : Tx_Call K mg C_Call)
    {f : Addr} {fd : FuncData} (D : Di K C_Clerk "Clerk.__init__" s_Clerk___init__ ["self", "client", "machines", "deals"] f fd)
    (b_list : mg "list" = none) : CalI P w K mg base CX0 1 C_Clerk (sp_Clerk___init__ K C_Clerk C_Route C_Call) := by
  refine D.ok sc_Clerk___init__ (fun vs H Q E h => ?_) fun cdv A outer s H vs Q E hr h => ?_
  · obtain ⟨x, M, G, j, ⟨rfl, _⟩, _⟩ := h; rfl
  obtain ⟨⟨p, dx, client, machines, q, ds⟩, M, G, j, ⟨rfl, hp, hq, hds, hdl, nt, nqp⟩, k⟩ := h
  dsimp only at hp hq hds hdl nt nqp k
  refine ⟨_, (pss_cons (ps_fld (pv 0) (pv 1) rfl)
(pss_cons (ps_fld (pv 0) (pv 2) rfl)
(pss_cons (ps_fld (pv 0) (pe_lc (own := [("ops", 4)]) (by rfl) sc_Clerk___init__.nd (pi_list (pv 3)) (blkOk_by (own := [("ops", 4)]) (N := n_Clerk___init__) (sc := defScope s_Clerk___init__) (by decide +kernel)) (fun _ _ _ _ _ => (pg_name (i := 4) sc_Clerk___init__.nd rfl (Or.inl rfl))) (fun _ _ _ _ _ => pts_nil) (fun _ _ _ _ _ => (pe_callTy (call_listC (K := K) rfl) (by rfl) b_list bt_list (pa_cons (pv 4) pa_nil)))) rfl)
(pss_cons (ps_fld (pv 0) pe_int rfl)
(pss_cons (ps_fld (pv 0) pe_bl rfl)
(pss_cons (ps_fld (pv 0) (pe_lst (pa_cons (pe_tup (pa_cons pe_int (pa_cons pe_int (pa_cons pe_int pa_nil)))) pa_nil)) rfl)
(pss_cons (ps_fld (pv 0) pe_dnewK rfl)
(pss_cons (ps_fld (pv 0) pe_int rfl)
(pss_cons (ps_fld (pv 0) pe_dnewK rfl)
(pss_cons (ps_fld (pv 0) pe_non rfl)
(pss_cons (ps_fld (pv 0) pe_int rfl)
(pss_one (ps_fld (pv 0) (pe_lst pa_nil) rfl))))))))))))), ?_⟩
  walk_at "start"
  have hp0 : ∃ u, M p = some u := ⟨_, hp⟩
  have nti : ∀ {dx : Addr} {fs : List (Str × V)}, ∀ xs, HO.ins C_Clerk dx fs ≠ .tup xs := fun _ z => nomatch z
  have m0 : MkC M M p (.ins C_Clerk dx []) [] [] := ⟨hp, .nil, List.nodup_nil, (fun z => nomatch z), (fun _ z => nomatch z), (fun _ _ e _ => e), nt⟩
  refine w_setX j m0.op T_Clerk.cl T_Clerk.n_client (by show 0 < 1000; decide) fun Hs0 js0 => ?_
  rw [nf_Clerk_client] at js0
  have m1 := m0.fld (f' := .ins C_Clerk dx [("client", V.int client)]) nti
  walk_at "go"
  refine w_setX js0 m1.op T_Clerk.cl T_Clerk.n_machines (by show 1 < 1000; decide) fun Hs1 js1 => ?_
  rw [nf_Clerk_machines] at js1
  have m2 := m1.fld (f' := .ins C_Clerk dx [("client", V.int client), ("machines", V.int machines)]) nti
  walk_at "go"
  have hq2 : (upd (upd M p _) p _) q = some (.lst (ds.map fun d => V.ref d.1)) ∨ G q = some (.lst (ds.map fun d => V.ref d.1)) := hq.elim (fun h => .inl (m2.kp _ _ h nqp)) .inr
  refine w_lcLroX js1 hq2 (fun i acc G1 => ∃ es : List (Addr × List Addr × List Op), acc = es.map (fun d => V.ref d.1) ∧ (∀ d ∈ es, IsDeal G1 d.1 d.2.1 d.2.2) ∧ es.map (fun d => (d.2.1, d.2.2)) = (ds.take i).map (fun d => (d.2.1, d.2.2))) ⟨[], rfl, (fun d z => nomatch z), rfl⟩ ?_ ?_
  · rintro L i y acc G1 H1 hy nM j1 e1 ⟨es, rfl, hes, hmm⟩
    rw [List.getElem?_map] at hy
    cases hd : ds[i]? with
    | none => rw [hd] at hy; cases hy
    | some d =>
    rw [hd] at hy
    obtain rfl := Option.some.inj hy
    have hdd := (hds d (List.mem_of_getElem? hd)).ex e1
    have hle : es.length ≤ 60 := by
      have := congrArg List.length hmm
      rw [List.length_map, List.length_map, List.length_take] at this
      omega
    refine w_gName ⟨rfl, ?_⟩
    walk_at "go"
    refine w_listC (.inl (sl_of (j1.g _ _ hdd.1))) (w_new j1 (Nat.zero_le _) fun l2 G2 H2 j2 e2 hl2 _ => ?_)
    refine ro_add j2 (e1.trans e2) (by rw [List.length_map]; omega) ⟨es ++ [(l2, d.2.1, d.2.2)], by rw [List.map_append]; rfl, fun z hz => ?_, ?_⟩
    · rcases List.mem_append.mp hz with w | w
      · exact (hes z w).ex e2
      · rw [List.mem_singleton.mp w]; exact ⟨hl2, (hdd.ex e2).2⟩
    · rw [List.map_append, hmm, List.take_add_one, hd, List.map_append]; rfl
  rintro dl acc G1 G2 H2 j2 e1 e2 hdl2 ⟨es, rfl, hes, hmm⟩
  rw [List.length_map, List.take_length] at hmm
  have lse : es.length ≤ 60 := by
    have := congrArg List.length hmm
    rw [List.length_map, List.length_map] at this
    omega
  have E2 := e1.trans e2
  walk_at "go"
  refine w_setX j2 m2.op T_Clerk.cl T_Clerk.n_deals (by show 2 < 1000; decide) fun Hs2 js2 => ?_
  rw [nf_Clerk_deals] at js2
  have m3 := m2.fld (f' := .ins C_Clerk dx [("client", V.int client), ("machines", V.int machines), ("deals", V.ref dl)]) nti
  walk_at "go"
  refine w_setX js2 m3.op T_Clerk.cl T_Clerk.n_number (by show 3 < 1000; decide) fun Hs3 js3 => ?_
  rw [nf_Clerk_number] at js3
  have m4 := m3.fld (f' := .ins C_Clerk dx [("client", V.int client), ("machines", V.int machines), ("deals", V.ref dl), ("number", V.int 0)]) nti
  walk_at "go"
  refine w_setX js3 m4.op T_Clerk.cl T_Clerk.n_busy (by show 4 < 1000; decide) fun Hs4 js4 => ?_
  rw [nf_Clerk_busy] at js4
  have m5 := m4.fld (f' := .ins C_Clerk dx [("client", V.int client), ("machines", V.int machines), ("deals", V.ref dl), ("number", V.int 0), ("busy", V.bl false)]) nti
  walk_at "go"
  refine w_new js4 (by show 3 ≤ sizeLine; decide) fun t0 G3 H3 j3 e3 ht0 _ => ?_
  walk_at "go"
  refine w_newM j3 (by first | exact Nat.zero_le _ | (show 1 ≤ sizeLine; decide)) fun pl Hpl jpl npl gpl => ?_
  walk_at "go"
  have q5 := upd_ne' (o := .lst [V.ref t0]) m5.op (ne_of_none m5.op npl)
  refine w_setX jpl q5 T_Clerk.cl T_Clerk.n_places (by show 5 < 1000; decide) fun Hs5 js5 => ?_
  rw [nf_Clerk_places] at js5
  have m6 := m5.new npl hp0 (o := .lst [V.ref t0]) (f' := .ins C_Clerk dx [("client", V.int client), ("machines", V.int machines), ("deals", V.ref dl), ("number", V.int 0), ("busy", V.bl false), ("places", V.ref pl)]) (fun _ z => nomatch z) nti
  walk_at "go"
  refine w_newM js5 (by first | exact Nat.zero_le _ | (show 1 ≤ sizeLine; decide)) fun rd Hrd jrd nrd grd => ?_
  walk_at "go"
  have q6 := upd_ne' (o := .dK []) m6.op (ne_of_none m6.op nrd)
  refine w_setX jrd q6 T_Clerk.cl T_Clerk.n_routes (by show 6 < 1000; decide) fun Hs6 js6 => ?_
  rw [nf_Clerk_routes] at js6
  have m7 := m6.new nrd hp0 (o := .dK []) (f' := .ins C_Clerk dx [("client", V.int client), ("machines", V.int machines), ("deals", V.ref dl), ("number", V.int 0), ("busy", V.bl false), ("places", V.ref pl), ("routes", V.ref rd)]) (fun _ z => nomatch z) nti
  walk_at "go"
  refine w_setX js6 m7.op T_Clerk.cl T_Clerk.n_token (by show 7 < 1000; decide) fun Hs7 js7 => ?_
  rw [nf_Clerk_token] at js7
  have m8 := m7.fld (f' := .ins C_Clerk dx [("client", V.int client), ("machines", V.int machines), ("deals", V.ref dl), ("number", V.int 0), ("busy", V.bl false), ("places", V.ref pl), ("routes", V.ref rd), ("token", V.int 0)]) nti
  walk_at "go"
  refine w_newM js7 (by first | exact Nat.zero_le _ | (show 1 ≤ sizeLine; decide)) fun cd Hcd jcd ncd gcd => ?_
  walk_at "go"
  have q8 := upd_ne' (o := .dK []) m8.op (ne_of_none m8.op ncd)
  refine w_setX jcd q8 T_Clerk.cl T_Clerk.n_calls (by show 8 < 1000; decide) fun Hs8 js8 => ?_
  rw [nf_Clerk_calls] at js8
  have m9 := m8.new ncd hp0 (o := .dK []) (f' := .ins C_Clerk dx [("client", V.int client), ("machines", V.int machines), ("deals", V.ref dl), ("number", V.int 0), ("busy", V.bl false), ("places", V.ref pl), ("routes", V.ref rd), ("token", V.int 0), ("calls", V.ref cd)]) (fun _ z => nomatch z) nti
  walk_at "go"
  refine w_setX js8 m9.op T_Clerk.cl T_Clerk.n_attempt (by show 9 < 1000; decide) fun Hs9 js9 => ?_
  rw [nf_Clerk_attempt] at js9
  have m10 := m9.fld (f' := .ins C_Clerk dx [("client", V.int client), ("machines", V.int machines), ("deals", V.ref dl), ("number", V.int 0), ("busy", V.bl false), ("places", V.ref pl), ("routes", V.ref rd), ("token", V.int 0), ("calls", V.ref cd), ("attempt", V.non)]) nti
  walk_at "go"
  refine w_setX js9 m10.op T_Clerk.cl T_Clerk.n_tries (by show 10 < 1000; decide) fun Hs10 js10 => ?_
  rw [nf_Clerk_tries] at js10
  have m11 := m10.fld (f' := .ins C_Clerk dx [("client", V.int client), ("machines", V.int machines), ("deals", V.ref dl), ("number", V.int 0), ("busy", V.bl false), ("places", V.ref pl), ("routes", V.ref rd), ("token", V.int 0), ("calls", V.ref cd), ("attempt", V.non), ("tries", V.int 0)]) nti
  walk_at "go"
  refine w_newM js10 (by first | exact Nat.zero_le _ | (show 1 ≤ sizeLine; decide)) fun nw Hnw jnw nnw gnw => ?_
  walk_at "go"
  have q11 := upd_ne' (o := .lst []) m11.op (ne_of_none m11.op nnw)
  refine w_setX jnw q11 T_Clerk.cl T_Clerk.n_news (by show 11 < 1000; decide) fun Hs11 js11 => ?_
  rw [nf_Clerk_news] at js11
  have m12 := m11.new nnw hp0 (o := .lst []) (f' := .ins C_Clerk dx [("client", V.int client), ("machines", V.int machines), ("deals", V.ref dl), ("number", V.int 0), ("busy", V.bl false), ("places", V.ref pl), ("routes", V.ref rd), ("token", V.int 0), ("calls", V.ref cd), ("attempt", V.non), ("tries", V.int 0), ("news", V.ref nw)]) (fun _ z => nomatch z) nti
  walk_at "go"
  have hpl : DpAll K G3 [V.ref t0] [plD 0 1000 1] := .cons (.tup (st_of ht0) (.cons (.int _) (.cons (.int _) (.cons (.int _) .nil)))) .nil
  refine k _ _ _ _ js11 (E2.trans e3) ⟨rfl, ⟨p, dx, pl, rd, cd, nw, client, machines, dl, es, 0, false, [.ref t0], [plD 0 1000 1], [], 0, [], .non, [], [], 0, [], []⟩, ⟨.cons m12.op m12.c, List.nodup_cons.mpr ⟨m12.np, m12.n⟩, ⟨e3 _ _ hdl2, fun d hd => (hes d hd).ex (e2.trans e3), lse, hpl, (fun y z => nomatch z), .nil, List.nodup_nil, List.nodup_nil, Nat.zero_le _, Nat.zero_le _, Nat.zero_le _⟩, m12.nt⟩, rfl, rfl, rfl, rfl, rfl, rfl, rfl, rfl, rfl, rfl, rfl, rfl, rfl, rfl, hmm, m12.kp, fun b hb => ?_⟩
  rcases List.mem_cons.mp hb with z | z
  · exact .inl z
  · exact .inr (m12.nw b z)
/-! ### _law_numbers -/
abbrev s_law_numbers : Stmt := top 34
abbrev n_law_numbers : List Str := ["script", "numbers", "cell", "rest", "k"]
theorem sc_law_numbers : FnScope n_law_numbers ["script"] (defScope s_law_numbers) := ⟨rfl, rfl, rfl, by decide +kernel, rfl, by decide +kernel, by decide +kernel⟩
def sp_law_numbers (K : PySem.W.Frag) : Sp := Sg (α := Addr × List Int) (fun a vs M G => vs = [.ref a.1] ∧ SqL K G a.1 (a.2.map V.int) ∧ a.2.length ≤ 63)
  (fun a M _ v M' G' => ∃ (t : Addr) (ns : List Int), v = .ref t ∧ G' t = some (.lst (ns.map V.int)) ∧ (∀ n ∈ ns, 0 ≤ n ∧ n < 1000000) ∧ M' = M)
theorem nums_snoc {ns : List Int} {n : Int} (h : ∀ n ∈ ns, 0 ≤ n ∧ n < 1000000) (hn : 0 ≤ n ∧ n < 1000000) : ∀ m ∈ ns ++ [n], 0 ≤ m ∧ m < 1000000 := by
  intro m hm
  rcases List.mem_append.mp hm with hm | hm
  · exact h m hm
  · rw [List.mem_singleton.mp hm]; exact hn
theorem mod_b (n : Int) : 0 ≤ n % 1000000 ∧ n % 1000000 < 1000000 := ⟨Int.emod_nonneg _ (by decide), Int.emod_lt_of_pos _ (by decide)⟩
/-- between the turns: d holds at most m numbers -/
def NumsI (M G : Hp) (a d : Addr) (m : Nat) (σ : L2.St) (H : Hp) : Prop := ∃ (ns : List Int) (G1 : Hp) (x y z : Option V), J (upd M d (.lst (ns.map V.int))) G1 H ∧ Ex G G1 ∧ (∀ n ∈ ns, 0 ≤ n ∧ n < 1000000) ∧ ns.length ≤ m ∧
  σ = [some (.ref a), some (.ref d), x, y, z]
def NumsJ (M G : Hp) (a d : Addr) (m : Nat) (c : Int) (σ : L2.St) (H : Hp) : Prop := ∃ (ns : List Int) (G1 : Hp) (y z : Option V), J (upd M d (.lst (ns.map V.int))) G1 H ∧ Ex G G1 ∧ (∀ n ∈ ns, 0 ≤ n ∧ n < 1000000) ∧ ns.length ≤ m ∧
  σ = [some (.ref a), some (.ref d), some (.int c), y, z]
def NumsR (M G : Hp) (a d : Addr) (m : Nat) (c : Int) (σ : L2.St) (H : Hp) : Prop := ∃ (ns : List Int) (G1 : Hp) (r : Int) (z : Option V), J (upd M d (.lst (ns.map V.int))) G1 H ∧ Ex G G1 ∧ (∀ n ∈ ns, 0 ≤ n ∧ n < 1000000) ∧ ns.length ≤ m ∧
  σ = [some (.ref a), some (.ref d), some (.int c), some (.int r), z]
theorem ok_law_numbers {P : Program} {w : World} {K : PySem.W.Frag} {mg : Str → Option Value} {base : Heap}
    {f : Addr} {fd : FuncData} (D : Dn K mg "_law_numbers" s_law_numbers ["script"] f fd)
    (b_range : mg "range" = none)
    (c_law_mixed : Cal P w K mg base CX0 1 "_law_mixed" (sp_law_mixed K)) : Cal P w K mg base CX0 2 "_law_numbers" (sp_law_numbers K) := by
  refine D.ok sc_law_numbers (fun vs H Q E h => ?_) fun cdv A outer s H vs Q E hr h => ?_
  · obtain ⟨a, M, G, j, ⟨rfl, _⟩, _⟩ := h; rfl
  obtain ⟨⟨a, cs⟩, M, G, j, ⟨rfl, ha, hl⟩, k⟩ := h
  refine ⟨_, (pss_cons (ps_set (i := 1) sc_law_numbers.nd rfl (Or.inl rfl) (pe_lst pa_nil))
(pss_cons (ps_for PassesOwn.never rfl (pi_list (pv 0)) (pg_name (i := 2) sc_law_numbers.nd rfl (Or.inl rfl))
(pss_one (ps_if (pt_cmpR op_ge (pv 2) (pe_op op_pow pe_int pe_int) (nomark _))
(pss_cons (ps_set (i := 3) sc_law_numbers.nd rfl (Or.inl rfl) (pv 2))
(pss_one (ps_for PassesOwn.never rfl (pi_range1 (by rfl) b_range (pa_cons pe_int pa_nil)) (pg_name (i := 4) sc_law_numbers.nd rfl (Or.inl rfl))
(pss_one (ps_if (pt_cmpR op_gt (pv 3) pe_int (nomark _))
(pss_cons (ps_expr (pe_bm PySem.F.plainAttrs_list PySem.F.slot_list_append PySem.F.type_list_append mt_append (pv 1) (pa_cons (pe_op op_mod (pv 3) pe_int) pa_nil)))
(pss_one (ps_set (i := 3) sc_law_numbers.nd rfl (Or.inl rfl) (pe_op op_fdiv (pv 3) pe_int))))
pss_nil)))))
(pss_cons (ps_expr (pe_bm PySem.F.plainAttrs_list PySem.F.slot_list_append PySem.F.type_list_append mt_append (pv 1) (pa_cons (pe_op op_mod (pv 2) pe_int) pa_nil)))
(pss_one (ps_for PassesOwn.never rfl (pi_range1 (by rfl) b_range (pa_cons pe_int pa_nil)) (pg_name (i := 4) sc_law_numbers.nd rfl (Or.inl rfl))
(pss_one (ps_expr (pe_bm PySem.F.plainAttrs_list PySem.F.slot_list_append PySem.F.type_list_append mt_append (pv 1) (pa_cons (pe_op op_mod (pe_cal c_law_mixed hr (by first | decide | omega) (by rfl) (pa_cons (pe_cal c_law_mixed hr (by first | decide | omega) (by rfl) (pa_cons (pe_op op_mod (pv 2) pe_int) (pa_cons (pv 4) pa_nil))) (pa_cons (pe_op (op_uAddK (K := K) rfl) (pv 4) pe_int) pa_nil))) pe_int) pa_nil))))))))))
(pss_one (ps_ret (pv 1))))), ?_⟩
  walk_at "start"
  refine w_newM j (by decide) fun d H1 j1 nM nG => ?_
  walk_at "go"
  refine w_forLV rfl (NumsI M G a d ∘ (60 * ·)) (xs := cs.map V.int) (sl_mono j1.g ha) ⟨[], G, _, _, _, j1, Same.refl G, by simp, Nat.le_refl _, rfl⟩ (fun i σ H _ ⟨ns, G1, _, _, _, j, e, _⟩ => sl_mono (e.trans j.g) ha) ?_ ?_
  · rintro i x σ H hi ⟨ns, G1, x0, y0, z0, j, e, hn, hz, rfl⟩
    dsimp only at ha hl
    obtain ⟨c, rfl⟩ : ∃ c, x = V.int c := by
      rw [List.getElem?_map] at hi
      cases h : cs[i]? with
      | none => rw [h] at hi; cases hi
      | some c => rw [h] at hi; exact ⟨c, (Option.some.inj hi).symm⟩
    have hi' : i < 63 := by
      have := (List.getElem?_eq_some_iff.mp hi).1
      rw [List.length_map] at this; omega
    dsimp only at hz
    walk_at "go"
    refine w_dec (fun h1 => ?_) (fun h1 => ?_)
    · walk_at "go"
      refine w_rng (fun t => NumsR M G a d (60 * i + t) c) ⟨ns, G1, c, _, j, e, hn, hz, rfl⟩ ?_ ?_
      · rintro t σ H ht ⟨ns, G1, r, z, j, e, hn, hz, rfl⟩
        have ht : t < 60 := ht
        walk_at "go"
        refine w_dec (fun h2 => ?_) (fun h2 => ?_)
        · walk_at "go"
          refine ⟨ty_listU j, ?_⟩
          walk_at "go"
          refine w_appendU j (by rw [List.length_map]; omega) fun H' j' => ?_
          walk_at "go"
          exact ⟨ns ++ [r % 1000000], G1, r / 1000000, _, by rw [← map_snoc]; exact j', e, nums_snoc hn (mod_b r), by rw [List.length_append, List.length_singleton]; omega, rfl⟩
        · walk_at "go"
          exact ⟨ns, G1, r, _, j, e, hn, by omega, rfl⟩
      · rintro σ H ⟨ns, G1, r, z, j, e, hn, hz, rfl⟩
        exact ⟨ns, G1, _, _, _, j, e, hn, hz, rfl⟩
    · walk_at "go"
      refine ⟨ty_listU j, ?_⟩
      walk_at "go"
      refine w_appendU j (by rw [List.length_map]; omega) fun H' j' => ?_
      rw [map_snoc] at j'
      walk_at "go"
      refine w_rng (fun t => NumsJ M G a d (60 * i + 1 + t) c) ⟨ns ++ [c % 1000000], G1, _, _, j', e, nums_snoc hn (mod_b c), by rw [List.length_append, List.length_singleton]; omega, rfl⟩ ?_ ?_
      · rintro t σ H ht ⟨ns, G1, y, z, j, e, hn, hz, rfl⟩
        have ht : t < 5 := ht
        walk_at "go"
        refine ⟨ty_listU j, ?_⟩
        walk_at "go"
        refine w_sg (_, _) j rfl fun v M' G' H' j2 e2 ⟨ev, em⟩ => ?_
        subst ev em
        walk_at "go"
        refine w_sg (_, _) j2 rfl fun v M' G' H' j3 e3 ⟨ev, em⟩ => ?_
        subst ev em
        walk_at "go"
        refine w_appendU j3 (by rw [List.length_map]; omega) fun H' j' => ?_
        rw [map_snoc] at j'
        exact ⟨_, _, _, _, j', (e.trans e2).trans e3, nums_snoc hn (mod_b _), by rw [List.length_append, List.length_singleton]; omega, rfl⟩
      · rintro σ H ⟨ns, G1, y, z, j, e, hn, hz, rfl⟩
        exact ⟨ns, G1, _, _, _, j, e, hn, by show ns.length ≤ 60 * (i + 1); have : ns.length ≤ 60 * i + 1 + 5 := hz; omega, rfl⟩
  · rintro σ H ⟨ns, G1, x, y, z, j, e, hn, hz, rfl⟩
    walk_at "go"
    exact k _ _ _ _ (j.freeze nM) (e.trans (Ex.new j.freezeG)) ⟨d, ns, rfl, upd_same, hn, rfl⟩
/-! ### Clerk.route -/
abbrev s_Clerk_route : Stmt := inClass (top 31) 6
abbrev n_Clerk_route : List Str := ["self", "group"]
theorem sc_Clerk_route : FnScope n_Clerk_route ["self", "group"] (defScope s_Clerk_route) := ⟨rfl, rfl, rfl, by decide +kernel, rfl, by decide +kernel, by decide +kernel⟩
structure RtP where
  x : ClX
  g : Int
def RtE (K : PySem.W.Frag) (C CR CC : Addr) (M : Hp) (x : ClX) (g : Int) (v : V) (M' G' : Hp) : Prop := ∃ (ro : List RoX) (i : Nat) (y : RoX), v = .ref y.q ∧ ro[i]? = some y ∧ y.g = g ∧ ClS K C CR CC M x M' G' { x with ro := ro } ∧ rDat ro = routeD (rDat x.ro) g
def sp_Clerk_route (K : PySem.W.Frag) (C CR CC : Addr) : Sp := Sg (α := RtP) (fun x vs M G => vs = [.ref x.x.p, .int x.g] ∧ ClAt K C CR CC M G x.x ∧ x.x.ro.length < 60) (fun x M _ v M' G' => RtE K C CR CC M x.x x.g v M' G')
theorem ok_Clerk_route {P : Program} {w : World} {K : PySem.W.Frag} {mg : Str → Option Value} {base : Heap}
    {C_Clerk : Addr} (T_Clerk : Tx_Clerk K mg C_Clerk)
    {C_Route : Addr} (T_Route : Tx_Route K mg C_Route)
    {C_Call : Addr} (T_Call : Tx_Call K mg C_Call)
    {f : Addr} {fd : FuncData} (D : Dm K C_Clerk "route" "Clerk.route" s_Clerk_route ["self", "group"] f fd)
    (c_Route___init__ : CalI P w K mg base CX0 1 C_Route (sp_Route___init__ K C_Route)) : CalM P w K mg base CX0 3 C_Clerk "route" (sp_Clerk_route K C_Clerk C_Route C_Call) := by
  refine D.ok sc_Clerk_route (fun vs H Q E h => ?_) fun cdv A outer s H vs Q E hr h => ?_
  · obtain ⟨x, M, G, j, ⟨rfl, _⟩, _⟩ := h; rfl
  obtain ⟨⟨x, g⟩, M, G, j, ⟨rfl, hC, hl⟩, k⟩ := h
  dsimp only at hC hl k
  refine ⟨_, (pss_cons (ps_if (pt_cmp (pc_dnotin (hu_of hr) (pv 1) (pe_fld (pv 0) rfl)))
(pss_one (ps_dput (hu_of hr) (pe_fld (pv 0) rfl) (pv 1) (pe_calI0 c_Route___init__ T_Route.gC hr (by first | decide | omega) (by rfl)) rfl))
pss_nil)
(pss_one (ps_ret (pe_dget (hu_of hr) (pe_fld (pv 0) rfl) (pv 1) (fun _ _ => rfl))))), ?_⟩
  walk_at "start"
  refine w_fldM j hC.op T_Clerk.cl T_Clerk.n_routes fl_Clerk_routes ?_
  refine w_notinX j (.ofM hC.ord) ?_
  by_cases q : g ∈ x.ro.map (·.g)
  · obtain ⟨y, hy, hg⟩ := List.mem_map.mp q
    obtain ⟨i, hi⟩ := List.getElem?_of_mem hy
    subst hg
    have e1 := roK_some hC.d.rn hi
    rw [e1, show (!(some (V.ref y.q) : Option V).isSome) = false from rfl]
    walk_at "go"
    refine w_fldM j hC.op T_Clerk.cl T_Clerk.n_routes fl_Clerk_routes ?_
    walk_at "go"
    refine w_getX j (.ofM hC.ord) e1 ?_
    refine k _ _ _ _ j (Same.refl G) ⟨x.ro, i, y, rfl, hi, rfl, hC.s, ?_⟩
    unfold routeD
    rw [rDat_keys, if_pos q]
  · have e0 := roK_none.mpr q
    rw [e0, show (!(none : Option V).isSome) = true from rfl]
    walk_at "go"
    refine w_makeX j fun y dy H1 j1 ny gy => ?_
    refine w_sg (α := Addr × Addr) (y, dy) j1 ⟨rfl, upd_same⟩ fun v M2 G2 H2 j2 e2 ⟨ev, em⟩ => ⟨ev, ?_⟩
    rw [upd_upd] at em
    have em : M2 = upd M y (roO C_Route ⟨y, dy, g, route0⟩) := em
    subst em
    have hC2 := hC.ex e2
    have op2 : upd M y (roO C_Route ⟨y, dy, g, route0⟩) x.p = some (clO C_Clerk x) := upd_ne' hC2.op (ne_of_none hC2.op ny)
    walk_at "go"
    refine w_fldM j2 op2 T_Clerk.cl T_Clerk.n_routes fl_Clerk_routes ?_
    walk_at "go"
    refine w_putX j2 (upd_ne' hC2.ord (ne_of_none hC2.ord ny)) (by rw [show (roK x.ro).length = x.ro.length from List.length_map _]; omega) fun H3 j3 => ?_
    rw [putR_new (y := ⟨y, dy, g, route0⟩) q] at j3
    have hS3 := hC2.s.n_ro ⟨y, dy, g, route0⟩ ny q hl
    have hi : (x.ro ++ [(⟨y, dy, g, route0⟩ : RoX)])[x.ro.length]? = some ⟨y, dy, g, route0⟩ := by rw [List.getElem?_append_right (Nat.le_refl _), Nat.sub_self]; rfl
    walk_at "go"
    refine w_fldM j3 hS3.t.op T_Clerk.cl T_Clerk.n_routes fl_Clerk_routes ?_
    walk_at "go"
    refine w_getX j3 (.ofM hS3.t.ord) (roK_some hS3.t.d.rn hi) ?_
    refine k _ _ _ _ j3 e2 ⟨_, _, _, rfl, hi, rfl, hS3, ?_⟩
    unfold routeD
    rw [rDat_keys, if_neg q]
    unfold rDat
    rw [List.map_append]; rfl
/-! ### clerks: calls as they are sent, as data -/
def callD (l : List CaD) (k : Int) : Option CaD := l.find? fun c => decide (c.k = k)
def grpOf (l : List CaD) (k : Int) : Int := ((callD l k).map (·.g)).getD 0
def cmdOf (l : List CaD) (k : Int) : PyData := ((callD l k).map (·.cmd)).getD .none
def clrH (ks : List Int) (c : CaD) : CaD := if c.k ∈ ks then { c with hint := none } else c
def sentC (ks : List Int) (l : List CaD) : List CaD := l.map (clrH ks)
def sentR (l : List CaD) (r : List (Int × RoD)) (ks : List Int) : List (Int × RoD) := ks.foldl (fun r k => routeD r (grpOf l k)) r
def letD (mc k g : Int) (cmd : PyData) : PyData := .tuple [.int mc, .tuple [.str "call", .int k, .int g, cmd]]
def sentL (l : List CaD) (r : List (Int × RoD)) (ks : List Int) : List PyData := ks.map fun k => letD (lookR r (grpOf l k)).mc k (grpOf l k) (cmdOf l k)
section
variable {co : List CaX} {l : List CaD} {r : List (Int × RoD)} {ks : List Int} {k g g' : Int} {i : Nat}
theorem clrH_k (c : CaD) : (clrH ks c).k = c.k := by unfold clrH; split <;> rfl
theorem clrH_g (c : CaD) : (clrH ks c).g = c.g := by unfold clrH; split <;> rfl
theorem clrH_cmd (c : CaD) : (clrH ks c).cmd = c.cmd := by unfold clrH; split <;> rfl
theorem sentC_nil : sentC [] l = l := by
  unfold sentC
  rw [show clrH [] = id from funext fun c => if_neg (List.not_mem_nil), List.map_id]
theorem callD_sent : callD (sentC ks l) k = (callD l k).map (clrH ks) := by
  unfold callD sentC
  induction l with
  | nil => rfl
  | cons c r ih =>
    rw [List.map_cons, List.find?_cons, List.find?_cons, clrH_k]
    cases decide (c.k = k) with
    | true => rfl
    | false => exact ih
theorem grpOf_sent : grpOf (sentC ks l) k = grpOf l k := by
  unfold grpOf
  rw [callD_sent]
  cases callD l k with
  | none => rfl
  | some c => exact clrH_g c
theorem cmdOf_sent : cmdOf (sentC ks l) k = cmdOf l k := by
  unfold cmdOf
  rw [callD_sent]
  cases callD l k with
  | none => rfl
  | some c => exact clrH_cmd c
theorem sentC_keys : (sentC ks l).map (·.k) = l.map (·.k) := by
  unfold sentC
  rw [List.map_map]
  exact List.map_congr_left fun c _ => clrH_k c
theorem cDat_keys : (cDat co).map (·.k) = co.map (·.k) := by unfold cDat; rw [List.map_map]; rfl
theorem callD_at {y : CaX} (n : (co.map (·.k)).Nodup) (h : co[i]? = some y) : callD (cDat co) y.k = some ⟨y.k, y.g, y.cmd, y.hint⟩ := by
  induction co generalizing i with
  | nil => simp at h
  | cons z r ih =>
    rw [List.map_cons, List.nodup_cons] at n
    unfold callD cDat
    rw [List.map_cons, List.find?_cons]
    cases i with
    | zero =>
      obtain rfl := Option.some.inj h
      rw [show decide ((⟨z.k, z.g, z.cmd, z.hint⟩ : CaD).k = z.k) = true from decide_eq_true rfl]
    | succ i =>
      rw [List.getElem?_cons_succ] at h
      rw [show decide ((⟨z.k, z.g, z.cmd, z.hint⟩ : CaD).k = y.k) = false from decide_eq_false fun w => n.1 (by rw [show z.k = y.k from w]; exact List.mem_map_of_mem (List.mem_of_getElem? h))]
      exact ih n.2 h
theorem grpOf_at {y : CaX} (n : (co.map (·.k)).Nodup) (h : co[i]? = some y) : grpOf (cDat co) y.k = y.g := by unfold grpOf; rw [callD_at n h]; rfl
theorem cmdOf_at {y : CaX} (n : (co.map (·.k)).Nodup) (h : co[i]? = some y) : cmdOf (cDat co) y.k = y.cmd := by unfold cmdOf; rw [callD_at n h]; rfl
theorem cDat_set {y : CaX} (n : (co.map (·.k)).Nodup) (h : co[i]? = some y) : cDat (co.set i { y with hint := none }) = sentC [y.k] (cDat co) := by
  induction co generalizing i with
  | nil => simp at h
  | cons z r ih =>
    rw [List.map_cons, List.nodup_cons] at n
    cases i with
    | zero =>
      obtain rfl := Option.some.inj h
      show (⟨z.k, z.g, z.cmd, none⟩ : CaD) :: cDat r = clrH [z.k] ⟨z.k, z.g, z.cmd, z.hint⟩ :: sentC [z.k] (cDat r)
      refine List.cons_eq_cons.mpr ⟨?_, ?_⟩
      · unfold clrH; rw [if_pos List.mem_cons_self]
      · unfold sentC
        rw [List.map_congr_left (g := id), List.map_id]
        intro c hc
        refine if_neg fun w => n.1 ?_
        rw [← List.mem_singleton.mp w, ← cDat_keys]
        exact List.mem_map_of_mem hc
    | succ i =>
      rw [List.getElem?_cons_succ] at h
      show (⟨z.k, z.g, z.cmd, z.hint⟩ : CaD) :: cDat (r.set i _) = clrH [y.k] ⟨z.k, z.g, z.cmd, z.hint⟩ :: sentC [y.k] (cDat r)
      rw [ih n.2 h]
      refine List.cons_eq_cons.mpr ⟨?_, rfl⟩
      refine (if_neg fun w => n.1 ?_).symm
      have w : z.k = y.k := List.mem_singleton.mp w
      rw [w]; exact List.mem_map_of_mem (List.mem_of_getElem? h)
theorem sentC_snoc : sentC [k] (sentC ks l) = sentC (ks ++ [k]) l := by
  unfold sentC
  rw [List.map_map]
  refine List.map_congr_left fun c _ => ?_
  show clrH [k] (clrH ks c) = clrH (ks ++ [k]) c
  unfold clrH
  by_cases q : c.k ∈ ks
  · rw [if_pos q, if_pos (List.mem_append.mpr (.inl q))]
    split <;> rfl
  · rw [if_neg q]
    by_cases w : c.k = k
    · rw [if_pos (by rw [w]; exact List.mem_cons_self), if_pos (List.mem_append.mpr (.inr (by rw [w]; exact List.mem_cons_self)))]
    · rw [if_neg fun z => w (List.mem_singleton.mp z), if_neg fun z => (List.mem_append.mp z).elim q fun z => w (List.mem_singleton.mp z)]
theorem sentR_snoc : sentR l r (ks ++ [k]) = routeD (sentR l r ks) (grpOf l k) := by unfold sentR; rw [List.foldl_append]; rfl
theorem lookR_routeD : lookR (routeD r g') g = lookR r g := by
  unfold routeD
  split
  · rfl
  · rename_i q
    unfold lookR
    rw [List.find?_append]
    cases e : r.find? fun p => decide (p.1 = g) with
    | some p => rfl
    | none =>
      rw [Option.none_or, List.find?_cons]
      cases decide ((g', route0).1 = g) <;> rfl
theorem lookR_sentR : ∀ {ks : List Int} {r : List (Int × RoD)}, lookR (sentR l r ks) g = lookR r g
  | [], _ => rfl
  | k :: ks, r => by
    show lookR (sentR l (routeD r (grpOf l k)) ks) g = _
    rw [lookR_sentR, lookR_routeD]
theorem routeD_len : (routeD r g).length ≤ r.length + 1 := by
  unfold routeD
  split
  · omega
  · rw [List.length_append]; exact Nat.le_refl _
theorem sentR_len : ∀ {ks : List Int} {r : List (Int × RoD)}, (sentR l r ks).length ≤ r.length + ks.length
  | [], _ => Nat.le_refl _
  | k :: ks, r => by
    have h := sentR_len (ks := ks) (r := routeD r (grpOf l k))
    have h2 := routeD_len (r := r) (g := grpOf l k)
    show (sentR l (routeD r (grpOf l k)) ks).length ≤ r.length + (ks.length + 1)
    omega
theorem rDat_len {ro : List RoX} : (rDat ro).length = ro.length := List.length_map _
theorem sentL_snoc : sentL l r (ks ++ [k]) = sentL l r ks ++ [letD (lookR r (grpOf l k)).mc k (grpOf l k) (cmdOf l k)] := by unfold sentL; rw [List.map_append]; rfl
theorem letD_ok {K : PySem.W.Frag} {G : Hp} {a b : Addr} {mc k g : Int} {cv : V} {cmd : PyData} (h1 : SqT K G a [.int mc, .ref b]) (h2 : SqT K G b [.str "call", .int k, .int g, cv]) (h3 : Dp K G cv cmd) : Dp K G (.ref a) (letD mc k g cmd) :=
  .tup h1 (.cons (.int _) (.cons (.tup h2 (.cons (.str _) (.cons (.int _) (.cons (.int _) (.cons h3 .nil))))) .nil))
end
/-! a locked dict's pairs, plain keys -/
def ForIK (g : TG) (t : TS) (D : Ends) (σ : L2.St) (x : V) (H1 : Hp) : Prop := ∃ d o kvs, x = .ref d ∧ H1 d = some (.frz o (.dK kvs)) ∧ ∃ W : Nat → Nat → L2.St → Hp → Prop, (∃ m, W 0 m σ H1) ∧ ∀ i m σ H, W i m σ H →
  ((Iti d o kvs).stop i H ∧ D.nx σ H) ∨ ((Iti d o kvs).go i H ∧ ∃ N : L2.St → Hp → Prop, (∀ σ' H', N σ' H' → ∃ m', m' < m ∧ W (i + 1) m' σ' H') ∧ ∀ x H', (Iti d o kvs).yld i H x H' → g x σ H' fun σ2 H2 => t { D with nx := N, ct := N, bk := D.nx } σ2 H2)
theorem w_forIKe {td : TE} {g : TG} {t : TS} {D : Ends} {σ : L2.St} {H : Hp} (h : td σ H fun x H1 => ForIK g t D σ x H1) : tFor (iItems td) g t D σ H := h
theorem w_forIK {M G H : Hp} {d : Addr} {o : Obj} {kvs : List (Key × V)} {g : TG} {t : TS} {D : Ends} {σ : L2.St} (j : J M G H) (hx : M d = some (.frz o (.dK kvs))) (Pv : Nat → L2.St → Hp → Prop) (h0 : Pv 0 σ G)
    (hs : ∀ i T k v σ G1 H1, kvs[i]? = some (k, v) → J M G1 H1 → Ex G G1 → G1 T = some (.tup [kV k, v]) → Pv i σ G1 → g (.ref T) σ H1 fun σ2 H2 => t { D with nx := fun σ' H' => ∃ G2, J M G2 H' ∧ Ex G G2 ∧ Pv (i + 1) σ' G2, ct := fun σ' H' => ∃ G2, J M G2 H' ∧ Ex G G2 ∧ Pv (i + 1) σ' G2, bk := D.nx } σ2 H2)
    (mo : ∀ i σ G1 G2, Ex G1 G2 → Pv i σ G1 → Pv i σ G2) (hd : ∀ σ G1 H1, J M G1 H1 → Ex G G1 → Pv kvs.length σ G1 → D.nx σ H1) : ForIK g t D σ (.ref d) H := by
  refine ⟨d, o, kvs, rfl, j.m _ _ hx, for_it walk_items (fun i σ H => ∃ G2, J M G2 H ∧ Ex G G2 ∧ Pv i σ G2) ⟨G, j, Same.refl G, h0⟩ ?_ ?_ ?_⟩
  · rintro i σ H _ ⟨G2, j2, _⟩
    exact j2.m _ _ hx
  · rintro i x σ H H' hi ⟨G2, j2, e2, p⟩ ⟨T, x1, y1, rfl, hT, rfl, h1, h2⟩
    have h1 : kvs[i]?.map (fun kv => kV kv.1) = some x1 := h1
    have h2 : kvs[i]?.map Prod.snd = some y1 := h2
    cases e : kvs[i]? with
    | none => rw [e] at h1; cases h1
    | some kv =>
      obtain ⟨k, v⟩ := kv
      rw [e] at h1 h2
      cases h1
      cases h2
      have e3 : Ex G2 (upd G2 T (.tup [kV k, v])) := Ex.new (j2.freeG hT)
      exact hs i T k v σ _ _ e (j2.newG hT) (e2.trans e3) upd_same (mo _ _ _ _ e3 p)
  · rintro σ H ⟨G2, j2, e2, p⟩
    exact hd σ G2 H j2 e2 p
local macro_rules
  | `(tactic| walk_at "v") => `(tactic| with_reducible refine w_forIKe ?_)
theorem nodup_le {α : Type} [DecidableEq α] : ∀ {xs ys : List α}, xs.Nodup → (∀ x ∈ xs, x ∈ ys) → xs.length ≤ ys.length
  | [], _, _, _ => Nat.zero_le _
  | x :: xs, ys, hn, hs => by
    rw [List.nodup_cons] at hn
    have m := hs x List.mem_cons_self
    have ih := nodup_le (xs := xs) (ys := ys.erase x) hn.2 fun y hy => (List.mem_erase_of_ne fun e : y = x => hn.1 (e ▸ hy)).mpr (hs y (List.mem_cons_of_mem _ hy))
    rw [List.length_erase_of_mem m] at ih
    have := List.length_pos_of_mem m
    rw [List.length_cons]; omega
/-! ### for k, v in xs.items(), the block may change what is owned -/
section
variable {M G H : Hp} {d : Addr} {o : Obj} {kvs : List (Key × V)} {g : TG} {t : TS} {D : Ends} {σ : L2.St}
theorem w_forIKM (j : J M G H) (P : Nat → L2.St → Hp → Hp → Prop) (h0 : P 0 σ M G) (hx : ∀ i σ M1 G1, P i σ M1 G1 → M1 d = some (.frz o (.dK kvs)))
    (hs : ∀ i T k v σ M1 G1 H1, kvs[i]? = some (k, v) → J M1 G1 H1 → G1 T = some (.tup [kV k, v]) → P i σ M1 G1 → g (.ref T) σ H1 fun σ2 H2 => t { D with nx := fun σ' H' => ∃ M2 G2, J M2 G2 H' ∧ P (i + 1) σ' M2 G2, ct := fun σ' H' => ∃ M2 G2, J M2 G2 H' ∧ P (i + 1) σ' M2 G2, bk := D.nx } σ2 H2)
    (mo : ∀ i σ M1 G1 G2, Ex G1 G2 → P i σ M1 G1 → P i σ M1 G2) (hd : ∀ σ M1 G1 H1, J M1 G1 H1 → P kvs.length σ M1 G1 → D.nx σ H1) : ForIK g t D σ (.ref d) H := by
  refine ⟨d, o, kvs, rfl, j.m _ _ (hx _ _ _ _ h0), for_it walk_items (fun i σ H => ∃ M2 G2, J M2 G2 H ∧ P i σ M2 G2) ⟨M, G, j, h0⟩ ?_ ?_ ?_⟩
  · rintro i σ H _ ⟨M2, G2, j2, p⟩
    exact j2.m _ _ (hx _ _ _ _ p)
  · rintro i x σ H H' hi ⟨M2, G2, j2, p⟩ ⟨T, x1, y1, rfl, hT, rfl, h1, h2⟩
    have h1 : kvs[i]?.map (fun kv => kV kv.1) = some x1 := h1
    have h2 : kvs[i]?.map Prod.snd = some y1 := h2
    cases e : kvs[i]? with
    | none => rw [e] at h1; cases h1
    | some kv =>
      obtain ⟨k, v⟩ := kv
      rw [e] at h1 h2
      cases h1
      cases h2
      have e3 : Ex G2 (upd G2 T (.tup [kV k, v])) := Ex.new (j2.freeG hT)
      exact hs i T k v σ _ _ _ e (j2.newG hT) upd_same (mo _ _ _ _ _ e3 p)
  · rintro σ H ⟨M2, G2, j2, p⟩
    exact hd σ M2 G2 H j2 p
end
/-! ### clerks: routes are changed, as data -/
def hintOf (l : List CaD) (k : Int) : Option Int := ((callD l k).map (·.hint)).getD none
def hintAdd (a : List (Int × Option Int)) (g : Int) (h : Option Int) : List (Int × Option Int) := if g ∈ a.map (·.1) then a else a ++ [(g, h)]
def hintsOf (l : List CaD) (ks : List Int) : List (Int × Option Int) := ks.foldl (fun a k => hintAdd a (grpOf l k) (hintOf l k)) []
def chgAt (r : List (Int × RoD)) (g : Int) (h : Option Int) (n : Int) : List (Int × RoD) := r.map fun p => if p.1 = g then (p.1, chgR p.2 h n) else p
def changeR (r : List (Int × RoD)) (a : List (Int × Option Int)) (n : Int) : List (Int × RoD) := a.foldl (fun r p => chgAt (routeD r p.1) p.1 p.2 n) r
def hK (a : List (Int × Option Int)) : List (Key × V) := a.map fun p => (Sum.inl p.1, oV p.2)
section
variable {co : List CaX} {ro : List RoX} {l : List CaD} {r : List (Int × RoD)} {a : List (Int × Option Int)} {ks : List Int} {k g n : Int} {h : Option Int} {i : Nat}
theorem hintOf_at {y : CaX} (n : (co.map (·.k)).Nodup) (h : co[i]? = some y) : hintOf (cDat co) y.k = y.hint := by unfold hintOf; rw [callD_at n h]; rfl
theorem hK_none : valV (hK a) (.inl g) = none ↔ g ∉ a.map (·.1) := by
  induction a with
  | nil => exact ⟨(fun _ z => nomatch z), fun _ => rfl⟩
  | cons y r ih =>
    show valV ((Sum.inl y.1, oV y.2) :: hK r) (.inl g) = none ↔ _
    by_cases q : y.1 = g
    · rw [q, valV_hd]
      exact ⟨(fun z => nomatch z), fun z => absurd (by rw [List.map_cons, q]; exact List.mem_cons_self) z⟩
    · rw [valV_tl fun z => q (Sum.inl.inj z), ih, List.map_cons, List.mem_cons]
      exact ⟨fun z w => w.elim (fun w => q w.symm) z, fun z w => z (.inr w)⟩
theorem putH_new (h0 : g ∉ a.map (·.1)) : putK (hK a) (.inl g) (oV h) = hK (a ++ [(g, h)]) := by
  unfold putK
  rw [valV_any, hK_none.mpr h0, if_neg (by simp)]
  unfold hK
  rw [List.map_append]; rfl
theorem hintsOf_snoc : hintsOf l (ks ++ [k]) = hintAdd (hintsOf l ks) (grpOf l k) (hintOf l k) := by unfold hintsOf; rw [List.foldl_append]; rfl
theorem hintAdd_len : (hintAdd a g h).length ≤ a.length + 1 := by
  unfold hintAdd
  split
  · omega
  · rw [List.length_append]; exact Nat.le_refl _
theorem hints_len : ∀ {ks : List Int} {a : List (Int × Option Int)}, (ks.foldl (fun a k => hintAdd a (grpOf l k) (hintOf l k)) a).length ≤ a.length + ks.length
  | [], _ => Nat.le_refl _
  | k :: ks, a => by
    have h := hints_len (ks := ks) (a := hintAdd a (grpOf l k) (hintOf l k))
    have h2 := hintAdd_len (a := a) (g := grpOf l k) (h := hintOf l k)
    show (ks.foldl (fun a k => hintAdd a (grpOf l k) (hintOf l k)) (hintAdd a (grpOf l k) (hintOf l k))).length ≤ a.length + (ks.length + 1)
    omega
theorem hintsOf_len : (hintsOf l ks).length ≤ ks.length := by
  have h := hints_len (l := l) (ks := ks) (a := [])
  rw [List.length_nil, Nat.zero_add] at h
  exact h
theorem changeR_snoc {p : Int × Option Int} : changeR r (a ++ [p]) n = chgAt (routeD (changeR r a n) p.1) p.1 p.2 n := by unfold changeR; rw [List.foldl_append]; rfl
theorem chgAt_len : (chgAt r g h n).length = r.length := List.length_map _
theorem changeR_len : ∀ {a : List (Int × Option Int)} {r : List (Int × RoD)}, (changeR r a n).length ≤ r.length + a.length
  | [], _ => Nat.le_refl _
  | p :: a, r => by
    have h := changeR_len (a := a) (r := chgAt (routeD r p.1) p.1 p.2 n)
    have h2 := routeD_len (r := r) (g := p.1)
    rw [chgAt_len] at h
    show (changeR (chgAt (routeD r p.1) p.1 p.2 n) a n).length ≤ r.length + (a.length + 1)
    omega
theorem rDat_set {y : RoX} {d : RoD} (nd : (ro.map (·.g)).Nodup) (hy : ro[i]? = some y) (hd : d = chgR y.d h n) : rDat (ro.set i { y with d := d }) = chgAt (rDat ro) y.g h n := by
  subst hd
  induction ro generalizing i with
  | nil => simp at hy
  | cons z r ih =>
    rw [List.map_cons, List.nodup_cons] at nd
    cases i with
    | zero =>
      obtain rfl := Option.some.inj hy
      show (z.g, chgR z.d h n) :: rDat r = (if z.g = z.g then (z.g, chgR z.d h n) else (z.g, z.d)) :: chgAt (rDat r) z.g h n
      rw [if_pos rfl]
      refine List.cons_eq_cons.mpr ⟨rfl, ?_⟩
      unfold chgAt
      rw [List.map_congr_left (g := id), List.map_id]
      intro c hc
      refine if_neg fun w => nd.1 ?_
      rw [← w, ← rDat_keys]
      exact List.mem_map_of_mem hc
    | succ i =>
      rw [List.getElem?_cons_succ] at hy
      show (z.g, z.d) :: rDat (r.set i _) = (if z.g = y.g then (z.g, chgR z.d h n) else (z.g, z.d)) :: chgAt (rDat r) y.g h n
      rw [ih nd.2 hy, if_neg fun w => nd.1 (by rw [w]; exact List.mem_map_of_mem (List.mem_of_getElem? hy))]
end
/-! ### Clerk.change_routes -/
abbrev s_Clerk_change_routes : Stmt := inClass (top 31) 7
abbrev n_Clerk_change_routes : List Str := ["self", "hints", "token", "call", "group", "hint"]
theorem sc_Clerk_change_routes : FnScope n_Clerk_change_routes ["self"] (defScope s_Clerk_change_routes) := ⟨rfl, rfl, rfl, by decide +kernel, rfl, by decide +kernel, by decide +kernel⟩
def ChgE (x x1 : ClX) : Prop := ∃ ks ro, List.Perm ks (x.co.map (·.k)) ∧ ks.Pairwise (· ≤ ·) ∧ rDat ro = changeR (rDat x.ro) (hintsOf (cDat x.co) ks) x.machines ∧ x1 = { x with ro := ro }
theorem ChgE.len {x x1 : ClX} (h : ChgE x x1) : x1.ro.length ≤ x.ro.length + x.co.length := by
  obtain ⟨ks, ro, hp, _, hr, rfl⟩ := h
  have h1 := changeR_len (n := x.machines) (a := hintsOf (cDat x.co) ks) (r := rDat x.ro)
  rw [← hr, rDat_len, rDat_len] at h1
  have h2 := hintsOf_len (l := cDat x.co) (ks := ks)
  rw [hp.length_eq, List.length_map] at h2
  exact Nat.le_trans h1 (Nat.add_le_add_left h2 _)
def ChgX (K : PySem.W.Frag) (C CR CC : Addr) (M0 : Hp) (x : ClX) (M G : Hp) : Prop := ∃ x1, ChgE x x1 ∧ ClS K C CR CC M0 x M G x1
def sp_Clerk_change_routes (K : PySem.W.Frag) (C CR CC : Addr) : Sp := Sg (α := ClX) (fun x vs M G => vs = [.ref x.p] ∧ ClAt K C CR CC M G x ∧ 0 < x.machines ∧ x.ro.length + x.co.length ≤ 60) (fun x M _ v M' G' => v = .non ∧ ChgX K C CR CC M x M' G')
theorem ok_Clerk_change_routes {P : Program} {w : World} {K : PySem.W.Frag} {mg : Str → Option Value} {base : Heap}
    {C_Route : Addr} (T_Route : Tx_Route K mg C_Route)
    {C_Clerk : Addr} (T_Clerk : Tx_Clerk K mg C_Clerk)
    {C_Call : Addr} (T_Call : Tx_Call K mg C_Call)
    {f : Addr} {fd : FuncData} (D : Dm K C_Clerk "change_routes" "Clerk.change_routes" s_Clerk_change_routes ["self"] f fd)
    (b_sorted : mg "sorted" = none)
    (c_Route_change : CalM P w K mg base CX0 1 C_Route "change" (sp_Route_change K C_Route))
    (c_Clerk_route : CalM P w K mg base CX0 3 C_Clerk "route" (sp_Clerk_route K C_Clerk C_Route C_Call)) : CalM P w K mg base CX0 4 C_Clerk "change_routes" (sp_Clerk_change_routes K C_Clerk C_Route C_Call) := by
  refine D.ok sc_Clerk_change_routes (fun vs H Q E h => ?_) fun cdv A outer s H vs Q E hr h => ?_
  · obtain ⟨x, M, G, j, ⟨rfl, _⟩, _⟩ := h; rfl
  obtain ⟨x, M, G, j, ⟨rfl, hC, hn, hl⟩, k⟩ := h
  refine ⟨_, (pss_cons (ps_set (i := 1) sc_Clerk_change_routes.nd rfl (Or.inl rfl) pe_dnewK)
(pss_cons (ps_for PassesOwn.never rfl (pi_list (pe_callB (call_sortDC rfl) (by rfl) b_sorted bt_sorted (pa_cons (pe_fld (pv 0) rfl) pa_nil))) (pg_name (i := 2) sc_Clerk_change_routes.nd rfl (Or.inl rfl))
(pss_cons (ps_set (i := 3) sc_Clerk_change_routes.nd rfl (Or.inl rfl) (pe_dget (hu_of hr) (pe_fld (pv 0) rfl) (pv 2) (fun _ _ => rfl)))
(pss_one (ps_if (pt_cmp (pc_dnotin (hu_of hr) (pe_fld (pv 3) rfl) (pv 1)))
(pss_one (ps_dput (hu_of hr) (pv 1) (pe_fld (pv 3) rfl) (pe_fld (pv 3) rfl) rfl))
pss_nil))))
(pss_one (ps_lock (ps_for PassesOwn.never rfl (pi_items (pv 1)) (pg_tup rfl (pgs_cons (pg_name (i := 4) sc_Clerk_change_routes.nd rfl (Or.inl rfl)) (pgs_cons (pg_name (i := 5) sc_Clerk_change_routes.nd rfl (Or.inl rfl)) pgs_nil)))
(pss_one (ps_expr (pe_calM c_Route_change T_Route.cl hr (by first | decide | omega) (pe_calM c_Clerk_route T_Clerk.cl hr (by first | decide | omega) (pv 0) (pa_cons (pv 4) pa_nil)) (pa_cons (pv 5) (pa_cons (pe_fld (pv 0) rfl) pa_nil)))))))))), ?_⟩
  walk_at "start"
  refine w_newM j (Nat.zero_le _) fun d H1 j1 hd gd => ?_
  walk_at "go"
  have nd : d ∉ x.cells := hC.none hd
  have hC1 : ∀ a, ClS K C_Clerk C_Route C_Call M x (upd M d (.dK a)) G x := fun a => hC.s.off hd nd fun _ z => nomatch z
  refine w_fldM j1 (hC1 []).t.op T_Clerk.cl T_Clerk.n_calls fl_Clerk_calls ?_
  walk_at "go"
  refine w_sortD (ks := x.co.map (·.k)) j1 (.ofM (hC1 []).t.ocd) (by unfold caK; rw [List.map_map, List.map_map]; rfl) (by rw [List.length_map]; omega) fun ks hp hs => ?_
  refine w_new j1 (Nat.zero_le _) fun q G1 H2 j2 e2 hq _ => ?_
  have hkl : ks.length ≤ 60 := by rw [hp.length_eq, List.length_map]; omega
  walk_at "go"
  refine w_forX (xs := ks.map V.int) (fun n σ H => ∃ x2 x3 x4 x5 G2, σ = [some (.ref x.p), some (.ref d), x2, x3, x4, x5] ∧ J (upd M d (.dK (hK (hintsOf (cDat x.co) (ks.take n))))) G2 H ∧ Ex G1 G2) ⟨_, _, _, _, G1, rfl, j2, fun _ _ z => z⟩ ?_ ?_ ?_
  · rintro n σ H _ ⟨_, _, _, _, G2, _, j, e⟩
    exact sl_mono (e.trans j.g) (sl_of hq)
  · rintro n v σ H hv ⟨x2, x3, x4, x5, G2, rfl, j3, e3⟩
    obtain ⟨t, ht, rfl⟩ : ∃ t, ks[n]? = some t ∧ V.int t = v := by
      rw [List.getElem?_map] at hv
      cases e : ks[n]? with
      | none => rw [e] at hv; cases hv
      | some w => rw [e] at hv; exact ⟨w, rfl, Option.some.inj hv⟩
    have htake : ks.take (n + 1) = ks.take n ++ [t] := by rw [List.take_add_one, ht]; rfl
    obtain ⟨y, hy, hyk⟩ := List.mem_map.mp (hp.mem_iff.mp (List.mem_of_getElem? ht))
    obtain ⟨i, hi⟩ := List.getElem?_of_mem hy
    subst hyk
    have hg := grpOf_at hC.d.cn hi
    have hh := hintOf_at hC.d.cn hi
    have hS3 := (hC1 (hK (hintsOf (cDat x.co) (ks.take n)))).ex (e2.trans e3)
    have hyM := hS3.t.oco hi
    have hlen : (hintsOf (cDat x.co) (ks.take n)).length ≤ 60 := by
      have h1 := hintsOf_len (l := cDat x.co) (ks := ks.take n)
      rw [List.length_take] at h1
      omega
    walk_at "go"
    refine w_fldM j3 hS3.t.op T_Clerk.cl T_Clerk.n_calls fl_Clerk_calls ?_
    walk_at "go"
    refine w_getX j3 (.ofM hS3.t.ocd) (caK_some hC.d.cn hi) ?_
    walk_at "go"
    refine w_fldM j3 hyM T_Call.cl T_Call.n_group fl_Call_group ?_
    walk_at "go"
    refine w_notinX j3 (.ofM upd_same) ?_
    by_cases qg : y.g ∈ (hintsOf (cDat x.co) (ks.take n)).map (·.1)
    · cases e : valV (hK (hintsOf (cDat x.co) (ks.take n))) (.inl y.g) with
      | none => exact absurd qg (hK_none.mp e)
      | some v0 =>
        rw [show (!(some v0 : Option V).isSome) = false from rfl]
        walk_at "go"
        refine ⟨_, _, _, _, G2, rfl, ?_, e3⟩
        rw [htake, hintsOf_snoc, hg]
        unfold hintAdd
        rw [if_pos qg]
        exact j3
    · rw [hK_none.mpr qg, show (!(none : Option V).isSome) = true from rfl]
      walk_at "go"
      refine w_fldM j3 hyM T_Call.cl T_Call.n_hint fl_Call_hint ?_
      walk_at "go"
      refine w_fldM j3 hyM T_Call.cl T_Call.n_group fl_Call_group ?_
      walk_at "go"
      refine w_putX j3 upd_same (by unfold hK; rw [List.length_map]; omega) fun H4 j4 => ?_
      rw [upd_upd, putH_new (h := y.hint) qg] at j4
      walk_at "go"
      refine ⟨_, _, _, _, G2, rfl, ?_, e3⟩
      rw [htake, hintsOf_snoc, hg, hh]
      unfold hintAdd
      rw [if_neg qg]
      exact j4
  · rintro σ H ⟨x2, x3, x4, x5, G2, rfl, j3, e3⟩
    rw [List.length_map, List.take_length] at j3
    have hS3 := (hC1 (hK (hintsOf (cDat x.co) ks))).ex (e2.trans e3)
    have hal : (hintsOf (cDat x.co) ks).length ≤ 60 := by
      have h1 := hintsOf_len (l := cDat x.co) (ks := ks)
      omega
    have hal2 : (hintsOf (cDat x.co) ks).length ≤ x.co.length := by
      have h1 := hintsOf_len (l := cDat x.co) (ks := ks)
      rw [hp.length_eq, List.length_map] at h1
      exact h1
    generalize hgA : hintsOf (cDat x.co) ks = A at *
    show tLock _ _ _ _
    refine w_lockS j3 upd_same (by first | trivial | exact ⟨_, rfl⟩ | decide) fun od H4 j4 => ?_
    rw [upd_upd] at j4
    walk_at "go"
    refine w_forIKM (d := d) (o := od) (kvs := hK A) j4 (fun n σ M1 G3 => Ex G2 G3 ∧ M1 d = some (.frz od (.dK (hK A))) ∧ (∃ x2 x3 x4 x5, σ = [some (.ref x.p), some (.ref d), x2, x3, x4, x5]) ∧ ∃ ro, rDat ro = changeR (rDat x.ro) (A.take n) x.machines ∧ ClS K C_Clerk C_Route C_Call M x M1 G3 { x with ro := ro } ∧ d ∉ ({ x with ro := ro } : ClX).cells) ⟨fun _ _ z => z, upd_same, ⟨_, _, _, _, rfl⟩, x.ro, rfl, (hC.ex (e2.trans (e3))).s.off hd nd (fun _ z => nomatch z), nd⟩ (fun _ _ _ _ h => h.2.1) ?_ ?_ ?_
    · rintro n T kk v σ M1 G3 H5 hkv j5 hT ⟨e4, eD, ⟨x2, x3, x4, x5, rfl⟩, ro, hro, hS, nD⟩
      obtain ⟨p, hpA, rfl, rfl⟩ : ∃ p, A[n]? = some p ∧ (Sum.inl p.1 : Key) = kk ∧ oV p.2 = v := by
        have hkv : (A.map fun p => ((Sum.inl p.1 : Key), oV p.2))[n]? = some (kk, v) := hkv
        rw [List.getElem?_map] at hkv
        cases e : A[n]? with
        | none => rw [e] at hkv; cases hkv
        | some w =>
          rw [e] at hkv
          have z := Option.some.inj hkv
          exact ⟨w, rfl, congrArg Prod.fst z, congrArg Prod.snd z⟩
      have htake : A.take (n + 1) = A.take n ++ [p] := by rw [List.take_add_one, hpA]; rfl
      have hT : G3 T = some (.tup [.int p.1, oV p.2]) := hT
      refine w_gTup j5 (st_of hT) rfl (w_gCons (w_gName (w_gCons (w_gName (w_gNil ?_)))))
      walk_at "go"
      refine w_methM j5 hS.t.op (no_Clerk (by decide +kernel) (by decide +kernel) (by decide +kernel) (by decide +kernel) (by decide +kernel) (by decide +kernel) (by decide +kernel) (by decide +kernel) (by decide +kernel) (by decide +kernel) (by decide +kernel) (by decide +kernel)) ?_
      walk_at "go"
      have hlt : n < A.length := (List.getElem?_eq_some_iff.mp hpA).1
      have hlen : ro.length < 60 := by
        have h1 := changeR_len (n := x.machines) (a := A.take n) (r := rDat x.ro)
        rw [← hro, rDat_len, rDat_len, List.length_take] at h1
        omega
      refine w_sg (α := RtP) ⟨{ x with ro := ro }, p.1⟩ j5 ⟨rfl, hS.t, hlen⟩ fun v M6 G6 H6 j6 e6 ⟨ro6, i6, y6, ev, hi6, hy6, hS6, hr6⟩ => ?_
      subst ev
      dsimp only at hS6 hr6 hy6
      have hS6 : ClS K C_Clerk C_Route C_Call M1 { x with ro := ro } M6 G6 { x with ro := ro6 } := hS6
      have eD6 := hS6.f.kp d _ eD nD
      have nD6 := hS6.f.not eD nD
      have hT6 : M6 y6.q = some (roO C_Route y6) := ClAt.oro (x := { x with ro := ro6 }) hS6.t hi6
      have nDy : y6.q ≠ d := fun z => nD6 (by rw [← z]; exact List.mem_of_getElem? (cells_ro (x := { x with ro := ro6 }) hi6))
      walk_at "go"
      refine w_methM j6 hT6 (no_Route (by decide +kernel) (by decide +kernel) (by decide +kernel)) ?_
      walk_at "go"
      refine w_fldM j6 hS6.t.op T_Clerk.cl T_Clerk.n_machines fl_Clerk_machines ?_
      walk_at "go"
      refine w_sg (α := RhP) ⟨y6.q, y6.dx, y6.d, p.2, x.machines⟩ j6 ⟨rfl, hT6, hn⟩ fun v M7 G7 H7 j7 e7 ⟨ev, em⟩ => ?_
      subst ev em
      have hS7 : ClS K C_Clerk C_Route C_Call M1 { x with ro := ro } (upd M6 y6.q (roO C_Route { y6 with d := chgR y6.d p.2 x.machines })) G7 { x with ro := ro6.set i6 { y6 with d := chgR y6.d p.2 x.machines } } := (hS6.d_ro hi6 (chgR y6.d p.2 x.machines)).ex e7
      have e37 : Ex G3 G7 := e6.trans e7
      walk_at "go"
      refine ⟨_, G7, j7, e4.trans e37, upd_ne' eD6 nDy.symm, ⟨_, _, _, _, rfl⟩, ro6.set i6 { y6 with d := chgR y6.d p.2 x.machines }, ?_, hS.then hS7, hS7.f.not eD nD⟩
      rw [htake, changeR_snoc, ← hro, rDat_set hS6.t.d.rn hi6 rfl, hr6, hy6]
    · rintro n σ M1 G3 G4 e5 ⟨e4, eD, hσ, ro, hro, hS, nD⟩
      exact ⟨e4.trans e5, eD, hσ, ro, hro, hS.ex e5, nD⟩
    · rintro σ M1 G3 H5 j5 ⟨e4, eD, ⟨x2, x3, x4, x5, rfl⟩, ro, hro, hS, nD⟩
      rw [show (hK A).length = A.length from List.length_map _, List.take_length] at hro
      refine ⟨j5.m _ _ eD, ?_⟩
      have j6 := j5.put (o' := .dK (hK A)) eD
      walk_at "go"
      exact k _ _ _ _ j6 (e2.trans (e3.trans e4)) ⟨rfl, _, ⟨ks, ro, hp, hs, by rw [hgA]; exact hro, rfl⟩, hS.off hd nD fun _ z => nomatch z⟩
/-! ### Clerk.sent -/
abbrev s_Clerk_sent : Stmt := inClass (top 31) 8
abbrev n_Clerk_sent : List Str := ["self", "tokens", "letters", "token", "call"]
theorem sc_Clerk_sent : FnScope n_Clerk_sent ["self", "tokens"] (defScope s_Clerk_sent) := ⟨rfl, rfl, rfl, by decide +kernel, rfl, by decide +kernel, by decide +kernel⟩
structure SeP where
  x : ClX
  q : Addr
  ks : List Int
/-- so many calls are sent -/
def SentX (K : PySem.W.Frag) (C CR CC : Addr) (M0 : Hp) (x : ClX) (ks : List Int) (lv : List V) (M G : Hp) (ro : List RoX) (co : List CaX) : Prop :=
  ClS K C CR CC M0 x M G { x with ro := ro, co := co } ∧ DpAll K G lv (sentL (cDat x.co) (rDat x.ro) ks) ∧ cDat co = sentC ks (cDat x.co) ∧ rDat ro = sentR (cDat x.co) (rDat x.ro) ks
def sp_Clerk_sent (K : PySem.W.Frag) (C CR CC : Addr) : Sp := Sg (α := SeP) (fun x vs M G => vs = [.ref x.x.p, .ref x.q] ∧ ClAt K C CR CC M G x.x ∧ SqL K G x.q (x.ks.map V.int) ∧ (∀ k ∈ x.ks, k ∈ x.x.co.map (·.k)) ∧ x.ks.length ≤ 60 ∧ x.x.ro.length + x.ks.length ≤ 60) (fun x M _ v M' G' => ∃ q lv ro co, v = .ref q ∧ G' q = some (.lst lv) ∧ SentX K C CR CC M x.x x.ks lv M' G' ro co)
theorem ok_Clerk_sent {P : Program} {w : World} {K : PySem.W.Frag} {mg : Str → Option Value} {base : Heap}
    {C_Call : Addr} (T_Call : Tx_Call K mg C_Call)
    {C_Route : Addr} (T_Route : Tx_Route K mg C_Route)
    {C_Clerk : Addr} (T_Clerk : Tx_Clerk K mg C_Clerk)
    {f : Addr} {fd : FuncData} (D : Dm K C_Clerk "sent" "Clerk.sent" s_Clerk_sent ["self", "tokens"] f fd)
    (c_Clerk_route : CalM P w K mg base CX0 3 C_Clerk "route" (sp_Clerk_route K C_Clerk C_Route C_Call)) : CalM P w K mg base CX0 4 C_Clerk "sent" (sp_Clerk_sent K C_Clerk C_Route C_Call) := by
  refine D.ok sc_Clerk_sent (fun vs H Q E h => ?_) fun cdv A outer s H vs Q E hr h => ?_
  · obtain ⟨x, M, G, j, ⟨rfl, _⟩, _⟩ := h; rfl
  obtain ⟨⟨x, q, ks⟩, M, G, j, ⟨rfl, hC, hq, hks, hl, hr2⟩, k⟩ := h
  dsimp only at hC hq hks hl hr2 k
  refine ⟨_, (pss_cons (ps_set (i := 2) sc_Clerk_sent.nd rfl (Or.inl rfl) (pe_lst pa_nil))
(pss_cons (ps_for PassesOwn.never rfl (pi_list (pv 1)) (pg_name (i := 3) sc_Clerk_sent.nd rfl (Or.inl rfl))
(pss_cons (ps_set (i := 4) sc_Clerk_sent.nd rfl (Or.inl rfl) (pe_dget (hu_of hr) (pe_fld (pv 0) rfl) (pv 3) (fun _ _ => rfl)))
(pss_cons (ps_fld (pv 4) pe_non rfl)
(pss_one (ps_expr (pe_bm PySem.F.plainAttrs_list PySem.F.slot_list_append PySem.F.type_list_append mt_append (pv 2) (pa_cons (pe_tup (pa_cons (pe_fld (pe_calM c_Clerk_route T_Clerk.cl hr (by first | decide | omega) (pv 0) (pa_cons (pe_fld (pv 4) rfl) pa_nil)) rfl) (pa_cons (pe_tup (pa_cons pe_str (pa_cons (pv 3) (pa_cons (pe_fld (pv 4) rfl) (pa_cons (pe_fld (pv 4) rfl) pa_nil))))) pa_nil))) pa_nil)))))))
(pss_one (ps_ret (pv 2))))), ?_⟩
  walk_at "start"
  refine w_newM j (Nat.zero_le _) fun L H1 j1 hL gL => ?_
  walk_at "go"
  refine w_forLV rfl (xs := ks.map V.int) (fun n σ H => ∃ x3 x4 M1 G1 lv ro co, σ = [some (.ref x.p), some (.ref q), some (.ref L), x3, x4] ∧ J M1 G1 H ∧ Ex G G1 ∧ M1 L = some (.lst lv) ∧ SentX K C_Clerk C_Route C_Call M x (ks.take n) lv M1 G1 ro co ∧ L ∉ ({ x with ro := ro, co := co } : ClX).cells) (sl_mono j1.g hq) ⟨_, _, _, G, [], x.ro, x.co, rfl, j1, fun _ _ z => z, upd_same, ⟨hC.s.off hL (hC.none hL) (fun _ z => nomatch z), .nil, sentC_nil.symm, rfl⟩, hC.none hL⟩ ?_ ?_ ?_
  · rintro n σ H _ ⟨_, _, M1, G1, _, _, _, _, j, e, _⟩
    exact sl_mono (e.trans j.g) hq
  · rintro n v σ H hv ⟨x3, x4, M1, G1, lv, ro, co, rfl, j1, e1, eL, ⟨hS, hlv, hco, hro⟩, nL⟩
    obtain ⟨t, ht, rfl⟩ : ∃ t, ks[n]? = some t ∧ V.int t = v := by
      rw [List.getElem?_map] at hv
      cases e : ks[n]? with
      | none => rw [e] at hv; cases hv
      | some w => rw [e] at hv; exact ⟨w, rfl, Option.some.inj hv⟩
    have htake : ks.take (n + 1) = ks.take n ++ [t] := by rw [List.take_add_one, ht]; rfl
    have hlt : n < ks.length := (List.getElem?_eq_some_iff.mp ht).1
    have hm : t ∈ co.map (·.k) := by
      rw [← cDat_keys, hco, sentC_keys, cDat_keys]
      exact hks t (List.mem_of_getElem? ht)
    obtain ⟨y, hy, hyk⟩ := List.mem_map.mp hm
    obtain ⟨i, hi⟩ := List.getElem?_of_mem hy
    subst hyk
    have hg : grpOf (cDat x.co) y.k = y.g := by
      rw [← grpOf_at hS.t.d.cn hi]
      show _ = grpOf (cDat co) y.k
      rw [hco, grpOf_sent]
    have hcm : cmdOf (cDat x.co) y.k = y.cmd := by
      rw [← cmdOf_at hS.t.d.cn hi]
      show _ = cmdOf (cDat co) y.k
      rw [hco, cmdOf_sent]
    walk_at "go"
    refine w_fldM j1 hS.t.op T_Clerk.cl T_Clerk.n_calls fl_Clerk_calls ?_
    walk_at "go"
    refine w_getX j1 (.ofM hS.t.ocd) (caK_some hS.t.d.cn hi) ?_
    walk_at "go"
    have hyM := hS.t.oco hi
    have nLy : y.q ≠ L := fun z => by rw [z] at hyM; exact nL (by rw [← z]; exact List.mem_of_getElem? (cells_co hi))
    refine w_setX j1 hyM T_Call.cl T_Call.n_hint (by show 4 < 1000; decide) fun H2 j2 => ?_
    rw [sf_Call_hint] at j2
    have hS2 : ClS K C_Clerk C_Route C_Call M x (upd M1 y.q (caO C_Call { y with hint := none })) G1 { x with ro := ro, co := co.set i { y with hint := none } } := hS.h_co hi none
    have nL2 : L ∉ ({ x with ro := ro, co := co.set i { y with hint := none } } : ClX).cells := (hS.t.s.h_co hi none).f.not eL nL
    have j2 : J (upd M1 y.q (caO C_Call { y with hint := none })) G1 H2 := j2
    have eL2 : upd M1 y.q (caO C_Call { y with hint := none }) L = some (.lst lv) := upd_ne' eL nLy.symm
    generalize upd M1 y.q (caO C_Call { y with hint := none }) = M2 at *
    have hi2 : (co.set i { y with hint := none })[i]? = some { y with hint := none } := by rw [List.getElem?_set_self (List.getElem?_eq_some_iff.mp hi).1]
    have hyM2 : M2 y.q = some (caO C_Call { y with hint := none }) := ClAt.oco (x := { x with ro := ro, co := co.set i { y with hint := none } }) (i := i) (y := { y with hint := none }) hS2.t hi2
    walk_at "go"
    refine ⟨ty_listM j2 eL2, ?_⟩
    walk_at "go"
    refine w_methM j2 hS2.t.op (no_Clerk (by decide +kernel) (by decide +kernel) (by decide +kernel) (by decide +kernel) (by decide +kernel) (by decide +kernel) (by decide +kernel) (by decide +kernel) (by decide +kernel) (by decide +kernel) (by decide +kernel) (by decide +kernel)) ?_
    walk_at "go"
    refine w_fldM j2 hyM2 T_Call.cl T_Call.n_group fl_Call_group ?_
    walk_at "go"
    have hlen : ro.length < 60 := by
      have h1 := sentR_len (l := cDat x.co) (ks := ks.take n) (r := rDat x.ro)
      rw [← hro, rDat_len, rDat_len, List.length_take] at h1
      omega
    refine w_sg (α := RtP) ⟨{ x with ro := ro, co := co.set i { y with hint := none } }, y.g⟩ j2 ⟨rfl, hS2.t, hlen⟩ fun v M3 G3 H3 j3 e3 ⟨ro3, i3, y3, ev, hi3, hy3, hS3, hr3⟩ => ?_
    subst ev
    dsimp only at hS3 hr3 hy3
    have hS3 : ClS K C_Clerk C_Route C_Call M2 { x with ro := ro, co := co.set i { y with hint := none } } M3 G3 { x with ro := ro3, co := co.set i { y with hint := none } } := hS3
    have hr3 : rDat ro3 = routeD (rDat ro) y.g := hr3
    have eL3 : M3 L = some (.lst lv) := hS3.f.kp L _ eL2 nL2
    have nL3 := hS3.f.not eL2 nL2
    have hT3 : M3 y3.q = some (roO C_Route y3) := ClAt.oro (x := { x with ro := ro3, co := co.set i { y with hint := none } }) hS3.t hi3
    have hyM3 : M3 y.q = some (caO C_Call { y with hint := none }) := ClAt.oco (x := { x with ro := ro3, co := co.set i { y with hint := none } }) (i := i) (y := { y with hint := none }) hS3.t hi2
    refine w_fldM j3 hT3 T_Route.cl T_Route.n_machine fl_Route_machine ?_
    walk_at "go"
    refine w_fldM j3 hyM3 T_Call.cl T_Call.n_group fl_Call_group ?_
    walk_at "go"
    refine w_fldM j3 hyM3 T_Call.cl T_Call.n_command fl_Call_command ?_
    walk_at "go"
    refine w_new j3 (by show 4 ≤ sizeLine; decide) fun b G4 H4 j4 e4 hb _ => ?_
    walk_at "go"
    refine w_new j4 (by show 2 ≤ sizeLine; decide) fun a G5 H5 j5 e5 ha _ => ?_
    walk_at "go"
    have ll : lv.length = n := by
      have := dpAll_len hlv
      rw [this]; unfold sentL; rw [List.length_map, List.length_take]; omega
    refine w_appendA j5 eL3 (by omega) fun H6 j6 => ?_
    walk_at "go"
    have e35 : Ex G3 G5 := e4.trans e5
    have e15 : Ex G1 G5 := e3.trans e35
    have hcv : Dp K G5 y.cv y.cmd := dp_mono e15 (hS.t.d.cv y hy)
    have hmc : (lookR (rDat x.ro) (grpOf (cDat x.co) y.k)).mc = y3.d.mc := by
      have h1 := lookR_at (ro := ro3) (y := y3) hS3.t.d.rn hi3
      rw [← h1, hr3, lookR_routeD, hro, lookR_sentR, hy3, hg]
    refine ⟨_, _, _, G5, _, ro3, co.set i { y with hint := none }, rfl, j6, e1.trans e15, upd_same, ⟨?_, ?_, ?_, ?_⟩, nL3⟩
    · exact ((hS2.then hS3).ex e35).off hL nL3 fun _ z => nomatch z
    · rw [htake, sentL_snoc, hmc, hg, hcm]
      exact dpAll_snoc (dpAll_mono e15 hlv) (letD_ok (st_of ha) (st_of (e5 _ _ hb)) hcv)
    · rw [htake, cDat_set hS.t.d.cn hi, hco, sentC_snoc]
    · rw [htake, sentR_snoc, hr3, hro, hg]
  · rintro σ H ⟨x3, x4, M1, G1, lv, ro, co, rfl, j1, e1, eL, hX, nL⟩
    rw [List.length_map, List.take_length] at hX
    have nG : G1 L = none := j1.d L _ eL
    walk_at "go"
    have e2 : Ex G1 (upd G1 L (.lst lv)) := Ex.new nG
    exact k _ _ _ _ (j1.seal eL) (e1.trans e2) ⟨L, lv, ro, co, rfl, upd_same, (hX.1.less hL nL).ex e2, dpAll_mono e2 hX.2.1, hX.2.2⟩
/-! ### Clerk.make -/
abbrev s_Clerk_make : Stmt := inClass (top 31) 9
abbrev n_Clerk_make : List Str := ["self", "group", "command", "blocked"]
theorem sc_Clerk_make : FnScope n_Clerk_make ["self", "group", "command", "blocked"] (defScope s_Clerk_make) := ⟨rfl, rfl, rfl, by decide +kernel, rfl, by decide +kernel, by decide +kernel⟩
structure MkP where
  x : ClX
  g : Int
  cv : V
  bv : V
  cmd : PyData
def NewC (y : CaX) (k g : Int) (cv bv : V) (cmd : PyData) : Prop := y.k = k ∧ y.g = g ∧ y.cv = cv ∧ y.bv = bv ∧ y.cmd = cmd ∧ y.hint = none
def sp_Clerk_make (K : PySem.W.Frag) (C CR CC : Addr) : Sp := Sg (α := MkP) (fun x vs M G => vs = [.ref x.x.p, .int x.g, x.cv, x.bv] ∧ ClAt K C CR CC M G x.x ∧ Dp K G x.cv x.cmd ∧ x.x.token + 1 ∉ x.x.co.map (·.k) ∧ x.x.co.length < 60) (fun x M _ v M' G' => v = .int (x.x.token + 1) ∧ ∃ y, NewC y (x.x.token + 1) x.g x.cv x.bv x.cmd ∧ ClS K C CR CC M x.x M' G' { x.x with token := x.x.token + 1, co := x.x.co ++ [y] })
theorem ok_Clerk_make {P : Program} {w : World} {K : PySem.W.Frag} {mg : Str → Option Value} {base : Heap}
    {C_Clerk : Addr} (T_Clerk : Tx_Clerk K mg C_Clerk)
    {C_Call : Addr} (T_Call : Tx_Call K mg C_Call)
    {C_Route : Addr} (T_Route : Tx_Route K mg C_Route)
    {f : Addr} {fd : FuncData} (D : Dm K C_Clerk "make" "Clerk.make" s_Clerk_make ["self", "group", "command", "blocked"] f fd)
    (c_Call___init__ : CalI P w K mg base CX0 1 C_Call (sp_Call___init__ K C_Call)) : CalM P w K mg base CX0 3 C_Clerk "make" (sp_Clerk_make K C_Clerk C_Route C_Call) := by
  refine D.ok sc_Clerk_make (fun vs H Q E h => ?_) fun cdv A outer s H vs Q E hr h => ?_
  · obtain ⟨x, M, G, j, ⟨rfl, _⟩, _⟩ := h; rfl
  obtain ⟨⟨x, g, cv, bv, cmd⟩, M, G, j, ⟨rfl, hC, hcv, hk, hl⟩, k⟩ := h
  dsimp only at hC hcv hk hl k
  refine ⟨_, (pss_cons (ps_fldaug (pv 0) pe_int in_add)
(pss_cons (ps_dput (hu_of hr) (pe_fld (pv 0) rfl) (pe_fld (pv 0) rfl) (pe_calI c_Call___init__ T_Call.gC hr (by first | decide | omega) (by rfl) (pa_cons (pv 1) (pa_cons (pv 2) (pa_cons (pv 3) pa_nil)))) rfl)
(pss_one (ps_ret (pe_fld (pv 0) rfl))))), ?_⟩
  walk_at "start"
  refine w_augK j hC.op T_Clerk.cl T_Clerk.n_token fl_Clerk_token (by show 12 < 1000; decide) fun R hR => ?_
  walk_at "go"
  refine hR _ _ ⟨1, M, G, rfl, j, hC.op, fun H1 j1 => ?_⟩
  rw [sf_Clerk_token] at j1
  have hS1 := hC.s.f_token (x.token + 1)
  have j1 : J (upd M x.p (clO C_Clerk { x with token := x.token + 1 })) G H1 := j1
  generalize upd M x.p (clO C_Clerk { x with token := x.token + 1 }) = M1 at *
  walk_at "go"
  refine w_makeX j1 fun y dy H2 j2 ny gy => ?_
  refine w_sg (α := CiP) ⟨y, dy, g, cv, bv⟩ j2 ⟨rfl, upd_same⟩ fun v M3 G3 H3 j3 e3 ⟨ev, em⟩ => ⟨ev, ?_⟩
  rw [upd_upd] at em
  have em : M3 = upd M1 y (caO C_Call ⟨y, dy, x.token + 1, g, cv, bv, none, cmd⟩) := em
  subst em
  have hS3 := hS1.ex e3
  have op3 : upd M1 y (caO C_Call ⟨y, dy, x.token + 1, g, cv, bv, none, cmd⟩) x.p = some (clO C_Clerk { x with token := x.token + 1 }) := upd_ne' hS3.t.op (ne_of_none hS3.t.op ny)
  walk_at "go"
  refine w_fldM j3 op3 T_Clerk.cl T_Clerk.n_calls fl_Clerk_calls ?_
  walk_at "go"
  refine w_fldM j3 op3 T_Clerk.cl T_Clerk.n_token fl_Clerk_token ?_
  refine w_putX j3 (upd_ne' hS3.t.ocd (ne_of_none hS3.t.ocd ny)) (by rw [show (caK x.co).length = x.co.length from List.length_map _]; omega) fun H4 j4 => ?_
  rw [show putK (caK x.co) (.inl (x.token + 1)) (.ref y) = caK (x.co ++ [⟨y, dy, x.token + 1, g, cv, bv, none, cmd⟩]) from putC_new (y := ⟨y, dy, x.token + 1, g, cv, bv, none, cmd⟩) hk] at j4
  have hS4 := hS3.n_co ⟨y, dy, x.token + 1, g, cv, bv, none, cmd⟩ ny hk (dp_mono e3 hcv) hl
  walk_at "go"
  refine w_fldM j4 hS4.t.op T_Clerk.cl T_Clerk.n_token fl_Clerk_token ?_
  exact k _ _ _ _ j4 e3 ⟨rfl, _, ⟨rfl, rfl, rfl, rfl, rfl, rfl⟩, hS4⟩
/-! ### [.. for a, b in xs], the block may change what is owned -/
section
variable {K : PySem.W.Frag} {M G H : Hp} {σ : L2.St} {Q : VK} {g : TG} {te : TE} {vs : List Nat} {a : Addr} {xs : List V}
theorem w_lclG (j : J M G H) (P : Addr → Nat → List V → Hp → Hp → Prop) (hx : SqL K G a xs) (h0 : ∀ L, M L = none → G L = none → P L 0 [] (upd M L (.lst [])) G) (hG : ∀ L i acc M1 G1, P L i acc M1 G1 → Ex G G1)
    (hs : ∀ L i x acc M1 G1 H1 (R : V → Hp → Prop), xs[i]? = some x → J M1 G1 H1 → M1 L = some (.lst acc) → P L i acc M1 G1 → (∀ y H4, StepL L acc (P L (i + 1)) y H4 → R y H4) → g x (wipe σ vs) H1 fun σ2 H2 => wipe σ2 vs = wipe σ vs ∧ te σ2 H2 R)
    (hd : ∀ L acc M1 G1 H1, J M1 G1 H1 → M1 L = some (.lst acc) → P L xs.length acc M1 G1 → Q (.ref L) H1) : LcL K g tYes te vs σ (.ref a) H Q := by
  refine ⟨a, rfl, ⟨xs, sl_mono j.g hx⟩, fun L hL => lc_list (xs := xs) (LcI P L) ⟨[], _, _, j.newM hL, upd_same, h0 L (j.freeM hL) (j.freeG hL)⟩ (fun i H1 _ p => ?_) (fun i x H1 hi p => ?_) fun H1 p => ?_⟩
  · obtain ⟨acc, M1, G1, j1, e, p⟩ := p
    exact sl_mono ((hG _ _ _ _ _ p).trans j1.g) hx
  · obtain ⟨acc, M1, G1, j1, e, p⟩ := p
    exact hs L i x acc M1 G1 H1 (fun y H4 => ∃ acc, H4 L = some (.lst acc) ∧ acc.length < sizeLine ∧ LcI P L (i + 1) (upd H4 L (.lst (acc ++ [y])))) hi j1 e p fun y H4 q => q.go
  · obtain ⟨acc, M1, G1, j1, e, p⟩ := p
    exact hd L acc M1 G1 H1 j1 e p
end
/-! ### Clerk.make_all -/
abbrev s_Clerk_make_all : Stmt := inClass (top 31) 10
abbrev n_Clerk_make_all : List Str := ["self", "wanted", "group", "command"]
theorem sc_Clerk_make_all : FnScope n_Clerk_make_all ["self", "wanted"] (defScope s_Clerk_make_all) := ⟨rfl, rfl, rfl, by decide +kernel, rfl, by decide +kernel, by decide +kernel⟩
structure WaP where
  x : ClX
  q : Addr
  ws : List (Addr × Int × V × PyData)
def WaAt (K : PySem.W.Frag) (G : Hp) (w : Addr × Int × V × PyData) : Prop := SqT K G w.1 [.int w.2.1, w.2.2.1] ∧ Dp K G w.2.2.1 w.2.2.2
/-- the calls that are made -/
def NewCs : List CaX → Int → List (Addr × Int × V × PyData) → Prop
  | [], _, [] => True
  | y :: ys, k, w :: ws => NewC y (k + 1) w.2.1 w.2.2.1 .non w.2.2.2 ∧ NewCs ys (k + 1) ws
  | _, _, _ => False
theorem NewCs.snoc : ∀ {ys : List CaX} {k : Int} {ws : List (Addr × Int × V × PyData)} {y : CaX} {w : Addr × Int × V × PyData}, NewCs ys k ws → NewC y (k + ys.length + 1) w.2.1 w.2.2.1 .non w.2.2.2 → NewCs (ys ++ [y]) k (ws ++ [w])
  | [], k, [], y, w, _, h => ⟨by have : k + (([] : List CaX).length : Int) + 1 = k + 1 := by show k + ((0 : Nat) : Int) + 1 = k + 1; omega
                                 rw [this] at h; exact h, trivial⟩
  | y0 :: ys, k, w0 :: ws, y, w, h, g => ⟨h.1, NewCs.snoc h.2 (by have : k + ((y0 :: ys).length : Int) + 1 = k + 1 + (ys.length : Int) + 1 := by rw [List.length_cons]; omega
                                                                  rw [this] at g; exact g)⟩
  | [], _, _ :: _, _, _, h, _ => h.elim
  | _ :: _, _, [], _, _, h, _ => h.elim
theorem NewCs.len : ∀ {ys : List CaX} {k : Int} {ws : List (Addr × Int × V × PyData)}, NewCs ys k ws → ys.length = ws.length
  | [], _, [], _ => rfl
  | _ :: ys, _, _ :: ws, h => by rw [List.length_cons, List.length_cons, NewCs.len h.2]
  | [], _, _ :: _, h => h.elim
  | _ :: _, _, [], h => h.elim
theorem NewCs.ks : ∀ {ys : List CaX} {k : Int} {ws : List (Addr × Int × V × PyData)}, NewCs ys k ws → ∀ y ∈ ys, k < y.k ∧ y.k ≤ k + ys.length
  | [], _, _, _, y, hy => nomatch hy
  | z :: ys, k, w :: ws, h, y, hy => by
    rcases List.mem_cons.mp hy with q | q
    · rw [q, h.1.1, List.length_cons]; omega
    · have := NewCs.ks h.2 y q
      rw [List.length_cons]; omega
  | _ :: _, _, [], h, _, _ => h.elim
/-- tokens are not beyond the last one -/
def TkOk (x : ClX) : Prop := ∀ y ∈ x.co, y.k ≤ x.token
/-- the clerk when so many calls are made -/
def xI (x : ClX) (i : Nat) (ys : List CaX) : ClX := { x with token := x.token + (i : Int), co := x.co ++ ys }
theorem xI_nil (x : ClX) : xI x 0 [] = x := by
  show ({ x with token := x.token + ((0 : Nat) : Int), co := x.co ++ [] } : ClX) = x
  rw [List.append_nil, show ((0 : Nat) : Int) = 0 from rfl, Int.add_zero]
theorem xI_snoc (x : ClX) (i : Nat) (ys : List CaX) (y : CaX) : ({ xI x i ys with token := (xI x i ys).token + 1, co := (xI x i ys).co ++ [y] } : ClX) = xI x (i + 1) (ys ++ [y]) := by
  unfold xI
  dsimp only
  rw [List.append_assoc, show x.token + (i : Int) + 1 = x.token + ((i + 1 : Nat) : Int) by omega]
def InMa (K : PySem.W.Frag) (C CR CC : Addr) (x : ClX) (ws : List (Addr × Int × V × PyData)) (M G : Hp) (L : Addr) (i : Nat) (acc : List V) (M1 G1 : Hp) : Prop := Ex G G1 ∧ M L = none ∧ ∃ ys : List CaX, acc = ys.map (fun y => V.int y.k) ∧ NewCs ys x.token (ws.take i) ∧ ClS K C CR CC M x M1 G1 (xI x i ys) ∧ L ∉ (xI x i ys).cells
def sp_Clerk_make_all (K : PySem.W.Frag) (C CR CC : Addr) : Sp := Sg (α := WaP) (fun x vs M G => vs = [.ref x.x.p, .ref x.q] ∧ ClAt K C CR CC M G x.x ∧ SqL K G x.q (x.ws.map fun w => V.ref w.1) ∧ (∀ w ∈ x.ws, WaAt K G w) ∧ TkOk x.x ∧ x.x.co.length + x.ws.length ≤ 59) (fun x M _ v M' G' => ∃ q ys, v = .ref q ∧ G' q = some (.lst (ys.map fun (y : CaX) => V.int y.k)) ∧ NewCs ys x.x.token x.ws ∧ ClS K C CR CC M x.x M' G' (xI x.x x.ws.length ys))
theorem ok_Clerk_make_all {P : Program} {w : World} {K : PySem.W.Frag} {mg : Str → Option Value} {base : Heap}
    {C_Clerk : Addr} (T_Clerk : Tx_Clerk K mg C_Clerk)
    {C_Route : Addr} (T_Route : Tx_Route K mg C_Route)
    {C_Call : Addr} (T_Call : Tx_Call K mg C_Call)
    {f : Addr} {fd : FuncData} (D : Dm K C_Clerk "make_all" "Clerk.make_all" s_Clerk_make_all ["self", "wanted"] f fd)
    (c_Clerk_make : CalM P w K mg base CX0 3 C_Clerk "make" (sp_Clerk_make K C_Clerk C_Route C_Call)) : CalM P w K mg base CX0 4 C_Clerk "make_all" (sp_Clerk_make_all K C_Clerk C_Route C_Call) := by
  refine D.ok sc_Clerk_make_all (fun vs H Q E h => ?_) fun cdv A outer s H vs Q E hr h => ?_
  · obtain ⟨x, M, G, j, ⟨rfl, _⟩, _⟩ := h; rfl
  obtain ⟨⟨x, q, ws⟩, M, G, j, ⟨rfl, hC, hq, hws, htk, hl⟩, k⟩ := h
  dsimp only at hC hq hws htk hl k
  refine ⟨_, (pss_one (ps_ret (pe_lc (own := [("group", 2), ("command", 3)]) (by rfl) sc_Clerk_make_all.nd (pi_list (pv 1)) (blkOk_by (own := [("group", 2), ("command", 3)]) (N := n_Clerk_make_all) (sc := defScope s_Clerk_make_all) (by decide +kernel)) (fun _ _ _ _ _ => (pg_tupK (K := K) (n := 2) rfl rfl (pgs_cons (pg_name (i := 2) sc_Clerk_make_all.nd rfl (Or.inl rfl)) (pgs_cons (pg_name (i := 3) sc_Clerk_make_all.nd rfl (Or.inl rfl)) pgs_nil)))) (fun _ _ _ _ _ => pts_nil) (fun _ _ _ _ _ => (pe_calM c_Clerk_make T_Clerk.cl hr (by first | decide | omega) (pv 0) (pa_cons (pv 2) (pa_cons (pv 3) (pa_cons pe_non pa_nil)))))))), ?_⟩
  walk_at "start"
  refine w_lclG j (InMa K C_Clerk C_Route C_Call x ws M G) hq ?_ (fun _ _ _ _ _ h => h.1) ?_ ?_
  · intro L hL gL
    refine ⟨fun _ _ z => z, hL, [], rfl, trivial, ?_, ?_⟩
    · rw [xI_nil]; exact hC.s.off hL (hC.none hL) fun _ z => nomatch z
    · rw [xI_nil]; exact hC.none hL
  · intro L i v acc M1 G1 H1 R hi j1 eL p hR
    obtain ⟨e1, hL, ys, rfl, hN, hS, nL⟩ := p
    obtain ⟨w, hw, rfl⟩ : ∃ w, ws[i]? = some w ∧ V.ref w.1 = v := by
      rw [List.getElem?_map] at hi
      cases e : ws[i]? with
      | none => rw [e] at hi; cases hi
      | some w => rw [e] at hi; exact ⟨w, rfl, Option.some.inj hi⟩
    have hwa := hws w (List.mem_of_getElem? hw)
    have hlt : i < ws.length := (List.getElem?_eq_some_iff.mp hw).1
    have htake : ws.take (i + 1) = ws.take i ++ [w] := by rw [List.take_add_one, hw]; rfl
    have hyl : ys.length = i := by rw [hN.len, List.length_take]; omega
    refine w_gTup j1 (st_mono e1 hwa.1) rfl (w_gCons (w_gName (w_gCons (w_gName (w_gNil ⟨rfl, ?_⟩)))))
    walk_at "go"
    refine w_methM j1 hS.t.op (no_Clerk (by decide +kernel) (by decide +kernel) (by decide +kernel) (by decide +kernel) (by decide +kernel) (by decide +kernel) (by decide +kernel) (by decide +kernel) (by decide +kernel) (by decide +kernel) (by decide +kernel) (by decide +kernel)) ?_
    walk_at "go"
    have hS' := hS
    refine w_sg (α := MkP) ⟨xI x i ys, w.2.1, w.2.2.1, .non, w.2.2.2⟩ j1 ⟨rfl, hS.t, dp_mono e1 hwa.2, ?_, ?_⟩ fun v M2 G2 H2 j2 e2 ⟨ev, y, hy, hT⟩ => ?_
    · intro m
      obtain ⟨z, hz, ez⟩ := List.mem_map.mp m
      have ez : z.k = x.token + (i : Int) + 1 := ez
      rcases List.mem_append.mp hz with h1 | h1
      · have := htk z h1; omega
      · have := (hN.ks z h1).2; omega
    · show (x.co ++ ys).length < 60
      rw [List.length_append]; omega
    · dsimp only at ev hy hT
      rw [xI_snoc] at hT
      have nL2 : L ∉ (xI x (i + 1) (ys ++ [y])).cells := hT.f.not eL nL
      have eL2 := hT.f.kp L _ eL nL
      refine hR _ _ ⟨M2, G2, j2, eL2, by rw [List.length_map, hyl]; have : ws.length ≤ 59 := by omega
                                         exact Nat.lt_of_lt_of_le (Nat.lt_of_lt_of_le hlt this) (by decide), e1.trans e2, hL, ys ++ [y], ?_, ?_, ?_, nL2⟩
      · rw [List.map_append, ev]
        show _ = ys.map _ ++ [V.int y.k]
        rw [hy.1]
      · rw [htake]
        refine hN.snoc ?_
        rw [hyl]; exact hy
      · exact (hS.then hT).off hL nL2 fun _ z => nomatch z
  · intro L acc M1 G1 H1 j1 eL p
    obtain ⟨e1, hL, ys, rfl, hN, hS, nL⟩ := p
    rw [List.length_map] at hN hS nL
    rw [List.take_length] at hN
    have nG : G1 L = none := j1.d L _ eL
    walk_at "go"
    have e2 : Ex G1 (upd G1 L (.lst (ys.map fun y => V.int y.k))) := Ex.new nG
    refine k _ _ _ _ (j1.seal eL) (e1.trans e2) ⟨L, ys, rfl, upd_same, hN, (hS.less hL nL).ex e2⟩
/-! ### Attempt.begin -/
abbrev s_Attempt_begin : Stmt := inClass (top 27) 1
abbrev n_Attempt_begin : List Str := ["self"]
theorem sc_Attempt_begin : FnScope n_Attempt_begin ["self"] (defScope s_Attempt_begin) := ⟨rfl, rfl, rfl, by decide +kernel, rfl, by decide +kernel, by decide +kernel⟩
def sp_Attempt_begin (K : PySem.W.Frag) (C : Addr) : Sp := Sg (α := V) (fun x vs _ _ => vs = [x]) (fun _ M _ v M' G' => M' = M ∧ ∃ q t n, v = .ref q ∧ G' q = some (.lst [.ref t]) ∧ SqT K G' t [.int 0, .ref n] ∧ SqT K G' n [.str "next"])
theorem ok_Attempt_begin {P : Program} {w : World} {K : PySem.W.Frag} {mg : Str → Option Value} {base : Heap}
    {C_Attempt : Addr} (T_Attempt : Tx_Attempt K mg C_Attempt)
    {f : Addr} {fd : FuncData} (D : Dm K C_Attempt "begin" "Attempt.begin" s_Attempt_begin ["self"] f fd)
    {a_ASK_TIME a_ASK_TIME_2 : Addr} (g_ASK_TIME : ∃ u, mg "ASK_TIME" = some u ∧ RelV (.ref a_ASK_TIME) u) (k_ASK_TIME : ∀ H, SqT K H a_ASK_TIME [V.int 0, V.ref a_ASK_TIME_2]) (k_ASK_TIME_2 : ∀ H, SqT K H a_ASK_TIME_2 [V.str "next"]) : CalM P w K mg base CX0 1 C_Attempt "begin" (sp_Attempt_begin K C_Attempt) := by
  refine D.ok sc_Attempt_begin (fun vs H Q E h => ?_) fun cdv A outer s H vs Q E hr h => ?_
  · obtain ⟨x, M, G, j, rfl, _⟩ := h; rfl
  obtain ⟨x, M, G, j, rfl, k⟩ := h
  refine ⟨_, (pss_one (ps_ret (pe_lst (pa_cons (pe_gk (by rfl) g_ASK_TIME) pa_nil)))), ?_⟩
  walk_at "start"
  refine w_new j (by show 1 ≤ sizeLine; decide) fun q G1 H1 j1 e1 hq _ => ?_
  exact k _ _ _ _ j1 e1 ⟨rfl, q, _, _, rfl, hq, k_ASK_TIME G1, k_ASK_TIME_2 G1⟩
/-! ### clerks: a new attempt -/
section
variable {K : PySem.W.Frag} {C CR CC : Addr} {M0 M M' G G' H : Hp} {x0 x x' : ClX} {p rw : Addr} {o : HO} {i : Nat}
theorem perm_t37 {A B D : List Addr} {p r : Addr} : (A ++ (B ++ (D ++ [p, r]))).Perm (p :: r :: (A ++ (B ++ D))) := by
  have e : A ++ (B ++ (D ++ [p, r])) = (A ++ (B ++ D)) ++ [p, r] := by simp
  rw [e]
  exact List.perm_append_comm
/-- the clerk with an attempt that begins -/
def atX (x : ClX) (p rw : Addr) (o : HO) : ClX := { x with av := .ref p, ac := [p, rw], ao := [o, .dK []] }
theorem ClS.n_at (h : ClS K C CR CC M0 x0 M G x) (hc : x.ac = []) (hp : M p = Option.none) (hr : M rw = Option.none) (hn : rw ≠ p) (ho : ∀ xs, o ≠ .tup xs) : ClS K C CR CC M0 x0 (upd (upd (upd M rw (.dK [])) p o) x.p (clO C (atX x p rw o))) G (atX x p rw o) := by
  obtain ⟨c1, c2, c3, _⟩ := h.t.parts
  have np := h.t.none hp
  have nr := h.t.none hr
  have hp1 : upd M rw (.dK []) p = Option.none := by rw [upd_ne hn.symm]; exact hp
  have ec : x.cells = [x.p, x.pl, x.rd, x.cd, x.nw] ++ (x.ro.map (·.q) ++ x.co.map (·.q)) := by
    unfold ClX.cells; rw [hc, List.append_nil]
  have hpm : (atX x p rw o).cells.Perm (p :: rw :: x.cells) := by
    rw [ec]; exact perm_t37
  have nd : (atX x p rw o).cells.Nodup := hpm.nodup_iff.mpr (List.nodup_cons.mpr ⟨fun m => (List.mem_cons.mp m).elim (fun z => hn z.symm) np, List.nodup_cons.mpr ⟨nr, h.t.n⟩⟩)
  have nt1 : NoT (upd M rw (.dK [])) := h.t.nt.upd fun _ z => by cases z
  have nt2 : NoT (upd (upd M rw (.dK [])) p o) := nt1.upd ho
  have nt3 : NoT (upd (upd (upd M rw (.dK [])) p o) x.p (clO C (atX x p rw o))) := nt2.upd fun _ z => by cases z
  refine ⟨⟨?_, nd, ⟨h.t.d.da, h.t.d.dd, h.t.d.dn, h.t.d.pl, h.t.d.cv, h.t.d.nw, h.t.d.rn, h.t.d.cn, h.t.d.rl, h.t.d.cl, h.t.d.nl⟩, nt3⟩, h.f.trans ⟨fun c u e n => ?_, fun c m => ?_, rfl⟩⟩
  · have hh : CellsC (upd (upd M rw (.dK [])) p o) (atX x p rw o).cells ([clO C x, .lst x.plv, .dK (roK x.ro), .dK (caK x.co), .lst x.nwv] ++ (x.ro.map (roO CR) ++ (x.co.map (caO CC) ++ [o, .dK []]))) :=
      CellsC.app ((c1.new hr).new hp1) (CellsC.app ((c2.new hr).new hp1) (CellsC.app ((c3.new hr).new hp1) (.cons upd_same (.cons (upd_ne' upd_same hn) .nil))))
    exact CellsC.put (i := 0) nd hh rfl
  · have ep : c ≠ x.p := fun z => n (z ▸ List.mem_cons_self)
    exact upd_ne' (upd_ne' (upd_ne' e (ne_of_none e hr)) (ne_of_none e hp)) ep
  · rcases List.mem_cons.mp (hpm.mem_iff.mp m) with z | z
    · exact .inr (z ▸ hp)
    · rcases List.mem_cons.mp z with z | z
      · exact .inr (z ▸ hr)
      · exact .inl z
end
/-! ### Clerk.begin -/
abbrev s_Clerk_begin : Stmt := inClass (top 31) 11
abbrev n_Clerk_begin : List Str := ["self"]
theorem sc_Clerk_begin : FnScope n_Clerk_begin ["self"] (defScope s_Clerk_begin) := ⟨rfl, rfl, rfl, by decide +kernel, rfl, by decide +kernel, by decide +kernel⟩
def askedD (client number : Int) : PyData := .tuple [.str "asked", .int client, .int number]
/-- the deal is asked, if it was not at work -/
def askX (x : ClX) (nwv : List V) : ClX := if x.busy then x else { x with busy := true, tries := 0, nwv := nwv, news := x.news ++ [askedD x.client x.number] }
theorem askX_same (x : ClX) (nwv : List V) : (askX x nwv).p = x.p ∧ (askX x nwv).client = x.client ∧ (askX x nwv).number = x.number ∧ (askX x nwv).dls = x.dls ∧ (askX x nwv).token = x.token ∧ (askX x nwv).co = x.co ∧ (askX x nwv).ac = x.ac := by
  unfold askX
  split <;> exact ⟨rfl, rfl, rfl, rfl, rfl, rfl, rfl⟩
def BegE (K : PySem.W.Frag) (CA : Addr) (x x2 : ClX) (G' : Hp) : Prop := ∃ nwv x1 p dx rw dt pa re gs d as ops y cv, x1 = askX x nwv ∧ x.dls[x.number.toNat]? = some (d, as, ops) ∧ SqT K G' dt [.int x.client, .int x.number, .int x1.tries] ∧ G' pa = some (.lst []) ∧ G' re = some (.lst []) ∧ G' gs = some (.lst []) ∧
  NewC y (x.token + 1) 0 cv .non (.tuple [.str "next"]) ∧ x2 = { atX x1 p rw (atO CA dx (.ref dt) (.ref d) "start" 1 .non pa rw re gs .non .non false false) with tries := x1.tries + 1, token := x.token + 1, co := x.co ++ [y] }
theorem BegE.ex {K : PySem.W.Frag} {CA : Addr} {x x2 : ClX} {G G' : Hp} (h : BegE K CA x x2 G) (e : Ex G G') : BegE K CA x x2 G' := by
  obtain ⟨nwv, x1, p, dx, rw, dt, pa, re, gs, d, as, ops, y, cv, h1, h2, h3, h4, h5, h6, h7, h8⟩ := h
  exact ⟨nwv, x1, p, dx, rw, dt, pa, re, gs, d, as, ops, y, cv, h1, h2, st_mono e h3, e _ _ h4, e _ _ h5, e _ _ h6, h7, h8⟩
theorem BegE.fs {K : PySem.W.Frag} {CA : Addr} {x x2 : ClX} {G : Hp} (h : BegE K CA x x2 G) : x2.p = x.p ∧ x2.ro = x.ro ∧ x2.co.length = x.co.length + 1 := by
  obtain ⟨nwv, x1, p, dx, rw, dt, pa, re, gs, d, as, ops, y, cv, rfl, _, _, _, _, _, _, rfl⟩ := h
  refine ⟨(askX_same x nwv).1, ?_, List.length_append⟩
  show (askX x nwv).ro = x.ro
  unfold askX
  split <;> rfl
def BegX (K : PySem.W.Frag) (C CR CC CA : Addr) (M : Hp) (x : ClX) (M' G' : Hp) : Prop := ∃ x2, BegE K CA x x2 G' ∧ ClS K C CR CC M x M' G' x2
def sp_Clerk_begin (K : PySem.W.Frag) (C CR CC CA : Addr) : Sp := Sg (α := ClX) (fun x vs M G => vs = [.ref x.p] ∧ ClAt K C CR CC M G x ∧ x.ac = [] ∧ TkOk x ∧ 0 ≤ x.number ∧ x.number < x.dls.length ∧ x.co.length ≤ 58 ∧ x.news.length < 1000) (fun x M _ v M' G' => v = .non ∧ BegX K C CR CC CA M x M' G')
theorem ok_Clerk_begin {P : Program} {w : World} {K : PySem.W.Frag} {mg : Str → Option Value} {base : Heap}
    {C_Clerk : Addr} (T_Clerk : Tx_Clerk K mg C_Clerk)
    {C_Attempt : Addr} (T_Attempt : Tx_Attempt K mg C_Attempt)
    {C_Route : Addr} (T_Route : Tx_Route K mg C_Route)
    {C_Call : Addr} (T_Call : Tx_Call K mg C_Call)
    {f : Addr} {fd : FuncData} (D : Dm K C_Clerk "begin" "Clerk.begin" s_Clerk_begin ["self"] f fd)
    (c_Clerk_make_all : CalM P w K mg base CX0 4 C_Clerk "make_all" (sp_Clerk_make_all K C_Clerk C_Route C_Call))
    (c_Attempt_begin : CalM P w K mg base CX0 1 C_Attempt "begin" (sp_Attempt_begin K C_Attempt))
    (c_Attempt___init__ : CalI P w K mg base CX0 1 C_Attempt (sp_Attempt___init__ K C_Attempt)) : CalM P w K mg base CX0 5 C_Clerk "begin" (sp_Clerk_begin K C_Clerk C_Route C_Call C_Attempt) := by
  refine D.ok sc_Clerk_begin (fun vs H Q E h => ?_) fun cdv A outer s H vs Q E hr h => ?_
  · obtain ⟨x, M, G, j, ⟨rfl, _⟩, _⟩ := h; rfl
  obtain ⟨x, M, G, j, ⟨rfl, hC, hac, htk, hn0, hn1, hcl, hnl⟩, k⟩ := h
  refine ⟨_, (pss_cons (ps_if (pt_not (pt_val (pe_fld (pv 0) rfl)))
(pss_cons (ps_fld (pv 0) pe_bl rfl)
(pss_cons (ps_fld (pv 0) pe_int rfl)
(pss_one (ps_expr (pe_bm PySem.F.plainAttrs_list PySem.F.slot_list_append PySem.F.type_list_append mt_append (pe_fld (pv 0) rfl) (pa_cons (pe_tup (pa_cons pe_str (pa_cons (pe_fld (pv 0) rfl) (pa_cons (pe_fld (pv 0) rfl) pa_nil)))) pa_nil))))))
pss_nil)
(pss_cons (ps_fld (pv 0) (pe_calI c_Attempt___init__ T_Attempt.gC hr (by first | decide | omega) (by rfl) (pa_cons (pe_tup (pa_cons (pe_fld (pv 0) rfl) (pa_cons (pe_fld (pv 0) rfl) (pa_cons (pe_fld (pv 0) rfl) pa_nil)))) (pa_cons (pe_ix (ix_uK (K := K) rfl) (pe_fld (pv 0) rfl) (pe_fld (pv 0) rfl) (fun _ _ => rfl)) pa_nil))) rfl)
(pss_cons (ps_fldaug (pv 0) pe_int in_add)
(pss_one (ps_expr (pe_calM c_Clerk_make_all T_Clerk.cl hr (by first | decide | omega) (pv 0) (pa_cons (pe_calM0 c_Attempt_begin T_Attempt.cl hr (by first | decide | omega) (pe_fld (pv 0) rfl)) pa_nil))))))), ?_⟩
  walk_at "to"
  refine w_seqO (fun σ H => ∃ M1 G1 nwv, J M1 G1 H ∧ Ex G G1 ∧ ClS K C_Clerk C_Route C_Call M x M1 G1 (askX x nwv) ∧ σ = [some (.ref x.p)]) ?_ fun N hN => ?_
  · rintro σ H ⟨M1, G1, nwv, j1, e1, hS, rfl⟩
    obtain ⟨ep, ec, en, ed, et, eco, eac⟩ := askX_same x nwv
    generalize hx1 : askX x nwv = x1 at *
    have op1 : M1 x.p = some (clO C_Clerk x1) := ep ▸ hS.t.op
    obtain ⟨⟨d, as, ops⟩, hdl⟩ : ∃ y, x.dls[x.number.toNat]? = some y := ⟨_, List.getElem?_eq_getElem (by omega)⟩
    walk_at "go"
    refine w_fldM j1 op1 T_Clerk.cl T_Clerk.n_client fl_Clerk_client ?_
    walk_at "go"
    refine w_fldM j1 op1 T_Clerk.cl T_Clerk.n_number fl_Clerk_number ?_
    walk_at "go"
    refine w_fldM j1 op1 T_Clerk.cl T_Clerk.n_tries fl_Clerk_tries ?_
    walk_at "go"
    refine w_new j1 (by show 3 ≤ sizeLine; decide) fun dt G2 H2 j2 e2 hdt _ => ?_
    walk_at "go"
    refine w_fldM j2 op1 T_Clerk.cl T_Clerk.n_deals fl_Clerk_deals ?_
    walk_at "go"
    refine w_fldM j2 op1 T_Clerk.cl T_Clerk.n_number fl_Clerk_number ?_
    walk_at "go"
    refine w_ixL j2 (sl_of (e2 _ _ hS.t.d.da)) (v := .ref d) (by rw [ed, en, ← Int.toNat_of_nonneg hn0]; exact atI_nat (by rw [List.getElem?_map, hdl]; rfl)) ?_
    walk_at "go"
    refine w_makeX j2 fun p dx H3 j3 np gp => ?_
    refine w_sg (α := AiP) ⟨p, dx, .ref dt, .ref d⟩ j3 ⟨rfl, upd_same⟩ fun v M4 G4 H4 j4 e4 ⟨ev, rw, pa, re, gs, nr, em, hpa, hre, hgs⟩ => ⟨ev, ?_⟩
    have nrp : rw ≠ p := fun z => by rw [z, upd_same] at nr; cases nr
    rw [upd_ne nrp] at nr
    rw [upd_two2 nrp] at em
    subst em
    dsimp only at j4
    have hS4 := hS.ex (e2.trans e4)
    have hA := hS4.n_at (eac.trans hac) np nr nrp (o := atO C_Attempt dx (.ref dt) (.ref d) "start" 1 .non pa rw re gs .non .non false false) fun _ z => nomatch z
    have npx : x.p ≠ p := fun z => by rw [← z, op1] at np; cases np
    have nrx : x.p ≠ rw := fun z => by rw [← z, op1] at nr; cases nr
    walk_at "go"
    refine w_setX j4 (upd_ne' (upd_ne' op1 nrx) npx) T_Clerk.cl T_Clerk.n_attempt (by show 12 < 1000; decide) fun H5 j5 => ?_
    rw [sf_Clerk_attempt] at j5
    rw [ep] at hA
    generalize ho : atO C_Attempt dx (.ref dt) (.ref d) "start" 1 .non pa rw re gs .non .non false false = o at *
    have j5 : J (upd (upd (upd M1 rw (.dK [])) p o) x.p (clO C_Clerk (atX x1 p rw o))) G4 H5 := j5
    have op5 : upd (upd (upd M1 rw (.dK [])) p o) x.p (clO C_Clerk (atX x1 p rw o)) x.p = some (clO C_Clerk (atX x1 p rw o)) := upd_same
    have oa5 : upd (upd (upd M1 rw (.dK [])) p o) x.p (clO C_Clerk (atX x1 p rw o)) p = some o := upd_ne' upd_same npx.symm
    generalize upd (upd (upd M1 rw (.dK [])) p o) x.p (clO C_Clerk (atX x1 p rw o)) = M5 at *
    walk_at "go"
    refine w_augK j5 op5 T_Clerk.cl T_Clerk.n_tries fl_Clerk_tries (by show 12 < 1000; decide) fun R hR => ?_
    walk_at "go"
    refine hR _ _ ⟨1, M5, G4, rfl, j5, op5, fun H6 j6 => ?_⟩
    rw [sf_Clerk_tries] at j6
    have hS6 : ClS K C_Clerk C_Route C_Call M x (upd M5 x.p (clO C_Clerk { atX x1 p rw o with tries := x1.tries + 1 })) G4 { atX x1 p rw o with tries := x1.tries + 1 } := by
      have h := hA.f_tries (x1.tries + 1)
      rw [show x.p = (atX x1 p rw o).p from ep.symm]
      exact h
    have j6 : J (upd M5 x.p (clO C_Clerk { atX x1 p rw o with tries := x1.tries + 1 })) G4 H6 := j6
    have op6 : upd M5 x.p (clO C_Clerk { atX x1 p rw o with tries := x1.tries + 1 }) x.p = some (clO C_Clerk { atX x1 p rw o with tries := x1.tries + 1 }) := upd_same
    have oa6 : upd M5 x.p (clO C_Clerk { atX x1 p rw o with tries := x1.tries + 1 }) p = some o := upd_ne' oa5 npx.symm
    generalize upd M5 x.p (clO C_Clerk { atX x1 p rw o with tries := x1.tries + 1 }) = M6 at *
    walk_at "go"
    refine w_methM j6 op6 (no_Clerk (by decide +kernel) (by decide +kernel) (by decide +kernel) (by decide +kernel) (by decide +kernel) (by decide +kernel) (by decide +kernel) (by decide +kernel) (by decide +kernel) (by decide +kernel) (by decide +kernel) (by decide +kernel)) ?_
    walk_at "go"
    refine w_fldM j6 op6 T_Clerk.cl T_Clerk.n_attempt fl_Clerk_attempt ?_
    walk_at "go"
    rw [← ho] at oa6
    refine w_methM j6 oa6 (no_Attempt (by decide +kernel) (by decide +kernel) (by decide +kernel) (by decide +kernel) (by decide +kernel) (by decide +kernel) (by decide +kernel) (by decide +kernel) (by decide +kernel) (by decide +kernel) (by decide +kernel) (by decide +kernel) (by decide +kernel)) ?_
    walk_at "go"
    refine w_sg (α := V) (.ref p) j6 rfl fun v M7 G7 H7 j7 e7 ⟨em, q, t, n, ev, hq, ht, hnx⟩ => ?_
    subst em ev
    have hS7 := hS6.ex e7
    have htk7 : TkOk { atX x1 p rw o with tries := x1.tries + 1 } := fun y hy => by
      have hy : y ∈ x1.co := hy
      rw [eco] at hy
      show y.k ≤ x1.token
      rw [et]
      exact htk y hy
    have hcm : Dp K G7 (.ref n) (.tuple [.str "next"]) := .tup hnx (.cons (.str _) .nil)
    walk_at "go"
    refine w_sg (α := WaP) ⟨{ atX x1 p rw o with tries := x1.tries + 1 }, q, [(t, 0, .ref n, .tuple [.str "next"])]⟩ j7 ?_ fun v M8 G8 H8 j8 e8 hE => ?_
    · refine ⟨by show _ = [V.ref x1.p, V.ref q]; rw [ep]; rfl, hS7.t, sl_of hq, fun w hw => ?_, htk7, ?_⟩
      rotate_left
      · show x1.co.length + 1 ≤ 59
        rw [eco]; omega
      obtain rfl := List.mem_singleton.mp hw
      exact ⟨ht, hcm⟩
    · obtain ⟨q', ys, ev, hq', hN, hS8⟩ := hE
      obtain ⟨y, rfl⟩ : ∃ y, ys = [y] := by
        match ys, hN with
        | [y], _ => exact ⟨y, rfl⟩
        | [], h => exact h.elim
        | _ :: _ :: _, h => exact h.2.elim
      have hy : NewC y (x1.token + 1) 0 (.ref n) .non (.tuple [.str "next"]) := hN.1
      rw [et] at hy
      have hT := hS7.then hS8
      have hT : ClS K C_Clerk C_Route C_Call M x M8 G8 { atX x1 p rw o with tries := x1.tries + 1, token := x1.token + 1, co := x1.co ++ [y] } := hT
      rw [et, eco] at hT
      have e48 : Ex G4 G8 := e7.trans e8
      refine k _ _ _ _ j8 (e1.trans (e2.trans (e4.trans e48))) ⟨rfl, _, ⟨nwv, x1, p, dx, rw, dt, pa, re, gs, d, as, ops, y, .ref n, hx1.symm, hdl, ?_, e48 _ _ hpa, e48 _ _ hre, e48 _ _ hgs, hy, rfl⟩, ?_⟩
      · have h := st_of (K := K) ((e4.trans e48) _ _ hdt)
        rw [ec, en] at h
        exact h
      · rw [ho]; exact hT
  · walk_at "start"
    refine w_fldM j hC.op T_Clerk.cl T_Clerk.n_busy fl_Clerk_busy ?_
    cases hb : x.busy with
    | true =>
      walk_at "go"
      refine hN _ _ ⟨M, G, [], j, fun _ _ z => z, ?_, rfl⟩
      unfold askX
      rw [if_pos hb]
      exact hC.s
    | false =>
      walk_at "go"
      refine w_setX j hC.op T_Clerk.cl T_Clerk.n_busy (by show 12 < 1000; decide) fun H1 j1 => ?_
      rw [sf_Clerk_busy] at j1
      have hS1 := hC.s.f_busy true
      have j1 : J (upd M x.p (clO C_Clerk { x with busy := true })) G H1 := j1
      have hS1 : ClS K C_Clerk C_Route C_Call M x (upd M x.p (clO C_Clerk { x with busy := true })) G { x with busy := true } := hS1
      generalize upd M x.p (clO C_Clerk { x with busy := true }) = M1 at *
      walk_at "go"
      refine w_setX j1 hS1.t.op T_Clerk.cl T_Clerk.n_tries (by show 12 < 1000; decide) fun H2 j2 => ?_
      rw [sf_Clerk_tries] at j2
      have j2 : J (upd M1 x.p (clO C_Clerk { x with busy := true, tries := 0 })) G H2 := j2
      have hS2 : ClS K C_Clerk C_Route C_Call M x (upd M1 x.p (clO C_Clerk { x with busy := true, tries := 0 })) G { x with busy := true, tries := 0 } := hS1.f_tries 0
      generalize upd M1 x.p (clO C_Clerk { x with busy := true, tries := 0 }) = M2 at *
      walk_at "go"
      refine w_fldM j2 hS2.t.op T_Clerk.cl T_Clerk.n_news fl_Clerk_news ?_
      walk_at "go"
      refine ⟨ty_listM j2 hS2.t.onw, ?_⟩
      walk_at "go"
      refine w_fldM j2 hS2.t.op T_Clerk.cl T_Clerk.n_client fl_Clerk_client ?_
      walk_at "go"
      refine w_fldM j2 hS2.t.op T_Clerk.cl T_Clerk.n_number fl_Clerk_number ?_
      walk_at "go"
      refine w_new j2 (by show 3 ≤ sizeLine; decide) fun t G3 H3 j3 e3 ht _ => ?_
      have hS3 := hS2.ex e3
      have hd : Dp K G3 (.ref t) (askedD x.client x.number) := .tup (st_of ht) (.cons (.str _) (.cons (.int _) (.cons (.int _) .nil)))
      walk_at "go"
      refine w_appendA j3 hS3.t.onw (by have := dpAll_len hC.d.nw; show x.nwv.length < 1000000; omega) fun H4 j4 => ?_
      walk_at "go"
      refine hN _ _ ⟨_, G3, x.nwv ++ [.ref t], j4, e3, ?_, rfl⟩
      unfold askX
      rw [if_neg (by rw [hb]; decide)]
      exact hS3.a_news hd hnl
/-! ### Clerk.act -/
abbrev s_Clerk_act : Stmt := inClass (top 31) 1
abbrev n_Clerk_act : List Str := ["self"]
theorem sc_Clerk_act : FnScope n_Clerk_act ["self"] (defScope s_Clerk_act) := ⟨rfl, rfl, rfl, by decide +kernel, rfl, by decide +kernel, by decide +kernel⟩
/-- does an attempt begin? -/
def needB (x : ClX) : Bool := decide (x.av = .non) && (x.busy || decide (x.number < x.dls.length))
def ActE (K : PySem.W.Frag) (C CR CC CA : Addr) (M : Hp) (x : ClX) (v : V) (M' G' : Hp) : Prop := ∃ x1 x2 ks q lv ro co, ChgE x x1 ∧ (if needB x = true then BegE K CA x1 x2 G' else x2 = x1) ∧ ks.Perm (x2.co.map (·.k)) ∧ ks.Pairwise (· ≤ ·) ∧ v = .ref q ∧ G' q = some (.lst lv) ∧
  DpAll K G' lv (sentL (cDat x2.co) (rDat x2.ro) ks) ∧ cDat co = sentC ks (cDat x2.co) ∧ rDat ro = sentR (cDat x2.co) (rDat x2.ro) ks ∧ ClS K C CR CC M x M' G' { x2 with ro := ro, co := co }
def sp_Clerk_act (K : PySem.W.Frag) (C CR CC CA : Addr) : Sp := Sg (α := ClX) (fun x vs M G => vs = [.ref x.p] ∧ ClAt K C CR CC M G x ∧ 0 < x.machines ∧ x.ro.length + 2 * x.co.length ≤ 58 ∧ (x.av = .non ∧ x.ac = [] ∨ ∃ a, x.av = .ref a) ∧ TkOk x ∧ 0 ≤ x.number ∧ (x.busy = true → x.number < x.dls.length) ∧ x.news.length < 1000) (fun x M _ v M' G' => ActE K C CR CC CA M x v M' G')
theorem ok_Clerk_act {P : Program} {w : World} {K : PySem.W.Frag} {mg : Str → Option Value} {base : Heap}
    {C_Clerk : Addr} (T_Clerk : Tx_Clerk K mg C_Clerk)
    {C_Route : Addr} (T_Route : Tx_Route K mg C_Route)
    {C_Call : Addr} (T_Call : Tx_Call K mg C_Call)
    {C_Attempt : Addr} (T_Attempt : Tx_Attempt K mg C_Attempt)
    {f : Addr} {fd : FuncData} (D : Dm K C_Clerk "act" "Clerk.act" s_Clerk_act ["self"] f fd)
    (b_sorted : mg "sorted" = none)
    (b_len : mg "len" = none)
    (c_Clerk_sent : CalM P w K mg base CX0 4 C_Clerk "sent" (sp_Clerk_sent K C_Clerk C_Route C_Call))
    (c_Clerk_begin : CalM P w K mg base CX0 5 C_Clerk "begin" (sp_Clerk_begin K C_Clerk C_Route C_Call C_Attempt))
    (c_Clerk_change_routes : CalM P w K mg base CX0 4 C_Clerk "change_routes" (sp_Clerk_change_routes K C_Clerk C_Route C_Call)) : CalM P w K mg base CX0 6 C_Clerk "act" (sp_Clerk_act K C_Clerk C_Route C_Call C_Attempt) := by
  refine D.ok sc_Clerk_act (fun vs H Q E h => ?_) fun cdv A outer s H vs Q E hr h => ?_
  · obtain ⟨x, M, G, j, ⟨rfl, _⟩, _⟩ := h; rfl
  obtain ⟨x, M, G, j, ⟨rfl, hC, hm, hl, hav, htk, hn0, hn1, hnl⟩, k⟩ := h
  refine ⟨_, (pss_cons (ps_expr (pe_calM0 c_Clerk_change_routes T_Clerk.cl hr (by first | decide | omega) (pv 0)))
(pss_cons (ps_if (PW.pt (pw_and (pt_cmp (pc_isN (pe_fld (pv 0) rfl))) (pw_and1 (PW.pt (pw_or (pt_val (pe_fld (pv 0) rfl)) (pw_or1 (pt_cmpR op_lt (pe_fld (pv 0) rfl) (pe_callB (call_uLenK (K := K) rfl) (by rfl) b_len PySem.boot_len (pa_cons (pe_fld (pv 0) rfl) pa_nil)) (nomark _))))))))
(pss_one (ps_expr (pe_calM0 c_Clerk_begin T_Clerk.cl hr (by first | decide | omega) (pv 0))))
pss_nil)
(pss_one (ps_ret (pe_calM c_Clerk_sent T_Clerk.cl hr (by first | decide | omega) (pv 0) (pa_cons (pe_callB (call_sortDC rfl) (by rfl) b_sorted bt_sorted (pa_cons (pe_fld (pv 0) rfl) pa_nil)) pa_nil)))))), ?_⟩
  walk_at "start"
  refine w_methM j hC.op (no_Clerk (by decide +kernel) (by decide +kernel) (by decide +kernel) (by decide +kernel) (by decide +kernel) (by decide +kernel) (by decide +kernel) (by decide +kernel) (by decide +kernel) (by decide +kernel) (by decide +kernel) (by decide +kernel)) ?_
  walk_at "go"
  refine w_sg (α := ClX) x j ⟨rfl, hC, hm, by omega⟩ fun v M1 G1 H1 j1 e1 ⟨ev, x1, hch, hS1⟩ => ?_
  subst ev
  have hro1 := hch.len
  obtain ⟨f1, f2, f3, f4, f5, f6, f7, f8, f9, f10⟩ : x1.p = x.p ∧ x1.co = x.co ∧ x1.av = x.av ∧ x1.ac = x.ac ∧ x1.number = x.number ∧ x1.busy = x.busy ∧ x1.dls = x.dls ∧ x1.token = x.token ∧ x1.news = x.news ∧ x1.machines = x.machines := by
    obtain ⟨ks, ro, _, _, _, rfl⟩ := hch
    exact ⟨rfl, rfl, rfl, rfl, rfl, rfl, rfl, rfl, rfl, rfl⟩
  have op1 : M1 x.p = some (clO C_Clerk x1) := f1 ▸ hS1.t.op
  walk_at "to"
  refine w_seqO (fun σ H => ∃ M2 G2 x2, J M2 G2 H ∧ Ex G G2 ∧ ClS K C_Clerk C_Route C_Call M x M2 G2 x2 ∧ (if needB x = true then BegE K C_Attempt x1 x2 G2 else x2 = x1) ∧ σ = [some (.ref x.p)]) ?_ fun N hN => ?_
  · rintro σ H ⟨M2, G2, x2, j2, e2, hS2, hb, rfl⟩
    have hx2 : x2.p = x.p ∧ x2.ro.length + x2.co.length ≤ 60 ∧ x2.co.length ≤ 60 := by
      split at hb
      · obtain ⟨g1, g2, g3⟩ := hb.fs
        rw [g1, g2, g3, f1, f2]
        exact ⟨rfl, by omega, by omega⟩
      · rw [hb, f1, f2]
        exact ⟨rfl, by omega, by omega⟩
    obtain ⟨ep, hl2, hc2⟩ := hx2
    have op2 : M2 x.p = some (clO C_Clerk x2) := ep ▸ hS2.t.op
    walk_at "go"
    refine w_methM j2 op2 (no_Clerk (by decide +kernel) (by decide +kernel) (by decide +kernel) (by decide +kernel) (by decide +kernel) (by decide +kernel) (by decide +kernel) (by decide +kernel) (by decide +kernel) (by decide +kernel) (by decide +kernel) (by decide +kernel)) ?_
    walk_at "go"
    refine w_fldM j2 op2 T_Clerk.cl T_Clerk.n_calls fl_Clerk_calls ?_
    walk_at "go"
    refine w_sortD (ks := x2.co.map (·.k)) j2 (.ofM hS2.t.ocd) (by unfold caK; rw [List.map_map, List.map_map]; rfl) (by rw [List.length_map]; omega) fun ks hp hs => ?_
    refine w_new j2 (Nat.zero_le _) fun q G3 H3 j3 e3 hq _ => ?_
    have hkl : ks.length = x2.co.length := by rw [hp.length_eq, List.length_map]
    walk_at "go"
    have hS3 := hS2.ex e3
    refine w_sg (α := SeP) ⟨x2, q, ks⟩ j3 ?_ fun v M4 G4 H4 j4 e4 hE => ?_
    · exact ⟨by rw [ep]; rfl, hS3.t, sl_of hq, fun t ht => hp.mem_iff.mp ht, by show ks.length ≤ 60; omega, by show x2.ro.length + ks.length ≤ 60; omega⟩
    · obtain ⟨q', lv, ro, co, ev, hq', hS4, hlv, hco, hro⟩ := hE
      refine k _ _ _ _ j4 (e2.trans (e3.trans e4)) ⟨x1, x2, ks, q', lv, ro, co, hch, ?_, hp, hs, ev, hq', hlv, hco, hro, hS3.then hS4⟩
      split at hb
      · rename_i c
        rw [if_pos c]
        exact hb.ex (e3.trans e4)
      · rename_i c
        rw [if_neg c]
        exact hb
  · walk_at "start"
    have bg : needB x = true → x.number < x.dls.length → x.ac = [] → sp_Clerk_begin K C_Clerk C_Route C_Call C_Attempt [V.ref x.p] H1 (fun _ H2 => N [some (.ref x.p)] H2) E0 := fun c lt ea => by
      refine w_sg (α := ClX) x1 j1 ?_ fun v M2 G2 H2 j2 e2 hE => ?_
      · exact ⟨by rw [f1], hS1.t, f4.trans ea, fun y hy => by rw [f8]; exact htk y (f2 ▸ hy), by rw [f5]; exact hn0, by rw [f5, f7]; exact lt, by rw [f2]; omega, by rw [f9]; exact hnl⟩
      · obtain ⟨ev, x2, hb, hS2⟩ := hE
        exact hN _ _ ⟨M2, G2, x2, j2, e1.trans e2, hS1.then hS2, by rw [if_pos c]; exact hb, rfl⟩
    have no : needB x = false → N [some (.ref x.p)] H1 := fun c => hN _ _ ⟨M1, G1, x1, j1, e1, hS1, by rw [if_neg (by rw [c]; decide)], rfl⟩
    refine w_fldM j1 op1 T_Clerk.cl T_Clerk.n_attempt fl_Clerk_attempt ?_
    rw [f3]
    rcases hav with ⟨ha, ea⟩ | ⟨a, ha⟩
    · rw [ha, show decide (V.non = V.non) = true from decide_eq_true rfl]
      walk_at "go"
      refine w_fldM j1 op1 T_Clerk.cl T_Clerk.n_busy fl_Clerk_busy ?_
      rw [f6]
      cases hb : x.busy with
      | true =>
        walk_at "go"
        refine w_methM j1 op1 (no_Clerk (by decide +kernel) (by decide +kernel) (by decide +kernel) (by decide +kernel) (by decide +kernel) (by decide +kernel) (by decide +kernel) (by decide +kernel) (by decide +kernel) (by decide +kernel) (by decide +kernel) (by decide +kernel)) ?_
        walk_at "go"
        exact bg (by unfold needB; rw [ha, hb]; rfl) (hn1 hb) ea
      | false =>
        walk_at "go"
        refine w_fldM j1 op1 T_Clerk.cl T_Clerk.n_number fl_Clerk_number ?_
        walk_at "go"
        refine w_fldM j1 op1 T_Clerk.cl T_Clerk.n_deals fl_Clerk_deals ?_
        walk_at "go"
        refine w_lenL j1 (sl_of hS1.t.d.da) ?_
        rw [List.length_map, f5, f7]
        walk_at "go"
        refine w_dec (fun c => ?_) (fun c => ?_)
        · walk_at "go"
          refine w_methM j1 op1 (no_Clerk (by decide +kernel) (by decide +kernel) (by decide +kernel) (by decide +kernel) (by decide +kernel) (by decide +kernel) (by decide +kernel) (by decide +kernel) (by decide +kernel) (by decide +kernel) (by decide +kernel) (by decide +kernel)) ?_
          walk_at "go"
          exact bg (by unfold needB; rw [ha, hb, decide_eq_true (show x.number < (x.dls.length : Int) from c)]; rfl) c ea
        · walk_at "go"
          exact no (by unfold needB; rw [ha, hb, decide_eq_false (show ¬ x.number < (x.dls.length : Int) from c)]; rfl)
    · rw [ha, show decide (V.ref a = V.non) = false from decide_eq_false fun z => nomatch z]
      walk_at "go"
      exact no (by unfold needB; rw [ha]; rfl)
/-! ### _law_all_equal -/
abbrev s_law_all_equal : Stmt := top 37
abbrev n_law_all_equal : List Str := ["actual", "due", "k"]
theorem sc_law_all_equal : FnScope n_law_all_equal ["actual", "due"] (defScope s_law_all_equal) := ⟨rfl, rfl, rfl, by decide +kernel, rfl, by decide +kernel, by decide +kernel⟩
theorem ok_law_all_equal {P : Program} {w : World} {K : PySem.W.Frag} {mg : Str → Option Value} {base : Heap} {f : Addr} {fd : FuncData} (D : Dn K mg "_law_all_equal" s_law_all_equal ["actual", "due"] f fd)
    (b_range : mg "range" = none) (b_len : mg "len" = none) (n : Nat) (c_law_equal : Cal P w K mg base CX0 (2 * n + 1) "_law_equal" (spEqW K n)) : Cal P w K mg base CX0 (2 * n + 2) "_law_all_equal" (spAllW K (n + 1)) := by
  refine D.ok sc_law_all_equal (fun vs H Q E h => ?_) fun cdv A outer s H vs Q E hr h => ?_
  · obtain ⟨x, M, G, j, ⟨rfl, _⟩, _⟩ := h; rfl
  obtain ⟨⟨a, b, ⟨xs, ys⟩, ⟨ds, es⟩⟩, M, G, j, ⟨rfl, ha, hb, hx, hy, hle, hl, hok⟩, k⟩ := h
  dsimp only at ha hb hx hy hle hl hok k
  refine ⟨_, (pss_cons (ps_for PassesOwn.never rfl (pi_range1 (by rfl) b_range (pa_cons (pe_callB (call_uLenK (K := K) rfl) (by rfl) b_len PySem.boot_len (pa_cons (pv 1) pa_nil)) pa_nil)) (pg_name (i := 2) sc_law_all_equal.nd rfl (Or.inl rfl))
(pss_one (ps_if (pt_not (pt_val (pe_cal c_law_equal hr (by first | decide | omega) (by rfl) (pa_cons (pe_ix (ix_uK (K := K) rfl) (pv 0) (pv 2) (fun _ _ => rfl)) (pa_cons (pe_ix (ix_uK (K := K) rfl) (pv 1) (pv 2) (fun _ _ => rfl)) pa_nil)))))
(pss_one (ps_ret pe_bl))
pss_nil)))
(pss_one (ps_ret pe_bl))), ?_⟩
  walk_at "start"
  refine w_lenB j hb ?_
  walk_at "go"
  have hyl := dpAll_len hy
  refine w_rng (fun i σ H => ∃ G1 z, J M G1 H ∧ Ex G G1 ∧ ds.take i = es.take i ∧ σ = [some (.ref a), some (.ref b), z]) ⟨G, _, j, Same.refl G, rfl, rfl⟩ ?_ ?_ (by omega) (by omega)
  · rintro i σ H hi ⟨G1, z, j, e, q, rfl⟩
    have hi : i < es.length := by rw [← hyl]; simpa using hi
    have hi2 : i < ds.length := by omega
    obtain ⟨x, hx1, hx2⟩ := dpAll_get hx (List.getElem?_eq_getElem hi2)
    obtain ⟨y, hy1, hy2⟩ := dpAll_get hy (List.getElem?_eq_getElem hi)
    walk_at "go"
    refine w_ixB j (ha.imp (sl_mono e) (st_mono e)) (atI_nat hx1) ?_
    walk_at "go"
    refine w_ixB j (hb.imp (sl_mono e) (st_mono e)) (atI_nat hy1) ?_
    walk_at "go"
    refine use_eqw j (dp_mono e hx2) (dp_mono e hy2) (hok _ (List.getElem_mem hi)) fun b G2 H2 eb j2 e2 => ?_
    walk_at "go"
    cases b with
    | true =>
      refine w_F ?_
      walk_at "go"
      have ed := eb.mp rfl
      exact ⟨G2, _, j2, e.trans e2, by rw [List.take_add_one, List.take_add_one, List.getElem?_eq_getElem hi, List.getElem?_eq_getElem hi2, ed, q], rfl⟩
    | false =>
      refine w_T ?_
      walk_at "go"
      exact k _ _ _ _ j2 (e.trans e2) ⟨false, rfl, ⟨(fun z => nomatch z), (fun z => by subst z; exact (Bool.false_ne_true (eb.mpr rfl)).elim)⟩, rfl⟩
  · rintro σ H ⟨G1, z, j, e, q, rfl⟩
    walk_at "go"
    rw [show ((ys.length : Int)).toNat = es.length by rw [hyl]; rfl] at q
    rw [List.take_length, ← hle, List.take_length] at q
    exact k _ _ _ _ j e ⟨true, rfl, ⟨fun _ => q, fun _ => rfl⟩, rfl⟩
/-! ### _law_equal -/
abbrev s_law_equal : Stmt := top 36
abbrev n_law_equal : List Str := ["actual", "due"]
theorem sc_law_equal : FnScope n_law_equal ["actual", "due"] (defScope s_law_equal) := ⟨rfl, rfl, rfl, by decide +kernel, rfl, by decide +kernel, by decide +kernel⟩
theorem ok_law_equal {P : Program} {w : World} {K : PySem.W.Frag} {mg : Str → Option Value} {base : Heap} {f : Addr} {fd : FuncData} (D : Dn K mg "_law_equal" s_law_equal ["actual", "due"] f fd)
    (b_isinstance : mg "isinstance" = none) (b_list : mg "list" = none) (b_tuple : mg "tuple" = none) (b_bool : mg "bool" = none) (b_int : mg "int" = none) (b_str : mg "str" = none) (b_len : mg "len" = none) (n : Nat)
    (c_law_all_equal : Cal P w K mg base CX0 (2 * n) "_law_all_equal" (spAllW K n)) : Cal P w K mg base CX0 (2 * n + 1) "_law_equal" (spEqW K n) := by
  refine D.ok sc_law_equal (fun vs H Q E h => ?_) fun cdv A outer s H vs Q E hr h => ?_
  · obtain ⟨x, M, G, j, ⟨rfl, _⟩, _⟩ := h; rfl
  obtain ⟨⟨x, y, d, e⟩, M, G, j, ⟨rfl, hx, hy, hok⟩, k⟩ := h
  dsimp only at hx hy hok k
  refine ⟨_, (pss_cons (ps_if (pt_val (pe_callB (call_isiK' (K := K) rfl) (by rfl) b_isinstance bt_isinstance (pa_cons (pv 1) (pa_cons (pe_bltn (v := .ty "list") (by rfl) b_list bt_list rfl) pa_nil))))
(pss_cons (ps_if (PW.pt (pw_or (pt_not (pt_val (pe_callB (call_isiK' (K := K) rfl) (by rfl) b_isinstance bt_isinstance (pa_cons (pv 0) (pa_cons (pe_bltn (v := .ty "list") (by rfl) b_list bt_list rfl) pa_nil))))) (pw_or1 (pt_cmpR (op_uNeK (K := K) rfl hr) (pe_callB (call_uLenK (K := K) rfl) (by rfl) b_len PySem.boot_len (pa_cons (pv 0) pa_nil)) (pe_callB (call_uLenK (K := K) rfl) (by rfl) b_len PySem.boot_len (pa_cons (pv 1) pa_nil)) (nomark _)))))
(pss_one (ps_ret pe_bl))
pss_nil)
(pss_one (ps_ret (pe_cal c_law_all_equal hr (by first | decide | omega) (by rfl) (pa_cons (pv 0) (pa_cons (pv 1) pa_nil))))))
pss_nil)
(pss_cons (ps_if (pt_val (pe_callB (call_isiK' (K := K) rfl) (by rfl) b_isinstance bt_isinstance (pa_cons (pv 1) (pa_cons (pe_bltn (v := .ty "tuple") (by rfl) b_tuple bt_tuple rfl) pa_nil))))
(pss_cons (ps_if (PW.pt (pw_or (pt_not (pt_val (pe_callB (call_isiK' (K := K) rfl) (by rfl) b_isinstance bt_isinstance (pa_cons (pv 0) (pa_cons (pe_bltn (v := .ty "tuple") (by rfl) b_tuple bt_tuple rfl) pa_nil))))) (pw_or1 (pt_cmpR (op_uNeK (K := K) rfl hr) (pe_callB (call_uLenK (K := K) rfl) (by rfl) b_len PySem.boot_len (pa_cons (pv 0) pa_nil)) (pe_callB (call_uLenK (K := K) rfl) (by rfl) b_len PySem.boot_len (pa_cons (pv 1) pa_nil)) (nomark _)))))
(pss_one (ps_ret pe_bl))
pss_nil)
(pss_one (ps_ret (pe_cal c_law_all_equal hr (by first | decide | omega) (by rfl) (pa_cons (pv 0) (pa_cons (pv 1) pa_nil))))))
pss_nil)
(pss_cons (ps_if (pt_val (pe_callB (call_isiK' (K := K) rfl) (by rfl) b_isinstance bt_isinstance (pa_cons (pv 1) (pa_cons (pe_bltn (v := .ty "bool") (by rfl) b_bool bt_bool rfl) pa_nil))))
(pss_one (ps_ret (pe_and (pe_callB (call_isiK' (K := K) rfl) (by rfl) b_isinstance bt_isinstance (pa_cons (pv 0) (pa_cons (pe_bltn (v := .ty "bool") (by rfl) b_bool bt_bool rfl) pa_nil))) (pe_one (pe_cmpR (op_uEqK (K := K) rfl hr) (pv 0) (pv 1) (nomark _))))))
pss_nil)
(pss_cons (ps_if (pt_val (pe_callB (call_isiK' (K := K) rfl) (by rfl) b_isinstance bt_isinstance (pa_cons (pv 1) (pa_cons (pe_bltn (v := .ty "int") (by rfl) b_int bt_int rfl) pa_nil))))
(pss_one (ps_ret (pe_and (pe_callB (call_isiK' (K := K) rfl) (by rfl) b_isinstance bt_isinstance (pa_cons (pv 0) (pa_cons (pe_bltn (v := .ty "int") (by rfl) b_int bt_int rfl) pa_nil))) (pe_and (pe_not (pe_callB (call_isiK' (K := K) rfl) (by rfl) b_isinstance bt_isinstance (pa_cons (pv 0) (pa_cons (pe_bltn (v := .ty "bool") (by rfl) b_bool bt_bool rfl) pa_nil)))) (pe_one (pe_cmpR (op_uEqK (K := K) rfl hr) (pv 0) (pv 1) (nomark _)))))))
pss_nil)
(pss_cons (ps_if (pt_val (pe_callB (call_isiK' (K := K) rfl) (by rfl) b_isinstance bt_isinstance (pa_cons (pv 1) (pa_cons (pe_bltn (v := .ty "str") (by rfl) b_str bt_str rfl) pa_nil))))
(pss_one (ps_ret (pe_and (pe_callB (call_isiK' (K := K) rfl) (by rfl) b_isinstance bt_isinstance (pa_cons (pv 0) (pa_cons (pe_bltn (v := .ty "str") (by rfl) b_str bt_str rfl) pa_nil))) (pe_one (pe_cmpR (op_uEqK (K := K) rfl hr) (pv 0) (pv 1) (nomark _))))))
pss_nil)
(pss_one (ps_ret (pe_cmp (pc_isN (pv 0)))))))))), ?_⟩
  walk_at "start"
  have fin : d = e → Q (.bl true) H := fun z => k _ _ _ _ j (Same.refl G) ⟨true, rfl, ⟨fun _ => z, fun _ => rfl⟩, rfl⟩
  have nof : d ≠ e → Q (.bl false) H := fun z => k _ _ _ _ j (Same.refl G) ⟨false, rfl, ⟨(fun y => nomatch y), (fun y => (z y).elim)⟩, rfl⟩
  have bof : ∀ c : Prop, [Decidable c] → (c ↔ d = e) → Q (.bl (decide c)) H := fun c _ z => k _ _ _ _ j (Same.refl G) ⟨_, rfl, by rw [decide_eq_true_iff]; exact z, rfl⟩
  cases hy with
  | non =>
    cases hx with
    | non => walk_at "gx"; exact fin rfl
    | bl b => walk_at "gx"; exact nof (fun z => nomatch z)
    | int b => walk_at "gx"; exact nof (fun z => nomatch z)
    | str b => walk_at "gx"; exact nof (fun z => nomatch z)
    | lst ha hxl => walk_at "gx"; exact nof (fun z => nomatch z)
    | tup ha hxl => walk_at "gx"; exact nof (fun z => nomatch z)
  | bl b =>
    cases hx with
    | non => walk_at "gx"; exact nof (fun z => nomatch z)
    | bl b2 =>
      walk_at "gx"
      refine w_eqV rfl rfl ?_
      exact bof _ ⟨(fun z => by cases z; rfl), (fun z => by cases z; rfl)⟩
    | int b => walk_at "gx"; exact nof (fun z => nomatch z)
    | str b => walk_at "gx"; exact nof (fun z => nomatch z)
    | lst ha hxl => walk_at "gx"; refine w_isi false (ty_L (sl_mono j.g ha)) (by rfl) ?_; walk_at "gx"; exact nof (fun z => nomatch z)
    | tup ha hxl => walk_at "gx"; refine w_isi false (ty_T (st_mono j.g ha)) (by rfl) ?_; walk_at "gx"; exact nof (fun z => nomatch z)
  | int b =>
    cases hx with
    | non => walk_at "gx"; exact nof (fun z => nomatch z)
    | bl b2 => walk_at "gx"; exact nof (fun z => nomatch z)
    | int b2 =>
      walk_at "gx"
      exact bof (b2 = b) ⟨(fun z => by rw [z]), (fun z => by cases z; rfl)⟩
    | str b => walk_at "gx"; exact nof (fun z => nomatch z)
    | lst ha hxl => walk_at "gx"; refine w_isi false (ty_L (sl_mono j.g ha)) (by rfl) ?_; walk_at "gx"; exact nof (fun z => nomatch z)
    | tup ha hxl => walk_at "gx"; refine w_isi false (ty_T (st_mono j.g ha)) (by rfl) ?_; walk_at "gx"; exact nof (fun z => nomatch z)
  | str b =>
    cases hx with
    | non => walk_at "gx"; exact nof (fun z => nomatch z)
    | bl b2 => walk_at "gx"; exact nof (fun z => nomatch z)
    | int b2 => walk_at "gx"; exact nof (fun z => nomatch z)
    | str b2 =>
      walk_at "gx"
      refine w_eqS rfl ?_
      exact bof (b2 = b) ⟨(fun z => by rw [z]), (fun z => by cases z; rfl)⟩
    | lst ha hxl => walk_at "gx"; refine w_isi false (ty_L (sl_mono j.g ha)) (by rfl) ?_; walk_at "gx"; exact nof (fun z => nomatch z)
    | tup ha hxl => walk_at "gx"; refine w_isi false (ty_T (st_mono j.g ha)) (by rfl) ?_; walk_at "gx"; exact nof (fun z => nomatch z)
  | @lst b ys es hb hyl =>
    cases n with
    | zero => cases hok
    | succ n =>
    walk_at "gx"
    refine w_isi true (ty_L (sl_mono j.g hb)) (by rfl) ?_
    walk_at "gx"
    cases hx with
    | non => walk_at "gx"; exact nof (fun z => nomatch z)
    | bl b2 => walk_at "gx"; exact nof (fun z => nomatch z)
    | int b2 => walk_at "gx"; exact nof (fun z => nomatch z)
    | str b2 => walk_at "gx"; exact nof (fun z => nomatch z)
    | tup ha hxl => refine w_isi false (ty_T (st_mono j.g ha)) (by rfl) ?_; walk_at "gx"; exact nof (fun z => nomatch z)
    | @lst a xs ds ha hxl =>
      refine w_isi true (ty_L (sl_mono j.g ha)) (by rfl) ?_
      walk_at "gx"
      refine w_lenL j ha ?_
      walk_at "gx"
      refine w_lenL j hb ?_
      walk_at "gx"
      rw [dpAll_len hxl, dpAll_len hyl]
      by_cases hle : ds.length = es.length
      · rw [hle, decide_eq_true rfl]
        refine w_F ?_
        walk_at "gx"
        exact use_allw j (.inl ha) (.inl hb) hxl hyl hle hok.1 hok.2 fun b G' H' eb j' e => k _ _ _ _ j' e ⟨b, rfl, eb.trans ⟨(fun z => by rw [z]), (fun z => by cases z; rfl)⟩, rfl⟩
      · rw [decide_eq_false (fun z : (ds.length : Int) = es.length => hle (by omega))]
        refine w_T ?_
        walk_at "gx"
        exact nof (fun z => hle (by cases z; rfl))
  | @tup b ys es hb hyl =>
    cases n with
    | zero => cases hok
    | succ n =>
    walk_at "gx"
    refine w_isi false (ty_T (st_mono j.g hb)) (by rfl) ?_
    walk_at "gx"
    refine w_isi true (ty_T (st_mono j.g hb)) (by rfl) ?_
    walk_at "gx"
    cases hx with
    | non => walk_at "gx"; exact nof (fun z => nomatch z)
    | bl b2 => walk_at "gx"; exact nof (fun z => nomatch z)
    | int b2 => walk_at "gx"; exact nof (fun z => nomatch z)
    | str b2 => walk_at "gx"; exact nof (fun z => nomatch z)
    | lst ha hxl => refine w_isi false (ty_L (sl_mono j.g ha)) (by rfl) ?_; walk_at "gx"; exact nof (fun z => nomatch z)
    | @tup a xs ds ha hxl =>
      refine w_isi true (ty_T (st_mono j.g ha)) (by rfl) ?_
      walk_at "gx"
      refine w_lenT j ha ?_
      walk_at "gx"
      refine w_lenT j hb ?_
      walk_at "gx"
      rw [dpAll_len hxl, dpAll_len hyl]
      by_cases hle : ds.length = es.length
      · rw [hle, decide_eq_true rfl]
        refine w_F ?_
        walk_at "gx"
        exact use_allw j (.inr ha) (.inr hb) hxl hyl hle hok.1 hok.2 fun b G' H' eb j' e => k _ _ _ _ j' e ⟨b, rfl, eb.trans ⟨(fun z => by rw [z]), (fun z => by cases z; rfl)⟩, rfl⟩
      · rw [decide_eq_false (fun z : (ds.length : Int) = es.length => hle (by omega))]
        refine w_T ?_
        walk_at "gx"
        exact nof (fun z => hle (by cases z; rfl))
/-- both, at every depth -/
theorem ok_equal {P : Program} {w : World} {K : PySem.W.Frag} {mg : Str → Option Value} {base : Heap} {f g : Addr} {fd gd : FuncData} (D : Dn K mg "_law_equal" s_law_equal ["actual", "due"] f fd) (D2 : Dn K mg "_law_all_equal" s_law_all_equal ["actual", "due"] g gd)
    (b_isinstance : mg "isinstance" = none) (b_list : mg "list" = none) (b_tuple : mg "tuple" = none) (b_bool : mg "bool" = none) (b_int : mg "int" = none) (b_str : mg "str" = none) (b_len : mg "len" = none) (b_range : mg "range" = none) (n : Nat) :
    Cal P w K mg base CX0 (2 * n + 1) "_law_equal" (spEqW K n) := by
  induction n with
  | zero => exact ok_law_equal D b_isinstance b_list b_tuple b_bool b_int b_str b_len 0 (D2.cal ⟨fun _ _ _ _ h => h.elim, fun _ _ _ _ _ _ _ _ _ _ _ _ _ h => h.elim⟩)
  | succ n ih => exact ok_law_equal D b_isinstance b_list b_tuple b_bool b_int b_str b_len (n + 1) (ok_law_all_equal D2 b_range b_len n ih)
/-! ### clerks: a hint is heard -/
def hrC (k : Int) (h : Option Int) (c : CaD) : CaD := if c.k = k then { c with hint := h } else c
def heardC (l : List CaD) (k : Int) (h : Option Int) : List CaD := l.map (hrC k h)
theorem heardC_no {l : List CaD} {k : Int} {h : Option Int} (n : k ∉ l.map (·.k)) : heardC l k h = l := by
  unfold heardC
  rw [List.map_congr_left (g := id), List.map_id]
  intro c hc
  refine if_neg fun w => n ?_
  have w : c.k = k := w
  rw [← w]; exact List.mem_map_of_mem hc
theorem cDat_hint {co : List CaX} {i : Nat} {h : Option Int} {y : CaX} (n : (co.map (·.k)).Nodup) (hy : co[i]? = some y) : cDat (co.set i { y with hint := h }) = heardC (cDat co) y.k h := by
  induction co generalizing i with
  | nil => simp at hy
  | cons z r ih =>
    rw [List.map_cons, List.nodup_cons] at n
    cases i with
    | zero =>
      obtain rfl := Option.some.inj hy
      show (⟨z.k, z.g, z.cmd, h⟩ : CaD) :: cDat r = hrC z.k h ⟨z.k, z.g, z.cmd, z.hint⟩ :: heardC (cDat r) z.k h
      rw [heardC_no (by rw [cDat_keys]; exact n.1)]
      refine List.cons_eq_cons.mpr ⟨?_, rfl⟩
      unfold hrC
      rw [if_pos rfl]
    | succ i =>
      rw [List.getElem?_cons_succ] at hy
      show (⟨z.k, z.g, z.cmd, z.hint⟩ : CaD) :: cDat (r.set i _) = hrC y.k h ⟨z.k, z.g, z.cmd, z.hint⟩ :: heardC (cDat r) y.k h
      rw [ih n.2 hy]
      refine List.cons_eq_cons.mpr ⟨?_, rfl⟩
      refine (if_neg fun w => n.1 ?_).symm
      have w : z.k = y.k := w
      rw [w]; exact List.mem_map_of_mem (List.mem_of_getElem? hy)
/-! ### Clerk.hear -/
abbrev s_Clerk_hear : Stmt := inClass (top 31) 2
abbrev n_Clerk_hear : List Str := ["self", "letter", "word", "token", "content", "call"]
theorem sc_Clerk_hear : FnScope n_Clerk_hear ["self", "letter"] (defScope s_Clerk_hear) := ⟨rfl, rfl, rfl, by decide +kernel, rfl, by decide +kernel, by decide +kernel⟩
structure HrP where
  x : ClX
  t : Addr
  w : Str
  k : Int
  c : V
  h : Option Int
def sp_Clerk_hear (K : PySem.W.Frag) (C CR CC : Addr) : Sp := Sg (α := HrP) (fun x vs M G => vs = [.ref x.x.p, .ref x.t] ∧ ClAt K C CR CC M G x.x ∧ SqT K G x.t [.str x.w, .int x.k, x.c] ∧ (x.k ∈ x.x.co.map (·.k) → x.w = "lost" ∧ x.c = oV x.h)) (fun x M _ v M' G' => ∃ q co, v = .ref q ∧ G' q = some (.lst []) ∧ cDat co = heardC (cDat x.x.co) x.k x.h ∧ ClS K C CR CC M x.x M' G' { x.x with co := co })
theorem ok_Clerk_hear {P : Program} {w : World} {K : PySem.W.Frag} {mg : Str → Option Value} {base : Heap}
    {C_Call : Addr} (T_Call : Tx_Call K mg C_Call)
    {C_Clerk : Addr} (T_Clerk : Tx_Clerk K mg C_Clerk)
    {C_Route : Addr} (T_Route : Tx_Route K mg C_Route)
    {f : Addr} {fd : FuncData} (D : Dm K C_Clerk "hear" "Clerk.hear" s_Clerk_hear ["self", "letter"] f fd) : CalM P w K mg base CX0 1 C_Clerk "hear" (sp_Clerk_hear K C_Clerk C_Route C_Call) := by
  refine D.ok sc_Clerk_hear (fun vs H Q E h => ?_) fun cdv A outer s H vs Q E hr h => ?_
  · obtain ⟨x, M, G, j, ⟨rfl, _⟩, _⟩ := h; rfl
  obtain ⟨⟨x, t, w, tk, c, hh⟩, M, G, j, ⟨rfl, hC, ht, hw⟩, k⟩ := h
  dsimp only at hC ht hw k
  refine ⟨_, (pss_cons (ps_asg (pv 1) (pg_tup rfl (pgs_cons (pg_name (i := 2) sc_Clerk_hear.nd rfl (Or.inl rfl)) (pgs_cons (pg_name (i := 3) sc_Clerk_hear.nd rfl (Or.inl rfl)) (pgs_cons (pg_name (i := 4) sc_Clerk_hear.nd rfl (Or.inl rfl)) pgs_nil)))))
(pss_cons (ps_if (pt_cmp (pc_dnotin (hu_of hr) (pv 3) (pe_fld (pv 0) rfl)))
(pss_one (ps_ret (pe_lst pa_nil)))
pss_nil)
(pss_cons (ps_set (i := 5) sc_Clerk_hear.nd rfl (Or.inl rfl) (pe_dget (hu_of hr) (pe_fld (pv 0) rfl) (pv 3) (fun _ _ => rfl)))
(pss_cons (ps_if (pt_cmpR (op_uEqK (K := K) rfl hr) (pv 2) pe_str (nomark _))
(pss_cons (ps_fld (pv 5) (pv 4) rfl)
(pss_one (ps_ret (pe_lst pa_nil))))
pss_nil)
(pss_cons ps_no
(pss_one ps_no)))))), ?_⟩
  walk_at "start"
  refine w_gTup j ht rfl (w_gCons (w_gName (w_gCons (w_gName (w_gCons (w_gName (w_gNil ?_)))))))
  walk_at "go"
  refine w_fldM j hC.op T_Clerk.cl T_Clerk.n_calls fl_Clerk_calls ?_
  walk_at "go"
  refine w_notinX j (.ofM hC.ocd) ?_
  by_cases q : tk ∈ x.co.map (·.k)
  · obtain ⟨rfl, rfl⟩ := hw q
    obtain ⟨y, hy, hyk⟩ := List.mem_map.mp q
    obtain ⟨i, hi⟩ := List.getElem?_of_mem hy
    subst hyk
    have e1 := caK_some hC.d.cn hi
    rw [e1, show (!(some (V.ref y.q) : Option V).isSome) = false from rfl]
    walk_at "go"
    refine w_fldM j hC.op T_Clerk.cl T_Clerk.n_calls fl_Clerk_calls ?_
    walk_at "go"
    refine w_getX j (.ofM hC.ocd) e1 ?_
    walk_at "go"
    refine w_setX j (hC.oco hi) T_Call.cl T_Call.n_hint (by show 4 < 1000; decide) fun H1 j1 => ?_
    rw [sf_Call_hint] at j1
    have hS1 : ClS K C_Clerk C_Route C_Call M x (upd M y.q (caO C_Call { y with hint := hh })) G { x with co := x.co.set i { y with hint := hh } } := hC.s.h_co hi hh
    have j1 : J (upd M y.q (caO C_Call { y with hint := hh })) G H1 := j1
    walk_at "go"
    refine w_new j1 (Nat.zero_le _) fun a G2 H2 j2 e2 ha _ => ?_
    exact k _ _ _ _ j2 e2 ⟨a, _, rfl, ha, cDat_hint hC.d.cn hi, hS1.ex e2⟩
  · rw [caK_none.mpr q, show (!(none : Option V).isSome) = true from rfl]
    walk_at "go"
    refine w_new j (Nat.zero_le _) fun a G1 H1 j1 e1 ha _ => ?_
    exact k _ _ _ _ j1 e1 ⟨a, x.co, rfl, ha, (heardC_no (by rw [cDat_keys]; exact q)).symm, hC.s.ex e1⟩
/-! ### _law_hear -/
abbrev s_law_hear : Stmt := top 39
abbrev n_law_hear : List Str := ["draws", "clerk", "host", "many", "hint", "pick", "named"]
theorem sc_law_hear : FnScope n_law_hear ["draws", "clerk", "host", "many", "hint"] (defScope s_law_hear) := ⟨rfl, rfl, rfl, by decide +kernel, rfl, by decide +kernel, by decide +kernel⟩
structure LhP where
  x : ClX
  p : Addr
  host : Int
  many : Int
  g : Int
  cmd : PyData
  h : Option Int
def sp_law_hear (K : PySem.W.Frag) (C CR CC : Addr) : Sp := Sg (α := LhP) (fun x vs M G => vs = [.ref x.p, .ref x.x.p, .int x.host, .int x.many, oV x.h] ∧ CdA K C CR CC M G x.x x.p ∧ 0 < x.many ∧ cDat x.x.co = [⟨1, x.g, x.cmd, x.h⟩]) (fun x _ _ v M' G' => ∃ q e h co, v = .ref q ∧ SqL K G' q [.ref e, oV h] ∧ G' e = some (.lst []) ∧ cDat co = [⟨1, x.g, x.cmd, h⟩] ∧ CdA K C CR CC M' G' { x.x with co := co } x.p)
theorem ok_law_hear {P : Program} {w : World} {K : PySem.W.Frag} {mg : Str → Option Value} {base : Heap}
    {C_Clerk : Addr} (T_Clerk : Tx_Clerk K mg C_Clerk)
    {C_Route : Addr} (T_Route : Tx_Route K mg C_Route)
    {C_Call : Addr} (T_Call : Tx_Call K mg C_Call)
    {f : Addr} {fd : FuncData} (D : Dn K mg "_law_hear" s_law_hear ["draws", "clerk", "host", "many", "hint"] f fd)
    (c_Clerk_hear : CalM P w K mg base CX0 1 C_Clerk "hear" (sp_Clerk_hear K C_Clerk C_Route C_Call))
    (c_law_draw : Cal P w K mg base CX0 2 "_law_draw" (sp_law_draw K)) : Cal P w K mg base CX0 3 "_law_hear" (sp_law_hear K C_Clerk C_Route C_Call) := by
  refine D.ok sc_law_hear (fun vs H Q E h => ?_) fun cdv A outer s H vs Q E hr h => ?_
  · obtain ⟨x, M, G, j, ⟨rfl, _⟩, _⟩ := h; rfl
  obtain ⟨⟨x, p, host, many, g, cmd, hh⟩, M, G, j, ⟨rfl, hA, hm, hc⟩, k⟩ := h
  dsimp only at hA hm hc k
  refine ⟨_, (pss_cons (ps_set (i := 5) sc_law_hear.nd rfl (Or.inl rfl) (pe_op op_mod (pe_cal c_law_draw hr (by first | decide | omega) (by rfl) (pa_cons (pv 0) pa_nil)) pe_int))
(pss_cons (ps_if (pt_cmpR (op_uEqK (K := K) rfl hr) (pv 5) pe_int (nomark _))
(pss_cons (ps_set (i := 6) sc_law_hear.nd rfl (Or.inl rfl) (pe_op op_mod (pe_cal c_law_draw hr (by first | decide | omega) (by rfl) (pa_cons (pv 0) pa_nil)) (pv 3)))
(pss_one (ps_ret (pe_lst (pa_cons (pe_calM c_Clerk_hear T_Clerk.cl hr (by first | decide | omega) (pv 1) (pa_cons (pe_tup (pa_cons pe_str (pa_cons pe_int (pa_cons (pv 6) pa_nil)))) pa_nil)) (pa_cons (pv 6) pa_nil))))))
pss_nil)
(pss_cons (ps_if (pt_cmpR (op_uEqK (K := K) rfl hr) (pv 5) pe_int (nomark _))
(pss_one (ps_ret (pe_lst (pa_cons (pe_calM c_Clerk_hear T_Clerk.cl hr (by first | decide | omega) (pv 1) (pa_cons (pe_tup (pa_cons pe_str (pa_cons pe_int (pa_cons pe_non pa_nil)))) pa_nil)) (pa_cons pe_non pa_nil)))))
pss_nil)
(pss_cons (ps_if (pt_cmpR (op_uEqK (K := K) rfl hr) (pv 5) pe_int (nomark _))
(pss_one (ps_ret (pe_lst (pa_cons (pe_calM c_Clerk_hear T_Clerk.cl hr (by first | decide | omega) (pv 1) (pa_cons (pe_tup (pa_cons pe_str (pa_cons (pe_op (op_uAddK (K := K) rfl) pe_int (pe_cal c_law_draw hr (by first | decide | omega) (by rfl) (pa_cons (pv 0) pa_nil))) (pa_cons (pe_tup (pa_cons pe_str (pa_cons pe_int pa_nil))) pa_nil)))) pa_nil)) (pa_cons (pv 4) pa_nil)))))
pss_nil)
(pss_one (ps_ret (pe_lst (pa_cons (pe_calM c_Clerk_hear T_Clerk.cl hr (by first | decide | omega) (pv 1) (pa_cons (pe_tup (pa_cons pe_str (pa_cons pe_int (pa_cons pe_int pa_nil)))) pa_nil)) (pa_cons (pv 4) pa_nil))))))))), ?_⟩
  walk_at "start"
  refine use_draw j hA.dr fun n1 M1 G1 H1 _ _ j1 e1 d1 a1 => ?_
  have hA1 := hA.draw e1 d1 a1
  walk_at "go"
  have go1 : ∀ {M2 G2 H2 : Hp} {t : Addr} {w : Str} {kk : Int} {c : V} {h2 : Option Int} {R : VK}, J M2 G2 H2 → Ex G G2 → CdA K C_Clerk C_Route C_Call M2 G2 x p → SqT K G2 t [.str w, .int kk, c] → (kk = 1 ∧ w = "lost" ∧ c = oV h2 ∨ kk ≠ 1 ∧ h2 = hh) → (∀ v H3, NewO (.lst [v, oV h2]) 2 H3 Q → R v H3) → sp_Clerk_hear K C_Clerk C_Route C_Call [V.ref x.p, V.ref t] H2 R E0 := by
    intro M2 G2 H2 t w kk c h2 R j2 e2 hA2 ht hw hR
    have hks : x.co.map (·.k) = [1] := by rw [← cDat_keys, hc]; rfl
    refine w_sg (α := HrP) ⟨x, t, w, kk, c, h2⟩ j2 ?_ fun v M3 G3 H3 j3 e3 hE => ?_
    · refine ⟨rfl, hA2.cl, ht, fun m => ?_⟩
      rw [hks] at m
      rcases hw with ⟨_, h1, h2⟩ | ⟨h1, _⟩
      · exact ⟨h1, h2⟩
      · exact absurd (List.mem_singleton.mp m) h1
    · obtain ⟨e, co, ev, he, hco, hS⟩ := hE
      have hA3 := hA2.step e3 hS
      refine hR _ _ (w_new j3 (by show 2 ≤ sizeLine; decide) fun q G4 H4 j4 e4 hq _ => ?_)
      refine k _ _ _ _ j4 (e2.trans (e3.trans e4)) ⟨q, e, h2, co, rfl, ?_, e4 _ _ he, ?_, hA3.ex e4⟩
      · rw [← ev]; exact sl_of hq
      · dsimp only at hco
        rw [hco, hc]
        rcases hw with ⟨h1, _⟩ | ⟨h1, h2⟩
        · rw [h1]; rfl
        · rw [h2]
          unfold heardC
          rw [List.map_cons, List.map_nil]
          unfold hrC
          rw [if_neg fun z => h1 z.symm]
  refine w_dec (fun c => ?_) (fun c => ?_)
  · walk_at "go"
    refine use_draw j1 hA1.dr fun n2 M2 G2 H2 _ _ j2 e2 d2 a2 => ?_
    have hA2 := hA1.draw e2 d2 a2
    walk_at "go"
    refine w_I hm ?_
    walk_at "go"
    refine w_methM j2 hA2.cl.op (no_Clerk (by decide +kernel) (by decide +kernel) (by decide +kernel) (by decide +kernel) (by decide +kernel) (by decide +kernel) (by decide +kernel) (by decide +kernel) (by decide +kernel) (by decide +kernel) (by decide +kernel) (by decide +kernel)) ?_
    walk_at "go"
    refine w_new j2 (by show 3 ≤ sizeLine; decide) fun t G3 H3 j3 e3 ht _ => ?_
    walk_at "go"
    refine go1 (h2 := some (n2 % many)) j3 (e1.trans (e2.trans e3)) (hA2.ex e3) (st_of ht) (.inl ⟨rfl, rfl, rfl⟩) fun v H4 hN => ?_
    walk_at "go"
    exact hN
  · walk_at "go"
    refine w_dec (fun c => ?_) (fun c => ?_)
    · walk_at "go"
      refine w_methM j1 hA1.cl.op (no_Clerk (by decide +kernel) (by decide +kernel) (by decide +kernel) (by decide +kernel) (by decide +kernel) (by decide +kernel) (by decide +kernel) (by decide +kernel) (by decide +kernel) (by decide +kernel) (by decide +kernel) (by decide +kernel)) ?_
      walk_at "go"
      refine w_new j1 (by show 3 ≤ sizeLine; decide) fun t G3 H3 j3 e3 ht _ => ?_
      walk_at "go"
      refine go1 (h2 := none) j3 (e1.trans e3) (hA1.ex e3) (st_of ht) (.inl ⟨rfl, rfl, rfl⟩) fun v H4 hN => ?_
      walk_at "go"
      exact hN
    · walk_at "go"
      refine w_dec (fun c => ?_) (fun c => ?_)
      · walk_at "go"
        refine w_methM j1 hA1.cl.op (no_Clerk (by decide +kernel) (by decide +kernel) (by decide +kernel) (by decide +kernel) (by decide +kernel) (by decide +kernel) (by decide +kernel) (by decide +kernel) (by decide +kernel) (by decide +kernel) (by decide +kernel) (by decide +kernel)) ?_
        walk_at "go"
        refine use_draw j1 hA1.dr fun n2 M2 G2 H2 z2 _ j2 e2 d2 a2 => ?_
        have hA2 := hA1.draw e2 d2 a2
        walk_at "go"
        refine w_new j2 (by show 2 ≤ sizeLine; decide) fun t0 G3 H3 j3 e3 ht0 _ => ?_
        walk_at "go"
        refine w_new j3 (by show 3 ≤ sizeLine; decide) fun t G4 H4 j4 e4 ht _ => ?_
        walk_at "go"
        refine go1 (h2 := hh) j4 (e1.trans (e2.trans (e3.trans e4))) ((hA2.ex e3).ex e4) (st_of ht) (.inr ⟨by omega, rfl⟩) fun v H5 hN => ?_
        walk_at "go"
        exact hN
      · walk_at "go"
        refine w_methM j1 hA1.cl.op (no_Clerk (by decide +kernel) (by decide +kernel) (by decide +kernel) (by decide +kernel) (by decide +kernel) (by decide +kernel) (by decide +kernel) (by decide +kernel) (by decide +kernel) (by decide +kernel) (by decide +kernel) (by decide +kernel)) ?_
        walk_at "go"
        refine w_new j1 (by show 3 ≤ sizeLine; decide) fun t G3 H3 j3 e3 ht _ => ?_
        walk_at "go"
        refine go1 (h2 := hh) j3 (e1.trans e3) (hA1.ex e3) (st_of ht) (.inr ⟨by decide, rfl⟩) fun v H4 hN => ?_
        walk_at "go"
        exact hN
/-! ### Clerk.events -/
abbrev s_Clerk_events : Stmt := inClass (top 31) 4
abbrev n_Clerk_events : List Str := ["self", "news"]
theorem sc_Clerk_events : FnScope n_Clerk_events ["self"] (defScope s_Clerk_events) := ⟨rfl, rfl, rfl, by decide +kernel, rfl, by decide +kernel, by decide +kernel⟩
def sp_Clerk_events (K : PySem.W.Frag) (C CR CC : Addr) : Sp := Sg (α := ClX) (fun x vs M G => vs = [.ref x.p] ∧ ClAt K C CR CC M G x) (fun x M _ v M' G' => ∃ q vs nw, v = .ref q ∧ G' q = some (.lst vs) ∧ DpAll K G' vs x.news ∧ ClS K C CR CC M x M' G' { x with nw := nw, nwv := [], news := [] })
theorem ok_Clerk_events {P : Program} {w : World} {K : PySem.W.Frag} {mg : Str → Option Value} {base : Heap}
    {C_Clerk : Addr} (T_Clerk : Tx_Clerk K mg C_Clerk)
    {C_Route : Addr} (T_Route : Tx_Route K mg C_Route)
    {C_Call : Addr} (T_Call : Tx_Call K mg C_Call)
    {f : Addr} {fd : FuncData} (D : Dm K C_Clerk "events" "Clerk.events" s_Clerk_events ["self"] f fd) : CalM P w K mg base CX0 1 C_Clerk "events" (sp_Clerk_events K C_Clerk C_Route C_Call) := by
  refine D.ok sc_Clerk_events (fun vs H Q E h => ?_) fun cdv A outer s H vs Q E hr h => ?_
  · obtain ⟨x, M, G, j, ⟨rfl, _⟩, _⟩ := h; rfl
  obtain ⟨x, M, G, j, ⟨rfl, hC⟩, k⟩ := h
  refine ⟨_, (pss_cons (ps_set (i := 1) sc_Clerk_events.nd rfl (Or.inl rfl) (pe_fld (pv 0) rfl))
(pss_cons (ps_fld (pv 0) (pe_lst pa_nil) rfl)
(pss_one (ps_ret (pv 1))))), ?_⟩
  walk_at "start"
  refine w_fldM j hC.op T_Clerk.cl T_Clerk.n_news fl_Clerk_news ?_
  walk_at "go"
  refine w_newM j (Nat.zero_le _) fun q H1 j1 nq gq => ?_
  walk_at "go"
  refine w_setX j1 (upd_ne' hC.op (ne_of_none hC.op nq)) T_Clerk.cl T_Clerk.n_news (by show 12 < 1000; decide) fun H2 j2 => ?_
  rw [sf_Clerk_news] at j2
  have j2 : J (upd (upd M q (.lst [])) x.p (clO C_Clerk { x with nw := q, nwv := [], news := [] })) G H2 := j2
  have gn := j.out hC.onw
  have np : x.nw ≠ x.p := fun z => by have := hC.onw; rw [z, hC.op] at this; unfold clO at this; cases this
  have j3 := j2.seal (L := x.nw) (o := .lst x.nwv) (upd_ne' (upd_ne' hC.onw (ne_of_none hC.onw nq)) np)
  walk_at "go"
  exact k _ _ _ _ j3 (Ex.new gn) ⟨x.nw, x.nwv, q, rfl, upd_same, dpAll_mono (Ex.new gn) hC.d.nw, hC.g_nw nq gn⟩
/-! ### Clerk.idle -/
abbrev s_Clerk_idle : Stmt := inClass (top 31) 5
abbrev n_Clerk_idle : List Str := ["self"]
theorem sc_Clerk_idle : FnScope n_Clerk_idle ["self"] (defScope s_Clerk_idle) := ⟨rfl, rfl, rfl, by decide +kernel, rfl, by decide +kernel, by decide +kernel⟩
def idleB (x : ClX) : Bool := !x.busy && (decide (x.dls.length ≤ x.number) && decide (x.co.length = 0))
def sp_Clerk_idle (K : PySem.W.Frag) (C CR CC : Addr) : Sp := Sg (α := ClX) (fun x vs M G => vs = [.ref x.p] ∧ ClAt K C CR CC M G x) (fun x M _ v M' _ => v = .bl (idleB x) ∧ M' = M)
theorem ok_Clerk_idle {P : Program} {w : World} {K : PySem.W.Frag} {mg : Str → Option Value} {base : Heap}
    {C_Clerk : Addr} (T_Clerk : Tx_Clerk K mg C_Clerk)
    {C_Route : Addr} (T_Route : Tx_Route K mg C_Route)
    {C_Call : Addr} (T_Call : Tx_Call K mg C_Call)
    {f : Addr} {fd : FuncData} (D : Dm K C_Clerk "idle" "Clerk.idle" s_Clerk_idle ["self"] f fd)
    (b_len : mg "len" = none) : CalM P w K mg base CX0 1 C_Clerk "idle" (sp_Clerk_idle K C_Clerk C_Route C_Call) := by
  refine D.ok sc_Clerk_idle (fun vs H Q E h => ?_) fun cdv A outer s H vs Q E hr h => ?_
  · obtain ⟨x, M, G, j, ⟨rfl, _⟩, _⟩ := h; rfl
  obtain ⟨x, M, G, j, ⟨rfl, hC⟩, k⟩ := h
  refine ⟨_, (pss_one (ps_ret (pe_and (pe_not (pe_fld (pv 0) rfl)) (pe_and (pe_cmpR op_ge (pe_fld (pv 0) rfl) (pe_callB (call_uLenK (K := K) rfl) (by rfl) b_len PySem.boot_len (pa_cons (pe_fld (pv 0) rfl) pa_nil)) (nomark _)) (pe_one (pe_cmpR (op_uEqK (K := K) rfl hr) (pe_callB (call_uLenK (K := K) rfl) (by rfl) b_len PySem.boot_len (pa_cons (pe_fld (pv 0) rfl) pa_nil)) pe_int (nomark _))))))), ?_⟩
  have lc : (caK x.co).length = x.co.length := List.length_map _
  walk_at "start"
  refine w_fldM j hC.op T_Clerk.cl T_Clerk.n_busy fl_Clerk_busy ?_
  cases hb : x.busy with
  | true =>
    walk_at "go"
    refine k _ _ _ _ j (Same.refl G) ⟨?_, rfl⟩
    unfold idleB
    rw [hb]; rfl
  | false =>
    walk_at "go"
    refine w_fldM j hC.op T_Clerk.cl T_Clerk.n_number fl_Clerk_number ?_
    walk_at "go"
    refine w_fldM j hC.op T_Clerk.cl T_Clerk.n_deals fl_Clerk_deals ?_
    walk_at "go"
    refine w_lenL j (sl_of hC.d.da) ?_
    rw [List.length_map]
    walk_at "go"
    refine w_dec (fun c => ?_) (fun c => ?_)
    · walk_at "go"
      refine w_fldM j hC.op T_Clerk.cl T_Clerk.n_calls fl_Clerk_calls ?_
      walk_at "go"
      refine w_lenD j (.inl hC.ocd) ?_
      rw [lc]
      walk_at "go"
      refine k _ _ _ _ j (Same.refl G) ⟨?_, rfl⟩
      unfold idleB
      rw [hb, decide_eq_true (show (x.dls.length : Int) ≤ x.number from c)]
      refine congrArg V.bl ?_
      show decide ((x.co.length : Int) = 0) = (true && (true && decide (x.co.length = 0)))
      rw [Bool.true_and, Bool.true_and]
      exact decide_eq_decide.mpr ⟨fun z => by omega, fun z => by omega⟩
    · walk_at "go"
      refine k _ _ _ _ j (Same.refl G) ⟨?_, rfl⟩
      unfold idleB
      rw [hb, decide_eq_false (show ¬ (x.dls.length : Int) ≤ x.number from c)]; rfl
/-! ### what deals mean -/
inductive Res where
  | non | int (n : Int) | rows (ps : List (Int × Int))
def rO : Option Int → Res
  | none => .non
  | some n => .int n
/-- the rows of a scan: a list of pairs -/
def RowsAt (G : Hp) (as : List Addr) (ps : List (Int × Int)) : Prop := as.length = ps.length ∧ ∀ (i : Nat) (a : Addr) (p : Int × Int), as[i]? = some a → ps[i]? = some p → G a = some (.tup [.int p.1, .int p.2])
theorem RowsAt.ex {G G' : Hp} {as : List Addr} {ps : List (Int × Int)} (h : RowsAt G as ps) (e : Ex G G') : RowsAt G' as ps := ⟨h.1, fun i a p h1 h2 => e _ _ (h.2 i a p h1 h2)⟩
theorem RowsAt.nil {G : Hp} : RowsAt G [] [] := ⟨rfl, fun i a op h => by simp at h⟩
theorem RowsAt.snoc {G : Hp} {as : List Addr} {ps : List (Int × Int)} {a : Addr} {p : Int × Int} (h : RowsAt G as ps) (o : G a = some (.tup [.int p.1, .int p.2])) : RowsAt G (as ++ [a]) (ps ++ [p]) := by
  refine ⟨by rw [List.length_append, List.length_append, h.1]; rfl, fun i b q h1 h2 => ?_⟩
  rcases snoc_get h1 with ⟨hi, h1⟩ | ⟨hi, rfl⟩
  · rcases snoc_get h2 with ⟨_, h2⟩ | ⟨hj, _⟩
    · exact h.2 i b q h1 h2
    · have := h.1; omega
  · rcases snoc_get h2 with ⟨hj, _⟩ | ⟨_, rfl⟩
    · have := h.1; omega
    · exact o
def ResAt (G : Hp) (v : V) : Res → Prop
  | .non => v = .non
  | .int n => v = .int n
  | .rows ps => ∃ t as, v = .ref t ∧ G t = some (.lst (as.map V.ref)) ∧ RowsAt G as ps
theorem ResAt.ex {G G' : Hp} {v : V} {r : Res} (h : ResAt G v r) (e : Ex G G') : ResAt G' v r := by
  cases r with
  | non => exact h
  | int n => exact h
  | rows ps => obtain ⟨t, as, h1, h2, h3⟩ := h; exact ⟨t, as, h1, e _ _ h2, h3.ex e⟩
theorem ResAt.o {G : Hp} (o : Option Int) : ResAt G (ov o) (rO o) := by cases o <;> rfl
def RessAt (G : Hp) (ws : List V) (rs : List Res) : Prop := ws.length = rs.length ∧ ∀ (i : Nat) (w : V) (r : Res), ws[i]? = some w → rs[i]? = some r → ResAt G w r
theorem RessAt.ex {G G' : Hp} {ws : List V} {rs : List Res} (h : RessAt G ws rs) (e : Ex G G') : RessAt G' ws rs := ⟨h.1, fun i w r h1 h2 => (h.2 i w r h1 h2).ex e⟩
theorem RessAt.nil {G : Hp} : RessAt G [] [] := ⟨rfl, fun i a op h => by simp at h⟩
theorem RessAt.snoc {G : Hp} {ws : List V} {rs : List Res} {w : V} {r : Res} (h : RessAt G ws rs) (o : ResAt G w r) : RessAt G (ws ++ [w]) (rs ++ [r]) := by
  refine ⟨by rw [List.length_append, List.length_append, h.1]; rfl, fun i b q h1 h2 => ?_⟩
  rcases snoc_get h1 with ⟨hi, h1⟩ | ⟨hi, rfl⟩
  · rcases snoc_get h2 with ⟨_, h2⟩ | ⟨hj, _⟩
    · exact h.2 i b q h1 h2
    · have := h.1; omega
  · rcases snoc_get h2 with ⟨hj, _⟩ | ⟨_, rfl⟩
    · have := h.1; omega
    · exact o
def failM (m : Fn) : Op → Bool
  | .add k a => !decide (IsVal ((m k).getD 0 + a))
  | .need k v => !decide (m k = v)
  | _ => false
def resM (m : Fn) : Op → Res
  | .get k => rO (m k)
  | .add k a => .int ((m k).getD 0 + a)
  | .scan lo hi => .rows (scanM m lo hi)
  | _ => .non
def postM (m : Fn) : Op → Fn
  | .put k v => setM m k v
  | .add k a => setM m k (some ((m k).getD 0 + a))
  | _ => m
def mAt (m : Fn) (ops : List Op) : Fn := ops.foldl postM m
def resL (m : Fn) : List Op → List Res
  | [] => []
  | op :: ops => resM m op :: resL (postM m op) ops
/-- how many operations are done -/
def cutM (m : Fn) : List Op → Nat
  | [] => 0
  | op :: ops => if failM m op = true then 0 else cutM (postM m op) ops + 1
theorem mAt_snoc (m : Fn) (ops : List Op) (op : Op) : mAt m (ops ++ [op]) = postM (mAt m ops) op := by unfold mAt; rw [List.foldl_append]; rfl
theorem resL_snoc : ∀ (m : Fn) (ops : List Op) (op : Op), resL m (ops ++ [op]) = resL m ops ++ [resM (mAt m ops) op]
  | m, [], op => rfl
  | m, o :: ops, op => by
    show resM m o :: resL (postM m o) (ops ++ [op]) = resM m o :: (resL (postM m o) ops ++ [resM (mAt (postM m o) ops) op])
    rw [resL_snoc]
theorem resL_len : ∀ (m : Fn) (ops : List Op), (resL m ops).length = ops.length
  | m, [] => rfl
  | m, o :: ops => by show (resL (postM m o) ops).length + 1 = ops.length + 1; rw [resL_len]
theorem take_snoc {α : Type} {xs : List α} {i : Nat} {x : α} (h : xs[i]? = some x) : xs.take (i + 1) = xs.take i ++ [x] := by
  rw [List.take_succ, h]; rfl
theorem cut_le : ∀ (m : Fn) (ops : List Op), cutM m ops ≤ ops.length
  | m, [] => Nat.le_refl _
  | m, o :: ops => by
    unfold cutM; split
    · exact Nat.zero_le _
    · exact Nat.succ_le_succ (cut_le (postM m o) ops)
theorem cut_at : ∀ {m : Fn} {ops : List Op} {i : Nat} {op : Op}, i ≤ cutM m ops → ops[i]? = some op → (failM (mAt m (ops.take i)) op = true → cutM m ops = i) ∧ (failM (mAt m (ops.take i)) op = false → i + 1 ≤ cutM m ops)
  | m, [], i, op, _, e => by simp at e
  | m, o :: ops, 0, op, h, e => by
    have e : o = op := Option.some.inj e
    subst e
    refine ⟨fun f => ?_, fun f => ?_⟩
    · show cutM m (o :: ops) = 0
      unfold cutM; rw [if_pos (show failM m o = true from f)]
    · unfold cutM; rw [if_neg (by rw [show failM m o = false from f]; decide)]; omega
  | m, o :: ops, i + 1, op, h, e => by
    have e : ops[i]? = some op := by simpa using e
    unfold cutM at h ⊢
    split at h
    · omega
    · rename_i hf
      rw [if_neg hf]
      have ih := cut_at (m := postM m o) (ops := ops) (i := i) (op := op) (by omega) e
      refine ⟨fun f => ?_, fun f => ?_⟩
      · rw [ih.1 f]
      · have := ih.2 f; omega
def outM (m : Fn) (ops : List Op) : Str := if cutM m ops = ops.length then "done" else "failed"
def endM (m : Fn) (ops : List Op) : Fn := if cutM m ops = ops.length then mAt m ops else m
def ressM (m : Fn) (ops : List Op) : List Res := resL m (ops.take (cutM m ops))
theorem rows_snoc {kv : List (Int × Int)} {ys : List Int} {i : Nat} {y lo hi : Int} (h : ys[i]? = some y) : rowsOf kv (ys.take (i + 1)) lo hi = rowsOf kv (ys.take i) lo hi ++ (if lo ≤ y ∧ y < hi then (look kv y).map fun v => (y, v) else none).toList := by
  rw [take_snoc h]; unfold rowsOf; rw [List.filterMap_append, List.filterMap_cons]
  split
  · rename_i e; rw [e]; rfl
  · rename_i b e; rw [e]; rfl
theorem rows_len {kv : List (Int × Int)} {ys : List Int} {lo hi : Int} : (rowsOf kv ys lo hi).length ≤ ys.length := List.length_filterMap_le _ _
/-- [(key, d[key]) for key in sorted(d) if op[1] <= key < op[2]] -/
theorem scan_lc {K : PySem.W.Frag} {M G H : Hp} {d a : Addr} {kv : List (Int × Int)} {lo hi : Int} {σ : L2.St} {s : Nat} {Q : VK} (j : J M G H) (tb : Hd M G d (tk kv)) (ho : G a = some (.tup (opV (.scan lo hi)))) (ok : TabOk kv 63)
    (s0 : ∀ x, ((wipe σ [s]).set s (some x))[0]? = some (some (.ref d))) (s1 : ∀ x, ((wipe σ [s]).set s (some x))[1]? = some (some (.ref a))) (s2 : ∀ x, ((wipe σ [s]).set s (some x))[s]? = some (some x)) (hw : ∀ x, wipe ((wipe σ [s]).set s (some x)) [s] = wipe σ [s])
    (k : ∀ t as G' H', J M G' H' → Ex G G' → G' t = some (.lst (as.map V.ref)) → RowsAt G' as (scanM (look kv) lo hi) → Q (.ref t) H') :
    SortD [V.ref d] H fun x H1 => LcL K (gName s) (tTest (tChain (rI0 fun i j => V.bl (decide (i ≤ j))) (rI0 fun i j => V.bl (decide (i < j))) (tOp (uIx K) (tVar 1) (tC (V.int 1))) (tVar s) (tOp (uIx K) (tVar 1) (tC (V.int 2)))))
      (tTup (tCons (tVar s) (tCons (tDGet (tVar 0) (tVar s)) tNil))) [s] σ x H1 Q := by
  refine w_sortD j tb (tk_keys kv) (by rw [List.length_map]; have := ok.len; omega) fun ys hp hs => ?_
  refine w_new j (Nat.zero_le _) fun q G1 H1 j1 e1 hq nq => ?_
  have hlen : ys.length ≤ 63 := by rw [hp.length_eq, List.length_map]; exact ok.len
  refine w_lcl j1 (fun L i acc M2 G2 => Ex G1 G2 ∧ Ag L M M2 ∧ M L = none ∧ ∃ as, acc = as.map V.ref ∧ RowsAt G2 as (rowsOf kv (ys.take i) lo hi)) (sl_of hq) ?_ (fun _ _ _ _ _ h => h.1) hw ?_ ?_
  · exact fun L h1 h2 => ⟨Same.refl _, Ag.upd, h1, [], rfl, .nil⟩
  · rintro L i x acc M2 G2 H2 R hxi j2 hL ⟨e2, a2, mL, as, rfl, hr⟩ hR
    obtain ⟨y, hy, rfl⟩ : ∃ y, ys[i]? = some y ∧ x = V.int y := by
      rw [List.getElem?_map] at hxi
      cases h : ys[i]? with
      | none => rw [h] at hxi; cases hxi
      | some y => rw [h] at hxi; exact ⟨y, rfl, (Option.some.inj hxi).symm⟩
    have hil : i < 63 := by have := (List.getElem?_eq_some_iff.mp hy).1; omega
    have hro := rows_snoc (kv := kv) (lo := lo) (hi := hi) hy
    have ho2 : G2 a = some (.tup (opV (.scan lo hi))) := e2 _ _ (e1 _ _ ho)
    have skip : ¬ (lo ≤ y ∧ y < hi) → SkipL L (as.map V.ref) (fun acc M2 G2 => Ex G1 G2 ∧ Ag L M M2 ∧ M L = none ∧ ∃ as, acc = as.map V.ref ∧ RowsAt G2 as (rowsOf kv (ys.take (i + 1)) lo hi)) H2 := fun hn =>
      ⟨M2, G2, j2, hL, e2, a2, mL, as, rfl, by rw [hro, if_neg hn]; show RowsAt G2 as (rowsOf kv (ys.take i) lo hi ++ []); rw [List.append_nil]; exact hr⟩
    refine w_test (w_chain (w_op (w_var (s1 _) (w_c (w_ixT j2 (st_of ho2) (by rfl) (w_var (s2 _) (w_I0 (w_bl (w_dec (fun h1 => ?_) fun h1 => ?_)))))))))
    · refine w_op (w_var (s1 _) (w_c (w_ixT j2 (st_of ho2) (by rfl) (w_I0 (w_bl (hR _ _ (w_dec (fun h2 => ?_) fun h2 => skip (fun z => h2 z.2))))))))
      have hk : y ∈ kv.map (·.1) := hp.mem_iff.mp (List.mem_of_getElem? hy)
      obtain ⟨v, hv⟩ : ∃ v, look kv y = some v := by
        cases h : look kv y with
        | none => exact absurd hk (look_none.mp h)
        | some v => exact ⟨v, rfl⟩
      have tb2 : Hd M2 G2 d (tk kv) := by
        rcases tb with tb | tb
        · exact .inl ((a2 d (ne_of_none tb mL)).trans tb)
        · exact .inr (rd_same (e1.trans e2) tb)
      refine w_tup (w_acons (w_var (s2 _) (w_acons (w_dget (w_var (s0 _) (w_var (s2 _) (w_getX j2 tb2 (v := .int v) (by rw [tk_look, hv]; rfl) (w_anil (w_new j2 (by show 2 ≤ sizeLine; decide) fun u G3 H3 j3 e3 hu nu => ?_)))))))))
      refine StepL.go (P := fun L i acc M2 G2 => Ex G1 G2 ∧ Ag L M M2 ∧ M L = none ∧ ∃ as, acc = as.map V.ref ∧ RowsAt G2 as (rowsOf kv (ys.take i) lo hi)) ⟨M2, G3, j3, hL, sz_lt (by rw [List.length_map, hr.1]; have := rows_len (kv := kv) (ys := ys.take i) (lo := lo) (hi := hi); rw [List.length_take] at this; omega), e2.trans e3, a2.trans Ag.upd, mL, as ++ [u], ref_snoc as u, ?_⟩
      rw [hro, if_pos ⟨h1, h2⟩, hv]
      exact (hr.ex e3).snoc (p := (y, v)) hu
    · refine w_bl (hR _ _ (w_F (skip fun z => h1 z.1)))
  · rintro L acc M2 G2 H2 j2 hL ⟨e2, a2, mL, as, rfl, hr⟩
    rw [List.length_map, List.take_length, rows_eq ok (fun _ => rfl) hp hs] at hr
    have js := j2.seal hL
    rw [a2.del_eq mL] at js
    exact k L as _ _ js ((e1.trans e2).trans (Ex.new (j2.out hL))) upd_same (hr.ex (Ex.new (j2.out hL)))
theorem own2 {M M1 : Hp} {R D : Addr} {x y : HO} (hR : M1 R = some x) (hD : M1 D = some y) (h : ∀ b, b ≠ R → b ≠ D → M1 b = M b) : M1 = upd (upd M R x) D y := by
  funext b
  by_cases q : b = D
  · subst q; rw [upd_same, hD]
  · rw [upd_ne q]
    by_cases q2 : b = R
    · subst q2; rw [upd_same, hR]
    · rw [upd_ne q2]; exact h b q2 q
/-- a deal's end: the outcome, the list of the results at R, the dictionary at D -/
structure ExEnd (M G M' G' : Hp) (R D : Addr) (kv : List (Int × Int)) (ops : List Op) (n : Nat) : Prop where
  own : ∃ ws kv', M' = upd (upd M R (.lst ws)) D (.dK (tk kv')) ∧ RessAt G' ws (ressM (look kv) ops) ∧ TabOk kv' (n + 6) ∧ Rep kv' (endM (look kv) ops)
  nR : M R = none
  nD : M D = none
  ne : R ≠ D
  gR : G R = none
  gD : G D = none
structure ExPre (M G : Hp) (d a : Addr) (kv : List (Int × Int)) (as : List Addr) (ops : List Op) (n : Nat) : Prop where
  tb : Hd M G d (tk kv)
  ok : TabOk kv n
  nn : n ≤ 57
  dl : IsDeal G a as ops
/-- between the operations -/
def ExI (M G : Hp) (d a D R : Addr) (kv : List (Int × Int)) (ops : List Op) (n : Nat) (i : Nat) (σ : L2.St) (H : Hp) : Prop := ∃ (ws : List V) (kv1 : List (Int × Int)) (M1 G1 : Hp) (x y : Option V), J M1 G1 H ∧ M1 D = some (.dK (tk kv1)) ∧ M1 R = some (.lst ws) ∧
  (∀ b, b ≠ R → b ≠ D → M1 b = M b) ∧ Ex G G1 ∧ RessAt G1 ws (resL (look kv) (ops.take i)) ∧ TabOk kv1 (n + i) ∧ Rep kv1 (mAt (look kv) (ops.take i)) ∧ i ≤ cutM (look kv) ops ∧ σ = [some (.ref d), some (.ref a), some (.ref D), some (.ref R), x, y]
/-! ### results and operations as data -/
def resD : Res → PyData
  | .non => .none
  | .int n => .int n
  | .rows ps => .list (ps.map fun p => .tuple [.int p.1, .int p.2])
def oD : Option Int → PyData
  | none => .none
  | some n => .int n
def opD : Op → PyData
  | .get k => .tuple [.str "get", .int k]
  | .put k v => .tuple [.str "put", .int k, oD v]
  | .add k a => .tuple [.str "add", .int k, .int a]
  | .need k v => .tuple [.str "need", .int k, oD v]
  | .scan lo hi => .tuple [.str "scan", .int lo, .int hi]
section
variable {K : PySem.W.Frag} {G : Hp}
theorem dp_ov (o : Option Int) : Dp K G (ov o) (oD o) := by cases o with | none => exact .non | some n => exact .int n
theorem dp_op {a : Addr} {op : Op} (h : OpAt G a op) : Dp K G (.ref a) (opD op) := by
  have h := h.1
  cases op with
  | get k => exact .tup (st_of h) (.cons (.str _) (.cons (.int _) .nil))
  | put k v => exact .tup (st_of h) (.cons (.str _) (.cons (.int _) (.cons (dp_ov v) .nil)))
  | add k v => exact .tup (st_of h) (.cons (.str _) (.cons (.int _) (.cons (.int _) .nil)))
  | need k v => exact .tup (st_of h) (.cons (.str _) (.cons (.int _) (.cons (dp_ov v) .nil)))
  | scan k v => exact .tup (st_of h) (.cons (.str _) (.cons (.int _) (.cons (.int _) .nil)))
theorem dp_res {v : V} {r : Res} (h : ResAt G v r) : Dp K G v (resD r) := by
  cases r with
  | non => cases (show v = .non from h); exact .non
  | int n => cases (show v = .int n from h); exact .int n
  | rows ps =>
    obtain ⟨t, as, rfl, ht, hr⟩ := h
    refine .lst (sl_of ht) (dpAll_of (by rw [List.length_map, List.length_map, hr.1]) fun i x d h1 h2 => ?_)
    rw [List.getElem?_map] at h1 h2
    cases e1 : as[i]? with
    | none => rw [e1] at h1; cases h1
    | some a =>
      cases e2 : ps[i]? with
      | none => rw [e2] at h2; cases h2
      | some p =>
        rw [e1] at h1; rw [e2] at h2; cases h1; cases h2
        exact .tup (st_of (hr.2 i a p e1 e2)) (.cons (.int _) (.cons (.int _) .nil))
theorem dp_ress {t : Addr} {ws : List V} {rs : List Res} (ht : G t = some (.lst ws)) (h : RessAt G ws rs) : Dp K G (.ref t) (.list (rs.map resD)) := by
  refine .lst (sl_of ht) (dpAll_of (by rw [List.length_map, h.1]) fun i x d h1 h2 => ?_)
  rw [List.getElem?_map] at h2
  cases e2 : rs[i]? with
  | none => rw [e2] at h2; cases h2
  | some r => rw [e2] at h2; cases h2; exact dp_res (h.2 i x r h1 e2)
theorem dp_ops {t : Addr} {as : List Addr} {ops : List Op} (ht : G t = some (.lst (as.map V.ref))) (h : OpsAt G as ops) : Dp K G (.ref t) (.list (ops.map opD)) := by
  refine .lst (sl_of ht) (dpAll_of (by rw [List.length_map, List.length_map, h.1]) fun i x d h1 h2 => ?_)
  rw [List.getElem?_map] at h1 h2
  cases e1 : as[i]? with
  | none => rw [e1] at h1; cases h1
  | some a =>
    cases e2 : ops[i]? with
    | none => rw [e2] at h2; cases h2
    | some op => rw [e1] at h1; rw [e2] at h2; cases h1; cases h2; exact dp_op (h.2 i a op e1 e2)
end
def flatD : PyData → Bool
  | .none => true
  | .bool _ => true
  | .int _ => true
  | .str _ => true
  | _ => false
theorem okD_flat (n : Nat) {d : PyData} (h : flatD d = true) : okD n d := by
  cases n <;> cases d <;> first | trivial | cases h
theorem okD_tup (n : Nat) {xs : List PyData} (h : xs.all flatD = true) (l : xs.length ≤ 100000) : okD (n + 1) (.tuple xs) := ⟨l, fun x hx => okD_flat n (List.all_eq_true.mp h x hx)⟩
theorem flat_oD (o : Option Int) : flatD (oD o) = true := by cases o <;> rfl
theorem okD_op (n : Nat) (op : Op) : okD (n + 1) (opD op) := by
  cases op with
  | get k => exact okD_tup n rfl (by show 2 ≤ 100000; decide)
  | add k v => exact okD_tup n rfl (by show 3 ≤ 100000; decide)
  | scan k v => exact okD_tup n rfl (by show 3 ≤ 100000; decide)
  | put k v => exact okD_tup n (by cases v <;> rfl) (by show 3 ≤ 100000; decide)
  | need k v => exact okD_tup n (by cases v <;> rfl) (by show 3 ≤ 100000; decide)
theorem scan_len (m : Fn) (lo hi : Int) : (scanM m lo hi).length ≤ 1000 := by
  unfold scanM
  have := List.length_filterMap_le (fun (i : Nat) => if lo ≤ (i : Int) ∧ (i : Int) < hi then (m i).map fun v => ((i : Int), v) else none) (List.range 1000)
  rw [List.length_range] at this; exact this
theorem okD_res (n : Nat) (m : Fn) (op : Op) : okD (n + 2) (resD (resM m op)) := by
  cases op with
  | get k => exact okD_flat _ (by show flatD (resD (rO (m k))) = true; cases m k <;> rfl)
  | put k v => exact okD_flat _ rfl
  | add k v => exact okD_flat _ rfl
  | need k v => exact okD_flat _ rfl
  | scan lo hi =>
    refine ⟨by rw [List.length_map]; have := scan_len m lo hi; omega, fun x h => ?_⟩
    obtain ⟨p, _, rfl⟩ := List.mem_map.mp h
    exact okD_tup n rfl (by show 2 ≤ 100000; decide)
theorem resL_mem : ∀ {m : Fn} {ops : List Op} {r : Res}, r ∈ resL m ops → ∃ m' op, r = resM m' op
  | m, [], r, h => by cases h
  | m, o :: ops, r, h => by
    rcases List.mem_cons.mp h with rfl | h
    · exact ⟨m, o, rfl⟩
    · exact resL_mem h
theorem okD_ress (n : Nat) (m : Fn) {ops : List Op} (h : ops.length ≤ 6) : okD (n + 3) (.list ((ressM m ops).map resD)) := by
  refine ⟨by rw [List.length_map]; unfold ressM; rw [resL_len, List.length_take]; omega, fun x hx => ?_⟩
  obtain ⟨r, hr, rfl⟩ := List.mem_map.mp hx
  obtain ⟨m', op, rfl⟩ := resL_mem hr
  exact okD_res n m' op
theorem okD_ops (n : Nat) {ops : List Op} (h : ops.length ≤ 6) : okD (n + 2) (.list (ops.map opD)) := by
  refine ⟨by rw [List.length_map]; omega, fun x hx => ?_⟩
  obtain ⟨op, _, rfl⟩ := List.mem_map.mp hx
  exact okD_op n op
/-- what execute made, left to stand for good -/
theorem ExEnd.seal {M G M' G' H : Hp} {R D : Addr} {kv : List (Int × Int)} {ops : List Op} {n : Nat} (x : ExEnd M G M' G' R D kv ops n) (j : J M' G' H) : ∃ ws kv' G'', J M G'' H ∧ Ex G' G'' ∧ G'' R = some (.lst ws) ∧ G'' D = some (.dK (tk kv')) ∧
    RessAt G'' ws (ressM (look kv) ops) ∧ TabOk kv' (n + 6) ∧ Rep kv' (endM (look kv) ops) := by
  obtain ⟨⟨ws, kv', rfl, hr, ok, rep⟩, nR, nD, ne, _, _⟩ := x
  have j1 := j.freeze (by rw [upd_ne ne.symm]; exact nD)
  have j2 := j1.freeze nR
  have e1 : Ex G' (upd G' D (.dK (tk kv'))) := Ex.new j.freezeG
  have e2 : Ex (upd G' D (.dK (tk kv'))) (upd (upd G' D (.dK (tk kv'))) R (.lst ws)) := Ex.new j1.freezeG
  exact ⟨ws, kv', _, j2, e1.trans e2, upd_same, by rw [upd_ne ne.symm]; exact upd_same, hr.ex (e1.trans e2), ok, rep⟩
def sp_law (K : PySem.W.Frag) : Sp := fun vs H Q _ => ∃ (a : Addr) (ns : List Int), vs = [.ref a] ∧ SqL K H a (ns.map V.int) ∧ ns.length ≤ 63 ∧ ∀ H', Q (.bl true) H'
/-! ### clerks: the first step of a deal, as data -/
def nextD : PyData := .tuple [.str "next"]
section
variable {K : PySem.W.Frag} {C CR CC CA : Addr} {M M' G' : Hp} {x : ClX} {v : V} {h : Option Int} {d : RoD}
theorem perm_nil37 {ks : List Int} (h : ks.Perm []) : ks = [] := List.length_eq_zero_iff.mp h.length_eq
theorem perm_one37 {ks : List Int} {k : Int} (h : ks.Perm [k]) : ks = [k] := List.perm_singleton.mp h
theorem co_nil {co : List CaX} (h : cDat co = []) : co = [] := by
  cases co with
  | nil => rfl
  | cons a r => cases h
theorem co_ks {co : List CaX} {k g : Int} {cmd : PyData} {h : Option Int} (e : cDat co = [⟨k, g, cmd, h⟩]) : co.map (·.k) = [k] := by
  have := congrArg (List.map CaD.k) e
  rw [cDat_keys] at this
  exact this
/-- the first act of a deal -/
theorem ActE.first (hE : ActE K C CR CC CA M x v M' G') (hc : x.co = []) (hr : x.ro = []) (hb : x.busy = false) (ha : x.av = .non) (hn : x.number = 0) (hd : 0 < x.dls.length) (ht : x.token = 0) (hw : x.news = []) :
    ∃ q lv x', ClS K C CR CC M x M' G' x' ∧ v = .ref q ∧ G' q = some (.lst lv) ∧ DpAll K G' lv [letD 0 1 0 nextD] ∧ cDat x'.co = [⟨1, 0, nextD, none⟩] ∧ rDat x'.ro = [(0, route0)] ∧ x'.busy = true ∧ x'.number = 0 ∧ (∃ a, x'.av = .ref a) ∧ x'.news = [askedD x.client 0] ∧ x'.client = x.client ∧ x'.machines = x.machines ∧ x'.dls = x.dls ∧ x'.places = x.places ∧ x'.token = 1 := by
  obtain ⟨x1, x2, ks, q, lv, ro, co, hC, hB, hp, _, rfl, hq, hl, hco, hro, hS⟩ := hE
  obtain ⟨k1, ro1, hp1, _, hr1, rfl⟩ := hC
  rw [hc, List.map_nil] at hp1
  obtain rfl := perm_nil37 hp1
  have er : ro1 = [] := by
    rw [hr] at hr1
    cases ro1 with
    | nil => rfl
    | cons a r => cases hr1
  subst er
  have hN : needB x = true := by
    unfold needB
    rw [ha, hn, decide_eq_true rfl, decide_eq_true (show (0 : Int) < x.dls.length by omega), Bool.or_true]; rfl
  rw [if_pos hN] at hB
  obtain ⟨nwv, x3, p, dx, rw', dt, pa, re, gs, dd, as, ops, y, cv, rfl, h2, h3, h4, h5, h6, h7, rfl⟩ := hB
  have eA : askX { x with ro := [] } nwv = { { x with ro := [] } with busy := true, tries := 0, nwv := nwv, news := x.news ++ [askedD x.client x.number] } := by
    unfold askX
    rw [show ({ x with ro := [] } : ClX).busy = false from hb]; rfl
  rw [eA] at hp hl hco hro hS
  obtain ⟨y1, y2, y3, y4, y5, y6⟩ := h7
  have eco : cDat (x.co ++ [y]) = [⟨1, 0, nextD, none⟩] := by
    rw [hc]
    show [(⟨y.k, y.g, y.cmd, y.hint⟩ : CaD)] = _
    rw [y1, y2, y5, y6, ht]; rfl
  have eks : (x.co ++ [y]).map (·.k) = [1] := co_ks eco
  dsimp only [atX] at hp hl hco hro hS
  rw [eks] at hp
  obtain rfl := perm_one37 hp
  rw [eco] at hl hco hro
  refine ⟨q, lv, _, hS, rfl, hq, hl, hco, hro, rfl, hn, ⟨p, rfl⟩, ?_, rfl, rfl, rfl, rfl, ?_⟩
  · show x.news ++ [askedD x.client x.number] = _
    rw [hw, hn]; rfl
  · show x.token + 1 = 1
    rw [ht]; rfl
/-- each further act, while the start is asked for -/
theorem ActE.again (hE : ActE K C CR CC CA M x v M' G') (hc : cDat x.co = [⟨1, 0, nextD, h⟩]) (hr : rDat x.ro = [(0, d)]) (ha : ∃ a, x.av = .ref a) :
    ∃ q lv x', ClS K C CR CC M x M' G' x' ∧ v = .ref q ∧ G' q = some (.lst lv) ∧ DpAll K G' lv [letD (chgR d h x.machines).mc 1 0 nextD] ∧ cDat x'.co = [⟨1, 0, nextD, none⟩] ∧ rDat x'.ro = [(0, chgR d h x.machines)] ∧ x'.busy = x.busy ∧ x'.number = x.number ∧ (∃ a, x'.av = .ref a) ∧ x'.news = x.news ∧ x'.client = x.client ∧ x'.machines = x.machines ∧ x'.dls = x.dls ∧ x'.places = x.places ∧ x'.token = x.token := by
  obtain ⟨a, ha⟩ := ha
  obtain ⟨x1, x2, ks, q, lv, ro, co, hC, hB, hp, _, rfl, hq, hl, hco, hro, hS⟩ := hE
  obtain ⟨k1, ro1, hp1, _, hr1, rfl⟩ := hC
  have eks := co_ks hc
  rw [eks] at hp1
  obtain rfl := perm_one37 hp1
  have hN : needB x = false := by
    unfold needB
    rw [ha, decide_eq_false (fun z => nomatch z)]; rfl
  rw [if_neg (by rw [hN]; exact Bool.false_ne_true)] at hB
  subst hB
  have er : rDat ro1 = [(0, chgR d h x.machines)] := by
    rw [hr1, hc, hr]; rfl
  dsimp only at hp hl hco hro hS
  rw [eks] at hp
  obtain rfl := perm_one37 hp
  rw [hc, er] at hl hro
  rw [hc] at hco
  exact ⟨q, lv, _, hS, rfl, hq, hl, hco, hro, rfl, rfl, ⟨a, ha⟩, rfl, rfl, rfl, rfl, rfl, rfl⟩
/-- an act where there is nothing to do -/
theorem ActE.idle (hE : ActE K C CR CC CA M x v M' G') (hc : x.co = []) (hr : x.ro = []) (hb : x.busy = false) (hn : x.number = 0) (hd : x.dls = []) :
    ∃ q, v = .ref q ∧ G' q = some (.lst []) ∧ ∃ x', ClS K C CR CC M x M' G' x' ∧ x'.co = [] ∧ x'.ro = [] ∧ x'.busy = false ∧ x'.number = 0 ∧ x'.dls = [] ∧ x'.av = x.av ∧ x'.ac = x.ac ∧ x'.machines = x.machines ∧ x'.news = x.news := by
  obtain ⟨x1, x2, ks, q, lv, ro, co, hC, hB, hp, _, rfl, hq, hl, hco, hro, hS⟩ := hE
  obtain ⟨k1, ro1, hp1, _, hr1, rfl⟩ := hC
  rw [hc, List.map_nil] at hp1
  obtain rfl := perm_nil37 hp1
  have er : ro1 = [] := by
    rw [hr] at hr1
    cases ro1 with
    | nil => rfl
    | cons a r => cases hr1
  subst er
  have hN : needB x = false := by
    unfold needB
    rw [hb, hn, hd, decide_eq_false (show ¬ (0 : Int) < (([] : List (Addr × List Addr × List Op)).length : Nat) by decide), Bool.or_false, Bool.and_false]
  rw [if_neg (by rw [hN]; exact Bool.false_ne_true)] at hB
  subst hB
  dsimp only at hp hl hco hro hS
  rw [hc, List.map_nil] at hp
  obtain rfl := perm_nil37 hp
  have hl : lv = [] := by cases hl; rfl
  subst hl
  rw [hc] at hco hro
  refine ⟨q, rfl, hq, _, hS, co_nil hco, ?_, hb, hn, hd, rfl, rfl, rfl, rfl⟩
  show ro = []
  cases ro with
  | nil => rfl
  | cons a r => cases hro
end
/-! ### a list of deals, as data; an owned cell that is looked at -/
def DlsD (ds : List (Addr × List Addr × List Op)) : PyData := .list ((ds.map (·.2.2)).map fun o => .list (o.map opD))
def DlsG (G : Hp) (ds : List (Addr × List Addr × List Op)) : Prop := ∀ d ∈ ds, IsDeal G d.1 d.2.1 d.2.2
theorem DlsG.ex {G G' : Hp} {ds : List (Addr × List Addr × List Op)} (h : DlsG G ds) (e : Ex G G') : DlsG G' ds := fun d m => (h d m).ex e
theorem dp_dls {K : PySem.W.Frag} {G : Hp} {u : Addr} {ds : List (Addr × List Addr × List Op)} (h1 : G u = some (.lst (ds.map fun d => V.ref d.1))) (h2 : DlsG G ds) : Dp K G (.ref u) (DlsD ds) := by
  refine .lst (sl_of h1) (dpAll_of (by rw [List.length_map, List.length_map, List.length_map]) fun i x d h3 h4 => ?_)
  rw [List.getElem?_map] at h3
  rw [List.getElem?_map, List.getElem?_map] at h4
  cases e : ds[i]? with
  | none => rw [e] at h3; cases h3
  | some y => rw [e] at h3 h4; cases h3; cases h4; exact dp_ops (h2 y (List.mem_of_getElem? e)).1 (h2 y (List.mem_of_getElem? e)).2.1
theorem okD_dls {G : Hp} {ds : List (Addr × List Addr × List Op)} (n : Nat) (h : DlsG G ds) (l : ds.length ≤ 100000) : okD (n + 3) (DlsD ds) := by
  refine ⟨by rw [List.length_map, List.length_map]; exact l, fun x hx => ?_⟩
  obtain ⟨o, ho, rfl⟩ := List.mem_map.mp hx
  obtain ⟨d, hd, rfl⟩ := List.mem_map.mp ho
  exact okD_ops n (h d hd).2.2.2
theorem J.back {M G G' H' : Hp} {L : Addr} {o : HO} (j : J (del M L) G' H') (e : Ex (upd G L o) G') (h : M L = some o) (hg : G L = none) : J M G H' := by
  have j1 := j.thaw ((Ex.new hg).trans e) (e _ _ upd_same) hg
  have e1 : upd (del M L) L o = M := by
    funext b
    by_cases q : b = L
    · subst q; rw [upd_same, h]
    · rw [upd_ne q, del_ne q]
  rw [e1] at j1; exact j1
/-! ### k50: where the law stands -/
def Ph50 (y : ClX) (hint : Option Int) (host place : Int) (named : Bool) (i : Nat) : Prop :=
  i = 0 ∧ y.busy = false ∧ y.ro = [] ∧ y.co = [] ∧ y.av = .non ∧ y.ac = [] ∧ y.token = 0 ∧ hint = none ∧ host = 0 ∧ place = 0 ∧ named = false ∨
  0 < i ∧ y.busy = true ∧ rDat y.ro = [(0, ⟨host, place, named⟩)] ∧ cDat y.co = [⟨1, 0, nextD, hint⟩] ∧ (∃ a, y.av = .ref a) ∧ y.token = 1
section
variable {K : PySem.W.Frag} {C CR CC CA : Addr} {M M' G G' : Hp} {y : ClX} {v : V} {hint : Option Int} {host place : Int} {named : Bool} {i : Nat}
theorem Ph50.zero (h : Ph50 y hint host place named i) (c : i = 0) : hint = none ∧ host = 0 ∧ place = 0 ∧ named = false := by
  rcases h with ⟨_, _, _, _, _, _, _, h⟩ | ⟨h, _⟩
  · exact h
  · omega
theorem Ph50.pre (h : Ph50 y hint host place named i) (hA : ClAt K C CR CC M G y) (hm : 0 < y.machines) (hn : 0 ≤ y.number) (hl : y.number < y.dls.length) (hw : y.news.length < 1000) : [V.ref y.p] = [.ref y.p] ∧ ClAt K C CR CC M G y ∧ 0 < y.machines ∧ y.ro.length + 2 * y.co.length ≤ 58 ∧ (y.av = .non ∧ y.ac = [] ∨ ∃ a, y.av = .ref a) ∧ TkOk y ∧ 0 ≤ y.number ∧ (y.busy = true → y.number < y.dls.length) ∧ y.news.length < 1000 := by
  rcases h with ⟨_, h1, h2, h3, h4, h5, h6, _⟩ | ⟨_, h1, h2, h3, h4, h5⟩
  · exact ⟨rfl, hA, hm, by rw [h2, h3]; decide, .inl ⟨h4, h5⟩, (fun z hz => by rw [h3] at hz; cases hz), hn, fun _ => hl, hw⟩
  · have l1 : y.ro.length = 1 := by have := congrArg List.length h2; rw [rDat_len] at this; exact this
    have l2 : y.co.length = 1 := by have := congrArg List.length h3; unfold cDat at this; rw [List.length_map] at this; exact this
    refine ⟨rfl, hA, hm, by omega, .inr h4, fun z hz => ?_, hn, fun _ => hl, hw⟩
    have hk := co_ks h3
    have : z.k ∈ y.co.map (·.k) := List.mem_map_of_mem hz
    rw [hk] at this
    rw [List.mem_singleton.mp this, h5]; exact Int.le_refl _
theorem Ph50.act (h : Ph50 y hint host place named i) (hE : ActE K C CR CC CA M y v M' G') (hn : y.number = 0) (hd : 0 < y.dls.length) (hw : y.news = []) :
    ∃ q lv x' d1, ClS K C CR CC M y M' G' x' ∧ v = .ref q ∧ G' q = some (.lst lv) ∧ DpAll K G' lv [letD d1.mc 1 0 nextD] ∧ cDat x'.co = [⟨1, 0, nextD, none⟩] ∧ rDat x'.ro = [(0, d1)] ∧ x'.busy = true ∧ x'.number = 0 ∧ (∃ a, x'.av = .ref a) ∧ x'.news = (if i = 0 then [askedD y.client 0] else []) ∧ x'.client = y.client ∧ x'.machines = y.machines ∧ x'.dls = y.dls ∧ x'.places = y.places ∧ x'.token = 1 ∧ d1 = (if i = 0 then route0 else chgR ⟨host, place, named⟩ hint y.machines) := by
  rcases h with ⟨h0, h1, h2, h3, h4, h5, h6, _⟩ | ⟨h0, h1, h2, h3, h4, h5⟩
  · obtain ⟨q, lv, x', a15, a1, a2, a3, a4, a5, a6, a7, a8, a9, a10, a11, a12, a13, a14⟩ := ActE.first hE h3 h2 h1 h4 hn hd h6 hw
    exact ⟨q, lv, x', route0, a15, a1, a2, a3, a4, a5, a6, a7, a8, by rw [if_pos h0]; exact a9, a10, a11, a12, a13, a14, by rw [if_pos h0]⟩
  · obtain ⟨q, lv, x', a15, a1, a2, a3, a4, a5, a6, a7, a8, a9, a10, a11, a12, a13, a14⟩ := ActE.again hE h3 h2 h4
    have c : ¬ i = 0 := by omega
    exact ⟨q, lv, x', _, a15, a1, a2, a3, a4, a5, a6.trans h1, a7.trans hn, a8, by rw [if_neg c]; exact a9.trans hw, a10, a11, a12, a13, a14.trans h5, by rw [if_neg c]⟩
theorem okD_let (m k g : Int) : okD 4 (.list [letD m k g nextD]) := ⟨by show 1 ≤ 100000; decide, fun d hd => by
  rw [List.mem_singleton.mp hd]
  refine ⟨by show 2 ≤ 100000; decide, fun d hd => ?_⟩
  rcases List.mem_cons.mp hd with z | z
  · rw [z]; trivial
  · rw [List.mem_singleton.mp z]
    refine ⟨by show 4 ≤ 100000; decide, fun d hd => ?_⟩
    rcases List.mem_cons.mp hd with z | z
    · rw [z]; trivial
    · rcases List.mem_cons.mp z with z | z
      · rw [z]; trivial
      · rcases List.mem_cons.mp z with z | z
        · rw [z]; trivial
        · rw [List.mem_singleton.mp z]
          exact okD_tup 0 rfl (by show 1 ≤ 100000; decide)⟩
end
/-! ### x is not True, x a bool -/
def rIsNB : R2 := fun x y H Q => ∃ a b, x = .bl a ∧ y = .bl b ∧ Q (.bl (!decide (a = b))) H
theorem op_isnot_bl {X : Cx} : OpR X (compareOp .IsNot) rIsNB := by
  intro pins s σ H x y v u Q I rx ry h
  obtain ⟨a, b, rfl, rfl, q⟩ := h
  cases (show u = Value.bool b from ry)
  cases (show v = Value.bool a from rx)
  by_cases e : a = b
  · subst e
    exact wpAny_isNot_self rfl ⟨.bl false, H, I, rfl, by simpa using q⟩
  · exact wpAny_isNot_other rfl (fun z => e (Value.bool.inj z)) ⟨.bl true, H, I, rfl, by rw [decide_eq_false e] at q; exact q⟩
theorem w_isNB {a b : Bool} {H : Hp} {Q : VK} (q : Q (.bl (!decide (a = b))) H) : rIsNB (.bl a) (.bl b) H Q := ⟨a, b, rfl, rfl, q⟩
/-! ### law -/
abbrev s_law : Stmt := top 40
abbrev n_law : List Str := ["script", "draws", "client", "many", "deals", "given", "clerk", "host", "place", "named", "hint", "turn", "calls", "events", "k", "heard", "deal"]
theorem sc_law : FnScope n_law ["script"] (defScope s_law) := ⟨rfl, rfl, rfl, by decide +kernel, rfl, by decide +kernel, by decide +kernel⟩
theorem ok_law {P : Program} {w : World} {K : PySem.W.Frag} {mg : Str → Option Value} {base : Heap}
    {C_Clerk : Addr} (T_Clerk : Tx_Clerk K mg C_Clerk)
    {C_Route : Addr} (T_Route : Tx_Route K mg C_Route)
    {C_Call : Addr} (T_Call : Tx_Call K mg C_Call)
    {C_Attempt : Addr} (T_Attempt : Tx_Attempt K mg C_Attempt)
    {f : Addr} {fd : FuncData} (D : Dn K mg "law" s_law ["script"] f fd)
    (b_range : mg "range" = none)
    (b_len : mg "len" = none)
    (b_list : mg "list" = none)
    (c_law_draw : Cal P w K mg base CX0 2 "_law_draw" (sp_law_draw K))
    (c_law_equal : Cal P w K mg base CX0 9 "_law_equal" (spEqW K 4))
    (c_law_hear : Cal P w K mg base CX0 3 "_law_hear" (sp_law_hear K C_Clerk C_Route C_Call))
    (c_Clerk_idle : CalM P w K mg base CX0 1 C_Clerk "idle" (sp_Clerk_idle K C_Clerk C_Route C_Call))
    (c_Clerk_events : CalM P w K mg base CX0 1 C_Clerk "events" (sp_Clerk_events K C_Clerk C_Route C_Call))
    (c_Clerk_act : CalM P w K mg base CX0 6 C_Clerk "act" (sp_Clerk_act K C_Clerk C_Route C_Call C_Attempt))
    (c_Clerk___init__ : CalI P w K mg base CX0 1 C_Clerk (sp_Clerk___init__ K C_Clerk C_Route C_Call))
    (c_law_deals : Cal P w K mg base CX0 3 "_law_deals" (sp_law_deals K))
    (c_law_numbers : Cal P w K mg base CX0 2 "_law_numbers" (sp_law_numbers K)) : FnOk P w K mg base CX0 10 f fd ["script"] (sp_law K) := by
  refine D.fn.ok sc_law (fun vs H Q E h => ?_) fun cdv A0 outer s H vs Q E hr h => ?_
  · obtain ⟨a, ns, rfl, _⟩ := h; rfl
  obtain ⟨sc, ns, rfl, ha, hl, k⟩ := h
  have j := J.start H
  refine ⟨_, (pss_cons (ps_set (i := 1) sc_law.nd rfl (Or.inl rfl) (pe_lst (pa_cons (pe_cal c_law_numbers hr (by first | decide | omega) (by rfl) (pa_cons (pv 0) pa_nil)) (pa_cons pe_int pa_nil))))
(pss_cons (ps_set (i := 2) sc_law.nd rfl (Or.inl rfl) (pe_op op_mod (pe_cal c_law_draw hr (by first | decide | omega) (by rfl) (pa_cons (pv 1) pa_nil)) pe_int))
(pss_cons (ps_set (i := 3) sc_law.nd rfl (Or.inl rfl) (pe_op (op_uAddK (K := K) rfl) pe_int (pe_op op_mod (pe_cal c_law_draw hr (by first | decide | omega) (by rfl) (pa_cons (pv 1) pa_nil)) pe_int)))
(pss_cons (ps_set (i := 4) sc_law.nd rfl (Or.inl rfl) (pe_cal c_law_deals hr (by first | decide | omega) (by rfl) (pa_cons (pv 1) pa_nil)))
(pss_cons (ps_setLc (i := 5) (own := [("deal", 16)]) (by rfl) sc_law.nd rfl rfl (sw_true rfl rfl rfl (by decide +kernel)) (pi_list (pv 4)) (blkOk_by (own := [("deal", 16)]) (N := n_law) (sc := defScope s_law) (by decide +kernel)) (fun _ _ _ _ _ => (pg_name (i := 16) sc_law.nd rfl (Or.inl rfl))) (fun _ _ _ _ _ => pts_nil) (fun _ _ _ _ _ => (pe_callTy (call_listC (K := K) rfl) (by rfl) b_list bt_list (pa_cons (pv 16) pa_nil))))
(pss_cons (ps_set (i := 6) sc_law.nd rfl (Or.inl rfl) (pe_calI c_Clerk___init__ T_Clerk.gC hr (by first | decide | omega) (by rfl) (pa_cons (pv 2) (pa_cons (pv 3) (pa_cons (pv 5) pa_nil)))))
(pss_cons (ps_if (PW.pt (pw_or (pt_not (pt_val (pe_cal c_law_equal hr (by first | decide | omega) (by rfl) (pa_cons (pv 5) (pa_cons (pv 4) pa_nil))))) (pw_or1 (pt_not (pt_val (pe_cal c_law_equal hr (by first | decide | omega) (by rfl) (pa_cons (pe_fld (pv 6) rfl) (pa_cons (pv 2) pa_nil))))))))
(pss_one (ps_ret pe_bl))
pss_nil)
(pss_cons (ps_expr (pe_bm PySem.F.plainAttrs_list PySem.F.slot_list_append PySem.F.type_list_append mt_append (pv 5) (pa_cons (pe_lst (pa_cons (pe_tup (pa_cons pe_str (pa_cons pe_int pa_nil))) pa_nil)) pa_nil)))
(pss_cons (ps_if (PW.pt (pw_or (pt_not (pt_val (pe_cal c_law_equal hr (by first | decide | omega) (by rfl) (pa_cons (pe_lc (own := [("deal", 16)]) (by rfl) sc_law.nd (pi_list (pe_fld (pv 6) rfl)) (blkOk_by (own := [("deal", 16)]) (N := n_law) (sc := defScope s_law) (by decide +kernel)) (fun _ _ _ _ _ => (pg_name (i := 16) sc_law.nd rfl (Or.inl rfl))) (fun _ _ _ _ _ => pts_nil) (fun _ _ _ _ _ => (pe_callTy (call_listC (K := K) rfl) (by rfl) b_list bt_list (pa_cons (pv 16) pa_nil)))) (pa_cons (pv 4) pa_nil))))) (pw_or1 (pt_not (pt_val (pe_cal c_law_equal hr (by first | decide | omega) (by rfl) (pa_cons (pe_calM0 c_Clerk_events T_Clerk.cl hr (by first | decide | omega) (pv 6)) (pa_cons (pe_lst pa_nil) pa_nil))))))))
(pss_one (ps_ret pe_bl))
pss_nil)
(pss_cons (ps_set (i := 7) sc_law.nd rfl (Or.inl rfl) pe_int)
(pss_cons (ps_set (i := 8) sc_law.nd rfl (Or.inl rfl) pe_int)
(pss_cons (ps_set (i := 9) sc_law.nd rfl (Or.inl rfl) pe_bl)
(pss_cons (ps_set (i := 10) sc_law.nd rfl (Or.inl rfl) pe_non)
(pss_cons (ps_for PassesOwn.never rfl (pi_range1 (by rfl) b_range (pa_cons (pe_op (op_uAddK (K := K) rfl) pe_int (pe_op op_mod (pe_cal c_law_draw hr (by first | decide | omega) (by rfl) (pa_cons (pv 1) pa_nil)) pe_int)) pa_nil)) (pg_name (i := 11) sc_law.nd rfl (Or.inl rfl))
(pss_cons (ps_set (i := 12) sc_law.nd rfl (Or.inl rfl) (pe_calM0 c_Clerk_act T_Clerk.cl hr (by first | decide | omega) (pv 6)))
(pss_cons (ps_if (pt_cmpR (op_uEqK (K := K) rfl hr) (pe_callB (call_uLenK (K := K) rfl) (by rfl) b_len PySem.boot_len (pa_cons (pv 4) pa_nil)) pe_int (nomark _))
(pss_cons (ps_if (PW.pt (pw_or (pt_not (pt_val (pe_cal c_law_equal hr (by first | decide | omega) (by rfl) (pa_cons (pv 12) (pa_cons (pe_lst pa_nil) pa_nil))))) (pw_or (pt_not (pt_val (pe_cal c_law_equal hr (by first | decide | omega) (by rfl) (pa_cons (pe_calM0 c_Clerk_events T_Clerk.cl hr (by first | decide | omega) (pv 6)) (pa_cons (pe_lst pa_nil) pa_nil))))) (pw_or1 (pt_cmpR op_isnot_bl (pe_calM0 c_Clerk_idle T_Clerk.cl hr (by first | decide | omega) (pv 6)) pe_bl (nomark _))))))
(pss_one (ps_ret pe_bl))
pss_nil)
(pss_one ps_continue))
pss_nil)
(pss_cons (ps_if (PW.pt (pw_and (pt_cmpR op_gt (pv 11) pe_int (nomark _)) (pw_and (pt_cmp (pc_notN (pv 10))) (pw_and1 (pt_not (pt_val (pv 9)))))))
(pss_cons (ps_set (i := 7) sc_law.nd rfl (Or.inl rfl) (pv 10))
(pss_one (ps_set (i := 9) sc_law.nd rfl (Or.inl rfl) pe_bl)))
(pss_one (ps_if (pt_cmpR op_gt (pv 11) pe_int (nomark _))
(pss_cons (ps_set (i := 8) sc_law.nd rfl (Or.inl rfl) (pe_op op_mod (pe_op (op_uAddK (K := K) rfl) (pv 8) pe_int) (pv 3)))
(pss_cons (ps_set (i := 7) sc_law.nd rfl (Or.inl rfl) (pv 8))
(pss_one (ps_set (i := 9) sc_law.nd rfl (Or.inl rfl) pe_bl))))
pss_nil)))
(pss_cons (ps_set (i := 10) sc_law.nd rfl (Or.inl rfl) pe_non)
(pss_cons (ps_if (pt_not (pt_val (pe_cal c_law_equal hr (by first | decide | omega) (by rfl) (pa_cons (pv 12) (pa_cons (pe_lst (pa_cons (pe_tup (pa_cons (pv 7) (pa_cons (pe_tup (pa_cons pe_str (pa_cons pe_int (pa_cons pe_int (pa_cons (pe_tup (pa_cons pe_str pa_nil)) pa_nil))))) pa_nil))) pa_nil)) pa_nil)))))
(pss_one (ps_ret pe_bl))
pss_nil)
(pss_cons (ps_set (i := 13) sc_law.nd rfl (Or.inl rfl) (pe_lst pa_nil))
(pss_cons (ps_if (pt_cmpR (op_uEqK (K := K) rfl hr) (pv 11) pe_int (nomark _))
(pss_one (ps_set (i := 13) sc_law.nd rfl (Or.inl rfl) (pe_lst (pa_cons (pe_tup (pa_cons pe_str (pa_cons (pv 2) (pa_cons pe_int pa_nil)))) pa_nil))))
pss_nil)
(pss_cons (ps_if (PW.pt (pw_or (pt_not (pt_val (pe_cal c_law_equal hr (by first | decide | omega) (by rfl) (pa_cons (pe_calM0 c_Clerk_events T_Clerk.cl hr (by first | decide | omega) (pv 6)) (pa_cons (pv 13) pa_nil))))) (pw_or1 (pt_cmpR op_isnot_bl (pe_calM0 c_Clerk_idle T_Clerk.cl hr (by first | decide | omega) (pv 6)) pe_bl (nomark _)))))
(pss_one (ps_ret pe_bl))
pss_nil)
(pss_cons (ps_if (PW.pt (pw_or (pt_not (pt_val (pe_cal c_law_equal hr (by first | decide | omega) (by rfl) (pa_cons (pe_lst (pa_cons (pe_fld (pv 6) rfl) (pa_cons (pe_fld (pv 6) rfl) pa_nil))) (pa_cons (pe_lst (pa_cons pe_int (pa_cons pe_bl pa_nil))) pa_nil))))) (pw_or1 (pt_not (pt_val (pe_cal c_law_equal hr (by first | decide | omega) (by rfl) (pa_cons (pe_fld (pv 6) rfl) (pa_cons (pe_lst (pa_cons (pe_tup (pa_cons pe_int (pa_cons pe_int (pa_cons pe_int pa_nil)))) pa_nil)) pa_nil))))))))
(pss_one (ps_ret pe_bl))
pss_nil)
(pss_one (ps_for PassesOwn.never rfl (pi_range1 (by rfl) b_range (pa_cons (pe_op op_mod (pe_cal c_law_draw hr (by first | decide | omega) (by rfl) (pa_cons (pv 1) pa_nil)) pe_int) pa_nil)) (pg_name (i := 14) sc_law.nd rfl (Or.inl rfl))
(pss_cons (ps_set (i := 15) sc_law.nd rfl (Or.inl rfl) (pe_cal c_law_hear hr (by first | decide | omega) (by rfl) (pa_cons (pv 1) (pa_cons (pv 6) (pa_cons (pv 7) (pa_cons (pv 3) (pa_cons (pv 10) pa_nil)))))))
(pss_cons (ps_set (i := 10) sc_law.nd rfl (Or.inl rfl) (pe_ix (ix_uK (K := K) rfl) (pv 15) pe_int (fun _ _ => rfl)))
(pss_one (ps_if (pt_not (pt_val (pe_cal c_law_equal hr (by first | decide | omega) (by rfl) (pa_cons (pe_ix (ix_uK (K := K) rfl) (pv 15) pe_int (fun _ _ => rfl)) (pa_cons (pe_lst pa_nil) pa_nil)))))
(pss_one (ps_ret pe_bl))
pss_nil))))))))))))))))
(pss_one (ps_ret pe_bl)))))))))))))))), ?_⟩
  walk_at "start"
  refine w_sg (sc, ns) j ⟨rfl, ha, hl⟩ fun v M1 G1 H1 j1 e1 ⟨q, nums, ev, hq, hn, em⟩ => ?_
  subst ev em
  walk_at "go"
  refine w_newM j1 (by show 2 ≤ sizeLine; decide) fun p H2 j2 nM nG => ?_
  walk_at "go"
  have d2 : Dr K (upd (fun _ => none) p (.lst [.ref q, .int 0])) G1 p := ⟨q, nums, 0, upd_same, sl_of hq, hn, Int.le_refl _⟩
  have nt2 : NoT (upd (fun _ => none) p (.lst [.ref q, .int 0])) := NoT.emp.updL
  generalize upd (fun _ => none) p (.lst [.ref q, .int 0]) = M2 at *
  refine use_draw j2 d2 fun n3 M3 G3 H3 _ _ j3 e3 d3 a3 => ?_
  obtain ⟨xs3, hx3⟩ := d3.atR
  have nt3 : NoT M3 := nt2.ag a3 hx3 fun _ z => nomatch z
  walk_at "go"
  refine use_draw j3 d3 fun n4 M4 G4 H4 _ _ j4 e4 d4 a4 => ?_
  obtain ⟨xs4, hx4⟩ := d4.atR
  have nt4 : NoT M4 := nt3.ag a4 hx4 fun _ z => nomatch z
  walk_at "go"
  obtain ⟨many, hmany, mpos⟩ : ∃ many, many = 1 + n4 % 5 ∧ 0 < many := ⟨_, rfl, by omega⟩
  obtain ⟨client, hclient⟩ : ∃ client, client = n3 % 4 := ⟨_, rfl⟩
  rw [← hmany, ← hclient]
  refine w_sg (α := Addr) p j4 ⟨rfl, d4, nt4⟩ fun v M5 G5 H5 j5 e5 ⟨d5, nt5, dq, ds, ev, hdq, hds, hdl⟩ => ?_
  subst ev
  have hds : DlsG G5 ds := hds
  walk_at "go"
  refine w_lcl j5 (fun L i acc M G => Ex G5 G ∧ Ag L M5 M ∧ M5 L = none ∧ ∃ es : List (Addr × List Addr × List Op), acc = es.map (fun d => V.ref d.1) ∧ DlsG G es ∧ es.map (fun d => (d.2.1, d.2.2)) = (ds.take i).map (fun d => (d.2.1, d.2.2))) (sl_of hdq) ?_ (fun _ _ _ _ _ h => h.1) (fun _ => rfl) ?_ ?_
  · exact fun L h1 h2 => ⟨Same.refl _, Ag.upd, h1, [], rfl, fun d h => (nomatch h), rfl⟩
  · rintro L i x acc M2 G2 H2 R hxi j2 hL ⟨e2, a2, mL, es, rfl, hes, hmm⟩ hR
    obtain ⟨d, hd, rfl⟩ : ∃ d, ds[i]? = some d ∧ x = V.ref d.1 := by
      rw [List.getElem?_map] at hxi
      cases h : ds[i]? with
      | none => rw [h] at hxi; cases hxi
      | some d => rw [h] at hxi; exact ⟨d, rfl, (Option.some.inj hxi).symm⟩
    have hil : i < 4 := by have := (List.getElem?_eq_some_iff.mp hd).1; omega
    have dld : IsDeal G2 d.1 d.2.1 d.2.2 := (hds d (List.mem_of_getElem? hd)).ex e2
    refine w_yes (hR _ _ (w_T ?_))
    walk_at "go"
    refine w_listC (.inl (sl_of (j2.g _ _ dld.1))) (w_new j2 (Nat.zero_le _) fun u G3 H3 j3 e3 hu _ => ?_)
    have hl2 : es.length = i := by have h9 := (List.getElem?_eq_some_iff.mp hd).1; have := congrArg List.length hmm; rw [List.length_map, List.length_map, List.length_take] at this; omega
    refine StepL.go (P := fun L i acc M G => Ex G5 G ∧ Ag L M5 M ∧ M5 L = none ∧ ∃ es : List (Addr × List Addr × List Op), acc = es.map (fun d => V.ref d.1) ∧ DlsG G es ∧ es.map (fun d => (d.2.1, d.2.2)) = (ds.take i).map (fun d => (d.2.1, d.2.2))) ⟨M2, G3, j3, hL, sz_lt (by rw [List.length_map]; omega), e2.trans e3, a2.trans Ag.upd, mL, es ++ [(u, d.2.1, d.2.2)], by rw [List.map_append]; rfl, fun x hx => ?_, by rw [List.map_append, hmm, take_snoc hd, List.map_append]; rfl⟩
    rcases List.mem_append.mp hx with hx | hx
    · exact (hes x hx).ex e3
    · rw [List.mem_singleton.mp hx]; exact ⟨hu, (dld.ex e3).2⟩
  rintro L acc M6 G6 H6 j6 hL6 ⟨e6, a6, mL, es, rfl, hes, hmm⟩
  rw [List.length_map, List.take_length] at hmm
  have hle : es.length ≤ 4 := by have := congrArg List.length hmm; rw [List.length_map, List.length_map] at this; omega
  have eops : DlsD es = DlsD ds := by
    unfold DlsD
    have h := congrArg (List.map Prod.snd) hmm
    rw [List.map_map, List.map_map] at h
    have h : es.map (·.2.2) = ds.map (·.2.2) := h
    rw [h]
  have pL : p ≠ L := fun z => by
    obtain ⟨xs, hx⟩ := d5.atR
    rw [z, mL] at hx; cases hx
  have d6 : Dr K M6 G6 p := (d5.ex e6).mvR fun o ho => (a6 p pL).trans ho
  have nt6 : NoT M6 := nt5.ag a6 hL6 fun _ z => nomatch z
  walk_at "go"
  refine w_makeX j6 fun c dx H7 j7 nx gx => ?_
  obtain ⟨xs6, hx6⟩ := d6.atR
  have pc : p ≠ c := fun z => by rw [z, nx] at hx6; cases hx6
  have Lc : L ≠ c := fun z => by rw [z, nx] at hL6; cases hL6
  refine w_sg (α := CkP) ⟨c, dx, client, many, L, es⟩ j7 ⟨rfl, upd_same, .inl (upd_ne' hL6 Lc), hes, by dsimp only; omega, nt6.upd (fun _ z => nomatch z), Lc⟩ fun v M8 G8 H8 j8 e8 ⟨ev, x8, hA8, x_p, x_client, x_machines, x_number, x_busy, x_places, x_ro, x_token, x_co, x_av, x_ac, x_ao, x_tries, x_news, x_dls, x_kp, x_nw⟩ => ⟨ev, ?_⟩
  dsimp only at x_p x_client x_machines x_dls x_kp x_nw
  have ncell : ∀ b o, M6 b = some o → b ≠ c → b ∉ x8.cells := fun b o hb bc m => by
    rcases x_nw b m with z | z
    · exact bc z
    · rw [upd_ne bc, hb] at z; cases z
  have d8 : Dr K M8 G8 p := (d6.ex e8).mvR fun o ho => x_kp p o (upd_ne' ho pc) pc
  have hC8 : CdA K C_Clerk C_Route C_Call M8 G8 x8 p := ⟨d8, hA8, ncell p _ hx6 pc⟩
  have hL8 : M8 L = some (.lst (es.map fun d => V.ref d.1)) := x_kp L _ (upd_ne' hL6 Lc) Lc
  have nL8 : L ∉ x8.cells := ncell L _ hL6 Lc
  have edls : DlsD x8.dls = DlsD ds := by
    unfold DlsD
    have h := congrArg (List.map Prod.snd) (x_dls.trans hmm)
    rw [List.map_map, List.map_map] at h
    have h : x8.dls.map (·.2.2) = ds.map (·.2.2) := h
    rw [h]
  have ldls : x8.dls.length = ds.length := by have := congrArg List.length (x_dls.trans hmm); rw [List.length_map, List.length_map] at this; exact this
  have hes8 := hes.ex e8
  have hds8 := (hds.ex e6).ex e8
  have hdq8 := e8 _ _ (e6 _ _ hdq)
  clear hes hds hdq x_kp x_nw hx6 hL6
  rw [← x_p]
  clear e8 j7 j6 j5
  have okds : okD 4 (DlsD ds) := okD_dls 1 hds8 (by omega)
  walk_at "go"
  have js := j8.seal hL8
  have gL8 := j8.out hL8
  have es8 : Ex G8 (upd G8 L (.lst (es.map fun d => V.ref d.1))) := Ex.new gL8
  refine use_eqt js (eops ▸ dp_dls upd_same (hes8.ex es8)) (dp_dls (es8 _ _ hdq8) (hds8.ex es8)) okds fun G9 H9 j9 e9 => ?_
  have j9 := j9.back e9 hL8 gL8
  walk_at "go"
  refine w_fldM j9 hC8.cl.op T_Clerk.cl T_Clerk.n_client fl_Clerk_client ?_
  rw [x_client]
  walk_at "go"
  refine use_eqt j9 (.int _) (.int _) trivial fun G10 H10 j10 e10 => ?_
  walk_at "go"
  refine ⟨ty_listM j10 hL8, ?_⟩
  walk_at "go"
  refine w_new j10 (by show 2 ≤ sizeLine; decide) fun t0 G11 H11 j11 e11 ht0 _ => ?_
  walk_at "go"
  refine w_new j11 (by show 1 ≤ sizeLine; decide) fun t1 G12 H12 j12 e12 ht1 _ => ?_
  walk_at "go"
  refine w_appendA j12 hL8 (by rw [List.length_map]; omega) fun H13 j13 => ?_
  have E12 := e10.trans (e11.trans e12)
  have hC13 : CdA K C_Clerk C_Route C_Call (upd M8 L (.lst (es.map (fun d => V.ref d.1) ++ [V.ref t1]))) G12 x8 p := ⟨(d8.upd fun z => pL z.symm).ex E12, ⟨CellsC.off hC8.cl.c nL8, hC8.cl.n, hC8.cl.d.ex E12, hC8.cl.nt.upd fun _ z => nomatch z⟩, hC8.np⟩
  have hds12 := hds8.ex E12
  have hdq12 := E12 _ _ hdq8
  generalize upd M8 L (.lst (es.map (fun d => V.ref d.1) ++ [V.ref t1])) = M13 at *
  clear hC8 hds8 hdq8 hes8 hL8 nL8
  walk_at "go"
  refine w_fldM j13 hC13.cl.op T_Clerk.cl T_Clerk.n_deals fl_Clerk_deals ?_
  refine w_lcLro j13 (sl_of hC13.cl.d.da) (fun i acc G1 => ∃ es : List (Addr × List Addr × List Op), acc = es.map (fun d => V.ref d.1) ∧ DlsG G1 es ∧ es.map (fun d => (d.2.1, d.2.2)) = (x8.dls.take i).map (fun d => (d.2.1, d.2.2))) ⟨[], rfl, (fun d z => nomatch z), rfl⟩ ?_ ?_
  · rintro L i y acc G1 H1 hy nM j1 e1 ⟨es, rfl, hes, hmm⟩
    rw [List.getElem?_map] at hy
    cases hd : x8.dls[i]? with
    | none => rw [hd] at hy; cases hy
    | some d =>
    rw [hd] at hy
    obtain rfl := Option.some.inj hy
    have hdd := (hC13.cl.d.dd d (List.mem_of_getElem? hd)).ex e1
    have hle : es.length ≤ 60 := by
      have := congrArg List.length hmm
      rw [List.length_map, List.length_map, List.length_take] at this
      omega
    refine w_gName ⟨rfl, ?_⟩
    walk_at "go"
    refine w_listC (.inl (sl_of (j1.g _ _ hdd.1))) (w_new j1 (Nat.zero_le _) fun l2 G2 H2 j2 e2 hl2 _ => ?_)
    refine ro_add j2 (e1.trans e2) (by rw [List.length_map]; omega) ⟨es ++ [(l2, d.2.1, d.2.2)], by rw [List.map_append]; rfl, fun z hz => ?_, ?_⟩
    · rcases List.mem_append.mp hz with w | w
      · exact (hes z w).ex e2
      · rw [List.mem_singleton.mp w]; exact ⟨hl2, (hdd.ex e2).2⟩
    · rw [List.map_append, hmm, List.take_add_one, hd, List.map_append]; rfl
  rintro dl acc G14 G15 H15 j15 e14 e15 hdl15 ⟨es2, rfl, hes2, hmm2⟩
  rw [List.length_map, List.take_length] at hmm2
  have eops2 : DlsD es2 = DlsD ds := by
    rw [← edls]
    unfold DlsD
    have h := congrArg (List.map Prod.snd) hmm2
    rw [List.map_map, List.map_map] at h
    have h : es2.map (·.2.2) = x8.dls.map (·.2.2) := h
    rw [h]
  have E15 := e14.trans e15
  walk_at "go"
  refine use_eqt j15 (eops2 ▸ dp_dls hdl15 (hes2.ex e15)) (dp_dls (E15 _ _ hdq12) (hds12.ex E15)) okds fun G16 H16 j16 e16 => ?_
  have hC16 := (hC13.ex E15).ex e16
  have hds16 := (hds12.ex E15).ex e16
  have hdq16 := e16 _ _ (E15 _ _ hdq12)
  clear hC13 hds12 hdq12 hes2 hdl15
  walk_at "go"
  refine w_methM j16 hC16.cl.op (no_Clerk (by decide +kernel) (by decide +kernel) (by decide +kernel) (by decide +kernel) (by decide +kernel) (by decide +kernel) (by decide +kernel) (by decide +kernel) (by decide +kernel) (by decide +kernel) (by decide +kernel) (by decide +kernel)) ?_
  walk_at "go"
  refine w_sg (α := ClX) x8 j16 ⟨rfl, hC16.cl⟩ fun v M17 G17 H17 j17 e17 ⟨q17, vs17, nw17, ev, hq17, hv17, hS17⟩ => ?_
  subst ev
  have hC17 := hC16.step e17 hS17
  walk_at "go"
  refine w_new j17 (Nat.zero_le _) fun n0 G18 H18 j18 e18 hn0 _ => ?_
  walk_at "go"
  refine use_eqt (d := .list []) j18 (.lst (sl_of (e18 _ _ hq17)) (by rw [x_news] at hv17; exact dpAll_mono e18 hv17)) (.lst (sl_of hn0) .nil) ⟨by decide, fun d z => nomatch z⟩ fun G19 H19 j19 e19 => ?_
  have hC19 := (hC17.ex e18).ex e19
  have E19 := e17.trans (e18.trans e19)
  have hds19 := hds16.ex E19
  have hdq19 := E19 _ _ hdq16
  obtain ⟨x, hx⟩ : ∃ x, x = ({ x8 with nw := nw17, nwv := [], news := [] } : ClX) := ⟨_, rfl⟩
  have hS : CdA K C_Clerk C_Route C_Call M17 G19 x p ∧ x.p = x8.p ∧ x.client = client ∧ x.machines = many ∧ x.number = 0 ∧ x.busy = false ∧ x.places = [plD 0 1000 1] ∧ x.ro = [] ∧ x.token = 0 ∧ x.co = [] ∧ x.av = .non ∧ x.ac = [] ∧ x.news = [] ∧ x.dls.length = ds.length := by
    rw [hx]; exact ⟨hC19, rfl, x_client, x_machines, x_number, x_busy, x_places, x_ro, x_token, x_co, x_av, x_ac, rfl, ldls⟩
  obtain ⟨hC, y_p, y_client, y_machines, y_number, y_busy, y_places, y_ro, y_token, y_co, y_av, y_ac, y_news, y_dls⟩ := hS
  clear hx hC19 hC17 hC16 hS17 x_client x_machines x_number x_busy x_places x_ro x_token x_co x_av x_ac x_ao x_tries x_news x_dls hds16 hdq16
  rw [← y_p]
  walk_at "go"
  refine use_draw j19 hC.dr fun n20 M20 G20 H20 _ _ j20 e20 d20 a20 => ?_
  have hC20 := hC.draw e20 d20 a20
  walk_at "go"
  have hds20 := hds19.ex e20
  have hdq20 := e20 _ _ hdq19
  clear hC hds19 hdq19 j19 j18 j17 j16 j15 j13 j12 j11 j10 j9 j8 js
  by_cases hz : ds = []
  · subst hz
    refine w_rng (fun i σ H => ∃ M G y u12, J M G H ∧ Ex G20 G ∧ CdA K C_Clerk C_Route C_Call M G y p ∧ y.p = x.p ∧ y.machines = many ∧ y.number = 0 ∧ y.busy = false ∧ y.ro = [] ∧ y.co = [] ∧ y.dls = [] ∧ y.av = .non ∧ y.ac = [] ∧ y.news = [] ∧ ∃ u11 u13 u14 u15 u16, σ = [some (.ref sc), some (.ref p), some (.int client), some (.int many), some (.ref dq), some (.ref L), some (.ref x.p), some (.int 0), some (.int 0), some (.bl false), some .non, u11, u12, u13, u14, u15, u16]) ⟨M20, G20, x, _, j20, Same.refl _, hC20, rfl, y_machines, y_number, y_busy, y_ro, y_co, List.length_eq_zero_iff.mp y_dls, y_av, y_ac, y_news, _, _, _, _, _, rfl⟩ ?_ ?_ (by omega) (by omega)
    rotate_left
    · rintro σ H ⟨M, G, y, u12, j, e, hC, h1, h2, h3, h4, h5, h6, h7, h8, h9, h10, u11, u13, u14, u15, u16, rfl⟩
      walk_at "go"
      exact k _
    rintro i σ H hi ⟨M, G, y, u12, j, e, hC, h1, h2, h3, h4, h5, h6, h7, h8, h9, h10, u11, u13, u14, u15, u16, rfl⟩
    rw [← h1]
    walk_at "go"
    refine w_methM j hC.cl.op (no_Clerk (by decide +kernel) (by decide +kernel) (by decide +kernel) (by decide +kernel) (by decide +kernel) (by decide +kernel) (by decide +kernel) (by decide +kernel) (by decide +kernel) (by decide +kernel) (by decide +kernel) (by decide +kernel)) ?_
    walk_at "go"
    refine w_sg (α := ClX) y j ⟨rfl, hC.cl, by rw [h2]; exact mpos, by rw [h5, h6]; decide, .inl ⟨h8, h9⟩, (fun z hz => by rw [h6] at hz; cases hz), by rw [h3]; exact Int.le_refl _, (fun z => by rw [h4] at z; cases z), by rw [h10]; decide⟩ fun v M1 G1 H1 j1 e1 hE => ?_
    obtain ⟨q1, rfl, hq1, y1, hS1, i1, i2, i3, i4, i5, i6, i7, i8, i9⟩ := ActE.idle hE h6 h5 h4 h3 h7
    have hC1 := hC.step e1 hS1
    have pe1 : y1.p = y.p := hS1.f.pe
    rw [← pe1]
    walk_at "go"
    refine w_lenL j1 (sl_of (e1 _ _ (e _ _ hdq20))) ?_
    walk_at "go"
    refine w_dT (show (((List.map (fun d => V.ref d.1) ([] : List (Addr × List Addr × List Op))).length : Nat) : Int) = 0 by rfl) ?_
    walk_at "go"
    refine w_new j1 (Nat.zero_le _) fun t2 G2 H2 j2 e2 ht2 _ => ?_
    walk_at "go"
    refine use_eqt (d := .list []) j2 (.lst (sl_of (e2 _ _ hq1)) .nil) (.lst (sl_of ht2) .nil) ⟨by decide, fun d z => nomatch z⟩ fun G3 H3 j3 e3 => ?_
    have hC3 := (hC1.ex e2).ex e3
    walk_at "go"
    refine w_methM j3 hC3.cl.op (no_Clerk (by decide +kernel) (by decide +kernel) (by decide +kernel) (by decide +kernel) (by decide +kernel) (by decide +kernel) (by decide +kernel) (by decide +kernel) (by decide +kernel) (by decide +kernel) (by decide +kernel) (by decide +kernel)) ?_
    walk_at "go"
    refine w_sg (α := ClX) y1 j3 ⟨rfl, hC3.cl⟩ fun v M4 G4 H4 j4 e4 ⟨q4, vs4, nw4, ev, hq4, hv4, hS4⟩ => ?_
    subst ev
    have hC4 := hC3.step e4 hS4
    walk_at "go"
    refine w_new j4 (Nat.zero_le _) fun t5 G5 H5 j5 e5 ht5 _ => ?_
    walk_at "go"
    refine use_eqt (d := .list []) j5 (.lst (sl_of (e5 _ _ hq4)) (by rw [i9, h10] at hv4; exact dpAll_mono e5 hv4)) (.lst (sl_of ht5) .nil) ⟨by decide, fun d z => nomatch z⟩ fun G6 H6 j6 e6 => ?_
    have hC6 := (hC4.ex e5).ex e6
    walk_at "go"
    refine w_methM j6 hC6.cl.op (no_Clerk (by decide +kernel) (by decide +kernel) (by decide +kernel) (by decide +kernel) (by decide +kernel) (by decide +kernel) (by decide +kernel) (by decide +kernel) (by decide +kernel) (by decide +kernel) (by decide +kernel) (by decide +kernel)) ?_
    walk_at "go"
    refine w_sg (α := ClX) { y1 with nw := nw4, nwv := [], news := [] } j6 ⟨rfl, hC6.cl⟩ fun v M7 G7 H7 j7 e7 ⟨ev, em⟩ => ?_
    subst ev em
    have hid : idleB { y1 with nw := nw4, nwv := [], news := [] } = true := by
      unfold idleB
      dsimp only
      rw [i3, i5, i4, i1]; rfl
    rw [hid]
    walk_at "go"
    refine w_isNB ?_
    walk_at "go"
    exact ⟨_, G7, _, _, j7, e.trans (e1.trans (e2.trans (e3.trans (e4.trans (e5.trans (e6.trans e7)))))), hC6.ex e7, rfl, i8.trans h2, i4, i3, i2, i1, i5, i6.trans h8, i7.trans h9, rfl, _, _, _, _, _, rfl⟩
  · have hpos : 0 < ds.length := Nat.pos_of_ne_zero fun z => hz (List.length_eq_zero_iff.mp z)
    refine w_rng (fun i σ H => ∃ M G y hint host place named, J M G H ∧ Ex G20 G ∧ CdA K C_Clerk C_Route C_Call M G y p ∧ y.p = x.p ∧ y.client = client ∧ y.machines = many ∧ y.number = 0 ∧ y.places = [plD 0 1000 1] ∧ y.dls.length = ds.length ∧ y.news = [] ∧ Ph50 y hint host place named i ∧ ∃ u11 u12 u13 u14 u15 u16, σ = [some (.ref sc), some (.ref p), some (.int client), some (.int many), some (.ref dq), some (.ref L), some (.ref x.p), some (.int host), some (.int place), some (.bl named), some (oV hint), u11, u12, u13, u14, u15, u16]) ⟨M20, G20, x, none, 0, 0, false, j20, Same.refl _, hC20, rfl, y_client, y_machines, y_number, y_places, y_dls, y_news, .inl ⟨rfl, y_busy, y_ro, y_co, y_av, y_ac, y_token, rfl, rfl, rfl, rfl⟩, _, _, _, _, _, _, rfl⟩ ?_ ?_ (by omega) (by omega)
    rotate_left
    · rintro σ H ⟨M, G, y, hint, host, place, named, j, e, hC, h1, h2, h3, h4, h5, h6, h7, hp, u11, u12, u13, u14, u15, u16, rfl⟩
      walk_at "go"
      exact k _
    rintro i σ H hi ⟨M, G, y, hint, host, place, named, j, e, hC, h1, h2, h3, h4, h5, h6, h7, hp, u11, u12, u13, u14, u15, u16, rfl⟩
    rw [← h1]
    walk_at "go"
    refine w_methM j hC.cl.op (no_Clerk (by decide +kernel) (by decide +kernel) (by decide +kernel) (by decide +kernel) (by decide +kernel) (by decide +kernel) (by decide +kernel) (by decide +kernel) (by decide +kernel) (by decide +kernel) (by decide +kernel) (by decide +kernel)) ?_
    walk_at "go"
    refine w_sg (α := ClX) y j (hp.pre hC.cl (by rw [h3]; exact mpos) (by rw [h4]; exact Int.le_refl _) (by rw [h4, h6]; exact_mod_cast hpos) (by rw [h7]; decide)) fun v M1 G1 H1 j1 e1 hE => ?_
    obtain ⟨q1, lv, y1, d1, hS1, rfl, hq1, hlv, i1, i2, i3, i4, i5, i6, i7, i8, i9, i10, i11, id1⟩ := hp.act hE h4 (by rw [h6]; exact hpos) h7
    have hC1 := hC.step e1 hS1
    have pe1 : y1.p = y.p := hS1.f.pe
    rw [← pe1]
    walk_at "go"
    refine w_lenL j1 (sl_of (e1 _ _ (e _ _ hdq20))) ?_
    walk_at "go"
    refine w_dF (show ¬ (((List.map (fun d => V.ref d.1) ds).length : Nat) : Int) = 0 by rw [List.length_map]; omega) ?_
    walk_at "to"
    refine w_seqO (fun σ H => J M1 G1 H ∧ σ = [some (.ref sc), some (.ref p), some (.int client), some (.int many), some (.ref dq), some (.ref L), some (.ref y1.p), some (.int d1.mc), some (.int d1.tn), some (.bl d1.tk), some (oV hint), some (.int i), some (.ref q1), u13, u14, u15, u16]) ?_ fun N hN => ?_
    rotate_left
    · walk_at "go"
      refine w_dec (fun c => ?_) (fun c => ?_)
      · have c : ¬ i = 0 := by omega
        rw [if_neg c] at id1
        walk_at "go"
        cases hint with
        | none =>
          refine w_nT rfl ?_
          walk_at "go"
          refine w_dT (by omega) ?_
          walk_at "go"
          refine w_I (mpos) ?_
          walk_at "go"
          exact hN _ _ ⟨j1, by rw [id1, h3]; rfl⟩
        | some m =>
          refine w_nF (fun z => nomatch z) ?_
          walk_at "go"
          cases named with
          | false =>
            walk_at "go"
            exact hN _ _ ⟨j1, by rw [id1, h3]; rfl⟩
          | true =>
            walk_at "go"
            refine w_dT (by omega) ?_
            walk_at "go"
            refine w_I (mpos) ?_
            walk_at "go"
            exact hN _ _ ⟨j1, by rw [id1, h3]; rfl⟩
      · have c : i = 0 := by omega
        rw [if_pos c] at id1
        obtain ⟨rfl, rfl, rfl, rfl⟩ := hp.zero c
        walk_at "go"
        refine w_dF (by omega) ?_
        walk_at "go"
        exact hN _ _ ⟨j1, by rw [id1]; rfl⟩
    rintro σ H' ⟨j2, rfl⟩
    clear j1
    walk_at "go"
    refine w_new j2 (by show 1 ≤ sizeLine; decide) fun t3 G3 H3 j3 e3 ht3 _ => ?_
    walk_at "go"
    refine w_new j3 (by show 4 ≤ sizeLine; decide) fun t4 G4 H4 j4 e4 ht4 _ => ?_
    walk_at "go"
    refine w_new j4 (by show 2 ≤ sizeLine; decide) fun t5 G5 H5 j5 e5 ht5 _ => ?_
    walk_at "go"
    refine w_new j5 (by show 1 ≤ sizeLine; decide) fun t6 G6 H6 j6 e6 ht6 _ => ?_
    walk_at "go"
    have E46 := e5.trans e6
    have E36 := e4.trans E46
    refine use_eqt (d := .list [letD d1.mc 1 0 nextD]) j6 (.lst (sl_of ((e3.trans E36) _ _ hq1)) (dpAll_mono (e3.trans E36) hlv)) (.lst (sl_of ht6) (.cons (letD_ok (st_of (e6 _ _ ht5)) (st_of (E46 _ _ ht4)) (.tup (st_of (E36 _ _ ht3)) (.cons (.str _) .nil))) .nil)) (okD_let _ _ _) fun G7 H7 j7 e7 => ?_
    have E7 := (e3.trans E36).trans e7
    have hC7 := hC1.ex E7
    walk_at "go"
    refine w_new j7 (Nat.zero_le _) fun ev0 G8 H8 j8 e8 hev0 _ => ?_
    walk_at "to"
    refine w_seqO (fun σ H => ∃ G ea evs, J M1 G H ∧ Ex G8 G ∧ G ea = some (.lst evs) ∧ DpAll K G evs (if i = 0 then [askedD client 0] else []) ∧ σ = [some (.ref sc), some (.ref p), some (.int client), some (.int many), some (.ref dq), some (.ref L), some (.ref y1.p), some (.int d1.mc), some (.int d1.tn), some (.bl d1.tk), some .non, some (.int i), some (.ref q1), some (.ref ea), u14, u15, u16]) ?_ fun N hN => ?_
    rotate_left
    · walk_at "go"
      refine w_dec (fun c => ?_) (fun c => ?_)
      · have c : i = 0 := by omega
        walk_at "go"
        refine w_new j8 (by show 3 ≤ sizeLine; decide) fun t9 G9 H9 j9 e9 ht9 _ => ?_
        walk_at "go"
        refine w_new j9 (by show 1 ≤ sizeLine; decide) fun t10 G10 H10 j10 e10 ht10 _ => ?_
        walk_at "go"
        exact hN _ _ ⟨G10, t10, _, j10, e9.trans e10, ht10, by rw [if_pos c]; exact .cons (.tup (st_of (e10 _ _ ht9)) (.cons (.str _) (.cons (.int _) (.cons (.int _) .nil)))) .nil, rfl⟩
      · have c : ¬ i = 0 := by omega
        walk_at "go"
        exact hN _ _ ⟨G8, ev0, _, j8, Same.refl _, hev0, by rw [if_neg c]; exact .nil, rfl⟩
    rintro σ H9 ⟨G9, ea, evs, j9, e9, hea, hevs, rfl⟩
    have hC9 := (hC7.ex e8).ex e9
    have E9 := e8.trans e9
    clear j2 j3 j4 j5 j6 j7 j8
    walk_at "go"
    refine w_methM j9 hC9.cl.op (no_Clerk (by decide +kernel) (by decide +kernel) (by decide +kernel) (by decide +kernel) (by decide +kernel) (by decide +kernel) (by decide +kernel) (by decide +kernel) (by decide +kernel) (by decide +kernel) (by decide +kernel) (by decide +kernel)) ?_
    walk_at "go"
    refine w_sg (α := ClX) y1 j9 ⟨rfl, hC9.cl⟩ fun v M10 G10 H10 j10 e10 ⟨q10, vs10, nw10, ev, hq10, hv10, hS10⟩ => ?_
    subst ev
    have hC10 := hC9.step e10 hS10
    obtain ⟨y2, hy2⟩ : ∃ y2, y2 = ({ y1 with nw := nw10, nwv := [], news := [] } : ClX) := ⟨_, rfl⟩
    have hY : y2.p = y1.p ∧ cDat y2.co = [⟨1, 0, nextD, none⟩] ∧ rDat y2.ro = [(0, d1)] ∧ y2.busy = true ∧ y2.number = 0 ∧ (∃ a, y2.av = .ref a) ∧ y2.news = [] ∧ y2.client = client ∧ y2.machines = many ∧ y2.dls.length = ds.length ∧ y2.places = [plD 0 1000 1] ∧ y2.token = 1 := by
      rw [hy2]; exact ⟨rfl, i1, i2, i3, i4, i5, rfl, i7.trans h2, i8.trans h3, (by rw [i9]; exact h6), i10.trans h5, i11⟩
    rw [← hy2] at hC10
    obtain ⟨s1, s2, s3, s4, s5, s6, s7, s8, s9, s10, s11, s12⟩ := hY
    clear hy2 hS10 hC9 hC7 hC1 hS1
    rw [← s1]
    walk_at "go"
    have okev : okD 4 (.list (if i = 0 then [askedD client 0] else [])) := by
      split
      · exact ⟨by show 1 ≤ 100000; decide, fun d hd => by rw [List.mem_singleton.mp hd]; exact okD_tup 2 rfl (by show 3 ≤ 100000; decide)⟩
      · exact ⟨by show 0 ≤ 100000; decide, fun d z => nomatch z⟩
    refine use_eqt (d := .list (if i = 0 then [askedD client 0] else [])) j10 (.lst (sl_of hq10) (by rw [i6, h2] at hv10; exact hv10)) (.lst (sl_of (e10 _ _ hea)) (dpAll_mono e10 hevs)) okev fun G11 H11 j11 e11 => ?_
    have hC11 := hC10.ex e11
    walk_at "go"
    refine w_methM j11 hC11.cl.op (no_Clerk (by decide +kernel) (by decide +kernel) (by decide +kernel) (by decide +kernel) (by decide +kernel) (by decide +kernel) (by decide +kernel) (by decide +kernel) (by decide +kernel) (by decide +kernel) (by decide +kernel) (by decide +kernel)) ?_
    walk_at "go"
    refine w_sg (α := ClX) y2 j11 ⟨rfl, hC11.cl⟩ fun v M12 G12 H12 j12 e12 ⟨ev, em⟩ => ?_
    subst ev em
    have hid : idleB y2 = false := by
      unfold idleB
      rw [s4]; rfl
    rw [hid]
    have hC12 := hC11.ex e12
    walk_at "go"
    refine w_isNB ?_
    refine w_bl ?_
    refine w_nT rfl ?_
    walk_at "go"
    refine w_fldM j12 hC12.cl.op T_Clerk.cl T_Clerk.n_number fl_Clerk_number ?_
    walk_at "go"
    refine w_fldM j12 hC12.cl.op T_Clerk.cl T_Clerk.n_busy fl_Clerk_busy ?_
    rw [s4, s5]
    walk_at "go"
    refine w_new j12 (by show 2 ≤ sizeLine; decide) fun t13 G13 H13 j13 e13 ht13 _ => ?_
    walk_at "go"
    refine w_new j13 (by show 2 ≤ sizeLine; decide) fun t14 G14 H14 j14 e14 ht14 _ => ?_
    walk_at "go"
    refine use_eqt (d := .list [.int 0, .bool true]) j14 (.lst (sl_of (e14 _ _ ht13)) (.cons (.int _) (.cons (.bl _) .nil))) (.lst (sl_of ht14) (.cons (.int _) (.cons (.bl _) .nil))) ⟨by show 2 ≤ 100000; decide, fun d hd => okD_flat _ (List.all_eq_true.mp (show List.all [PyData.int 0, PyData.bool true] flatD = true by rfl) d hd)⟩ fun G15 H15 j15 e15 => ?_
    have hC15 := ((hC12.ex e13).ex e14).ex e15
    walk_at "go"
    refine w_fldM j15 hC15.cl.op T_Clerk.cl T_Clerk.n_places fl_Clerk_places ?_
    walk_at "go"
    refine w_new j15 (by show 3 ≤ sizeLine; decide) fun t16 G16 H16 j16 e16 ht16 _ => ?_
    walk_at "go"
    refine w_new j16 (by show 1 ≤ sizeLine; decide) fun t17 G17 H17 j17 e17 ht17 _ => ?_
    have hC17 := (hC15.ex e16).ex e17
    have hpl := hC17.cl.opl
    have gpl := j17.out hpl
    have jp := j17.seal hpl
    have ep : Ex G17 (upd G17 y2.pl (.lst y2.plv)) := Ex.new gpl
    walk_at "go"
    refine use_eqt (d := .list [plD 0 1000 1]) jp (.lst (sl_of upd_same) (by rw [← s11]; exact dpAll_mono ep hC17.cl.d.pl)) (.lst (sl_of (ep _ _ ht17)) (dpAll_mono ep (.cons (.tup (st_of (e17 _ _ ht16)) (.cons (.int _) (.cons (.int _) (.cons (.int _) .nil)))) .nil))) ⟨by show 1 ≤ 100000; decide, fun d hd => by rw [List.mem_singleton.mp hd]; exact okD_tup 2 rfl (by show 3 ≤ 100000; decide)⟩ fun G18 H18 j18 e18 => ?_
    have j18 := j18.back e18 hpl gpl
    walk_at "go"
    refine use_draw j18 hC17.dr fun n19 M19 G19 H19 _ _ j19 e19 d19 a19 => ?_
    have hC19 := hC17.draw e19 d19 a19
    have E19 : Ex G20 G19 := e.trans (e1.trans (E7.trans (E9.trans (e10.trans (e11.trans (e12.trans (e13.trans (e14.trans (e15.trans (e16.trans (e17.trans e19)))))))))))
    clear j9 j10 j11 j12 j13 j14 j15 j16 j17 jp j18 hC10 hC11 hC12 hC15 hC17
    walk_at "go"
    refine w_rng (fun n σ H => ∃ M G co hint, J M G H ∧ Ex G19 G ∧ CdA K C_Clerk C_Route C_Call M G { y2 with co := co } p ∧ cDat co = [⟨1, 0, nextD, hint⟩] ∧ ∃ v14 v15, σ = [some (.ref sc), some (.ref p), some (.int client), some (.int many), some (.ref dq), some (.ref L), some (.ref y2.p), some (.int d1.mc), some (.int d1.tn), some (.bl d1.tk), some (oV hint), some (.int i), some (.ref q1), some (.ref ea), v14, v15, u16]) ⟨M19, G19, y2.co, none, j19, Same.refl _, hC19, s2, _, _, rfl⟩ ?_ ?_ (by omega) (by omega)
    · rintro n σ H hn ⟨M, G, co, hint2, j, e, hC, hco, v14, v15, rfl⟩
      walk_at "go"
      refine w_sg (α := LhP) ⟨{ y2 with co := co }, p, d1.mc, many, 0, nextD, hint2⟩ j ⟨rfl, hC, mpos, hco⟩ fun v M1 G1 H1 j1 e1 ⟨q, em, h3, co3, ev, hq, hem, hco3, hC3⟩ => ?_
      subst ev
      walk_at "go"
      refine w_ixL j1 hq (atI_nat (j := 1) rfl) ?_
      walk_at "go"
      refine w_ixL j1 hq atI_0 ?_
      walk_at "go"
      refine w_new j1 (Nat.zero_le _) fun t2 G2 H2 j2 e2 ht2 _ => ?_
      walk_at "go"
      refine use_eqt (d := .list []) j2 (.lst (sl_of (e2 _ _ hem)) .nil) (.lst (sl_of ht2) .nil) ⟨by decide, fun d z => nomatch z⟩ fun G3 H3 j3 e3 => ?_
      walk_at "go"
      exact ⟨M1, G3, co3, h3, j3, e.trans (e1.trans (e2.trans e3)), (hC3.ex e2).ex e3, hco3, _, _, rfl⟩
    · rintro σ H ⟨M, G, co, hint2, j, e, hC, hco, v14, v15, rfl⟩
      walk_at "go"
      exact ⟨M, G, { y2 with co := co }, hint2, d1.mc, d1.tn, d1.tk, j, E19.trans e, hC, rfl, s8, s9, s5, s11, s10, s7, .inr ⟨by omega, s4, s3, hco, s6, s12⟩, _, _, _, _, _, _, rfl⟩
/-! ### the end -/
set_option maxHeartbeats 16000000 in
theorem all_mk {l : PySem.W.OpenLaw} {w : World} {K : PySem.W.Frag} {h : Heap} {mg : Str → Option Value} {fa : Addr} (X : K.In h) (G : h.Ns mainGlobals mg) (hfa : mg "law" = some (.ref fa))
    {C_Route : Addr}
    {C_Call : Addr}
    {C_Attempt : Addr}
    {C_Clerk : Addr}
    {f0 : Addr} {od0 an0 : Option Addr} {sl0 : Array (Option Value)} {oc0 kV0 dc0 pm0 cd0 ct0 : Value}
    {f1 : Addr} {od1 an1 : Option Addr} {sl1 : Array (Option Value)} {oc1 kV1 dc1 pm1 cd1 ct1 : Value}
    {f2 : Addr} {od2 an2 : Option Addr} {sl2 : Array (Option Value)} {oc2 kV2 dc2 pm2 cd2 ct2 : Value}
    {f3 : Addr} {od3 an3 : Option Addr} {sl3 : Array (Option Value)} {oc3 kV3 dc3 pm3 cd3 ct3 : Value}
    {f4 : Addr} {od4 an4 : Option Addr} {sl4 : Array (Option Value)} {oc4 kV4 dc4 pm4 cd4 ct4 : Value}
    {f5 : Addr} {od5 an5 : Option Addr} {sl5 : Array (Option Value)} {oc5 kV5 dc5 pm5 cd5 ct5 : Value}
    {f6 : Addr} {od6 an6 : Option Addr} {sl6 : Array (Option Value)} {oc6 kV6 dc6 pm6 cd6 ct6 : Value}
    {f7 : Addr} {od7 an7 : Option Addr} {sl7 : Array (Option Value)} {oc7 kV7 dc7 pm7 cd7 ct7 : Value}
    {f8 : Addr} {od8 an8 : Option Addr} {sl8 : Array (Option Value)} {oc8 kV8 dc8 pm8 cd8 ct8 : Value}
    {f9 : Addr} {od9 an9 : Option Addr} {sl9 : Array (Option Value)} {oc9 kV9 dc9 pm9 cd9 ct9 : Value}
    {f10 : Addr} {od10 an10 : Option Addr} {sl10 : Array (Option Value)} {oc10 kV10 dc10 pm10 cd10 ct10 : Value}
    {f11 : Addr} {od11 an11 : Option Addr} {sl11 : Array (Option Value)} {oc11 kV11 dc11 pm11 cd11 ct11 : Value}
    {f12 : Addr} {od12 an12 : Option Addr} {sl12 : Array (Option Value)} {oc12 kV12 dc12 pm12 cd12 ct12 : Value}
    {f13 : Addr} {od13 an13 : Option Addr} {sl13 : Array (Option Value)} {oc13 kV13 dc13 pm13 cd13 ct13 : Value}
    {f14 : Addr} {od14 an14 : Option Addr} {sl14 : Array (Option Value)} {oc14 kV14 dc14 pm14 cd14 ct14 : Value}
    {f15 : Addr} {od15 an15 : Option Addr} {sl15 : Array (Option Value)} {oc15 kV15 dc15 pm15 cd15 ct15 : Value}
    {f16 : Addr} {od16 an16 : Option Addr} {sl16 : Array (Option Value)} {oc16 kV16 dc16 pm16 cd16 ct16 : Value}
    {f17 : Addr} {od17 an17 : Option Addr} {sl17 : Array (Option Value)} {oc17 kV17 dc17 pm17 cd17 ct17 : Value}
    {f18 : Addr} {od18 an18 : Option Addr} {sl18 : Array (Option Value)} {oc18 kV18 dc18 pm18 cd18 ct18 : Value}
    {f19 : Addr} {od19 an19 : Option Addr} {sl19 : Array (Option Value)} {oc19 kV19 dc19 pm19 cd19 ct19 : Value}
    {f20 : Addr} {od20 an20 : Option Addr} {sl20 : Array (Option Value)} {oc20 kV20 dc20 pm20 cd20 ct20 : Value}
    {f21 : Addr} {od21 an21 : Option Addr} {sl21 : Array (Option Value)} {oc21 kV21 dc21 pm21 cd21 ct21 : Value}
    {f22 : Addr} {od22 an22 : Option Addr} {sl22 : Array (Option Value)} {oc22 kV22 dc22 pm22 cd22 ct22 : Value}
    {f23 : Addr} {od23 an23 : Option Addr} {sl23 : Array (Option Value)} {oc23 kV23 dc23 pm23 cd23 ct23 : Value}
    {t1 : Tok}
    {t2 : Tok}
    {t3 : Tok}
    {e_ASK_TIME : Addr} {en_ASK_TIME : Nat} {es_ASK_TIME : Array (Option Value)}
    {e_ASK_TIME_2 : Addr} {en_ASK_TIME_2 : Nat} {es_ASK_TIME_2 : Array (Option Value)}
    (aC_Route : PySem.W.nsIn K mainGlobals "Route" = some (some (.ref C_Route)))
    (pgC_Route : PySem.W.plainGet K C_Route Str.empty = true)
    (hdC_Route : PySem.W.hasDictIn K C_Route = true)
    (poC_Route : PySem.W.plainOver K C_Route = true)
    (saC_Route : PySem.W.findIn K (.ref C_Route) "__setattr__" = some (some (.builtin "object.__setattr__")))
    (kcC_Route : PySem.W.keepIn K (.ref C_Route) = true)
    (mkC_Route : PySem.W.makesIn K C_Route = true)
    (nfC_machine_Route : PySem.W.findIn K (.ref C_Route) "machine" = some none)
    (nfC_turn_Route : PySem.W.findIn K (.ref C_Route) "turn" = some none)
    (nfC_taken_Route : PySem.W.findIn K (.ref C_Route) "taken" = some none)
    (aC_Call : PySem.W.nsIn K mainGlobals "Call" = some (some (.ref C_Call)))
    (pgC_Call : PySem.W.plainGet K C_Call Str.empty = true)
    (hdC_Call : PySem.W.hasDictIn K C_Call = true)
    (poC_Call : PySem.W.plainOver K C_Call = true)
    (saC_Call : PySem.W.findIn K (.ref C_Call) "__setattr__" = some (some (.builtin "object.__setattr__")))
    (kcC_Call : PySem.W.keepIn K (.ref C_Call) = true)
    (mkC_Call : PySem.W.makesIn K C_Call = true)
    (nfC_group_Call : PySem.W.findIn K (.ref C_Call) "group" = some none)
    (nfC_command_Call : PySem.W.findIn K (.ref C_Call) "command" = some none)
    (nfC_blocked_Call : PySem.W.findIn K (.ref C_Call) "blocked" = some none)
    (nfC_hint_Call : PySem.W.findIn K (.ref C_Call) "hint" = some none)
    (aC_Attempt : PySem.W.nsIn K mainGlobals "Attempt" = some (some (.ref C_Attempt)))
    (pgC_Attempt : PySem.W.plainGet K C_Attempt Str.empty = true)
    (hdC_Attempt : PySem.W.hasDictIn K C_Attempt = true)
    (poC_Attempt : PySem.W.plainOver K C_Attempt = true)
    (saC_Attempt : PySem.W.findIn K (.ref C_Attempt) "__setattr__" = some (some (.builtin "object.__setattr__")))
    (kcC_Attempt : PySem.W.keepIn K (.ref C_Attempt) = true)
    (mkC_Attempt : PySem.W.makesIn K C_Attempt = true)
    (nfC_deal_Attempt : PySem.W.findIn K (.ref C_Attempt) "deal" = some none)
    (nfC_ops_Attempt : PySem.W.findIn K (.ref C_Attempt) "ops" = some none)
    (nfC_step_Attempt : PySem.W.findIn K (.ref C_Attempt) "step" = some none)
    (nfC_needed_Attempt : PySem.W.findIn K (.ref C_Attempt) "needed" = some none)
    (nfC_start_Attempt : PySem.W.findIn K (.ref C_Attempt) "start" = some none)
    (nfC_parts_Attempt : PySem.W.findIn K (.ref C_Attempt) "parts" = some none)
    (nfC_rows_Attempt : PySem.W.findIn K (.ref C_Attempt) "rows" = some none)
    (nfC_results_Attempt : PySem.W.findIn K (.ref C_Attempt) "results" = some none)
    (nfC_groups_Attempt : PySem.W.findIn K (.ref C_Attempt) "groups" = some none)
    (nfC_lead_Attempt : PySem.W.findIn K (.ref C_Attempt) "lead" = some none)
    (nfC_verdict_Attempt : PySem.W.findIn K (.ref C_Attempt) "verdict" = some none)
    (nfC_ended_Attempt : PySem.W.findIn K (.ref C_Attempt) "ended" = some none)
    (nfC_over_Attempt : PySem.W.findIn K (.ref C_Attempt) "over" = some none)
    (aC_Clerk : PySem.W.nsIn K mainGlobals "Clerk" = some (some (.ref C_Clerk)))
    (pgC_Clerk : PySem.W.plainGet K C_Clerk Str.empty = true)
    (hdC_Clerk : PySem.W.hasDictIn K C_Clerk = true)
    (poC_Clerk : PySem.W.plainOver K C_Clerk = true)
    (saC_Clerk : PySem.W.findIn K (.ref C_Clerk) "__setattr__" = some (some (.builtin "object.__setattr__")))
    (kcC_Clerk : PySem.W.keepIn K (.ref C_Clerk) = true)
    (mkC_Clerk : PySem.W.makesIn K C_Clerk = true)
    (nfC_client_Clerk : PySem.W.findIn K (.ref C_Clerk) "client" = some none)
    (nfC_machines_Clerk : PySem.W.findIn K (.ref C_Clerk) "machines" = some none)
    (nfC_deals_Clerk : PySem.W.findIn K (.ref C_Clerk) "deals" = some none)
    (nfC_number_Clerk : PySem.W.findIn K (.ref C_Clerk) "number" = some none)
    (nfC_busy_Clerk : PySem.W.findIn K (.ref C_Clerk) "busy" = some none)
    (nfC_places_Clerk : PySem.W.findIn K (.ref C_Clerk) "places" = some none)
    (nfC_routes_Clerk : PySem.W.findIn K (.ref C_Clerk) "routes" = some none)
    (nfC_token_Clerk : PySem.W.findIn K (.ref C_Clerk) "token" = some none)
    (nfC_calls_Clerk : PySem.W.findIn K (.ref C_Clerk) "calls" = some none)
    (nfC_attempt_Clerk : PySem.W.findIn K (.ref C_Clerk) "attempt" = some none)
    (nfC_tries_Clerk : PySem.W.findIn K (.ref C_Clerk) "tries" = some none)
    (nfC_news_Clerk : PySem.W.findIn K (.ref C_Clerk) "news" = some none)
    (a0 : PySem.W.findIn K (.ref C_Route) "__init__" = some (some (.ref f0))) (i0 : PySem.W.isFn K (.ref f0) = true)
    (l0 : K.lookup f0 = some ⟨oc0, od0, .func (PySem.W.fnOf "__init__" "Route.__init__" (defArgs s_Route___init__) (defBody s_Route___init__) (defScope s_Route___init__) .none kV0 dc0 pm0 an0 cd0 ct0), sl0⟩)
    (c0 : PySem.W.codeIn K cd0 "Route.__init__" = true) (k0 : PySem.W.keepIn K (.ref f0) = true)
    (a1 : PySem.W.findIn K (.ref C_Call) "__init__" = some (some (.ref f1))) (i1 : PySem.W.isFn K (.ref f1) = true)
    (l1 : K.lookup f1 = some ⟨oc1, od1, .func (PySem.W.fnOf "__init__" "Call.__init__" (defArgs s_Call___init__) (defBody s_Call___init__) (defScope s_Call___init__) .none kV1 dc1 pm1 an1 cd1 ct1), sl1⟩)
    (c1 : PySem.W.codeIn K cd1 "Call.__init__" = true) (k1 : PySem.W.keepIn K (.ref f1) = true)
    (a2 : PySem.W.findIn K (.ref C_Route) "change" = some (some (.ref f2))) (i2 : PySem.W.isFn K (.ref f2) = true)
    (l2 : K.lookup f2 = some ⟨oc2, od2, .func (PySem.W.fnOf "change" "Route.change" (defArgs s_Route_change) (defBody s_Route_change) (defScope s_Route_change) .none kV2 dc2 pm2 an2 cd2 ct2), sl2⟩)
    (c2 : PySem.W.codeIn K cd2 "Route.change" = true) (k2 : PySem.W.keepIn K (.ref f2) = true)
    (a3 : PySem.W.nsIn K mainGlobals "_law_mixed" = some (some (.ref f3)))
    (l3 : K.lookup f3 = some ⟨oc3, od3, .func (PySem.W.fnOf "_law_mixed" "_law_mixed" (defArgs s_law_mixed) (defBody s_law_mixed) (defScope s_law_mixed) .none kV3 dc3 pm3 an3 cd3 ct3), sl3⟩)
    (c3 : PySem.W.codeIn K cd3 "_law_mixed" = true) (k3 : PySem.W.keepIn K (.ref f3) = true)
    (a4 : PySem.W.nsIn K mainGlobals "_law_draw" = some (some (.ref f4)))
    (l4 : K.lookup f4 = some ⟨oc4, od4, .func (PySem.W.fnOf "_law_draw" "_law_draw" (defArgs s_law_draw) (defBody s_law_draw) (defScope s_law_draw) .none kV4 dc4 pm4 an4 cd4 ct4), sl4⟩)
    (c4 : PySem.W.codeIn K cd4 "_law_draw" = true) (k4 : PySem.W.keepIn K (.ref f4) = true)
    (a5 : PySem.W.nsIn K mainGlobals "_law_deals" = some (some (.ref f5)))
    (l5 : K.lookup f5 = some ⟨oc5, od5, .func (PySem.W.fnOf "_law_deals" "_law_deals" (defArgs s_law_deals) (defBody s_law_deals) (defScope s_law_deals) .none kV5 dc5 pm5 an5 cd5 ct5), sl5⟩)
    (c5 : PySem.W.codeIn K cd5 "_law_deals" = true) (k5 : PySem.W.keepIn K (.ref f5) = true)
    (a6 : PySem.W.findIn K (.ref C_Attempt) "__init__" = some (some (.ref f6))) (i6 : PySem.W.isFn K (.ref f6) = true)
    (l6 : K.lookup f6 = some ⟨oc6, od6, .func (PySem.W.fnOf "__init__" "Attempt.__init__" (defArgs s_Attempt___init__) (defBody s_Attempt___init__) (defScope s_Attempt___init__) .none kV6 dc6 pm6 an6 cd6 ct6), sl6⟩)
    (c6 : PySem.W.codeIn K cd6 "Attempt.__init__" = true) (k6 : PySem.W.keepIn K (.ref f6) = true)
    (a7 : PySem.W.findIn K (.ref C_Clerk) "__init__" = some (some (.ref f7))) (i7 : PySem.W.isFn K (.ref f7) = true)
    (l7 : K.lookup f7 = some ⟨oc7, od7, .func (PySem.W.fnOf "__init__" "Clerk.__init__" (defArgs s_Clerk___init__) (defBody s_Clerk___init__) (defScope s_Clerk___init__) .none kV7 dc7 pm7 an7 cd7 ct7), sl7⟩)
    (c7 : PySem.W.codeIn K cd7 "Clerk.__init__" = true) (k7 : PySem.W.keepIn K (.ref f7) = true)
    (a8 : PySem.W.nsIn K mainGlobals "_law_numbers" = some (some (.ref f8)))
    (l8 : K.lookup f8 = some ⟨oc8, od8, .func (PySem.W.fnOf "_law_numbers" "_law_numbers" (defArgs s_law_numbers) (defBody s_law_numbers) (defScope s_law_numbers) .none kV8 dc8 pm8 an8 cd8 ct8), sl8⟩)
    (c8 : PySem.W.codeIn K cd8 "_law_numbers" = true) (k8 : PySem.W.keepIn K (.ref f8) = true)
    (a9 : PySem.W.findIn K (.ref C_Clerk) "route" = some (some (.ref f9))) (i9 : PySem.W.isFn K (.ref f9) = true)
    (l9 : K.lookup f9 = some ⟨oc9, od9, .func (PySem.W.fnOf "route" "Clerk.route" (defArgs s_Clerk_route) (defBody s_Clerk_route) (defScope s_Clerk_route) .none kV9 dc9 pm9 an9 cd9 ct9), sl9⟩)
    (c9 : PySem.W.codeIn K cd9 "Clerk.route" = true) (k9 : PySem.W.keepIn K (.ref f9) = true)
    (a10 : PySem.W.findIn K (.ref C_Clerk) "change_routes" = some (some (.ref f10))) (i10 : PySem.W.isFn K (.ref f10) = true)
    (l10 : K.lookup f10 = some ⟨oc10, od10, .func (PySem.W.fnOf "change_routes" "Clerk.change_routes" (defArgs s_Clerk_change_routes) (defBody s_Clerk_change_routes) (defScope s_Clerk_change_routes) .none kV10 dc10 pm10 an10 cd10 ct10), sl10⟩)
    (c10 : PySem.W.codeIn K cd10 "Clerk.change_routes" = true) (k10 : PySem.W.keepIn K (.ref f10) = true)
    (a11 : PySem.W.findIn K (.ref C_Clerk) "sent" = some (some (.ref f11))) (i11 : PySem.W.isFn K (.ref f11) = true)
    (l11 : K.lookup f11 = some ⟨oc11, od11, .func (PySem.W.fnOf "sent" "Clerk.sent" (defArgs s_Clerk_sent) (defBody s_Clerk_sent) (defScope s_Clerk_sent) .none kV11 dc11 pm11 an11 cd11 ct11), sl11⟩)
    (c11 : PySem.W.codeIn K cd11 "Clerk.sent" = true) (k11 : PySem.W.keepIn K (.ref f11) = true)
    (a12 : PySem.W.findIn K (.ref C_Clerk) "make" = some (some (.ref f12))) (i12 : PySem.W.isFn K (.ref f12) = true)
    (l12 : K.lookup f12 = some ⟨oc12, od12, .func (PySem.W.fnOf "make" "Clerk.make" (defArgs s_Clerk_make) (defBody s_Clerk_make) (defScope s_Clerk_make) .none kV12 dc12 pm12 an12 cd12 ct12), sl12⟩)
    (c12 : PySem.W.codeIn K cd12 "Clerk.make" = true) (k12 : PySem.W.keepIn K (.ref f12) = true)
    (a13 : PySem.W.findIn K (.ref C_Clerk) "make_all" = some (some (.ref f13))) (i13 : PySem.W.isFn K (.ref f13) = true)
    (l13 : K.lookup f13 = some ⟨oc13, od13, .func (PySem.W.fnOf "make_all" "Clerk.make_all" (defArgs s_Clerk_make_all) (defBody s_Clerk_make_all) (defScope s_Clerk_make_all) .none kV13 dc13 pm13 an13 cd13 ct13), sl13⟩)
    (c13 : PySem.W.codeIn K cd13 "Clerk.make_all" = true) (k13 : PySem.W.keepIn K (.ref f13) = true)
    (a14 : PySem.W.findIn K (.ref C_Attempt) "begin" = some (some (.ref f14))) (i14 : PySem.W.isFn K (.ref f14) = true)
    (l14 : K.lookup f14 = some ⟨oc14, od14, .func (PySem.W.fnOf "begin" "Attempt.begin" (defArgs s_Attempt_begin) (defBody s_Attempt_begin) (defScope s_Attempt_begin) .none kV14 dc14 pm14 an14 cd14 ct14), sl14⟩)
    (c14 : PySem.W.codeIn K cd14 "Attempt.begin" = true) (k14 : PySem.W.keepIn K (.ref f14) = true)
    (a15 : PySem.W.findIn K (.ref C_Clerk) "begin" = some (some (.ref f15))) (i15 : PySem.W.isFn K (.ref f15) = true)
    (l15 : K.lookup f15 = some ⟨oc15, od15, .func (PySem.W.fnOf "begin" "Clerk.begin" (defArgs s_Clerk_begin) (defBody s_Clerk_begin) (defScope s_Clerk_begin) .none kV15 dc15 pm15 an15 cd15 ct15), sl15⟩)
    (c15 : PySem.W.codeIn K cd15 "Clerk.begin" = true) (k15 : PySem.W.keepIn K (.ref f15) = true)
    (a16 : PySem.W.findIn K (.ref C_Clerk) "act" = some (some (.ref f16))) (i16 : PySem.W.isFn K (.ref f16) = true)
    (l16 : K.lookup f16 = some ⟨oc16, od16, .func (PySem.W.fnOf "act" "Clerk.act" (defArgs s_Clerk_act) (defBody s_Clerk_act) (defScope s_Clerk_act) .none kV16 dc16 pm16 an16 cd16 ct16), sl16⟩)
    (c16 : PySem.W.codeIn K cd16 "Clerk.act" = true) (k16 : PySem.W.keepIn K (.ref f16) = true)
    (a17 : PySem.W.nsIn K mainGlobals "_law_all_equal" = some (some (.ref f17)))
    (l17 : K.lookup f17 = some ⟨oc17, od17, .func (PySem.W.fnOf "_law_all_equal" "_law_all_equal" (defArgs s_law_all_equal) (defBody s_law_all_equal) (defScope s_law_all_equal) .none kV17 dc17 pm17 an17 cd17 ct17), sl17⟩)
    (c17 : PySem.W.codeIn K cd17 "_law_all_equal" = true) (k17 : PySem.W.keepIn K (.ref f17) = true)
    (a18 : PySem.W.nsIn K mainGlobals "_law_equal" = some (some (.ref f18)))
    (l18 : K.lookup f18 = some ⟨oc18, od18, .func (PySem.W.fnOf "_law_equal" "_law_equal" (defArgs s_law_equal) (defBody s_law_equal) (defScope s_law_equal) .none kV18 dc18 pm18 an18 cd18 ct18), sl18⟩)
    (c18 : PySem.W.codeIn K cd18 "_law_equal" = true) (k18 : PySem.W.keepIn K (.ref f18) = true)
    (a19 : PySem.W.findIn K (.ref C_Clerk) "hear" = some (some (.ref f19))) (i19 : PySem.W.isFn K (.ref f19) = true)
    (l19 : K.lookup f19 = some ⟨oc19, od19, .func (PySem.W.fnOf "hear" "Clerk.hear" (defArgs s_Clerk_hear) (defBody s_Clerk_hear) (defScope s_Clerk_hear) .none kV19 dc19 pm19 an19 cd19 ct19), sl19⟩)
    (c19 : PySem.W.codeIn K cd19 "Clerk.hear" = true) (k19 : PySem.W.keepIn K (.ref f19) = true)
    (a20 : PySem.W.nsIn K mainGlobals "_law_hear" = some (some (.ref f20)))
    (l20 : K.lookup f20 = some ⟨oc20, od20, .func (PySem.W.fnOf "_law_hear" "_law_hear" (defArgs s_law_hear) (defBody s_law_hear) (defScope s_law_hear) .none kV20 dc20 pm20 an20 cd20 ct20), sl20⟩)
    (c20 : PySem.W.codeIn K cd20 "_law_hear" = true) (k20 : PySem.W.keepIn K (.ref f20) = true)
    (a21 : PySem.W.findIn K (.ref C_Clerk) "events" = some (some (.ref f21))) (i21 : PySem.W.isFn K (.ref f21) = true)
    (l21 : K.lookup f21 = some ⟨oc21, od21, .func (PySem.W.fnOf "events" "Clerk.events" (defArgs s_Clerk_events) (defBody s_Clerk_events) (defScope s_Clerk_events) .none kV21 dc21 pm21 an21 cd21 ct21), sl21⟩)
    (c21 : PySem.W.codeIn K cd21 "Clerk.events" = true) (k21 : PySem.W.keepIn K (.ref f21) = true)
    (a22 : PySem.W.findIn K (.ref C_Clerk) "idle" = some (some (.ref f22))) (i22 : PySem.W.isFn K (.ref f22) = true)
    (l22 : K.lookup f22 = some ⟨oc22, od22, .func (PySem.W.fnOf "idle" "Clerk.idle" (defArgs s_Clerk_idle) (defBody s_Clerk_idle) (defScope s_Clerk_idle) .none kV22 dc22 pm22 an22 cd22 ct22), sl22⟩)
    (c22 : PySem.W.codeIn K cd22 "Clerk.idle" = true) (k22 : PySem.W.keepIn K (.ref f22) = true)
    (a23 : PySem.W.nsIn K mainGlobals "law" = some (some (.ref f23)))
    (l23 : K.lookup f23 = some ⟨oc23, od23, .func (PySem.W.fnOf "law" "law" (defArgs s_law) (defBody s_law) (defScope s_law) .none kV23 dc23 pm23 an23 cd23 ct23), sl23⟩)
    (c23 : PySem.W.codeIn K cd23 "law" = true) (k23 : PySem.W.keepIn K (.ref f23) = true)
    (z_len : PySem.W.nsIn K mainGlobals "len" = some none)
    (z_range : PySem.W.nsIn K mainGlobals "range" = some none)
    (z_list : PySem.W.nsIn K mainGlobals "list" = some none)
    (z_sorted : PySem.W.nsIn K mainGlobals "sorted" = some none)
    (z_isinstance : PySem.W.nsIn K mainGlobals "isinstance" = some none)
    (z_str : PySem.W.nsIn K mainGlobals "str" = some none)
    (z_int : PySem.W.nsIn K mainGlobals "int" = some none)
    (z_bool : PySem.W.nsIn K mainGlobals "bool" = some none)
    (z_tuple : PySem.W.nsIn K mainGlobals "tuple" = some none)
    (q_START : PySem.W.nsIn K mainGlobals "START" = some (some (.str "start" t1)))
    (q_ASK_TIME : PySem.W.nsIn K mainGlobals "ASK_TIME" = some (some (.ref e_ASK_TIME)))
    (w_ASK_TIME : K.lookup e_ASK_TIME = some ⟨.type "tuple", none, .seq #[Value.int 0 t2, Value.ref e_ASK_TIME_2] en_ASK_TIME, es_ASK_TIME⟩)
    (w_ASK_TIME_2 : K.lookup e_ASK_TIME_2 = some ⟨.type "tuple", none, .seq #[Value.str "next" t3] en_ASK_TIME_2, es_ASK_TIME_2⟩) :
    ∃ fd : FuncData, (∀ (s : Shared) (v : Value), BindsTo s fd ⟨[v], []⟩ [("script", v)]) ∧ ∀ base : Heap, K.In base → base.Ns mainGlobals mg → FnOk l.prog w K mg base CX0 10 fa fd ["script"] (sp_law K) := by
  have e := hfa.symm.trans (PySem.W.mg_of X G a23)
  cases e
  have F0 := fun_mk (st := s_Route___init__) l0 c0 k0
  have B0 := F0.binds (ps := ["self"]) fun _ _ _ _ _ _ us hl => match us, hl with | [_], _ => rfl
  have D_Route___init__ : Di K C_Route "Route.__init__" s_Route___init__ ["self"] f0 _ := ⟨F0, ⟨mkC_Route, a0, i0, kcC_Route⟩, B0⟩
  have F1 := fun_mk (st := s_Call___init__) l1 c1 k1
  have B1 := F1.binds (ps := ["self", "group", "command", "blocked"]) fun _ _ _ _ _ _ us hl => match us, hl with | [_, _, _, _], _ => rfl
  have D_Call___init__ : Di K C_Call "Call.__init__" s_Call___init__ ["self", "group", "command", "blocked"] f1 _ := ⟨F1, ⟨mkC_Call, a1, i1, kcC_Call⟩, B1⟩
  have F2 := fun_mk (st := s_Route_change) l2 c2 k2
  have B2 := F2.binds (ps := ["self", "hint", "machines"]) fun _ _ _ _ _ _ us hl => match us, hl with | [_, _, _], _ => rfl
  have D_Route_change : Dm K C_Route "change" "Route.change" s_Route_change ["self", "hint", "machines"] f2 _ := ⟨F2, ⟨a2, i2, k2⟩, B2⟩
  have F3 := fun_mk (st := s_law_mixed) l3 c3 k3
  have B3 := F3.binds (ps := ["number", "k"]) fun _ _ _ _ _ _ us hl => match us, hl with | [_, _], _ => rfl
  have D_law_mixed : Dn K mg "_law_mixed" s_law_mixed ["number", "k"] f3 _ := ⟨F3, PySem.W.mg_of X G a3, k3, B3⟩
  have F4 := fun_mk (st := s_law_draw) l4 c4 k4
  have B4 := F4.binds (ps := ["draws"]) fun _ _ _ _ _ _ us hl => match us, hl with | [_], _ => rfl
  have D_law_draw : Dn K mg "_law_draw" s_law_draw ["draws"] f4 _ := ⟨F4, PySem.W.mg_of X G a4, k4, B4⟩
  have F5 := fun_mk (st := s_law_deals) l5 c5 k5
  have B5 := F5.binds (ps := ["draws"]) fun _ _ _ _ _ _ us hl => match us, hl with | [_], _ => rfl
  have D_law_deals : Dn K mg "_law_deals" s_law_deals ["draws"] f5 _ := ⟨F5, PySem.W.mg_of X G a5, k5, B5⟩
  have F6 := fun_mk (st := s_Attempt___init__) l6 c6 k6
  have B6 := F6.binds (ps := ["self", "deal", "ops"]) fun _ _ _ _ _ _ us hl => match us, hl with | [_, _, _], _ => rfl
  have D_Attempt___init__ : Di K C_Attempt "Attempt.__init__" s_Attempt___init__ ["self", "deal", "ops"] f6 _ := ⟨F6, ⟨mkC_Attempt, a6, i6, kcC_Attempt⟩, B6⟩
  have F7 := fun_mk (st := s_Clerk___init__) l7 c7 k7
  have B7 := F7.binds (ps := ["self", "client", "machines", "deals"]) fun _ _ _ _ _ _ us hl => match us, hl with | [_, _, _, _], _ => rfl
  have D_Clerk___init__ : Di K C_Clerk "Clerk.__init__" s_Clerk___init__ ["self", "client", "machines", "deals"] f7 _ := ⟨F7, ⟨mkC_Clerk, a7, i7, kcC_Clerk⟩, B7⟩
  have F8 := fun_mk (st := s_law_numbers) l8 c8 k8
  have B8 := F8.binds (ps := ["script"]) fun _ _ _ _ _ _ us hl => match us, hl with | [_], _ => rfl
  have D_law_numbers : Dn K mg "_law_numbers" s_law_numbers ["script"] f8 _ := ⟨F8, PySem.W.mg_of X G a8, k8, B8⟩
  have F9 := fun_mk (st := s_Clerk_route) l9 c9 k9
  have B9 := F9.binds (ps := ["self", "group"]) fun _ _ _ _ _ _ us hl => match us, hl with | [_, _], _ => rfl
  have D_Clerk_route : Dm K C_Clerk "route" "Clerk.route" s_Clerk_route ["self", "group"] f9 _ := ⟨F9, ⟨a9, i9, k9⟩, B9⟩
  have F10 := fun_mk (st := s_Clerk_change_routes) l10 c10 k10
  have B10 := F10.binds (ps := ["self"]) fun _ _ _ _ _ _ us hl => match us, hl with | [_], _ => rfl
  have D_Clerk_change_routes : Dm K C_Clerk "change_routes" "Clerk.change_routes" s_Clerk_change_routes ["self"] f10 _ := ⟨F10, ⟨a10, i10, k10⟩, B10⟩
  have F11 := fun_mk (st := s_Clerk_sent) l11 c11 k11
  have B11 := F11.binds (ps := ["self", "tokens"]) fun _ _ _ _ _ _ us hl => match us, hl with | [_, _], _ => rfl
  have D_Clerk_sent : Dm K C_Clerk "sent" "Clerk.sent" s_Clerk_sent ["self", "tokens"] f11 _ := ⟨F11, ⟨a11, i11, k11⟩, B11⟩
  have F12 := fun_mk (st := s_Clerk_make) l12 c12 k12
  have B12 := F12.binds (ps := ["self", "group", "command", "blocked"]) fun _ _ _ _ _ _ us hl => match us, hl with | [_, _, _, _], _ => rfl
  have D_Clerk_make : Dm K C_Clerk "make" "Clerk.make" s_Clerk_make ["self", "group", "command", "blocked"] f12 _ := ⟨F12, ⟨a12, i12, k12⟩, B12⟩
  have F13 := fun_mk (st := s_Clerk_make_all) l13 c13 k13
  have B13 := F13.binds (ps := ["self", "wanted"]) fun _ _ _ _ _ _ us hl => match us, hl with | [_, _], _ => rfl
  have D_Clerk_make_all : Dm K C_Clerk "make_all" "Clerk.make_all" s_Clerk_make_all ["self", "wanted"] f13 _ := ⟨F13, ⟨a13, i13, k13⟩, B13⟩
  have F14 := fun_mk (st := s_Attempt_begin) l14 c14 k14
  have B14 := F14.binds (ps := ["self"]) fun _ _ _ _ _ _ us hl => match us, hl with | [_], _ => rfl
  have D_Attempt_begin : Dm K C_Attempt "begin" "Attempt.begin" s_Attempt_begin ["self"] f14 _ := ⟨F14, ⟨a14, i14, k14⟩, B14⟩
  have F15 := fun_mk (st := s_Clerk_begin) l15 c15 k15
  have B15 := F15.binds (ps := ["self"]) fun _ _ _ _ _ _ us hl => match us, hl with | [_], _ => rfl
  have D_Clerk_begin : Dm K C_Clerk "begin" "Clerk.begin" s_Clerk_begin ["self"] f15 _ := ⟨F15, ⟨a15, i15, k15⟩, B15⟩
  have F16 := fun_mk (st := s_Clerk_act) l16 c16 k16
  have B16 := F16.binds (ps := ["self"]) fun _ _ _ _ _ _ us hl => match us, hl with | [_], _ => rfl
  have D_Clerk_act : Dm K C_Clerk "act" "Clerk.act" s_Clerk_act ["self"] f16 _ := ⟨F16, ⟨a16, i16, k16⟩, B16⟩
  have F17 := fun_mk (st := s_law_all_equal) l17 c17 k17
  have B17 := F17.binds (ps := ["actual", "due"]) fun _ _ _ _ _ _ us hl => match us, hl with | [_, _], _ => rfl
  have D_law_all_equal : Dn K mg "_law_all_equal" s_law_all_equal ["actual", "due"] f17 _ := ⟨F17, PySem.W.mg_of X G a17, k17, B17⟩
  have F18 := fun_mk (st := s_law_equal) l18 c18 k18
  have B18 := F18.binds (ps := ["actual", "due"]) fun _ _ _ _ _ _ us hl => match us, hl with | [_, _], _ => rfl
  have D_law_equal : Dn K mg "_law_equal" s_law_equal ["actual", "due"] f18 _ := ⟨F18, PySem.W.mg_of X G a18, k18, B18⟩
  have F19 := fun_mk (st := s_Clerk_hear) l19 c19 k19
  have B19 := F19.binds (ps := ["self", "letter"]) fun _ _ _ _ _ _ us hl => match us, hl with | [_, _], _ => rfl
  have D_Clerk_hear : Dm K C_Clerk "hear" "Clerk.hear" s_Clerk_hear ["self", "letter"] f19 _ := ⟨F19, ⟨a19, i19, k19⟩, B19⟩
  have F20 := fun_mk (st := s_law_hear) l20 c20 k20
  have B20 := F20.binds (ps := ["draws", "clerk", "host", "many", "hint"]) fun _ _ _ _ _ _ us hl => match us, hl with | [_, _, _, _, _], _ => rfl
  have D_law_hear : Dn K mg "_law_hear" s_law_hear ["draws", "clerk", "host", "many", "hint"] f20 _ := ⟨F20, PySem.W.mg_of X G a20, k20, B20⟩
  have F21 := fun_mk (st := s_Clerk_events) l21 c21 k21
  have B21 := F21.binds (ps := ["self"]) fun _ _ _ _ _ _ us hl => match us, hl with | [_], _ => rfl
  have D_Clerk_events : Dm K C_Clerk "events" "Clerk.events" s_Clerk_events ["self"] f21 _ := ⟨F21, ⟨a21, i21, k21⟩, B21⟩
  have F22 := fun_mk (st := s_Clerk_idle) l22 c22 k22
  have B22 := F22.binds (ps := ["self"]) fun _ _ _ _ _ _ us hl => match us, hl with | [_], _ => rfl
  have D_Clerk_idle : Dm K C_Clerk "idle" "Clerk.idle" s_Clerk_idle ["self"] f22 _ := ⟨F22, ⟨a22, i22, k22⟩, B22⟩
  have F23 := fun_mk (st := s_law) l23 c23 k23
  have B23 := F23.binds (ps := ["script"]) fun _ _ _ _ _ _ us hl => match us, hl with | [_], _ => rfl
  have D_law : Dn K mg "law" s_law ["script"] fa _ := ⟨F23, PySem.W.mg_of X G a23, k23, B23⟩
  have T_Route : Tx_Route K mg C_Route := ⟨⟨pgC_Route, hdC_Route, poC_Route, saC_Route⟩, PySem.W.mg_of X G aC_Route, nfC_machine_Route, nfC_turn_Route, nfC_taken_Route⟩
  have T_Call : Tx_Call K mg C_Call := ⟨⟨pgC_Call, hdC_Call, poC_Call, saC_Call⟩, PySem.W.mg_of X G aC_Call, nfC_group_Call, nfC_command_Call, nfC_blocked_Call, nfC_hint_Call⟩
  have T_Attempt : Tx_Attempt K mg C_Attempt := ⟨⟨pgC_Attempt, hdC_Attempt, poC_Attempt, saC_Attempt⟩, PySem.W.mg_of X G aC_Attempt, nfC_deal_Attempt, nfC_ops_Attempt, nfC_step_Attempt, nfC_needed_Attempt, nfC_start_Attempt, nfC_parts_Attempt, nfC_rows_Attempt, nfC_results_Attempt, nfC_groups_Attempt, nfC_lead_Attempt, nfC_verdict_Attempt, nfC_ended_Attempt, nfC_over_Attempt⟩
  have T_Clerk : Tx_Clerk K mg C_Clerk := ⟨⟨pgC_Clerk, hdC_Clerk, poC_Clerk, saC_Clerk⟩, PySem.W.mg_of X G aC_Clerk, nfC_client_Clerk, nfC_machines_Clerk, nfC_deals_Clerk, nfC_number_Clerk, nfC_busy_Clerk, nfC_places_Clerk, nfC_routes_Clerk, nfC_token_Clerk, nfC_calls_Clerk, nfC_attempt_Clerk, nfC_tries_Clerk, nfC_news_Clerk⟩
  have b_len := PySem.W.mg_none_of X G z_len
  have b_range := PySem.W.mg_none_of X G z_range
  have b_list := PySem.W.mg_none_of X G z_list
  have b_sorted := PySem.W.mg_none_of X G z_sorted
  have b_isinstance := PySem.W.mg_none_of X G z_isinstance
  have b_str := PySem.W.mg_none_of X G z_str
  have b_int := PySem.W.mg_none_of X G z_int
  have b_bool := PySem.W.mg_none_of X G z_bool
  have b_tuple := PySem.W.mg_none_of X G z_tuple
  have g_START : ∃ u, mg "START" = some u ∧ RelV (.str "start") u := ⟨_, PySem.W.mg_of X G q_START, _, rfl⟩
  have g_ASK_TIME : ∃ u, mg "ASK_TIME" = some u ∧ RelV (.ref e_ASK_TIME) u := ⟨_, PySem.W.mg_of X G q_ASK_TIME, rfl⟩
  have t_ASK_TIME : ∃ o, K.lookup e_ASK_TIME = some o ∧ o.cls = .type "tuple" ∧ o.dict = none := ⟨_, w_ASK_TIME, rfl, rfl⟩
  have k_ASK_TIME : ∀ H, SqT K H e_ASK_TIME [V.int 0, V.ref e_ASK_TIME_2] := fun H => .inr ⟨_, _, _, w_ASK_TIME, rfl, rfl, by show 2 ≤ sizeLine; decide, (.cons ⟨_, rfl⟩ (.cons rfl .nil))⟩
  have k_ASK_TIME_2 : ∀ H, SqT K H e_ASK_TIME_2 [V.str "next"] := fun H => .inr ⟨_, _, _, w_ASK_TIME_2, rfl, rfl, by show 1 ≤ sizeLine; decide, (.cons ⟨_, rfl⟩ .nil)⟩
  refine ⟨PySem.W.fnOf "law" "law" (defArgs s_law) (defBody s_law) (defScope s_law) .none kV23 dc23 pm23 an23 cd23 ct23, fun s v => .of_eq rfl, fun base hb1 hb2 => ?_⟩
  have c_Route___init__ := ok_Route___init__ (P := l.prog) (w := w) (base := base) T_Route D_Route___init__
  have c_Call___init__ := ok_Call___init__ (P := l.prog) (w := w) (base := base) T_Call D_Call___init__
  have c_Route_change := ok_Route_change (P := l.prog) (w := w) (base := base) T_Route D_Route_change
  have c_law_mixed := ok_law_mixed (P := l.prog) (w := w) (base := base) D_law_mixed
  have c_law_draw := ok_law_draw (P := l.prog) (w := w) (base := base) D_law_draw b_len c_law_mixed
  have c_law_deals := ok_law_deals (P := l.prog) (w := w) (base := base) D_law_deals b_range c_law_draw
  have c_Attempt___init__ := ok_Attempt___init__ (P := l.prog) (w := w) (base := base) T_Attempt D_Attempt___init__ g_START
  have c_Clerk___init__ := ok_Clerk___init__ (P := l.prog) (w := w) (base := base) T_Clerk T_Route T_Call D_Clerk___init__ b_list
  have c_law_numbers := ok_law_numbers (P := l.prog) (w := w) (base := base) D_law_numbers b_range c_law_mixed
  have c_Clerk_route := ok_Clerk_route (P := l.prog) (w := w) (base := base) T_Clerk T_Route T_Call D_Clerk_route c_Route___init__
  have c_Clerk_change_routes := ok_Clerk_change_routes (P := l.prog) (w := w) (base := base) T_Route T_Clerk T_Call D_Clerk_change_routes b_sorted c_Route_change c_Clerk_route
  have c_Clerk_sent := ok_Clerk_sent (P := l.prog) (w := w) (base := base) T_Call T_Route T_Clerk D_Clerk_sent c_Clerk_route
  have c_Clerk_make := ok_Clerk_make (P := l.prog) (w := w) (base := base) T_Clerk T_Call T_Route D_Clerk_make c_Call___init__
  have c_Clerk_make_all := ok_Clerk_make_all (P := l.prog) (w := w) (base := base) T_Clerk T_Route T_Call D_Clerk_make_all c_Clerk_make
  have c_Attempt_begin := ok_Attempt_begin (P := l.prog) (w := w) (base := base) T_Attempt D_Attempt_begin g_ASK_TIME k_ASK_TIME k_ASK_TIME_2
  have c_Clerk_begin := ok_Clerk_begin (P := l.prog) (w := w) (base := base) T_Clerk T_Attempt T_Route T_Call D_Clerk_begin c_Clerk_make_all c_Attempt_begin c_Attempt___init__
  have c_Clerk_act := ok_Clerk_act (P := l.prog) (w := w) (base := base) T_Clerk T_Route T_Call T_Attempt D_Clerk_act b_sorted b_len c_Clerk_sent c_Clerk_begin c_Clerk_change_routes
  have c_law_equal := fun n => ok_equal (P := l.prog) (w := w) (base := base) D_law_equal D_law_all_equal b_isinstance b_list b_tuple b_bool b_int b_str b_len b_range n
  have c_Clerk_hear := ok_Clerk_hear (P := l.prog) (w := w) (base := base) T_Call T_Clerk T_Route D_Clerk_hear
  have c_law_hear := ok_law_hear (P := l.prog) (w := w) (base := base) T_Clerk T_Route T_Call D_law_hear c_Clerk_hear c_law_draw
  have c_Clerk_events := ok_Clerk_events (P := l.prog) (w := w) (base := base) T_Clerk T_Route T_Call D_Clerk_events
  have c_Clerk_idle := ok_Clerk_idle (P := l.prog) (w := w) (base := base) T_Clerk T_Route T_Call D_Clerk_idle b_len
  exact ok_law T_Clerk T_Route T_Call T_Attempt D_law b_range b_len b_list c_law_draw (c_law_equal 4) c_law_hear c_Clerk_idle c_Clerk_events c_Clerk_act c_Clerk___init__ c_law_deals c_law_numbers
theorem walk {l : PySem.W.OpenLaw} {q : Program} {loose : List Str} {XP : (Str → Option Value) → Heap → Prop} {YP : World → Heap → Prop} {d : DefRec} {K : Params → PySem.W.Frag} (hn : l.most = some 63) (hdf : d.params.defaults = [])
    (hY : ∀ (w : World) (h : Heap), YP w h → (K w.params).In h)
    (F : ∀ (w : World) (mg : Str → Option Value) (fa : Addr) (h : Heap), (K w.params).In h → h.Ns mainGlobals mg → mg d.name = some (.ref fa) →
      ∃ fd : FuncData, (∀ (s : Shared) (u : Value), BindsTo s fd ⟨[u], []⟩ [("script", u)]) ∧ ∀ base : Heap, (K w.params).In base → base.Ns mainGlobals mg → FnOk l.prog w (K w.params) mg base CX0 10 fa fd ["script"] (sp_law (K w.params))) :
    PySem.W.WalkO q loose XP YP l.row.toRowW d [] (fun f vs => PySem.call f vs) :=
  L2.walk_of (n := 63) (k := 10) (x := "script") (CX := fun _ => CX0) (sp := fun w => sp_law (K w.params)) hn (by decide) hdf ⟨rfl, by decide, by decide⟩ hY F (fun _ _ a ns hl _ hS => ⟨a, ns, rfl, hS, hl, fun _ => rfl⟩) fun _ _ _ _ _ z => z
end Nz
open PySem PySem.W PyProof.Rows
set_option maxRecDepth 100000 in
set_option maxHeartbeats 0 in
theorem PySem.Challenge.cw_wholecloth_k50_clerks_ask_for_a_start_holds : PySem.Challenge.rw_wholecloth_k50_clerks_ask_for_a_start.Holds := by
  w_on; o_law; k_head; (case hw => w_witness2)
  k_fill
  refine Nz.walk (l := PySem.Challenge.rw_wholecloth_k50_clerks_ask_for_a_start) rfl rfl (fun w h Y => PySem.W.kIn_of Y) ?F
  case F =>
    intro w mg fa h KX G hmg
    refine' Nz.all_mk KX G hmg ?aC_Route ?pgC_Route ?hdC_Route ?poC_Route ?saC_Route ?kcC_Route ?mkC_Route ?nfC_machine_Route ?nfC_turn_Route ?nfC_taken_Route ?aC_Call ?pgC_Call ?hdC_Call ?poC_Call ?saC_Call ?kcC_Call ?mkC_Call ?nfC_group_Call ?nfC_command_Call ?nfC_blocked_Call ?nfC_hint_Call ?aC_Attempt ?pgC_Attempt ?hdC_Attempt ?poC_Attempt ?saC_Attempt ?kcC_Attempt ?mkC_Attempt ?nfC_deal_Attempt ?nfC_ops_Attempt ?nfC_step_Attempt ?nfC_needed_Attempt ?nfC_start_Attempt ?nfC_parts_Attempt ?nfC_rows_Attempt ?nfC_results_Attempt ?nfC_groups_Attempt ?nfC_lead_Attempt ?nfC_verdict_Attempt ?nfC_ended_Attempt ?nfC_over_Attempt ?aC_Clerk ?pgC_Clerk ?hdC_Clerk ?poC_Clerk ?saC_Clerk ?kcC_Clerk ?mkC_Clerk ?nfC_client_Clerk ?nfC_machines_Clerk ?nfC_deals_Clerk ?nfC_number_Clerk ?nfC_busy_Clerk ?nfC_places_Clerk ?nfC_routes_Clerk ?nfC_token_Clerk ?nfC_calls_Clerk ?nfC_attempt_Clerk ?nfC_tries_Clerk ?nfC_news_Clerk ?a0 ?i0 ?l0 ?c0 ?k0 ?a1 ?i1 ?l1 ?c1 ?k1 ?a2 ?i2 ?l2 ?c2 ?k2 ?a3 ?l3 ?c3 ?k3 ?a4 ?l4 ?c4 ?k4 ?a5 ?l5 ?c5 ?k5 ?a6 ?i6 ?l6 ?c6 ?k6 ?a7 ?i7 ?l7 ?c7 ?k7 ?a8 ?l8 ?c8 ?k8 ?a9 ?i9 ?l9 ?c9 ?k9 ?a10 ?i10 ?l10 ?c10 ?k10 ?a11 ?i11 ?l11 ?c11 ?k11 ?a12 ?i12 ?l12 ?c12 ?k12 ?a13 ?i13 ?l13 ?c13 ?k13 ?a14 ?i14 ?l14 ?c14 ?k14 ?a15 ?i15 ?l15 ?c15 ?k15 ?a16 ?i16 ?l16 ?c16 ?k16 ?a17 ?l17 ?c17 ?k17 ?a18 ?l18 ?c18 ?k18 ?a19 ?i19 ?l19 ?c19 ?k19 ?a20 ?l20 ?c20 ?k20 ?a21 ?i21 ?l21 ?c21 ?k21 ?a22 ?i22 ?l22 ?c22 ?k22 ?a23 ?l23 ?c23 ?k23 ?z_len ?z_range ?z_list ?z_sorted ?z_isinstance ?z_str ?z_int ?z_bool ?z_tuple ?q_START ?q_ASK_TIME ?w_ASK_TIME ?w_ASK_TIME_2
    (case aC_Route => k_is)
    (case pgC_Route => k_is)
    (case hdC_Route => k_is)
    (case poC_Route => k_is)
    (case saC_Route => k_is)
    (case kcC_Route => k_is)
    (case mkC_Route => k_is)
    (case nfC_machine_Route => k_is)
    (case nfC_turn_Route => k_is)
    (case nfC_taken_Route => k_is)
    (case aC_Call => k_is)
    (case pgC_Call => k_is)
    (case hdC_Call => k_is)
    (case poC_Call => k_is)
    (case saC_Call => k_is)
    (case kcC_Call => k_is)
    (case mkC_Call => k_is)
    (case nfC_group_Call => k_is)
    (case nfC_command_Call => k_is)
    (case nfC_blocked_Call => k_is)
    (case nfC_hint_Call => k_is)
    (case aC_Attempt => k_is)
    (case pgC_Attempt => k_is)
    (case hdC_Attempt => k_is)
    (case poC_Attempt => k_is)
    (case saC_Attempt => k_is)
    (case kcC_Attempt => k_is)
    (case mkC_Attempt => k_is)
    (case nfC_deal_Attempt => k_is)
    (case nfC_ops_Attempt => k_is)
    (case nfC_step_Attempt => k_is)
    (case nfC_needed_Attempt => k_is)
    (case nfC_start_Attempt => k_is)
    (case nfC_parts_Attempt => k_is)
    (case nfC_rows_Attempt => k_is)
    (case nfC_results_Attempt => k_is)
    (case nfC_groups_Attempt => k_is)
    (case nfC_lead_Attempt => k_is)
    (case nfC_verdict_Attempt => k_is)
    (case nfC_ended_Attempt => k_is)
    (case nfC_over_Attempt => k_is)
    (case aC_Clerk => k_is)
    (case pgC_Clerk => k_is)
    (case hdC_Clerk => k_is)
    (case poC_Clerk => k_is)
    (case saC_Clerk => k_is)
    (case kcC_Clerk => k_is)
    (case mkC_Clerk => k_is)
    (case nfC_client_Clerk => k_is)
    (case nfC_machines_Clerk => k_is)
    (case nfC_deals_Clerk => k_is)
    (case nfC_number_Clerk => k_is)
    (case nfC_busy_Clerk => k_is)
    (case nfC_places_Clerk => k_is)
    (case nfC_routes_Clerk => k_is)
    (case nfC_token_Clerk => k_is)
    (case nfC_calls_Clerk => k_is)
    (case nfC_attempt_Clerk => k_is)
    (case nfC_tries_Clerk => k_is)
    (case nfC_news_Clerk => k_is)
    (case a0 => k_is)
    (case i0 => k_is)
    (case l0 => k_is)
    (case c0 => k_is)
    (case k0 => k_is)
    (case a1 => k_is)
    (case i1 => k_is)
    (case l1 => k_is)
    (case c1 => k_is)
    (case k1 => k_is)
    (case a2 => k_is)
    (case i2 => k_is)
    (case l2 => k_is)
    (case c2 => k_is)
    (case k2 => k_is)
    (case a3 => k_is)
    (case l3 => k_is)
    (case c3 => k_is)
    (case k3 => k_is)
    (case a4 => k_is)
    (case l4 => k_is)
    (case c4 => k_is)
    (case k4 => k_is)
    (case a5 => k_is)
    (case l5 => k_is)
    (case c5 => k_is)
    (case k5 => k_is)
    (case a6 => k_is)
    (case i6 => k_is)
    (case l6 => k_is)
    (case c6 => k_is)
    (case k6 => k_is)
    (case a7 => k_is)
    (case i7 => k_is)
    (case l7 => k_is)
    (case c7 => k_is)
    (case k7 => k_is)
    (case a8 => k_is)
    (case l8 => k_is)
    (case c8 => k_is)
    (case k8 => k_is)
    (case a9 => k_is)
    (case i9 => k_is)
    (case l9 => k_is)
    (case c9 => k_is)
    (case k9 => k_is)
    (case a10 => k_is)
    (case i10 => k_is)
    (case l10 => k_is)
    (case c10 => k_is)
    (case k10 => k_is)
    (case a11 => k_is)
    (case i11 => k_is)
    (case l11 => k_is)
    (case c11 => k_is)
    (case k11 => k_is)
    (case a12 => k_is)
    (case i12 => k_is)
    (case l12 => k_is)
    (case c12 => k_is)
    (case k12 => k_is)
    (case a13 => k_is)
    (case i13 => k_is)
    (case l13 => k_is)
    (case c13 => k_is)
    (case k13 => k_is)
    (case a14 => k_is)
    (case i14 => k_is)
    (case l14 => k_is)
    (case c14 => k_is)
    (case k14 => k_is)
    (case a15 => k_is)
    (case i15 => k_is)
    (case l15 => k_is)
    (case c15 => k_is)
    (case k15 => k_is)
    (case a16 => k_is)
    (case i16 => k_is)
    (case l16 => k_is)
    (case c16 => k_is)
    (case k16 => k_is)
    (case a17 => k_is)
    (case l17 => k_is)
    (case c17 => k_is)
    (case k17 => k_is)
    (case a18 => k_is)
    (case l18 => k_is)
    (case c18 => k_is)
    (case k18 => k_is)
    (case a19 => k_is)
    (case i19 => k_is)
    (case l19 => k_is)
    (case c19 => k_is)
    (case k19 => k_is)
    (case a20 => k_is)
    (case l20 => k_is)
    (case c20 => k_is)
    (case k20 => k_is)
    (case a21 => k_is)
    (case i21 => k_is)
    (case l21 => k_is)
    (case c21 => k_is)
    (case k21 => k_is)
    (case a22 => k_is)
    (case i22 => k_is)
    (case l22 => k_is)
    (case c22 => k_is)
    (case k22 => k_is)
    (case a23 => k_is)
    (case l23 => k_is)
    (case c23 => k_is)
    (case k23 => k_is)
    (case z_len => k_is)
    (case z_range => k_is)
    (case z_list => k_is)
    (case z_sorted => k_is)
    (case z_isinstance => k_is)
    (case z_str => k_is)
    (case z_int => k_is)
    (case z_bool => k_is)
    (case z_tuple => k_is)
    (case q_START => k_is)
    (case q_ASK_TIME => k_is)
    (case w_ASK_TIME => k_is)
    (case w_ASK_TIME_2 => k_is)
