import PyProof.Rows.All
import Wide.All
import OpenK.AllK
import Wide.FinOn
import HandS.ForMost
import HandS.IsInst
import HandS.TupAny
import HandS.Flow
import HandS.SortInts
import HandS.More
import HandS.Exc
import HandS.TryOnly
import HandS.SuiteRaise
import HandS.RaiseFrom
import HandS.ExcOwn
import HandS.WordsExc
import HandS.ExcIs
import HandS.Strs
import HandS.SetBool
import HandS.TupSets
import HandS.SetFor
import HandS.Deep
import HandS.Property
import HandS.Zip
import HandS.SortKw
import HandS.Defaults
import HandS.DictTup
import HandS.DictComp
import HandS.Conv
import HandS.Walk
import KE.DataMinMax
import KE.SortData
import KE.SortKeyHeap
import HandS.Iter
import HandS.ExcValue
import KE.DatumOrd
import KE.KDictCopyH
import PySem.Challenge.RW_wholecloth_k64_records_of_deals_are_chec
set_option Elab.async false
set_option linter.all false
set_option maxRecDepth 100000
set_option maxHeartbeats 4000000
/-! The walk's own layer: M (what is owned and may change), G (what stands for good), H (both). -/
namespace Nz
open PySem L2 PySem.Spec PyProof.Rows

/-! ### heaps -/
abbrev Ex (G G' : Hp) : Prop := Same G G'
structure J (M G H : Hp) : Prop where
  m : Same M H
  g : Same G H
  d : ∀ a o, M a = some o → G a = none
theorem upd_ne' {H : Hp} {a b : Addr} {o u : HO} (e : H b = some u) (h : b ≠ a) : upd H a o b = some u := by rw [upd_ne h]; exact e
theorem Ex.new {G : Hp} {t : Addr} {o : HO} (h : G t = none) : Ex G (upd G t o) := fun a u e => by
  rw [upd_ne (ne_of_none e h)]; exact e
section
variable {M G H : Hp} {t d : Addr} {o o' : HO}
theorem J.freeM (j : J M G H) (h : H t = none) : M t = none := j.m.free h
theorem J.freeG (j : J M G H) (h : H t = none) : G t = none := j.g.free h
theorem J.newG (j : J M G H) (h : H t = none) : J M (upd G t o) (upd H t o) where
  m := fun a u e => by rw [upd_ne (ne_of_none (j.m a u e) h)]; exact j.m a u e
  g := fun a u e => by
    by_cases q : a = t
    · subst q; rw [upd_same] at e ⊢; exact e
    · rw [upd_ne q] at e ⊢; exact j.g a u e
  d := fun a u e => by rw [upd_ne (ne_of_none (j.m a u e) h)]; exact j.d a u e
theorem J.newM (j : J M G H) (h : H t = none) : J (upd M t o) G (upd H t o) where
  g := fun a u e => by rw [upd_ne (ne_of_none (j.g a u e) h)]; exact j.g a u e
  m := fun a u e => by
    by_cases q : a = t
    · subst q; rw [upd_same] at e ⊢; exact e
    · rw [upd_ne q] at e ⊢; exact j.m a u e
  d := fun a u e => by
    by_cases q : a = t
    · subst q; exact j.freeG h
    · rw [upd_ne q] at e; exact j.d a u e
theorem J.put (j : J M G H) (h : M t = some o) : J (upd M t o') G (upd H t o') where
  g := fun a u e => by
    have q : a ≠ t := fun z => by subst z; rw [j.d a o h] at e; cases e
    rw [upd_ne q]; exact j.g a u e
  m := fun a u e => by
    by_cases q : a = t
    · subst q; rw [upd_same] at e ⊢; exact e
    · rw [upd_ne q] at e ⊢; exact j.m a u e
  d := fun a u e => by
    by_cases q : a = t
    · subst q; exact j.d a o h
    · rw [upd_ne q] at e; exact j.d a u e
theorem J.freeze (j : J (upd M t o) G H) (h : M t = none) : J M (upd G t o) H where
  m := fun a u e => j.m a u (by rw [upd_ne (ne_of_none e h)]; exact e)
  g := fun a u e => by
    by_cases q : a = t
    · subst q; rw [upd_same] at e; cases e; exact j.m a _ upd_same
    · rw [upd_ne q] at e; exact j.g a u e
  d := fun a u e => by
    have q : a ≠ t := ne_of_none e h
    rw [upd_ne q]; exact j.d a u (by rw [upd_ne q]; exact e)
theorem J.freezeG (j : J (upd M t o) G H) : G t = none := j.d t o upd_same
theorem J.ex (j : J M G H) {H' : Hp} (e : Same H H') : J M G H' := ⟨j.m.trans e, j.g.trans e, j.d⟩
theorem J.start (H : Hp) : J (fun _ => none) H H := ⟨fun _ _ e => (nomatch e), Same.refl H, fun _ _ e => (nomatch e)⟩
end

/-! ### reading along -/
theorem rd_same {G G' : Hp} {a : Addr} {u : HO} (e : Same G G') (h : Rd G a u) : Rd G' a u := by
  rcases h with h | ⟨o, h⟩
  · exact .inl (e a _ h)
  · exact .inr ⟨o, e a _ h⟩
section
variable {K : PySem.W.Frag} {G G' : Hp} {a : Addr} {xs : List V}
theorem sl_of (h : G a = some (.lst xs)) : SqL K G a xs := .inl (.inl h)
theorem st_of (h : G a = some (.tup xs)) : SqT K G a xs := .inl (.inl h)
theorem sl_mono (e : Same G G') (h : SqL K G a xs) : SqL K G' a xs := h.elim (fun h => .inl (rd_same e h)) .inr
theorem st_mono (e : Same G G') (h : SqT K G a xs) : SqT K G' a xs := h.elim (fun h => .inl (rd_same e h)) .inr
end

/-! ### M but for one cell -/
def Ag (p : Addr) (M M' : Hp) : Prop := ∀ b, b ≠ p → M' b = M b
theorem Ag.refl (p : Addr) (M : Hp) : Ag p M M := fun _ _ => rfl
theorem Ag.trans {p : Addr} {M M1 M2 : Hp} (a : Ag p M M1) (b : Ag p M1 M2) : Ag p M M2 := fun c h => (b c h).trans (a c h)
theorem Ag.upd {p : Addr} {M : Hp} {o : HO} : Ag p M (upd M p o) := fun _ h => upd_ne h

/-- M without a cell -/
def del (M : Hp) (L : Addr) : Hp := fun b => if b = L then none else M b
theorem del_same {M : Hp} {L : Addr} : del M L L = none := by unfold del; rw [if_pos rfl]
theorem del_ne {M : Hp} {L b : Addr} (h : b ≠ L) : del M L b = M b := by unfold del; rw [if_neg h]
theorem J.seal {M G H : Hp} {L : Addr} {o : HO} (j : J M G H) (h : M L = some o) : J (del M L) (upd G L o) H where
  m := fun a u e => by
    by_cases q : a = L
    · subst q; rw [del_same] at e; cases e
    · rw [del_ne q] at e; exact j.m a u e
  g := fun a u e => by
    by_cases q : a = L
    · subst q; rw [upd_same] at e; cases e; exact j.m _ _ h
    · rw [upd_ne q] at e; exact j.g a u e
  d := fun a u e => by
    by_cases q : a = L
    · subst q; rw [del_same] at e; cases e
    · rw [del_ne q] at e; rw [upd_ne q]; exact j.d a u e
theorem J.out {M G H : Hp} {L : Addr} {o : HO} (j : J M G H) (h : M L = some o) : G L = none := j.d L o h
theorem J.drop {M G H : Hp} (L : Addr) (j : J M G H) : J (del M L) G H where
  m := fun a u e => by
    by_cases q : a = L
    · subst q; rw [del_same] at e; cases e
    · rw [del_ne q] at e; exact j.m a u e
  g := j.g
  d := fun a u e => by
    by_cases q : a = L
    · subst q; rw [del_same] at e; cases e
    · rw [del_ne q] at e; exact j.d a u e
/-- what stood for good is owned again, where G0 knew nothing of it -/
theorem J.thaw {M G G0 H : Hp} {b : Addr} {u : HO} (j : J M G H) (e : Ex G0 G) (h : G b = some u) (hb : G0 b = none) : J (upd M b u) G0 H where
  m := fun a x q => by
    by_cases z : a = b
    · subst z; rw [upd_same] at q; cases q; exact j.g _ _ h
    · rw [upd_ne z] at q; exact j.m a x q
  g := fun a x q => j.g a x (e a x q)
  d := fun a x q => by
    by_cases z : a = b
    · subst z; exact hb
    · rw [upd_ne z] at q
      cases r : G0 a with
      | none => rfl
      | some y => have := j.d a x q; rw [e a y r] at this; cases this
theorem J.less {M G G0 H : Hp} (j : J M G H) (e : Ex G0 G) : J M G0 H where
  m := j.m
  g := fun a x q => j.g a x (e a x q)
  d := fun a x q => by
    cases r : G0 a with
    | none => rfl
    | some y => have := j.d a x q; rw [e a y r] at this; cases this
theorem J.own {M G H : Hp} {b : Addr} {u : HO} (j : J M G H) (h : H b = some u) (hb : G b = none) : J (upd M b u) G H where
  m := fun a x q => by
    by_cases z : a = b
    · subst z; rw [upd_same] at q; cases q; exact h
    · rw [upd_ne z] at q; exact j.m a x q
  g := j.g
  d := fun a x q => by
    by_cases z : a = b
    · subst z; exact hb
    · rw [upd_ne z] at q; exact j.d a x q
/-- M but for two cells -/
def Ag2 (p L : Addr) (M M' : Hp) : Prop := ∀ b, b ≠ p → b ≠ L → M' b = M b
theorem Ag2.refl (p L : Addr) (M : Hp) : Ag2 p L M M := fun _ _ _ => rfl
theorem Ag2.upd {p L : Addr} {M M' : Hp} {o : HO} (h : Ag2 p L M M') : Ag2 p L M (upd M' L o) := fun b h1 h2 => (upd_ne h2).trans (h b h1 h2)
theorem Ag2.ag {p L : Addr} {M M1 M2 : Hp} (h : Ag2 p L M M1) (a : Ag p M1 M2) : Ag2 p L M M2 := fun b h1 h2 => (a b h1).trans (h b h1 h2)
theorem Ag2.del {p L : Addr} {M M' : Hp} (h : Ag2 p L M M') (n : M L = none) : Ag p M (del M' L) := fun b h1 => by
  by_cases q : b = L
  · subst q; rw [del_same, n]
  · rw [del_ne q]; exact h b h1 q
theorem Ag.del_eq {L : Addr} {M M2 : Hp} (a : Ag L M M2) (n : M L = none) : del M2 L = M := by
  funext b
  by_cases q : b = L
  · subst q; rw [del_same, n]
  · rw [del_ne q]; exact a b q
theorem Ag.at {p b : Addr} {M M' : Hp} {o : HO} (a : Ag p M M') (e : M b = some o) (h : b ≠ p) : M' b = some o := (a b h).trans e

/-! ### promises: al: what is known of the arguments, then J; the end likewise -/
def Sg {α : Type} (pre : α → List V → Hp → Hp → Prop) (post : α → Hp → Hp → V → Hp → Hp → Prop) : Sp := fun vs H Q _ =>
  ∃ a M G, J M G H ∧ pre a vs M G ∧ ∀ v M' G' H', J M' G' H' → Ex G G' → post a M G v M' G' → Q v H'
theorem w_sg {α : Type} {pre : α → List V → Hp → Hp → Prop} {post : α → Hp → Hp → V → Hp → Hp → Prop} {vs : List V} {M G H : Hp} {Q : VK} {E : XK} (a : α) (j : J M G H) (hp : pre a vs M G)
    (k : ∀ v M' G' H', J M' G' H' → Ex G G' → post a M G v M' G' → Q v H') : Sg pre post vs H Q E := ⟨a, M, G, j, hp, k⟩

/-! ### a def under its name -/
structure Dn (K : PySem.W.Frag) (mg : Str → Option Value) (x : Str) (st : Stmt) (ps : List Str) (f : Addr) (fd : FuncData) : Prop where
  fn : Fun K x x st f fd
  mgf : mg x = some (.ref f)
  kp : PySem.W.keepIn K (.ref f) = true
  bn : Binds K fd ps []
structure Cal (P : Program) (w : World) (K : PySem.W.Frag) (mg : Str → Option Value) (base : Heap) (CX : CXT) (k : Nat) (x : Str) (sp : Sp) : Prop where
  ex : ∃ (f : Addr) (fd : FuncData) (ps : List Str), FnOk P w K mg base CX k f fd ps sp ∧ mg x = some (.ref f) ∧ PySem.W.keepIn K (.ref f) = true ∧ Binds K fd ps []
section
variable {P : Program} {w : World} {K : PySem.W.Frag} {mg : Str → Option Value} {base : Heap} {CX : CXT}
theorem Dn.cal {x : Str} {st : Stmt} {ps : List Str} {f : Addr} {fd : FuncData} {k : Nat} {sp : Sp} (D : Dn K mg x st ps f fd) (F : FnOk P w K mg base CX k f fd ps sp) : Cal P w K mg base CX k x sp := ⟨f, fd, ps, F, D.mgf, D.kp, D.bn⟩
theorem Cal.mono {x : Str} {j k : Nat} {sp : Sp} (c : Cal P w K mg base CX j x sp) (h : j ≤ k) : Cal P w K mg base CX k x sp := by
  obtain ⟨f, fd, ps, F, a, b, d⟩ := c.ex
  exact ⟨f, fd, ps, F.mono h, a, b, d⟩
/-- a def that lets nothing out: its body -/
theorem Dn.ok {x : Str} {st : Stmt} {ps : List Str} {f : Addr} {fd : FuncData} {N : List Str} {k : Nat} {sp : Sp} (D : Dn K mg x st ps f fd) (S : FnScope N ps (defScope st)) (len : ∀ vs H Q E, sp vs H Q E → vs.length = ps.length)
    (hbody : ∀ (cdv : Value) (A : Around) (outer : List Env) (s : Shared) (H : Hp) (vs : List V) (Q : VK) (E : XK), Room k (A.deeper (envOfC x (defScope st) s.heap.objs.size f cdv)) → sp vs H Q E →
      ∃ t, PSs (cxOf CX0 P w K mg base N x (defScope st) f cdv A outer s H E).nox (defBody st) t ∧ t { nx := fun _ H' => Q .non H', rt := Q } (start N vs) H) : Cal P w K mg base CX0 (k + 1) x sp :=
  D.cal (D.fn.ok S len hbody)
end
section
variable {X : Cx} {CX : CXT} {k j : Nat} {x : Str} {sp : Sp} {p pos : Pos} {e : Expr} {es : List Expr} {t : TA} {E : XK}
theorem pe_cal (c : Cal X.prog X.w X.K X.mg X.base CX0 k x sp) (hr : Room j X.A) (hk : k ≤ j) (hg : Gl X x) (ha : PA X (e :: es) t)
    (hdb : (x == ("__debug__" : Str)) = false := by decide) (he : starEach (e :: es) X.env = (false, eval e X.env) :: starEach es X.env := by rfl) (hpl : (backTo pos (starEach es X.env)).any (·.1) = false := by rfl) :
    PE X (.Call (.Name x p) (e :: es) [] pos) (tCall sp [] E0 t) := by
  obtain ⟨f, fd, ps, F, hm, kp, b⟩ := c.ex
  exact pe_call F (hr.mono hk) hg hm kp b .nil pass0 ha hdb he hpl
theorem pe_cal0 (c : Cal X.prog X.w X.K X.mg X.base CX0 k x sp) (hr : Room j X.A) (hk : k ≤ j) (hg : Gl X x)
    (hdb : (x == ("__debug__" : Str)) = false := by decide) : PE X (.Call (.Name x p) [] [] pos) (tCall sp [] E0 tNil) := by
  obtain ⟨f, fd, ps, F, hm, kp, b⟩ := c.ex
  exact pe_call0 F (hr.mono hk) hg hm kp b .nil pass0 hdb
/-! ### operators whatever their operands are -/
def uAdd (K : PySem.W.Frag) : R2 := fun x y H Q => rI0 (fun i j => .int (i + j)) x y H Q ∨ (rCat x y H Q ∨ rCatA K x y H Q)
theorem op_uAdd : OpR X (binaryOp .Add) (uAdd X.K) := op_add.or (op_cat.or op_catA)
def uEq (K : PySem.W.Frag) : R2 := fun x y H Q => rEq x y H Q ∨ rEqD K x y H Q
theorem op_uEq (hr : Room j X.A) : OpR X (compareOp .Eq) (uEq X.K) := op_eq.or (op_eqD hr.units)
def uNe (K : PySem.W.Frag) : R2 := fun x y H Q => rNe x y H Q ∨ rNeD K x y H Q
theorem op_uNe (hr : Room j X.A) : OpR X (compareOp .NotEq) (uNe X.K) := op_ne.or (op_neD hr.units)
def uIx (K : PySem.W.Frag) : R2 := fun x y H Q => rIxL K x y H Q ∨ rIxT K x y H Q
theorem ix_u : IxR X (uIx X.K) := ix_list.or ix_tup
def uSl (K : PySem.W.Frag) : V → Option Int → Option Int → Hp → VK → Prop := fun x lo hi H Q => rSlL K x lo hi H Q ∨ rSlA K x lo hi H Q
theorem sl_u : SlR X (uSl X.K) := sl_list.or sl_tupA
def uMul : R2 := fun x y H Q => rI CMul (fun i j => .int (i * j)) x y H Q ∨ rRep x y H Q
theorem op_uMul : OpR X (binaryOp .Mult) uMul := op_mul.or op_rep
def uLen (K : PySem.W.Frag) : List V → Hp → VK → Prop := fun xs H Q => (∃ p ys, xs = [.ref p] ∧ (SqL K H p ys ∨ SqT K H p ys) ∧ Q (.int ys.length) H) ∨ (∃ a kvs, xs = [V.ref a] ∧ H a = some (.dK kvs) ∧ Q (.int kvs.length) H)
theorem call_uLen : CallR X (.builtin "len") (uLen X.K) := call_len_seq.or call_lenD
end

theorem bt_int : bootBuiltins "int" = some (.type "int") := by decide +kernel
theorem bt_str : bootBuiltins "str" = some (.type "str") := by decide +kernel
theorem bt_bool : bootBuiltins "bool" = some (.type "bool") := by decide +kernel
theorem bt_list : bootBuiltins "list" = some (.type "list") := by decide +kernel
theorem bt_tuple : bootBuiltins "tuple" = some (.type "tuple") := by decide +kernel
theorem bt_dict : bootBuiltins "dict" = some (.type "dict") := by decide +kernel
theorem bt_set : bootBuiltins "set" = some (.type "set") := by decide +kernel
theorem bt_isinstance : bootBuiltins "isinstance" = some (.builtin "isinstance") := by decide +kernel
theorem bt_min : bootBuiltins "min" = some (.builtin "min") := by decide +kernel
theorem bt_max : bootBuiltins "max" = some (.builtin "max") := by decide +kernel
theorem bt_sorted : bootBuiltins "sorted" = some (.builtin "sorted") := by decide +kernel
theorem bt_sum : bootBuiltins "sum" = some (.builtin "sum") := by decide +kernel
theorem bt_abs : bootBuiltins "abs" = some (.builtin "abs") := by decide +kernel
theorem pe_gk {X : Cx} {x : Str} {pos : Pos} {v : V} (hg : Gl X x) (h : ∃ u, X.mg x = some u ∧ RelV v u) (hd : (x == ("__debug__" : Str)) = false := by decide) : PE X (.Name x pos) (tC v) := by
  obtain ⟨u, hm, r⟩ := h
  exact pe_glob hg hm r hd

section
variable {X : Cx} {j : Nat} {K : PySem.W.Frag}
theorem op_uAddK (h : X.K = K) : OpR X (binaryOp .Add) (uAdd K) := h ▸ op_uAdd
theorem op_uEqK (h : X.K = K) (hr : Room j X.A) : OpR X (compareOp .Eq) (uEq K) := h ▸ op_uEq hr
theorem op_uNeK (h : X.K = K) (hr : Room j X.A) : OpR X (compareOp .NotEq) (uNe K) := h ▸ op_uNe hr
theorem ix_uK (h : X.K = K) : IxR X (uIx K) := h ▸ ix_u
theorem sl_uK (h : X.K = K) : SlR X (uSl K) := h ▸ sl_u
theorem call_uLenK (h : X.K = K) : CallR X (.builtin "len") (uLen K) := h ▸ call_uLen
theorem call_isiK' (h : X.K = K) : CallR X (.builtin "isinstance") (rIsi K) := h ▸ call_isi
theorem op_inK (h : X.K = K) : OpR X (compareOp .In) (rIn K false) := h ▸ op_in_seq
theorem op_notInK (h : X.K = K) : OpR X (compareOp .NotIn) (rIn K true) := h ▸ op_notIn_seq
end

/-! ### the steps -/
section
variable {K : PySem.W.Frag} {M G H : Hp} {σ : L2.St} {i : Nat} {v x y : V} {ta tb tc te : TE} {r r' : R2} {Q : VK} {D : Ends} {t u : TS} {c c' : TT} {QB : Bool → Hp → Prop} {g : TG} {a b p : Addr} {xs ys : List V} {m n : Int} {QL : List V → Hp → Prop}
theorem w_var (h : σ[i]? = some (some v)) (q : Q v H) : tVar i σ H Q := ⟨v, h, q⟩
theorem w_c (q : Q v H) : tC v σ H Q := q
theorem w_op (h : ta σ H fun x H1 => tb σ H1 fun y H2 => r x y H2 Q) : tOp r ta tb σ H Q := h
theorem w_un {r : V → Hp → VK → Prop} (h : ta σ H fun x H1 => r x H1 Q) : tUn r ta σ H Q := h
theorem w_chain (h : ta σ H fun x H1 => tb σ H1 fun y H2 => r x y H2 fun z H3 => ∃ k, z = .bl k ∧ (if k = true then tc σ H3 fun w' H4 => r' y w' H4 Q else Q (.bl false) H3)) : tChain r r' ta tb tc σ H Q := h
theorem w_test (h : ta σ H fun x H' => ∃ k, x = .bl k ∧ QB k H') : tTest ta σ H QB := h
theorem w_tB (h : ta σ H fun x H' => ∃ k, x = .bl k ∧ QB k H') : tB ta σ H QB := h
theorem w_bl {P : Bool → Prop} {b : Bool} (q : P b) : ∃ k, V.bl b = .bl k ∧ P k := ⟨b, rfl, q⟩
theorem w_and (h : c σ H fun k H1 => if k = true then c' σ H1 QB else QB false H1) : tAnd c c' σ H QB := h
theorem w_or (h : c σ H fun k H1 => if k = true then QB true H1 else c' σ H1 QB) : tOr c c' σ H QB := h
theorem w_not (h : c σ H fun k H1 => QB (!k) H1) : tNot c σ H QB := h
theorem w_andV (h : ta σ H fun x H1 => ∃ k, x = .bl k ∧ if k = true then tb σ H1 Q else Q (.bl false) H1) : tAndV ta tb σ H Q := h
theorem w_orV (h : ta σ H fun x H1 => ∃ k, x = .bl k ∧ if k = true then Q (.bl true) H1 else tb σ H1 Q) : tOrV ta tb σ H Q := h
theorem w_notV (h : ta σ H fun x H1 => ∃ k, x = .bl k ∧ Q (.bl (!k)) H1) : tNotV ta σ H Q := h
theorem w_ifE (h : c σ H fun k H1 => if k = true then ta σ H1 Q else tb σ H1 Q) : tIf c ta tb σ H Q := h
theorem w_isN (h : ta σ H fun x H1 => Q (.bl (decide (x = .non))) H1) : tIsN ta σ H Q := h
theorem w_notN (h : ta σ H fun x H1 => Q (.bl (!decide (x = .non))) H1) : tNotN ta σ H Q := h
/- statements -/
theorem w_seq (h : t { D with nx := u D } σ H) : tSeq t u D σ H := h
theorem w_next (h : D.nx σ H) : tNext D σ H := h
theorem w_ret (h : te σ H D.rt) : tRet te D σ H := h
theorem w_retN (h : D.rt .non H) : tRetN D σ H := h
theorem w_if (h : c σ H fun b H1 => if b = true then t D σ H1 else u D σ H1) : tIfS c t u D σ H := h
theorem w_asg (h : te σ H fun x H1 => g x σ H1 D.nx) : tAsg te g D σ H := h
theorem w_drop (h : te σ H fun _ H1 => D.nx σ H1) : tDrop te D σ H := h
theorem w_gName {R : L2.St → Hp → Prop} (h : R (σ.set i (some v)) H) : gName i v σ H R := h
theorem w_gSub {s : TSet} {to ti : TE} {R : L2.St → Hp → Prop} (h : to σ H fun o H1 => ti σ H1 fun i H2 => s o i v H2 fun H3 => R σ H3) : gSub to ti s v σ H R := h
theorem w_gTup {gs : TGs} {R : L2.St → Hp → Prop} (j : J M G H) (h : SqT K G a xs) (l : xs.length = i) (q : gs xs σ H R) : gTup K i gs (.ref a) σ H R := ⟨a, xs, rfl, st_mono j.g h, l, q⟩
theorem w_gCons {g : TG} {gs : TGs} {R : L2.St → Hp → Prop} (q : g v σ H fun σ' H' => gs xs σ' H' R) : gCons g gs (v :: xs) σ H R := ⟨v, xs, rfl, q⟩
theorem w_gNil {R : L2.St → Hp → Prop} (q : R σ H) : gNil [] σ H R := ⟨rfl, q⟩
/- arguments, calls -/
theorem w_anil (q : QL [] H) : tNil σ H QL := q
theorem w_acons {tr : TA} (h : ta σ H fun x H1 => tr σ H1 fun xs H2 => QL (x :: xs) H2) : tCons ta tr σ H QL := h
theorem w_call {sp : Sp} {dvs : List V} {E : XK} {tr : TA} (h : tr σ H fun vs H1 => sp (vs ++ dvs) H1 Q E) : tCall sp dvs E tr σ H Q := h
theorem w_cb {r : List V → Hp → VK → Prop} {tr : TA} (h : tr σ H fun vs H1 => r vs H1 Q) : tCB r tr σ H Q := h
def NewO (o : HO) (n : Nat) (H : Hp) (Q : VK) : Prop := n ≤ sizeLine ∧ ∀ p, H p = none → Q (.ref p) (upd H p o)
theorem w_tup {tr : TA} (h : tr σ H fun xs H1 => NewO (.tup xs) xs.length H1 Q) : tTup tr σ H Q := h
theorem w_lst {tr : TA} (h : tr σ H fun xs H1 => NewO (.lst xs) xs.length H1 Q) : tLst tr σ H Q := h
theorem sz_le {n : Nat} (h : n ≤ 1000000) : n ≤ sizeLine := Nat.le_trans h (by decide)
theorem sz_lt {n : Nat} (h : n < 1000000) : n < sizeLine := Nat.lt_of_lt_of_le h (by decide)
/-- a new object that stands for good -/
theorem w_new {o : HO} {n : Nat} (j : J M G H) (z : n ≤ sizeLine) (k : ∀ p G' H', J M G' H' → Ex G G' → G' p = some o → G p = none → Q (.ref p) H') : NewO o n H Q :=
  ⟨z, fun p h => k p _ _ (j.newG h) (Ex.new (j.freeG h)) upd_same (j.freeG h)⟩
/-- .. that may change -/
theorem w_newM {o : HO} {n : Nat} (j : J M G H) (z : n ≤ sizeLine) (k : ∀ p H', J (upd M p o) G H' → M p = none → G p = none → Q (.ref p) H') : NewO o n H Q :=
  ⟨z, fun p h => k p _ (j.newM h) (j.freeM h) (j.freeG h)⟩
/- operators -/
theorem w_I0 {f : Int → Int → V} (q : Q (f m n) H) : rI0 f (.int m) (.int n) H Q := ⟨m, n, rfl, rfl, q⟩
theorem w_I {C : Int → Int → Prop} {f : Int → Int → V} (hc : C m n) (q : Q (f m n) H) : rI C f (.int m) (.int n) H Q := ⟨m, n, rfl, rfl, hc, q⟩
theorem w_U {f : Int → V} (q : Q (f m) H) : rU f (.int m) H Q := ⟨m, rfl, q⟩
theorem w_addI (q : Q (.int (m + n)) H) : uAdd K (.int m) (.int n) H Q := .inl (w_I0 q)
theorem w_mulI (hc : CMul m n) (q : Q (.int (m * n)) H) : uMul (.int m) (.int n) H Q := .inl (w_I hc q)
theorem w_eqI (q : Q (.bl (decide (m = n))) H) : uEq K (.int m) (.int n) H Q := .inl ⟨rfl, by
  have e : decide (V.int m = V.int n) = decide (m = n) := decide_eq_decide.mpr ⟨fun h => V.int.inj h, fun h => h ▸ rfl⟩
  rw [e]; exact q⟩
theorem w_neI (q : Q (.bl (!decide (m = n))) H) : uNe K (.int m) (.int n) H Q := .inl ⟨rfl, by
  have e : decide (V.int m = V.int n) = decide (m = n) := decide_eq_decide.mpr ⟨fun h => V.int.inj h, fun h => h ▸ rfl⟩
  rw [e]; exact q⟩
theorem w_eqV {k : Bool} (hs : scal x y = true) (e : decide (x = y) = k) (q : Q (.bl k) H) : uEq K x y H Q := .inl ⟨hs, by rw [e]; exact q⟩
theorem w_eqS {k : Bool} {s1 s2 : Str} (e : decide (s1 = s2) = k) (q : Q (.bl k) H) : uEq K (.str s1) (.str s2) H Q := .inl ⟨rfl, by
  have e' : decide (V.str s1 = V.str s2) = decide (s1 = s2) := decide_eq_decide.mpr ⟨fun h => V.str.inj h, fun h => h ▸ rfl⟩
  rw [e', e]; exact q⟩
theorem w_neV {k : Bool} (hs : scal x y = true) (e : (!decide (x = y)) = k) (q : Q (.bl k) H) : uNe K x y H Q := .inl ⟨hs, by rw [e]; exact q⟩
theorem w_ixL (j : J M G H) (h : SqL K G a xs) (e : atI xs m = some v) (q : Q v H) : uIx K (.ref a) (.int m) H Q := .inl ⟨a, xs, m, v, rfl, rfl, sl_mono j.g h, e, q⟩
theorem w_ixT (j : J M G H) (h : SqT K G a xs) (e : atI xs m = some v) (q : Q v H) : uIx K (.ref a) (.int m) H Q := .inr ⟨a, xs, m, v, rfl, rfl, st_mono j.g h, e, q⟩
theorem w_ixM (j : J M G H) (h : M a = some (.lst xs)) (e : atI xs m = some v) (q : Q v H) : uIx K (.ref a) (.int m) H Q := .inl ⟨a, xs, m, v, rfl, rfl, .inl (.inl (j.m a _ h)), e, q⟩
theorem w_lenL (j : J M G H) (h : SqL K G a xs) (q : Q (.int xs.length) H) : uLen K [.ref a] H Q := .inl ⟨a, xs, rfl, .inl (sl_mono j.g h), q⟩
theorem w_lenT (j : J M G H) (h : SqT K G a xs) (q : Q (.int xs.length) H) : uLen K [.ref a] H Q := .inl ⟨a, xs, rfl, .inr (st_mono j.g h), q⟩
theorem w_lenM (j : J M G H) (h : M a = some (.lst xs)) (q : Q (.int xs.length) H) : uLen K [.ref a] H Q := .inl ⟨a, xs, rfl, .inl (.inl (.inl (j.m a _ h))), q⟩
theorem w_setM {QH : Hp → Prop} {jx : Nat} (j : J M G H) (h : M a = some (.lst xs)) (e : ixN xs.length m = some jx) (q : ∀ H', J (upd M a (.lst (xs.set jx v))) G H' → QH H') : rSetL (.ref a) (.int m) v H QH :=
  ⟨a, xs, m, jx, rfl, rfl, j.m a _ h, e, q _ (j.put h)⟩
/- methods -/
theorem w_bm {T : String} {r : V → List V → Hp → VK → Prop} {tr : TA} (h : ta σ H fun x H1 => tyV K T x H1 ∧ tr σ H1 fun xs H2 => r x xs H2 Q) : tBM K T r ta tr σ H Q := h
theorem w_appendM (j : J M G H) (h : M a = some (.lst xs)) (z : xs.length < sizeLine) (q : ∀ H', J (upd M a (.lst (xs ++ [v]))) G H' → Q .non H') : rAppend (.ref a) [v] H Q :=
  ⟨a, xs, v, rfl, rfl, j.m a _ h, z, q _ (j.put h)⟩
theorem ty_listM (j : J M G H) (h : M a = some (.lst xs)) : tyV K "list" (.ref a) H := .inl ⟨rfl, xs, .inl (.inl (j.m a _ h))⟩
theorem ty_listG (j : J M G H) (h : SqL K G a xs) : tyV K "list" (.ref a) H := .inl ⟨rfl, xs, sl_mono j.g h⟩
/- two ways -/
theorem w_two {k : Bool} {A B : Prop} (h1 : k = true → A) (h2 : k = false → B) : if k = true then A else B := by
  cases k with
  | true => rw [if_pos rfl]; exact h1 rfl
  | false => rw [if_neg Bool.false_ne_true]; exact h2 rfl
theorem w_dec {p : Prop} [Decidable p] {A B : Prop} (h1 : p → A) (h2 : ¬ p → B) : if decide p = true then A else B := w_two (fun h => h1 (of_decide_eq_true h)) fun h => h2 (of_decide_eq_false h)
theorem w_decN {p : Prop} [Decidable p] {A B : Prop} (h1 : ¬ p → A) (h2 : p → B) : if (!decide p) = true then A else B := w_two (fun h => h1 (of_decide_eq_false (by simpa using h))) fun h => h2 (of_decide_eq_true (by simpa using h))
theorem w_T {A B : Prop} (h : A) : if true = true then A else B := by rw [if_pos rfl]; exact h
theorem w_F {A B : Prop} (h : B) : if false = true then A else B := by rw [if_neg Bool.false_ne_true]; exact h
theorem w_nt {A B : Prop} (h : B) : if (!true) = true then A else B := w_F h
theorem w_nf {A B : Prop} (h : A) : if (!false) = true then A else B := w_T h
theorem w_dT {p : Prop} [Decidable p] {A B : Prop} (h : p) (q : A) : if decide p = true then A else B := by rw [decide_eq_true h]; exact w_T q
theorem w_dF {p : Prop} [Decidable p] {A B : Prop} (h : ¬ p) (q : B) : if decide p = true then A else B := by rw [decide_eq_false h]; exact w_F q
theorem w_nT {p : Prop} [Decidable p] {A B : Prop} (h : p) (q : B) : if (!decide p) = true then A else B := by rw [decide_eq_true h]; exact w_F q
theorem w_nF {p : Prop} [Decidable p] {A B : Prop} (h : ¬ p) (q : A) : if (!decide p) = true then A else B := by rw [decide_eq_false h]; exact w_T q
/- loops -/
theorem w_forL {tl : TE} {a : Addr} (h : tl σ H fun v H1 => v = .ref a ∧ SqL K H1 a xs ∧ ∃ Pv : Nat → L2.St → Hp → Prop, Pv 0 σ H1 ∧ (∀ i σ H, i ≤ xs.length → Pv i σ H → SqL K H a xs) ∧
    (∀ i x σ H, xs[i]? = some x → Pv i σ H → g x σ H fun σ2 H2 => t { D with nx := Pv (i + 1), ct := Pv (i + 1), bk := D.nx } σ2 H2) ∧ ∀ σ H, Pv xs.length σ H → D.nx σ H)
    (mono : ∀ Q Q' : VK, (∀ v H, Q v H → Q' v H) → tl σ H Q → tl σ H Q') : tFor (iList K tl) g t D σ H := by
  refine mono _ _ (fun v H1 q => ?_) h
  obtain ⟨rfl, hs, Pv, h0, hl, hs', hd⟩ := q
  exact ⟨a, rfl, ⟨xs, hs⟩, for_list Pv h0 hl hs' hd⟩
theorem mono_var (Q Q' : VK) (h : ∀ v H, Q v H → Q' v H) (q : tVar i σ H Q) : tVar i σ H Q' := by
  obtain ⟨v, e, q⟩ := q
  exact ⟨v, e, h v H q⟩
/-- for x in xs, xs a local name -/
theorem w_forLV {s : Nat} {a : Addr} (e : σ[s]? = some (some (.ref a))) (Pv : Nat → L2.St → Hp → Prop) (hS : SqL K H a xs) (h0 : Pv 0 σ H) (hl : ∀ i σ H, i ≤ xs.length → Pv i σ H → SqL K H a xs)
    (hs : ∀ i x σ H, xs[i]? = some x → Pv i σ H → g x σ H fun σ2 H2 => t { D with nx := Pv (i + 1), ct := Pv (i + 1), bk := D.nx } σ2 H2) (hd : ∀ σ H, Pv xs.length σ H → D.nx σ H) : tFor (iList K (tVar s)) g t D σ H :=
  ⟨.ref a, e, a, rfl, ⟨xs, hS⟩, for_list Pv h0 hl hs hd⟩
theorem w_forTV {s : Nat} {a : Addr} (e : σ[s]? = some (some (.ref a))) (Pv : Nat → L2.St → Hp → Prop) (hS : SqT K H a xs) (h0 : Pv 0 σ H) (hl : ∀ i σ H, i ≤ xs.length → Pv i σ H → SqT K H a xs)
    (hs : ∀ i x σ H, xs[i]? = some x → Pv i σ H → g x σ H fun σ2 H2 => t { D with nx := Pv (i + 1), ct := Pv (i + 1), bk := D.nx } σ2 H2) (hd : ∀ σ H, Pv xs.length σ H → D.nx σ H) : tFor (iTup K (tVar s)) g t D σ H :=
  ⟨.ref a, e, a, rfl, ⟨xs, hS⟩, for_tup Pv h0 hl hs hd⟩
/-- for k in range(e) -/
def RngR (g : TG) (t : TS) (D : Ends) (σ : L2.St) : List V → Hp → Prop := fun vs H1 => ∃ j : Int, vs = [.int j] ∧ -(2 ^ 62) ≤ j ∧ j < 2 ^ 62 ∧ ∃ Pv : Nat → L2.St → Hp → Prop, Pv 0 σ H1 ∧
  (∀ i σ H, i < j.toNat → Pv i σ H → g (.int i) σ H fun σ2 H2 => t { D with nx := Pv (i + 1), ct := Pv (i + 1), bk := D.nx } σ2 H2) ∧ ∀ σ H, Pv j.toNat σ H → D.nx σ H
theorem RngR.go {vs : List V} (h : RngR g t D σ vs H) : ∃ j : Int, vs = [.int j] ∧ -(2 ^ 62) ≤ j ∧ j < 2 ^ 62 ∧ ∃ W : Nat → Nat → L2.St → Hp → Prop, (∃ m, W 0 m σ H) ∧ ∀ i m σ H, W i m σ H →
      ((Itr 0 j.toNat).stop i H ∧ D.nx σ H) ∨ ((Itr 0 j.toNat).go i H ∧ ∃ N : L2.St → Hp → Prop, (∀ σ' H', N σ' H' → ∃ m', m' < m ∧ W (i + 1) m' σ' H') ∧ ∀ x H', (Itr 0 j.toNat).yld i H x H' → g x σ H' fun σ2 H2 => t { D with nx := N, ct := N, bk := D.nx } σ2 H2) := by
  obtain ⟨jj, e, h1, h2, Pv, h0, hs, hd⟩ := h
  refine ⟨jj, e, h1, h2, for_range Pv h0 (fun i σ H hi p => ?_) hd⟩
  have q := hs i σ H hi p
  rw [Int.zero_add]; exact q
def RngD (g : TG) (t : TS) (D : Ends) (σ : L2.St) (vs : List V) (H : Hp) : Prop := ∃ j : Int, vs = [.int j] ∧ -(2 ^ 62) ≤ j ∧ j < 2 ^ 62 ∧ ∃ W : Nat → Nat → L2.St → Hp → Prop, (∃ m, W 0 m σ H) ∧ ∀ i m σ H, W i m σ H →
      ((Itr 0 j.toNat).stop i H ∧ D.nx σ H) ∨ ((Itr 0 j.toNat).go i H ∧ ∃ N : L2.St → Hp → Prop, (∀ σ' H', N σ' H' → ∃ m', m' < m ∧ W (i + 1) m' σ' H') ∧ ∀ x H', (Itr 0 j.toNat).yld i H x H' → g x σ H' fun σ2 H2 => t { D with nx := N, ct := N, bk := D.nx } σ2 H2)
theorem w_forR {ta : TA} (h : ta σ H fun vs H1 => RngD g t D σ vs H1) : tFor (iRng1 ta) g t D σ H := h
theorem w_rng (Pv : Nat → L2.St → Hp → Prop) (h0 : Pv 0 σ H)
    (hs : ∀ i σ H, i < m.toNat → Pv i σ H → g (.int i) σ H fun σ2 H2 => t { D with nx := Pv (i + 1), ct := Pv (i + 1), bk := D.nx } σ2 H2) (hd : ∀ σ H, Pv m.toNat σ H → D.nx σ H) (h1 : -(2 ^ 62) ≤ m := by first | decide | omega) (h2 : m < 2 ^ 62 := by first | decide | omega) :
    RngD g t D σ [.int m] H := RngR.go ⟨m, rfl, h1, h2, Pv, h0, hs, hd⟩
theorem w_appendU (j : J (upd M a (.lst xs)) G H) (z : xs.length < 1000000) (q : ∀ H', J (upd M a (.lst (xs ++ [v]))) G H' → Q .non H') : rAppend (.ref a) [v] H Q :=
  w_appendM j upd_same (sz_lt z) fun H' j' => q H' (by rw [upd_upd] at j'; exact j')
theorem w_appendA (j : J M G H) (h : M a = some (.lst xs)) (z : xs.length < 1000000) (q : ∀ H', J (upd M a (.lst (xs ++ [v]))) G H' → Q .non H') : rAppend (.ref a) [v] H Q := w_appendM j h (sz_lt z) q
theorem ty_listU (j : J (upd M a (.lst xs)) G H) : tyV K "list" (.ref a) H := ty_listM j upd_same
theorem map_snoc (ns : List Int) (n : Int) : ns.map V.int ++ [V.int n] = (ns ++ [n]).map V.int := by rw [List.map_append]; rfl
/-- list(xs), xs[a:b] of lists, xs + ys -/
theorem w_catL (h1 : H a = some (.lst xs)) (h2 : H b = some (.lst ys)) (k : NewO (.lst (xs ++ ys)) (xs.length + ys.length) H Q) : uAdd K (.ref a) (.ref b) H Q :=
  .inr (.inl ⟨a, b, xs, ys, rfl, rfl, h1, h2, k.1, k.2⟩)
theorem w_slL {lo hi : Option Int} (j : J M G H) (h : SqL K G a xs) (k : NewO (.lst (cutV xs lo hi)) 0 H Q) : uSl K (.ref a) lo hi H Q := .inl ⟨a, xs, rfl, sl_mono j.g h, k.2⟩
theorem w_slT {lo hi : Option Int} (j : J M G H) (h : SqT K G a xs) (k1 : HT.sIx xs.length 0 lo = 0 ∧ HT.sIx xs.length xs.length hi = xs.length → Q (.ref a) H)
    (k : ¬ (HT.sIx xs.length 0 lo = 0 ∧ HT.sIx xs.length xs.length hi = xs.length) → NewO (.tup (cutV xs lo hi)) 0 H Q) : uSl K (.ref a) lo hi H Q := .inr ⟨a, xs, rfl, st_mono j.g h, k1, fun h => (k h).2⟩
def PartX (x : V) (H : Hp) (Q : Option Int → Hp → Prop) : Prop := ∃ i, x = .int i ∧ Q (some i) H
theorem w_part {QO : Option Int → Hp → Prop} (h : te σ H fun x H1 => PartX x H1 QO) : tPart te σ H QO := h
theorem w_partX {QO : Option Int → Hp → Prop} (h : QO (some m) H) : PartX (.int m) H QO := ⟨m, rfl, h⟩
theorem w_nopart {QO : Option Int → Hp → Prop} (h : QO none H) : tNoPart σ H QO := h
theorem atI_0 {α : Type} {y : α} {ys : List α} : atI (y :: ys) 0 = some y := atI_nat (j := 0) rfl
theorem w_sl {r : V → Option Int → Option Int → Hp → VK → Prop} {tl th : TO} (h : te σ H fun x H1 => tl σ H1 fun l H2 => th σ H2 fun u H3 => r x l u H3 Q) : tSl r te tl th σ H Q := h
/-! comprehensions -/
variable {tt : TT} {vs : List Nat} {s : Nat}
/-- the block's end at one element: the new list stands at L as before, it gets y -/
def StepL (L : Addr) (acc : List V) (R : List V → Hp → Hp → Prop) (y : V) (H4 : Hp) : Prop := ∃ M4 G4, J M4 G4 H4 ∧ M4 L = some (.lst acc) ∧ acc.length < sizeLine ∧ R (acc ++ [y]) (upd M4 L (.lst (acc ++ [y]))) G4
def SkipL (L : Addr) (acc : List V) (R : List V → Hp → Hp → Prop) (H3 : Hp) : Prop := ∃ M3 G3, J M3 G3 H3 ∧ M3 L = some (.lst acc) ∧ R acc M3 G3
def LcI (P : Addr → Nat → List V → Hp → Hp → Prop) (L : Addr) (i : Nat) (H : Hp) : Prop := ∃ acc M1 G1, J M1 G1 H ∧ M1 L = some (.lst acc) ∧ P L i acc M1 G1
theorem StepL.go {P : Addr → Nat → List V → Hp → Hp → Prop} {L : Addr} {acc : List V} {k : Nat} (h : StepL L acc (P L k) y H) : ∃ acc', H L = some (.lst acc') ∧ acc'.length < sizeLine ∧ LcI P L k (upd H L (.lst (acc' ++ [y]))) := by
  obtain ⟨M4, G4, j, e, z, r⟩ := h
  exact ⟨acc, j.m _ _ e, z, acc ++ [y], _, _, j.put e, upd_same, r⟩
def LcD (J' : It) (g : TG) (tt : TT) (te : TE) (vs : List Nat) (σ : L2.St) (H1 : Hp) (Q : VK) : Prop := ∀ D, H1 D = none → ∃ W : Nat → Nat → Hp → Prop, (∃ m, W 0 m (upd H1 D (.lst []))) ∧ ∀ i m H, W i m H →
  (J'.stop i H ∧ Q (.ref D) H) ∨ (J'.go i H ∧ ∃ Nx : Hp → Prop, (∀ H', Nx H' → ∃ m', m' < m ∧ W (i + 1) m' H') ∧ ∀ x H', J'.yld i H x H' → g x (wipe σ vs) H' fun σ2 H2 => wipe σ2 vs = wipe σ vs ∧ tt σ2 H2 fun b H3 =>
    if b = true then te σ2 H3 fun y H4 => ∃ acc, H4 D = some (.lst acc) ∧ acc.length < sizeLine ∧ Nx (upd H4 D (.lst (acc ++ [y]))) else Nx H3)
def LcR (g : TG) (tt : TT) (te : TE) (vs : List Nat) (σ : L2.St) (vs' : List V) (H1 : Hp) (Q : VK) : Prop := ∃ j : Int, vs' = [.int j] ∧ -(2 ^ 62) ≤ j ∧ j < 2 ^ 62 ∧ LcD (Itr 0 j.toNat) g tt te vs σ H1 Q
def LcL (K : PySem.W.Frag) (g : TG) (tt : TT) (te : TE) (vs : List Nat) (σ : L2.St) (x : V) (H1 : Hp) (Q : VK) : Prop := ∃ a, x = .ref a ∧ (∃ xs, SqL K H1 a xs) ∧ LcD (Itl K a) g tt te vs σ H1 Q
theorem w_lcR {ta : TA} (h : ta σ H fun vs' H1 => LcR g tt te vs σ vs' H1 Q) : tLc (iRng1 ta) g tt te vs σ H Q := h
theorem w_lcL {tl : TE} (h : tl σ H fun x H1 => LcL K g tt te vs σ x H1 Q) : tLc (iList K tl) g tt te vs σ H Q := h
/-- [e for k in range(m)]; the element's reading must be monotone in what is wanted: it is given by its steps, so the law of the turn is asked for any wish that is weaker -/
theorem w_lcr (j : J M G H) (P : Addr → Nat → List V → Hp → Hp → Prop) (h0 : ∀ L, M L = none → G L = none → P L 0 [] (upd M L (.lst [])) G) (hw : ∀ x, wipe ((wipe σ vs).set s (some x)) vs = wipe σ vs)
    (hs : ∀ L i acc M1 G1 H1 (R : V → Hp → Prop), i < m.toNat → J M1 G1 H1 → M1 L = some (.lst acc) → P L i acc M1 G1 → (∀ y H4, StepL L acc (P L (i + 1)) y H4 → R y H4) → te ((wipe σ vs).set s (some (.int i))) H1 R)
    (hd : ∀ L acc M1 G1 H1, J M1 G1 H1 → M1 L = some (.lst acc) → P L m.toNat acc M1 G1 → Q (.ref L) H1) (h1 : -(2 ^ 62) ≤ m := by first | decide | omega) (h2 : m < 2 ^ 62 := by first | decide | omega) : LcR (gName s) tYes te vs σ [.int m] H Q := by
  refine ⟨m, rfl, h1, h2, fun L hL => lc_range (LcI P L) ⟨[], _, _, j.newM hL, upd_same, h0 L (j.freeM hL) (j.freeG hL)⟩ (fun i H1 hi p => ?_) fun H1 p => ?_⟩
  · obtain ⟨acc, M1, G1, j1, e, p⟩ := p
    rw [Int.zero_add]
    refine ⟨hw (.int i), ?_⟩
    refine w_T (B := LcI P L (i + 1) H1) ?_
    refine hs L i acc M1 G1 H1 _ hi j1 e p ?_
    intro y H4 q
    exact q.go
  · obtain ⟨acc, M1, G1, j1, e, p⟩ := p
    exact hd L acc M1 G1 H1 j1 e p
/-- [e for x in xs if t] -/
theorem w_lcl (j : J M G H) (P : Addr → Nat → List V → Hp → Hp → Prop) (hx : SqL K G a xs) (h0 : ∀ L, M L = none → G L = none → P L 0 [] (upd M L (.lst [])) G) (hG : ∀ L i acc M1 G1, P L i acc M1 G1 → Ex G G1) (hw : ∀ x, wipe ((wipe σ vs).set s (some x)) vs = wipe σ vs)
    (hs : ∀ L i x acc M1 G1 H1 (R : Bool → Hp → Prop), xs[i]? = some x → J M1 G1 H1 → M1 L = some (.lst acc) → P L i acc M1 G1 →
      (∀ b H3, (if b = true then te ((wipe σ vs).set s (some x)) H3 (fun y H4 => ∃ acc, H4 L = some (.lst acc) ∧ acc.length < sizeLine ∧ LcI P L (i + 1) (upd H4 L (.lst (acc ++ [y])))) else SkipL L acc (P L (i + 1)) H3) → R b H3) → tt ((wipe σ vs).set s (some x)) H1 R)
    (hd : ∀ L acc M1 G1 H1, J M1 G1 H1 → M1 L = some (.lst acc) → P L xs.length acc M1 G1 → Q (.ref L) H1) : LcL K (gName s) tt te vs σ (.ref a) H Q := by
  refine ⟨a, rfl, ⟨xs, sl_mono j.g hx⟩, fun L hL => lc_list (xs := xs) (LcI P L) ⟨[], _, _, j.newM hL, upd_same, h0 L (j.freeM hL) (j.freeG hL)⟩ (fun i H1 _ p => ?_) (fun i x H1 hi p => ?_) fun H1 p => ?_⟩
  · obtain ⟨acc, M1, G1, j1, e, p⟩ := p
    exact sl_mono ((hG _ _ _ _ _ p).trans j1.g) hx
  · obtain ⟨acc, M1, G1, j1, e, p⟩ := p
    refine ⟨hw _, ?_⟩
    refine hs L i x acc M1 G1 H1 _ hi j1 e p fun b H3 q => ?_
    cases b with
    | true => rw [if_pos rfl] at q ⊢; exact q
    | false =>
      rw [if_neg Bool.false_ne_true] at q ⊢
      obtain ⟨M3, G3, j3, e3, r⟩ := q
      exact ⟨acc, M3, G3, j3, e3, r⟩
  · obtain ⟨acc, M1, G1, j1, e, p⟩ := p
    exact hd L acc M1 G1 H1 j1 e p
theorem w_yes {R : Bool → Hp → Prop} (h : R true H) : tYes σ H R := h
/-! dicts -/
variable {kvs : List (Key × V)} {td ty tx tv : TE}
def Hd (M G : Hp) (a : Addr) (kvs : List (Key × V)) : Prop := M a = some (.dK kvs) ∨ Rd G a (.dK kvs)
theorem Hd.rd (j : J M G H) (h : Hd M G a kvs) : Rd H a (.dK kvs) := h.elim (fun h => .inl (j.m _ _ h)) (rd_same j.g)
theorem Hd.ofM (h : M a = some (.dK kvs)) : Hd M G a kvs := .inl h
theorem Hd.ofG (h : G a = some (.dK kvs)) : Hd M G a kvs := .inr (.inl h)
def GetA (x : V) (ty : TE) (σ : L2.St) (H1 : Hp) (Q : VK) : Prop := ∃ a, x = .ref a ∧ IsD H1 a ∧ ty σ H1 fun y H2 => ∃ o, DGet H2 a y o ∧ Q (o.getD .non) H2
def GetB (x : V) (ty tx : TE) (σ : L2.St) (H1 : Hp) (Q : VK) : Prop := ∃ a, x = .ref a ∧ IsD H1 a ∧ ty σ H1 fun y H2 => tx σ H2 fun z H3 => ∃ o, DGet H3 a y o ∧ Q (o.getD z) H3
def GetE (a : Addr) (y z : V) (H3 : Hp) (Q : VK) : Prop := ∃ o, DGet H3 a y o ∧ Q (o.getD z) H3
theorem w_dget1 (h : td σ H fun x H1 => GetA x ty σ H1 Q) : tDGet1 td ty σ H Q := h
theorem w_dget2 (h : td σ H fun x H1 => GetB x ty tx σ H1 Q) : tDGet2 td ty tx σ H Q := h
theorem w_getA (j : J M G H) (h : Hd M G a kvs) (q : ty σ H fun y H2 => GetE a y .non H2 Q) : GetA (.ref a) ty σ H Q := ⟨a, rfl, .inl ⟨kvs, h.rd j⟩, q⟩
theorem w_getB (j : J M G H) (h : Hd M G a kvs) (q : ty σ H fun y H2 => tx σ H2 fun z H3 => GetE a y z H3 Q) : GetB (.ref a) ty tx σ H Q := ⟨a, rfl, .inl ⟨kvs, h.rd j⟩, q⟩
theorem w_getE (j : J M G H) (h : Hd M G a kvs) (q : Q ((valV kvs (.inl m)).getD y) H) : GetE a (.int m) y H Q := ⟨_, .inl ⟨kvs, .inl m, h.rd j, rfl, rfl⟩, q⟩
def GetX (x y : V) (H2 : Hp) (Q : VK) : Prop := ∃ a v, x = .ref a ∧ DGet H2 a y (some v) ∧ Q v H2
theorem w_dget (h : td σ H fun x H1 => ty σ H1 fun y H2 => GetX x y H2 Q) : tDGet td ty σ H Q := h
theorem w_getX (j : J M G H) (h : Hd M G a kvs) (e : valV kvs (.inl m) = some v) (q : Q v H) : GetX (.ref a) (.int m) H Q := ⟨a, v, rfl, .inl ⟨kvs, .inl m, h.rd j, rfl, e.symm⟩, q⟩
def InX (neg : Bool) (x y : V) (H2 : Hp) (Q : VK) : Prop := ∃ a o, x = .ref a ∧ DGet H2 a y o ∧ Q (.bl (if neg then !o.isSome else o.isSome)) H2
theorem w_din (h : ty σ H fun y H1 => td σ H1 fun x H2 => InX false x y H2 Q) : tDIn ty td σ H Q := h
theorem w_dnotin (h : ty σ H fun y H1 => td σ H1 fun x H2 => InX true x y H2 Q) : tDNotIn ty td σ H Q := h
theorem w_inX (j : J M G H) (h : Hd M G a kvs) (q : Q (.bl (valV kvs (.inl m)).isSome) H) : InX false (.ref a) (.int m) H Q := ⟨a, _, rfl, .inl ⟨kvs, .inl m, h.rd j, rfl, rfl⟩, q⟩
theorem w_notinX (j : J M G H) (h : Hd M G a kvs) (q : Q (.bl (!(valV kvs (.inl m)).isSome)) H) : InX true (.ref a) (.int m) H Q := ⟨a, _, rfl, .inl ⟨kvs, .inl m, h.rd j, rfl, rfl⟩, q⟩
def PutX (x y v : V) (H3 : Hp) (R : Hp → Prop) : Prop := ∃ a H4, x = .ref a ∧ DPut H3 a y v H4 ∧ R H4
theorem w_dput (h : tv σ H fun v H1 => td σ H1 fun x H2 => ty σ H2 fun y H3 => PutX x y v H3 (D.nx σ)) : sDPut td ty tv D σ H := h
theorem w_putX {R : Hp → Prop} (j : J M G H) (h : M a = some (.dK kvs)) (z : kvs.length < 1000000) (q : ∀ H', J (upd M a (.dK (putK kvs (.inl m) v))) G H' → R H') : PutX (.ref a) (.int m) v H R :=
  ⟨a, _, rfl, .inl ⟨kvs, .inl m, j.m _ _ h, rfl, sz_lt z, rfl⟩, q _ (j.put h)⟩
def PopB (x : V) (ty tx : TE) (σ : L2.St) (H1 : Hp) (Q : VK) : Prop := ∃ a, x = .ref a ∧ IsD H1 a ∧ ty σ H1 fun y H2 => tx σ H2 fun z H3 => ∃ kvs k, H3 a = some (.dK kvs) ∧ y = kV k ∧
  (∀ v, valV kvs k = some v → Q v (upd H3 a (.dK (dropK kvs k)))) ∧ (valV kvs k = none → Q z H3)
def PopE (a : Addr) (y z : V) (H3 : Hp) (Q : VK) : Prop := ∃ kvs k, H3 a = some (.dK kvs) ∧ y = kV k ∧ (∀ v, valV kvs k = some v → Q v (upd H3 a (.dK (dropK kvs k)))) ∧ (valV kvs k = none → Q z H3)
theorem w_dpop2 (h : td σ H fun x H1 => PopB x ty tx σ H1 Q) : tDPop2 td ty tx σ H Q := h
theorem w_popB (j : J M G H) (h : M a = some (.dK kvs)) (q : ty σ H fun y H2 => tx σ H2 fun z H3 => PopE a y z H3 Q) : PopB (.ref a) ty tx σ H Q := ⟨a, rfl, .inl ⟨kvs, .inl (j.m _ _ h)⟩, q⟩
theorem dropK_none (h : valV kvs (.inl m : Key) = none) : dropK kvs (.inl m) = kvs := dropK_no (valV_not h)
theorem w_popE (j : J M G H) (h : M a = some (.dK kvs)) (q : ∀ v H', J (upd M a (.dK (dropK kvs (.inl m)))) G H' → Q v H') : PopE a (.int m) y H Q := by
  refine ⟨kvs, .inl m, j.m _ _ h, rfl, fun v _ => q v _ (j.put h), fun e => q y H ?_⟩
  rw [dropK_none e]
  have e2 : upd M a (.dK kvs) = M := by
    funext b; unfold upd; split
    · rename_i hb; rw [hb, h]
    · rfl
  rw [e2]; exact j
theorem w_lenD (j : J M G H) (h : M a = some (.dK kvs) ∨ G a = some (.dK kvs)) (q : Q (.int kvs.length) H) : uLen K [.ref a] H Q := .inr ⟨a, kvs, rfl, h.elim (j.m _ _) (j.g _ _), q⟩
/-- {} -/
theorem w_dnew (h : NewO (.dK []) 0 H Q) : tDNewK σ H Q := h.2
/-- isinstance -/
theorem w_isi (bb : Bool) {n cc : String} (h : TyX K H x (.type n)) (e : kitB n cc = some bb) (q : Q (.bl bb) H) : rIsi K [x, .ty cc] H Q := ⟨x, .ty cc, .type n, .type cc, bb, rfl, .ty cc, h, kit_ty e, q⟩
theorem ty_int : TyX K H (.int m) (.type "int") := .base (.int m)
theorem ty_bl {b : Bool} : TyX K H (.bl b) (.type "bool") := .base (.bl b)
theorem ty_str {z : Str} : TyX K H (.str z) (.type "str") := .base (.str z)
theorem ty_non : TyX K H .non (.type "NoneType") := .base .non
theorem ty_L (h : SqL K H a xs) : TyX K H (.ref a) (.type "list") := by
  rcases h with (h | ⟨o, h⟩) | ⟨o, _, _, h, c, _⟩
  · exact .base (.lst h)
  · exact .base (.frz h)
  · exact .kList h c
theorem ty_T (h : SqT K H a xs) : TyX K H (.ref a) (.type "tuple") := by
  rcases h with (h | ⟨o, h⟩) | ⟨o, _, _, h, c, _⟩
  · exact .base (.tup h)
  · exact .fTuple h
  · exact .kTuple h c
theorem ty_D (h : Rd H a (.dK kvs)) : TyX K H (.ref a) (.type "dict") := by
  rcases h with h | ⟨o, h⟩
  · exact .base (.dK h)
  · exact .fDict h
/-- dict(d), sorted(d), list(xs), tuple(xs) -/
def DictC (xs : List V) (H : Hp) (Q : VK) : Prop := ∃ (a : Addr) (kvs : List (Key × V)), xs = [.ref a] ∧ Rd H a (.dK kvs) ∧ ∀ p, H p = none → Q (.ref p) (upd H p (.dK kvs))
theorem w_dictC (j : J M G H) (h : Hd M G a kvs) (q : NewO (.dK kvs) 0 H Q) : DictC [.ref a] H Q := ⟨a, kvs, rfl, h.rd j, q.2⟩
def ListC (K : PySem.W.Frag) (xs : List V) (H : Hp) (Q : VK) : Prop := ∃ p ys, xs = [.ref p] ∧ (SqL K H p ys ∨ SqT K H p ys) ∧ ∀ l, H l = none → Q (.ref l) (upd H l (.lst ys))
theorem w_listC (h : SqL K H a xs ∨ SqT K H a xs) (q : NewO (.lst xs) 0 H Q) : ListC K [.ref a] H Q := ⟨a, xs, rfl, h, q.2⟩
def TupC (K : PySem.W.Frag) (xs : List V) (H : Hp) (Q : VK) : Prop := ∃ p ys, xs = [.ref p] ∧ ((SqL K H p ys ∧ ∀ l, H l = none → Q (.ref l) (upd H l (.tup ys))) ∨ (SqT K H p ys ∧ Q (.ref p) H))
theorem w_tupC (h : SqL K H a xs) (q : NewO (.tup xs) 0 H Q) : TupC K [.ref a] H Q := ⟨a, xs, rfl, .inl ⟨h, q.2⟩⟩
def SortD (xs : List V) (H : Hp) (Q : VK) : Prop := ∃ (a : Addr) (kvs : List (Key × V)) (ks : List Int), xs = [.ref a] ∧ Rd H a (.dK kvs) ∧ kvs.map (·.1) = ks.map Sum.inl ∧ ks.length < 64 ∧
    ∀ (ys : List Int) (p : Addr), ys.Perm ks → ys.Pairwise (· ≤ ·) → H p = none → Q (.ref p) (upd H p (.lst (ys.map V.int)))
theorem w_sortD {ks : List Int} (j : J M G H) (h : Hd M G a kvs) (e : kvs.map (·.1) = ks.map Sum.inl) (z : ks.length < 64) (q : ∀ ys : List Int, ys.Perm ks → ys.Pairwise (· ≤ ·) → NewO (.lst (ys.map V.int)) 0 H Q) : SortD [.ref a] H Q :=
  ⟨a, kvs, ks, rfl, h.rd j, e, z, fun ys p h1 h2 => (q ys h1 h2).2 p⟩
theorem w_cDict {tr : TA} (h : tr σ H fun vs H1 => DictC vs H1 Q) : tCB (fun xs H Q => ∃ (a : Addr) (kvs : List (Key × V)), xs = [.ref a] ∧ Rd H a (.dK kvs) ∧ ∀ p, H p = none → Q (.ref p) (upd H p (.dK kvs))) tr σ H Q := h
theorem w_cList {tr : TA} (h : tr σ H fun vs H1 => ListC K vs H1 Q) : tCB (fun xs H Q => ∃ p ys, xs = [.ref p] ∧ (SqL K H p ys ∨ SqT K H p ys) ∧ ∀ l, H l = none → Q (.ref l) (upd H l (.lst ys))) tr σ H Q := h
theorem w_cTup {tr : TA} (h : tr σ H fun vs H1 => TupC K vs H1 Q) : tCB (fun xs H Q => ∃ p ys, xs = [.ref p] ∧ ((SqL K H p ys ∧ ∀ l, H l = none → Q (.ref l) (upd H l (.tup ys))) ∨ (SqT K H p ys ∧ Q (.ref p) H))) tr σ H Q := h
theorem w_cSortD {tr : TA} (h : tr σ H fun vs H1 => SortD vs H1 Q) : tCB (fun xs H Q => ∃ (a : Addr) (kvs : List (Key × V)) (ks : List Int), xs = [.ref a] ∧ Rd H a (.dK kvs) ∧ kvs.map (·.1) = ks.map Sum.inl ∧ ks.length < 64 ∧
    ∀ (ys : List Int) (p : Addr), ys.Perm ks → ys.Pairwise (· ≤ ·) → H p = none → Q (.ref p) (upd H p (.lst (ys.map V.int)))) tr σ H Q := h
/-- x in xs, flat items -/
theorem w_inT {neg : Bool} (j : J M G H) (h : SqT K G a xs) (hx : flatV x = true) (hf : xs.all flatV = true) (q : Q (.bl (if neg then !inV x xs else inV x xs)) H) : rIn K neg x (.ref a) H Q := ⟨a, xs, rfl, .inr (st_mono j.g h), hx, hf, q⟩
theorem w_inL {neg : Bool} (j : J M G H) (h : SqL K G a xs) (hx : flatV x = true) (hf : xs.all flatV = true) (q : Q (.bl (if neg then !inV x xs else inV x xs)) H) : rIn K neg x (.ref a) H Q := ⟨a, xs, rfl, .inl (sl_mono j.g h), hx, hf, q⟩
end
section
variable {X : Cx} {K : PySem.W.Frag}
theorem call_listC (h : X.K = K) : CallR X (.type "list") (ListC K) := h ▸ call_list_of
theorem call_tupC (h : X.K = K) : CallR X (.type "tuple") (TupC K) := h ▸ call_tuple_of
theorem call_dictC : CallR X (.type "dict") DictC := call_dictD
theorem call_sortDC (hc : X.calm = true) : CallR X (.builtin "sorted") SortD := call_sortedDI hc
end
/-! ### errors of the program: raised, let through, caught -/
structure Xc (K : PySem.W.Frag) (mg : Str → Option Value) (x : Str) (C : Addr) : Prop where
  gP : mg x = some (.ref C)
  xP : PySem.W.excIn K C [.type "ValueError", .type "Exception", .type "BaseException", .type "object"] "ValueError.__new__" = true
  kP : PySem.W.keepIn K (.ref C) = true
  bP : PySem.W.subIn K (.ref C) (.type "BaseException") = some true
  tP : PySem.W.typeIn K (.ref C) = some (.type "type")
  hD : PySem.W.hasDictIn K C = true
  sP : PySem.W.subIn K (.ref C) (.ref C) = some true
  hg : PySem.W.findIn K (.ref C) "__getattribute__" = some (some (.builtin "BaseException.__getattribute__"))
  hk : PySem.W.findIn K (.ref C) "__getattr__" = some none
  ha : PySem.W.findIn K (.ref C) "__class__" = some (some (.builtin "object.__class__"))
  hn : PySem.W.specialIn K (.builtin "object.__class__") "__get__" = some (some (.builtin "getset_descriptor.__get__"))
  ht : PySem.W.takesIn K (.builtin "object.__class__") = some true
  hm : PySem.W.mroIn K C (.type "object") = some true
theorem Xc.excC {K : PySem.W.Frag} {mg : Str → Option Value} {x : Str} {C : Addr} (X : Xc K mg x C) : ExcC K C := ⟨X.hg, X.hk, X.bP, X.hD, X.ha, X.hn, X.ht, X.hm⟩
theorem Xc.exm {K : PySem.W.Frag} {mg : Str → Option Value} {x : Str} {C : Addr} (X : Xc K mg x C) : PySem.W.exmOne K (.ref C) (.ref C) = some true := PySem.W.exm_ref X.bP X.hD X.tP X.sP
theorem Xc.g {K : PySem.W.Frag} {mg : Str → Option Value} {x : Str} {C : Addr} (X : Xc K mg x C) : ∃ u, mg x = some u ∧ RelV (.ref C) u := ⟨_, X.gP, rfl⟩
/-- a promise that tells how it may raise -/
def Sx {α : Type} (pre : α → List V → Hp → Hp → Prop) (post : α → Hp → Hp → V → Hp → Hp → Prop) (exc : α → Hp → Hp → Addr → Hp → Hp → Prop) : Sp := fun vs H Q E =>
  ∃ a M G, J M G H ∧ pre a vs M G ∧ (∀ v M' G' H', J M' G' H' → Ex G G' → post a M G v M' G' → Q v H') ∧ ∀ C M' G' H', J M' G' H' → Ex G G' → exc a M G C M' G' → E (.ref C) none H'
theorem w_sx {α : Type} {pre : α → List V → Hp → Hp → Prop} {post : α → Hp → Hp → V → Hp → Hp → Prop} {exc : α → Hp → Hp → Addr → Hp → Hp → Prop} {vs : List V} {M G H : Hp} {Q : VK} {E : XK} (a : α) (j : J M G H) (hp : pre a vs M G)
    (k : ∀ v M' G' H', J M' G' H' → Ex G G' → post a M G v M' G' → Q v H') (kx : ∀ C M' G' H', J M' G' H' → Ex G G' → exc a M G C M' G' → E (.ref C) none H') : Sx pre post exc vs H Q E := ⟨a, M, G, j, hp, k, kx⟩
theorem Dn.okX {P : Program} {w : World} {K : PySem.W.Frag} {mg : Str → Option Value} {base : Heap} {x : Str} {st : Stmt} {ps : List Str} {f : Addr} {fd : FuncData} {N : List Str} {k : Nat} {sp : Sp} (D : Dn K mg x st ps f fd) (S : FnScope N ps (defScope st)) (len : ∀ vs H Q E, sp vs H Q E → vs.length = ps.length)
    (hbody : ∀ (cdv : Value) (A : Around) (outer : List Env) (s : Shared) (H : Hp) (vs : List V) (Q : VK) (E : XK), Room k (A.deeper (envOfC x (defScope st) s.heap.objs.size f cdv)) → sp vs H Q E →
      ∃ t, PSs (cxOf (L2.CX P w) P w K mg base N x (defScope st) f cdv A outer s H E) (defBody st) t ∧ t { nx := fun _ H' => Q .non H', rt := Q } (start N vs) H) : Cal P w K mg base (L2.CX P w) (k + 1) x sp :=
  D.cal (D.fn.okX S len hbody)
/-- a call of what may raise, where an error is wished for -/
theorem pe_calX {X : Cx} {k j : Nat} {x : Str} {sp : Sp} {p pos : Pos} {e : Expr} {es : List Expr} {t : TA} {W : WX} (c : Cal X.prog X.w X.K X.mg X.base (L2.CX X.prog X.w) k x sp) (hr : Room j X.A) (hk : k ≤ j) (hg : Gl X x) (tk : Takes X W) (ha : PA X (e :: es) t)
    (hdb : (x == ("__debug__" : Str)) = false := by decide) (he : starEach (e :: es) X.env = (false, eval e X.env) :: starEach es X.env := by rfl) (hpl : (backTo pos (starEach es X.env)).any (·.1) = false := by rfl) :
    PE X (.Call (.Name x p) (e :: es) [] pos) (tCallS sp (WE W) t) := by
  obtain ⟨f, fd, ps, F, hm, kp, b⟩ := c.ex
  exact pe_callS F (hr.mono hk) hg hm kp b (fun σ => passAt tk σ) ha hdb he hpl
theorem w_callS {sp : Sp} {E : L2.St → XK} {t : TA} {σ : L2.St} {H : Hp} {Q : VK} (h : t σ H fun vs H1 => sp vs H1 Q (E σ)) : tCallS sp E t σ H Q := h
def tRaiseA (C : Addr) (W : WX) : TS := fun _ σ H => W (.ref C) none σ H
theorem ps_raiseA {X : Cx} {W : WX} {x m : Str} {C : Addr} {j : Nat} {p p2 pos pos2 : Pos} (hc : X.calm = true) (tk : Takes X W) (h : Xc X.K X.mg x C) (hg : Gl X x) (hdb : (x == ("__debug__" : Str)) = false := by decide) :
    PS X (.Raise (some (.Call (.Name x p) [.Constant (.str m) j p2] [] pos)) none pos2) (tRaiseA C W) := ps_raise hc tk (pmk_own PySem.F.excBase_ValueError h.xP h.gP h.kP (raises_own h.bP h.tP) hg hdb)
theorem w_raise {C : Addr} {W : WX} {D : Ends} {σ : L2.St} {H : Hp} (h : W (.ref C) none σ H) : tRaiseA C W D σ H := h
def tTryA (K : PySem.W.Frag) (c : Value) (i : Nat) (tb : WX → TS) (ts : Addr → Value → Option Addr → TS) (Wout : WX) : TS := fun D σ H => tb (wAs K c i ts Wout D) D σ H
theorem w_tryA {K : PySem.W.Frag} {c : Value} {i : Nat} {tb : WX → TS} {ts : Addr → Value → Option Addr → TS} {Wout : WX} {D : Ends} {σ : L2.St} {H : Hp} (h : tb (wAs K c i ts Wout D) D σ H) : tTryA K c i tb ts Wout D σ H := h
theorem ps_tryA {X : Cx} {x n : Str} {c : Value} {i : Nat} {body suite : List Stmt} {b₀ : Stmt} {np pos pos' : Pos} {tb : WX → TS} {ts : Addr → Value → Option Addr → TS} {Wout : WX} (hs : X.stack = X.env :: X.outer) (hf : X.env.frame = some X.env.locals) (hN : X.N.Nodup) (hi : X.N[i]? = some n) (hln : X.env.kindOf n = some .local) (hc : Names X x c) (tk : Takes X Wout)
    (hb : ∀ (W : WX) (pn : List (Addr × Obj)) (xe : Value → Shared → Prop), Takes (X.tr pn xe) W → PassesOwn (model X.prog X.w) X.A X.env xe → PSs (X.tr pn xe) body (tb W))
    (hsu : ∀ (a : Addr) (oe : Obj) (cls : Value) (d : Option Addr) (pn : List (Addr × Obj)), Zc cls d oe → (∃ vs, oe.data = .fields vs) → PSs (X.suite a ((a, oe) :: pn)) (b₀ :: suite) (ts a cls d)) :
    PS X (.Try body [.ExceptHandler (some (.Name x np)) (some n) (b₀ :: suite) pos'] [] [] pos) (tTryA X.K c i tb ts Wout) := ps_try_as hs hf hN hi hln hc tk hb hsu
/-- a fact that the suite's rules want is asked of its reading -/
theorem pss_given {X : Cx} {b : List Stmt} {t : TS} {p : Prop} (h : p → PSs X b t) : PSs X b (fun D σ H => p ∧ t D σ H) := ⟨fun pins s σ H D I z => (h z.1).run pins s σ H D I z.2⟩
/-- what a caught error of the class C asks -/
theorem w_caught {K : PySem.W.Frag} {c : Value} {C : Addr} {i : Nat} {ts : Addr → Value → Option Addr → TS} {Wout : WX} {D : Ends} {σ : L2.St} {H : Hp} (e : PySem.W.exmOne K (.ref C) c = some true)
    (h : ∀ a, H a = none → ts a (.ref C) none { nx := fun σ' H' => D.nx (σ'.set i none) H', rt := D.rt, bk := fun σ' H' => D.bk (σ'.set i none) H', ct := fun σ' H' => D.ct (σ'.set i none) H' } (σ.set i (some (.ref a))) H) : wAs K c i ts Wout D (.ref C) none σ H :=
  ⟨true, e, fun _ => h, fun q => Bool.noConfusion q⟩
theorem w_isE {K : PySem.W.Frag} {D a C : Addr} {b : Bool} {H : Hp} {Q : VK} (e : PySem.W.kitOne K (.ref D) (.ref C) = some b) (q : Q (.bl b) H) : rIsE K D a [.ref a, .ref C] H Q := ⟨.ref C, .ref C, b, rfl, fun _ r => r, e, q⟩
theorem w_seqP {t : TS} {u : TS} {D : Ends} {σ : L2.St} {H : Hp} (Pm : L2.St → Hp → Prop) (rest : ∀ σ H, Pm σ H → u D σ H) (first : (∀ σ H, Pm σ H → u D σ H) → t { D with nx := u D } σ H) : tSeq t u D σ H := first rest
/-- a op1 b op2 c op3 d -/
def tChain3 (r1 r2 r3 : R2) (ta tb tc td : TE) : TE := fun σ H Q => ta σ H fun x H1 => tb σ H1 fun y H2 => r1 x y H2 fun z H3 => ∃ k, z = .bl k ∧
  (if k = true then tc σ H3 fun u H4 => r2 y u H4 fun z2 H5 => ∃ k2, z2 = .bl k2 ∧ (if k2 = true then td σ H5 fun v H6 => r3 u v H6 Q else Q (.bl false) H5) else Q (.bl false) H3)
theorem pe_chain3 {X : Cx} {o1 o2 o3 : CmpOp} {r1 r2 r3 : R2} {a b c d : Expr} {ta tb tc td : TE} {pos : Pos} (h1 : OpR X (compareOp o1) r1) (h2 : OpR X (compareOp o2) r2) (h3 : OpR X (compareOp o3) r3) (ha : PE X a ta) (hb : PE X b tb) (hc : PE X c tc) (hd : PE X d td)
    (hm : lastMarks [o1, o2, o3] [b, c, d] = false := by with_unfolding_all rfl) : PE X (.Compare a [o1, o2, o3] [b, c, d] pos) (tChain3 r1 r2 r3 ta tb tc td) := by
  refine ⟨fun pins s σ H Q I h => Compare_chain (thn (ha.run pins s σ H _ I h) fun v0 s1 ⟨x, H1, I1, q1, w1⟩ => chain_link (thn (hb.run pins s1 σ H1 _ I1 w1) fun u0 s2 ⟨y, H2, I2, q2, w2⟩ => thn (h1 pins s2 σ H2 x y v0 u0 _ I2 q1 q2 w2) fun e0 s3 ⟨z, H3, I3, q3, k, ez, w3⟩ => ?_)) hm⟩
  subst ez; cases q3
  refine wpAny_truthy_bool ?_
  cases k with
  | false => exact ite_ff ⟨.bl false, H3, I3, rfl, w3⟩
  | true =>
    refine ite_tt (chain_link (thn (hc.run pins s3 σ H3 _ I3 w3) fun u1 s4 ⟨y1, H4, I4, q4, w4⟩ => thn (h2 pins s4 σ H4 y y1 u0 u1 _ I4 q2 q4 w4) fun e1 s5 ⟨z1, H5, I5, q5, k1, ez1, w5⟩ => ?_))
    subst ez1; cases q5
    refine wpAny_truthy_bool ?_
    cases k1 with
    | false => exact ite_ff ⟨.bl false, H5, I5, rfl, w5⟩
    | true => exact ite_tt (chain_last (thn (hd.run pins s5 σ H5 _ I5 w5) fun u2 s6 ⟨y2, H6, I6, q6, w6⟩ => h3 pins s6 σ H6 y1 y2 u1 u2 Q I6 q4 q6 w6))
theorem w_chain3 {r1 r2 r3 : R2} {ta tb tc td : TE} {σ : L2.St} {H : Hp} {Q : VK} (h : ta σ H fun x H1 => tb σ H1 fun y H2 => r1 x y H2 fun z H3 => ∃ k, z = .bl k ∧
  (if k = true then tc σ H3 fun u H4 => r2 y u H4 fun z2 H5 => ∃ k2, z2 = .bl k2 ∧ (if k2 = true then td σ H5 fun v H6 => r3 u v H6 Q else Q (.bl false) H5) else Q (.bl false) H3)) : tChain3 r1 r2 r3 ta tb tc td σ H Q := h
/-- tuples that stand: what is behind + and a slice stands too -/
theorem w_catT {K : PySem.W.Frag} {M G H : Hp} {a b : Addr} {xs ys : List V} {Q : VK} (j : J M G H) (h1 : SqT K G a xs) (h2 : SqT K G b ys) (z : xs.length + ys.length ≤ 1000000)
    (k : ∀ p G' H', J M G' H' → Ex G G' → SqT K G' p (xs ++ ys) → Q (.ref p) H') : uAdd K (.ref a) (.ref b) H Q :=
  .inr (.inr ⟨a, b, xs, ys, rfl, rfl, st_mono j.g h1, st_mono j.g h2, sz_le z, fun e => k b G H j (Same.refl G) (by subst e; exact h2), fun _ e => k a G H j (Same.refl G) (by subst e; rw [List.append_nil]; exact h1),
    fun _ _ p hp => k p _ _ (j.newG hp) (Ex.new (j.freeG hp)) (st_of upd_same)⟩)
theorem cut_all {xs : List V} {lo hi : Option Int} (h : HT.sIx xs.length 0 lo = 0 ∧ HT.sIx xs.length xs.length hi = xs.length) : cutV xs lo hi = xs := by
  unfold cutV
  rw [h.1, h.2]
  simp
theorem w_slTG {K : PySem.W.Frag} {M G H : Hp} {a : Addr} {xs : List V} {lo hi : Option Int} {Q : VK} (j : J M G H) (h : SqT K G a xs)
    (k : ∀ p G' H', J M G' H' → Ex G G' → SqT K G' p (cutV xs lo hi) → Q (.ref p) H') : uSl K (.ref a) lo hi H Q :=
  w_slT j h (fun e => k a G H j (Same.refl G) (by rw [cut_all e]; exact h)) fun _ => ⟨Nat.zero_le _, fun p hp => k p _ _ (j.newG hp) (Ex.new (j.freeG hp)) (st_of upd_same)⟩
theorem cut_sub {xs : List V} {lo hi : Option Int} {v : V} (h : v ∈ cutV xs lo hi) : v ∈ xs := by
  unfold cutV at h
  first
    | exact List.mem_of_mem_drop (List.mem_of_mem_take h)
    | exact List.mem_of_mem_take (List.mem_of_mem_drop h)
theorem cut_len {xs : List V} {lo hi : Option Int} : (cutV xs lo hi).length ≤ xs.length := by
  unfold cutV
  simp only [List.length_take, List.length_drop]
  omega
theorem kit_no {K : PySem.W.Frag} {A B : Addr} (h0 : (Value.ref A == Value.ref B) = false) (h1 : PySem.W.isClsIn K B = true) (h2 : PySem.W.typeIn K (.ref B) = some (.type "type")) (h3 : PySem.W.subIn K (.ref A) (.ref B) = some false) : PySem.W.kitOne K (.ref A) (.ref B) = some false := by
  have e : ((PySem.W.clsIn K B).isSome && PySem.W.typeIn K (.ref B) == some (.type "type")) = true := by rw [show (PySem.W.clsIn K B).isSome = true from h1, h2]; rfl
  unfold PySem.W.kitOne
  rw [h0, if_neg Bool.false_ne_true]
  exact (if_pos e).trans h3
/-! within a comprehension's block the context's own K is not to be named -/
section
variable {X : Cx} {K : PySem.W.Frag}
theorem pe_fldK {e : Expr} {te : TE} {f : Str} {pos : Pos} (h : X.K = K) (he : PE X e te) (hb : attributeBase e f X.env (eval e X.env) = eval e X.env) : PE X (.Attribute e f pos) (tFld K te f) := h ▸ pe_fld he hb
theorem pi_tupK {tg l : Expr} {tl : TE} (h : X.K = K) (hl : PE X l tl) : PI X tg l (iTup K tl) := h ▸ pi_tup hl
theorem pi_listK {tg l : Expr} {tl : TE} (h : X.K = K) (hl : PE X l tl) : PI X tg l (iList K tl) := h ▸ pi_list hl
theorem pg_tupK {es : List Expr} {k : Nat} {pos : Pos} {t : TGs} {n : Nat} (hK : X.K = K) (hc : X.calm = true) (h : PGs X es t) (hn : (assignEach es X.env).length = n := by rfl) (hst : (assignEach es X.env).findIdx? (·.1) = none := by rfl) :
    PG X (.Tuple es k pos) (gTup K n t) := hK ▸ pg_tup hc h hn hst
end
end Nz

namespace Nz
open PySem L2 PySem.Spec PyProof.Rows
local macro_rules
  | `(tactic| walk_at "v") => `(tactic| first
    | with_reducible refine w_asg ?_
    | ((with_reducible refine' w_var ?h ?_); (case h => rfl))
    | with_reducible refine w_c ?_
    | with_reducible refine w_op ?_
    | with_reducible refine w_if ?_
    | with_reducible refine w_test ?_
    | with_reducible refine w_bl ?_
    | with_reducible refine w_ret ?_
    | with_reducible refine w_gName ?_
    | with_reducible refine w_call ?_
    | with_reducible refine w_acons ?_
    | with_reducible refine w_anil ?_
    | with_reducible refine w_cDict ?_
    | with_reducible refine w_cList ?_
    | with_reducible refine w_cTup ?_
    | with_reducible refine w_cSortD ?_
    | with_reducible refine w_cb ?_
    | with_reducible refine w_next ?_
    | with_reducible refine w_drop ?_
    | with_reducible refine w_gSub ?_
    | with_reducible refine w_addI ?_
    | with_reducible refine w_I0 ?_
    | ((with_reducible refine' w_I ?hc ?_); (case hc => first | decide | exact ⟨by decide, by decide⟩ | exact ⟨by decide, by decide, by decide⟩))
    | ((with_reducible refine' w_mulI ?hc ?_); (case hc => first | exact .inr (by decide) | exact .inl (by decide)))
    | with_reducible refine w_eqI ?_
    | with_reducible refine w_neI ?_
    | with_reducible refine w_U ?_
    | with_reducible refine w_un ?_
    | with_reducible refine w_and ?_
    | with_reducible refine w_or ?_
    | with_reducible refine w_not ?_
    | with_reducible refine w_andV ?_
    | with_reducible refine w_orV ?_
    | with_reducible refine w_notV ?_
    | with_reducible refine w_ifE ?_
    | with_reducible refine w_isN ?_
    | with_reducible refine w_notN ?_
    | with_reducible refine w_tB ?_
    | with_reducible refine w_chain ?_
    | with_reducible refine w_chain3 ?_
    | with_reducible refine w_callS ?_
    | with_reducible refine w_raise ?_
    | with_reducible refine w_tryA ?_
    | with_reducible refine w_tup ?_
    | with_reducible refine w_lst ?_
    | with_reducible refine w_bm ?_
    | with_reducible refine w_sl ?_
    | with_reducible refine w_retN ?_
    | with_reducible refine w_forR ?_
    | ((with_reducible refine' w_eqS ?he ?_); (case he => first | exact decide_eq_true rfl | exact decide_eq_false (by decide +kernel)))
    | with_reducible refine w_T ?_
    | with_reducible refine w_nt ?_
    | with_reducible refine w_nf ?_
    | with_reducible refine w_F ?_
    | with_reducible refine w_part ?_
    | with_reducible refine w_partX ?_
    | with_reducible refine w_nopart ?_
    | with_reducible refine w_dget1 ?_
    | with_reducible refine w_dget2 ?_
    | with_reducible refine w_dget ?_
    | with_reducible refine w_din ?_
    | with_reducible refine w_dnotin ?_
    | with_reducible refine w_dput ?_
    | with_reducible refine w_dpop2 ?_
    | with_reducible refine w_dnew ?_
    | ((with_reducible refine' w_isi true ?hh ?e ?_); (case hh => first | exact ty_int | exact ty_bl | exact ty_str | exact ty_non); (case e => rfl))
    | ((with_reducible refine' w_isi false ?hh ?e ?_); (case hh => first | exact ty_int | exact ty_bl | exact ty_str | exact ty_non); (case e => rfl))
    | with_reducible refine w_lcR ?_
    | with_reducible refine w_lcL ?_)
local macro_rules
  | `(tactic| walk_at "w") => `(tactic| first | with_reducible refine w_seq ?_ | walk_at "v")
local macro_rules
  | `(tactic| walk_at "to") => `(tactic| ((repeat walk_at "v"); (try dsimp only [Int.reduceToNat, Int.reducePow, Int.reduceNeg, Int.reduceMul]); (with_reducible show tSeq _ _ _ _ _)))
local macro_rules
  | `(tactic| walk_at "go") => `(tactic| ((repeat walk_at "w"); (try dsimp only [Int.reduceToNat, Int.reducePow, Int.reduceNeg, Int.reduceMul])))
local macro_rules
  | `(tactic| walk_at "start") => `(tactic| ((try dsimp only [cxOf]); (repeat walk_at "w"); (try dsimp only [Int.reduceToNat, Int.reducePow, Int.reduceNeg, Int.reduceMul])))
local macro_rules
  | `(tactic| walk_at "ix") => `(tactic| first
    | refine w_ixT (by assumption) (st_of (by assumption)) (by rfl) ?_
    | refine w_ixL (by assumption) (sl_of (by assumption)) (by rfl) ?_
    | refine w_ixT (by assumption) (by assumption) (by rfl) ?_
    | refine w_ixL (by assumption) (by assumption) (by rfl) ?_
    | refine w_ixM (by assumption) (by assumption) (by rfl) ?_)
local macro_rules
  | `(tactic| walk_at "gx") => `(tactic| (repeat (first | walk_at "w" | walk_at "ix")); (try dsimp only [Int.reduceToNat, Int.reducePow, Int.reduceNeg, Int.reduceMul]))

def top (i : Nat) : Stmt := PySem.Challenge.pw_wholecloth_k64_records_of_deals_are_chec.main.body.getD i (.Pass ⟨0, 0, 0, 0⟩)
/-! ### classes: their facts, methods, makings, properties -/
theorem lk_ne {a k : Str} {b : V} {es : List (Str × V)} (h : ¬ a = k) : ((k, b) :: es).lookup a = es.lookup a := by
  have hb : (a == k) = false := beq_eq_false_iff_ne.mpr h
  simp only [List.lookup, hb]
theorem lk_eq {k : Str} {b : V} {es : List (Str × V)} : ((k, b) :: es).lookup k = some b := by
  have hb : (k == k) = true := beq_iff_eq.mpr rfl
  simp only [List.lookup, hb]
theorem pf_ne {f g : Str} {v x : V} {r r' : List (Str × V)} (h : ¬ g = f) (e : putF f v r = r') : putF f v ((g, x) :: r) = (g, x) :: r' := by
  show (if g = f then _ else _) = _
  rw [if_neg h, e]
theorem pf_eq {f : Str} {v x : V} {r : List (Str × V)} : putF f v ((f, x) :: r) = (f, v) :: r := if_pos rfl
theorem upd_self {M : Hp} {a : Addr} {o : HO} (h : M a = some o) : upd M a o = M := by
  funext b
  by_cases q : b = a
  · subst q; rw [upd_same, h]
  · rw [upd_ne q]
structure Dm (K : PySem.W.Frag) (C : Addr) (m q : Str) (st : Stmt) (ps : List Str) (f : Addr) (fd : FuncData) : Prop where
  fn : Fun K m q st f fd
  me : Meth K C m f
  bn : Binds K fd ps []
structure Di (K : PySem.W.Frag) (C : Addr) (q : Str) (st : Stmt) (ps : List Str) (f : Addr) (fd : FuncData) : Prop where
  fn : Fun K "__init__" q st f fd
  mke : Mk K C f
  bn : Binds K fd ps []
structure Dpr (K : PySem.W.Frag) (C : Addr) (m q : Str) (st : Stmt) (ps : List Str) (pf f : Addr) (fd : FuncData) : Prop where
  fn : Fun K m q st f fd
  pr : PropOf K C m pf f
  bn : Binds K fd ps []
structure CalM (P : Program) (w : World) (K : PySem.W.Frag) (mg : Str → Option Value) (base : Heap) (CX : CXT) (k : Nat) (C : Addr) (m : Str) (sp : Sp) : Prop where
  ex : ∃ (f : Addr) (fd : FuncData) (ps : List Str), FnOk P w K mg base CX k f fd ps sp ∧ Meth K C m f ∧ Binds K fd ps []
structure CalI (P : Program) (w : World) (K : PySem.W.Frag) (mg : Str → Option Value) (base : Heap) (CX : CXT) (k : Nat) (C : Addr) (sp : Sp) : Prop where
  ex : ∃ (f : Addr) (fd : FuncData) (ps : List Str), FnOk P w K mg base CX k f fd ps sp ∧ Mk K C f ∧ Binds K fd ps []
structure CalP (P : Program) (w : World) (K : PySem.W.Frag) (mg : Str → Option Value) (base : Heap) (CX : CXT) (k : Nat) (C : Addr) (m : Str) (sp : Sp) : Prop where
  ex : ∃ (p f : Addr) (fd : FuncData) (ps : List Str), FnOk P w K mg base CX k f fd ps sp ∧ PropOf K C m p f ∧ Binds K fd ps []
section
variable {P : Program} {w : World} {K : PySem.W.Frag} {mg : Str → Option Value} {base : Heap} {C : Addr} {m q : Str} {st : Stmt} {ps : List Str} {f pf : Addr} {fd : FuncData} {N : List Str} {k : Nat} {sp : Sp}
theorem Dm.ok (D : Dm K C m q st ps f fd) (S : FnScope N ps (defScope st)) (len : ∀ vs H Q E, sp vs H Q E → vs.length = ps.length)
    (hbody : ∀ (cdv : Value) (A : Around) (outer : List Env) (s : Shared) (H : Hp) (vs : List V) (Q : VK) (E : XK), Room k (A.deeper (envOfC q (defScope st) s.heap.objs.size f cdv)) → sp vs H Q E →
      ∃ t, PSs (cxOf CX0 P w K mg base N q (defScope st) f cdv A outer s H E).nox (defBody st) t ∧ t { nx := fun _ H' => Q .non H', rt := Q } (start N vs) H) : CalM P w K mg base CX0 (k + 1) C m sp :=
  ⟨f, fd, ps, D.fn.ok S len hbody, D.me, D.bn⟩
theorem Dm.okX (D : Dm K C m q st ps f fd) (S : FnScope N ps (defScope st)) (len : ∀ vs H Q E, sp vs H Q E → vs.length = ps.length)
    (hbody : ∀ (cdv : Value) (A : Around) (outer : List Env) (s : Shared) (H : Hp) (vs : List V) (Q : VK) (E : XK), Room k (A.deeper (envOfC q (defScope st) s.heap.objs.size f cdv)) → sp vs H Q E →
      ∃ t, PSs (cxOf (L2.CX P w) P w K mg base N q (defScope st) f cdv A outer s H E) (defBody st) t ∧ t { nx := fun _ H' => Q .non H', rt := Q } (start N vs) H) : CalM P w K mg base (L2.CX P w) (k + 1) C m sp :=
  ⟨f, fd, ps, D.fn.okX S len hbody, D.me, D.bn⟩
theorem Di.ok (D : Di K C q st ps f fd) (S : FnScope N ps (defScope st)) (len : ∀ vs H Q E, sp vs H Q E → vs.length = ps.length)
    (hbody : ∀ (cdv : Value) (A : Around) (outer : List Env) (s : Shared) (H : Hp) (vs : List V) (Q : VK) (E : XK), Room k (A.deeper (envOfC q (defScope st) s.heap.objs.size f cdv)) → sp vs H Q E →
      ∃ t, PSs (cxOf CX0 P w K mg base N q (defScope st) f cdv A outer s H E).nox (defBody st) t ∧ t { nx := fun _ H' => Q .non H', rt := Q } (start N vs) H) : CalI P w K mg base CX0 (k + 1) C sp :=
  ⟨f, fd, ps, D.fn.ok S len hbody, D.mke, D.bn⟩
theorem Dpr.ok (D : Dpr K C m q st ps pf f fd) (S : FnScope N ps (defScope st)) (len : ∀ vs H Q E, sp vs H Q E → vs.length = ps.length)
    (hbody : ∀ (cdv : Value) (A : Around) (outer : List Env) (s : Shared) (H : Hp) (vs : List V) (Q : VK) (E : XK), Room k (A.deeper (envOfC q (defScope st) s.heap.objs.size f cdv)) → sp vs H Q E →
      ∃ t, PSs (cxOf CX0 P w K mg base N q (defScope st) f cdv A outer s H E).nox (defBody st) t ∧ t { nx := fun _ H' => Q .non H', rt := Q } (start N vs) H) : CalP P w K mg base CX0 (k + 1) C m sp :=
  ⟨pf, f, fd, ps, D.fn.ok S len hbody, D.pr, D.bn⟩
end
section
variable {X : Cx} {k j : Nat} {C : Addr} {m x : Str} {sp : Sp} {p pos apos : Pos} {o e : Expr} {es : List Expr} {ta : TE} {t : TA}
theorem pe_calM (c : CalM X.prog X.w X.K X.mg X.base CX0 k C m sp) (cl : Cls X.K C) (hr : Room j X.A) (hk : k ≤ j) (ho : PE X o ta) (ha : PA X (e :: es) t) {pl : Sem Bool}
    (hst : starEach (e :: es) X.env = (false, eval e X.env) :: starEach es X.env := by rfl) (hpl : (backTo pos (starEach es X.env)).any (·.1) = false := by rfl)
    (ht : eval (.Call (.Attribute o m apos) (e :: es) [] pos) X.env = (do
      let ov ← eval o X.env
      standAt apos.atName
      let (f, first) ← holding [ov] (getMethod ov m pl)
      callWith pos f first (backTo pos (starEach (e :: es) X.env)) (backToKw pos (keywordEach [] X.env))) := by rfl) :
    PE X (.Call (.Attribute o m apos) (e :: es) [] pos) (tMeth C m sp [] E0 ta t) := by
  obtain ⟨f, fd, ps, F, me, b⟩ := c.ex
  exact pe_meth ho cl me F (hr.mono hk) b .nil pass0 ha hst hpl ht
theorem pe_calM0 (c : CalM X.prog X.w X.K X.mg X.base CX0 k C m sp) (cl : Cls X.K C) (hr : Room j X.A) (hk : k ≤ j) (ho : PE X o ta) {pl : Sem Bool}
    (ht : eval (.Call (.Attribute o m apos) [] [] pos) X.env = (do
      let ov ← eval o X.env
      standAt apos.atName
      let (f, first) ← holding [ov] (getMethod ov m pl)
      callWith pos f first (backTo pos (starEach [] X.env)) (backToKw pos (keywordEach [] X.env))) := by rfl) :
    PE X (.Call (.Attribute o m apos) [] [] pos) (tMeth C m sp [] E0 ta tNil) := by
  obtain ⟨f, fd, ps, F, me, b⟩ := c.ex
  exact pe_meth0 ho cl me F (hr.mono hk) b .nil pass0 ht
theorem pe_calI (c : CalI X.prog X.w X.K X.mg X.base CX0 k C sp) (gC : X.mg x = some (.ref C)) (hr : Room j X.A) (hk : k + 1 ≤ j) (hg : Gl X x) (ha : PA X (e :: es) t)
    (hdb : (x == ("__debug__" : Str)) = false := by decide) (he : starEach (e :: es) X.env = (false, eval e X.env) :: starEach es X.env := by rfl) (hpl : (backTo pos (starEach es X.env)).any (·.1) = false := by rfl) :
    PE X (.Call (.Name x p) (e :: es) [] pos) (tMake C sp [] E0 t) := by
  obtain ⟨f, fd, ps, F, mk, b⟩ := c.ex
  exact pe_make mk F (hr.mono hk) hg gC b .nil pass0 ha hdb he hpl
theorem pe_calI0 (c : CalI X.prog X.w X.K X.mg X.base CX0 k C sp) (gC : X.mg x = some (.ref C)) (hr : Room j X.A) (hk : k + 1 ≤ j) (hg : Gl X x)
    (hdb : (x == ("__debug__" : Str)) = false := by decide) : PE X (.Call (.Name x p) [] [] pos) (tMake C sp [] E0 tNil) := by
  obtain ⟨f, fd, ps, F, mk, b⟩ := c.ex
  exact pe_make0 mk F (hr.mono hk) hg gC b .nil pass0 hdb
theorem pe_calP (c : CalP X.prog X.w X.K X.mg X.base CX0 k C m sp) (cl : Cls X.K C) (hr : Room j X.A) (hk : k + 1 ≤ j) (ho : PE X o ta)
    (hab : attributeBase o m X.env (eval o X.env) = eval o X.env) : PE X (.Attribute o m pos) (tProp C sp [] E0 ta) := by
  obtain ⟨q, f, fd, ps, F, pr, b⟩ := c.ex
  exact pe_prop ho cl pr F (hr.mono hk) b .nil pass0 hab
end
/-! the steps -/
section
variable {K : PySem.W.Frag} {M G H : Hp} {σ : L2.St} {x y v : V} {ta tv : TE} {tr : TA} {Q : VK} {D : Ends} {a C dx : Addr} {fs : List (Str × V)} {f m : Str} {sp : Sp} {dvs : List V} {E : XK}
def FldX (K : PySem.W.Frag) (f : Str) (x : V) (H1 : Hp) (Q : VK) : Prop := ∃ a C dx fs v, x = .ref a ∧ H1 a = some (.ins C dx fs) ∧ Cls K C ∧ NoAttr K C f ∧ fs.lookup f = some v ∧ Q v H1
theorem w_fld (h : ta σ H fun x H1 => FldX K f x H1 Q) : tFld K ta f σ H Q := h
theorem w_fldM (j : J M G H) (h : M a = some (.ins C dx fs)) (c : Cls K C) (n : NoAttr K C f) (l : fs.lookup f = some v) (q : Q v H) : FldX K f (.ref a) H Q := ⟨a, C, dx, fs, v, rfl, j.m _ _ h, c, n, l, q⟩
theorem w_fldG (j : J M G H) (h : G a = some (.ins C dx fs)) (c : Cls K C) (n : NoAttr K C f) (l : fs.lookup f = some v) (q : Q v H) : FldX K f (.ref a) H Q := ⟨a, C, dx, fs, v, rfl, j.g _ _ h, c, n, l, q⟩
def SetX (K : PySem.W.Frag) (f : Str) (x y : V) (H2 : Hp) (R : Hp → Prop) : Prop := ∃ a C dx fs, x = .ref a ∧ H2 a = some (.ins C dx fs) ∧ Cls K C ∧ NoAttr K C f ∧ fs.length < 1000 ∧ R (upd H2 a (.ins C dx (putF f y fs)))
theorem w_sfld (h : tv σ H fun y H1 => ta σ H1 fun x H2 => SetX K f x y H2 (D.nx σ)) : sFld K ta tv f D σ H := h
theorem w_setX {R : Hp → Prop} (j : J M G H) (h : M a = some (.ins C dx fs)) (c : Cls K C) (n : NoAttr K C f) (l : fs.length < 1000) (q : ∀ H', J (upd M a (.ins C dx (putF f y fs))) G H' → R H') : SetX K f (.ref a) y H R :=
  ⟨a, C, dx, fs, rfl, j.m _ _ h, c, n, l, q _ (j.put h)⟩
def MethX (C : Addr) (m : Str) (sp : Sp) (dvs : List V) (E : XK) (t : TA) (σ : L2.St) (x : V) (H1 : Hp) (Q : VK) : Prop := ∃ a dx fs, x = .ref a ∧ H1 a = some (.ins C dx fs) ∧ fs.lookup m = none ∧ t σ H1 fun vs H2 => sp (x :: (vs ++ dvs)) H2 Q E
theorem w_meth (h : ta σ H fun x H1 => MethX C m sp dvs E tr σ x H1 Q) : tMeth C m sp dvs E ta tr σ H Q := h
theorem w_methM (j : J M G H) (h : M a = some (.ins C dx fs)) (l : fs.lookup m = none) (q : tr σ H fun vs H2 => sp (.ref a :: (vs ++ dvs)) H2 Q E) : MethX C m sp dvs E tr σ (.ref a) H Q := ⟨a, dx, fs, rfl, j.m _ _ h, l, q⟩
theorem w_methG (j : J M G H) (h : G a = some (.ins C dx fs)) (l : fs.lookup m = none) (q : tr σ H fun vs H2 => sp (.ref a :: (vs ++ dvs)) H2 Q E) : MethX C m sp dvs E tr σ (.ref a) H Q := ⟨a, dx, fs, rfl, j.g _ _ h, l, q⟩
def PropX (C : Addr) (sp : Sp) (dvs : List V) (E : XK) (x : V) (H1 : Hp) (Q : VK) : Prop := ∃ a dx fs, x = .ref a ∧ H1 a = some (.ins C dx fs) ∧ sp (.ref a :: dvs) H1 Q E
theorem w_prop (h : ta σ H fun x H1 => PropX C sp dvs E x H1 Q) : tProp C sp dvs E ta σ H Q := h
theorem w_propM (j : J M G H) (h : M a = some (.ins C dx fs)) (q : sp (.ref a :: dvs) H Q E) : PropX C sp dvs E (.ref a) H Q := ⟨a, dx, fs, rfl, j.m _ _ h, q⟩
theorem w_propG (j : J M G H) (h : G a = some (.ins C dx fs)) (q : sp (.ref a :: dvs) H Q E) : PropX C sp dvs E (.ref a) H Q := ⟨a, dx, fs, rfl, j.g _ _ h, q⟩
/-- C(..): what is asked behind the arguments -/
def MakeX (C : Addr) (sp : Sp) (dvs : List V) (E : XK) (vs : List V) (H1 : Hp) (Q : VK) : Prop := ∀ x dx, H1 x = none → H1 dx = none → dx ≠ x →
  sp (.ref x :: (vs ++ dvs)) (upd (upd H1 dx (.own x)) x (.ins C dx [])) (fun v H2 => v = .non ∧ Q (.ref x) H2) E
theorem w_make (h : tr σ H fun vs H1 => MakeX C sp dvs E vs H1 Q) : tMake C sp dvs E tr σ H Q := h
/-- a new instance, owned; its dict stands nowhere in M, G -/
theorem w_makeX {vs : List V} (j : J M G H) (q : ∀ x dx H', J (upd M x (.ins C dx [])) G H' → M x = none → G x = none → sp (.ref x :: (vs ++ dvs)) H' (fun v H2 => v = .non ∧ Q (.ref x) H2) E) : MakeX C sp dvs E vs H Q := by
  intro x dx hx hd ne
  have j1 : J M G (upd H dx (.own x)) := ⟨fun a o e => by rw [upd_ne (ne_of_none (j.m a o e) hd)]; exact j.m a o e, fun a o e => by rw [upd_ne (ne_of_none (j.g a o e) hd)]; exact j.g a o e, j.d⟩
  exact q x dx _ (j1.newM (by rw [upd_ne ne.symm]; exact hx)) (j.freeM hx) (j.freeG hx)
end
/-! zip of two lists, as far as both go -/
def ZipX (K : PySem.W.Frag) (g : TG) (t : TS) (D : Ends) (σ : L2.St) (vs : List V) (H1 : Hp) : Prop := ∃ a b xs ys, vs = [.ref a, .ref b] ∧ SqL K H1 a xs ∧ SqL K H1 b ys ∧ ∃ W : Nat → Nat → L2.St → Hp → Prop, (∃ m, W 0 m σ H1) ∧ ∀ i m σ H, W i m σ H →
      ((Itz K a b).stop i H ∧ D.nx σ H) ∨ ((Itz K a b).go i H ∧ ∃ N : L2.St → Hp → Prop, (∀ σ' H', N σ' H' → ∃ m', m' < m ∧ W (i + 1) m' σ' H') ∧ ∀ v H', (Itz K a b).yld i H v H' → g v σ H' fun σ2 H2 => t { D with nx := N, ct := N, bk := D.nx } σ2 H2)
theorem w_forZ {K : PySem.W.Frag} {ta : TA} {g : TG} {t : TS} {D : Ends} {σ : L2.St} {H : Hp} (h : ta σ H fun vs H1 => ZipX K g t D σ vs H1) : tFor (iZip K ta) g t D σ H := h
theorem w_zip {K : PySem.W.Frag} {a b : Addr} {xs ys : List V} {g : TG} {tb : TS} {D : Ends} {σ : L2.St} {H : Hp} (Pv : Nat → L2.St → Hp → Prop) (h0 : Pv 0 σ H) (hq : ∀ i σ H, Pv i σ H → SqL K H a xs ∧ SqL K H b ys)
    (hs : ∀ (i : Nat) (x y : V) (T : Addr) (σ : L2.St) (H : Hp), xs[i]? = some x → ys[i]? = some y → Pv i σ H → H T = none → g (.ref T) σ (upd H T (.tup [x, y])) fun σ2 H2 => tb { D with nx := Pv (i + 1), ct := Pv (i + 1), bk := D.nx } σ2 H2) (hd : ∀ σ H, Pv (min xs.length ys.length) σ H → D.nx σ H) :
    ZipX K g tb D σ [.ref a, .ref b] H := by
  obtain ⟨q1, q2⟩ := hq 0 σ H h0
  refine ⟨a, b, xs, ys, rfl, q1, q2, fun i m σ H => m = min xs.length ys.length - i ∧ i ≤ min xs.length ys.length ∧ Pv i σ H, ⟨_, rfl, Nat.zero_le _, h0⟩, ?_⟩
  rintro i m σ H ⟨rfl, hi, p⟩
  obtain ⟨qx, qy⟩ := hq i σ H p
  by_cases hlt : i < min xs.length ys.length
  · have hx : xs[i]? = some xs[i] := List.getElem?_eq_getElem (by omega)
    have hy : ys[i]? = some ys[i] := List.getElem?_eq_getElem (by omega)
    refine .inr ⟨⟨xs, ys, _, _, qx, qy, hx, hy⟩, Pv (i + 1), fun σ' H' p' => ⟨min xs.length ys.length - (i + 1), by omega, rfl, hlt, p'⟩, fun v H' y => ?_⟩
    obtain ⟨T, x', y', rfl, hT, rfl, f1, f2⟩ := y
    exact hs i x' y' T σ H (f1 xs qx) (f2 ys qy) p hT
  · have e : i = min xs.length ys.length := by omega
    subst e
    exact .inl ⟨⟨xs, ys, qx, qy, by omega⟩, hd σ H p⟩
/-! for x in e, e a list -/
def ForX (K : PySem.W.Frag) (g : TG) (t : TS) (D : Ends) (σ : L2.St) (x : V) (H1 : Hp) : Prop := ∃ a, x = .ref a ∧ (∃ xs, SqL K H1 a xs) ∧ ∃ W : Nat → Nat → L2.St → Hp → Prop, (∃ m, W 0 m σ H1) ∧ ∀ i m σ H, W i m σ H →
      ((Itl K a).stop i H ∧ D.nx σ H) ∨ ((Itl K a).go i H ∧ ∃ N : L2.St → Hp → Prop, (∀ σ' H', N σ' H' → ∃ m', m' < m ∧ W (i + 1) m' σ' H') ∧ ∀ x H', (Itl K a).yld i H x H' → g x σ H' fun σ2 H2 => t { D with nx := N, ct := N, bk := D.nx } σ2 H2)
theorem w_forE {K : PySem.W.Frag} {tl : TE} {g : TG} {t : TS} {D : Ends} {σ : L2.St} {H : Hp} (h : tl σ H fun x H1 => ForX K g t D σ x H1) : tFor (iList K tl) g t D σ H := h
theorem w_forX {K : PySem.W.Frag} {a : Addr} {xs : List V} {g : TG} {t : TS} {D : Ends} {σ : L2.St} {H : Hp} (Pv : Nat → L2.St → Hp → Prop) (h0 : Pv 0 σ H) (hl : ∀ i σ H, i ≤ xs.length → Pv i σ H → SqL K H a xs)
    (hs : ∀ i x σ H, xs[i]? = some x → Pv i σ H → g x σ H fun σ2 H2 => t { D with nx := Pv (i + 1), ct := Pv (i + 1), bk := D.nx } σ2 H2) (hd : ∀ σ H, Pv xs.length σ H → D.nx σ H) : ForX K g t D σ (.ref a) H :=
  ⟨a, rfl, ⟨xs, hl 0 σ H (Nat.zero_le _) h0⟩, for_list Pv h0 hl hs hd⟩
local macro_rules
  | `(tactic| walk_at "v") => `(tactic| first
    | with_reducible refine w_fld ?_
    | with_reducible refine w_sfld ?_
    | with_reducible refine w_meth ?_
    | with_reducible refine w_prop ?_
    | with_reducible refine w_make ?_
    | with_reducible refine w_forZ ?_
    | with_reducible refine w_forE (tl := tFld _ _ _) ?_
    | with_reducible refine w_forE (tl := tOp _ _ _) ?_
    | with_reducible refine w_forE (tl := tCB _ _) ?_
    | with_reducible refine w_forE (tl := tLst _) ?_)
def ForTX (K : PySem.W.Frag) (g : TG) (t : TS) (D : Ends) (σ : L2.St) (x : V) (H1 : Hp) : Prop := ∃ a, x = .ref a ∧ (∃ xs, SqT K H1 a xs) ∧ ∃ W : Nat → Nat → L2.St → Hp → Prop, (∃ m, W 0 m σ H1) ∧ ∀ i m σ H, W i m σ H →
      ((Itt K a).stop i H ∧ D.nx σ H) ∨ ((Itt K a).go i H ∧ ∃ N : L2.St → Hp → Prop, (∀ σ' H', N σ' H' → ∃ m', m' < m ∧ W (i + 1) m' σ' H') ∧ ∀ x H', (Itt K a).yld i H x H' → g x σ H' fun σ2 H2 => t { D with nx := N, ct := N, bk := D.nx } σ2 H2)
theorem w_forTE {K : PySem.W.Frag} {tl : TE} {g : TG} {t : TS} {D : Ends} {σ : L2.St} {H : Hp} (h : tl σ H fun x H1 => ForTX K g t D σ x H1) : tFor (iTup K tl) g t D σ H := h
theorem w_forTX {K : PySem.W.Frag} {a : Addr} {xs : List V} {g : TG} {t : TS} {D : Ends} {σ : L2.St} {H : Hp} (Pv : Nat → L2.St → Hp → Prop) (h0 : Pv 0 σ H) (hl : ∀ i σ H, i ≤ xs.length → Pv i σ H → SqT K H a xs)
    (hs : ∀ i x σ H, xs[i]? = some x → Pv i σ H → g x σ H fun σ2 H2 => t { D with nx := Pv (i + 1), ct := Pv (i + 1), bk := D.nx } σ2 H2) (hd : ∀ σ H, Pv xs.length σ H → D.nx σ H) : ForTX K g t D σ (.ref a) H :=
  ⟨a, rfl, ⟨xs, hl 0 σ H (Nat.zero_le _) h0⟩, for_tup Pv h0 hl hs hd⟩
local macro_rules
  | `(tactic| walk_at "v") => `(tactic| first
    | with_reducible refine w_forTE (tl := tFld _ _ _) ?_
    | with_reducible refine w_forTE (tl := tOp _ _ _) ?_
    | with_reducible refine w_forTE (tl := tC _) ?_
    | with_reducible refine w_forE (tl := tC _) ?_
    | with_reducible refine w_forTE (tl := tCall _ _ _ _) ?_
    | with_reducible refine w_forE (tl := tCall _ _ _ _) ?_)
/-! ### class Record -/
structure Tx_Record (K : PySem.W.Frag) (mg : Str → Option Value) (C : Addr) : Prop where
  cl : Cls K C
  gC : mg "Record" = some (.ref C)
  n_deals : NoAttr K C "deals"
def fl_Record (x0 : V) : List (Str × V) := [("deals", x0)]
theorem fl_Record_deals {x0 : V} : (fl_Record x0).lookup ("deals" : Str) = some x0 := lk_eq
theorem sf_Record_deals {x0 y : V} : putF "deals" y (fl_Record x0) = fl_Record y := pf_eq
theorem no_Record {x0 : V} {m : Str} (h_deals : ¬ m = "deals") : (fl_Record x0).lookup m = none := (lk_ne h_deals).trans (rfl)
theorem nf_Record_deals {x0 : V} : putF "deals" x0 ([] : List (Str × V)) = ([("deals", x0)] : List (Str × V)) := rfl
/-! ### class Asked -/
structure Tx_Asked (K : PySem.W.Frag) (mg : Str → Option Value) (C : Addr) : Prop where
  cl : Cls K C
  gC : mg "Asked" = some (.ref C)
  n_ops : NoAttr K C "ops"
  n_earlier : NoAttr K C "earlier"
  n_answer : NoAttr K C "answer"
def fl_Asked (x0 x1 x2 : V) : List (Str × V) := [("ops", x0), ("earlier", x1), ("answer", x2)]
theorem fl_Asked_ops {x0 x1 x2 : V} : (fl_Asked x0 x1 x2).lookup ("ops" : Str) = some x0 := lk_eq
theorem sf_Asked_ops {x0 x1 x2 y : V} : putF "ops" y (fl_Asked x0 x1 x2) = fl_Asked y x1 x2 := pf_eq
theorem fl_Asked_earlier {x0 x1 x2 : V} : (fl_Asked x0 x1 x2).lookup ("earlier" : Str) = some x1 := (lk_ne (by decide +kernel : ¬ (("earlier" : Str) = "ops"))).trans (lk_eq)
theorem sf_Asked_earlier {x0 x1 x2 y : V} : putF "earlier" y (fl_Asked x0 x1 x2) = fl_Asked x0 y x2 := pf_ne (by decide +kernel : ¬ (("ops" : Str) = "earlier")) (pf_eq)
theorem fl_Asked_answer {x0 x1 x2 : V} : (fl_Asked x0 x1 x2).lookup ("answer" : Str) = some x2 := (lk_ne (by decide +kernel : ¬ (("answer" : Str) = "ops"))).trans ((lk_ne (by decide +kernel : ¬ (("answer" : Str) = "earlier"))).trans (lk_eq))
theorem sf_Asked_answer {x0 x1 x2 y : V} : putF "answer" y (fl_Asked x0 x1 x2) = fl_Asked x0 x1 y := pf_ne (by decide +kernel : ¬ (("ops" : Str) = "answer")) (pf_ne (by decide +kernel : ¬ (("earlier" : Str) = "answer")) (pf_eq))
theorem no_Asked {x0 x1 x2 : V} {m : Str} (h_ops : ¬ m = "ops") (h_earlier : ¬ m = "earlier") (h_answer : ¬ m = "answer") : (fl_Asked x0 x1 x2).lookup m = none := (lk_ne h_ops).trans ((lk_ne h_earlier).trans ((lk_ne h_answer).trans (rfl)))
theorem nf_Asked_ops {x0 : V} : putF "ops" x0 ([] : List (Str × V)) = ([("ops", x0)] : List (Str × V)) := rfl
theorem nf_Asked_earlier {x0 x1 : V} : putF "earlier" x1 ([("ops", x0)] : List (Str × V)) = ([("ops", x0), ("earlier", x1)] : List (Str × V)) := pf_ne (by decide +kernel : ¬ (("ops" : Str) = "earlier")) (rfl)
theorem nf_Asked_answer {x0 x1 x2 : V} : putF "answer" x2 ([("ops", x0), ("earlier", x1)] : List (Str × V)) = ([("ops", x0), ("earlier", x1), ("answer", x2)] : List (Str × V)) := pf_ne (by decide +kernel : ¬ (("ops" : Str) = "answer")) (pf_ne (by decide +kernel : ¬ (("earlier" : Str) = "answer")) (rfl))
/-! ### _law_mixed -/
abbrev s_law_mixed : Stmt := top 30
abbrev n_law_mixed : List Str := ["number", "k", "step"]
theorem sc_law_mixed : FnScope n_law_mixed ["number", "k"] (defScope s_law_mixed) := ⟨rfl, rfl, rfl, by decide +kernel, rfl, by decide +kernel, by decide +kernel⟩
def mixed (n k : Int) : Int :=
  ((n * 48271 + k * 69621 + 12345) % 2147483647 * ((n * 48271 + k * 69621 + 12345) % 2147483647 / 65536 + 3) + k) % 2147483647
theorem mixed_b (n k : Int) : 0 ≤ mixed n k ∧ mixed n k < 2147483647 := by
  unfold mixed
  exact ⟨Int.emod_nonneg _ (by decide), Int.emod_lt_of_pos _ (by decide)⟩
def sp_law_mixed (K : PySem.W.Frag) : Sp := Sg (α := Int × Int) (fun a vs _ _ => vs = [.int a.1, .int a.2]) (fun a M _ v M' _ => v = .int (mixed a.1 a.2) ∧ M' = M)
theorem ok_law_mixed {P : Program} {w : World} {K : PySem.W.Frag} {mg : Str → Option Value} {base : Heap}
    {f : Addr} {fd : FuncData} (D : Dn K mg "_law_mixed" s_law_mixed ["number", "k"] f fd) : Cal P w K mg base CX0 1 "_law_mixed" (sp_law_mixed K) := by
  refine D.ok sc_law_mixed (fun vs H Q E h => ?_) fun cdv A outer s H vs Q E hr h => ?_
  · obtain ⟨a, M, G, j, rfl, _⟩ := h; rfl
  obtain ⟨⟨n, k⟩, M, G, j, rfl, q⟩ := h
  refine ⟨_, (pss_cons (ps_set (i := 2) sc_law_mixed.nd rfl (Or.inl rfl) (pe_op op_mod (pe_op (op_uAddK (K := K) rfl) (pe_op (op_uAddK (K := K) rfl) (pe_op op_uMul (pv 0) pe_int) (pe_op op_uMul (pv 1) pe_int)) pe_int) pe_int))
(pss_one (ps_ret (pe_op op_mod (pe_op (op_uAddK (K := K) rfl) (pe_op op_uMul (pv 2) (pe_op (op_uAddK (K := K) rfl) (pe_op op_fdiv (pv 2) pe_int) pe_int)) (pv 1)) pe_int)))), ?_⟩
  walk_at "start"
  refine w_mulI (.inl ?_) ?_
  · have h1 := Int.emod_nonneg (n * 48271 + k * 69621 + 12345) (b := 2147483647) (by decide)
    have h2 := Int.emod_lt_of_pos (n * 48271 + k * 69621 + 12345) (b := 2147483647) (by decide)
    omega
  walk_at "go"
  exact q _ _ _ _ j (Same.refl G) ⟨rfl, rfl⟩
/-! ### _law_draw -/
abbrev s_law_draw : Stmt := top 32
abbrev n_law_draw : List Str := ["draws", "at", "first"]
theorem sc_law_draw : FnScope n_law_draw ["draws"] (defScope s_law_draw) := ⟨rfl, rfl, rfl, by decide +kernel, rfl, by decide +kernel, by decide +kernel⟩
/-- the law's draws: a list of the numbers and of the place -/
def Dr (K : PySem.W.Frag) (M G : Hp) (p : Addr) : Prop :=
  ∃ (q : Addr) (ns : List Int) (at_ : Int), M p = some (.lst [.ref q, .int at_]) ∧ SqL K G q (ns.map V.int) ∧ (∀ n ∈ ns, 0 ≤ n ∧ n < 1000000) ∧ 0 ≤ at_
theorem Dr.ex {K : PySem.W.Frag} {M G G' : Hp} {p : Addr} (d : Dr K M G p) (e : Ex G G') : Dr K M G' p := by
  obtain ⟨q, ns, at_, h1, h2, h3⟩ := d
  exact ⟨q, ns, at_, h1, sl_mono e h2, h3⟩
theorem Dr.upd {K : PySem.W.Frag} {M G : Hp} {p d : Addr} {o : HO} (h : Dr K M G p) (e : d ≠ p) : Dr K (upd M d o) G p := by
  obtain ⟨q, ns, at_, h1, h2, h3⟩ := h
  exact ⟨q, ns, at_, upd_ne' h1 e.symm, h2, h3⟩
theorem Dr.del {K : PySem.W.Frag} {M G : Hp} {p d : Addr} (h : Dr K M G p) (e : d ≠ p) : Dr K (del M d) G p := by
  obtain ⟨q, ns, at_, h1, h2, h3⟩ := h
  exact ⟨q, ns, at_, (del_ne e.symm).trans h1, h2, h3⟩
theorem Dr.ne {K : PySem.W.Frag} {M G : Hp} {p d : Addr} (h : Dr K M G p) (e : M d = none) : d ≠ p := by
  obtain ⟨q, ns, at_, h1, h2, h3⟩ := h
  exact (ne_of_none h1 e).symm
theorem Dr.at9 {K : PySem.W.Frag} {M G : Hp} {p : Addr} (h : Dr K M G p) : ∃ xs, M p = some (.lst xs) := by
  obtain ⟨q, ns, at_, h1, _⟩ := h
  exact ⟨_, h1⟩
theorem Dr.mv9 {K : PySem.W.Frag} {M M' G : Hp} {p : Addr} (h : Dr K M G p) (e : M' p = M p) : Dr K M' G p := by
  obtain ⟨q, ns, at_, h1, h2⟩ := h
  exact ⟨q, ns, at_, e.trans h1, h2⟩
def sp_law_draw (K : PySem.W.Frag) : Sp := Sg (α := Addr) (fun p vs M G => vs = [.ref p] ∧ Dr K M G p)
  (fun p M _ v M' G' => ∃ n : Int, v = .int n ∧ 0 ≤ n ∧ n < 1000000 ∧ Dr K M' G' p ∧ Ag p M M')
theorem atI_map {ns : List Int} {i : Int} (h0 : 0 ≤ i) (h1 : i < ns.length) : ∃ n, n ∈ ns ∧ atI (ns.map V.int) i = some (.int n) := by
  obtain ⟨k, rfl⟩ : ∃ k : Nat, i = k := ⟨i.toNat, by omega⟩
  have hk : k < ns.length := by omega
  refine ⟨ns[k], List.getElem_mem hk, atI_nat ?_⟩
  rw [List.getElem?_map, List.getElem?_eq_getElem hk]; rfl
theorem use_draw {K : PySem.W.Frag} {M G H : Hp} {p : Addr} {Q : VK} {E : XK} (j : J M G H) (d : Dr K M G p)
    (k : ∀ (n : Int) (M' G' H' : Hp), 0 ≤ n → n < 1000000 → J M' G' H' → Ex G G' → Dr K M' G' p → Ag p M M' → Q (.int n) H') : sp_law_draw K ([.ref p] ++ []) H Q E :=
  w_sg p j ⟨rfl, d⟩ fun v M' G' H' j' e ⟨n, ev, h0, h1, d', ag⟩ => by subst ev; exact k n M' G' H' h0 h1 j' e d' ag
/-- what a def that draws promises: a value of which Pv holds -/
def Dg (K : PySem.W.Frag) (Pv : V → Hp → Prop) : Sp := Sg (α := Addr) (fun p vs M G => vs = [.ref p] ∧ Dr K M G p) (fun p M _ v M' G' => Pv v G' ∧ Dr K M' G' p ∧ Ag p M M')
theorem use_dg {K : PySem.W.Frag} {M G H : Hp} {p : Addr} {Q : VK} {E : XK} {Pv : V → Hp → Prop} (j : J M G H) (d : Dr K M G p)
    (k : ∀ (v : V) (M' G' H' : Hp), Pv v G' → J M' G' H' → Ex G G' → Dr K M' G' p → Ag p M M' → Q v H') : Dg K Pv ([.ref p] ++ []) H Q E :=
  w_sg p j ⟨rfl, d⟩ fun v M' G' H' j' e ⟨h, d', ag⟩ => k v M' G' H' h j' e d' ag
/-- .. with the law's keys -/
def KeysAt (K : PySem.W.Frag) (G : Hp) (t : Addr) (ks : List Int) : Prop := SqL K G t (ks.map V.int) ∧ (∀ k ∈ ks, 0 ≤ k ∧ k < 1000) ∧ 3 ≤ ks.length ∧ ks.length ≤ 15
theorem KeysAt.ex {K : PySem.W.Frag} {G G' : Hp} {t : Addr} {ks : List Int} (h : KeysAt K G t ks) (e : Ex G G') : KeysAt K G' t ks := ⟨sl_mono e h.1, h.2⟩
def Dk (K : PySem.W.Frag) (Pv : V → Hp → Prop) : Sp := Sg (α := Addr × Addr × List Int) (fun a vs M G => vs = [.ref a.1, .ref a.2.1] ∧ Dr K M G a.1 ∧ KeysAt K G a.2.1 a.2.2) (fun a M _ v M' G' => Pv v G' ∧ Dr K M' G' a.1 ∧ Ag a.1 M M')
theorem use_dk {K : PySem.W.Frag} {M G H : Hp} {p t : Addr} {ks : List Int} {Q : VK} {E : XK} {Pv : V → Hp → Prop} (j : J M G H) (d : Dr K M G p) (hk : KeysAt K G t ks)
    (k : ∀ (v : V) (M' G' H' : Hp), Pv v G' → J M' G' H' → Ex G G' → Dr K M' G' p → Ag p M M' → Q v H') : Dk K Pv ([.ref p, .ref t] ++ []) H Q E :=
  w_sg (p, t, ks) j ⟨rfl, d, hk⟩ fun v M' G' H' j' e ⟨h, d', ag⟩ => k v M' G' H' h j' e d' ag
theorem ok_law_draw {P : Program} {w : World} {K : PySem.W.Frag} {mg : Str → Option Value} {base : Heap}
    {f : Addr} {fd : FuncData} (D : Dn K mg "_law_draw" s_law_draw ["draws"] f fd)
    (b_len : mg "len" = none)
    (c_law_mixed : Cal P w K mg base CX0 1 "_law_mixed" (sp_law_mixed K)) : Cal P w K mg base CX0 2 "_law_draw" (sp_law_draw K) := by
  refine D.ok sc_law_draw (fun vs H Q E h => ?_) fun cdv A outer s H vs Q E hr h => ?_
  · obtain ⟨p, M, G, j, ⟨rfl, _⟩, _⟩ := h; rfl
  obtain ⟨p, M, G, j, ⟨rfl, q, ns, at_, hp, hq, hn, h0⟩, k⟩ := h
  refine ⟨_, (pss_cons (ps_set (i := 1) sc_law_draw.nd rfl (Or.inl rfl) (pe_ix (ix_uK (K := K) rfl) (pv 0) pe_int (fun _ _ => rfl)))
(pss_cons (ps_asg (pe_op (op_uAddK (K := K) rfl) (pv 1) pe_int) (pg_sub (pv 0) pe_int set_list))
(pss_cons (ps_if (pt_cmpR op_lt (pv 1) (pe_callB (call_uLenK (K := K) rfl) (by rfl) b_len PySem.boot_len (pa_cons (pe_ix (ix_uK (K := K) rfl) (pv 0) pe_int (fun _ _ => rfl)) pa_nil)) (nomark _))
(pss_one (ps_ret (pe_ix (ix_uK (K := K) rfl) (pe_ix (ix_uK (K := K) rfl) (pv 0) pe_int (fun _ _ => rfl)) (pv 1) (fun _ _ => rfl))))
pss_nil)
(pss_cons (ps_set (i := 2) sc_law_draw.nd rfl (Or.inl rfl) (pe_op (op_uAddK (K := K) rfl) pe_int (pv 1)))
(pss_cons (ps_if (pt_cmpR op_gt (pe_callB (call_uLenK (K := K) rfl) (by rfl) b_len PySem.boot_len (pa_cons (pe_ix (ix_uK (K := K) rfl) (pv 0) pe_int (fun _ _ => rfl)) pa_nil)) pe_int (nomark _))
(pss_one (ps_set (i := 2) sc_law_draw.nd rfl (Or.inl rfl) (pe_op (op_uAddK (K := K) rfl) (pv 2) (pe_op op_uMul pe_int (pe_ix (ix_uK (K := K) rfl) (pe_ix (ix_uK (K := K) rfl) (pv 0) pe_int (fun _ _ => rfl)) pe_int (fun _ _ => rfl))))))
pss_nil)
(pss_one (ps_ret (pe_op op_mod (pe_cal c_law_mixed hr (by first | decide | omega) (by rfl) (pa_cons (pe_cal c_law_mixed hr (by first | decide | omega) (by rfl) (pa_cons (pv 2) (pa_cons (pv 1) pa_nil))) (pa_cons pe_int pa_nil))) pe_int)))))))), ?_⟩
  walk_at "start"
  refine w_ixM j hp (by rfl) ?_
  walk_at "go"
  refine w_setM j hp (by rfl) fun H1 j1 => ?_
  walk_at "go"
  refine w_ixM j1 upd_same (by rfl) ?_
  walk_at "go"
  refine w_lenL j1 hq ?_
  walk_at "go"
  have dr : Dr K (upd M p (.lst [.ref q, .int (at_ + 1)])) G p := ⟨q, ns, _, upd_same, hq, hn, by omega⟩
  refine w_dec (fun hlt => ?_) (fun hlt => ?_)
  · walk_at "go"
    refine w_ixM j1 upd_same (by rfl) ?_
    walk_at "go"
    rw [List.length_map] at hlt
    obtain ⟨n, hm, e⟩ := atI_map h0 hlt
    refine w_ixL j1 hq e ?_
    exact k _ _ _ _ j1 (Same.refl G) ⟨n, rfl, (hn n hm).1, (hn n hm).2, dr, Ag.upd⟩
  · walk_at "go"
    refine w_ixM j1 upd_same (by rfl) ?_
    walk_at "go"
    refine w_lenL j1 hq ?_
    walk_at "go"
    refine w_dec (fun hl => ?_) (fun hl => ?_)
    · walk_at "go"
      refine w_ixM j1 upd_same (by rfl) ?_
      walk_at "go"
      rw [List.length_map] at hl
      obtain ⟨n, hm, e⟩ := atI_map (ns := ns) (i := 0) (by omega) hl
      refine w_ixL j1 hq e ?_
      walk_at "go"
      refine w_sg (_, _) j1 rfl fun v M' G' H' j2 e2 ⟨ev, em⟩ => ?_
      subst ev em
      walk_at "go"
      refine w_sg (_, _) j2 rfl fun v M' G' H' j3 e3 ⟨ev, em⟩ => ?_
      subst ev em
      walk_at "go"
      exact k _ _ _ _ j3 (e2.trans e3) ⟨_, rfl, Int.emod_nonneg _ (by decide), Int.emod_lt_of_pos _ (by decide), dr.ex (e2.trans e3), Ag.upd⟩
    · walk_at "go"
      refine w_sg (_, _) j1 rfl fun v M' G' H' j2 e2 ⟨ev, em⟩ => ?_
      subst ev em
      walk_at "go"
      refine w_sg (_, _) j2 rfl fun v M' G' H' j3 e3 ⟨ev, em⟩ => ?_
      subst ev em
      walk_at "go"
      exact k _ _ _ _ j3 (e2.trans e3) ⟨_, rfl, Int.emod_nonneg _ (by decide), Int.emod_lt_of_pos _ (by decide), dr.ex (e2.trans e3), Ag.upd⟩
/-! ### keys, values -/
def IsVal (n : Int) : Prop := -1000000000000000000 ≤ n ∧ n ≤ 1000000000000000000
instance (n : Int) : Decidable (IsVal n) := inferInstanceAs (Decidable (_ ∧ _))
def IsKey (n : Int) : Prop := 0 ≤ n ∧ n < 1000
def ov : Option Int → V
  | none => .non
  | some n => .int n
def OkV : Option Int → Prop
  | none => True
  | some n => IsVal n
/-! ### tables of values -/
def look (kv : List (Int × Int)) (k : Int) : Option Int := (kv.find? fun p => decide (p.1 = k)).map (·.2)
def putI (kv : List (Int × Int)) (k v : Int) : List (Int × Int) := if (look kv k).isSome then kv.map (fun p => if p.1 = k then (p.1, v) else p) else kv ++ [(k, v)]
def dropI (kv : List (Int × Int)) (k : Int) : List (Int × Int) := kv.filter fun p => decide (p.1 ≠ k)
def tk (kv : List (Int × Int)) : List (Key × V) := kv.map fun p => ((Sum.inl p.1 : Key), V.int p.2)
theorem look_nil (k : Int) : look [] k = none := rfl
theorem look_cons (p : Int × Int) (r : List (Int × Int)) (k : Int) : look (p :: r) k = if p.1 = k then some p.2 else look r k := by
  unfold look; rw [List.find?_cons]
  by_cases h : p.1 = k
  · rw [decide_eq_true h, if_pos h]; rfl
  · rw [decide_eq_false h, if_neg h]
theorem tk_look : ∀ (kv : List (Int × Int)) (k : Int), valV (tk kv) (.inl k) = (look kv k).map V.int
  | [], k => rfl
  | p :: r, k => by
    show valV (((Sum.inl p.1 : Key), V.int p.2) :: tk r) (.inl k) = _
    rw [look_cons]
    by_cases h : p.1 = k
    · rw [valV_pos (by rw [h]), if_pos h]; rfl
    · rw [valV_neg (fun z => h (Sum.inl.inj z)), if_neg h]; exact tk_look r k
theorem tk_put (kv : List (Int × Int)) (k v : Int) : putK (tk kv) (.inl k) (.int v) = tk (putI kv k v) := by
  have ha : ((tk kv).any fun kv => decide (kv.1 = (Sum.inl k : Key))) = (look kv k).isSome := by rw [valV_any, tk_look]; cases look kv k <;> rfl
  unfold putK putI
  rw [ha]
  cases look kv k with
  | none => show tk kv ++ _ = tk (kv ++ [(k, v)]); unfold tk; rw [List.map_append]; rfl
  | some x =>
    show (tk kv).map _ = tk (kv.map _)
    unfold tk
    rw [List.map_map, List.map_map]
    refine List.map_congr_left fun p _ => ?_
    show (if (Sum.inl p.1 : Key) = Sum.inl k then ((Sum.inl p.1 : Key), V.int v) else ((Sum.inl p.1 : Key), V.int p.2)) = (((Sum.inl (if p.1 = k then (p.1, v) else p).1 : Key)), V.int (if p.1 = k then (p.1, v) else p).2)
    by_cases h : p.1 = k
    · rw [if_pos (by rw [h]), if_pos h]
    · rw [if_neg (fun z => h (Sum.inl.inj z)), if_neg h]
theorem tk_drop : ∀ (kv : List (Int × Int)) (k : Int), dropK (tk kv) (.inl k) = tk (dropI kv k)
  | [], k => rfl
  | p :: r, k => by
    show dropK (((Sum.inl p.1 : Key), V.int p.2) :: tk r) (.inl k) = _
    unfold dropI
    rw [List.filter_cons]
    by_cases h : p.1 = k
    · rw [dropK_pos (by rw [h]), if_neg (by simp [h])]; exact tk_drop r k
    · rw [dropK_neg (fun z => h (Sum.inl.inj z)), if_pos (by simp [h])]
      show _ = ((Sum.inl p.1 : Key), V.int p.2) :: tk (dropI r k)
      rw [tk_drop r k]
theorem tk_len (kv : List (Int × Int)) : (tk kv).length = kv.length := List.length_map _
theorem tk_keys (kv : List (Int × Int)) : (tk kv).map (·.1) = (kv.map (·.1)).map Sum.inl := by unfold tk; rw [List.map_map, List.map_map]; rfl
theorem look_mem : ∀ {kv : List (Int × Int)} {k v : Int}, look kv k = some v → (k, v) ∈ kv
  | [], k, v, h => by cases h
  | p :: r, k, v, h => by
    rw [look_cons] at h
    by_cases e : p.1 = k
    · rw [if_pos e] at h
      have : p = (k, v) := by rw [← e, ← Option.some.inj h]
      rw [this]; exact List.mem_cons_self
    · rw [if_neg e] at h; exact List.mem_cons_of_mem _ (look_mem h)
theorem look_none : ∀ {kv : List (Int × Int)} {k : Int}, look kv k = none ↔ k ∉ kv.map (·.1)
  | [], k => by simp [look]
  | p :: r, k => by
    rw [look_cons, List.map_cons, List.mem_cons]
    by_cases e : p.1 = k
    · rw [if_pos e]; simp [e]
    · rw [if_neg e, look_none]
      constructor
      · intro h z; rcases z with z | z
        · exact e z.symm
        · exact h z
      · intro h z; exact h (.inr z)
theorem mem_look : ∀ {kv : List (Int × Int)} {k v : Int}, (kv.map (·.1)).Nodup → (k, v) ∈ kv → look kv k = some v
  | [], k, v, _, h => by cases h
  | p :: r, k, v, hn, h => by
    rw [List.map_cons, List.nodup_cons] at hn
    rw [look_cons]
    rcases List.mem_cons.mp h with rfl | h
    · rw [if_pos rfl]
    · by_cases e : p.1 = k
      · exact absurd (by rw [e]; exact List.mem_map_of_mem (f := (·.1)) h) hn.1
      · rw [if_neg e]; exact mem_look hn.2 h
theorem put_keys_old {kv : List (Int × Int)} {k v : Int} (h : (look kv k).isSome = true) : (putI kv k v).map (·.1) = kv.map (·.1) := by
  unfold putI; rw [if_pos h, List.map_map]
  refine List.map_congr_left fun p _ => ?_
  show (if p.1 = k then (p.1, v) else p).1 = p.1
  by_cases e : p.1 = k
  · rw [if_pos e]
  · rw [if_neg e]
theorem put_new {kv : List (Int × Int)} {k v : Int} (h : look kv k = none) : putI kv k v = kv ++ [(k, v)] := by unfold putI; rw [h]; rfl
theorem look_map (k v j : Int) : ∀ kv : List (Int × Int), look (kv.map fun p => if p.1 = k then (p.1, v) else p) j = (look kv j).map fun x => if j = k then v else x
  | [] => rfl
  | p :: r => by
    rw [List.map_cons, look_cons, look_cons]
    by_cases e : p.1 = k
    · rw [if_pos e]
      by_cases f : p.1 = j
      · rw [if_pos f, if_pos f]; show some v = some (if j = k then v else p.2); rw [if_pos (f.symm.trans e)]
      · rw [if_neg f, if_neg f]; exact look_map k v j r
    · rw [if_neg e]
      by_cases f : p.1 = j
      · rw [if_pos f, if_pos f]; show some p.2 = some (if j = k then v else p.2); rw [if_neg (fun z => e (f.trans z))]
      · rw [if_neg f, if_neg f]; exact look_map k v j r
theorem look_snoc (k v j : Int) : ∀ kv : List (Int × Int), look (kv ++ [(k, v)]) j = (look kv j).or (if k = j then some v else none)
  | [] => by rw [List.nil_append, look_cons]; rfl
  | p :: r => by
    rw [List.cons_append, look_cons, look_cons]
    by_cases f : p.1 = j
    · rw [if_pos f, if_pos f]; rfl
    · rw [if_neg f, if_neg f]; exact look_snoc k v j r
theorem look_put (kv : List (Int × Int)) (k v j : Int) : look (putI kv k v) j = if j = k then some v else look kv j := by
  cases h : look kv k with
  | some x =>
    unfold putI; rw [h, if_pos (show (some x).isSome = true from rfl), look_map]
    by_cases e : j = k
    · subst e; rw [h, if_pos rfl]; show some (if j = j then v else x) = _; rw [if_pos rfl]
    · rw [if_neg e]; cases look kv j with
      | none => rfl
      | some y => show some (if j = k then v else y) = _; rw [if_neg e]
  | none =>
    rw [put_new h, look_snoc]
    by_cases e : j = k
    · subst e; rw [h, if_pos rfl]; rfl
    · rw [if_neg (fun z => e z.symm), if_neg e]; cases look kv j <;> rfl
theorem look_drop (k j : Int) : ∀ kv : List (Int × Int), look (dropI kv k) j = if j = k then none else look kv j
  | [] => by rw [show dropI [] k = [] from rfl, look_nil]; split <;> rfl
  | p :: r => by
    unfold dropI
    rw [List.filter_cons]
    by_cases e : p.1 = k
    · rw [if_neg (by simp [e])]
      show look (dropI r k) j = _
      rw [look_drop k j r, look_cons]
      by_cases f : j = k
      · rw [if_pos f, if_pos f]
      · rw [if_neg f, if_neg f, if_neg (fun z => f (z.symm.trans e))]
    · rw [if_pos (by simp [e]), look_cons]
      show (if p.1 = j then some p.2 else look (dropI r k) j) = _
      rw [look_drop k j r, look_cons]
      by_cases f : p.1 = j
      · rw [if_pos f, if_pos f, if_neg (fun z => e (f.trans z))]
      · rw [if_neg f, if_neg f]
/-- keys once, keys and values within their bounds, not too many -/
structure TabOk (kv : List (Int × Int)) (n : Nat) : Prop where
  nd : (kv.map (·.1)).Nodup
  ok : ∀ p ∈ kv, IsKey p.1 ∧ IsVal p.2
  len : kv.length ≤ n
theorem TabOk.nil : TabOk [] 0 := ⟨List.nodup_nil, fun p h => (by cases h), Nat.le_refl _⟩
theorem TabOk.mono {kv : List (Int × Int)} {n m : Nat} (h : TabOk kv n) (e : n ≤ m) : TabOk kv m := ⟨h.nd, h.ok, Nat.le_trans h.len e⟩
theorem put_len (kv : List (Int × Int)) (k v : Int) : (putI kv k v).length ≤ kv.length + 1 := by
  unfold putI; split
  · rw [List.length_map]; omega
  · rw [List.length_append]; exact Nat.le_refl _
theorem TabOk.put {kv : List (Int × Int)} {n : Nat} {k v : Int} (h : TabOk kv n) (hk : IsKey k) (hv : IsVal v) : TabOk (putI kv k v) (n + 1) := by
  refine ⟨?_, ?_, Nat.le_trans (put_len kv k v) (Nat.succ_le_succ h.len)⟩
  · cases e : look kv k with
    | some x => rw [put_keys_old (by rw [e]; rfl)]; exact h.nd
    | none =>
      rw [put_new e, List.map_append]
      exact nd_snoc h.nd (look_none.mp e)
  · intro p hp
    unfold putI at hp
    split at hp
    · obtain ⟨q, hq, e⟩ := List.mem_map.mp hp
      have := h.ok q hq
      by_cases c : q.1 = k
      · rw [if_pos c] at e; rw [← e]; exact ⟨this.1, hv⟩
      · rw [if_neg c] at e; rw [← e]; exact this
    · rcases List.mem_append.mp hp with hp | hp
      · exact h.ok p hp
      · rw [List.mem_singleton.mp hp]; exact ⟨hk, hv⟩
theorem TabOk.drop {kv : List (Int × Int)} {n : Nat} {k : Int} (h : TabOk kv n) : TabOk (dropI kv k) n := by
  refine ⟨?_, fun p hp => h.ok p (List.mem_filter.mp hp).1, Nat.le_trans (List.length_filter_le _ _) h.len⟩
  have hs : ((dropI kv k).map (·.1)).Sublist (kv.map (·.1)) := (List.filter_sublist (l := kv)).map _
  exact hs.nodup h.nd
/-- a table as a function -/
abbrev Fn := Int → Option Int
def Rep (kv : List (Int × Int)) (m : Fn) : Prop := ∀ k, look kv k = m k
def setM (m : Fn) (k : Int) (v : Option Int) : Fn := fun j => if j = k then v else m j
theorem Rep.put {kv : List (Int × Int)} {m : Fn} {k v : Int} (h : Rep kv m) : Rep (putI kv k v) (setM m k (some v)) := fun j => by rw [look_put, h j]; rfl
theorem Rep.drop {kv : List (Int × Int)} {m : Fn} {k : Int} (h : Rep kv m) : Rep (dropI kv k) (setM m k none) := fun j => by rw [look_drop, h j]; rfl
/-- the keys of a table, within borders, ascending, with their values -/
def scanM (m : Fn) (lo hi : Int) : List (Int × Int) := (List.range 1000).filterMap fun (i : Nat) => if lo ≤ (i : Int) ∧ (i : Int) < hi then (m i).map fun v => ((i : Int), v) else none
theorem scan_mem {m : Fn} {lo hi : Int} {p : Int × Int} : p ∈ scanM m lo hi ↔ 0 ≤ p.1 ∧ p.1 < 1000 ∧ lo ≤ p.1 ∧ p.1 < hi ∧ m p.1 = some p.2 := by
  unfold scanM
  rw [List.mem_filterMap]
  constructor
  · rintro ⟨i, hi', e⟩
    rw [List.mem_range] at hi'
    split at e
    · rename_i hb
      cases hm : m i with
      | none => rw [hm] at e; cases e
      | some v =>
        rw [hm] at e
        have e := Option.some.inj e
        subst e
        exact ⟨by show (0 : Int) ≤ (i : Int); omega, by show (i : Int) < 1000; omega, hb.1, hb.2, hm⟩
    · cases e
  · rintro ⟨h0, h1, h2, h3, h4⟩
    refine ⟨p.1.toNat, by rw [List.mem_range]; omega, ?_⟩
    have e : ((p.1.toNat : Nat) : Int) = p.1 := by omega
    rw [e, if_pos ⟨h2, h3⟩, h4]; rfl
theorem scan_sorted (m : Fn) (lo hi : Int) : (scanM m lo hi).Pairwise fun p q => p.1 < q.1 := by
  unfold scanM
  rw [List.pairwise_filterMap]
  refine List.Pairwise.imp (R := fun a b => a < b) ?_ List.pairwise_lt_range
  intro a b h x hx y hy
  split at hx
  · split at hy
    · cases ha : m a with
      | none => rw [ha] at hx; cases hx
      | some u =>
        cases hb : m b with
        | none => rw [hb] at hy; cases hy
        | some v =>
          rw [ha] at hx; rw [hb] at hy
          cases hx; cases hy
          show (a : Int) < b; omega
    · cases hy
  · cases hx
/-- two ascending lists with the same members are one -/
theorem asc_unique : ∀ {xs ys : List (Int × Int)}, xs.Pairwise (fun p q => p.1 < q.1) → ys.Pairwise (fun p q => p.1 < q.1) → (∀ p, p ∈ xs ↔ p ∈ ys) → xs = ys
  | [], [], _, _, _ => rfl
  | [], y :: ys, _, _, h => by have := (h y).mpr List.mem_cons_self; cases this
  | x :: xs, [], _, _, h => by have := (h x).mp List.mem_cons_self; cases this
  | x :: xs, y :: ys, hx, hy, h => by
    rw [List.pairwise_cons] at hx hy
    have e : x = y := by
      rcases List.mem_cons.mp ((h x).mp List.mem_cons_self) with e | m1
      · exact e
      · rcases List.mem_cons.mp ((h y).mpr List.mem_cons_self) with e | m2
        · exact e.symm
        · have := hy.1 x m1; have := hx.1 y m2; omega
    subst e
    congr 1
    refine asc_unique hx.2 hy.2 fun p => ?_
    constructor
    · intro hp
      rcases List.mem_cons.mp ((h p).mp (List.mem_cons_of_mem _ hp)) with e | q
      · have := hx.1 p hp; rw [e] at this; omega
      · exact q
    · intro hp
      rcases List.mem_cons.mp ((h p).mpr (List.mem_cons_of_mem _ hp)) with e | q
      · have := hy.1 p hp; rw [e] at this; omega
      · exact q
/-- the rows that a comprehension over the sorted keys gives -/
def rowsOf (kv : List (Int × Int)) (ys : List Int) (lo hi : Int) : List (Int × Int) := ys.filterMap fun k => if lo ≤ k ∧ k < hi then (look kv k).map fun v => (k, v) else none
theorem rows_eq {kv : List (Int × Int)} {m : Fn} {n : Nat} {ys : List Int} {lo hi : Int} (h : TabOk kv n) (r : Rep kv m) (hp : ys.Perm (kv.map (·.1))) (hs : ys.Pairwise (· ≤ ·)) : rowsOf kv ys lo hi = scanM m lo hi := by
  have hnd : ys.Nodup := hp.nodup_iff.mpr h.nd
  have hlt : ys.Pairwise (· < ·) := by
    refine List.Pairwise.imp₂ (R := fun a b => a ≤ b) (S := fun a b => a ≠ b) (fun a b h1 h2 => by omega) hs hnd
  refine asc_unique ?_ (scan_sorted m lo hi) fun p => ?_
  · unfold rowsOf
    rw [List.pairwise_filterMap]
    refine List.Pairwise.imp (R := fun a b => a < b) ?_ hlt
    intro a b h x hx y hy
    split at hx
    · split at hy
      · cases ha : look kv a with
        | none => rw [ha] at hx; cases hx
        | some u =>
          cases hb : look kv b with
          | none => rw [hb] at hy; cases hy
          | some v =>
            rw [ha] at hx; rw [hb] at hy
            cases hx; cases hy
            exact h
      · cases hy
    · cases hx
  · rw [scan_mem]
    unfold rowsOf
    rw [List.mem_filterMap]
    constructor
    · rintro ⟨k, hk, e⟩
      split at e
      · rename_i hb
        cases hm : look kv k with
        | none => rw [hm] at e; cases e
        | some v =>
          rw [hm] at e
          have e := Option.some.inj e
          subst e
          have hk2 := (h.ok _ (look_mem hm)).1
          exact ⟨hk2.1, hk2.2, hb.1, hb.2, by rw [← r k]; exact hm⟩
      · cases e
    · rintro ⟨h0, h1, h2, h3, h4⟩
      have hl : look kv p.1 = some p.2 := by rw [r]; exact h4
      refine ⟨p.1, hp.mem_iff.mpr (List.mem_map_of_mem (f := (·.1)) (look_mem hl)), ?_⟩
      rw [if_pos ⟨h2, h3⟩, hl]; rfl
theorem scal_ov (x y : Option Int) : scal (ov x) (ov y) = true := by cases x <;> cases y <;> rfl
theorem dec_ov (x y : Option Int) : decide (ov x = ov y) = decide (x = y) := by
  refine decide_eq_decide.mpr ⟨fun h => ?_, fun h => h ▸ rfl⟩
  cases x <;> cases y
  · rfl
  · cases h
  · cases h
  · exact congrArg some (V.int.inj h)
theorem ov_get (o : Option Int) : (o.map V.int).getD .non = ov o := by cases o <;> rfl
/-- an operation -/
inductive Op where
  | get (k : Int) | put (k : Int) (v : Option Int) | add (k a : Int) | need (k : Int) (v : Option Int) | scan (lo hi : Int)
def opV : Op → List V
  | .get k => [.str "get", .int k]
  | .put k v => [.str "put", .int k, ov v]
  | .add k a => [.str "add", .int k, .int a]
  | .need k v => [.str "need", .int k, ov v]
  | .scan lo hi => [.str "scan", .int lo, .int hi]
def OkOp : Op → Prop
  | .get k => IsKey k
  | .put k v => IsKey k ∧ OkV v
  | .add k a => IsKey k ∧ IsVal a
  | .need k v => IsKey k ∧ OkV v
  | .scan lo hi => 0 ≤ lo ∧ lo ≤ hi ∧ hi ≤ 1000
def OpAt (G : Hp) (t : Addr) (op : Op) : Prop := G t = some (.tup (opV op)) ∧ OkOp op
theorem OpAt.ex {G G' : Hp} {t : Addr} {op : Op} (h : OpAt G t op) (e : Ex G G') : OpAt G' t op := ⟨e _ _ h.1, h.2⟩
/-- a list of operations -/
def OpsAt (G : Hp) (as : List Addr) (ops : List Op) : Prop := as.length = ops.length ∧ ∀ (i : Nat) (a : Addr) (op : Op), as[i]? = some a → ops[i]? = some op → OpAt G a op
theorem OpsAt.ex {G G' : Hp} {as : List Addr} {ops : List Op} (h : OpsAt G as ops) (e : Ex G G') : OpsAt G' as ops := ⟨h.1, fun i a op h1 h2 => (h.2 i a op h1 h2).ex e⟩
theorem OpsAt.nil {G : Hp} : OpsAt G [] [] := ⟨rfl, fun i a op h => by simp at h⟩
theorem snoc_get {α : Type} {xs : List α} {x y : α} {i : Nat} (h : (xs ++ [x])[i]? = some y) : (i < xs.length ∧ xs[i]? = some y) ∨ (i = xs.length ∧ x = y) := by
  by_cases hi : i < xs.length
  · rw [List.getElem?_append_left hi] at h; exact .inl ⟨hi, h⟩
  · rw [List.getElem?_append_right (by omega)] at h
    have hj : i - xs.length = 0 := by
      cases hk : i - xs.length with
      | zero => rfl
      | succ m => rw [hk] at h; simp at h
    rw [hj] at h
    exact .inr ⟨by omega, Option.some.inj h⟩
theorem OpsAt.snoc {G : Hp} {as : List Addr} {ops : List Op} {a : Addr} {op : Op} (h : OpsAt G as ops) (o : OpAt G a op) : OpsAt G (as ++ [a]) (ops ++ [op]) := by
  refine ⟨by rw [List.length_append, List.length_append, h.1]; rfl, fun i b q h1 h2 => ?_⟩
  rcases snoc_get h1 with ⟨hi, h1⟩ | ⟨hi, rfl⟩
  · rcases snoc_get h2 with ⟨_, h2⟩ | ⟨hj, _⟩
    · exact h.2 i b q h1 h2
    · have := h.1; omega
  · rcases snoc_get h2 with ⟨hj, _⟩ | ⟨_, rfl⟩
    · have := h.1; omega
    · exact o
theorem OpsAt.get {G : Hp} {as : List Addr} {ops : List Op} {i : Nat} {x : V} (h : OpsAt G as ops) (hx : (as.map V.ref)[i]? = some x) : ∃ a op, x = .ref a ∧ as[i]? = some a ∧ ops[i]? = some op ∧ OpAt G a op := by
  rw [List.getElem?_map] at hx
  cases e : as[i]? with
  | none => rw [e] at hx; cases hx
  | some a =>
    rw [e] at hx
    have hi : i < ops.length := by rw [← h.1]; exact (List.getElem?_eq_some_iff.mp e).1
    exact ⟨a, ops[i], (Option.some.inj hx).symm, rfl, List.getElem?_eq_getElem hi, h.2 i a _ e (List.getElem?_eq_getElem hi)⟩
theorem ref_snoc (as : List Addr) (a : Addr) : as.map V.ref ++ [V.ref a] = (as ++ [a]).map V.ref := by rw [List.map_append]; rfl
def IsDeal (G : Hp) (t : Addr) (as : List Addr) (ops : List Op) : Prop := G t = some (.lst (as.map V.ref)) ∧ OpsAt G as ops ∧ 1 ≤ ops.length ∧ ops.length ≤ 6
theorem IsDeal.ex {G G' : Hp} {t : Addr} {as : List Addr} {ops : List Op} (h : IsDeal G t as ops) (e : Ex G G') : IsDeal G' t as ops := ⟨e _ _ h.1, h.2.1.ex e, h.2.2⟩
/-! ### what deals mean -/
inductive Res where
  | non | int (n : Int) | rows (ps : List (Int × Int))
def rO : Option Int → Res
  | none => .non
  | some n => .int n
/-- the rows of a scan: a list of pairs -/
def RowsAt (G : Hp) (as : List Addr) (ps : List (Int × Int)) : Prop := as.length = ps.length ∧ ∀ (i : Nat) (a : Addr) (p : Int × Int), as[i]? = some a → ps[i]? = some p → G a = some (.tup [.int p.1, .int p.2])
theorem RowsAt.ex {G G' : Hp} {as : List Addr} {ps : List (Int × Int)} (h : RowsAt G as ps) (e : Ex G G') : RowsAt G' as ps := ⟨h.1, fun i a p h1 h2 => e _ _ (h.2 i a p h1 h2)⟩
theorem RowsAt.nil {G : Hp} : RowsAt G [] [] := ⟨rfl, fun i a op h => by simp at h⟩
theorem RowsAt.snoc {G : Hp} {as : List Addr} {ps : List (Int × Int)} {a : Addr} {p : Int × Int} (h : RowsAt G as ps) (o : G a = some (.tup [.int p.1, .int p.2])) : RowsAt G (as ++ [a]) (ps ++ [p]) := by
  refine ⟨by rw [List.length_append, List.length_append, h.1]; rfl, fun i b q h1 h2 => ?_⟩
  rcases snoc_get h1 with ⟨hi, h1⟩ | ⟨hi, rfl⟩
  · rcases snoc_get h2 with ⟨_, h2⟩ | ⟨hj, _⟩
    · exact h.2 i b q h1 h2
    · have := h.1; omega
  · rcases snoc_get h2 with ⟨hj, _⟩ | ⟨_, rfl⟩
    · have := h.1; omega
    · exact o
def ResAt (G : Hp) (v : V) : Res → Prop
  | .non => v = .non
  | .int n => v = .int n
  | .rows ps => ∃ t as, v = .ref t ∧ G t = some (.lst (as.map V.ref)) ∧ RowsAt G as ps
theorem ResAt.ex {G G' : Hp} {v : V} {r : Res} (h : ResAt G v r) (e : Ex G G') : ResAt G' v r := by
  cases r with
  | non => exact h
  | int n => exact h
  | rows ps => obtain ⟨t, as, h1, h2, h3⟩ := h; exact ⟨t, as, h1, e _ _ h2, h3.ex e⟩
theorem ResAt.o {G : Hp} (o : Option Int) : ResAt G (ov o) (rO o) := by cases o <;> rfl
def RessAt (G : Hp) (ws : List V) (rs : List Res) : Prop := ws.length = rs.length ∧ ∀ (i : Nat) (w : V) (r : Res), ws[i]? = some w → rs[i]? = some r → ResAt G w r
theorem RessAt.ex {G G' : Hp} {ws : List V} {rs : List Res} (h : RessAt G ws rs) (e : Ex G G') : RessAt G' ws rs := ⟨h.1, fun i w r h1 h2 => (h.2 i w r h1 h2).ex e⟩
theorem RessAt.nil {G : Hp} : RessAt G [] [] := ⟨rfl, fun i a op h => by simp at h⟩
theorem RessAt.snoc {G : Hp} {ws : List V} {rs : List Res} {w : V} {r : Res} (h : RessAt G ws rs) (o : ResAt G w r) : RessAt G (ws ++ [w]) (rs ++ [r]) := by
  refine ⟨by rw [List.length_append, List.length_append, h.1]; rfl, fun i b q h1 h2 => ?_⟩
  rcases snoc_get h1 with ⟨hi, h1⟩ | ⟨hi, rfl⟩
  · rcases snoc_get h2 with ⟨_, h2⟩ | ⟨hj, _⟩
    · exact h.2 i b q h1 h2
    · have := h.1; omega
  · rcases snoc_get h2 with ⟨hj, _⟩ | ⟨_, rfl⟩
    · have := h.1; omega
    · exact o
def failM (m : Fn) : Op → Bool
  | .add k a => !decide (IsVal ((m k).getD 0 + a))
  | .need k v => !decide (m k = v)
  | _ => false
def resM (m : Fn) : Op → Res
  | .get k => rO (m k)
  | .add k a => .int ((m k).getD 0 + a)
  | .scan lo hi => .rows (scanM m lo hi)
  | _ => .non
def postM (m : Fn) : Op → Fn
  | .put k v => setM m k v
  | .add k a => setM m k (some ((m k).getD 0 + a))
  | _ => m
def mAt (m : Fn) (ops : List Op) : Fn := ops.foldl postM m
def resL (m : Fn) : List Op → List Res
  | [] => []
  | op :: ops => resM m op :: resL (postM m op) ops
/-- how many operations are done -/
def cutM (m : Fn) : List Op → Nat
  | [] => 0
  | op :: ops => if failM m op = true then 0 else cutM (postM m op) ops + 1
theorem mAt_snoc (m : Fn) (ops : List Op) (op : Op) : mAt m (ops ++ [op]) = postM (mAt m ops) op := by unfold mAt; rw [List.foldl_append]; rfl
theorem resL_snoc : ∀ (m : Fn) (ops : List Op) (op : Op), resL m (ops ++ [op]) = resL m ops ++ [resM (mAt m ops) op]
  | m, [], op => rfl
  | m, o :: ops, op => by
    show resM m o :: resL (postM m o) (ops ++ [op]) = resM m o :: (resL (postM m o) ops ++ [resM (mAt (postM m o) ops) op])
    rw [resL_snoc]
theorem resL_len : ∀ (m : Fn) (ops : List Op), (resL m ops).length = ops.length
  | m, [] => rfl
  | m, o :: ops => by show (resL (postM m o) ops).length + 1 = ops.length + 1; rw [resL_len]
theorem take_snoc {α : Type} {xs : List α} {i : Nat} {x : α} (h : xs[i]? = some x) : xs.take (i + 1) = xs.take i ++ [x] := by
  rw [List.take_succ, h]; rfl
theorem cut_le : ∀ (m : Fn) (ops : List Op), cutM m ops ≤ ops.length
  | m, [] => Nat.le_refl _
  | m, o :: ops => by
    unfold cutM; split
    · exact Nat.zero_le _
    · exact Nat.succ_le_succ (cut_le (postM m o) ops)
theorem cut_at : ∀ {m : Fn} {ops : List Op} {i : Nat} {op : Op}, i ≤ cutM m ops → ops[i]? = some op → (failM (mAt m (ops.take i)) op = true → cutM m ops = i) ∧ (failM (mAt m (ops.take i)) op = false → i + 1 ≤ cutM m ops)
  | m, [], i, op, _, e => by simp at e
  | m, o :: ops, 0, op, h, e => by
    have e : o = op := Option.some.inj e
    subst e
    refine ⟨fun f => ?_, fun f => ?_⟩
    · show cutM m (o :: ops) = 0
      unfold cutM; rw [if_pos (show failM m o = true from f)]
    · unfold cutM; rw [if_neg (by rw [show failM m o = false from f]; decide)]; omega
  | m, o :: ops, i + 1, op, h, e => by
    have e : ops[i]? = some op := by simpa using e
    unfold cutM at h ⊢
    split at h
    · omega
    · rename_i hf
      rw [if_neg hf]
      have ih := cut_at (m := postM m o) (ops := ops) (i := i) (op := op) (by omega) e
      refine ⟨fun f => ?_, fun f => ?_⟩
      · rw [ih.1 f]
      · have := ih.2 f; omega
def outM (m : Fn) (ops : List Op) : Str := if cutM m ops = ops.length then "done" else "failed"
def endM (m : Fn) (ops : List Op) : Fn := if cutM m ops = ops.length then mAt m ops else m
def ressM (m : Fn) (ops : List Op) : List Res := resL m (ops.take (cutM m ops))
theorem rows_snoc {kv : List (Int × Int)} {ys : List Int} {i : Nat} {y lo hi : Int} (h : ys[i]? = some y) : rowsOf kv (ys.take (i + 1)) lo hi = rowsOf kv (ys.take i) lo hi ++ (if lo ≤ y ∧ y < hi then (look kv y).map fun v => (y, v) else none).toList := by
  rw [take_snoc h]; unfold rowsOf; rw [List.filterMap_append, List.filterMap_cons]
  split
  · rename_i e; rw [e]; rfl
  · rename_i b e; rw [e]; rfl
theorem rows_len {kv : List (Int × Int)} {ys : List Int} {lo hi : Int} : (rowsOf kv ys lo hi).length ≤ ys.length := List.length_filterMap_le _ _
/-- [(key, d[key]) for key in sorted(d) if op[1] <= key < op[2]] -/
theorem scan_lc {K : PySem.W.Frag} {M G H : Hp} {d a : Addr} {kv : List (Int × Int)} {lo hi : Int} {σ : L2.St} {s : Nat} {Q : VK} (j : J M G H) (tb : Hd M G d (tk kv)) (ho : G a = some (.tup (opV (.scan lo hi)))) (ok : TabOk kv 63)
    (s0 : ∀ x, ((wipe σ [s]).set s (some x))[0]? = some (some (.ref d))) (s1 : ∀ x, ((wipe σ [s]).set s (some x))[1]? = some (some (.ref a))) (s2 : ∀ x, ((wipe σ [s]).set s (some x))[s]? = some (some x)) (hw : ∀ x, wipe ((wipe σ [s]).set s (some x)) [s] = wipe σ [s])
    (k : ∀ t as G' H', J M G' H' → Ex G G' → G' t = some (.lst (as.map V.ref)) → RowsAt G' as (scanM (look kv) lo hi) → Q (.ref t) H') :
    SortD [V.ref d] H fun x H1 => LcL K (gName s) (tTest (tChain (rI0 fun i j => V.bl (decide (i ≤ j))) (rI0 fun i j => V.bl (decide (i < j))) (tOp (uIx K) (tVar 1) (tC (V.int 1))) (tVar s) (tOp (uIx K) (tVar 1) (tC (V.int 2)))))
      (tTup (tCons (tVar s) (tCons (tDGet (tVar 0) (tVar s)) tNil))) [s] σ x H1 Q := by
  refine w_sortD j tb (tk_keys kv) (by rw [List.length_map]; have := ok.len; omega) fun ys hp hs => ?_
  refine w_new j (Nat.zero_le _) fun q G1 H1 j1 e1 hq nq => ?_
  have hlen : ys.length ≤ 63 := by rw [hp.length_eq, List.length_map]; exact ok.len
  refine w_lcl j1 (fun L i acc M2 G2 => Ex G1 G2 ∧ Ag L M M2 ∧ M L = none ∧ ∃ as, acc = as.map V.ref ∧ RowsAt G2 as (rowsOf kv (ys.take i) lo hi)) (sl_of hq) ?_ (fun _ _ _ _ _ h => h.1) hw ?_ ?_
  · exact fun L h1 h2 => ⟨Same.refl _, Ag.upd, h1, [], rfl, .nil⟩
  · rintro L i x acc M2 G2 H2 R hxi j2 hL ⟨e2, a2, mL, as, rfl, hr⟩ hR
    obtain ⟨y, hy, rfl⟩ : ∃ y, ys[i]? = some y ∧ x = V.int y := by
      rw [List.getElem?_map] at hxi
      cases h : ys[i]? with
      | none => rw [h] at hxi; cases hxi
      | some y => rw [h] at hxi; exact ⟨y, rfl, (Option.some.inj hxi).symm⟩
    have hil : i < 63 := by have := (List.getElem?_eq_some_iff.mp hy).1; omega
    have hro := rows_snoc (kv := kv) (lo := lo) (hi := hi) hy
    have ho2 : G2 a = some (.tup (opV (.scan lo hi))) := e2 _ _ (e1 _ _ ho)
    have skip : ¬ (lo ≤ y ∧ y < hi) → SkipL L (as.map V.ref) (fun acc M2 G2 => Ex G1 G2 ∧ Ag L M M2 ∧ M L = none ∧ ∃ as, acc = as.map V.ref ∧ RowsAt G2 as (rowsOf kv (ys.take (i + 1)) lo hi)) H2 := fun hn =>
      ⟨M2, G2, j2, hL, e2, a2, mL, as, rfl, by rw [hro, if_neg hn]; show RowsAt G2 as (rowsOf kv (ys.take i) lo hi ++ []); rw [List.append_nil]; exact hr⟩
    refine w_test (w_chain (w_op (w_var (s1 _) (w_c (w_ixT j2 (st_of ho2) (by rfl) (w_var (s2 _) (w_I0 (w_bl (w_dec (fun h1 => ?_) fun h1 => ?_)))))))))
    · refine w_op (w_var (s1 _) (w_c (w_ixT j2 (st_of ho2) (by rfl) (w_I0 (w_bl (hR _ _ (w_dec (fun h2 => ?_) fun h2 => skip (fun z => h2 z.2))))))))
      have hk : y ∈ kv.map (·.1) := hp.mem_iff.mp (List.mem_of_getElem? hy)
      obtain ⟨v, hv⟩ : ∃ v, look kv y = some v := by
        cases h : look kv y with
        | none => exact absurd hk (look_none.mp h)
        | some v => exact ⟨v, rfl⟩
      have tb2 : Hd M2 G2 d (tk kv) := by
        rcases tb with tb | tb
        · exact .inl ((a2 d (ne_of_none tb mL)).trans tb)
        · exact .inr (rd_same (e1.trans e2) tb)
      refine w_tup (w_acons (w_var (s2 _) (w_acons (w_dget (w_var (s0 _) (w_var (s2 _) (w_getX j2 tb2 (v := .int v) (by rw [tk_look, hv]; rfl) (w_anil (w_new j2 (by show 2 ≤ sizeLine; decide) fun u G3 H3 j3 e3 hu nu => ?_)))))))))
      refine StepL.go (P := fun L i acc M2 G2 => Ex G1 G2 ∧ Ag L M M2 ∧ M L = none ∧ ∃ as, acc = as.map V.ref ∧ RowsAt G2 as (rowsOf kv (ys.take i) lo hi)) ⟨M2, G3, j3, hL, sz_lt (by rw [List.length_map, hr.1]; have := rows_len (kv := kv) (ys := ys.take i) (lo := lo) (hi := hi); rw [List.length_take] at this; omega), e2.trans e3, a2.trans Ag.upd, mL, as ++ [u], ref_snoc as u, ?_⟩
      rw [hro, if_pos ⟨h1, h2⟩, hv]
      exact (hr.ex e3).snoc (p := (y, v)) hu
    · refine w_bl (hR _ _ (w_F (skip fun z => h1 z.1)))
  · rintro L acc M2 G2 H2 j2 hL ⟨e2, a2, mL, as, rfl, hr⟩
    rw [List.length_map, List.take_length, rows_eq ok (fun _ => rfl) hp hs] at hr
    have js := j2.seal hL
    rw [a2.del_eq mL] at js
    exact k L as _ _ js ((e1.trans e2).trans (Ex.new (j2.out hL))) upd_same (hr.ex (Ex.new (j2.out hL)))
theorem own2 {M M1 : Hp} {R D : Addr} {x y : HO} (hR : M1 R = some x) (hD : M1 D = some y) (h : ∀ b, b ≠ R → b ≠ D → M1 b = M b) : M1 = upd (upd M R x) D y := by
  funext b
  by_cases q : b = D
  · subst q; rw [upd_same, hD]
  · rw [upd_ne q]
    by_cases q2 : b = R
    · subst q2; rw [upd_same, hR]
    · rw [upd_ne q2]; exact h b q2 q
/-- a deal's end: the outcome, the list of the results at R, the dictionary at D -/
structure ExEnd (M G M' G' : Hp) (R D : Addr) (kv : List (Int × Int)) (ops : List Op) (n : Nat) : Prop where
  own : ∃ ws kv', M' = upd (upd M R (.lst ws)) D (.dK (tk kv')) ∧ RessAt G' ws (ressM (look kv) ops) ∧ TabOk kv' (n + 6) ∧ Rep kv' (endM (look kv) ops)
  nR : M R = none
  nD : M D = none
  ne : R ≠ D
  gR : G R = none
  gD : G D = none
structure ExPre (M G : Hp) (d a : Addr) (kv : List (Int × Int)) (as : List Addr) (ops : List Op) (n : Nat) : Prop where
  tb : Hd M G d (tk kv)
  ok : TabOk kv n
  nn : n ≤ 57
  dl : IsDeal G a as ops
/-- between the operations -/
def ExI (M G : Hp) (d a D R : Addr) (kv : List (Int × Int)) (ops : List Op) (n : Nat) (i : Nat) (σ : L2.St) (H : Hp) : Prop := ∃ (ws : List V) (kv1 : List (Int × Int)) (M1 G1 : Hp) (x y : Option V), J M1 G1 H ∧ M1 D = some (.dK (tk kv1)) ∧ M1 R = some (.lst ws) ∧
  (∀ b, b ≠ R → b ≠ D → M1 b = M b) ∧ Ex G G1 ∧ RessAt G1 ws (resL (look kv) (ops.take i)) ∧ TabOk kv1 (n + i) ∧ Rep kv1 (mAt (look kv) (ops.take i)) ∧ i ≤ cutM (look kv) ops ∧ σ = [some (.ref d), some (.ref a), some (.ref D), some (.ref R), x, y]
/-! ### data of any depth, both sides alike -/
def okD : Nat → PyData → Prop
  | _, .none => True
  | _, .bool _ => True
  | _, .int _ => True
  | _, .str _ => True
  | 0, .list _ => False
  | 0, .tuple _ => False
  | n + 1, .list xs => xs.length ≤ 100000 ∧ ∀ x ∈ xs, okD n x
  | n + 1, .tuple xs => xs.length ≤ 100000 ∧ ∀ x ∈ xs, okD n x
  | _, .dict _ => False
theorem dpAll_len {K : PySem.W.Frag} {G : Hp} : ∀ {xs : List V} {ds : List PyData}, DpAll K G xs ds → xs.length = ds.length
  | _, _, .nil => rfl
  | _, _, .cons _ t => by rw [List.length_cons, List.length_cons, dpAll_len t]
theorem dpAll_get {K : PySem.W.Frag} {G : Hp} : ∀ {xs : List V} {ds : List PyData} {i : Nat} {d : PyData}, DpAll K G xs ds → ds[i]? = some d → ∃ x, xs[i]? = some x ∧ Dp K G x d
  | _, _, _, _, .nil, e => by simp at e
  | _, _, 0, d, .cons h t, e => ⟨_, rfl, by have e := Option.some.inj e; subst e; exact h⟩
  | _, _, i + 1, d, .cons h t, e => by
    obtain ⟨x, h1, h2⟩ := dpAll_get (i := i) t (by simpa using e)
    exact ⟨x, by simpa using h1, h2⟩
mutual
theorem dp_mono {K : PySem.W.Frag} {G G' : Hp} (e : Same G G') : ∀ {v : V} {d : PyData}, Dp K G v d → Dp K G' v d
  | _, _, .non => .non
  | _, _, .bl b => .bl b
  | _, _, .int i => .int i
  | _, _, .str x => .str x
  | _, _, .lst h t => .lst (sl_mono e h) (dpAll_mono e t)
  | _, _, .tup h t => .tup (st_mono e h) (dpAll_mono e t)
theorem dpAll_mono {K : PySem.W.Frag} {G G' : Hp} (e : Same G G') : ∀ {vs : List V} {ds : List PyData}, DpAll K G vs ds → DpAll K G' vs ds
  | _, _, .nil => .nil
  | _, _, .cons h t => .cons (dp_mono e h) (dpAll_mono e t)
end
theorem dpAll_snoc {K : PySem.W.Frag} {G : Hp} : ∀ {xs : List V} {ds : List PyData} {x : V} {d : PyData}, DpAll K G xs ds → Dp K G x d → DpAll K G (xs ++ [x]) (ds ++ [d])
  | _, _, _, _, .nil, h => .cons h .nil
  | _, _, _, _, .cons a t, h => .cons a (dpAll_snoc t h)
theorem dpAll_of {K : PySem.W.Frag} {G : Hp} : ∀ {xs : List V} {ds : List PyData}, xs.length = ds.length → (∀ (i : Nat) (x : V) (d : PyData), xs[i]? = some x → ds[i]? = some d → Dp K G x d) → DpAll K G xs ds
  | [], [], _, _ => .nil
  | x :: xs, d :: ds, h, f => .cons (f 0 x d rfl rfl) (dpAll_of (by simpa using h) fun i y e h1 h2 => f (i + 1) y e (by simpa using h1) (by simpa using h2))
  | [], _ :: _, h, _ => by simp at h
  | _ :: _, [], h, _ => by simp at h
/-- a sequence of either kind -/
def SqB (K : PySem.W.Frag) (G : Hp) (a : Addr) (xs : List V) : Prop := SqL K G a xs ∨ SqT K G a xs
theorem w_ixB {K : PySem.W.Frag} {M G H : Hp} {a : Addr} {xs : List V} {m : Int} {v : V} {Q : VK} (j : J M G H) (h : SqB K G a xs) (e : atI xs m = some v) (q : Q v H) : uIx K (.ref a) (.int m) H Q :=
  h.elim (fun h => w_ixL j h e q) fun h => w_ixT j h e q
theorem w_lenB {K : PySem.W.Frag} {M G H : Hp} {a : Addr} {xs : List V} {Q : VK} (j : J M G H) (h : SqB K G a xs) (q : Q (.int xs.length) H) : uLen K [.ref a] H Q := h.elim (fun h => w_lenL j h q) fun h => w_lenT j h q
def spNo : Sp := fun _ _ _ _ => False
def spAll1 (K : PySem.W.Frag) (n : Nat) : Sp := Sg (α := Addr × Addr × List V × List V × List PyData) (fun x vs M G => vs = [.ref x.1, .ref x.2.1] ∧ SqB K G x.1 x.2.2.1 ∧ SqB K G x.2.1 x.2.2.2.1 ∧ DpAll K G x.2.2.1 x.2.2.2.2 ∧ DpAll K G x.2.2.2.1 x.2.2.2.2 ∧ x.2.2.2.2.length ≤ 100000 ∧ ∀ d ∈ x.2.2.2.2, okD n d)
      (fun x M _ v M' _ => v = .bl true ∧ M' = M)
def spAll (K : PySem.W.Frag) : Nat → Sp
  | 0 => spNo
  | n + 1 => spAll1 K n
def spEq (K : PySem.W.Frag) (n : Nat) : Sp := Sg (α := V × V × PyData) (fun x vs M G => vs = [x.1, x.2.1] ∧ Dp K G x.1 x.2.2 ∧ Dp K G x.2.1 x.2.2 ∧ okD n x.2.2) (fun x M _ v M' _ => v = .bl true ∧ M' = M)
theorem use_eq {K : PySem.W.Frag} {n : Nat} {M G H : Hp} {x y : V} {d : PyData} {Q : VK} {E : XK} (j : J M G H) (h1 : Dp K G x d) (h2 : Dp K G y d) (h3 : okD n d) (k : ∀ G' H', J M G' H' → Ex G G' → Q (.bl true) H') : spEq K n ([x, y] ++ []) H Q E :=
  w_sg (x, y, d) j ⟨rfl, h1, h2, h3⟩ fun v M' G' H' j' e ⟨ev, em⟩ => by subst ev em; exact k G' H' j' e
theorem use_all {K : PySem.W.Frag} {n : Nat} {M G H : Hp} {a b : Addr} {xs ys : List V} {ds : List PyData} {Q : VK} {E : XK} (j : J M G H) (h1 : SqB K G a xs) (h2 : SqB K G b ys) (h3 : DpAll K G xs ds) (h4 : DpAll K G ys ds) (h5 : ds.length ≤ 100000) (h6 : ∀ d ∈ ds, okD n d)
    (k : ∀ G' H', J M G' H' → Ex G G' → Q (.bl true) H') : spAll K (n + 1) ([.ref a, .ref b] ++ []) H Q E := by
  show spAll1 K n _ H Q E
  exact w_sg (a, b, xs, ys, ds) j ⟨rfl, h1, h2, h3, h4, h5, h6⟩ fun v M' G' H' j' e ⟨ev, em⟩ => by subst ev em; exact k G' H' j' e
/-! ### _law_equal, decided -/
def spAllW1 (K : PySem.W.Frag) (n : Nat) : Sp := Sg (α := Addr × Addr × (List V × List V) × (List PyData × List PyData)) (fun x vs M G => vs = [.ref x.1, .ref x.2.1] ∧ SqB K G x.1 x.2.2.1.1 ∧ SqB K G x.2.1 x.2.2.1.2 ∧ DpAll K G x.2.2.1.1 x.2.2.2.1 ∧ DpAll K G x.2.2.1.2 x.2.2.2.2 ∧ x.2.2.2.1.length = x.2.2.2.2.length ∧ x.2.2.2.2.length ≤ 100000 ∧ ∀ d ∈ x.2.2.2.2, okD n d)
      (fun x M _ v M' _ => ∃ b, v = .bl b ∧ (b = true ↔ x.2.2.2.1 = x.2.2.2.2) ∧ M' = M)
def spAllW (K : PySem.W.Frag) : Nat → Sp
  | 0 => spNo
  | n + 1 => spAllW1 K n
def spEqW (K : PySem.W.Frag) (n : Nat) : Sp := Sg (α := V × V × PyData × PyData) (fun x vs M G => vs = [x.1, x.2.1] ∧ Dp K G x.1 x.2.2.1 ∧ Dp K G x.2.1 x.2.2.2 ∧ okD n x.2.2.2) (fun x M _ v M' _ => ∃ b, v = .bl b ∧ (b = true ↔ x.2.2.1 = x.2.2.2) ∧ M' = M)
theorem use_eqw {K : PySem.W.Frag} {n : Nat} {M G H : Hp} {x y : V} {d e : PyData} {Q : VK} {E : XK} (j : J M G H) (h1 : Dp K G x d) (h2 : Dp K G y e) (h3 : okD n e) (k : ∀ b G' H', (b = true ↔ d = e) → J M G' H' → Ex G G' → Q (.bl b) H') : spEqW K n ([x, y] ++ []) H Q E :=
  w_sg (x, y, d, e) j ⟨rfl, h1, h2, h3⟩ fun v M' G' H' j' e ⟨b, ev, eb, em⟩ => by subst ev em; exact k b G' H' eb j' e
theorem use_allw {K : PySem.W.Frag} {n : Nat} {M G H : Hp} {a b : Addr} {xs ys : List V} {ds es : List PyData} {Q : VK} {E : XK} (j : J M G H) (h1 : SqB K G a xs) (h2 : SqB K G b ys) (h3 : DpAll K G xs ds) (h4 : DpAll K G ys es) (hl : ds.length = es.length) (h5 : es.length ≤ 100000) (h6 : ∀ d ∈ es, okD n d)
    (k : ∀ b G' H', (b = true ↔ ds = es) → J M G' H' → Ex G G' → Q (.bl b) H') : spAllW K (n + 1) ([.ref a, .ref b] ++ []) H Q E := by
  show spAllW1 K n _ H Q E
  exact w_sg (a, b, (xs, ys), (ds, es)) j ⟨rfl, h1, h2, h3, h4, hl, h5, h6⟩ fun v M' G' H' j' e ⟨b, ev, eb, em⟩ => by subst ev em; exact k b G' H' eb j' e
theorem use_eqt {K : PySem.W.Frag} {n : Nat} {M G H : Hp} {x y : V} {d : PyData} {Q : VK} {E : XK} (j : J M G H) (h1 : Dp K G x d) (h2 : Dp K G y d) (h3 : okD n d) (k : ∀ G' H', J M G' H' → Ex G G' → Q (.bl true) H') : spEqW K n ([x, y] ++ []) H Q E :=
  use_eqw j h1 h2 h3 fun b G' H' eb j' e => by
    obtain rfl : b = true := eb.mpr rfl
    exact k G' H' j' e
/-! ### results and operations as data -/
def resD : Res → PyData
  | .non => .none
  | .int n => .int n
  | .rows ps => .list (ps.map fun p => .tuple [.int p.1, .int p.2])
def oD : Option Int → PyData
  | none => .none
  | some n => .int n
def opD : Op → PyData
  | .get k => .tuple [.str "get", .int k]
  | .put k v => .tuple [.str "put", .int k, oD v]
  | .add k a => .tuple [.str "add", .int k, .int a]
  | .need k v => .tuple [.str "need", .int k, oD v]
  | .scan lo hi => .tuple [.str "scan", .int lo, .int hi]
section
variable {K : PySem.W.Frag} {G : Hp}
theorem dp_ov (o : Option Int) : Dp K G (ov o) (oD o) := by cases o with | none => exact .non | some n => exact .int n
theorem dp_op {a : Addr} {op : Op} (h : OpAt G a op) : Dp K G (.ref a) (opD op) := by
  have h := h.1
  cases op with
  | get k => exact .tup (st_of h) (.cons (.str _) (.cons (.int _) .nil))
  | put k v => exact .tup (st_of h) (.cons (.str _) (.cons (.int _) (.cons (dp_ov v) .nil)))
  | add k v => exact .tup (st_of h) (.cons (.str _) (.cons (.int _) (.cons (.int _) .nil)))
  | need k v => exact .tup (st_of h) (.cons (.str _) (.cons (.int _) (.cons (dp_ov v) .nil)))
  | scan k v => exact .tup (st_of h) (.cons (.str _) (.cons (.int _) (.cons (.int _) .nil)))
theorem dp_res {v : V} {r : Res} (h : ResAt G v r) : Dp K G v (resD r) := by
  cases r with
  | non => cases (show v = .non from h); exact .non
  | int n => cases (show v = .int n from h); exact .int n
  | rows ps =>
    obtain ⟨t, as, rfl, ht, hr⟩ := h
    refine .lst (sl_of ht) (dpAll_of (by rw [List.length_map, List.length_map, hr.1]) fun i x d h1 h2 => ?_)
    rw [List.getElem?_map] at h1 h2
    cases e1 : as[i]? with
    | none => rw [e1] at h1; cases h1
    | some a =>
      cases e2 : ps[i]? with
      | none => rw [e2] at h2; cases h2
      | some p =>
        rw [e1] at h1; rw [e2] at h2; cases h1; cases h2
        exact .tup (st_of (hr.2 i a p e1 e2)) (.cons (.int _) (.cons (.int _) .nil))
theorem dp_ress {t : Addr} {ws : List V} {rs : List Res} (ht : G t = some (.lst ws)) (h : RessAt G ws rs) : Dp K G (.ref t) (.list (rs.map resD)) := by
  refine .lst (sl_of ht) (dpAll_of (by rw [List.length_map, h.1]) fun i x d h1 h2 => ?_)
  rw [List.getElem?_map] at h2
  cases e2 : rs[i]? with
  | none => rw [e2] at h2; cases h2
  | some r => rw [e2] at h2; cases h2; exact dp_res (h.2 i x r h1 e2)
theorem dp_ops {t : Addr} {as : List Addr} {ops : List Op} (ht : G t = some (.lst (as.map V.ref))) (h : OpsAt G as ops) : Dp K G (.ref t) (.list (ops.map opD)) := by
  refine .lst (sl_of ht) (dpAll_of (by rw [List.length_map, List.length_map, h.1]) fun i x d h1 h2 => ?_)
  rw [List.getElem?_map] at h1 h2
  cases e1 : as[i]? with
  | none => rw [e1] at h1; cases h1
  | some a =>
    cases e2 : ops[i]? with
    | none => rw [e2] at h2; cases h2
    | some op => rw [e1] at h1; rw [e2] at h2; cases h1; cases h2; exact dp_op (h.2 i a op e1 e2)
end
def flatD : PyData → Bool
  | .none => true
  | .bool _ => true
  | .int _ => true
  | .str _ => true
  | _ => false
theorem okD_flat (n : Nat) {d : PyData} (h : flatD d = true) : okD n d := by
  cases n <;> cases d <;> first | trivial | cases h
theorem okD_tup (n : Nat) {xs : List PyData} (h : xs.all flatD = true) (l : xs.length ≤ 100000) : okD (n + 1) (.tuple xs) := ⟨l, fun x hx => okD_flat n (List.all_eq_true.mp h x hx)⟩
theorem flat_oD (o : Option Int) : flatD (oD o) = true := by cases o <;> rfl
theorem okD_op (n : Nat) (op : Op) : okD (n + 1) (opD op) := by
  cases op with
  | get k => exact okD_tup n rfl (by show 2 ≤ 100000; decide)
  | add k v => exact okD_tup n rfl (by show 3 ≤ 100000; decide)
  | scan k v => exact okD_tup n rfl (by show 3 ≤ 100000; decide)
  | put k v => exact okD_tup n (by cases v <;> rfl) (by show 3 ≤ 100000; decide)
  | need k v => exact okD_tup n (by cases v <;> rfl) (by show 3 ≤ 100000; decide)
theorem scan_len (m : Fn) (lo hi : Int) : (scanM m lo hi).length ≤ 1000 := by
  unfold scanM
  have := List.length_filterMap_le (fun (i : Nat) => if lo ≤ (i : Int) ∧ (i : Int) < hi then (m i).map fun v => ((i : Int), v) else none) (List.range 1000)
  rw [List.length_range] at this; exact this
theorem okD_res (n : Nat) (m : Fn) (op : Op) : okD (n + 2) (resD (resM m op)) := by
  cases op with
  | get k => exact okD_flat _ (by show flatD (resD (rO (m k))) = true; cases m k <;> rfl)
  | put k v => exact okD_flat _ rfl
  | add k v => exact okD_flat _ rfl
  | need k v => exact okD_flat _ rfl
  | scan lo hi =>
    refine ⟨by rw [List.length_map]; have := scan_len m lo hi; omega, fun x h => ?_⟩
    obtain ⟨p, _, rfl⟩ := List.mem_map.mp h
    exact okD_tup n rfl (by show 2 ≤ 100000; decide)
theorem resL_mem : ∀ {m : Fn} {ops : List Op} {r : Res}, r ∈ resL m ops → ∃ m' op, r = resM m' op
  | m, [], r, h => by cases h
  | m, o :: ops, r, h => by
    rcases List.mem_cons.mp h with rfl | h
    · exact ⟨m, o, rfl⟩
    · exact resL_mem h
theorem okD_ress (n : Nat) (m : Fn) {ops : List Op} (h : ops.length ≤ 6) : okD (n + 3) (.list ((ressM m ops).map resD)) := by
  refine ⟨by rw [List.length_map]; unfold ressM; rw [resL_len, List.length_take]; omega, fun x hx => ?_⟩
  obtain ⟨r, hr, rfl⟩ := List.mem_map.mp hx
  obtain ⟨m', op, rfl⟩ := resL_mem hr
  exact okD_res n m' op
theorem okD_ops (n : Nat) {ops : List Op} (h : ops.length ≤ 6) : okD (n + 2) (.list (ops.map opD)) := by
  refine ⟨by rw [List.length_map]; omega, fun x hx => ?_⟩
  obtain ⟨op, _, rfl⟩ := List.mem_map.mp hx
  exact okD_op n op
/-- what execute made, left to stand for good -/
theorem ExEnd.seal {M G M' G' H : Hp} {R D : Addr} {kv : List (Int × Int)} {ops : List Op} {n : Nat} (x : ExEnd M G M' G' R D kv ops n) (j : J M' G' H) : ∃ ws kv' G'', J M G'' H ∧ Ex G' G'' ∧ G'' R = some (.lst ws) ∧ G'' D = some (.dK (tk kv')) ∧
    RessAt G'' ws (ressM (look kv) ops) ∧ TabOk kv' (n + 6) ∧ Rep kv' (endM (look kv) ops) := by
  obtain ⟨⟨ws, kv', rfl, hr, ok, rep⟩, nR, nD, ne, _, _⟩ := x
  have j1 := j.freeze (by rw [upd_ne ne.symm]; exact nD)
  have j2 := j1.freeze nR
  have e1 : Ex G' (upd G' D (.dK (tk kv'))) := Ex.new j.freezeG
  have e2 : Ex (upd G' D (.dK (tk kv'))) (upd (upd G' D (.dK (tk kv'))) R (.lst ws)) := Ex.new j1.freezeG
  exact ⟨ws, kv', _, j2, e1.trans e2, upd_same, by rw [upd_ne ne.symm]; exact upd_same, hr.ex (e1.trans e2), ok, rep⟩
def sp_law (K : PySem.W.Frag) : Sp := fun vs H Q _ => ∃ (a : Addr) (ns : List Int), vs = [.ref a] ∧ SqL K H a (ns.map V.int) ∧ ns.length ≤ 63 ∧ ∀ H', Q (.bl true) H'
/-! ### small values: no sum leaves the limits -/
theorem cr_minIK {X : Cx} {K : PySem.W.Frag} (h : X.K = K) (hc : X.calm = true) : CallR X (.builtin "min") (rMin K) := h ▸ cr_min hc
theorem w_min1 {K : PySem.W.Frag} {M G H : Hp} {a : Addr} {ns : List Int} {Q : VK} (j : J M G H) (h : SqL K G a (ns.map V.int)) (z : 0 < ns.length) (q : ∀ m, m ∈ ns → (∀ y, y ∈ ns → m ≤ y) → Q (.int m) H) : rMin K [.ref a] H Q := ⟨a, ns, rfl, sl_mono j.g h, z, q⟩
def SmOp : Op → Prop
  | .put _ v => ∀ x, v = some x → -2 ≤ x ∧ x ≤ 2
  | .add _ a => -2 ≤ a ∧ a ≤ 2
  | _ => True
def Sm (b : Int) (m : Fn) : Prop := ∀ k v, m k = some v → -b ≤ v ∧ v ≤ b
theorem Sm.nil : Sm 2 (fun _ => none) := fun _ _ e => nomatch e
theorem Sm.mono {b c : Int} {m : Fn} (h : Sm b m) (e : b ≤ c) : Sm c m := fun k v q => by have := h k v q; omega
theorem Sm.getD {b : Int} {m : Fn} (h : Sm b m) (hb : 0 ≤ b) (k : Int) : -b ≤ (m k).getD 0 ∧ (m k).getD 0 ≤ b := by
  cases e : m k with
  | none => show -b ≤ (0 : Int) ∧ (0 : Int) ≤ b; omega
  | some v => exact h k v e
theorem Sm.post {b : Int} {m : Fn} {op : Op} (h : Sm b m) (hb : 0 ≤ b) (ho : SmOp op) : Sm (b + 2) (postM m op) := by
  intro k v e
  cases op with
  | put ky x =>
    have e : setM m ky x k = some v := e
    unfold setM at e
    split at e
    · have := ho v e; omega
    · have := h k v e; omega
  | add ky a =>
    have e : setM m ky (some ((m ky).getD 0 + a)) k = some v := e
    unfold setM at e
    split at e
    · have := h.getD hb ky
      have ho : -2 ≤ a ∧ a ≤ 2 := ho
      have e := Option.some.inj e
      omega
    · have := h k v e; omega
  | get ky => have := h k v e; omega
  | need ky x => have := h k v e; omega
  | scan lo hi => have := h k v e; omega
theorem Sm.mAt {ops : List Op} : ∀ {b : Int} {m : Fn}, Sm b m → 0 ≤ b → (∀ o ∈ ops, SmOp o) → Sm (b + 2 * ops.length) (mAt m ops) := by
  induction ops with
  | nil => intro b m h _ _; exact h.mono (by simp)
  | cons o ops ih =>
    intro b m h hb ho
    have := ih (h.post hb (ho o List.mem_cons_self)) (by omega) fun x m => ho x (List.mem_cons_of_mem _ m)
    exact this.mono (by rw [List.length_cons]; push_cast; omega)
theorem Sm.end {ops : List Op} {b : Int} {m : Fn} (h : Sm b m) (hb : 0 ≤ b) (ho : ∀ o ∈ ops, SmOp o) : Sm (b + 2 * ops.length) (endM m ops) := by
  unfold endM
  split
  · exact h.mAt hb ho
  · exact h.mono (by omega)
theorem Sm.add {b : Int} {m : Fn} {k a : Int} (h : Sm b m) (hb : 0 ≤ b) (hc : b ≤ 1000000) (ho : SmOp (.add k a)) : IsVal ((m k).getD 0 + a) := by
  have := h.getD hb k
  have ho : -2 ≤ a ∧ a ≤ 2 := ho
  exact ⟨by omega, by omega⟩
/-! ### things that may be operations -/
instance (n : Int) : Decidable (IsKey n) := inferInstanceAs (Decidable (_ ∧ _))
def keyB : V → Bool
  | .int n => decide (IsKey n)
  | _ => false
def inB (lo hi : Int) : V → Bool
  | .int n => decide (lo ≤ n ∧ n ≤ hi)
  | _ => false
def scanB : V → V → Bool
  | .int a, y => decide (0 ≤ a ∧ a ≤ 1000) && inB a 1000 y
  | _, _ => false
def wordB (w : Str) (x y : V) : Bool :=
  if w = "scan" then scanB x y else if w = "add" then keyB x && inB (-1000000000000000000) 1000000000000000000 y
  else if w = "put" ∨ w = "need" then keyB x && (decide (y = .non) || inB (-1000000000000000000) 1000000000000000000 y) else false
def opB : List V → Bool
  | [.str w, x] => decide (w = "get") && keyB x
  | [.str w, x, y] => if w = "get" then false else wordB w x y
  | _ => false
/-! ### items -/
structure Itm where
  tp : Bool
  t : Addr
  vs : List V
def ItmAt (K : PySem.W.Frag) (G : Hp) (i : Itm) : Prop := (if i.tp = true then SqT K G i.t i.vs else SqL K G i.t i.vs) ∧ (∀ v ∈ i.vs, flatV v = true) ∧ i.vs.length ≤ 4
theorem ItmAt.ex {K : PySem.W.Frag} {G G' : Hp} {i : Itm} (h : ItmAt K G i) (e : Ex G G') : ItmAt K G' i := by
  refine ⟨?_, h.2⟩
  obtain ⟨tp, t, vs⟩ := i
  cases tp with
  | true => exact st_mono e h.1
  | false => exact sl_mono e h.1
def itB (i : Itm) : Bool := i.tp && opB i.vs
def dealB (is : List Itm) : Bool := decide (1 ≤ is.length ∧ is.length ≤ 6) && is.all itB
def DealAt (K : PySem.W.Frag) (G : Hp) (a : Addr) (is : List Itm) : Prop := SqL K G a (is.map fun i => V.ref i.t) ∧ (∀ i ∈ is, ItmAt K G i) ∧ is.length ≤ 100
theorem DealAt.ex {K : PySem.W.Frag} {G G' : Hp} {a : Addr} {is : List Itm} (h : DealAt K G a is) (e : Ex G G') : DealAt K G' a is := ⟨sl_mono e h.1, fun i m => (h.2.1 i m).ex e, h.2.2⟩
theorem take_one {α : Type} {l : List α} {i : Nat} {x : α} (h : l[i]? = some x) : l.take (i + 1) = l.take i ++ [x] := by rw [List.take_add_one, h]; rfl
theorem ix_at {n j : Nat} (hj : j < n) : ixN n (j : Int) = some j := by
  have h1 : (0 : Int) ≤ (j : Int) := Int.natCast_nonneg j
  have h2 : (j : Int) < (n : Int) := Int.ofNat_lt.mpr hj
  unfold ixN
  rw [if_pos h1, if_pos h2, Int.toNat_natCast]
/-! ### items as data -/
def pd : V → PyData
  | .bl b => .bool b
  | .int n => .int n
  | .str s => .str s
  | _ => .none
theorem dp_pd {K : PySem.W.Frag} {G : Hp} {v : V} (h : flatV v = true) : Dp K G v (pd v) := by
  cases v with
  | non => exact .non
  | bl b => exact .bl b
  | int b => exact .int b
  | str b => exact .str b
  | byt b => cases h
  | flt b => cases h
  | ref b => cases h
  | ty b => cases h
theorem dp_pds {K : PySem.W.Frag} {G : Hp} : ∀ {vs : List V}, (∀ v ∈ vs, flatV v = true) → DpAll K G vs (vs.map pd)
  | [], _ => .nil
  | _ :: _, h => .cons (dp_pd (h _ List.mem_cons_self)) (dp_pds fun v m => h v (List.mem_cons_of_mem _ m))
def itD (tp : Bool) (vs : List V) : PyData := match tp with
  | true => .tuple (vs.map pd)
  | false => .list (vs.map pd)
theorem ItmAt.dp {K : PySem.W.Frag} {G : Hp} {i : Itm} (h : ItmAt K G i) : Dp K G (.ref i.t) (itD i.tp i.vs) := by
  obtain ⟨tp, t, vs⟩ := i
  obtain ⟨h1, h2, h3⟩ := h
  cases tp with
  | true => exact .tup h1 (dp_pds h2)
  | false => exact .lst h1 (dp_pds h2)
theorem dp_itms {K : PySem.W.Frag} {G : Hp} : ∀ {is : List Itm}, (∀ i ∈ is, ItmAt K G i) → DpAll K G (is.map fun i => V.ref i.t) ((is.map fun (i : Itm) => (i.tp, i.vs)).map fun p => itD p.1 p.2)
  | [], _ => .nil
  | _ :: _, h => .cons (h _ List.mem_cons_self).dp (dp_itms fun i m => h i (List.mem_cons_of_mem _ m))
theorem okD_pd (v : V) (n : Nat) : okD n (pd v) := by cases v <;> cases n <;> trivial
theorem okD_it {tp : Bool} {vs : List V} (h : vs.length ≤ 4) : okD 1 (itD tp vs) := by
  cases tp with
  | true => exact ⟨by rw [List.length_map]; omega, fun x hx => by obtain ⟨v, _, rfl⟩ := List.mem_map.mp hx; exact okD_pd v 0⟩
  | false => exact ⟨by rw [List.length_map]; omega, fun x hx => by obtain ⟨v, _, rfl⟩ := List.mem_map.mp hx; exact okD_pd v 0⟩
theorem okD_itms {is : List Itm} (h : ∀ i ∈ is, i.vs.length ≤ 4) (l : is.length ≤ 100) : okD 2 (.list ((is.map fun (i : Itm) => (i.tp, i.vs)).map fun p => itD p.1 p.2)) := by
  refine ⟨by rw [List.length_map, List.length_map]; omega, fun x hx => ?_⟩
  obtain ⟨p, hp, rfl⟩ := List.mem_map.mp hx
  obtain ⟨i, hi, rfl⟩ := List.mem_map.mp hp
  exact okD_it (h i hi)
theorem all_map {α β : Type} (f : β → Bool) (g : α → β) : ∀ l : List α, (l.map g).all f = l.all fun x => f (g x)
  | [] => rfl
  | x :: r => by rw [List.map_cons, List.all_cons, List.all_cons, all_map f g r]
theorem dealB_same {is js : List Itm} (h : is.map (fun (i : Itm) => (i.tp, i.vs)) = js.map (fun (i : Itm) => (i.tp, i.vs))) : dealB is = dealB js := by
  have hl : is.length = js.length := by have := congrArg List.length h; rw [List.length_map, List.length_map] at this; exact this
  have ha : is.all itB = js.all itB := by
    have e : ∀ l : List Itm, l.all itB = (l.map fun (i : Itm) => (i.tp, i.vs)).all fun p => p.1 && opB p.2 := fun l => (all_map (fun p : Bool × List V => p.1 && opB p.2) (fun (i : Itm) => (i.tp, i.vs)) l).symm
    rw [e, e, h]
  unfold dealB
  rw [hl, ha]
theorem OpAt.itm {K : PySem.W.Frag} {G : Hp} {t : Addr} {op : Op} (h : OpAt G t op) : ItmAt K G ⟨true, t, opV op⟩ ∧ 2 ≤ (opV op).length ∧ (opV op).length ≤ 3 := by
  have ovf : ∀ o : Option Int, flatV (ov o) = true := fun o => by cases o <;> rfl
  refine ⟨⟨st_of h.1, fun v hv => ?_, ?_⟩, ?_, ?_⟩
  · cases op <;> simp only [opV, List.mem_cons, List.not_mem_nil, or_false] at hv
    · rcases hv with rfl | rfl <;> rfl
    · rcases hv with rfl | rfl | rfl <;> first | rfl | exact ovf _
    · rcases hv with rfl | rfl | rfl <;> rfl
    · rcases hv with rfl | rfl | rfl <;> first | rfl | exact ovf _
    · rcases hv with rfl | rfl | rfl <;> rfl
  · cases op <;> simp [opV]
  · cases op <;> simp [opV]
  · cases op <;> simp [opV]
def isI : V → Bool
  | .int _ => true
  | _ => false
/-! ### stretches -/
def mx (a b : Int) : Int := if b > a then b else a
def mn (a b : Int) : Int := if b < a then b else a
def PrAt (G : Hp) (t : Addr) (p : Int × Int) : Prop := G t = some (.tup [.int p.1, .int p.2])
theorem PrAt.ex {G G' : Hp} {t : Addr} {p : Int × Int} (h : PrAt G t p) (e : Ex G G') : PrAt G' t p := e _ _ h
def clipM (a b : Int × Int) : Option (Int × Int) := if mx a.1 b.1 < mn a.2 b.2 then some (mx a.1 b.1, mn a.2 b.2) else none
def PoAt (G : Hp) (v : V) : Option (Int × Int) → Prop
  | none => v = .non
  | some p => ∃ t, v = .ref t ∧ PrAt G t p
def insM (a b : Int × Int) : Bool := decide (b.1 ≤ a.1) && (decide (a.1 < a.2) && decide (a.2 ≤ b.2))
theorem clipM_t {a b : Int × Int} (h : mx a.1 b.1 < mn a.2 b.2) : clipM a b = some (mx a.1 b.1, mn a.2 b.2) := if_pos h
theorem clipM_f {a b : Int × Int} (h : ¬ mx a.1 b.1 < mn a.2 b.2) : clipM a b = none := if_neg h
def poD : Option (Int × Int) → PyData
  | none => .none
  | some p => .tuple [.int p.1, .int p.2]
theorem PoAt.dp {K : PySem.W.Frag} {G : Hp} {v : V} {o : Option (Int × Int)} (h : PoAt G v o) : Dp K G v (poD o) := by
  cases o with
  | none => cases h; exact .non
  | some p => obtain ⟨t, rfl, ht⟩ := h; exact .tup (st_of ht) (.cons (.int _) (.cons (.int _) .nil))
theorem PoAt.ex {G G' : Hp} {v : V} {o : Option (Int × Int)} (h : PoAt G v o) (e : Ex G G') : PoAt G' v o := by
  cases o with
  | none => exact h
  | some p => obtain ⟨t, ev, ht⟩ := h; exact ⟨t, ev, ht.ex e⟩
theorem okD_int {n : Nat} (i : Int) : okD n (.int i) := by cases n <;> trivial
theorem okD_po {o : Option (Int × Int)} {n : Nat} : okD (n + 1) (poD o) := by
  cases o with
  | none => exact trivial
  | some p =>
    refine ⟨by show 2 ≤ 100000; decide, fun x hx => ?_⟩
    rcases List.mem_cons.mp hx with rfl | hx
    · exact okD_int _
    · rw [List.mem_singleton.mp hx]; exact okD_int _
/-! ### max(xs, default=d), whole numbers -/
def topI (d : Int) : List Int → Int
  | [] => d
  | n :: ns => ns.foldl max n
theorem topI_spec (d : Int) : ∀ ns : List Int, (ns = [] ∧ topI d ns = d) ∨ (topI d ns ∈ ns ∧ ∀ y ∈ ns, y ≤ topI d ns)
  | [] => .inl ⟨rfl, rfl⟩
  | n :: ns => by
    refine .inr ?_
    show ns.foldl max n ∈ n :: ns ∧ ∀ y ∈ n :: ns, y ≤ ns.foldl max n
    induction ns generalizing n with
    | nil => simp
    | cons k r ih =>
      obtain ⟨h1, h2⟩ := ih (max n k)
      simp only [List.foldl_cons]
      refine ⟨?_, fun y hy => ?_⟩
      · rcases List.mem_cons.mp h1 with e | e
        · rw [e]; rcases Int.le_total n k with q | q
          · rw [Int.max_eq_right q]; simp
          · rw [Int.max_eq_left q]; simp
        · exact List.mem_cons_of_mem _ (List.mem_cons_of_mem _ e)
      · have h0 := h2 _ (List.mem_cons_self)
        rcases List.mem_cons.mp hy with e | e
        · rw [e]; exact Int.le_trans (Int.le_max_left _ _) h0
        · rcases List.mem_cons.mp e with e | e
          · rw [e]; exact Int.le_trans (Int.le_max_right _ _) h0
          · exact h2 _ (List.mem_cons_of_mem _ e)
theorem reads_nums {h : Heap} : ∀ {vs : List Value} {ns : List Int}, IntsAre vs ns → ReadsAll h vs (ns.map .int) []
  | _, _, .nil => .nil
  | _, _, .cons _ _ r => .cons (.int _ _) (reads_nums r)
def MaxD (K : PySem.W.Frag) : List V → List V → Hp → VK → Prop := fun vs zs H Q => ∃ (l : Addr) (ns : List Int) (d : Int), vs = [V.ref l] ∧ zs = [V.int d] ∧ SqL K H l (ns.map V.int) ∧ Q (.int (topI d ns)) H
theorem call_maxD {X : Cx} (hc : X.calm = true) (hu : X.A.units + 64 < cLine) : CallRK X (.builtin "max") [Str.ofString "default"] (MaxD X.K) := by
  intro pins s σ H vs zs us ws Q I r rz h
  obtain ⟨l, ns, d, rfl, rfl, hs, q⟩ := h
  obtain ⟨its, rv, pl, hz⟩ := I.list hs
  obtain rfl := Vals.ref1 r
  obtain ⟨w1, rfl, t1, rfl⟩ := vals1 rz
  refine PySem.W.max_list_default (I.ok.hd hc) pl.isList (xs := ns.map PyData.int) (as := []) (by simpa using reads_nums rv.ints) ⟨fun x hx y hy => ?_, fun x hx => ?_⟩ ?_ (fun e h' tk keep => ?_) (fun y ys i v h' tk bs e hv rd keep => ?_)
  · obtain ⟨i, _, rfl⟩ := List.mem_map.mp hx; obtain ⟨k, _, rfl⟩ := List.mem_map.mp hy; simp [PySem.W.alike]
  · obtain ⟨i, _, rfl⟩ := List.mem_map.mp hx; exact fun z => nomatch z
  · rw [PySem.W.depth_ints]; omega
  · obtain rfl : ns = [] := List.map_eq_nil_iff.mp e
    exact ⟨.int d, H, I.kept keep, ⟨_, rfl⟩, q⟩
  · cases ns with
    | nil => cases e
    | cons n ns =>
      obtain ⟨rfl, rfl⟩ := List.cons.inj e
      rw [PySem.W.maxD_ints] at rd
      cases rd
      exact ⟨.int (topI d (n :: ns)), H, I.kept keep, ⟨_, rfl⟩, q⟩
theorem w_maxD {K : PySem.W.Frag} {M G H : Hp} {l : Addr} {ns : List Int} {d : Int} {Q : VK} (j : J M G H) (h : SqL K G l (ns.map V.int)) (k : Q (.int (topI d ns)) H) : MaxD K [.ref l] [.int d] H Q :=
  ⟨l, ns, d, rfl, rfl, sl_mono j.g h, k⟩
theorem w_ckw {r : List V → List V → Hp → VK → Prop} {t tk : TA} {σ : L2.St} {H : Hp} {Q : VK} (h : t σ H fun vs H1 => tk σ H1 fun zs H2 => r vs zs H2 Q) : tCKw r t tk σ H Q := h
local macro_rules
  | `(tactic| walk_at "v") => `(tactic| with_reducible refine w_ckw ?_)
/-! ### sorted(d) of a dict with tuple keys, all of whole numbers -/
def ky (d : List Int) : List Key := d.map Sum.inl
theorem ky_kV (d : List Int) : (ky d).map kV = d.map V.int := by unfold ky; rw [List.map_map]; rfl
theorem ky_inj {a b : List Int} (h : ky a = ky b) : a = b := by
  induction a generalizing b with
  | nil => cases b with
    | nil => rfl
    | cons y b => cases h
  | cons x a ih => cases b with
    | nil => cases h
    | cons y b =>
      obtain ⟨h1, h2⟩ := List.cons.inj h
      rw [Sum.inl.inj h1, ih h2]
def encI (d : List Int) : PyData := .tuple (d.map PyData.int)
def leI (a b : List Int) : Bool := !decide (b < a)
theorem leI_trans {a b c : List Int} (h1 : leI a b = true) (h2 : leI b c = true) : leI a c = true := by
  unfold leI at *
  simp only [Bool.not_eq_true', decide_eq_false_iff_not] at *
  exact List.le_trans h1 h2
theorem leI_total (a b : List Int) : (leI a b || leI b a) = true := by
  unfold leI
  rcases List.le_total a b with h | h
  · rw [decide_eq_false h]; rfl
  · rw [decide_eq_false h, Bool.not_false, Bool.or_true]
theorem leI_antisymm {a b : List Int} (h1 : leI a b = true) (h2 : leI b a = true) : a = b := by
  unfold leI at *
  simp only [Bool.not_eq_true', decide_eq_false_iff_not] at *
  exact List.le_antisymm h1 h2
def srt (ds : List (List Int)) : List (List Int) := ds.mergeSort leI
theorem srt_perm (ds : List (List Int)) : (srt ds).Perm ds := List.mergeSort_perm _ _
theorem srt_pw (ds : List (List Int)) : (srt ds).Pairwise fun a b => leI a b = true := List.pairwise_mergeSort (le := leI) (fun _ _ _ h1 h2 => leI_trans h1 h2) (fun a b => leI_total a b) ds
theorem srt_eq {a b : List (List Int)} (h : a.Perm b) : srt a = srt b :=
  List.Perm.eq_of_pairwise (le := fun a b => leI a b = true) (fun x y _ _ => leI_antisymm) (srt_pw a) (srt_pw b) ((srt_perm a).trans (h.trans (srt_perm b).symm))
theorem leI_data : PySem.W.dataLe false encI = leI := by
  funext a b
  show (!PySem.W.dataLt (encI b) (encI a)) = _
  unfold encI leI
  rw [PySem.W.dataLt_tuple]
  congr 1
  exact PySem.W.dataLt_ints b a

theorem srt_snd {α : Type} (zs : List (α × List Int)) : (zs.mergeSort fun x y => leI x.2 y.2).map (·.2) = srt (zs.map (·.2)) := by
  have p1 := (List.mergeSort_perm zs fun x y => leI x.2 y.2).map (·.2)
  have p2 := List.pairwise_mergeSort (le := fun x y : α × List Int => leI x.2 y.2) (fun _ _ _ h1 h2 => leI_trans h1 h2) (fun a b => leI_total a.2 b.2) zs
  exact List.Perm.eq_of_pairwise (le := fun a b => leI a b = true) (fun x y _ _ => leI_antisymm) (List.pairwise_map.mpr p2) (srt_pw _) (p1.trans (srt_perm _).symm)
/-- the tuples of whole numbers at the addresses -/
def AtI (H : Hp) (qs : List Addr) (ds : List (List Int)) : Prop := Paired (fun q d => H q = some (.tup (d.map V.int))) qs ds
theorem reads_encI {P : Program} {w : World} {H : Hp} {h : Heap} (ok : HOk P w H h) {q : Addr} {d : List Int} (e : H q = some (.tup (d.map V.int))) : Reads h (.ref q) (encI d) [] := by
  obtain ⟨_, its, rv, o, ho, hc, n, hd⟩ := (show ObjOk P w H h q (.tup (d.map V.int)) from ok q _ e)
  exact .tuple ho hc hd (reads_nums rv.ints)
theorem each_zip {R : Value → Addr × List Int → Prop} : ∀ {qs : List Addr} {ds : List (List Int)}, Paired (fun q d => R (.ref q) (q, d)) qs ds → PySem.W.EachIs R (qs.map Value.ref) (qs.zip ds)
  | _, _, .nil => .nil
  | _, _, .cons h t => .cons h (each_zip t)
theorem each_out {zs : List (Addr × List Int)} : ∀ {out : List Value}, PySem.W.EachIs (fun v z => v = Value.ref z.1) out zs → out = (zs.map (·.1)).map Value.ref := by
  induction zs with
  | nil => intro out h; cases h; rfl
  | cons z zs ih => intro out h; cases h with | cons e t => rw [e, ih t]; rfl
theorem paired_mem {α β : Type} {F : α → β → Prop} : ∀ {xs : List α} {ys : List β}, Paired F xs ys → ∀ z ∈ xs.zip ys, F z.1 z.2
  | _, _, .nil, z, h => by cases h
  | _, _, .cons f t, z, h => by
    rcases List.mem_cons.mp h with e | e
    · subst e; exact f
    · exact paired_mem t z e
theorem paired_of {α β γ : Type} {F : β → γ → Prop} {f : α → β} {g : α → γ} : ∀ {zs : List α}, (∀ z ∈ zs, F (f z) (g z)) → Paired F (zs.map f) (zs.map g)
  | [], _ => .nil
  | z :: zs, h => .cons (h z List.mem_cons_self) (paired_of fun y m => h y (List.mem_cons_of_mem _ m))
def SortDT (xs : List V) (H : Hp) (Q : VK) : Prop := ∃ (a : Addr) (kvs : List (List Key × V)) (ds : List (List Int)), xs = [.ref a] ∧ Rd H a (.dT kvs) ∧ kvs.map (·.1) = ds.map ky ∧ (∀ d ∈ ds, d ≠ []) ∧ ds.length ≤ 1000000 ∧
  ∀ (qs : List Addr) (p : Addr), AtI H qs (srt ds) → H p = none → Q (.ref p) (upd H p (.lst (qs.map V.ref)))
theorem call_sortedDT {X : Cx} (hc : X.calm = true) (hu : X.A.units + 64 < cLine) : CallR X (.builtin "sorted") SortDT := by
  intro pins s σ H xs us Q I r q
  obtain ⟨a, kvs, ds, rfl, hd, hks, hne, hz, q⟩ := q
  obtain rfl := Vals.ref1 r
  obtain ⟨z, hs, ks, pr, o, es, ep, ho, hx, hdt, he, hn⟩ := (show ObjOk X.prog X.w H s.heap a (.dT kvs) from hd.ok I.hok)
  have l1 : es.size = ks.length := size_of_entries he
  have l2 : kvs.length = ks.length := Paired.length pr
  have l3 : kvs.length = ds.length := by rw [← List.length_map (f := (·.1)) (as := kvs), hks, List.length_map]
  refine Calls.call_function_entry PyProof.Rows.kind_sorted PyProof.Rows.plain_sorted PyProof.Rows.entry_sorted (PyProof.Rows.args_sorted1 _) ?_
  unfold Builtin.«sorted»
  refine wpAny_bind (m := checkCount "sorted" 1 1 _) (wpAny_pure ?_)
  refine wpAny_bind (PySem.W.kdu_collect (A := X.A.in1) (kdl_raw hs hx hdt) (I.ok.hd hc) ho (by omega) fun h' tk acc hk hacc => ?_)
  have ea : acc.toList = (ks.map fun x => x.2.1).map Value.ref := by
    have hl : acc.toList.length = ks.length := by rw [Array.length_toList, hacc.1, l1]
    refine List.ext_getElem? fun j => ?_
    rw [List.getElem?_map, List.getElem?_map]
    cases hj : acc.toList[j]? with
    | none =>
      have h1 := List.getElem?_eq_none_iff.mp hj
      rw [List.getElem?_eq_none (show ks.length ≤ j by omega)]; rfl
    | some v =>
      obtain ⟨en, hen, hv⟩ := hacc.2 j v (by rw [← Array.getElem?_toList]; exact hj)
      have qe := entry_at he j
      rw [hen] at qe
      cases hb : ks[j]? with
      | none => rw [hb] at qe; exact nomatch (show some en = none from qe)
      | some b =>
        rw [hb] at qe
        have e2 : en = entryOfKey (tupleKind (mixKind X.prog X.w)) b := Option.some.inj qe
        rw [hv, e2]; rfl
  generalize hqs : (ks.map fun x => x.2.1) = qs at ea
  have hat : Paired (fun q d => H q = some (.tup (d.map V.int))) qs ds := by
    have g : ∀ {kvs : List (List Key × V)} {ks : List (List Key × Addr × Value)} {ds : List (List Int)}, Paired (fun (p : List Key × V) (q : List Key × Addr × Value) => p.1 = q.1 ∧ H q.2.1 = some (.tup (p.1.map kV)) ∧ RelV p.2 q.2.2) kvs ks → kvs.map (·.1) = ds.map ky → Paired (fun q d => H q = some (.tup (d.map V.int))) (ks.map fun x => x.2.1) ds := fun {kvs ks ds} pr => by
      induction pr generalizing ds with
      | nil => intro h; cases ds with
        | nil => exact .nil
        | cons d ds => cases h
      | cons f t ih => intro h; cases ds with
        | nil => cases h
        | cons d ds =>
          obtain ⟨h1, h2⟩ := List.cons.inj h
          refine .cons ?_ (ih h2)
          have e1 := f.2.1
          have h1 : ‹List Key × V›.1 = ky d := h1
          rw [h1, ky_kV] at e1
          exact e1
    rw [← hqs]; exact g pr hks
  have lq : qs.length = ds.length := Paired.length hat
  have I1 : Inv X pins σ H { s with heap := h', toks := tk } := I.kept hk
  refine wpAny_bind (wpAny_newList ?_ (by rw [ea, List.length_map, lq]; exact sz_le hz))
  rw [ea]
  have hoL : (h'.push (seqObj "list" (qs.map Value.ref).toArray 0)).get? h'.objs.size = some (seqObj "list" (qs.map Value.ref).toArray 0) := Heap.get?_push_size _ rfl
  have I2 : Inv X pins σ H { s with heap := h'.push (seqObj "list" (qs.map Value.ref).toArray 0), toks := tk } := I1.kept (t' := tk) fun b o e => Heap.get?_push_of_some _ e
  show wpAny _ _ _ _ _ { s with heap := h'.push (seqObj "list" (qs.map Value.ref).toArray 0), toks := tk }
  refine wpAny_bind (wpAny_holding (PySem.W.list_sort_data (s := { s with heap := h'.push (seqObj "list" (qs.map Value.ref).toArray 0), toks := tk }) (enc := fun z : Addr × List Int => encI z.2) (R := fun v z => v = Value.ref z.1) (bs := qs.zip ds) hoL
    (each_zip (L2.Paired.mapP hat fun _ _ _ => rfl)) (each_zip (L2.Paired.mapP hat fun q d e => ⟨[], reads_encI I2.hok e, List.not_mem_nil⟩)) (fun d h1 d' h2 => ?_) (.inl fun d h1 => ?_) (by rw [List.length_zip, lq, Nat.min_self]; exact sz_le hz) (fun b _ => ?_) fun out hl ho => ?_))
  · obtain ⟨x, _, rfl⟩ := List.mem_map.mp h1
    obtain ⟨y, _, rfl⟩ := List.mem_map.mp h2
    show PySem.W.alikeAll _ _ = true
    exact PySem.W.alike_ints _ _
  · obtain ⟨x, hx, rfl⟩ := List.mem_map.mp h1
    have := hne x.2 (List.of_mem_zip hx).2
    cases e : x.2 with
    | nil => exact (this e).elim
    | cons y r => exact ⟨.int y, r.map PyData.int, rfl⟩
  · have : (encI b.2).depth ≤ 1 := by
      unfold encI
      rw [PyData.depth, PySem.W.depth_ints]
      exact Nat.le_refl _
    show X.A.units + 1 + 1 + _ < cLine
    omega
  · have hout := each_out ho
    have hle : PySem.W.dataLe false (fun z : Addr × List Int => encI z.2) = fun x y => leI x.2 y.2 := by
      funext x y
      exact congrFun (congrFun leI_data x.2) y.2
    rw [hle] at hout
    have hsrt : ((qs.zip ds).mergeSort fun x y => leI x.2 y.2).map (·.2) = srt ds := by
      rw [srt_snd, List.map_snd_zip (by omega)]
    generalize hzs : ((qs.zip ds).mergeSort fun x y => leI x.2 y.2) = zs at hout hsrt
    have hmem : ∀ z ∈ zs, H z.1 = some (.tup (z.2.map V.int)) := fun z hz => paired_mem hat z (by rw [← hzs] at hz; exact List.mem_mergeSort.mp hz)
    obtain ⟨e', he'⟩ := PyProof.Rows.sortedHeap_at (vs := qs.map Value.ref) (out := out.toArray) hoL
    have rv : Vals ((zs.map (·.1)).map V.ref) out := by rw [hout]; exact vals_refs _
    have hlen : ((zs.map (·.1)).map V.ref).length ≤ sizeLine := by
      rw [List.length_map, List.length_map, ← List.length_map (f := (·.2)) (as := zs), hsrt, (srt_perm ds).length_eq]
      exact sz_le hz
    refine wpAny_pure ⟨_, rfl, .ref h'.objs.size, upd H h'.objs.size (.lst ((zs.map (·.1)).map V.ref)), I1.laid (t' := tk) (fun b u e => ?_) (Nat.le_refl _)
      (show ObjOk X.prog X.w _ _ _ (.lst ((zs.map (·.1)).map V.ref)) from ⟨hlen, out, e', rv, he'⟩), rfl, q (zs.map (·.1)) _ (by rw [← hsrt]; exact paired_of hmem) (I1.hok.fresh (Nat.le_refl _))⟩
    have hb : b < h'.objs.size := Heap.lt_size e
    rw [PyProof.Rows.sortedHeap_old (Nat.ne_of_lt hb) (by rw [size_push']; exact Nat.lt_succ_of_lt hb)]
    exact Heap.get?_push_of_some _ e
/-! ### sorted of a list of pairs (time, value), the times different; min of pairs (time, name) -/
def ovV : Option Int → V
  | none => .non
  | some n => .int n
def TvAt (H : Hp) (t : Addr) (p : Int × Option Int) : Prop := H t = some (.tup [.int p.1, ovV p.2])
def leT (a b : Int × Option Int) : Bool := decide (a.1 ≤ b.1)
def srtT (ps : List (Int × Option Int)) : List (Int × Option Int) := ps.mergeSort leT
noncomputable def timeKind (zs : List (Addr × Int × Option Int)) : PyProof.Rows.KeyKind where
  toKeyOrd := PyProof.Rows.listOrd PyProof.Rows.itemOrd
  keyOf v := match v with
    | .ref a => (zs.find? fun z => z.1 == a).map fun z => [Sum.inl z.2.1]
    | _ => none
  dflt := []
theorem timeKind_some {zs : List (Addr × Int × Option Int)} {v : Value} {a : List (Int ⊕ List Nat)} (h : (timeKind zs).keyOf v = some a) : ∃ z ∈ zs, v = .ref z.1 ∧ a = [Sum.inl z.2.1] := by
  cases v with
  | ref b =>
    replace h : (zs.find? fun z => z.1 == b).map (fun z => [Sum.inl z.2.1]) = some a := h
    cases e : zs.find? fun z => z.1 == b with
    | none => rw [e] at h; cases h
    | some z =>
      rw [e] at h
      have e1 := List.find?_some e
      have e1 : z.1 = b := by simpa using e1
      exact ⟨z, List.mem_of_find?_eq_some e, by rw [e1], (Option.some.inj h).symm⟩
  | _ => exact nomatch (show none = some a from h)
theorem timeKind_mem {zs : List (Addr × Int × Option Int)} (hn : ∀ z ∈ zs, ∀ y ∈ zs, z.1 = y.1 → z = y) {z : Addr × Int × Option Int} (h : z ∈ zs) : (timeKind zs).keyOf (.ref z.1) = some [Sum.inl z.2.1] := by
  show (zs.find? fun y => y.1 == z.1).map (fun z => [Sum.inl z.2.1]) = _
  cases e : zs.find? fun y => y.1 == z.1 with
  | none => have := List.find?_eq_none.mp e z h; simp at this
  | some y =>
    have e1 := List.find?_some e
    have e1 : y.1 = z.1 := by simpa using e1
    rw [hn y (List.mem_of_find?_eq_some e) z h e1]; rfl
theorem time_ltAt {P : Program} {w : World} {A : Around} {s : Shared} {zs : List (Addr × Int × Option Int)} (hu : A.units < cLine) (hz : ∀ z ∈ zs, ∃ (o : Obj) (n : Nat) (t u : Tok) (x : Value), s.heap.get? z.1 = some o ∧ o.data = .seq #[.int z.2.1 t, x] n ∧ (x = .none ∨ ∃ i, x = .int i u))
    (hd : ∀ z ∈ zs, ∀ y ∈ zs, z.2.1 = y.2.1 → z = y) : PyProof.Rows.H.LtAt P w A s (timeKind zs) (tuples' true) := by
  intro E x y a b Q hx hy hq
  obtain ⟨z, mz, rfl, rfl⟩ := timeKind_some hx
  obtain ⟨y, my, rfl, rfl⟩ := timeKind_some hy
  obtain ⟨o, n, t, u, x1, g1, g2, g3⟩ := hz z mz
  obtain ⟨o', n', t', u', x2, h1, h2, h3⟩ := hz y my
  replace hq : Q (PyProof.Rows.lexLt PyProof.Rows.itemOrd [Sum.inl z.2.1] [Sum.inl y.2.1]) s := hq
  refine PySem.W.kat_lt g1 g2 h1 h2 ?_
  show PySem.W.KatLex P w A true false Q [(Value.int z.2.1 t, Value.int y.2.1 t'), (x1, x2)] 0 s
  refine PySem.W.kat_cons (wpAny_eqBool_int (PySem.W.kat_go (fun e => ?_) fun e => ?_))
  · have e1 : z.2.1 = y.2.1 := by simpa using e
    obtain rfl := hd z mz y my e1
    have e2 : o = o' := Option.some.inj (g1.symm.trans h1)
    subst e2
    rw [g2] at h2
    injection h2 with h2 _
    have e3 : Value.int z.2.1 t = Value.int z.2.1 t' ∧ x1 = x2 := by simpa using h2
    obtain ⟨_, rfl⟩ := e3
    have irr : PyProof.Rows.lexLt PyProof.Rows.itemOrd [Sum.inl z.2.1] [Sum.inl z.2.1] = false := by
      rw [PyProof.Rows.lex_self]; rfl
    rw [irr] at hq
    refine PySem.W.kat_yes (PySem.W.kat_cons ?_)
    rcases g3 with rfl | ⟨i, rfl⟩
    · exact PySem.W.eqAt_alike .none .none A s .none .none [] [] .none .none rfl (by simpa [PyData.depth] using hu) P w _ _ (PySem.W.kat_go (fun _ => PySem.W.kat_yes (PySem.W.kat_nil hq)) fun e => by simp [PyData.eqv] at e)
    · exact wpAny_eqBool_int (PySem.W.kat_go (fun _ => PySem.W.kat_yes (PySem.W.kat_nil hq)) fun e => by simp at e)
  · have e1 : ¬ z.2.1 = y.2.1 := by simpa using e
    rw [PyProof.Rows.lex_diff (fun x => e1 (Sum.inl.inj x))] at hq
    exact PySem.W.kat_no (PyProof.Rows.oneLt_any_int hq)
theorem leT_data : PySem.W.sortLe (PyProof.Rows.listOrd PyProof.Rows.itemOrd) false (fun z : Addr × Int × Option Int => [Sum.inl z.2.1]) = fun x y => leT x.2 y.2 := PySem.W.dataLe_int fun z : Addr × Int × Option Int => z.2.1
theorem leT_trans {a b c : Int × Option Int} (h1 : leT a b = true) (h2 : leT b c = true) : leT a c = true := by
  unfold leT at *
  rw [decide_eq_true_iff] at *
  omega
theorem leT_total (a b : Int × Option Int) : (leT a b || leT b a) = true := by
  unfold leT
  rw [Bool.or_eq_true, decide_eq_true_iff, decide_eq_true_iff]
  omega
theorem srtT_perm (ps : List (Int × Option Int)) : (srtT ps).Perm ps := List.mergeSort_perm _ _
theorem srtT_pw (ps : List (Int × Option Int)) : (srtT ps).Pairwise fun a b => leT a b = true := List.pairwise_mergeSort (le := leT) (fun _ _ _ h1 h2 => leT_trans h1 h2) leT_total ps
theorem nodup_at {α β : Type} {f : α → β} : ∀ {xs : List α}, (xs.map f).Nodup → ∀ x ∈ xs, ∀ y ∈ xs, f x = f y → x = y
  | [], _, x, hx, _, _, _ => by cases hx
  | a :: xs, hn, x, hx, y, hy, e => by
    rw [List.map_cons, List.nodup_cons] at hn
    rcases List.mem_cons.mp hx with rfl | hx
    · rcases List.mem_cons.mp hy with rfl | hy
      · rfl
      · exact (hn.1 (e ▸ List.mem_map_of_mem hy)).elim
    · rcases List.mem_cons.mp hy with hy | hy
      · rw [hy] at e
        exact (hn.1 (e ▸ List.mem_map_of_mem hx)).elim
      · exact nodup_at hn.2 x hx y hy e
theorem kat_ints {h : Heap} : ∀ {ts : List Addr}, (∀ t ∈ ts, ∃ (o : Obj) (n : Nat) (i : Int) (tk : Tok) (x : Value), h.get? t = some o ∧ o.data = .seq #[.int i tk, x] n ∧ o.cls = .type "tuple") →
    ∃ fs : List Value, PySem.W.KatTups h (ts.map Value.ref) fs ∧ fs.length = ts.length ∧ ∀ f ∈ fs, ∃ i t, f = Value.int i t
  | [], _ => ⟨[], PySem.W.KatTups.nil, rfl, fun f h => nomatch h⟩
  | t :: ts, hh => by
    obtain ⟨fs, h1, h2, h3⟩ := kat_ints (ts := ts) fun y m => hh y (List.mem_cons_of_mem _ m)
    obtain ⟨o, n, i, tk, x, g1, g2, g3⟩ := hh t List.mem_cons_self
    refine ⟨.int i tk :: fs, PySem.W.KatTups.cons g1 g3 g2 rfl h1, by rw [List.length_cons, List.length_cons, h2], fun f hf => ?_⟩
    rcases List.mem_cons.mp hf with rfl | hf
    · exact ⟨i, tk, rfl⟩
    · exact h3 f hf
/-- two sorted lists of the same pairs of different times -/
theorem srtT_uniq {a b : List (Int × Option Int)} (hn : (a.map (·.1)).Nodup) (h : a.Perm b) : srtT a = srtT b := by
  refine List.Perm.eq_of_pairwise (le := fun a b => leT a b = true) (fun x y hx hy h1 h2 => ?_) (srtT_pw a) (srtT_pw b) ((srtT_perm a).trans (h.trans (srtT_perm b).symm))
  unfold leT at h1 h2
  rw [decide_eq_true_iff] at h1 h2
  exact nodup_at hn x ((srtT_perm a).mem_iff.mp hx) y (h.mem_iff.mpr ((srtT_perm b).mem_iff.mp hy)) (by omega)
theorem each_zipG {α : Type} {F : Addr → α → Prop} {R : Value → Addr × α → Prop} : ∀ {qs : List Addr} {ds : List α}, Paired F qs ds → (∀ z ∈ qs.zip ds, R (.ref z.1) z) → PySem.W.EachIs R (qs.map Value.ref) (qs.zip ds)
  | _, _, .nil, _ => .nil
  | _, _, .cons h t, f => .cons (f _ List.mem_cons_self) (each_zipG t fun z m => f z (List.mem_cons_of_mem _ m))
theorem each_outG {α : Type} {zs : List (Addr × α)} : ∀ {out : List Value}, PySem.W.EachIs (fun v z => v = Value.ref z.1) out zs → out = (zs.map (·.1)).map Value.ref := by
  induction zs with
  | nil => intro out h; cases h; rfl
  | cons z zs ih => intro out h; cases h with | cons e t => rw [e, ih t]; rfl
theorem vals_of_refs : ∀ {qs : List Addr} {us : List Value}, Vals (qs.map V.ref) us → us = qs.map Value.ref
  | [], _, .nil => rfl
  | q :: qs, _, .cons h t => by rw [vals_of_refs t]; cases h; rfl
def SortTV (K : PySem.W.Frag) (xs : List V) (H : Hp) (Q : VK) : Prop := ∃ (a : Addr) (ts : List Addr) (ps : List (Int × Option Int)), xs = [.ref a] ∧ SqL K H a (ts.map V.ref) ∧ Paired (TvAt H) ts ps ∧ (ps.map (·.1)).Nodup ∧ ps.length ≤ 1000000 ∧
  ∀ (ts' : List Addr) (p : Addr), Paired (TvAt H) ts' (srtT ps) → H p = none → Q (.ref p) (upd H p (.lst (ts'.map V.ref)))
theorem call_sortTV {X : Cx} (hu : X.A.units + 64 < cLine) : CallR X (.builtin "sorted") (SortTV X.K) := by
  intro pins s σ H xs us Q I r q
  obtain ⟨a, ts, ps, rfl, hs, hat, hn, hz, q⟩ := q
  obtain rfl := Vals.ref1 r
  obtain ⟨its, rv, pl, _⟩ := I.list hs
  obtain rfl := vals_of_refs rv
  have lt : ts.length = ps.length := Paired.length hat
  have hm : ∀ z ∈ ts.zip ps, TvAt H z.1 z.2 := fun z h => paired_mem hat z h
  have ht : ∀ z ∈ ts.zip ps, ∀ y ∈ ts.zip ps, z.2.1 = y.2.1 → z = y := by
    refine nodup_at (f := fun z : Addr × Int × Option Int => z.2.1) ?_
    have e : ((ts.zip ps).map fun z => z.2.1) = ps.map (·.1) := by
      rw [← List.map_snd_zip (l₁ := ts) (l₂ := ps) (by omega), List.map_map, List.map_snd_zip (by omega)]; rfl
    rw [e]; exact hn
  have ha : ∀ z ∈ ts.zip ps, ∀ y ∈ ts.zip ps, z.1 = y.1 → z = y := fun z mz y my e => ht z mz y my (by
    have h1 := hm z mz
    have h2 := hm y my
    unfold TvAt at h1 h2
    rw [e, h2] at h1
    have h1 := Option.some.inj h1
    injection h1 with h1
    have h1 := (List.cons.inj h1).1
    injection h1 with h1
    exact h1.symm)
  have ob : ∀ z ∈ ts.zip ps, ∃ (o : Obj) (n : Nat) (t u : Tok) (x : Value), s.heap.get? z.1 = some o ∧ o.data = .seq #[.int z.2.1 t, x] n ∧ (x = .none ∨ ∃ i, x = .int i u) ∧ o.cls = .type "tuple" := fun z mz => by
    obtain ⟨_, its, rv, o, ho, hc, n, hd⟩ := (show ObjOk X.prog X.w H s.heap z.1 (.tup [.int z.2.1, ovV z.2.2]) from I.hok z.1 _ (hm z mz))
    cases rv with
    | cons r1 r2 => cases r2 with
      | cons r3 r4 =>
        cases r4
        obtain ⟨t, rfl⟩ := r1
        cases e : z.2.2 with
        | none =>
          rw [e] at r3
          cases (show _ = Value.none from r3)
          exact ⟨o, n, t, t, _, ho, hd, .inl rfl, hc⟩
        | some i =>
          rw [e] at r3
          obtain ⟨u, rfl⟩ := (show ∃ u, _ = Value.int i u from r3)
          exact ⟨o, n, t, u, _, ho, hd, .inr ⟨i, rfl⟩, hc⟩
  refine PySem.W.sorted_vals (κ := timeKind (ts.zip ps)) (vs := ts.map Value.ref) pl.isList ⟨fun v hv => ?_, tuples' true, ?_, fun h2 E Q hq => ?_⟩ (by rw [List.length_map, lt]; exact sz_le hz) ?_
  · obtain ⟨t, mt, rfl⟩ := List.mem_map.mp hv
    obtain ⟨i, hi⟩ := List.mem_iff_getElem?.mp mt
    have li := (List.getElem?_eq_some_iff.mp hi).1
    have mz : (t, ps[i]'(by omega)) ∈ ts.zip ps := List.mem_iff_getElem?.mpr ⟨i, List.getElem?_zip_eq_some.mpr ⟨hi, List.getElem?_eq_getElem _⟩⟩
    exact ⟨_, timeKind_mem ha mz⟩
  · refine time_ltAt (by show X.A.units + 1 + 1 < cLine; omega) (fun z mz => ?_) ht
    obtain ⟨o, n, t, u, x, h1, h2, h3, _⟩ := ob z mz
    exact ⟨o, n, t, u, x, PySem.W.sorting_copy_old h1, h2, h3⟩
  · obtain ⟨fs, k1, k2, k3⟩ := kat_ints (h := PySem.W.sortingHeap (PySem.W.copyHeap s.heap (ts.map Value.ref)) (s.heap.objs.size + 1) (ts.map Value.ref)) (ts := ts) fun t mt => by
      obtain ⟨i, hi⟩ := List.mem_iff_getElem?.mp mt
      have li := (List.getElem?_eq_some_iff.mp hi).1
      have mz : (t, ps[i]'(by omega)) ∈ ts.zip ps := List.mem_iff_getElem?.mpr ⟨i, List.getElem?_zip_eq_some.mpr ⟨hi, List.getElem?_eq_getElem _⟩⟩
      obtain ⟨o, n, t', u, x, h1, h2, _, h4⟩ := ob _ mz
      exact ⟨o, n, _, t', x, PySem.W.sorting_copy_old h1, h2, h4⟩
    rw [List.length_map] at h2
    exact PySem.W.kat_kind (T := PySem.W.dataType (.int 0)) k1 (by omega) (fun f hf => by
      obtain ⟨i, t, rfl⟩ := k3 f hf
      have lk := PySem.W.looks_reads (M := model X.prog X.w) (h := PySem.W.sortingHeap (PySem.W.copyHeap s.heap (ts.map Value.ref)) (s.heap.objs.size + 1) (ts.map Value.ref)) (Reads.int i t)
      rw [show PySem.W.dataType (.int i) = PySem.W.dataType (.int 0) from rfl] at lk
      exact lk) (beq_self_eq_true _) hq
  · have ez : PySem.W.EachIs (fun v z => v = Value.ref z.1) (PySem.W.sortVals (timeKind (ts.zip ps)) false (ts.map Value.ref) (ts.map Value.ref)) ((ts.zip ps).mergeSort (PySem.W.sortLe (PyProof.Rows.listOrd PyProof.Rows.itemOrd) false fun z : Addr × Int × Option Int => [Sum.inl z.2.1])) := PySem.W.sortVals_each (κ := timeKind (ts.zip ps)) (rev := false) (R := fun v z => v = Value.ref z.1) (ks := ts.map Value.ref) (vs := ts.map Value.ref) (bs := ts.zip ps) (fun z => [Sum.inl z.2.1])
      (each_zipG hat fun _ _ => rfl) (each_zipG hat fun z mz => timeKind_mem ha mz)
    rw [leT_data] at ez
    have hout := each_outG ez
    generalize hzs : ((ts.zip ps).mergeSort fun x y => leT x.2 y.2) = zs at hout
    have hmem : ∀ z ∈ zs, TvAt H z.1 z.2 := fun z hz => hm z (by rw [← hzs] at hz; exact List.mem_mergeSort.mp hz)
    have hsrt : zs.map (·.2) = srtT ps := by
      have p1 := (List.mergeSort_perm (ts.zip ps) fun x y => leT x.2 y.2).map (·.2)
      rw [hzs, List.map_snd_zip (by omega)] at p1
      have p2 := List.pairwise_mergeSort (le := fun x y : Addr × Int × Option Int => leT x.2 y.2) (fun _ _ _ h1 h2 => leT_trans h1 h2) (fun a b => leT_total a.2 b.2) (ts.zip ps)
      rw [hzs] at p2
      refine List.Perm.eq_of_pairwise (le := fun a b => leT a b = true) (fun x y hx hy h1 h2 => ?_) (List.pairwise_map.mpr p2) (srtT_pw ps) (p1.trans (srtT_perm ps).symm)
      unfold leT at h1 h2
      rw [decide_eq_true_iff] at h1 h2
      exact nodup_at hn x (p1.mem_iff.mp hx) y ((srtT_perm ps).mem_iff.mp hy) (by omega)
    generalize PySem.W.sortVals (timeKind (ts.zip ps)) false (ts.map Value.ref) (ts.map Value.ref) = out at hout
    obtain ⟨c, hcx⟩ := PyProof.Rows.sortedAll_at s.heap (ts.map Value.ref) out.toArray
    have rvo : Vals ((zs.map (·.1)).map V.ref) out := by rw [hout]; exact vals_refs _
    have hlen : ((zs.map (·.1)).map V.ref).length ≤ sizeLine := by
      rw [List.length_map, List.length_map, ← List.length_map (f := (·.2)) (as := zs), hsrt, (srtT_perm ps).length_eq]
      exact sz_le hz
    exact ⟨.ref (s.heap.objs.size + 1), upd H (s.heap.objs.size + 1) (.lst ((zs.map (·.1)).map V.ref)), I.laid (t' := s.toks) (fun b u e => PyProof.Rows.sortedAll_old e) (Nat.le_succ _)
      (show ObjOk X.prog X.w _ _ _ (.lst ((zs.map (·.1)).map V.ref)) from ⟨hlen, out, c, rvo, hcx⟩), rfl, q (zs.map (·.1)) _ (by rw [← hsrt]; exact paired_of hmem) (I.hok.fresh (Nat.le_succ _))⟩
/-! min of a list of pairs (time, name) -/
def NpAt (H : Hp) (t : Addr) (p : Int × List Int) : Prop := ∃ q, H t = some (.tup [.int p.1, .ref q]) ∧ H q = some (.tup (p.2.map V.int))
def encP (p : Int × List Int) : PyData := .tuple [.int p.1, encI p.2]
def ltP (a b : Int × List Int) : Bool := if a.1 = b.1 then decide (a.2 < b.2) else decide (a.1 < b.1)
def minP (x : Int × List Int) (xs : List (Int × List Int)) : Int × List Int := xs.foldl (fun a y => if ltP y a = true then y else a) x
theorem eqv_ints : ∀ a b : List Int, PyData.eqvAll (a.map PyData.int) (b.map PyData.int) = decide (a = b)
  | [], [] => by simp [PyData.eqvAll]
  | [], y :: b => by simp [PyData.eqvAll]
  | x :: a, [] => by simp [PyData.eqvAll]
  | x :: a, y :: b => by
    have ih := eqv_ints a b
    simp only [List.map_cons, PyData.eqvAll, PyData.eqv, ih]
    by_cases h : x = y
    · subst h; simp
    · simp [h]
theorem ltP_data (a b : Int × List Int) : PySem.W.dataLt (encP a) (encP b) = ltP a b := by
  unfold encP ltP
  rw [PySem.W.dataLt_pair (by rfl) (by show PySem.W.alikeAll _ _ = true; exact PySem.W.alike_ints _ _), PySem.W.dataLt_int]
  have h1 : PySem.W.dataLt (encI a.2) (encI b.2) = decide (a.2 < b.2) := by
    unfold encI
    rw [PySem.W.dataLt_tuple]
    exact PySem.W.dataLt_ints a.2 b.2
  have h2 : PyData.eqv (encI a.2) (encI b.2) = decide (a.2 = b.2) := eqv_ints a.2 b.2
  rw [h1, h2]
  by_cases e1 : a.1 = b.1
  · rw [if_pos e1, if_pos (by rw [e1]; simp [PyData.eqv])]
    by_cases e2 : a.2 = b.2
    · rw [if_pos (decide_eq_true e2), e2]
      exact (decide_eq_false (List.lt_irrefl _)).symm
    · rw [if_neg (by simpa using e2)]
  · rw [if_neg e1, if_neg (by simpa [PyData.eqv] using e1)]
theorem minP_data (x : Int × List Int) : ∀ xs : List (Int × List Int), PySem.W.minD (encP x) (xs.map encP) = encP (minP x xs) := by
  intro xs
  unfold PySem.W.minD minP
  induction xs generalizing x with
  | nil => rfl
  | cons y xs ih =>
    rw [List.map_cons, List.foldl_cons, List.foldl_cons, ltP_data]
    by_cases h : ltP y x = true
    · rw [if_pos h, if_pos h]; exact ih y
    · rw [if_neg h, if_neg h]; exact ih x
theorem mapI_inj : ∀ {a b : List Int}, a.map PyData.int = b.map PyData.int → a = b
  | [], [], _ => rfl
  | [], _ :: _, h => by cases h
  | _ :: _, [], h => by cases h
  | x :: a, y :: b, h => by
    obtain ⟨h1, h2⟩ := List.cons.inj h
    injection h1 with h1
    rw [h1, mapI_inj h2]
theorem encI_inj {a b : List Int} (h : encI a = encI b) : a = b := by
  unfold encI at h
  injection h with h
  exact mapI_inj h
theorem encP_inj {a b : Int × List Int} (h : encP a = encP b) : a = b := by
  unfold encP at h
  injection h with h
  obtain ⟨h1, h2⟩ := List.cons.inj h
  have h2 := (List.cons.inj h2).1
  injection h1 with h1
  exact Prod.ext h1 (encI_inj h2)
theorem minP_mem (x : Int × List Int) : ∀ xs : List (Int × List Int), minP x xs ∈ x :: xs := by
  intro xs
  unfold minP
  induction xs generalizing x with
  | nil => exact List.mem_cons_self
  | cons y xs ih =>
    rw [List.foldl_cons]
    by_cases h : ltP y x = true
    · rw [if_pos h]; exact List.mem_cons_of_mem _ (ih y)
    · rw [if_neg h]
      rcases List.mem_cons.mp (ih x) with e | e
      · rw [e]; exact List.mem_cons_self
      · exact List.mem_cons_of_mem _ (List.mem_cons_of_mem _ e)
/-- the order of pairs -/
def leP (a b : Int × List Int) : Prop := ltP b a = false
theorem leP_refl (a : Int × List Int) : leP a a := by
  unfold leP ltP
  rw [if_pos rfl]
  exact decide_eq_false (List.lt_irrefl _)
theorem leP_trans {a b c : Int × List Int} (h1 : leP a b) (h2 : leP b c) : leP a c := by
  unfold leP ltP at *
  by_cases e1 : b.1 = a.1
  · rw [if_pos e1, decide_eq_false_iff_not] at h1
    by_cases e2 : c.1 = b.1
    · rw [if_pos e2, decide_eq_false_iff_not] at h2
      rw [if_pos (e2.trans e1), decide_eq_false_iff_not]
      exact List.le_trans h1 h2
    · rw [if_neg e2, decide_eq_false_iff_not] at h2
      rw [if_neg (by omega), decide_eq_false_iff_not]
      omega
  · rw [if_neg e1, decide_eq_false_iff_not] at h1
    by_cases e2 : c.1 = b.1
    · rw [if_neg (by omega), decide_eq_false_iff_not]
      omega
    · rw [if_neg e2, decide_eq_false_iff_not] at h2
      rw [if_neg (by omega), decide_eq_false_iff_not]
      omega
theorem leP_antisymm {a b : Int × List Int} (h1 : leP a b) (h2 : leP b a) : a = b := by
  unfold leP ltP at *
  by_cases e1 : b.1 = a.1
  · rw [if_pos e1, decide_eq_false_iff_not] at h1
    rw [if_pos e1.symm, decide_eq_false_iff_not] at h2
    exact Prod.ext e1.symm (List.le_antisymm h1 h2)
  · rw [if_neg e1, decide_eq_false_iff_not] at h1
    rw [if_neg (fun z => e1 z.symm), decide_eq_false_iff_not] at h2
    omega
theorem leP_of_lt {a b : Int × List Int} (h : ltP a b = true) : leP a b := by
  unfold leP ltP at *
  by_cases e : a.1 = b.1
  · rw [if_pos e, decide_eq_true_iff] at h
    rw [if_pos e.symm, decide_eq_false_iff_not]
    exact List.not_lt.mpr (List.le_of_lt h)
  · rw [if_neg e, decide_eq_true_iff] at h
    rw [if_neg (fun z => e z.symm), decide_eq_false_iff_not]
    omega
theorem minP_le (x : Int × List Int) : ∀ (xs : List (Int × List Int)), ∀ y ∈ x :: xs, leP (minP x xs) y := by
  intro xs
  unfold minP
  induction xs generalizing x with
  | nil =>
    intro y hy
    rw [List.mem_singleton.mp hy]; exact leP_refl x
  | cons z xs ih =>
    intro y hy
    rw [List.foldl_cons]
    by_cases h : ltP z x = true
    · rw [if_pos h]
      rcases List.mem_cons.mp hy with rfl | hy
      · exact leP_trans (ih z z List.mem_cons_self) (leP_of_lt h)
      · exact ih z y hy
    · rw [if_neg h]
      have h : leP x z := by unfold leP; simpa using h
      rcases List.mem_cons.mp hy with rfl | hy
      · exact ih y y List.mem_cons_self
      · rcases List.mem_cons.mp hy with rfl | hy
        · exact leP_trans (ih x x List.mem_cons_self) h
        · exact ih x y (List.mem_cons_of_mem _ hy)
def MinNP (K : PySem.W.Frag) (xs : List V) (H : Hp) (Q : VK) : Prop := ∃ (a : Addr) (ts : List Addr) (ps : List (Int × List Int)), xs = [.ref a] ∧ SqL K H a (ts.map V.ref) ∧ Paired (NpAt H) ts ps ∧ ps ≠ [] ∧ ps.length ≤ 1000000 ∧
  ∀ (i : Nat) (t : Addr) (p : Int × List Int), ts[i]? = some t → ps[i]? = some p → (∀ y ∈ ps, leP p y) → Q (.ref t) H
theorem reads_encP {P : Program} {w : World} {H : Hp} {h : Heap} (ok : HOk P w H h) {t : Addr} {p : Int × List Int} (e : NpAt H t p) : Reads h (.ref t) (encP p) [] := by
  obtain ⟨q, e1, e2⟩ := e
  obtain ⟨_, its, rv, o, ho, hc, n, hd⟩ := (show ObjOk P w H h t (.tup [.int p.1, .ref q]) from ok t _ e1)
  cases rv with
  | cons r1 r2 => cases r2 with
    | cons r3 r4 =>
      cases r4
      obtain ⟨tk, rfl⟩ := r1
      cases r3
      exact .tuple ho hc hd (.cons (.int _ _) (.cons (reads_encI ok e2) .nil))
theorem reads_allP {P : Program} {w : World} {H : Hp} {h : Heap} (ok : HOk P w H h) : ∀ {ts : List Addr} {ps : List (Int × List Int)}, Paired (NpAt H) ts ps → ReadsAll h (ts.map Value.ref) (ps.map encP) []
  | _, _, .nil => .nil
  | _, _, .cons f t => .cons (as := []) (bs := []) (reads_encP ok f) (reads_allP ok t)
theorem call_minNP {X : Cx} (hc : X.calm = true) (hu : X.A.units + 64 < cLine) : CallR X (.builtin "min") (MinNP X.K) := by
  intro pins s σ H xs us Q I r q
  obtain ⟨a, ts, ps, rfl, hs, hat, hne, hz, q⟩ := q
  obtain rfl := Vals.ref1 r
  obtain ⟨its, rv, pl, _⟩ := I.list hs
  obtain rfl := vals_of_refs rv
  have lt : ts.length = ps.length := Paired.length hat
  cases ps with
  | nil => exact (hne rfl).elim
  | cons p ps =>
    have dep : ∀ l : List (Int × List Int), PyData.depthAll (l.map encP) ≤ 2 := fun l => by
      induction l with
      | nil => exact Nat.zero_le _
      | cons y l ih =>
        rw [List.map_cons, PyData.depthAll]
        have : (encP y).depth ≤ 2 := by
          unfold encP encI
          rw [PyData.depth, PyData.depthAll, PyData.depthAll, PyData.depthAll, PyData.depth, PyData.depth, PySem.W.depth_ints]
          decide
        omega
    refine PySem.W.min_list_data (I.ok.hd hc) pl.isList (x := encP p) (xs := ps.map encP) (as := []) (by simpa using reads_allP I.hok hat) ⟨fun x hx y hy => ?_, fun x hx => ?_⟩ ?_ fun i v h' tk bs hv rd keep => ?_
    · rw [← List.map_cons] at hx hy
      obtain ⟨x, _, rfl⟩ := List.mem_map.mp hx
      obtain ⟨y, _, rfl⟩ := List.mem_map.mp hy
      show PySem.W.alikeAll [.int x.1, encI x.2] [.int y.1, encI y.2] = true
      have h2 : PySem.W.alike (encI x.2) (encI y.2) = true := by show PySem.W.alikeAll _ _ = true; exact PySem.W.alike_ints _ _
      simp only [PySem.W.alikeAll, PySem.W.alike, h2]
      rfl
    · rw [← List.map_cons] at hx
      obtain ⟨x, _, rfl⟩ := List.mem_map.mp hx
      exact fun z => nomatch z
    · have := dep (p :: ps)
      rw [List.map_cons] at this
      omega
    · have hv : (ts.map Value.ref)[i]? = some v := by simpa using hv
      rw [List.getElem?_map] at hv
      cases e : ts[i]? with
      | none => rw [e] at hv; cases hv
      | some t =>
        rw [e] at hv
        cases (Option.some.inj hv)
        have li := (List.getElem?_eq_some_iff.mp e).1
        have mz : (t, (p :: ps)[i]'(by omega)) ∈ ts.zip (p :: ps) := List.mem_iff_getElem?.mpr ⟨i, List.getElem?_zip_eq_some.mpr ⟨e, List.getElem?_eq_getElem _⟩⟩
        have nt : NpAt H t _ := paired_mem hat _ mz
        have I1 : Inv X pins σ H { s with heap := h', toks := tk } := I.kept keep
        have e2 := (Reads.unique (reads_encP I1.hok nt) _ _ rd).1
        rw [minP_data] at e2
        have e3 := encP_inj e2
        exact ⟨.ref t, H, I1, rfl, q i t _ e (by rw [List.getElem?_eq_getElem (by omega)]; exact congrArg some e3) (minP_le p ps)⟩
/-! ### d.items() of a dict with tuple keys, walked -/
theorem frz_tv {X : Cx} {pins : List (Addr × Obj)} {σ : L2.St} {H : Hp} {s : Shared} {d : Addr} {o : Obj} {kvs : List (List Key × V)} (I : Inv X pins σ H s) (h : H d = some (.frz o (.dT kvs))) :
    (d == sysModules) = false ∧ s.heap.get? d = some o ∧ o.ExactDict ∧ ∃ (es : Array DictEntry) (ep : Nat), o.data = .dict es ep ∧ es.size = kvs.length ∧
      ∀ (i : Nat) (k : List Key) (v : V), kvs[i]? = some (k, v) → ∃ (en : DictEntry) (q : Addr), es[i]? = some en ∧ en.key = .ref q ∧ H q = some (.tup (k.map kV)) ∧ RelV v en.val := by
  have ok := I.hok d _ h
  obtain ⟨h1, _, h2, zs, pr, o', es, ep, ho, hx, hdt, he, _⟩ := ok
  obtain rfl : o = o' := Option.some.inj (h1.symm.trans ho)
  have l1 : es.size = zs.length := size_of_entries he
  have l2 : kvs.length = zs.length := Paired.length pr
  refine ⟨h2, h1, hx, es, ep, hdt, l1.trans l2.symm, fun i k v e => ?_⟩
  obtain ⟨b, hb, _, e2, e3⟩ := paired_get pr e
  have at_ := entry_at he i
  rw [hb] at at_
  exact ⟨_, b.2.1, at_, rfl, e2, e3⟩
/-- the pairs, each a new tuple -/
def Itit (d : Addr) (o : Obj) (kvs : List (List Key × V)) : It where
  go := fun i H => H d = some (.frz o (.dT kvs)) ∧ i < kvs.length
  yld := fun i H x H' => ∃ (T q : Addr) (k : List Key) (v : V), kvs[i]? = some (k, v) ∧ H q = some (.tup (k.map kV)) ∧ x = .ref T ∧ H T = none ∧ H' = upd H T (.tup [.ref q, v])
  stop := fun i H => H d = some (.frz o (.dT kvs)) ∧ kvs.length ≤ i
theorem turn_itt {P : Program} {w : World} {K : PySem.W.Frag} {d : Addr} {o : Obj} {es : Array DictEntry} {ep : Nat} {kvs : List (List Key × V)} {elts : List Expr} {kk : Nat} {tpos : Pos} (it : Addr) (hod : o.data = .dict es ep) :
    Turn P w K (.Tuple elts kk tpos) (Itit d o kvs) [it] it (fun i h => ∃ ok ov, IsItemIter h it d i kvs.length ep ok ov) where
  mem := List.mem_singleton.mpr rfl
  obj := fun i h st b hb => by
    obtain rfl : b = it := List.mem_singleton.mp hb
    obtain ⟨ok, ov, e⟩ := st
    exact ⟨_, e, fun v z => nomatch z⟩
  keep := fun i h h' st k => st.imp fun ok st => st.imp fun ov e => k it (List.mem_singleton.mpr rfl) _ e
  self := fun A i s Q E st h => by
    obtain ⟨_, _, e⟩ := st
    exact PySem.W.kcp_self e h
  done := by
    rintro X rfl rfl rfl hc i pins s σ H E I hf ⟨ok, ov, he⟩ ⟨hd, hi⟩
    obtain ⟨f0, f1, f2, f3, f4, f5⟩ := hf it (List.mem_singleton.mpr rfl)
    obtain ⟨hs, hgd, hx, es', ep', hdt, hsz, ent⟩ := frz_tv I hd
    obtain ⟨rfl, rfl⟩ := dict_ep hod hdt
    rw [← hsz] at he hi
    exact DT.endI (I.ok.hd hc) he ⟨o, hgd, hx, hdt⟩ hi fun h' eb => ⟨rfl, I.turned (t' := s.toks) (fun b ob hb e => eb b ob hb e) f0 f1 f3 f4 f5⟩
  item := by
    rintro X rfl rfl rfl hc i pins s σ H E I hf ⟨ok, ov, he⟩ ⟨hd, hi⟩
    obtain ⟨f0, f1, f2, f3, f4, f5⟩ := hf it (List.mem_singleton.mpr rfl)
    obtain ⟨hs, hgd, hx, es', ep', hdt, hsz, ent⟩ := frz_tv I hd
    obtain ⟨rfl, rfl⟩ := dict_ep hod hdt
    obtain ⟨⟨k, v⟩, hkv⟩ : ∃ p, kvs[i]? = some p := ⟨kvs[i], List.getElem?_eq_getElem hi⟩
    obtain ⟨en, q, hen, hkey, hq, hval⟩ := ent i k v hkv
    rw [← hsz] at he
    have hi2 : i < es'.size := by rw [hsz]; exact hi
    have hen2 : es'[i] = en := Option.some.inj ((Array.getElem?_eq_getElem hi2).symm.trans hen)
    have hlt : it < s.heap.objs.size := Heap.lt_size he
    refine DT.nextI he ⟨o, hgd, hx, hdt⟩ hi2 fun h' ho hT hz hk => ?_
    rw [hen2, hkey] at ho hT
    refine ⟨_, rfl, wpAny_letOwnedTupleGo_items (s := { s with heap := h' }) ho fun h2 he2 sb => ?_⟩
    have hT2 : h2.get? s.heap.objs.size = some { cls := .type "tuple", data := .seq #[.ref q, en.val] } := (sb.2 _ (Nat.ne_of_gt hlt)).trans hT
    have ob : ObjOk X.prog X.w (upd H s.heap.objs.size (.tup [.ref q, v])) h2 s.heap.objs.size (.tup [.ref q, v]) := ⟨by show 2 ≤ sizeLine; decide, [.ref q, en.val], .cons rfl (.cons hval .nil), _, hT2, rfl, _, rfl⟩
    have I1 : Inv X pins σ (upd H s.heap.objs.size (.tup [.ref q, v])) { s with heap := h2 } :=
      I.turnedNew (t' := s.toks) (ch := [it]) (fun b ob hb e => (sb.2 b (fun z => hb (z ▸ List.mem_singleton.mpr rfl))).trans (hk b ob (fun z => hb (z ▸ List.mem_singleton.mpr rfl)) e)) hf (Nat.le_refl _) ob
    refine ⟨.ref s.heap.objs.size, _, I1, rfl, ⟨_, q, k, v, hkv, hq, rfl, I.hok.fresh (Nat.le_refl _), rfl⟩, ⟨.ref q, en.val, ?_⟩, fun b hb => ?_⟩
    · rw [← hsz]; exact he2
    · obtain rfl : b = it := List.mem_singleton.mp hb
      rw [upd_ne (Nat.ne_of_lt hlt)]
      exact f0
def iItemsT (td : TE) : TI := fun σ H R => td σ H fun x H1 => ∃ d o kvs, x = .ref d ∧ H1 d = some (.frz o (.dT kvs)) ∧ R (Itit d o kvs) H1
theorem pi_itemsT {X : Cx} {e : Expr} {td : TE} {apos cpos : Pos} {elts : List Expr} {kk : Nat} {tpos : Pos} (he : PE X e td) (hbase : attributeBase e "items" X.env (eval e X.env) = eval e X.env := by rfl) (hline : (apos.endLine == cpos.line) = true := by rfl) :
    PI X (.Tuple elts kk tpos) (.Call (.Attribute e "items" apos) [] [] cpos) (iItemsT td) := by
  constructor
  intro pins s σ H R I h
  refine wpAny_Call_method (T := "dict") (id := "dict.items") hbase rfl hline F.plainAttrs_dict F.slot_dict_items F.type_dict_items (thn (he.run pins s σ H _ I h) ?_)
  rintro u s1 ⟨_, H1, I1, rx, d, o, kvs, rfl, hd, q⟩
  obtain rfl : u = Value.ref d := rx
  obtain ⟨hs, hgd, hx, es, ep, hdt, hsz, ent⟩ := frz_tv I1 hd
  have raw : DT.Raw s1.heap d es ep := ⟨o, hgd, hx, hdt⟩
  refine ⟨raw.typeIs, fun b z => by cases z; exact ⟨o, hgd, hx.2.1⟩, ?_⟩
  have I2 : Inv X pins σ H1 { s1 with heap := s1.heap.push { cls := .type "dict_items", data := .fields #[.ref d] } } := I1.kept (t' := s1.toks) fun b ob q => Heap.get?_push_of_some _ q
  refine method_meetsIn F.slot_dict_items F.entry_dict_items rfl (PySem.evalArgs_none ⟨rfl, raw.typeIs, F.args_dict_items_1 _, _, DT.meetsItems (es := es) (ep := ep) hs, raw, ?_⟩)
  refine DT.iterI (d := d) ⟨_, Heap.get?_push_size _ rfl, rfl, rfl⟩ (raw.push _) (pi_one (tk := s1.toks) I2 _ (turn_itt _ hdt) ⟨.none, .none, ?_⟩ q)
  rw [← hsz]
  exact Heap.get?_push_size _ rfl
/-! ### del d[k], k a tuple -/
theorem meetsDelT {P : Program} {w : World} {d b : Addr} {k : List Key} :
    MeetsIn P w (Builtin.«dict.__delitem__» ⟨[.ref d, .ref b], []⟩) (fun A R s => ∃ xs, (tupleKind (mixKind P w)).room A.in1 ∧ (tupleKind (mixKind P w)).is s.heap k b ∧ s.heap.DictOfH (tupleKind (mixKind P w)) d xs ∧ xs.length ≤ sizeLine ∧ (atKey xs k).isSome = true ∧
      ∀ h' tk, h'.DictOfH (tupleKind (mixKind P w)) d (DT.dropH xs k) → Heap.SameBut d s.heap h' → R (.ok (.ret .none)) { s with heap := h', toks := tk }) := by
  refine .of_wp ?_
  rintro A R s ⟨xs, hu, hkey, hm, hsz, hsome, h⟩
  unfold Builtin.«dict.__delitem__»
  refine wpAny_bind ?_
  unfold Builtin.Dict.dictSlotArgs
  refine wpAny_bind (wpAny_notOrdered_dict hm.typeIs ?_)
  show wpAny _ _ (pure (Value.ref d, Value.ref b)) _ _ s
  refine wpAny_pure ?_
  show wpAny _ _ (Builtin.Dict.takeOut d (.ref b) >>= _) _ _ s
  refine wpAny_bind (DT.takeH hu hkey hm hsz (fun e => ?_) fun p e hp hev h' hm' hs' => ?_)
  · rw [e] at hsome; cases hsome
  · refine wpAny_bind (wpAny_letGo (wpAny_pure ⟨.none, rfl, h h' _ hm' hs'⟩))
def DelX (x y : V) (H2 : Hp) (R : Hp → Prop) : Prop := ∃ a kvs k b, x = .ref a ∧ y = .ref b ∧ H2 a = some (.dT kvs) ∧ H2 b = some (.tup (k.map kV)) ∧ (valV kvs k).isSome = true ∧ R (upd H2 a (.dT (dropK kvs k)))
def sDelT (td ty : TE) : TS := fun D σ H => td σ H fun x H1 => ty σ H1 fun y H2 => DelX x y H2 (D.nx σ)
theorem ps_delT {X : Cx} {o i : Expr} {td ty : TE} {tpos pos : Pos} (hu : X.A.units + 1 < cLine) (ho : PE X o td) (hi : PE X i ty) : PS X (.Delete [.Subscript o i tpos] pos) (sDelT td ty) := by
  constructor
  intro pins s σ H D I h
  refine wpAny_Delete (wpAny_deleteEach_cons (wpAny_delete_Subscript (thn (ho.run pins s σ H _ I h) ?_)))
  rintro u s1 ⟨x, H1, I1, rx, q1⟩
  refine thn (hi.run pins s1 σ H1 _ I1 q1) ?_
  rintro iv s2 ⟨y, H2, I2, ry, a, kvs, k, b, rfl, rfl, e, eb, l, q2⟩
  obtain rfl : u = Value.ref a := rx
  obtain rfl : iv = Value.ref b := ry
  obtain ⟨z, hd, xs, rel, dd⟩ := dt_of I2.hok e
  have r := rel.val k
  have there : (atKey xs k).isSome = true := by
    cases ev : valV kvs k with
    | none => rw [ev] at l; cases l
    | some v0 =>
      rw [ev] at r
      cases ea : atKey xs k with
      | none => rw [ea] at r; exact (show False from r).elim
      | some p => rfl
  refine wpAny_delItem_slot dd.typeIs (by decide) PySem.F.slot_dict_delitem
    (call_meetsIn PySem.F.slot_dict_delitem dd.typeIs PySem.F.entry_dict_delitem (PySem.F.args_dict_delitem_2 _ _) (meetsDelT (k := k))
      ⟨xs, tupleKind_room_in1 hu, key_of I2.hok eb, dd, by rw [← Paired.length rel]; exact z, there, fun h' tk dd' hs => ?_⟩)
  obtain ⟨q, es, ep, hq, g2, g3, g4, _, g5⟩ := dd'
  have I3 : Inv X pins σ (upd H2 a (.dT (dropK kvs k))) { s2 with heap := h', toks := tk } := d_write I2 (by rw [e]; exact True.intro) hs ⟨q, hq⟩ ⟨Nat.le_trans (dropK_le kvs k) z, hd, _, (DX.KT_drop k rel).keeps (fun c ys ec => by
    rw [upd_ne (ne_of ec e (fun z => nomatch z))]
    exact ec), q, es, ep, hq, g2, g3, g4, g5⟩
  exact wpAny_deleteEach_nil ⟨σ, _, I3, q2⟩
/-! ### comprehensions that only read, over anything that is walked -/
def NoT (M : Hp) : Prop := ∀ a xs, M a ≠ some (.tup xs)
theorem NoT.emp : NoT (fun _ => none) := fun _ _ e => nomatch e
theorem NoT.upd {M : Hp} {a : Addr} {o : HO} (h : NoT M) (ho : ∀ xs, o ≠ .tup xs) : NoT (upd M a o) := fun b xs e => by
  by_cases q : b = a
  · subst q; rw [upd_same] at e; exact ho xs (Option.some.inj e)
  · rw [upd_ne q] at e; exact h b xs e
theorem NoT.updL {M : Hp} {a : Addr} {x : List V} (h : NoT M) : NoT (L2.upd M a (.lst x)) := h.upd fun _ z => nomatch z
theorem NoT.updK {M : Hp} {a : Addr} {x : List (Key × V)} (h : NoT M) : NoT (L2.upd M a (.dK x)) := h.upd fun _ z => nomatch z
theorem NoT.updT {M : Hp} {a : Addr} {x : List (List Key × V)} (h : NoT M) : NoT (L2.upd M a (.dT x)) := h.upd fun _ z => nomatch z
theorem NoT.updI {M : Hp} {a C dx : Addr} {x : List (Str × V)} (h : NoT M) : NoT (L2.upd M a (.ins C dx x)) := h.upd fun _ z => nomatch z
theorem NoT.updF {M : Hp} {a : Addr} {o : Obj} {u : HO} (h : NoT M) : NoT (L2.upd M a (.frz o u)) := h.upd fun _ z => nomatch z
theorem NoT.ag {M M' : Hp} {p : Addr} {o : HO} (h : NoT M) (a : Ag p M M') (e : M' p = some o) (ho : ∀ xs, o ≠ .tup xs) : NoT M' := fun b xs e2 => by
  by_cases q : b = p
  · subst q; rw [e] at e2; exact ho xs (Option.some.inj e2)
  · rw [a b q] at e2; exact h b xs e2
theorem J.adopt {M G H : Hp} {q : Addr} {xs : List V} (j : J M G H) (n : NoT M) (h : H q = some (.tup xs)) : ∃ G', J M G' H ∧ Ex G G' ∧ G' q = some (.tup xs) := by
  cases e : G q with
  | some o =>
    have := j.g q o e
    rw [h] at this
    exact ⟨G, j, Same.refl G, by rw [e, this]⟩
  | none =>
    refine ⟨upd G q (.tup xs), ⟨j.m, fun a u e2 => ?_, fun a u e2 => ?_⟩, Ex.new e, upd_same⟩
    · by_cases z : a = q
      · subst z; rw [upd_same] at e2; rw [← e2]; exact h
      · rw [upd_ne z] at e2; exact j.g a u e2
    · by_cases z : a = q
      · subst z
        have := j.m a u e2
        rw [h] at this
        rw [← Option.some.inj this] at e2
        exact (n _ _ e2).elim
      · rw [upd_ne z]; exact j.d a u e2
section
variable {K : PySem.W.Frag} {M G H : Hp} {σ : L2.St} {Q : VK} {g : TG} {tt : TT} {te tl td : TE} {vs : List Nat} {J' : It} {n : Nat} {GG : Hp → Prop} {Y : Nat → Hp → V → Hp → Prop} {R : Nat → List V → Hp → Prop} {L a d : Addr} {k : Nat} {acc xs : List V} {y : V}
def RoI (M G : Hp) (R : Nat → List V → Hp → Prop) (L : Addr) (k : Nat) (H : Hp) : Prop := ∃ acc G1, J (upd M L (.lst acc)) G1 H ∧ Ex G G1 ∧ R k acc G1
def RoAdd (M G : Hp) (R : Nat → List V → Hp → Prop) (L : Addr) (k : Nat) : VK := fun y H5 => ∃ acc', H5 L = some (.lst acc') ∧ acc'.length < sizeLine ∧ RoI M G R L k (upd H5 L (.lst (acc' ++ [y])))
theorem ro_add {G2 H5 : Hp} (j : J (upd M L (.lst acc)) G2 H5) (e : Ex G G2) (z : acc.length < 1000000) (r : R k (acc ++ [y]) G2) : RoAdd M G R L k y H5 :=
  ⟨acc, j.m _ _ upd_same, sz_lt z, acc ++ [y], G2, by have := j.put (o' := .lst (acc ++ [y])) upd_same; rw [upd_upd] at this; exact this, e, r⟩
theorem ro_skip {G2 H5 : Hp} (j : J (upd M L (.lst acc)) G2 H5) (e : Ex G G2) (r : R k acc G2) : RoI M G R L k H5 := ⟨acc, G2, j, e, r⟩
theorem lcd_ro (w : Walk J' n GG Y) (j : J M G H) (R : Nat → List V → Hp → Prop) (h0 : R 0 [] G) (hG : ∀ H1, Same M H1 → Same G H1 → GG H1)
    (hs : ∀ L i x acc G1 H1 H2, i < n → M L = none → J (upd M L (.lst acc)) G1 H1 → Ex G G1 → R i acc G1 → Y i H1 x H2 → g x (wipe σ vs) H2 fun σ2 H3 => wipe σ2 vs = wipe σ vs ∧ tt σ2 H3 fun b H4 => if b = true then te σ2 H4 (RoAdd M G R L (i + 1)) else RoI M G R L (i + 1) H4)
    (hd : ∀ L acc G1 G2 H1, J M G2 H1 → Ex G G1 → Ex G1 G2 → G2 L = some (.lst acc) → R n acc G1 → Q (.ref L) H1) : LcD J' g tt te vs σ H Q := fun L hL => by
  have nM := j.freeM hL
  have nG := j.freeG hL
  refine lc_it w (fun i H => RoI M G R L i H) ⟨[], G, j.newM hL, Same.refl G, h0⟩ (fun i H1 _ p => ?_) (fun i x H1 H2 hi p y => ?_) (fun H1 p => ?_)
  · obtain ⟨acc, G1, j1, e1, _⟩ := p
    exact hG H1 (fun b u e => j1.m b u (upd_ne' e (ne_of_none e nM))) (e1.trans j1.g)
  · obtain ⟨acc, G1, j1, e1, r⟩ := p
    exact hs L i x acc G1 H1 H2 hi nM j1 e1 r y
  · obtain ⟨acc, G1, j1, e1, r⟩ := p
    exact hd L acc G1 _ H1 (j1.freeze nM) e1 (Ex.new j1.freezeG) upd_same r
/-- over a tuple -/
def LcT (K : PySem.W.Frag) (g : TG) (tt : TT) (te : TE) (vs : List Nat) (σ : L2.St) (x : V) (H1 : Hp) (Q : VK) : Prop := ∃ a, x = .ref a ∧ (∃ xs, SqT K H1 a xs) ∧ LcD (Itt K a) g tt te vs σ H1 Q
theorem w_lcT (h : tl σ H fun x H1 => LcT K g tt te vs σ x H1 Q) : tLc (iTup K tl) g tt te vs σ H Q := h
theorem w_lcTro (j : J M G H) (hx : SqT K G a xs) (R : Nat → List V → Hp → Prop) (h0 : R 0 [] G)
    (hs : ∀ L i x acc G1 H1, xs[i]? = some x → M L = none → J (upd M L (.lst acc)) G1 H1 → Ex G G1 → R i acc G1 → g x (wipe σ vs) H1 fun σ2 H3 => wipe σ2 vs = wipe σ vs ∧ tt σ2 H3 fun b H4 => if b = true then te σ2 H4 (RoAdd M G R L (i + 1)) else RoI M G R L (i + 1) H4)
    (hd : ∀ L acc G1 G2 H1, J M G2 H1 → Ex G G1 → Ex G1 G2 → G2 L = some (.lst acc) → R xs.length acc G1 → Q (.ref L) H1) : LcT K g tt te vs σ (.ref a) H Q :=
  ⟨a, rfl, ⟨xs, st_mono j.g hx⟩, lcd_ro walk_tup j R h0 (fun H1 _ e => st_mono e hx) (fun L i x acc G1 H1 H2 _ nM j1 e1 r y => by obtain ⟨rfl, hy⟩ := y; exact hs L i x acc G1 _ hy nM j1 e1 r) hd⟩
/-- over a list that stands -/
theorem w_lcLro (j : J M G H) (hx : SqL K G a xs) (R : Nat → List V → Hp → Prop) (h0 : R 0 [] G)
    (hs : ∀ L i x acc G1 H1, xs[i]? = some x → M L = none → J (upd M L (.lst acc)) G1 H1 → Ex G G1 → R i acc G1 → g x (wipe σ vs) H1 fun σ2 H3 => wipe σ2 vs = wipe σ vs ∧ tt σ2 H3 fun b H4 => if b = true then te σ2 H4 (RoAdd M G R L (i + 1)) else RoI M G R L (i + 1) H4)
    (hd : ∀ L acc G1 G2 H1, J M G2 H1 → Ex G G1 → Ex G1 G2 → G2 L = some (.lst acc) → R xs.length acc G1 → Q (.ref L) H1) : LcL K g tt te vs σ (.ref a) H Q :=
  ⟨a, rfl, ⟨xs, sl_mono j.g hx⟩, lcd_ro walk_list j R h0 (fun H1 _ e => sl_mono e hx) (fun L i x acc G1 H1 H2 _ nM j1 e1 r y => by obtain ⟨rfl, hy⟩ := y; exact hs L i x acc G1 _ hy nM j1 e1 r) hd⟩
/-- over the pairs of a locked dict with tuple keys -/
def LcIT (g : TG) (tt : TT) (te : TE) (vs : List Nat) (σ : L2.St) (x : V) (H1 : Hp) (Q : VK) : Prop := ∃ d o kvs, x = .ref d ∧ H1 d = some (.frz o (.dT kvs)) ∧ LcD (Itit d o kvs) g tt te vs σ H1 Q
theorem w_lcIT (h : td σ H fun x H1 => LcIT g tt te vs σ x H1 Q) : tLc (iItemsT td) g tt te vs σ H Q := h
theorem walk_itt {o : Obj} {kvs : List (List Key × V)} : Walk (Itit d o kvs) kvs.length (fun H => H d = some (.frz o (.dT kvs))) (fun i H x H' => ∃ (T q : Addr) (k : List Key) (v : V), kvs[i]? = some (k, v) ∧ H q = some (.tup (k.map kV)) ∧ x = .ref T ∧ H T = none ∧ H' = upd H T (.tup [.ref q, v])) :=
  ⟨fun _ _ hi q => ⟨q, hi⟩, fun _ q => ⟨q, Nat.le_refl _⟩, fun _ _ _ _ _ _ y => y⟩
theorem w_lcITro {o : Obj} {kvs : List (List Key × V)} (j : J M G H) (nt : NoT M) (hx : M d = some (.frz o (.dT kvs))) (R : Nat → List V → Hp → Prop) (h0 : R 0 [] G)
    (hs : ∀ L i T q k v acc G1 G2 H1, kvs[i]? = some (k, v) → M L = none → J (upd M L (.lst acc)) G2 H1 → Ex G G1 → Ex G1 G2 → R i acc G1 → G2 T = some (.tup [.ref q, v]) → G2 q = some (.tup (k.map kV)) → g (.ref T) (wipe σ vs) H1 fun σ2 H3 => wipe σ2 vs = wipe σ vs ∧ tt σ2 H3 fun b H4 => if b = true then te σ2 H4 (RoAdd M G R L (i + 1)) else RoI M G R L (i + 1) H4)
    (hd : ∀ L acc G1 G2 H1, J M G2 H1 → Ex G G1 → Ex G1 G2 → G2 L = some (.lst acc) → R kvs.length acc G1 → Q (.ref L) H1) : LcIT g tt te vs σ (.ref d) H Q := by
  refine ⟨d, o, kvs, rfl, j.m _ _ hx, lcd_ro walk_itt j R h0 (fun H1 e _ => e _ _ hx) (fun L i x acc G1 H1 H2 _ nM j1 e1 r y => ?_) hd⟩
  obtain ⟨T, q, k, v, hkv, hq, rfl, hT, rfl⟩ := y
  obtain ⟨G2, j2, e2, hq2⟩ := j1.adopt (nt.upd fun _ z => nomatch z) hq
  have j3 := j2.newG (o := .tup [.ref q, v]) hT
  have e3 : Ex G2 (upd G2 T (.tup [.ref q, v])) := Ex.new (j2.freeG hT)
  exact hs L i T q k v acc G1 _ _ hkv nM j3 e1 (e2.trans e3) r upd_same (e3 _ _ hq2)
/-- over the pairs of a locked dict with plain keys -/
def LcIK (g : TG) (tt : TT) (te : TE) (vs : List Nat) (σ : L2.St) (x : V) (H1 : Hp) (Q : VK) : Prop := ∃ d o kvs, x = .ref d ∧ H1 d = some (.frz o (.dK kvs)) ∧ LcD (Iti d o kvs) g tt te vs σ H1 Q
theorem w_lcIK (h : td σ H fun x H1 => LcIK g tt te vs σ x H1 Q) : tLc (iItems td) g tt te vs σ H Q := h
/-- over the keys of a locked dict -/
def LcKy (g : TG) (tt : TT) (te : TE) (vs : List Nat) (σ : L2.St) (x : V) (H1 : Hp) (Q : VK) : Prop := ∃ d o, x = .ref d ∧ ((∃ kvs, H1 d = some (.frz o (.dK kvs)) ∧ LcD (Itk d o kvs) g tt te vs σ H1 Q) ∨ ∃ kvs, H1 d = some (.frz o (.dT kvs)) ∧ LcD (Itkt d o kvs) g tt te vs σ H1 Q)
theorem w_lcKy (h : td σ H fun x H1 => LcKy g tt te vs σ x H1 Q) : tLc (iKeys td) g tt te vs σ H Q := h
theorem w_lcKyTro {o : Obj} {kvs : List (List Key × V)} (j : J M G H) (nt : NoT M) (hx : M d = some (.frz o (.dT kvs))) (R : Nat → List V → Hp → Prop) (h0 : R 0 [] G)
    (hs : ∀ L i q k v acc G1 G2 H1, kvs[i]? = some (k, v) → M L = none → J (upd M L (.lst acc)) G2 H1 → Ex G G1 → Ex G1 G2 → R i acc G1 → G2 q = some (.tup (k.map kV)) → g (.ref q) (wipe σ vs) H1 fun σ2 H3 => wipe σ2 vs = wipe σ vs ∧ tt σ2 H3 fun b H4 => if b = true then te σ2 H4 (RoAdd M G R L (i + 1)) else RoI M G R L (i + 1) H4)
    (hd : ∀ L acc G1 G2 H1, J M G2 H1 → Ex G G1 → Ex G1 G2 → G2 L = some (.lst acc) → R kvs.length acc G1 → Q (.ref L) H1) : LcKy g tt te vs σ (.ref d) H Q := by
  refine ⟨d, o, rfl, .inr ⟨kvs, j.m _ _ hx, lcd_ro walk_keysT j R h0 (fun H1 e _ => e _ _ hx) (fun L i x acc G1 H1 H2 _ nM j1 e1 r y => ?_) hd⟩⟩
  obtain ⟨rfl, k, v, q, hkv, rfl, hq⟩ := y
  obtain ⟨G2, j2, e2, hq2⟩ := j1.adopt (nt.upd fun _ z => nomatch z) hq
  exact hs L i q k v acc G1 _ _ hkv nM j2 e1 e2 r hq2
/-! locks -/
theorem upd_back {M : Hp} {d : Addr} {o u : HO} (h : M d = some u) : upd (upd M d o) d u = M := by
  funext b
  by_cases q : b = d
  · subst q; rw [upd_same, h]
  · rw [upd_ne q, upd_ne q]
theorem w_lockS {t : TS} {D : Ends} {u : HO} (j : J M G H) (h : M d = some u) (mu : Mut (some u)) (k : ∀ od H1, J (upd M d (.frz od u)) G H1 →
      t ⟨fun σ' H' => H' d = some (.frz od u) ∧ D.nx σ' (upd H' d u), fun v H' => H' d = some (.frz od u) ∧ D.rt v (upd H' d u), fun σ' H' => H' d = some (.frz od u) ∧ D.bk σ' (upd H' d u), fun σ' H' => H' d = some (.frz od u) ∧ D.ct σ' (upd H' d u)⟩ σ H1) : tLock t D σ H :=
  ⟨d, u, j.m _ _ h, mu, fun od => k od _ (j.put h)⟩
theorem w_lockE {t : TE} {u : HO} (j : J M G H) (h : M d = some u) (mu : Mut (some u)) (k : ∀ od H1, J (upd M d (.frz od u)) G H1 → t σ H1 fun v H' => H' d = some (.frz od u) ∧ Q v (upd H' d u)) : tLockE t σ H Q :=
  ⟨d, u, j.m _ _ h, mu, fun od => k od _ (j.put h)⟩
theorem w_unlock {u : HO} {od : Obj} {A : Hp → Prop} (j : J (upd M d (.frz od u)) G H) (h : M d = some u) (k : ∀ H2, J M G H2 → A H2) : H d = some (.frz od u) ∧ A (upd H d u) :=
  ⟨j.m _ _ upd_same, k _ (by have := j.put (o' := u) upd_same; rw [upd_back h] at this; exact this)⟩
/-! two clauses, both over tuples -/
def Lc2T (K : PySem.W.Frag) (g : TG) (tt : TT) (wi1 : TI) (g1 : TG) (tt1 : TT) (te : TE) (vs vs1 : List Nat) (σ : L2.St) (x : V) (H1 : Hp) (Q : VK) : Prop := ∃ a, x = .ref a ∧ (∃ xs, SqT K H1 a xs) ∧ ∀ D, H1 D = none → ∃ W : Nat → Nat → Hp → Prop, (∃ m, W 0 m (upd H1 D (.lst []))) ∧ ∀ i m H, W i m H →
  ((Itt K a).stop i H ∧ Q (.ref D) H) ∨ ((Itt K a).go i H ∧ ∃ Nx : Hp → Prop, (∀ H', Nx H' → ∃ m', m' < m ∧ W (i + 1) m' H') ∧ ∀ x H', (Itt K a).yld i H x H' → g x (wipe σ vs) H' fun σ2 H2 => wipe σ2 vs = wipe σ vs ∧ tt σ2 H2 fun b H3 =>
    if b = true then wi1 σ2 H3 fun J1 H4 => ∃ W1 : Nat → Nat → Hp → Prop, (∃ m, W1 0 m H4) ∧ ∀ j k H, W1 j k H →
      (J1.stop j H ∧ Nx H) ∨ (J1.go j H ∧ ∃ Nx1 : Hp → Prop, (∀ H', Nx1 H' → ∃ k', k' < k ∧ W1 (j + 1) k' H') ∧ ∀ x H', J1.yld j H x H' → g1 x (wipe σ2 vs1) H' fun σ3 H5 => wipe σ3 vs1 = wipe σ2 vs1 ∧ tt1 σ3 H5 fun b H6 =>
        if b = true then te σ3 H6 fun y H7 => ∃ acc, H7 D = some (.lst acc) ∧ acc.length < sizeLine ∧ Nx1 (upd H7 D (.lst (acc ++ [y]))) else Nx1 H6)
    else Nx H3)
theorem w_lc2T {wi1 : TI} {g1 : TG} {tt1 : TT} {vs1 : List Nat} (h : tl σ H fun x H1 => Lc2T K g tt wi1 g1 tt1 te vs vs1 σ x H1 Q) : tLc2 (iTup K tl) g tt wi1 g1 tt1 te vs vs1 σ H Q := h
/-- the second one's turns -/
def In2 (K : PySem.W.Frag) (g1 : TG) (tt1 : TT) (te : TE) (vs1 : List Nat) (M G : Hp) (R : Nat → List V → Hp → Prop) (L : Addr) (i : Nat) (σ2 : L2.St) (x : V) (H4 : Hp) : Prop := ∃ b, x = .ref b ∧ (∃ ys, SqT K H4 b ys) ∧ ∃ W1 : Nat → Nat → Hp → Prop, (∃ m, W1 0 m H4) ∧ ∀ j k H, W1 j k H →
  ((Itt K b).stop j H ∧ RoI M G R L (i + 1) H) ∨ ((Itt K b).go j H ∧ ∃ Nx1 : Hp → Prop, (∀ H', Nx1 H' → ∃ k', k' < k ∧ W1 (j + 1) k' H') ∧ ∀ x H', (Itt K b).yld j H x H' → g1 x (wipe σ2 vs1) H' fun σ3 H5 => wipe σ3 vs1 = wipe σ2 vs1 ∧ tt1 σ3 H5 fun b H6 =>
    if b = true then te σ3 H6 fun y H7 => ∃ acc, H7 L = some (.lst acc) ∧ acc.length < sizeLine ∧ Nx1 (upd H7 L (.lst (acc ++ [y]))) else Nx1 H6)
theorem w_lc2Tro {td1 : TE} {g1 : TG} {tt1 : TT} {vs1 : List Nat} (j : J M G H) (hx : SqT K G a xs) (R : Nat → List V → Hp → Prop) (h0 : R 0 [] G)
    (hs : ∀ L i x acc G1 H1, xs[i]? = some x → M L = none → J (upd M L (.lst acc)) G1 H1 → Ex G G1 → R i acc G1 → g x (wipe σ vs) H1 fun σ2 H3 => wipe σ2 vs = wipe σ vs ∧ tt σ2 H3 fun b H4 => if b = true then td1 σ2 H4 (In2 K g1 tt1 te vs1 M G R L i σ2) else RoI M G R L (i + 1) H4)
    (hd : ∀ L acc G1 G2 H1, J M G2 H1 → Ex G G1 → Ex G1 G2 → G2 L = some (.lst acc) → R xs.length acc G1 → Q (.ref L) H1) : Lc2T K g tt (iTup K td1) g1 tt1 te vs vs1 σ (.ref a) H Q := by
  refine ⟨a, rfl, ⟨xs, st_mono j.g hx⟩, fun L hL => ⟨fun i m H1 => m = xs.length - i ∧ i ≤ xs.length ∧ RoI M G R L i H1, ⟨_, rfl, Nat.zero_le _, [], G, j.newM hL, Same.refl G, h0⟩, ?_⟩⟩
  have nM := j.freeM hL
  rintro i m H1 ⟨rfl, hi, acc, G1, j1, e1, r⟩
  have q1 : SqT K H1 a xs := st_mono (e1.trans j1.g) hx
  by_cases hlt : i < xs.length
  · refine .inr ⟨⟨xs, xs[i], q1, by simp [hlt]⟩, RoI M G R L (i + 1), fun H' p' => ⟨xs.length - (i + 1), by omega, rfl, hlt, p'⟩, fun x H2 y => ?_⟩
    obtain ⟨rfl, hy⟩ := y
    exact hs L i x acc G1 _ (hy xs q1) nM j1 e1 r
  · have e : i = xs.length := by omega
    subst e
    exact .inl ⟨⟨xs, q1, Nat.le_refl _⟩, hd L acc G1 _ H1 (j1.freeze nM) e1 (Ex.new j1.freezeG) upd_same r⟩
theorem w_in2 {g1 : TG} {tt1 : TT} {vs1 : List Nat} {G1 : Hp} {b : Addr} {ys : List V} {i : Nat} {σ2 : L2.St} (j : J (upd M L (.lst acc)) G1 H) (e : Ex G G1) (hy : SqT K G1 b ys) (R1 : Nat → List V → Hp → Prop) (h0 : R1 0 acc G1)
    (hs : ∀ k y acc G2 H1, ys[k]? = some y → J (upd M L (.lst acc)) G2 H1 → Ex G1 G2 → R1 k acc G2 → g1 y (wipe σ2 vs1) H1 fun σ3 H5 => wipe σ3 vs1 = wipe σ2 vs1 ∧ tt1 σ3 H5 fun b H6 => if b = true then te σ3 H6 (RoAdd M G1 R1 L (k + 1)) else RoI M G1 R1 L (k + 1) H6)
    (hd : ∀ acc G2, Ex G1 G2 → R1 ys.length acc G2 → R (i + 1) acc G2) : In2 K g1 tt1 te vs1 M G R L i σ2 (.ref b) H := by
  refine ⟨b, rfl, ⟨ys, st_mono j.g hy⟩, fun k m H1 => m = ys.length - k ∧ k ≤ ys.length ∧ RoI M G1 R1 L k H1, ⟨_, rfl, Nat.zero_le _, acc, G1, j, Same.refl G1, h0⟩, ?_⟩
  rintro k m H1 ⟨rfl, hk, acc2, G2, j2, e2, r⟩
  have q1 : SqT K H1 b ys := st_mono (e2.trans j2.g) hy
  by_cases hlt : k < ys.length
  · refine .inr ⟨⟨ys, ys[k], q1, by simp [hlt]⟩, RoI M G1 R1 L (k + 1), fun H' p' => ⟨ys.length - (k + 1), by omega, rfl, hlt, p'⟩, fun x H2 y => ?_⟩
    obtain ⟨rfl, hy2⟩ := y
    exact hs k x acc2 G2 _ (hy2 ys q1) j2 e2 r
  · have e3 : k = ys.length := by omega
    subst e3
    exact .inl ⟨⟨ys, q1, Nat.le_refl _⟩, acc2, G2, j2, e.trans e2, hd acc2 G2 e2 r⟩
end
/-! ### words over lists of truth values, pairs, versions -/
theorem bt_any : bootBuiltins "any" = some (.builtin "any") := by decide +kernel
theorem bt_all : bootBuiltins "all" = some (.builtin "all") := by decide +kernel
section
variable {X : Cx} {K : PySem.W.Frag}
theorem call_anyK (h : X.K = K) (hc : X.calm = true) : CallR X (.builtin "any") (rAny K) := h ▸ cr_any hc
theorem call_allK (h : X.K = K) (hc : X.calm = true) : CallR X (.builtin "all") (rAll K) := h ▸ cr_all hc
theorem call_minNPK (h : X.K = K) (hc : X.calm = true) (hu : X.A.units + 64 < cLine) : CallR X (.builtin "min") (MinNP K) := h ▸ call_minNP hc hu
theorem call_sortTVK (h : X.K = K) (hu : X.A.units + 64 < cLine) : CallR X (.builtin "sorted") (SortTV K) := h ▸ call_sortTV hu
end
section
variable {K : PySem.W.Frag} {M G H : Hp} {Q : VK} {a q : Addr} {σ : L2.St}
theorem w_any {bs : List Bool} (j : J M G H) (h : SqL K G a (bs.map V.bl)) (k : Q (.bl (bs.any id)) H) : rAny K [.ref a] H Q := ⟨a, bs, rfl, sl_mono j.g h, k⟩
theorem w_all {bs : List Bool} (j : J M G H) (h : SqL K G a (bs.map V.bl)) (k : Q (.bl (bs.all id)) H) : rAll K [.ref a] H Q := ⟨a, bs, rfl, sl_mono j.g h, k⟩
def AtG (G : Hp) (qs : List Addr) (ds : List (List Int)) : Prop := Paired (fun q d => G q = some (.tup (d.map V.int))) qs ds
/-- tuples that the heap holds are taken in -/
theorem adoptAll {α : Type} {f : α → List V} : ∀ {qs : List Addr} {ds : List α} {M G H : Hp}, J M G H → NoT M → Paired (fun q d => H q = some (.tup (f d))) qs ds → ∃ G', J M G' H ∧ Ex G G' ∧ Paired (fun q d => G' q = some (.tup (f d))) qs ds
  | _, _, _, G, _, j, _, .nil => ⟨G, j, Same.refl G, .nil⟩
  | _, _, _, _, _, j, n, .cons h t => by
    obtain ⟨G1, j1, e1, p1⟩ := adoptAll j n t
    obtain ⟨G2, j2, e2, p2⟩ := j1.adopt n h
    exact ⟨G2, j2, e1.trans e2, .cons p2 (L2.Paired.mapP p1 fun _ _ h => e2 _ _ h)⟩
theorem w_sortDT {kvs : List (List Key × V)} {ds : List (List Int)} (j : J M G H) (nt : NoT M) (h : M a = some (.dT kvs)) (e : kvs.map (·.1) = ds.map ky) (hn : ∀ d ∈ ds, d ≠ []) (z : ds.length ≤ 1000000)
    (k : ∀ qs p G' H', J M G' H' → Ex G G' → G' p = some (.lst (qs.map V.ref)) → AtG G' qs (srt ds) → Q (.ref p) H') : SortDT [.ref a] H Q :=
  ⟨a, kvs, ds, rfl, .inl (j.m _ _ h), e, hn, z, fun qs p hq hp => by
    obtain ⟨G1, j1, e1, p1⟩ := adoptAll (f := fun d : List Int => d.map V.int) j nt hq
    have hp1 := j1.freeG hp
    exact k qs p _ _ (j1.newG hp) (e1.trans (Ex.new hp1)) upd_same (L2.Paired.mapP p1 fun _ _ h => Ex.new hp1 _ _ h)⟩
theorem w_minNP {ts : List Addr} {ps : List (Int × List Int)} (j : J M G H) (h : SqL K G a (ts.map V.ref)) (hp : Paired (NpAt G) ts ps) (hn : ps ≠ []) (z : ps.length ≤ 1000000)
    (k : ∀ (i : Nat) t p, ts[i]? = some t → ps[i]? = some p → NpAt G t p → (∀ y ∈ ps, leP p y) → Q (.ref t) H) : MinNP K [.ref a] H Q :=
  ⟨a, ts, ps, rfl, sl_mono j.g h, L2.Paired.mapP hp fun _ _ ⟨q, h1, h2⟩ => ⟨q, j.g _ _ h1, j.g _ _ h2⟩, hn, z, fun i t p ht hm hl => k i t p ht hm (paired_mem hp (t, p) (List.mem_iff_getElem?.mpr ⟨i, List.getElem?_zip_eq_some.mpr ⟨ht, hm⟩⟩)) hl⟩
theorem w_sortTV {ts : List Addr} {ps : List (Int × Option Int)} (j : J M G H) (nt : NoT M) (h : SqL K G a (ts.map V.ref)) (hp : Paired (TvAt G) ts ps) (hn : (ps.map (·.1)).Nodup) (z : ps.length ≤ 1000000)
    (k : ∀ ts' p G' H', J M G' H' → Ex G G' → G' p = some (.lst (ts'.map V.ref)) → Paired (TvAt G') ts' (srtT ps) → Q (.ref p) H') : SortTV K [.ref a] H Q :=
  ⟨a, ts, ps, rfl, sl_mono j.g h, L2.Paired.mapP hp fun _ _ h => j.g _ _ h, hn, z, fun ts' p hq hp => by
    obtain ⟨G1, j1, e1, p1⟩ := adoptAll (f := fun p : Int × Option Int => [V.int p.1, ovV p.2]) j nt hq
    have hp1 := j1.freeG hp
    exact k ts' p _ _ (j1.newG hp) (e1.trans (Ex.new hp1)) upd_same (L2.Paired.mapP p1 fun _ _ h => Ex.new hp1 _ _ h)⟩
end

theorem w_dnewT {σ : L2.St} {H : Hp} {Q : VK} (h : NewO (.dT []) 0 H Q) : tDNewT σ H Q := h.2
theorem upd_pre {M : Hp} {p r : Addr} {o1 o2 o3 : HO} (h : p ≠ r) : upd (upd (upd M p o1) r o2) p o3 = upd (upd M r o2) p o3 := by
  funext a
  by_cases q : a = p
  · rw [q, upd_same, upd_same]
  · rw [upd_ne q, upd_ne q]
    by_cases q2 : a = r
    · rw [q2, upd_same, upd_same]
    · rw [upd_ne q2, upd_ne q2, upd_ne q]
theorem none_upd {M : Hp} {a b : Addr} {o : HO} (h : upd M a o b = none) : b ≠ a ∧ M b = none := by
  by_cases q : b = a
  · subst q; rw [upd_same] at h; cases h
  · rw [upd_ne q] at h; exact ⟨q, h⟩
local macro_rules
  | `(tactic| walk_at "v") => `(tactic| first
    | with_reducible refine w_dnewT ?_
    | with_reducible refine w_yes ?_
    | with_reducible refine w_lcT ?_
    | with_reducible refine w_lcIT ?_
    | with_reducible refine w_lcIK ?_
    | with_reducible refine w_lcKy ?_
    | with_reducible refine w_lc2T ?_)
/-! ### are_same: data without truth values, any other data -/
theorem ps_no {X : Cx} {st : Stmt} : PS X st (fun _ _ _ => False) := ⟨fun _ _ _ _ _ _ h => h.elim⟩
theorem tk1 {α : Type} {l : List α} {i : Nat} {x : α} (h : l[i]? = some x) : l.take (i + 1) = l.take i ++ [x] := by rw [List.take_add_one, h]; rfl
theorem w_cont {D : Ends} {σ : L2.St} {H : Hp} (h : D.ct σ H) : tCont D σ H := h
def okM : Nat → PyData → Prop
  | _, .none => True
  | _, .bool _ => False
  | _, .int _ => True
  | _, .str _ => True
  | 0, .list _ => False
  | 0, .tuple _ => False
  | n + 1, .list xs => xs.length ≤ 100000 ∧ ∀ x ∈ xs, okM n x
  | n + 1, .tuple xs => xs.length ≤ 100000 ∧ ∀ x ∈ xs, okM n x
  | _, .dict _ => False
def Sq2 (K : PySem.W.Frag) (G : Hp) (a b : Addr) (xs ys : List V) : Prop := (SqL K G a xs ∧ SqL K G b ys) ∨ (SqT K G a xs ∧ SqT K G b ys)
def spAllS1 (K : PySem.W.Frag) (n : Nat) : Sp := Sg (α := Addr × Addr × (List V × List V) × (List PyData × List PyData)) (fun x vs M G => vs = [.ref x.1, .ref x.2.1] ∧ Sq2 K G x.1 x.2.1 x.2.2.1.1 x.2.2.1.2 ∧ DpAll K G x.2.2.1.1 x.2.2.2.1 ∧ DpAll K G x.2.2.1.2 x.2.2.2.2 ∧ x.2.2.2.1.length ≤ 100000 ∧ ∀ d ∈ x.2.2.2.1, okM n d)
      (fun x M _ v M' _ => ∃ b, v = .bl b ∧ (b = true ↔ x.2.2.2.1 = x.2.2.2.2) ∧ M' = M)
def spAllS (K : PySem.W.Frag) : Nat → Sp
  | 0 => spNo
  | n + 1 => spAllS1 K n
def spSame (K : PySem.W.Frag) (n : Nat) : Sp := Sg (α := V × V × PyData × PyData) (fun x vs M G => vs = [x.1, x.2.1] ∧ Dp K G x.1 x.2.2.1 ∧ Dp K G x.2.1 x.2.2.2 ∧ okM n x.2.2.1) (fun x M _ v M' _ => ∃ b, v = .bl b ∧ (b = true ↔ x.2.2.1 = x.2.2.2) ∧ M' = M)
theorem use_same {K : PySem.W.Frag} {n : Nat} {M G H : Hp} {x y : V} {d e : PyData} {Q : VK} {E : XK} (j : J M G H) (h1 : Dp K G x d) (h2 : Dp K G y e) (h3 : okM n d) (k : ∀ b G' H', (b = true ↔ d = e) → J M G' H' → Ex G G' → Q (.bl b) H') : spSame K n ([x, y] ++ []) H Q E :=
  w_sg (x, y, d, e) j ⟨rfl, h1, h2, h3⟩ fun v M' G' H' j' e ⟨b, ev, eb, em⟩ => by subst ev em; exact k b G' H' eb j' e
theorem use_alls {K : PySem.W.Frag} {n : Nat} {M G H : Hp} {a b : Addr} {xs ys : List V} {ds es : List PyData} {Q : VK} {E : XK} (j : J M G H) (h1 : Sq2 K G a b xs ys) (h3 : DpAll K G xs ds) (h4 : DpAll K G ys es) (h5 : ds.length ≤ 100000) (h6 : ∀ d ∈ ds, okM n d)
    (k : ∀ b G' H', (b = true ↔ ds = es) → J M G' H' → Ex G G' → Q (.bl b) H') : spAllS K (n + 1) ([.ref a, .ref b] ++ []) H Q E := by
  show spAllS1 K n _ H Q E
  exact w_sg (a, b, (xs, ys), (ds, es)) j ⟨rfl, h1, h3, h4, h5, h6⟩ fun v M' G' H' j' e ⟨b, ev, eb, em⟩ => by subst ev em; exact k b G' H' eb j' e
/-- a comprehension that reads two lists, or two tuples, side by side -/
def LcZ (K : PySem.W.Frag) (g : TG) (tt : TT) (te : TE) (vs : List Nat) (σ : L2.St) (ws : List V) (H1 : Hp) (Q : VK) : Prop := ∃ a b xs ys, ws = [.ref a, .ref b] ∧ ((SqL K H1 a xs ∧ SqL K H1 b ys ∧ LcD (Itz K a b) g tt te vs σ H1 Q) ∨ (SqT K H1 a xs ∧ SqT K H1 b ys ∧ LcD (RZ.ItzT K a b) g tt te vs σ H1 Q))
section
variable {K : PySem.W.Frag} {M G H : Hp} {σ : L2.St} {Q : VK} {g : TG} {tt : TT} {te : TE} {ta : TA} {vs : List Nat} {a b : Addr} {xs ys : List V}
theorem w_lcZ (h : ta σ H fun ws H1 => LcZ K g tt te vs σ ws H1 Q) : tLc (RZ.iZipA K ta) g tt te vs σ H Q := h
def YZ (xs ys : List V) (i : Nat) (H : Hp) (v : V) (H' : Hp) : Prop := ∃ T x y, xs[i]? = some x ∧ ys[i]? = some y ∧ v = .ref T ∧ H T = none ∧ H' = upd H T (.tup [x, y])
theorem walk_zL (l : xs.length = ys.length) : Walk (Itz K a b) xs.length (fun H => SqL K H a xs ∧ SqL K H b ys) (YZ xs ys) :=
  ⟨fun i _ hi q => ⟨xs, ys, xs[i], ys[i], q.1, q.2, by simp [hi], by simp [show i < ys.length by omega]⟩, fun _ q => ⟨xs, ys, q.1, q.2, .inl (Nat.le_refl _)⟩, fun i H v H' _ q y => by
    obtain ⟨T, x, y, rfl, hT, rfl, f1, f2⟩ := y
    exact ⟨T, x, y, f1 xs q.1, f2 ys q.2, rfl, hT, rfl⟩⟩
theorem walk_zT (l : xs.length = ys.length) : Walk (RZ.ItzT K a b) xs.length (fun H => SqT K H a xs ∧ SqT K H b ys) (YZ xs ys) :=
  ⟨fun i _ hi q => ⟨xs, ys, xs[i], ys[i], q.1, q.2, by simp [hi], by simp [show i < ys.length by omega]⟩, fun _ q => ⟨xs, ys, q.1, q.2, .inl (Nat.le_refl _)⟩, fun i H v H' _ q y => by
    obtain ⟨T, x, y, rfl, hT, rfl, f1, f2⟩ := y
    exact ⟨T, x, y, f1 xs q.1, f2 ys q.2, rfl, hT, rfl⟩⟩
theorem w_lcZro (j : J M G H) (hx : Sq2 K G a b xs ys) (l : xs.length = ys.length) (R : Nat → List V → Hp → Prop) (h0 : R 0 [] G) (mo : ∀ i acc G1 G2, Ex G1 G2 → R i acc G1 → R i acc G2)
    (hs : ∀ L i T x y acc G1 H1, xs[i]? = some x → ys[i]? = some y → M L = none → J (upd M L (.lst acc)) G1 H1 → Ex G G1 → R i acc G1 → G1 T = some (.tup [x, y]) → g (.ref T) (wipe σ vs) H1 fun σ2 H3 => wipe σ2 vs = wipe σ vs ∧ tt σ2 H3 fun b H4 => if b = true then te σ2 H4 (RoAdd M G R L (i + 1)) else RoI M G R L (i + 1) H4)
    (hd : ∀ L acc G1 G2 H1, J M G2 H1 → Ex G G1 → Ex G1 G2 → G2 L = some (.lst acc) → R xs.length acc G1 → Q (.ref L) H1) : LcZ K g tt te vs σ [.ref a, .ref b] H Q := by
  have turn : ∀ L i x acc G1 H1 H2, i < xs.length → M L = none → J (upd M L (.lst acc)) G1 H1 → Ex G G1 → R i acc G1 → YZ xs ys i H1 x H2 → g x (wipe σ vs) H2 fun σ2 H3 => wipe σ2 vs = wipe σ vs ∧ tt σ2 H3 fun b H4 => if b = true then te σ2 H4 (RoAdd M G R L (i + 1)) else RoI M G R L (i + 1) H4 := by
    rintro L i x acc G1 H1 H2 _ nM j1 e1 r ⟨T, u, v, hu, hv, rfl, hT, rfl⟩
    exact hs L i T u v acc _ _ hu hv nM (j1.newG hT) (e1.trans (Ex.new (j1.freeG hT))) (mo _ _ _ _ (Ex.new (j1.freeG hT)) r) upd_same
  rcases hx with ⟨h1, h2⟩ | ⟨h1, h2⟩
  · exact ⟨a, b, xs, ys, rfl, .inl ⟨sl_mono j.g h1, sl_mono j.g h2, lcd_ro (walk_zL l) j R h0 (fun H1 _ e => ⟨sl_mono e h1, sl_mono e h2⟩) turn hd⟩⟩
  · exact ⟨a, b, xs, ys, rfl, .inr ⟨st_mono j.g h1, st_mono j.g h2, lcd_ro (walk_zT l) j R h0 (fun H1 _ e => ⟨st_mono e h1, st_mono e h2⟩) turn hd⟩⟩
end
local macro_rules
  | `(tactic| walk_at "v") => `(tactic| first
    | with_reducible refine w_cont ?_
    | with_reducible refine w_lcZ ?_)
/-! ### what may raise, called where it cannot -/
def calmS (sp : Sp) : Sp := fun vs H Q _ => sp vs H Q E0
section
variable {P : Program} {w : World} {K : PySem.W.Frag} {mg : Str → Option Value} {base : Heap} {k n : Nat} {f C : Addr} {fd : FuncData} {ps : List Str} {sp : Sp} {x m kw : Str} {kv : V}
theorem fn_calm (F : FnOk P w K mg base (L2.CX P w) k f fd ps sp) : FnOk P w K mg base CX0 k f fd ps (calmS sp) :=
  ⟨fun vs H Q E h => F.len vs H Q E0 h, fun A outer s H args us vs Q E hr he hb hv hs => codeAny_mono (F.run A outer s H args us vs Q E0 hr he hb hv hs) fun r s' q => by
    cases r with
    | error e =>
      obtain ⟨_, _, _, _, _, _, _, _, _, _, _, _, z⟩ := (show L2.CX P w outer H s E0 e s' from q)
      exact z.elim
    | ok fl => cases fl <;> exact q⟩
theorem Cal.calm (c : Cal P w K mg base (L2.CX P w) k x sp) : Cal P w K mg base CX0 k x (calmS sp) := by
  obtain ⟨f, fd, ps, F, a, b, d⟩ := c.ex
  exact ⟨f, fd, ps, fn_calm F, a, b, d⟩
theorem CalM.calm (c : CalM P w K mg base (L2.CX P w) k C m sp) : CalM P w K mg base CX0 k C m (calmS sp) := by
  obtain ⟨f, fd, ps, F, a, b⟩ := c.ex
  exact ⟨f, fd, ps, fn_calm F, a, b⟩
theorem w_sxc {α : Type} {pre : α → List V → Hp → Hp → Prop} {post : α → Hp → Hp → V → Hp → Hp → Prop} {exc : α → Hp → Hp → Addr → Hp → Hp → Prop} {vs : List V} {M G H : Hp} {Q : VK} {E : XK} (a : α) (j : J M G H) (hp : pre a vs M G)
    (k : ∀ v M' G' H', J M' G' H' → Ex G G' → post a M G v M' G' → Q v H') (kx : ∀ C M' G' H', J M' G' H' → Ex G G' → exc a M G C M' G' → False) : calmS (Sx pre post exc) vs H Q E := ⟨a, M, G, j, hp, k, kx⟩
end
/-! ### while -/
def Below (W : Nat → L2.St → Hp → Prop) (m : Nat) (σ : L2.St) (H : Hp) : Prop := ∃ m', m' < m ∧ W m' σ H
theorem w_while {c : TT} {tb : TS} {D : Ends} {σ : L2.St} {H : Hp} (W : Nat → L2.St → Hp → Prop) (m : Nat) (h0 : W m σ H)
    (hs : ∀ m σ H (R : Bool → Hp → Prop), W m σ H → (∀ b H1, (if b = true then tb { D with nx := Below W m, ct := Below W m, bk := D.nx } σ H1 else D.nx σ H1) → R b H1) → c σ H R) : tWhile c tb D σ H :=
  ⟨W, ⟨m, h0⟩, fun m σ H w => hs m σ H _ w fun b H1 q => by
    cases b with
    | true => rw [if_pos rfl] at q ⊢; exact ⟨_, fun σ' H' x => x, q⟩
    | false => rw [if_neg Bool.false_ne_true] at q ⊢; exact q⟩
/-! ### try .. except X: without a name, truth of a list, o.f += n -/
def tTryO (K : PySem.W.Frag) (c : Value) (tb : WX → TS) (ts : Addr → Value → Option Addr → TS) (Wout : WX) : TS := fun D σ H => tb (wOnly K c ts Wout D) D σ H
theorem w_tryO {K : PySem.W.Frag} {c : Value} {tb : WX → TS} {ts : Addr → Value → Option Addr → TS} {Wout : WX} {D : Ends} {σ : L2.St} {H : Hp} (h : tb (wOnly K c ts Wout D) D σ H) : tTryO K c tb ts Wout D σ H := h
theorem ps_tryO {X : Cx} {x : Str} {c : Value} {body suite : List Stmt} {b₀ : Stmt} {np pos pos' : Pos} {tb : WX → TS} {ts : Addr → Value → Option Addr → TS} {Wout : WX} (hs : X.stack = X.env :: X.outer) (hf : X.env.frame = some X.env.locals) (hc : Names X x c) (tk : Takes X Wout)
    (hb : ∀ (W : WX) (pn : List (Addr × Obj)) (xe : Value → Shared → Prop), Takes (X.tr pn xe) W → PassesOwn (model X.prog X.w) X.A X.env xe → PSs (X.tr pn xe) body (tb W))
    (hsu : ∀ (a : Addr) (oe : Obj) (cls : Value) (d : Option Addr) (pn : List (Addr × Obj)), Zc cls d oe → (∃ vs, oe.data = .fields vs) → PSs (X.suite a ((a, oe) :: pn)) (b₀ :: suite) (ts a cls d)) :
    PS X (.Try body [.ExceptHandler (some (.Name x np)) none (b₀ :: suite) pos'] [] [] pos) (tTryO X.K c tb ts Wout) := ps_try_only hs hf hc tk hb hsu
theorem w_caughtO {K : PySem.W.Frag} {c : Value} {C : Addr} {ts : Addr → Value → Option Addr → TS} {Wout : WX} {D : Ends} {σ : L2.St} {H : Hp} (e : PySem.W.exmOne K (.ref C) c = some true) (h : ∀ a, H a = none → ts a (.ref C) none D σ H) : wOnly K c ts Wout D (.ref C) none σ H :=
  ⟨true, e, fun _ => h, fun q => Bool.noConfusion q⟩
/-- truth -/
def TruX (K : PySem.W.Frag) (x : V) (H : Hp) (Q : Bool → Hp → Prop) : Prop := ∃ k, TruV K x H k ∧ Q k H
def tTruV (K : PySem.W.Frag) (ta : TE) : TT := fun σ H Q => ta σ H fun x H' => TruX K x H' Q
theorem pt_truV {X : Cx} {K : PySem.W.Frag} {a : Expr} {ta : TE} (hK : X.K = K) (ha : PE X a ta) (he : ∀ whole, isTrue a X.env whole = (do let v ← whole; standAt a.pos; holding [v] (truthy v)) := by intro _; rfl) : PT X a (tTruV K ta) := by
  subst hK; exact pt_truth ha he
theorem w_tru {K : PySem.W.Frag} {ta : TE} {σ : L2.St} {H : Hp} {Q : Bool → Hp → Prop} (h : ta σ H fun x H' => TruX K x H' Q) : tTruV K ta σ H Q := h
theorem w_truL {K : PySem.W.Frag} {M G H : Hp} {a : Addr} {xs : List V} {Q : Bool → Hp → Prop} (j : J M G H) (h : SqL K G a xs) (q : Q (!xs.isEmpty) H) : TruX K (.ref a) H Q := ⟨_, .inl ⟨xs, sl_mono j.g h, rfl⟩, q⟩
theorem w_truB {K : PySem.W.Frag} {H : Hp} {b : Bool} {Q : Bool → Hp → Prop} (q : Q b H) : TruX K (.bl b) H Q := ⟨_, rfl, q⟩
/-- o.f += n -/
def AugX (K : PySem.W.Frag) (f : Str) (tv : TE) (D : Ends) (σ : L2.St) (x : V) (H1 : Hp) : Prop := ∃ a C dx fs v, x = .ref a ∧ H1 a = some (.ins C dx fs) ∧ Cls K C ∧ NoAttr K C f ∧ fs.lookup f = some v ∧
  tv σ H1 fun y H2 => rAdd v y H2 fun z H3 => ∃ dx' fs', H3 a = some (.ins C dx' fs') ∧ fs'.length < 1000 ∧ D.nx σ (upd H3 a (.ins C dx' (putF f z fs')))
theorem w_sfa {K : PySem.W.Frag} {ta tv : TE} {f : Str} {D : Ends} {σ : L2.St} {H : Hp} (h : ta σ H fun x H1 => AugX K f tv D σ x H1) : sFldAug K ta tv rAdd f D σ H := h
/-- the object and its field stand as they were when the number is added -/
def AugE (D : Ends) (σ : L2.St) (a C dx : Addr) (fs : List (Str × V)) (f : Str) (i : Int) (y : V) (H2 : Hp) : Prop := ∃ k M2 G2, y = .int k ∧ J M2 G2 H2 ∧ M2 a = some (.ins C dx fs) ∧ ∀ H', J (upd M2 a (.ins C dx (putF f (.int (i + k)) fs))) G2 H' → D.nx σ H'
theorem w_augX {K : PySem.W.Frag} {M G H : Hp} {a C dx : Addr} {fs : List (Str × V)} {f : Str} {i : Int} {tv : TE} {D : Ends} {σ : L2.St} (j : J M G H) (h : M a = some (.ins C dx fs)) (c : Cls K C) (n : NoAttr K C f) (l : fs.lookup f = some (.int i)) (z : fs.length < 1000)
    (hm : ∀ Q Q' : VK, (∀ v H, Q v H → Q' v H) → tv σ H Q → tv σ H Q') (q : tv σ H (AugE D σ a C dx fs f i)) : AugX K f tv D σ (.ref a) H :=
  ⟨a, C, dx, fs, .int i, rfl, j.m _ _ h, c, n, l, hm _ _ (fun y H2 ⟨k, M2, G2, e, j2, h2, q2⟩ => ⟨i, k, rfl, e, dx, fs, j2.m _ _ h2, z, q2 _ (j2.put h2)⟩) q⟩
/-- .. by steps: the continuation is a letter -/
theorem w_augK {K : PySem.W.Frag} {M G H : Hp} {a C dx : Addr} {fs : List (Str × V)} {f : Str} {i : Int} {tv : TE} {D : Ends} {σ : L2.St} (j : J M G H) (h : M a = some (.ins C dx fs)) (c : Cls K C) (n : NoAttr K C f) (l : fs.lookup f = some (.int i)) (z : fs.length < 1000)
    (q : ∀ R : VK, (∀ y H2, AugE D σ a C dx fs f i y H2 → R y H2) → tv σ H R) : AugX K f tv D σ (.ref a) H :=
  ⟨a, C, dx, fs, .int i, rfl, j.m _ _ h, c, n, l, q _ fun y H2 ⟨k, M2, G2, e, j2, h2, q2⟩ => ⟨i, k, rfl, e, dx, fs, j2.m _ _ h2, z, q2 _ (j2.put h2)⟩⟩
local macro_rules
  | `(tactic| walk_at "v") => `(tactic| first
    | with_reducible refine w_tryO ?_
    | with_reducible refine w_tru ?_
    | with_reducible refine w_sfa ?_)
/-! a locked dict's pairs, plain keys -/
def ForIK (g : TG) (t : TS) (D : Ends) (σ : L2.St) (x : V) (H1 : Hp) : Prop := ∃ d o kvs, x = .ref d ∧ H1 d = some (.frz o (.dK kvs)) ∧ ∃ W : Nat → Nat → L2.St → Hp → Prop, (∃ m, W 0 m σ H1) ∧ ∀ i m σ H, W i m σ H →
  ((Iti d o kvs).stop i H ∧ D.nx σ H) ∨ ((Iti d o kvs).go i H ∧ ∃ N : L2.St → Hp → Prop, (∀ σ' H', N σ' H' → ∃ m', m' < m ∧ W (i + 1) m' σ' H') ∧ ∀ x H', (Iti d o kvs).yld i H x H' → g x σ H' fun σ2 H2 => t { D with nx := N, ct := N, bk := D.nx } σ2 H2)
theorem w_forIKe {td : TE} {g : TG} {t : TS} {D : Ends} {σ : L2.St} {H : Hp} (h : td σ H fun x H1 => ForIK g t D σ x H1) : tFor (iItems td) g t D σ H := h
theorem w_forIK {M G H : Hp} {d : Addr} {o : Obj} {kvs : List (Key × V)} {g : TG} {t : TS} {D : Ends} {σ : L2.St} (j : J M G H) (hx : M d = some (.frz o (.dK kvs))) (Pv : Nat → L2.St → Hp → Prop) (h0 : Pv 0 σ G)
    (hs : ∀ i T k v σ G1 H1, kvs[i]? = some (k, v) → J M G1 H1 → Ex G G1 → G1 T = some (.tup [kV k, v]) → Pv i σ G1 → g (.ref T) σ H1 fun σ2 H2 => t { D with nx := fun σ' H' => ∃ G2, J M G2 H' ∧ Ex G G2 ∧ Pv (i + 1) σ' G2, ct := fun σ' H' => ∃ G2, J M G2 H' ∧ Ex G G2 ∧ Pv (i + 1) σ' G2, bk := D.nx } σ2 H2)
    (mo : ∀ i σ G1 G2, Ex G1 G2 → Pv i σ G1 → Pv i σ G2) (hd : ∀ σ G1 H1, J M G1 H1 → Ex G G1 → Pv kvs.length σ G1 → D.nx σ H1) : ForIK g t D σ (.ref d) H := by
  refine ⟨d, o, kvs, rfl, j.m _ _ hx, for_it walk_items (fun i σ H => ∃ G2, J M G2 H ∧ Ex G G2 ∧ Pv i σ G2) ⟨G, j, Same.refl G, h0⟩ ?_ ?_ ?_⟩
  · rintro i σ H _ ⟨G2, j2, _⟩
    exact j2.m _ _ hx
  · rintro i x σ H H' hi ⟨G2, j2, e2, p⟩ ⟨T, x1, y1, rfl, hT, rfl, h1, h2⟩
    have h1 : kvs[i]?.map (fun kv => kV kv.1) = some x1 := h1
    have h2 : kvs[i]?.map Prod.snd = some y1 := h2
    cases e : kvs[i]? with
    | none => rw [e] at h1; cases h1
    | some kv =>
      obtain ⟨k, v⟩ := kv
      rw [e] at h1 h2
      cases h1
      cases h2
      have e3 : Ex G2 (upd G2 T (.tup [kV k, v])) := Ex.new (j2.freeG hT)
      exact hs i T k v σ _ _ e (j2.newG hT) (e2.trans e3) upd_same (mo _ _ _ _ e3 p)
  · rintro σ H ⟨G2, j2, e2, p⟩
    exact hd σ G2 H j2 e2 p
local macro_rules
  | `(tactic| walk_at "v") => `(tactic| with_reducible refine w_forIKe ?_)
theorem nodup_le {α : Type} [DecidableEq α] : ∀ {xs ys : List α}, xs.Nodup → (∀ x ∈ xs, x ∈ ys) → xs.length ≤ ys.length
  | [], _, _, _ => Nat.zero_le _
  | x :: xs, ys, hn, hs => by
    rw [List.nodup_cons] at hn
    have m := hs x List.mem_cons_self
    have ih := nodup_le (xs := xs) (ys := ys.erase x) hn.2 fun y hy => (List.mem_erase_of_ne fun e : y = x => hn.1 (e ▸ hy)).mpr (hs y (List.mem_cons_of_mem _ hy))
    rw [List.length_erase_of_mem m] at ih
    have := List.length_pos_of_mem m
    rw [List.length_cons]; omega
/-! ### records of deals: one deal -/
structure JD where
  name : Int
  ops : List Op
  earlier : List Int
  ans : Option (PyData × PyData)
structure JA where
  p : Addr
  dx : Addr
  oa : Addr
  as : List Addr
  ea : Addr
  av : V
def AnV (K : PySem.W.Frag) (G : Hp) (v : V) : Option (PyData × PyData) → Prop
  | none => v = .non
  | some x => Dp K G v (.tuple [x.1, x.2])
structure AskAt (K : PySem.W.Frag) (C : Addr) (M G : Hp) (a : JA) (d : JD) : Prop where
  op : M a.p = some (.ins C a.dx (fl_Asked (.ref a.oa) (.ref a.ea) a.av))
  dl : IsDeal G a.oa a.as d.ops
  er : G a.ea = some (.lst (d.earlier.map V.int))
  el : d.earlier.length ≤ 100
  an : AnV K G a.av d.ans
theorem AnV.ex {K : PySem.W.Frag} {G G' : Hp} {v : V} {o : Option (PyData × PyData)} (h : AnV K G v o) (e : Ex G G') : AnV K G' v o := by
  cases o with
  | none => exact h
  | some x => exact dp_mono e h
theorem AskAt.ex {K : PySem.W.Frag} {C : Addr} {M G G' : Hp} {a : JA} {d : JD} (h : AskAt K C M G a d) (e : Ex G G') : AskAt K C M G' a d := ⟨h.op, h.dl.ex e, e _ _ h.er, h.el, h.an.ex e⟩
theorem AskAt.mv {K : PySem.W.Frag} {C : Addr} {M M' G : Hp} {a : JA} {d : JD} (h : AskAt K C M G a d) (e : ∀ o, M a.p = some o → M' a.p = some o) : AskAt K C M' G a d := ⟨e _ h.op, h.dl, h.er, h.el, h.an⟩
/-! the record: its dict, locked or not -/
structure RecA where
  p : Addr
  dx : Addr
  dd : Addr
  l : List (JA × JD)
def RecA.ds (r : RecA) : List JD := r.l.map (·.2)
def recK (l : List (JA × JD)) : List (Key × V) := l.map fun x => (Sum.inl x.2.name, V.ref x.1.p)
def lkO (f : Option Obj) (u : HO) : HO := match f with
  | none => u
  | some o => .frz o u
structure RecAt (K : PySem.W.Frag) (CR CA : Addr) (f : Option Obj) (M G : Hp) (r : RecA) : Prop where
  nt : NoT M
  op : M r.p = some (.ins CR r.dx (fl_Record (.ref r.dd)))
  od : M r.dd = some (lkO f (.dK (recK r.l)))
  at' : ∀ x ∈ r.l, AskAt K CA M G x.1 x.2
  nn : (r.l.map (·.2.name)).Nodup
  np : (r.l.map (·.1.p)).Nodup
  n0 : r.p ∉ r.l.map (·.1.p)
  le : r.l.length ≤ 8
section
variable {K : PySem.W.Frag} {CR CA : Addr} {f : Option Obj} {M M' G G' : Hp} {r : RecA}
theorem RecAt.ex (h : RecAt K CR CA f M G r) (e : Ex G G') : RecAt K CR CA f M G' r := ⟨h.nt, h.op, h.od, fun x m => (h.at' x m).ex e, h.nn, h.np, h.n0, h.le⟩
/-- new cells beside it -/
theorem RecAt.mv (h : RecAt K CR CA f M G r) (nt : NoT M') (e : ∀ q o, M q = some o → M' q = some o) : RecAt K CR CA f M' G r := ⟨nt, e _ _ h.op, e _ _ h.od, fun x m => (h.at' x m).mv fun o => e _ o, h.nn, h.np, h.n0, h.le⟩
theorem RecAt.lock {od : Obj} (h : RecAt K CR CA none M G r) : RecAt K CR CA (some od) (upd M r.dd (.frz od (.dK (recK r.l)))) G r := by
  have n1 : ∀ {q : Addr} {C dx : Addr} {fs : List (Str × V)}, M q = some (.ins C dx fs) → q ≠ r.dd := fun e => ne_of e h.od (fun z => nomatch z)
  exact ⟨h.nt.updF, upd_ne' h.op (n1 h.op), upd_same, fun x m => (h.at' x m).mv fun o e => upd_ne' e (n1 (h.at' x m).op), h.nn, h.np, h.n0, h.le⟩
theorem recK_at {l : List (JA × JD)} {i : Nat} {kk : Key} {v : V} (h : (recK l)[i]? = some (kk, v)) : ∃ x, l[i]? = some x ∧ kk = .inl x.2.name ∧ v = .ref x.1.p := by
  unfold recK at h
  rw [List.getElem?_map] at h
  cases e : l[i]? with
  | none => rw [e] at h; cases h
  | some x => rw [e] at h; cases h; exact ⟨x, rfl, rfl, rfl⟩
theorem recK_get : ∀ {l : List (JA × JD)}, (l.map (·.2.name)).Nodup → ∀ x ∈ l, valV (recK l) (.inl x.2.name) = some (.ref x.1.p)
  | y :: l, n, x, m => by
    rw [List.map_cons, List.nodup_cons] at n
    show valV ((Sum.inl y.2.name, V.ref y.1.p) :: recK l) _ = _
    rcases List.mem_cons.mp m with rfl | m
    · exact valV_pos rfl
    · rw [valV_neg (fun z => n.1 (by have z := Sum.inl.inj z; rw [z]; exact List.mem_map_of_mem (f := (·.2.name)) m))]
      exact recK_get n.2 x m
theorem recK_none {l : List (JA × JD)} {n : Int} : valV (recK l) (.inl n) = none ↔ n ∉ l.map (·.2.name) := by
  induction l with
  | nil => exact ⟨(fun _ m => nomatch m), fun _ => rfl⟩
  | cons y l ih =>
    show valV ((Sum.inl y.2.name, V.ref y.1.p) :: recK l) _ = none ↔ _
    rw [List.map_cons, List.mem_cons]
    by_cases e : y.2.name = n
    · rw [valV_pos (by rw [e])]
      exact ⟨(fun z => nomatch z), fun z => absurd (Or.inl e.symm) z⟩
    · rw [valV_neg (fun z => e (Sum.inl.inj z)), ih]
      exact ⟨fun z m => m.elim (fun m => e m.symm) z, fun z m => z (.inr m)⟩
end
/-! whole numbers in a list of such -/
theorem inV_int {n : Int} : ∀ {ns : List Int}, inV (.int n) (ns.map V.int) = decide (n ∈ ns)
  | [] => rfl
  | m :: ns => by
    show ((m == n) || inV (.int n) (ns.map V.int)) = _
    rw [inV_int, Bool.beq_eq_decide_eq]
    by_cases e : m = n
    · subst e
      rw [decide_eq_true rfl, decide_eq_true List.mem_cons_self]; rfl
    · rw [decide_eq_false e, Bool.false_or]
      exact decide_eq_decide.mpr ⟨List.mem_cons_of_mem _, fun h => (List.mem_cons.mp h).elim (fun z => absurd z.symm e) id⟩
theorem flat_ints (ns : List Int) : (ns.map V.int).all flatV = true := List.all_eq_true.mpr fun x m => by obtain ⟨n, _, rfl⟩ := List.mem_map.mp m; rfl
def allIn (ns ch : List Int) : Bool := ns.all fun n => decide (n ∈ ch)
def toldL (ds : List JD) : List Int := (ds.filter fun d => d.ans.isSome).map (·.name)
/-! ### the search -/
open Classical in
noncomputable def fitD (m : Fn) (d : JD) : Bool := match d.ans with
  | none => true
  | some x => decide (PyData.tuple [.str (outM m d.ops), .list ((ressM m d.ops).map resD)] = .tuple [x.1, x.2])
def skipD (ch : List Int) (d : JD) : Bool := decide (d.name ∈ ch) || !allIn d.earlier ch
def orO (a b : Option (List Int)) : Option (List Int) := match a with
  | some o => some o
  | none => b
noncomputable def tryD (F : List Int → Fn → Option (List Int)) (ch : List Int) (m : Fn) : List JD → Option (List Int)
  | [] => none
  | d :: r => if skipD ch d = true then tryD F ch m r else if fitD m d = true then orO (F (ch ++ [d.name]) (endM m d.ops)) (tryD F ch m r) else tryD F ch m r
noncomputable def dfs (ds : List JD) : Nat → List Int → Fn → Option (List Int)
  | 0, ch, _ => if allIn (toldL ds) ch = true then some ch else none
  | n + 1, ch, m => if allIn (toldL ds) ch = true then some ch else tryD (dfs ds n) ch m ds
/-! ### a locked dict with plain keys is read -/
theorem w_getXr {M G H : Hp} {a : Addr} {kvs : List (Key × V)} {m : Int} {v : V} {Q : VK} (j : J M G H) (h : Rd M a (.dK kvs)) (e : valV kvs (.inl m) = some v) (q : Q v H) : GetX (.ref a) (.int m) H Q := ⟨a, v, rfl, .inl ⟨kvs, .inl m, rd_same j.m h, rfl, e.symm⟩, q⟩
/-- a comprehension over the keys of a locked dict with plain keys -/
theorem w_lcKyKro {M G H : Hp} {σ : L2.St} {Q : VK} {g : TG} {tt : TT} {te : TE} {vs : List Nat} {d : Addr} {o : Obj} {kvs : List (Key × V)} (j : J M G H) (hx : M d = some (.frz o (.dK kvs))) (R : Nat → List V → Hp → Prop) (h0 : R 0 [] G)
    (hs : ∀ L i k v acc G1 H1, kvs[i]? = some (k, v) → M L = none → J (upd M L (.lst acc)) G1 H1 → Ex G G1 → R i acc G1 → g (kV k) (wipe σ vs) H1 fun σ2 H3 => wipe σ2 vs = wipe σ vs ∧ tt σ2 H3 fun b H4 => if b = true then te σ2 H4 (RoAdd M G R L (i + 1)) else RoI M G R L (i + 1) H4)
    (hd : ∀ L acc G1 G2 H1, J M G2 H1 → Ex G G1 → Ex G1 G2 → G2 L = some (.lst acc) → R kvs.length acc G1 → Q (.ref L) H1) : LcKy g tt te vs σ (.ref d) H Q :=
  ⟨d, o, rfl, .inl ⟨kvs, j.m _ _ hx, lcd_ro walk_keys j R h0 (fun H1 e _ => e _ _ hx) (fun L i x acc G1 H1 H2 _ nM j1 e1 r y => by
    obtain ⟨rfl, k, v, hkv, rfl⟩ := y
    exact hs L i k v acc G1 _ hkv nM j1 e1 r) hd⟩⟩
theorem toldL_snoc {ds : List JD} {d : JD} : toldL (ds ++ [d]) = toldL ds ++ (if d.ans.isSome = true then [d.name] else []) := by
  unfold toldL
  rw [List.filter_append, List.map_append]
  congr 1
  cases h : d.ans.isSome with
  | true => rw [List.filter_cons_of_pos (by rw [h]), if_pos rfl]; rfl
  | false => rw [List.filter_cons_of_neg (by rw [h]; exact Bool.false_ne_true), if_neg Bool.false_ne_true]; rfl
theorem toldL_len {ds : List JD} : (toldL ds).length ≤ ds.length := by
  unfold toldL
  rw [List.length_map]
  exact List.length_filter_le _ _
theorem ds_at {r : RecA} {i : Nat} {x : JA × JD} (h : r.l[i]? = some x) : r.ds[i]? = some x.2 := by unfold RecA.ds; rw [List.getElem?_map, h]; rfl
theorem AnV.isN {K : PySem.W.Frag} {G : Hp} {v : V} {o : Option (PyData × PyData)} (h : AnV K G v o) : decide (v = .non) = !o.isSome := by
  cases o with
  | none => rw [show v = .non from h]; rfl
  | some x =>
    have h : Dp K G v (.tuple [x.1, x.2]) := h
    cases h with
    | tup _ _ => rfl
/-- what holds behind a test is taken once -/
theorem w_testO {c : TT} {σ : L2.St} {H : Hp} {QB : Bool → Hp → Prop} (P : Bool → Hp → Prop) (rest : ∀ b H, P b H → QB b H) (first : ∀ N : Bool → Hp → Prop, (∀ b H, P b H → N b H) → c σ H N) : c σ H QB := first _ rest
noncomputable def obF (ds : List JD) : Nat → List Int → Fn → Option (List Int)
  | 0 => fun _ _ => none
  | n + 1 => dfs ds n
theorem dfs_told {ds : List JD} {n : Nat} {ch : List Int} {m : Fn} (h : allIn (toldL ds) ch = true) : dfs ds n ch m = some ch := by
  cases n with
  | zero => unfold dfs; rw [if_pos h]
  | succ n => unfold dfs; rw [if_pos h]
theorem tryD_skip {F : List Int → Fn → Option (List Int)} {ch : List Int} {m : Fn} : ∀ {ds : List JD}, (∀ d ∈ ds, d.name ∈ ch) → tryD F ch m ds = none
  | [], _ => rfl
  | d :: r, h => by
    unfold tryD
    rw [if_pos (by unfold skipD; rw [decide_eq_true (h d List.mem_cons_self)]; rfl)]
    exact tryD_skip fun x m => h x (List.mem_cons_of_mem _ m)
theorem dfs_not {ds : List JD} {n : Nat} {ch : List Int} {m : Fn} (h : allIn (toldL ds) ch = false) (z : n = 0 → ∀ d ∈ ds, d.name ∈ ch) : dfs ds n ch m = tryD (obF ds n) ch m ds := by
  cases n with
  | zero => unfold dfs; rw [if_neg (by rw [h]; exact Bool.false_ne_true), tryD_skip (z rfl)]
  | succ n => show dfs ds (n + 1) ch m = _; unfold dfs; rw [if_neg (by rw [h]; exact Bool.false_ne_true)]; rfl
theorem okM_int (n : Nat) (k : Int) : okM n (.int k) := by cases n <;> trivial
theorem okM_str (n : Nat) (k : Str) : okM n (.str k) := by cases n <;> trivial
theorem okM_non (n : Nat) : okM n .none := by cases n <;> trivial
theorem okM_res (n : Nat) (m : Fn) (op : Op) : okM (n + 2) (resD (resM m op)) := by
  cases op with
  | get k =>
    show okM (n + 2) (resD (rO (m k)))
    cases m k with
    | none => exact okM_non _
    | some v => exact okM_int _ _
  | put k v => exact okM_non _
  | add k v => exact okM_int _ _
  | need k v => exact okM_non _
  | scan lo hi =>
    refine ⟨by rw [List.length_map]; have := scan_len m lo hi; omega, fun x h => ?_⟩
    obtain ⟨p, _, rfl⟩ := List.mem_map.mp h
    refine ⟨by show 2 ≤ 100000; decide, fun y hy => ?_⟩
    rcases List.mem_cons.mp hy with rfl | hy
    · exact okM_int _ _
    · rw [List.mem_singleton.mp hy]; exact okM_int _ _
theorem okM_ress (n : Nat) (m : Fn) {ops : List Op} (h : ops.length ≤ 6) : okM (n + 3) (.list ((ressM m ops).map resD)) := by
  refine ⟨by rw [List.length_map]; unfold ressM; rw [resL_len, List.length_take]; omega, fun x hx => ?_⟩
  obtain ⟨r, hr, rfl⟩ := List.mem_map.mp hx
  obtain ⟨m', op, rfl⟩ := resL_mem hr
  exact okM_res n m' op
theorem okM_two {n : Nat} {a b : PyData} (h1 : okM n a) (h2 : okM n b) : okM (n + 1) (.tuple [a, b]) := ⟨by show 2 ≤ 100000; decide, fun y hy => by
  rcases List.mem_cons.mp hy with rfl | hy
  · exact h1
  · rw [List.mem_singleton.mp hy]; exact h2⟩
theorem fit_none {m : Fn} {d : JD} (h : d.ans = none) : fitD m d = true := by unfold fitD; rw [h]
open Classical in
theorem fit_some {m : Fn} {d : JD} {y : PyData × PyData} (h : d.ans = some y) : fitD m d = true ↔ PyData.tuple [.str (outM m d.ops), .list ((ressM m d.ops).map resD)] = .tuple [y.1, y.2] := by
  unfold fitD
  rw [h]
  exact decide_eq_true_iff
theorem w_seqO {t : TS} {u : TS} {D : Ends} {σ : L2.St} {H : Hp} (Pm : L2.St → Hp → Prop) (rest : ∀ σ H, Pm σ H → u D σ H) (first : ∀ N : L2.St → Hp → Prop, (∀ σ H, Pm σ H → N σ H) → t { D with nx := N } σ H) : tSeq t u D σ H := first _ rest
/-! ### the record is read -/
inductive Ev where
  | ask (n : Int) (ops : List Op)
  | tell (n : Int) (o r : PyData)
def EvAt (K : PySem.W.Frag) (G : Hp) (v : V) : Ev → Prop
  | .ask n ops => ∃ t a as, v = .ref t ∧ G t = some (.tup [.str "asked", .int n, .ref a]) ∧ IsDeal G a as ops
  | .tell n o r => ∃ t v1 v2, v = .ref t ∧ G t = some (.tup [.str "told", .int n, v1, v2]) ∧ Dp K G v1 o ∧ Dp K G v2 r
theorem EvAt.ex {K : PySem.W.Frag} {G G' : Hp} {v : V} {e : Ev} (h : EvAt K G v e) (x : Ex G G') : EvAt K G' v e := by
  cases e with
  | ask n ops => obtain ⟨t, a, as, h1, h2, h3⟩ := h; exact ⟨t, a, as, h1, x _ _ h2, h3.ex x⟩
  | tell n o r => obtain ⟨t, v1, v2, h1, h2, h3, h4⟩ := h; exact ⟨t, v1, v2, h1, x _ _ h2, dp_mono x h3, dp_mono x h4⟩
def setAns (n : Int) (o r : PyData) (d : JD) : JD := if d.name = n then { d with ans := some (o, r) } else d
def stepJ (ds : List JD) : Ev → List JD
  | .ask n ops => ds ++ [⟨n, ops, toldL ds, none⟩]
  | .tell n o r => ds.map (setAns n o r)
def okEv (ds : List JD) : Ev → Prop
  | .ask n _ => n ∉ ds.map (·.name) ∧ ds.length < 7
  | .tell n _ _ => ∃ d ∈ ds, d.name = n ∧ d.ans = none
def okEvs : List JD → List Ev → Prop
  | _, [] => True
  | ds, e :: es => okEv ds e ∧ okEvs (stepJ ds e) es
def readJ (ds : List JD) (es : List Ev) : List JD := es.foldl stepJ ds
/-- the record's cells are new to M0 -/
structure RecN (M0 M : Hp) (r : RecA) : Prop where
  sm : Same M0 M
  p : M0 r.p = none
  dd : M0 r.dd = none
  l : ∀ x ∈ r.l, M0 x.1.p = none
theorem J.sub {M M0 G H : Hp} (j : J M G H) (s : Same M0 M) : J M0 G H := ⟨s.trans j.m, j.g, fun a o e => j.d a o (s a o e)⟩
theorem nodup_inj {α β : Type} {f : α → β} : ∀ {l : List α}, (l.map f).Nodup → ∀ {x y : α}, x ∈ l → y ∈ l → f x = f y → x = y
  | z :: l, n, x, y, hx, hy, e => by
    rw [List.map_cons, List.nodup_cons] at n
    rcases List.mem_cons.mp hx with h1 | h1 <;> rcases List.mem_cons.mp hy with h2 | h2
    · rw [h1, h2]
    · exact absurd (by rw [← h1, e]; exact List.mem_map_of_mem h2) n.1
    · exact absurd (by rw [← h2, ← e]; exact List.mem_map_of_mem h1) n.1
    · exact nodup_inj n.2 h1 h2 e
/-- an answer is put -/
def setA (n : Int) (t : V) (o r : PyData) (x : JA × JD) : JA × JD := if x.2.name = n then ({ x.1 with av := t }, { x.2 with ans := some (o, r) }) else x
theorem setA_name {n : Int} {t : V} {o r : PyData} {x : JA × JD} : (setA n t o r x).2.name = x.2.name := by unfold setA; split <;> rfl
theorem setA_p {n : Int} {t : V} {o r : PyData} {x : JA × JD} : (setA n t o r x).1.p = x.1.p := by unfold setA; split <;> rfl
theorem setA_ds {n : Int} {t : V} {o r : PyData} {x : JA × JD} : (setA n t o r x).2 = setAns n o r x.2 := by unfold setA setAns; split <;> rfl
section
variable {K : PySem.W.Frag} {CR CA : Addr} {M M0 M' G G' : Hp} {r : RecA}
theorem RecAt.tell {x : JA × JD} {t : V} {o rr : PyData} (h : RecAt K CR CA none M G r) (hx : x ∈ r.l) (ht : Dp K G t (.tuple [o, rr])) :
    RecAt K CR CA none (upd M x.1.p (.ins CA x.1.dx (fl_Asked (.ref x.1.oa) (.ref x.1.ea) t))) G { r with l := r.l.map (setA x.2.name t o rr) } := by
  have hA := h.at' x hx
  have e1 : (r.l.map (setA x.2.name t o rr)).map (·.2.name) = r.l.map (·.2.name) := by rw [List.map_map]; exact List.map_congr_left fun y _ => setA_name
  have e2 : (r.l.map (setA x.2.name t o rr)).map (·.1.p) = r.l.map (·.1.p) := by rw [List.map_map]; exact List.map_congr_left fun y _ => setA_p
  have e3 : recK (r.l.map (setA x.2.name t o rr)) = recK r.l := by
    unfold recK
    rw [List.map_map]
    refine List.map_congr_left fun y _ => ?_
    show (Sum.inl (setA x.2.name t o rr y).2.name, V.ref (setA x.2.name t o rr y).1.p) = _
    rw [setA_name, setA_p]
  refine ⟨h.nt.updI, upd_ne' h.op fun z => h.n0 (z ▸ List.mem_map_of_mem (f := (·.1.p)) hx), ?_, fun y hy => ?_, by rw [e1]; exact h.nn, by rw [e2]; exact h.np, by rw [e2]; exact h.n0, by rw [List.length_map]; exact h.le⟩
  · show upd M x.1.p _ r.dd = some (.dK (recK (r.l.map (setA x.2.name t o rr))))
    rw [e3]
    exact upd_ne' h.od (ne_of h.od hA.op (fun z => nomatch z))
  · obtain ⟨z, hz, rfl⟩ := List.mem_map.mp hy
    by_cases q : z.2.name = x.2.name
    · obtain rfl := nodup_inj h.nn hz hx q
      unfold setA
      rw [if_pos rfl]
      exact ⟨upd_same, hA.dl, hA.er, hA.el, ht⟩
    · unfold setA
      rw [if_neg q]
      exact (h.at' z hz).mv fun o e => upd_ne' e fun w => q (by rw [nodup_inj h.np hz hx w])
theorem RecN.tell {x : JA × JD} {t : V} {o rr : PyData} {u : HO} (h : RecN M0 M r) (hx : x ∈ r.l) : RecN M0 (upd M x.1.p u) { r with l := r.l.map (setA x.2.name t o rr) } :=
  ⟨fun a b e => upd_ne' (h.sm a b e) (ne_of_none e (h.l x hx)), h.p, h.dd, fun y hy => by
    obtain ⟨z, hz, rfl⟩ := List.mem_map.mp hy
    rw [setA_p]; exact h.l z hz⟩
theorem tell_ds {n : Int} {t : V} {o rr : PyData} : ({ r with l := r.l.map (setA n t o rr) } : RecA).ds = stepJ r.ds (.tell n o rr) := by
  show (r.l.map (setA n t o rr)).map (·.2) = (r.l.map (·.2)).map (setAns n o rr)
  rw [List.map_map, List.map_map]
  exact List.map_congr_left fun y _ => setA_ds
theorem putK_new {l : List (JA × JD)} {n : Int} {v : V} (h : n ∉ l.map (·.2.name)) : putK (recK l) (.inl n) v = recK l ++ [(.inl n, v)] := by
  unfold putK
  rw [valV_any, recK_none.mpr h, if_neg (by simp)]
/-- a deal is put -/
theorem RecAt.ask {a : JA} {d : JD} (h : RecAt K CR CA none M G r) (hA : AskAt K CA M G a d) (hn : d.name ∉ r.l.map (·.2.name)) (hp : a.p ∉ r.l.map (·.1.p)) (h0 : r.p ≠ a.p) (le : r.l.length < 8) :
    RecAt K CR CA none (upd M r.dd (.dK (recK (r.l ++ [(a, d)])))) G { r with l := r.l ++ [(a, d)] } := by
  have n1 : ∀ {q C dx : Addr} {fs : List (Str × V)}, M q = some (.ins C dx fs) → q ≠ r.dd := fun e => ne_of e h.od (fun z => nomatch z)
  have nd : ∀ {β : Type} {f : JA × JD → β}, (r.l.map f).Nodup → f (a, d) ∉ r.l.map f → ((r.l ++ [(a, d)]).map f).Nodup := fun {β f} h1 h2 => by
    rw [List.map_append, List.nodup_append]
    exact ⟨h1, List.nodup_cons.mpr ⟨(fun z => nomatch z), List.nodup_nil⟩, fun x hx y hy e => h2 (by rw [← List.mem_singleton.mp hy, ← e]; exact hx)⟩
  refine ⟨h.nt.updK, upd_ne' h.op (n1 h.op), upd_same, fun y hy => ?_, nd h.nn hn, nd h.np hp, fun m => ?_, by rw [List.length_append]; exact le⟩
  · rcases List.mem_append.mp hy with hy | hy
    · exact (h.at' y hy).mv fun o e => upd_ne' e (n1 (h.at' y hy).op)
    · rw [List.mem_singleton.mp hy]
      exact hA.mv fun o e => upd_ne' e (n1 hA.op)
  · rw [List.map_append] at m
    rcases List.mem_append.mp m with m | m
    · exact h.n0 m
    · exact h0 (List.mem_singleton.mp m)
end
def RdEnd (K : PySem.W.Frag) (C D : Addr) (M0 : Hp) (r : RecA) (e : Ev) (v : V) (M' G' : Hp) : Prop := v = .non ∧ ∃ r', RecAt K C D none M' G' r' ∧ RecN M0 M' r' ∧ r'.p = r.p ∧ r'.ds = stepJ r.ds e
/-! ### a deal is a list of things that may be operations -/
def itmOf (t : Addr) (op : Op) : Itm := ⟨true, t, opV op⟩
theorem dec_val {n : Int} (h : IsVal n) : inB (-1000000000000000000) 1000000000000000000 (.int n) = true := decide_eq_true h
theorem opV_ok {op : Op} (h : OkOp op) : opB (opV op) = true := by
  have w : ∀ a b : Str, decide (a = b) = true → a = b := fun a b h => of_decide_eq_true h
  cases op with
  | get k =>
    show (decide (("get" : Str) = "get") && keyB (.int k)) = true
    rw [decide_eq_true rfl, Bool.true_and]
    exact decide_eq_true h
  | put k v =>
    show (if ("put" : Str) = "get" then false else wordB "put" (.int k) (ov v)) = true
    rw [if_neg (by decide +kernel)]
    unfold wordB
    rw [if_neg (by decide +kernel), if_neg (by decide +kernel), if_pos (.inl rfl), Bool.and_eq_true]
    refine ⟨decide_eq_true h.1, ?_⟩
    cases v with
    | none => rfl
    | some v => rw [Bool.or_eq_true]; exact .inr (dec_val h.2)
  | add k v =>
    show (if ("add" : Str) = "get" then false else wordB "add" (.int k) (.int v)) = true
    rw [if_neg (by decide +kernel)]
    unfold wordB
    rw [if_neg (by decide +kernel), if_pos rfl, Bool.and_eq_true]
    exact ⟨decide_eq_true h.1, dec_val h.2⟩
  | need k v =>
    show (if ("need" : Str) = "get" then false else wordB "need" (.int k) (ov v)) = true
    rw [if_neg (by decide +kernel)]
    unfold wordB
    rw [if_neg (by decide +kernel), if_neg (by decide +kernel), if_pos (.inr rfl), Bool.and_eq_true]
    refine ⟨decide_eq_true h.1, ?_⟩
    cases v with
    | none => rfl
    | some v => rw [Bool.or_eq_true]; exact .inr (dec_val h.2)
  | scan lo hi =>
    show (if ("scan" : Str) = "get" then false else wordB "scan" (.int lo) (.int hi)) = true
    rw [if_neg (by decide +kernel)]
    unfold wordB
    rw [if_pos rfl]
    show (decide (0 ≤ lo ∧ lo ≤ 1000) && decide (lo ≤ hi ∧ hi ≤ 1000)) = true
    obtain ⟨h1, h2, h3⟩ := h
    rw [decide_eq_true ⟨h1, by omega⟩, decide_eq_true ⟨h2, h3⟩]; rfl
theorem opV_flat (op : Op) : ∀ v ∈ opV op, flatV v = true := by
  have o : ∀ v : Option Int, flatV (ov v) = true := fun v => by cases v <;> rfl
  intro v m
  cases op <;> simp only [opV, List.mem_cons, List.not_mem_nil, or_false] at m
  all_goals first
    | (rcases m with rfl | rfl | rfl <;> first | rfl | exact o _)
    | (rcases m with rfl | rfl <;> rfl)
theorem opV_len (op : Op) : (opV op).length ≤ 4 := by
  cases op <;> first
    | (show 2 ≤ 4; decide)
    | (show 3 ≤ 4; decide)
theorem deal_items {K : PySem.W.Frag} {G : Hp} : ∀ {as : List Addr} {ops : List Op}, OpsAt G as ops → ∃ is : List Itm, is.map (fun i => V.ref i.t) = as.map V.ref ∧ (∀ i ∈ is, ItmAt K G i) ∧ is.length = ops.length ∧ is.all itB = true
  | [], [], _ => ⟨[], rfl, (fun _ m => nomatch m), rfl, rfl⟩
  | a :: as, op :: ops, h => by
    have h0 := h.2 0 a op rfl rfl
    obtain ⟨is, e, hi, hl, hb⟩ := deal_items (K := K) (as := as) (ops := ops) ⟨by have := h.1; simpa using this, fun i b q h1 h2 => h.2 (i + 1) b q h1 h2⟩
    refine ⟨itmOf a op :: is, by rw [List.map_cons, e]; rfl, fun i m => ?_, by rw [List.length_cons, hl]; rfl, ?_⟩
    · rcases List.mem_cons.mp m with rfl | m
      · exact ⟨st_of h0.1, opV_flat op, opV_len op⟩
      · exact hi i m
    · rw [List.all_cons, hb, Bool.and_true]
      show (true && opB (opV op)) = true
      rw [opV_ok h0.2]; rfl
  | [], _ :: _, h => by have := h.1; simp at this
  | _ :: _, [], h => by have := h.1; simp at this
theorem isDeal_at {K : PySem.W.Frag} {G : Hp} {a : Addr} {as : List Addr} {ops : List Op} (h : IsDeal G a as ops) : ∃ is, DealAt K G a is ∧ dealB is = true := by
  obtain ⟨is, e, hi, hl, hb⟩ := deal_items (K := K) h.2.1
  have h1 := h.2.2.1
  have h2 := h.2.2.2
  refine ⟨is, ⟨by rw [e]; exact sl_of h.1, hi, by omega⟩, ?_⟩
  unfold dealB
  rw [hb, decide_eq_true ⟨by omega, by omega⟩]; rfl
theorem w_unlockJ {M G H : Hp} {d : Addr} {u : HO} {od : Obj} {A : Prop} (j : J (upd M d (.frz od u)) G H) (h : M d = some u) (k : ∀ H2, J M G H2 → upd H d u = H2 → A) : H d = some (.frz od u) ∧ A :=
  ⟨j.m _ _ upd_same, k _ (by have := j.put (o' := u) upd_same; rw [upd_upd, upd_self h] at this; exact this) rfl⟩
/-! ### the rows of a drawn record -/
def EvG : Ev → Prop
  | .ask _ ops => ∀ op ∈ ops, SmOp op
  | .tell _ o r => (∃ s, o = .str s) ∧ ∃ rs, r = .list rs ∧ okD 4 r
theorem paired_atE {α β : Type} {F : α → β → Prop} : ∀ {xs : List α} {ys : List β} {i : Nat} {x : α}, Paired F xs ys → xs[i]? = some x → ∃ y, ys[i]? = some y ∧ F x y
  | _, _, _, _, .nil, e => by simp at e
  | _, _, 0, _, .cons h _, e => by
    have e := Option.some.inj e
    subst e
    exact ⟨_, rfl, h⟩
  | _, _, i + 1, _, .cons _ t, e => by
    obtain ⟨y, h1, h2⟩ := paired_atE (i := i) t (by simpa using e)
    exact ⟨y, by simpa using h1, h2⟩
theorem paired_snocE {α β : Type} {F : α → β → Prop} {x : α} {y : β} (h : F x y) : ∀ {xs : List α} {ys : List β}, Paired F xs ys → Paired F (xs ++ [x]) (ys ++ [y])
  | _, _, .nil => .cons h .nil
  | _, _, .cons h' t => .cons h' (paired_snocE h t)
theorem dp_lst {K : PySem.W.Frag} {G : Hp} {v : V} {rs : List PyData} (h : Dp K G v (.list rs)) : ∃ a xs, v = .ref a ∧ SqL K G a xs ∧ DpAll K G xs rs := by
  cases h with
  | lst h1 h2 => exact ⟨_, _, rfl, h1, h2⟩
/-! ### lists that are extended -/
theorem w_extM {M G H : Hp} {a b : Addr} {xs zs : List V} {Q : VK} (j : J M G H) (h : M a = some (.lst xs)) (hb : H b = some (.lst zs)) (z : xs.length + zs.length ≤ 1000000) (q : ∀ H', J (upd M a (.lst (xs ++ zs))) G H' → Q .non H') : rExtend (.ref a) [.ref b] H Q :=
  ⟨a, b, xs, zs, rfl, rfl, j.m _ _ h, hb, sz_le (Nat.le_trans z (by decide)), q _ (j.put h)⟩
def OrK (G : Hp) (k : Nat) (v : V) : Prop := ∃ (a : Addr) (o : List Int), v = .ref a ∧ G a = some (.lst (o.map V.int)) ∧ o.length ≤ k
theorem OrK.ex {G G' : Hp} {k : Nat} {v : V} (h : OrK G k v) (e : Ex G G') : OrK G' k v := by
  obtain ⟨a, o, h1, h2, h3⟩ := h
  exact ⟨a, o, h1, e _ _ h2, h3⟩
theorem OrK.le {G : Hp} {k n : Nat} {v : V} (h : OrK G k v) (e : k ≤ n) : OrK G n v := by
  obtain ⟨a, o, h1, h2, h3⟩ := h
  exact ⟨a, o, h1, h2, Nat.le_trans h3 e⟩
theorem w_popAt {M G H : Hp} {a : Addr} {xs : List V} {y : V} {q : Nat} {Q : VK} (j : J M G H) (h : M a = some (.lst xs)) (hq : xs[q]? = some y) (z : xs.length ≤ 1000000) (k : ∀ H', J (upd M a (.lst (xs.eraseIdx q))) G H' → Q y H') : rPopAt (.ref a) [.int q] H Q := by
  have hl := (List.getElem?_eq_some_iff.mp hq).1
  refine ⟨a, xs, q, q, y, rfl, rfl, j.m _ _ h, by omega, by omega, ?_, hq, k _ (j.put h)⟩
  have h1 : (0 : Int) ≤ (q : Int) := Int.natCast_nonneg q
  have h2 : (q : Int) < (xs.length : Int) := Int.ofNat_lt.mpr hl
  unfold seqIndex?
  first
    | (rw [if_neg (by omega)]; simp [h1, h2]; done)
    | (simp [h1, h2]; done)
    | (simp [h1, h2, Int.not_lt.mpr h1]; done)
/-! ### except suites that raise, `from None` -/
section
variable {P : Program} {w : World} {K : PySem.W.Frag} {mg : Str → Option Value} {base : Heap}
theorem fn_weakN {f : Addr} {fd : FuncData} {ps : List Str} {k : Nat} {sp : Sp} (F : FnOk P w K mg base (L2N.CX P w) k f fd ps sp) : FnOk P w K mg base (L2.CX P w) k f fd ps sp := by
  refine ⟨F.len, fun A outer s H args us vs Q E hr he hb hv hs => codeAny_mono (F.run A outer s H args us vs Q E hr he hb hv hs) fun r s' g => ?_⟩
  cases r with
  | ok c =>
    cases c with
    | ret u => exact g
    | _ => exact g
  | error e =>
    obtain ⟨a, B, H', cls, d, e1, fl, rest⟩ := g
    exact ⟨a, B, H', cls, d, e1, L2H.flyingZ_imp (fun o z => L2N.Zn.zc z) fl, rest⟩
theorem cal_weakN {x : Str} {k : Nat} {sp : Sp} (c : Cal P w K mg base (L2N.CX P w) k x sp) : Cal P w K mg base (L2.CX P w) k x sp := by
  obtain ⟨f, fd, ps, F, r⟩ := c.ex
  exact ⟨f, fd, ps, fn_weakN F, r⟩
theorem Dn.okXN {x : Str} {st : Stmt} {ps : List Str} {f : Addr} {fd : FuncData} {N : List Str} {k : Nat} {sp : Sp} (D : Dn K mg x st ps f fd) (S : FnScope N ps (defScope st)) (len : ∀ vs H Q E, sp vs H Q E → vs.length = ps.length)
    (hbody : ∀ (cdv : Value) (A : Around) (outer : List Env) (s : Shared) (H : Hp) (vs : List V) (Q : VK) (E : XK), Room k (A.deeper (envOfC x (defScope st) s.heap.objs.size f cdv)) → sp vs H Q E →
      ∃ t, PSs (cxOf (L2N.CX P w) P w K mg base N x (defScope st) f cdv A outer s H E) (defBody st) t ∧ t { nx := fun _ H' => Q .non H', rt := Q } (start N vs) H) : Cal P w K mg base (L2N.CX P w) (k + 1) x sp := by
  obtain ⟨oc, od, kV, doc, pm, an, cdv, ct, osl, q, lk, hcd⟩ := D.fn.ex
  subst q
  exact D.cal (fn_of lk hcd S len fun A outer s H vs Q E hr hsp => hbody cdv A outer s H vs Q E hr hsp)
end
theorem pe_calXN {X : Cx} {k j : Nat} {x : Str} {sp : Sp} {p pos : Pos} {e : Expr} {es : List Expr} {t : TA} {W : WX} (c : Cal X.prog X.w X.K X.mg X.base (L2N.CX X.prog X.w) k x sp) (hr : Room j X.A) (hk : k ≤ j) (hg : Gl X x) (tk : L2N.Takes X W) (ha : PA X (e :: es) t)
    (hdb : (x == ("__debug__" : Str)) = false := by decide) (he : starEach (e :: es) X.env = (false, eval e X.env) :: starEach es X.env := by rfl) (hpl : (backTo pos (starEach es X.env)).any (·.1) = false := by rfl) :
    PE X (.Call (.Name x p) (e :: es) [] pos) (tCallS sp (WE W) t) := by
  obtain ⟨f, fd, ps, F, hm, kp, b⟩ := c.ex
  exact pe_callS F (hr.mono hk) hg hm kp b (fun σ => L2N.passAt tk σ) ha hdb he hpl
theorem ps_raiseAN {X : Cx} {W : WX} {x m : Str} {C : Addr} {j : Nat} {p p2 pos pos2 : Pos} (hc : X.calm = true) (tk : L2N.Takes X W) (h : Xc X.K X.mg x C) (hg : Gl X x) (hdb : (x == ("__debug__" : Str)) = false := by decide) :
    PS X (.Raise (some (.Call (.Name x p) [.Constant (.str m) j p2] [] pos)) none pos2) (tRaiseA C W) := L2N.ps_raise hc tk (L2N.pmk_own PySem.F.excBase_ValueError h.xP h.gP h.kP (raises_own h.bP h.tP) hg hdb)
theorem pmk5_ownN {X : Cx} {C : Addr} {bmB : List Value} {B newId initId : String} {x m : Str} {j : Nat} {p p2 pos : Pos} (F : ExcBaseFacts B newId initId bmB) (q : PySem.W.excIn X.K C bmB newId = true) (gC : X.mg x = some (.ref C)) (kC : PySem.W.keepIn X.K (.ref C) = true) (r : Raises X (.ref C)) (hg : Gl X x)
    (hdb : (x == ("__debug__" : Str)) = false := by decide) : L2H.PMk5 X (.Call (.Name x p) [.Constant (.str m) j p2] [] pos) (fun _ H Q => Q (.ref C) none H) := by
  intro pins s σ H Q I h
  have ha : PA X [.Constant (.str m) j p2] (tCons (tC (.str m)) tNil) := pa_cons pe_str pa_nil
  refine wpAny_Call_Name_kw (ld_glob I hg gC (PySem.W.callWith_K (h₀ := X.base) I.ok.mod.kin kC (thn (ha.run pos pins s σ H (fun vs H1 => vs = [V.str m] ∧ H = H1) I ⟨rfl, rfl⟩) fun us s1 hh => ?_)) hdb)
  obtain ⟨vs, H1, I1, r1, ev, eH⟩ := hh
  subst ev
  rw [← eH] at I1
  refine ⟨I1.kIn, ?_⟩
  cases r1 with
  | cons ru rn =>
    rename_i u us'
    cases rn
    show wpAny _ _ (call (.ref C) [u]) _ _ _
    obtain ⟨bm, N, nm, qn, bs, hdct, sn, sub, ab, col, dd, k0, k1, k2, k3, k5, mN, hC, hN, hni, T⟩ := exc_obj I1.kIn q
    exact wpAny_call_exc_subT F T hC hN hni (fun h' e hm => L2H.mk_of5 I1 hm r h (I1.hok.gone hm.new)) (by show 1 ≤ sizeLine; rw [sizeLine_eq]; omega)
theorem ps_raiseFN {X : Cx} {W : WX} {x m : Str} {C : Addr} {j j2 : Nat} {p p2 pos pos2 cpos : Pos} (hc : L2H.HotC X) (tk : L2.Takes X W) (h : Xc X.K X.mg x C) (hg : Gl X x) (hdb : (x == ("__debug__" : Str)) = false := by decide) :
    PS X (.Raise (some (.Call (.Name x p) [.Constant (.str m) j p2] [] pos)) (some (.Constant .none j2 cpos)) pos2) (tRaiseA C W) := L2H.ps_raiseHN hc tk (pmk5_ownN PySem.F.excBase_ValueError h.xP h.gP h.kP (raises_own h.bP h.tP) hg hdb)
def tTryH (K : PySem.W.Frag) (c : Value) (tb : WX → TS) (ts : Addr → Value → Option Addr → TS) (Wout : WX) : TS := fun D σ H => tb (wOnly K c ts Wout D) D σ H
theorem w_tryH {K : PySem.W.Frag} {c : Value} {tb : WX → TS} {ts : Addr → Value → Option Addr → TS} {Wout : WX} {D : Ends} {σ : L2.St} {H : Hp} (h : tb (wOnly K c ts Wout D) D σ H) : tTryH K c tb ts Wout D σ H := h
theorem ps_tryH {X : Cx} {x : Str} {c : Value} {body suite : List Stmt} {b₀ : Stmt} {np pos pos' : Pos} {tb : WX → TS} {ts : Addr → Value → Option Addr → TS} {Wout : WX} (hs : X.stack = X.env :: X.outer) (hf : X.env.frame = some X.env.locals) (hc : Names X x c)
    (hpa : ∀ hd : Option Value, PassesOwnAt (model X.prog X.w) (X.A.mark hd) X.A X.env X.xe) (tk : L2.Takes X Wout)
    (hb : ∀ (W : WX) (pn : List (Addr × Obj)) (xe : Value → Shared → Prop), L2N.Takes (X.tr pn xe) W → PSs (X.tr pn xe) body (tb W))
    (hsu : ∀ (a : Addr) (oe : Obj) (cls : Value) (d : Option Addr) (pn : List (Addr × Obj)), L2.Takes (L2H.suiteX X a ((a, oe) :: pn)) Wout → L2H.HotC (L2H.suiteX X a ((a, oe) :: pn)) → PSs (L2H.suiteX X a ((a, oe) :: pn)) (b₀ :: suite) (ts a cls d)) :
    PS X (.Try body [.ExceptHandler (some (.Name x np)) none (b₀ :: suite) pos'] [] [] pos) (tTryH X.K c tb ts Wout) :=
  L2H.ps_try_onlyX hs hf hc hpa tk (fun W pn xe t1 _ _ => hb W pn xe t1) (fun a oe cls d pn _ _ t1 h1 => hsu a oe cls d pn t1 h1)
theorem takes_topN {P : Program} {w : World} {K : PySem.W.Frag} {mg : Str → Option Value} {base : Heap} {N : List Str} {x : Str} {sc : Scope} {f : Addr} {cdv : Value} {A : Around} {outer : List Env} {s : Shared} {H : Hp} {E : XK} : L2N.Takes (cxOf (L2N.CX P w) P w K mg base N x sc f cdv A outer s H E) (fun cls d _ H => E cls d H) := L2N.takes_of rfl rfl rfl rfl
theorem pe_calMX {X : Cx} {k j : Nat} {C : Addr} {m : Str} {sp : Sp} {pos apos : Pos} {o e : Expr} {es : List Expr} {ta : TE} {t : TA} {E : XK} (c : CalM X.prog X.w X.K X.mg X.base (L2.CX X.prog X.w) k C m sp) (cl : Cls X.K C) (hr : Room j X.A) (hk : k ≤ j) (tk : Takes X (fun cls d _ H => E cls d H)) (ho : PE X o ta) (ha : PA X (e :: es) t) {pl : Sem Bool}
    (hst : starEach (e :: es) X.env = (false, eval e X.env) :: starEach es X.env := by rfl) (hpl : (backTo pos (starEach es X.env)).any (·.1) = false := by rfl)
    (ht : eval (.Call (.Attribute o m apos) (e :: es) [] pos) X.env = (do
      let ov ← eval o X.env
      standAt apos.atName
      let (f, first) ← holding [ov] (getMethod ov m pl)
      callWith pos f first (backTo pos (starEach (e :: es) X.env)) (backToKw pos (keywordEach [] X.env))) := by rfl) :
    PE X (.Call (.Attribute o m apos) (e :: es) [] pos) (tMeth C m sp [] E ta t) := by
  obtain ⟨f, fd, ps, F, me, b⟩ := c.ex
  exact pe_meth ho cl me F (hr.mono hk) b .nil (L2.passes_call tk fun _ _ _ _ h => h) ha hst hpl ht
/-! ### what is asked, whatever it is -/
def ThAt (K : PySem.W.Frag) (G : Hp) (v : V) : Option (List Itm) → Prop
  | some is => ∃ a, v = .ref a ∧ DealAt K G a is
  | none => v = .non ∨ ∃ t xs, v = .ref t ∧ SqT K G t xs
def thB : Option (List Itm) → Bool
  | some is => dealB is
  | none => false
inductive Dth where
  | good (a : Addr) (as : List Addr) (ops : List Op)
  | bad (a : Addr) (is : List Itm)
  | no (v : V)
def DthAt (K : PySem.W.Frag) (G : Hp) (v : V) : Dth → Prop
  | .good a as ops => v = .ref a ∧ IsDeal G a as ops
  | .bad a is => v = .ref a ∧ DealAt K G a is ∧ dealB is = false
  | .no u => v = u ∧ (u = .non ∨ ∃ t xs, u = .ref t ∧ SqT K G t xs)
def Dth.isGood : Dth → Bool
  | .good _ _ _ => true
  | _ => false
theorem DthAt.ex {K : PySem.W.Frag} {G G' : Hp} {v : V} {x : Dth} (h : DthAt K G v x) (e : Ex G G') : DthAt K G' v x := by
  cases x with
  | good a as ops => exact ⟨h.1, h.2.ex e⟩
  | bad a is => exact ⟨h.1, h.2.1.ex e, h.2.2⟩
  | no u =>
    refine ⟨h.1, ?_⟩
    rcases h.2 with z | ⟨t, xs, z, ht⟩
    · exact .inl z
    · exact .inr ⟨t, xs, z, st_mono e ht⟩
theorem dth_th {K : PySem.W.Frag} {G : Hp} {v : V} {x : Dth} (h : DthAt K G v x) : ∃ y, ThAt K G v y ∧ thB y = x.isGood := by
  cases x with
  | good a as ops =>
    obtain ⟨is, h1, h2⟩ := isDeal_at (K := K) h.2
    exact ⟨some is, ⟨a, h.1, h1⟩, h2⟩
  | bad a is => exact ⟨some is, ⟨a, h.1, h.2.1⟩, h.2.2⟩
  | no u =>
    refine ⟨none, ?_, rfl⟩
    obtain ⟨rfl, h⟩ := h
    exact h
/-- a row of what may be a record -/
inductive RowX where
  | ask (n : Int) (x : Dth)
  | tell (n : Int) (o r : PyData)
  | junk
def JunkAt (K : PySem.W.Frag) (G : Hp) (v : V) : Prop := (∃ t xs, v = .ref t ∧ SqL K G t xs) ∨ ∃ t xs, v = .ref t ∧ SqT K G t xs ∧
  (xs.length < 3 ∨ ∃ w nm rest, xs = .str w :: nm :: rest ∧ 1 ≤ rest.length ∧ ((∃ b, nm = .bl b) ∨ (∃ s, nm = .str s) ∨ ∃ n, nm = .int n ∧ ¬ (w = "asked" ∧ rest.length = 1) ∧ ¬ (w = "told" ∧ rest.length = 2)))
def RowAt (K : PySem.W.Frag) (G : Hp) (v : V) : RowX → Prop
  | .ask n x => ∃ t u, v = .ref t ∧ G t = some (.tup [.str "asked", .int n, u]) ∧ DthAt K G u x
  | .tell n o r => ∃ t v1 v2, v = .ref t ∧ G t = some (.tup [.str "told", .int n, v1, v2]) ∧ Dp K G v1 o ∧ Dp K G v2 r
  | .junk => JunkAt K G v
def okAsk (ds : List JD) (n : Int) (x : Dth) : Prop := n ∉ ds.map (·.name) ∧ ds.length < 7 ∧ x.isGood = true
def opsOf : Dth → List Op
  | .good _ _ ops => ops
  | _ => []
def okRow (ds : List JD) : RowX → Prop
  | .ask n x => okAsk ds n x
  | .tell n o r => okEv ds (.tell n o r)
  | .junk => False
def evR : RowX → Ev
  | .ask n x => .ask n (opsOf x)
  | .tell n o r => .tell n o r
  | .junk => .ask 0 []
theorem RowAt.ex {K : PySem.W.Frag} {G G' : Hp} {v : V} {e : RowX} (h : RowAt K G v e) (x : Ex G G') : RowAt K G' v e := by
  cases e with
  | ask n d => obtain ⟨t, u, h1, h2, h3⟩ := h; exact ⟨t, u, h1, x _ _ h2, h3.ex x⟩
  | tell n o r => obtain ⟨t, v1, v2, h1, h2, h3, h4⟩ := h; exact ⟨t, v1, v2, h1, x _ _ h2, dp_mono x h3, dp_mono x h4⟩
  | junk =>
    rcases h with ⟨t, xs, h1, h2⟩ | ⟨t, xs, h1, h2, h3⟩
    · exact .inl ⟨t, xs, h1, sl_mono x h2⟩
    · exact .inr ⟨t, xs, h1, st_mono x h2, h3⟩
def okRows : List JD → List RowX → Prop
  | _, [] => True
  | ds, e :: r => okRow ds e ∧ okRows (stepJ ds (evR e)) r
theorem row_len {ds : List JD} {e : RowX} (h : okRow ds e) (l : ds.length ≤ 7) : (stepJ ds (evR e)).length ≤ 7 := by
  cases e with
  | ask n x =>
    show (ds ++ [_]).length ≤ 7
    rw [List.length_append]
    have := h.2.1
    show ds.length + 1 ≤ 7
    omega
  | tell n o r =>
    show (ds.map _).length ≤ 7
    rw [List.length_map]; exact l
  | junk => exact h.elim
theorem paired_atX {α β : Type} {F : α → β → Prop} : ∀ {xs : List α} {ys : List β} {i : Nat} {x : α}, Paired F xs ys → xs[i]? = some x → ∃ y, ys[i]? = some y ∧ F x y
  | _, _, _, _, .nil, e => by simp at e
  | _, _, 0, _, .cons h _, e => by
    have e := Option.some.inj e
    subst e
    exact ⟨_, rfl, h⟩
  | _, _, i + 1, _, .cons _ t, e => by
    obtain ⟨y, h1, h2⟩ := paired_atX (i := i) t (by simpa using e)
    exact ⟨y, by simpa using h1, h2⟩
/-! ### what a law asks of deals and rows, by its own look at them -/
def bad64 : List PyData := [.tuple [.str "put", .int 1], .tuple [.str "add", .int 1, .none], .tuple [.str "scan", .int 6, .int 5], .tuple [.str "put", .int 1, .int 1000000000000000001]]
def lwV (vs : List V) : Bool := match vs with
  | .str w :: .int n :: _ => !decide (w = "set") && (decide (0 ≤ n) && (decide (n ≤ 999) && !(bad64.any fun z => PyData.eqv z (.tuple (vs.map pd)))))
  | _ => false
def lwI (i : Itm) : Bool := i.tp && lwV i.vs
def lwD (is : List Itm) : Bool := decide (1 ≤ is.length ∧ is.length ≤ 6) && is.all lwI
def ShI (i : Itm) : Prop := i.tp = true → (∃ w x r, i.vs = .str w :: x :: r ∧ ((∃ n, x = .int n) ∨ ∃ b, x = .bl b)) ∧ SeqAt.shaped (.tuple (i.vs.map pd)) = true
def LwO (op : Op) : Prop := lwV (opV op) = true ∧ SeqAt.shaped (.tuple ((opV op).map pd)) = true
/-- what is asked, with the law's look at it -/
def LwAt (K : PySem.W.Frag) (G : Hp) (v : V) (x : Dth) : Prop := DthAt K G v x ∧ match x with
  | .good _ _ ops => ∀ op ∈ ops, LwO op
  | .bad _ is => lwD is = false ∧ ∀ i ∈ is, ShI i
  | _ => True
def lwB : Option (List Itm) → Bool
  | some is => lwD is
  | none => false
theorem LwAt.ex {K : PySem.W.Frag} {G G' : Hp} {v : V} {x : Dth} (h : LwAt K G v x) (e : Ex G G') : LwAt K G' v x := ⟨h.1.ex e, h.2⟩
theorem lwV_put {k x : Int} (h : IsKey k) (hx : x = 1) : lwV (opV (.put k (some x))) = true := by
  subst hx
  have ap : (("add" : Str) == "put") = false := by decide +kernel
  have sp : (("scan" : Str) == "put") = false := by decide +kernel
  have e1 : ((1000000000000000001 : Int) == 1) = false := by decide
  have h3 : (bad64.any fun z => PyData.eqv z (.tuple ((opV (.put k (some 1))).map pd))) = false := by
    simp only [bad64, List.any_cons, List.any_nil, opV, ov, List.map_cons, List.map_nil, pd, PyData.eqv, PyData.eqvAll, ap, sp, e1, Bool.false_and, Bool.or_false, Bool.and_false]
  unfold lwV
  dsimp only [opV, ov] at h3 ⊢
  rw [h3, decide_eq_true h.1, decide_eq_true (show k ≤ 999 by have := h.2; omega), show (!decide (("put" : Str) = "set")) = true by decide +kernel]; rfl
theorem shp_put {k x : Int} : SeqAt.shaped (.tuple ((opV (.put k (some x))).map pd)) = true := by
  have : PyData.strOk "put" = true := by decide +kernel
  simp only [SeqAt.shaped, opV, ov, List.map_cons, List.map_nil, pd, PyData.depth, PyData.depthAll, PyData.canLay0, PyData.canLayAll0, this]
  decide
theorem lw_items {K : PySem.W.Frag} {G : Hp} : ∀ {as : List Addr} {ops : List Op}, OpsAt G as ops → (∀ op ∈ ops, LwO op) → ∃ is : List Itm, is.map (fun i => V.ref i.t) = as.map V.ref ∧ (∀ i ∈ is, ItmAt K G i ∧ ShI i) ∧ is.length = ops.length ∧ is.all lwI = true
  | [], [], _, _ => ⟨[], rfl, (fun _ m => nomatch m), rfl, rfl⟩
  | a :: as, op :: ops, h, g => by
    have h0 := h.2 0 a op rfl rfl
    obtain ⟨is, e, hi, hl, hb⟩ := lw_items (K := K) (as := as) (ops := ops) ⟨by have := h.1; simpa using this, fun i b q h1 h2 => h.2 (i + 1) b q h1 h2⟩ fun q m => g q (List.mem_cons_of_mem _ m)
    refine ⟨itmOf a op :: is, by rw [List.map_cons, e]; rfl, fun i m => ?_, by rw [List.length_cons, hl]; rfl, ?_⟩
    · rcases List.mem_cons.mp m with rfl | m
      · refine ⟨⟨st_of h0.1, opV_flat op, opV_len op⟩, fun _ => ?_⟩
        refine ⟨?_, (g op List.mem_cons_self).2⟩
        cases op <;> exact ⟨_, _, _, rfl, .inl ⟨_, rfl⟩⟩
      · exact hi i m
    · rw [List.all_cons, hb, Bool.and_true]
      show (true && lwV (opV op)) = true
      rw [(g op List.mem_cons_self).1]; rfl
  | [], _ :: _, h, _ => by have := h.1; simp at this
  | _ :: _, [], h, _ => by have := h.1; simp at this
theorem lw_th {K : PySem.W.Frag} {G : Hp} {v : V} {x : Dth} (h : LwAt K G v x) : ∃ y, ThAt K G v y ∧ lwB y = x.isGood ∧ ∀ is, y = some is → ∀ i ∈ is, ShI i := by
  obtain ⟨h, hl⟩ := h
  cases x with
  | good a as ops =>
    obtain ⟨rfl, h⟩ := h
    dsimp only at hl
    obtain ⟨is, e, hi, hl2, hb⟩ := lw_items (K := K) h.2.1 hl
    have h1 := h.2.2.1
    have h2 := h.2.2.2
    refine ⟨some is, ⟨a, rfl, by rw [e]; exact sl_of h.1, fun i m => (hi i m).1, by omega⟩, ?_, fun is' q i m => (hi i (by cases q; exact m)).2⟩
    show lwD is = true
    unfold lwD
    rw [hb, decide_eq_true ⟨by omega, by omega⟩]; rfl
  | bad a is => exact ⟨some is, ⟨a, h.1, h.2.1⟩, hl.1, fun is' q i m => hl.2 i (by cases q; exact m)⟩
  | no u =>
    refine ⟨none, ?_, rfl, fun _ q => nomatch q⟩
    obtain ⟨rfl, h⟩ := h
    exact h
def RwL (K : PySem.W.Frag) (G : Hp) (v : V) : RowX → Prop
  | .ask n x => ∃ t u, v = .ref t ∧ G t = some (.tup [.str "asked", .int n, u]) ∧ LwAt K G u x
  | .tell n o r => ∃ t v1 v2, v = .ref t ∧ G t = some (.tup [.str "told", .int n, v1, v2]) ∧ Dp K G v1 o ∧ Dp K G v2 r
  | .junk => JunkAt K G v
theorem RwL.row {K : PySem.W.Frag} {G : Hp} {v : V} {e : RowX} (h : RwL K G v e) : RowAt K G v e := by
  cases e with
  | ask n x => obtain ⟨t, u, h1, h2, h3⟩ := h; exact ⟨t, u, h1, h2, h3.1⟩
  | tell n o r => exact h
  | junk => exact h
theorem RwL.ex {K : PySem.W.Frag} {G G' : Hp} {v : V} {e : RowX} (h : RwL K G v e) (x : Ex G G') : RwL K G' v e := by
  cases e with
  | ask n d => obtain ⟨t, u, h1, h2, h3⟩ := h; exact ⟨t, u, h1, x _ _ h2, h3.ex x⟩
  | tell n o r => exact RowAt.ex (e := .tell n o r) h x
  | junk => exact RowAt.ex (e := .junk) h x
/-! ### the law's count of the asked and the told -/
structure GdS (ds : List JD) (ns tl : List Int) : Prop where
  nm : ds.map (·.name) = ns
  nd : ns.Nodup
  tl : ∀ n, n ∈ tl ↔ ∃ d ∈ ds, d.name = n ∧ d.ans ≠ none
theorem GdS.nil : GdS [] [] [] := ⟨rfl, List.nodup_nil, fun n => ⟨(fun m => nomatch m), fun ⟨_, m, _⟩ => nomatch m⟩⟩
theorem GdS.ok {ds : List JD} {ns tl : List Int} {n : Int} {o r : PyData} (h : GdS ds ns tl) : okEv ds (.tell n o r) ↔ n ∈ ns ∧ n ∉ tl := by
  constructor
  · rintro ⟨d, hd, hn, ha⟩
    refine ⟨by rw [← h.nm, ← hn]; exact List.mem_map_of_mem (f := (·.name)) hd, fun m => ?_⟩
    obtain ⟨d', hd', hn', ha'⟩ := (h.tl n).mp m
    obtain rfl := nodup_inj (f := (·.name)) (by rw [h.nm]; exact h.nd) hd hd' (hn.trans hn'.symm)
    exact ha' ha
  · rintro ⟨h1, h2⟩
    rw [← h.nm] at h1
    obtain ⟨d, hd, hn⟩ := List.mem_map.mp h1
    refine ⟨d, hd, hn, ?_⟩
    cases e : d.ans with
    | none => rfl
    | some y => exact absurd ((h.tl n).mpr ⟨d, hd, hn, by rw [e]; exact fun z => nomatch z⟩) h2
theorem GdS.ask {ds : List JD} {ns tl : List Int} {n : Int} {ops : List Op} (h : GdS ds ns tl) (hn : n ∉ ns) : GdS (stepJ ds (.ask n ops)) (ns ++ [n]) tl := by
  refine ⟨?_, ?_, fun m => ?_⟩
  · show (ds ++ [_]).map _ = _
    rw [List.map_append, h.nm]; rfl
  · rw [List.nodup_append]
    exact ⟨h.nd, List.nodup_cons.mpr ⟨(fun z => nomatch z), List.nodup_nil⟩, fun x hx y hy e => hn (by rw [← List.mem_singleton.mp hy, ← e]; exact hx)⟩
  · rw [h.tl]
    constructor
    · rintro ⟨d, hd, h1⟩
      exact ⟨d, List.mem_append_left _ hd, h1⟩
    · rintro ⟨d, hd, h1, h2⟩
      rcases List.mem_append.mp hd with hd | hd
      · exact ⟨d, hd, h1, h2⟩
      · rw [List.mem_singleton.mp hd] at h2
        exact absurd rfl h2
theorem GdS.tell {ds : List JD} {ns tl : List Int} {n : Int} {o r : PyData} (h : GdS ds ns tl) (hn : n ∈ ns) : GdS (stepJ ds (.tell n o r)) ns (tl ++ [n]) := by
  have e1 : ∀ d, (setAns n o r d).name = d.name := fun d => by unfold setAns; split <;> rfl
  refine ⟨?_, h.nd, fun m => ?_⟩
  · show (ds.map _).map _ = _
    rw [List.map_map, ← h.nm]
    exact List.map_congr_left fun d _ => e1 d
  · rw [List.mem_append, List.mem_singleton]
    constructor
    · rintro (hm | rfl)
      · obtain ⟨d, hd, h1, h2⟩ := (h.tl m).mp hm
        refine ⟨_, List.mem_map_of_mem (f := setAns n o r) hd, (e1 d).trans h1, ?_⟩
        unfold setAns
        split
        · exact fun z => nomatch z
        · exact h2
      · rw [← h.nm] at hn
        obtain ⟨d, hd, h1⟩ := List.mem_map.mp hn
        refine ⟨_, List.mem_map_of_mem (f := setAns m o r) hd, (e1 d).trans h1, ?_⟩
        unfold setAns
        rw [if_pos h1]
        exact fun z => nomatch z
    · rintro ⟨d, hd, h1, h2⟩
      obtain ⟨c, hc, rfl⟩ := List.mem_map.mp hd
      rw [e1] at h1
      by_cases q : c.name = n
      · exact .inr (h1.symm.trans q)
      · unfold setAns at h2
        rw [if_neg q] at h2
        exact .inl ((h.tl m).mpr ⟨c, hc, h1, h2⟩)
/-! ### isinstance of a caught error and a tuple of classes -/
def rIsET (K : PySem.W.Frag) (D a : Addr) : List V → Hp → VK → Prop := fun xs H Q => ∃ (tp : Addr) (cs : List V) (us : List Value) (b : Bool), xs = [.ref a, .ref tp] ∧ H tp = some (.tup cs) ∧ Paired ClsV cs us ∧ PySem.W.kitAny K (.ref D) us = some b ∧ Q (.bl b) H
theorem call_isET {X : Cx} {a D : Addr} {oe : Obj} {pn : List (Addr × Obj)} (C : ExcC X.K D) (hz : Zc (.ref D) none oe) (hf : ∃ vs, oe.data = .fields vs) : CallR (X.suite a ((a, oe) :: pn)) (.builtin "isinstance") (rIsET X.K D a) := by
  intro pins s σ H xs us Q I r h
  obtain ⟨tp, cs, ws, b, rfl, hT, k, e, q⟩ := h
  obtain ⟨u1, u2, rfl, r1, r2⟩ := vals2 r
  cases (show u1 = Value.ref a from r1)
  cases (show u2 = Value.ref tp from r2)
  obtain ⟨hget, _⟩ := I.pin (a, oe) (List.mem_append.mpr (.inl List.mem_cons_self))
  obtain ⟨vs, hv⟩ := hf
  have J : PySem.W.InstAt s.heap a oe D none := by
    obtain ⟨oc, od, oda, osl⟩ := oe
    obtain ⟨h1, h2⟩ := hz
    dsimp only at h1 h2 hv
    subst h1 h2 hv
    exact ⟨hget, rfl, rfl, trivial⟩
  obtain ⟨_, its, rv, o, h1, h2, n, h3⟩ := (show ObjOk _ _ H s.heap tp (.tup cs) from I.hok tp _ hT)
  have e3 := ClsV.all k rv
  subst e3
  obtain ⟨oc, od, dt, sl⟩ := o
  simp only at h2 h3
  subst h2 h3
  exact PySem.W.kia_tup (PySem.W.handS_kitx_exc C.hg C.hk C.hs C.hd C.ha C.hn C.ht C.hm) I.kIn J h1 e (fun z => nomatch z) fun tk => ⟨.bl b, H, I.kept (t' := tk) fun _ _ z => z, rfl, q⟩
theorem w_isET3 {K : PySem.W.Frag} {M G H : Hp} {D a t A B C : Addr} {Q : VK} (j : J M G H) (ht : G t = some (.tup [.ref A, .ref B, .ref C])) (h1 : PySem.W.kitOne K (.ref D) (.ref A) = some false) (h2 : PySem.W.kitOne K (.ref D) (.ref B) = some false) (h3 : PySem.W.kitOne K (.ref D) (.ref C) = some false) (q : Q (.bl false) H) : rIsET K D a [.ref a, .ref t] H Q :=
  ⟨t, _, [.ref A, .ref B, .ref C], false, rfl, j.g _ _ ht, .cons (.own A) (.cons (.own B) (.cons (.own C) .nil)), (kitAny_cons h1 (fun _ => kitAny_cons h2 (fun _ => kitAny_cons h3 (fun _ => kitAny_nil) (fun z => nomatch z)) (fun z => nomatch z)) (fun z => nomatch z)), q⟩
/-- a list times a number -/
theorem w_repM {M G H : Hp} {l : Addr} {xs : List V} {k : Int} {Q : VK} (j : J M G H) (h : G l = some (.lst xs)) (h1 : -(2 ^ 63) ≤ k) (h2 : k < 2 ^ 63) (z : xs.length * k.toNat ≤ 1000000)
    (q : ∀ p G' H', J M G' H' → Ex G G' → G' p = some (.lst (List.replicate k.toNat xs).flatten) → Q (.ref p) H') : uMul (.ref l) (.int k) H Q :=
  .inr ⟨l, k, xs, rfl, rfl, j.g _ _ h, h1, h2, sz_le z, fun p hp => q p _ _ (j.newG hp) (Ex.new (j.freeG hp)) upd_same⟩
theorem w_inM {K : PySem.W.Frag} {neg : Bool} {M G H : Hp} {a : Addr} {x : V} {xs : List V} {Q : VK} (j : J M G H) (h : M a = some (.lst xs)) (hx : flatV x = true) (hf : xs.all flatV = true) (q : Q (.bl (if neg then !inV x xs else inV x xs)) H) : rIn K neg x (.ref a) H Q := ⟨a, xs, rfl, .inl (sl_of (j.m _ _ h)), hx, hf, q⟩
theorem w_inMI {K : PySem.W.Frag} {M G H : Hp} {a : Addr} {n : Int} {ns : List Int} {Q : VK} (j : J M G H) (h : M a = some (.lst (ns.map V.int))) (q : Q (.bl (decide (n ∈ ns))) H) : rIn K false (.int n) (.ref a) H Q :=
  w_inM j h rfl (flat_ints ns) (by rw [if_neg Bool.false_ne_true, inV_int]; exact q)
theorem w_ninMI {K : PySem.W.Frag} {M G H : Hp} {a : Addr} {n : Int} {ns : List Int} {Q : VK} (j : J M G H) (h : M a = some (.lst (ns.map V.int))) (q : Q (.bl (!decide (n ∈ ns))) H) : rIn K true (.int n) (.ref a) H Q :=
  w_inM j h rfl (flat_ints ns) (by rw [if_pos rfl, inV_int]; exact q)
theorem op_inDK {X : Cx} {K : PySem.W.Frag} {j : Nat} (h : X.K = K) (hr : Room j X.A) : OpR X (compareOp .In) (rInD K) := h ▸ op_inD (by have := hr.un; omega)
theorem shp_bad : SeqAt.shaped (.list bad64) = true := by
  unfold bad64
  have h1 : PyData.strOk "put" = true := by decide +kernel
  have h2 : PyData.strOk "add" = true := by decide +kernel
  have h3 : PyData.strOk "scan" = true := by decide +kernel
  simp only [SeqAt.shaped, PyData.depth, PyData.depthAll, PyData.canLay0, PyData.canLayAll0, h1, h2, h3]
  decide
theorem w_catTN {K : PySem.W.Frag} {M G H : Hp} {a b : Addr} {x y : V} {xs ys : List V} {Q : VK} (j : J M G H) (h1 : SqT K G a (x :: xs)) (h2 : SqT K G b (y :: ys)) (z : (x :: xs).length + (y :: ys).length ≤ 1000000)
    (k : ∀ p G' H', J M G' H' → Ex G G' → G' p = some (.tup ((x :: xs) ++ (y :: ys))) → Q (.ref p) H') : uAdd K (.ref a) (.ref b) H Q :=
  .inr (.inr ⟨a, b, x :: xs, y :: ys, rfl, rfl, st_mono j.g h1, st_mono j.g h2, sz_le z, (fun e => nomatch e), (fun _ e => nomatch e),
    fun _ _ p hp => k p _ _ (j.newG hp) (Ex.new (j.freeG hp)) upd_same⟩)
theorem cut_2 {x y : V} {r : List V} : cutV (x :: y :: r) (some 2) none = r := by
  have h1 : HT.sIx (x :: y :: r).length 0 (some 2) = min 2 (x :: y :: r).length := rfl
  have h2 : HT.sIx (x :: y :: r).length (x :: y :: r).length none = (x :: y :: r).length := rfl
  have h3 : min 2 (x :: y :: r).length = 2 := by simp only [List.length_cons]; omega
  unfold cutV
  rw [h1, h2, h3]
  simp
theorem cut_1 {x : V} {r : List V} : cutV (x :: r) (some 1) none = r := by
  have h1 : HT.sIx (x :: r).length 0 (some 1) = min 1 (x :: r).length := rfl
  have h2 : HT.sIx (x :: r).length (x :: r).length none = (x :: r).length := rfl
  have h3 : min 1 (x :: r).length = 1 := by simp only [List.length_cons]; omega
  unfold cutV
  rw [h1, h2, h3]
  simp
theorem cut_i3 {x y z : V} : cutV [x, y, z] none (some (([x, y, z].length : Int) - 1)) = [x, y] := rfl
theorem cut_i4 {x y z u : V} : cutV [x, y, z, u] none (some (([x, y, z, u].length : Int) - 1)) = [x, y, z] := rfl
def nmOk : RowX → Prop
  | .ask n _ => -100 ≤ n ∧ n ≤ 100
  | .tell n _ _ => -100 ≤ n ∧ n ≤ 100
  | .junk => False
theorem log_ok {n : Int} (h1 : -100 ≤ n) (h2 : n ≤ 100) : n.natAbs.log2 < 1920 := by
  by_cases z : n.natAbs = 0
  · rw [z]; decide
  · have h : n.natAbs.log2 < 7 := by
      rw [Nat.log2_lt z]
      omega
    exact Nat.lt_trans h (by decide)
/-- a drawn row before it is spoilt -/
def RwK (K : PySem.W.Frag) (G : Hp) (w : Str) (rest : List V) : Prop := (w = "asked" ∧ ∃ u x, rest = [u] ∧ LwAt K G u x) ∨ (w = "told" ∧ ∃ v1 v2 o r, rest = [v1, v2] ∧ Dp K G v1 o ∧ Dp K G v2 r)
theorem RwK.ex {K : PySem.W.Frag} {G G' : Hp} {w : Str} {rest : List V} (h : RwK K G w rest) (e : Ex G G') : RwK K G' w rest := by
  rcases h with ⟨h1, u, x, h2, h3⟩ | ⟨h1, v1, v2, o, r, h2, h3, h4⟩
  · exact .inl ⟨h1, u, x, h2, h3.ex e⟩
  · exact .inr ⟨h1, v1, v2, o, r, h2, dp_mono e h3, dp_mono e h4⟩
theorem RwL.kind {K : PySem.W.Frag} {G : Hp} {v : V} {e : RowX} (h : RwL K G v e) (n : nmOk e) : ∃ t w m rest, v = .ref t ∧ G t = some (.tup (.str w :: .int m :: rest)) ∧ RwK K G w rest ∧ -100 ≤ m ∧ m ≤ 100 := by
  cases e with
  | ask m x => obtain ⟨t, u, h1, h2, h3⟩ := h; exact ⟨t, _, m, _, h1, h2, .inl ⟨rfl, u, x, rfl, h3⟩, n⟩
  | tell m o r => obtain ⟨t, v1, v2, h1, h2, h3, h4⟩ := h; exact ⟨t, _, m, _, h1, h2, .inr ⟨rfl, v1, v2, o, r, rfl, h3, h4⟩, n⟩
  | junk => exact n.elim
theorem RwK.row {K : PySem.W.Frag} {G : Hp} {w : Str} {rest : List V} {t : Addr} {m : Int} (h : RwK K G w rest) (ht : G t = some (.tup (.str w :: .int m :: rest))) : ∃ e, RwL K G (.ref t) e := by
  rcases h with ⟨rfl, u, x, rfl, h3⟩ | ⟨rfl, v1, v2, o, r, rfl, h3, h4⟩
  · exact ⟨.ask m x, t, u, rfl, ht, h3⟩
  · exact ⟨.tell m o r, t, v1, v2, rfl, ht, h3, h4⟩
theorem RwK.len {K : PySem.W.Frag} {G : Hp} {w : Str} {rest : List V} (h : RwK K G w rest) : 1 ≤ rest.length ∧ rest.length ≤ 2 := by
  rcases h with ⟨rfl, u, x, rfl, h3⟩ | ⟨rfl, v1, v2, o, r, rfl, h3, h4⟩
  · exact ⟨by show 1 ≤ 1; decide, by show 1 ≤ 2; decide⟩
  · exact ⟨by show 1 ≤ 2; decide, by show 2 ≤ 2; decide⟩
/-- another word -/
theorem RwK.word {K : PySem.W.Frag} {G : Hp} {w w' : Str} {rest : List V} {t : Addr} {m : Int} (h : RwK K G w rest) (ht : G t = some (.tup (.str w' :: .int m :: rest))) : ∃ e, RwL K G (.ref t) e := by
  have junk : ¬ (w' = "asked" ∧ rest.length = 1) → ¬ (w' = "told" ∧ rest.length = 2) → ∃ e, RwL K G (.ref t) e := fun h1 h2 => ⟨.junk, .inr ⟨t, _, rfl, st_of ht, .inr ⟨w', _, rest, rfl, h.len.1, .inr (.inr ⟨m, rfl, h1, h2⟩)⟩⟩⟩
  by_cases q : w' = w
  · subst q; exact h.row ht
  rcases h with ⟨rfl, u, x, rfl, h3⟩ | ⟨rfl, v1, v2, o, r, rfl, h3, h4⟩
  · exact junk (fun z => q z.1) (fun z => nomatch z.2)
  · exact junk (fun z => nomatch z.2) (fun z => q z.1)
theorem paired_setX {α β : Type} {F : α → β → Prop} {x : α} {y : β} : ∀ {xs : List α} {ys : List β} {q : Nat}, Paired F xs ys → F x y → Paired F (xs.set q x) (ys.set q y)
  | _, _, _, .nil, _ => .nil
  | _, _, 0, .cons _ t, h => .cons h t
  | _, _, q + 1, .cons h0 t, h => .cons h0 (paired_setX t h)
/-! ### _law_good_deal -/
abbrev s_law_good_deal : Stmt := top 33
abbrev n_law_good_deal : List Str := ["draws", "k", "deals"]
theorem sc_law_good_deal : FnScope n_law_good_deal ["draws", "k"] (defScope s_law_good_deal) := ⟨rfl, rfl, rfl, by decide +kernel, rfl, by decide +kernel, by decide +kernel⟩
def GdEnd (G : Hp) (v : V) : Prop := ∃ a as ops, v = .ref a ∧ IsDeal G a as ops ∧ ∀ op ∈ ops, LwO op
def sp_law_good_deal (K : PySem.W.Frag) : Sp := Sg (α := Addr × Int) (fun a vs M G => vs = [.ref a.1, .int a.2] ∧ Dr K M G a.1 ∧ 0 ≤ a.2 ∧ a.2 ≤ 100) (fun a M _ v M' G' => GdEnd G' v ∧ Dr K M' G' a.1 ∧ Ag a.1 M M')
theorem okval1 : OkV (some 1) := ⟨by decide, by decide⟩
theorem ok_law_good_deal {P : Program} {w : World} {K : PySem.W.Frag} {mg : Str → Option Value} {base : Heap}
    {f : Addr} {fd : FuncData} (D : Dn K mg "_law_good_deal" s_law_good_deal ["draws", "k"] f fd)
    (c_law_draw : Cal P w K mg base CX0 2 "_law_draw" (sp_law_draw K)) : Cal P w K mg base CX0 3 "_law_good_deal" (sp_law_good_deal K) := by
  refine D.ok sc_law_good_deal (fun vs H Q E h => ?_) fun cdv A outer s H vs Q E hr h => ?_
  · obtain ⟨p, M, G, j, ⟨rfl, _⟩, _⟩ := h; rfl
  obtain ⟨⟨p, k0⟩, M, G, j, ⟨rfl, d, k1, k2⟩, k⟩ := h
  dsimp only at d k1 k2 k
  refine ⟨_, (pss_cons (ps_set (i := 2) sc_law_good_deal.nd rfl (Or.inl rfl) (pe_lst (pa_cons (pe_lst (pa_cons (pe_tup (pa_cons pe_str (pa_cons (pv 1) (pa_cons pe_int pa_nil)))) pa_nil)) (pa_cons (pe_lst (pa_cons (pe_tup (pa_cons pe_str (pa_cons pe_int pa_nil))) pa_nil)) (pa_cons (pe_lst (pa_cons (pe_tup (pa_cons pe_str (pa_cons pe_int (pa_cons pe_int pa_nil)))) (pa_cons (pe_tup (pa_cons pe_str (pa_cons pe_int (pa_cons pe_non pa_nil)))) pa_nil))) (pa_cons (pe_lst (pa_cons (pe_tup (pa_cons pe_str (pa_cons pe_int (pa_cons (pe_un un_neg (pe_op op_pow pe_int pe_int)) pa_nil)))) pa_nil)) pa_nil))))))
(pss_one (ps_ret (pe_ix (ix_uK (K := K) rfl) (pe_lst (pa_cons (pe_ix (ix_uK (K := K) rfl) (pv 2) pe_int (fun _ _ => rfl)) (pa_cons (pe_ix (ix_uK (K := K) rfl) (pv 2) pe_int (fun _ _ => rfl)) (pa_cons (pe_ix (ix_uK (K := K) rfl) (pv 2) pe_int (fun _ _ => rfl)) (pa_cons (pe_ix (ix_uK (K := K) rfl) (pv 2) pe_int (fun _ _ => rfl)) (pa_cons (pe_op op_uMul (pe_ix (ix_uK (K := K) rfl) (pv 2) pe_int (fun _ _ => rfl)) pe_int) pa_nil)))))) (pe_op op_mod (pe_cal c_law_draw hr (by first | decide | omega) (by rfl) (pa_cons (pv 0) pa_nil)) pe_int) (fun _ _ => rfl))))), ?_⟩
  walk_at "start"
  refine w_new j (by show 3 ≤ sizeLine; decide) fun t1 G1 H1 j1 e1 ht1 _ => ?_
  walk_at "go"
  refine w_new j1 (by show 1 ≤ sizeLine; decide) fun l1 G2 H2 j2 e2 hl1 _ => ?_
  walk_at "go"
  refine w_new j2 (by show 2 ≤ sizeLine; decide) fun t2 G3 H3 j3 e3 ht2 _ => ?_
  walk_at "go"
  refine w_new j3 (by show 1 ≤ sizeLine; decide) fun l2 G4 H4 j4 e4 hl2 _ => ?_
  walk_at "go"
  refine w_new j4 (by show 3 ≤ sizeLine; decide) fun t3 G5 H5 j5 e5 ht3 _ => ?_
  walk_at "go"
  refine w_new j5 (by show 3 ≤ sizeLine; decide) fun t4 G6 H6 j6 e6 ht4 _ => ?_
  walk_at "go"
  refine w_new j6 (by show 2 ≤ sizeLine; decide) fun l3 G7 H7 j7 e7 hl3 _ => ?_
  walk_at "go"
  refine w_new j7 (by show 3 ≤ sizeLine; decide) fun t5 G8 H8 j8 e8 ht5 _ => ?_
  walk_at "go"
  refine w_new j8 (by show 1 ≤ sizeLine; decide) fun l4 G9 H9 j9 e9 hl4 _ => ?_
  walk_at "go"
  refine w_new j9 (by show 4 ≤ sizeLine; decide) fun L G10 H10 j10 e10 hL _ => ?_
  walk_at "go"
  refine w_ixL j10 (sl_of hL) (by rfl) ?_
  walk_at "go"
  refine w_ixL j10 (sl_of hL) (by rfl) ?_
  walk_at "go"
  refine w_ixL j10 (sl_of hL) (by rfl) ?_
  walk_at "go"
  refine w_ixL j10 (sl_of hL) (by rfl) ?_
  walk_at "go"
  refine w_ixL j10 (sl_of hL) (by rfl) ?_
  walk_at "go"
  have hl1x : G10 l1 = some (.lst [.ref t1]) := (((((((e3.trans e4).trans e5).trans e6).trans e7).trans e8).trans e9).trans e10) _ _ hl1
  refine w_repM j10 hl1x (by decide) (by decide) (by show 1 * 6 ≤ 1000000; decide) fun r G11 H11 j11 e11 hr6 => ?_
  walk_at "go"
  refine w_new j11 (by show 5 ≤ sizeLine; decide) fun L2 G12 H12 j12 e12 hL2 _ => ?_
  walk_at "go"
  have E12 : Ex G G12 := (((((((((((e1.trans e2).trans e3).trans e4).trans e5).trans e6).trans e7).trans e8).trans e9).trans e10).trans e11).trans e12)
  refine use_draw j12 (d.ex E12) fun z M13 G13 H13 _ _ j13 e13 d13 a13 => ?_
  walk_at "go"
  have r0 := Int.emod_nonneg z (show (5 : Int) ≠ 0 by decide)
  have r1 := Int.emod_lt_of_pos z (show (0 : Int) < 5 by decide)
  have E13 := E12.trans e13
  have qt1 := (((((((((((e2.trans e3).trans e4).trans e5).trans e6).trans e7).trans e8).trans e9).trans e10).trans e11).trans e12).trans e13) _ _ ht1
  have ql1 := ((((((((((e3.trans e4).trans e5).trans e6).trans e7).trans e8).trans e9).trans e10).trans e11).trans e12).trans e13) _ _ hl1
  have qt2 := (((((((((e4.trans e5).trans e6).trans e7).trans e8).trans e9).trans e10).trans e11).trans e12).trans e13) _ _ ht2
  have ql2 := ((((((((e5.trans e6).trans e7).trans e8).trans e9).trans e10).trans e11).trans e12).trans e13) _ _ hl2
  have qt3 := (((((((e6.trans e7).trans e8).trans e9).trans e10).trans e11).trans e12).trans e13) _ _ ht3
  have qt4 := ((((((e7.trans e8).trans e9).trans e10).trans e11).trans e12).trans e13) _ _ ht4
  have ql3 := (((((e8.trans e9).trans e10).trans e11).trans e12).trans e13) _ _ hl3
  have qt5 := ((((e9.trans e10).trans e11).trans e12).trans e13) _ _ ht5
  have ql4 := (((e10.trans e11).trans e12).trans e13) _ _ hl4
  have qr := (e12.trans e13) _ _ hr6
  have o1 : OpAt G13 t1 (.put k0 (some 1)) := ⟨qt1, ⟨k1, by omega⟩, okval1⟩
  have o2 : OpAt G13 t2 (.get 0) := ⟨qt2, by decide, by decide⟩
  have o3 : OpAt G13 t3 (.scan 5 5) := ⟨qt3, by decide, by decide, by decide⟩
  have o4 : OpAt G13 t4 (.need 3 none) := ⟨qt4, ⟨by decide, by decide⟩, trivial⟩
  have o5 : OpAt G13 t5 (.add 999 (-1000000000000000000)) := ⟨qt5, ⟨by decide, by decide⟩, by decide, by decide⟩
  have fin : ∀ {a : Addr} {as : List Addr} {ops : List Op}, IsDeal G13 a as ops → (∀ op ∈ ops, LwO op) → Q (.ref a) H13 := fun h g => k _ _ _ _ j13 E13 ⟨⟨_, _, _, rfl, h, g⟩, d13, a13⟩
  have w1 : LwO (.put k0 (some 1)) := ⟨lwV_put ⟨k1, by omega⟩ rfl, shp_put⟩
  generalize z % 5 = y at *
  have : y = 0 ∨ y = 1 ∨ y = 2 ∨ y = 3 ∨ y = 4 := by omega
  rcases this with rfl | rfl | rfl | rfl | rfl
  · refine w_ixL j13 (sl_of (e13 _ _ hL2)) (by rfl) ?_
    exact fin (as := [t1]) (ops := [.put k0 (some 1)]) ⟨ql1, OpsAt.nil.snoc o1, by show 1 ≤ 1; decide, by show 1 ≤ 6; decide⟩ fun op m => by rw [List.mem_singleton.mp m]; exact w1
  · refine w_ixL j13 (sl_of (e13 _ _ hL2)) (by rfl) ?_
    exact fin (as := [t2]) (ops := [.get 0]) ⟨ql2, OpsAt.nil.snoc o2, by decide, by decide⟩ fun op m => by rw [List.mem_singleton.mp m]; exact ⟨by decide +kernel, by decide +kernel⟩
  · refine w_ixL j13 (sl_of (e13 _ _ hL2)) (by rfl) ?_
    exact fin (as := [t3, t4]) (ops := [.scan 5 5, .need 3 none]) ⟨ql3, (OpsAt.nil.snoc o3).snoc o4, by decide, by decide⟩ fun op m => by rcases List.mem_cons.mp m with rfl | m; (exact ⟨by decide +kernel, by decide +kernel⟩); (rw [List.mem_singleton.mp m]; exact ⟨by decide +kernel, by decide +kernel⟩)
  · refine w_ixL j13 (sl_of (e13 _ _ hL2)) (by rfl) ?_
    exact fin (as := [t5]) (ops := [.add 999 (-1000000000000000000)]) ⟨ql4, OpsAt.nil.snoc o5, by decide, by decide⟩ fun op m => by rw [List.mem_singleton.mp m]; exact ⟨by decide +kernel, by decide +kernel⟩
  · refine w_ixL j13 (sl_of (e13 _ _ hL2)) (by rfl) ?_
    exact fin (as := [t1, t1, t1, t1, t1, t1]) (ops := [.put k0 (some 1), .put k0 (some 1), .put k0 (some 1), .put k0 (some 1), .put k0 (some 1), .put k0 (some 1)]) ⟨qr, (((((OpsAt.nil.snoc o1).snoc o1).snoc o1).snoc o1).snoc o1).snoc o1, by show 1 ≤ 6; decide, by show 6 ≤ 6; decide⟩ fun op m => by rw [List.eq_of_mem_replicate (n := 6) m]; exact w1
/-! ### a drawn record grows -/
structure Rw where
  n : Int
  ops : List Op
  o : PyData
  r : PyData
def RwAt (K : PySem.W.Frag) (G : Hp) (v : V) (w : Rw) : Prop := ∃ l va vt, v = .ref l ∧ G l = some (.lst [va, vt]) ∧ EvAt K G va (.ask w.n w.ops) ∧ EvAt K G vt (.tell w.n w.o w.r)
theorem RwAt.ex {K : PySem.W.Frag} {G G' : Hp} {v : V} {w : Rw} (h : RwAt K G v w) (e : Ex G G') : RwAt K G' v w := by
  obtain ⟨l, va, vt, h1, h2, h3, h4⟩ := h
  exact ⟨l, va, vt, h1, e _ _ h2, h3.ex e, h4.ex e⟩
def BwAt (K : PySem.W.Frag) (G : Hp) (v : V) (w : Rw) : Prop := EvAt K G v (.tell w.n w.o w.r)
theorem BwAt.ex {K : PySem.W.Frag} {G G' : Hp} {v : V} {w : Rw} (h : BwAt K G v w) (e : Ex G G') : BwAt K G' v w := EvAt.ex h e
def RwG (w : Rw) : Prop := EvG (.ask w.n w.ops) ∧ EvG (.tell w.n w.o w.r)
structure HiOk (c : Nat) (ws bw : List Rw) (es : List Ev) : Prop where
  ok : okEvs [] es
  wn : (ws.map (·.n)).Nodup
  wd : ∀ w ∈ ws, w.n ∉ (readJ [] es).map (·.name)
  bn : (bw.map (·.n)).Nodup
  bd : ∀ w ∈ bw, ∃ d ∈ readJ [] es, d.name = w.n ∧ d.ans = none
  le : (readJ [] es).length + ws.length ≤ c
  c7 : c ≤ 7
  eg : ∀ e ∈ es, EvG e
  wg : ∀ w ∈ ws, RwG w
  bg : ∀ w ∈ bw, EvG (.tell w.n w.o w.r)
theorem okEvs_appH : ∀ {es fs : List Ev} {ds : List JD}, okEvs ds (es ++ fs) ↔ okEvs ds es ∧ okEvs (readJ ds es) fs
  | [], fs, ds => ⟨fun h => ⟨trivial, h⟩, fun h => h.2⟩
  | e :: es, fs, ds => by
    show okEv ds e ∧ okEvs (stepJ ds e) (es ++ fs) ↔ (okEv ds e ∧ okEvs (stepJ ds e) es) ∧ okEvs (readJ (stepJ ds e) es) fs
    rw [okEvs_appH (es := es), and_assoc]
theorem readJ_snocH {es : List Ev} {e : Ev} {ds : List JD} : readJ ds (es ++ [e]) = stepJ (readJ ds es) e := by
  unfold readJ; rw [List.foldl_append]; rfl
theorem nodup_eraseAt {α : Type} : ∀ {l : List α} {q : Nat} {x : α}, l.Nodup → l[q]? = some x → x ∉ l.eraseIdx q
  | [], _, _, _, h => by simp at h
  | a :: l, 0, x, n, h => by
    have h := Option.some.inj h
    subst h
    exact (List.nodup_cons.mp n).1
  | a :: l, q + 1, x, n, h => by
    have h : l[q]? = some x := by simpa using h
    obtain ⟨n1, n2⟩ := List.nodup_cons.mp n
    show x ∉ a :: l.eraseIdx q
    intro m
    rcases List.mem_cons.mp m with rfl | m
    · exact n1 (List.mem_of_getElem? h)
    · exact nodup_eraseAt n2 h m
theorem map_eraseAt {α β : Type} {f : α → β} : ∀ {l : List α} {q : Nat}, (l.eraseIdx q).map f = (l.map f).eraseIdx q
  | [], _ => rfl
  | a :: l, 0 => rfl
  | a :: l, q + 1 => by show f a :: (l.eraseIdx q).map f = f a :: (l.map f).eraseIdx q; rw [map_eraseAt]
theorem paired_erase {α β : Type} {F : α → β → Prop} : ∀ {xs : List α} {ys : List β} {q : Nat}, Paired F xs ys → Paired F (xs.eraseIdx q) (ys.eraseIdx q)
  | _, _, _, .nil => .nil
  | _, _, 0, .cons _ t => t
  | _, _, q + 1, .cons h t => .cons h (paired_erase t)
theorem nodup_snocH {l : List Int} {n : Int} (h : l.Nodup) (g : n ∉ l) : (l ++ [n]).Nodup := by
  rw [List.nodup_append]
  exact ⟨h, List.nodup_cons.mpr ⟨(fun z => nomatch z), List.nodup_nil⟩, fun a ha b hb e => g (by rw [← List.mem_singleton.mp hb, ← e]; exact ha)⟩
section
variable {c : Nat} {ws bw : List Rw} {es : List Ev} {w : Rw} {q : Nat}
theorem nm_at {ws : List Rw} (hq : ws[q]? = some w) : (ws.map (·.n))[q]? = some w.n := by rw [List.getElem?_map, hq]; rfl
theorem HiOk.ask (h : HiOk c ws bw es) (hq : ws[q]? = some w) : HiOk c (ws.eraseIdx q) (bw ++ [w]) (es ++ [.ask w.n w.ops]) := by
  have hm := List.mem_of_getElem? hq
  have hl := (List.getElem?_eq_some_iff.mp hq).1
  have hw := h.wd w hm
  have le := h.le
  have c7 := h.c7
  have er : readJ [] (es ++ [.ask w.n w.ops]) = readJ [] es ++ [⟨w.n, w.ops, toldL (readJ [] es), none⟩] := readJ_snocH
  have l1 : (ws.eraseIdx q).length = ws.length - 1 := by rw [List.length_eraseIdx, if_pos hl]
  refine ⟨okEvs_appH.mpr ⟨h.ok, ⟨hw, by omega⟩, trivial⟩, ?_, fun x hx => ?_, ?_, fun x hx => ?_, ?_, h.c7, fun e he => ?_, fun x hx => h.wg x (List.mem_of_mem_eraseIdx hx), fun x hx => ?_⟩
  · rw [map_eraseAt]; exact h.wn.sublist (List.eraseIdx_sublist ..)
  · rw [er, List.map_append]
    intro m
    rcases List.mem_append.mp m with m | m
    · exact h.wd x (List.mem_of_mem_eraseIdx hx) m
    · have m : x.n = w.n := List.mem_singleton.mp m
      have := nodup_eraseAt h.wn (nm_at hq)
      rw [← map_eraseAt, ← m] at this
      exact this (List.mem_map_of_mem (f := (·.n)) hx)
  · rw [List.map_append]
    refine nodup_snocH h.bn fun m => ?_
    obtain ⟨y, hy, e⟩ := List.mem_map.mp m
    obtain ⟨d, hd, dn, _⟩ := h.bd y hy
    have e : y.n = w.n := e
    exact hw (by rw [← e, ← dn]; exact List.mem_map_of_mem (f := (·.name)) hd)
  · rw [er]
    rcases List.mem_append.mp hx with hx | hx
    · obtain ⟨d, hd, dn⟩ := h.bd x hx
      exact ⟨d, List.mem_append_left _ hd, dn⟩
    · rw [List.mem_singleton.mp hx]
      exact ⟨_, List.mem_append_right _ List.mem_cons_self, rfl, rfl⟩
  · rw [er, List.length_append, l1]
    show (readJ [] es).length + 1 + (ws.length - 1) ≤ c
    omega
  · rcases List.mem_append.mp he with he | he
    · exact h.eg e he
    · rw [List.mem_singleton.mp he]; exact (h.wg w hm).1
  · rcases List.mem_append.mp hx with hx | hx
    · exact h.bg x hx
    · rw [List.mem_singleton.mp hx]; exact (h.wg w hm).2
theorem HiOk.drop (h : HiOk c ws bw es) : HiOk c ws (bw.eraseIdx q) es :=
  ⟨h.ok, h.wn, h.wd, by rw [map_eraseAt]; exact h.bn.sublist (List.eraseIdx_sublist ..), fun x hx => h.bd x (List.mem_of_mem_eraseIdx hx), h.le, h.c7, h.eg, h.wg, fun x hx => h.bg x (List.mem_of_mem_eraseIdx hx)⟩
theorem HiOk.tell (h : HiOk c ws bw es) (hq : bw[q]? = some w) : HiOk c ws (bw.eraseIdx q) (es ++ [.tell w.n w.o w.r]) := by
  have hm := List.mem_of_getElem? hq
  have er : readJ [] (es ++ [.tell w.n w.o w.r]) = (readJ [] es).map (setAns w.n w.o w.r) := readJ_snocH
  have en : ((readJ [] es).map (setAns w.n w.o w.r)).map (·.name) = (readJ [] es).map (·.name) := by
    rw [List.map_map]
    refine List.map_congr_left fun d _ => ?_
    show (setAns w.n w.o w.r d).name = d.name
    unfold setAns; split <;> rfl
  refine ⟨okEvs_appH.mpr ⟨h.ok, h.bd w hm, trivial⟩, h.wn, fun x hx => by rw [er, en]; exact h.wd x hx, by rw [map_eraseAt]; exact h.bn.sublist (List.eraseIdx_sublist ..), fun x hx => ?_, by rw [er, List.length_map]; exact h.le, h.c7, fun e he => ?_, h.wg, fun x hx => h.bg x (List.mem_of_mem_eraseIdx hx)⟩
  · obtain ⟨d, hd, dn, da⟩ := h.bd x (List.mem_of_mem_eraseIdx hx)
    rw [er]
    have ne : d.name ≠ w.n := fun z => by
      have := nodup_eraseAt h.bn (nm_at hq)
      rw [← map_eraseAt, ← z, dn] at this
      exact this (List.mem_map_of_mem (f := (·.n)) hx)
    refine ⟨d, List.mem_map.mpr ⟨d, hd, ?_⟩, dn, da⟩
    unfold setAns
    rw [if_neg ne]
  · rcases List.mem_append.mp he with he | he
    · exact h.eg e he
    · rw [List.mem_singleton.mp he]; exact h.bg w hm
end
/-- three lists of one's own -/
def Ag4 (p L1 L2 L3 : Addr) (M M' : Hp) : Prop := ∀ b, b ≠ p → b ≠ L1 → b ≠ L2 → b ≠ L3 → M' b = M b
theorem Ag4.u1 {p L1 L2 L3 : Addr} {M M' : Hp} {o : HO} (h : Ag4 p L1 L2 L3 M M') : Ag4 p L1 L2 L3 M (upd M' L1 o) := fun b a1 a2 a3 a4 => (upd_ne a2).trans (h b a1 a2 a3 a4)
theorem Ag4.u2 {p L1 L2 L3 : Addr} {M M' : Hp} {o : HO} (h : Ag4 p L1 L2 L3 M M') : Ag4 p L1 L2 L3 M (upd M' L2 o) := fun b a1 a2 a3 a4 => (upd_ne a3).trans (h b a1 a2 a3 a4)
theorem Ag4.u3 {p L1 L2 L3 : Addr} {M M' : Hp} {o : HO} (h : Ag4 p L1 L2 L3 M M') : Ag4 p L1 L2 L3 M (upd M' L3 o) := fun b a1 a2 a3 a4 => (upd_ne a4).trans (h b a1 a2 a3 a4)
theorem Ag4.ag {p L1 L2 L3 : Addr} {M M1 M2 : Hp} (h : Ag4 p L1 L2 L3 M M1) (a : Ag p M1 M2) : Ag4 p L1 L2 L3 M M2 := fun b a1 a2 a3 a4 => (a b a1).trans (h b a1 a2 a3 a4)
theorem Ag4.end {p L1 L2 L3 : Addr} {M M' : Hp} (h : Ag4 p L1 L2 L3 M M') (n1 : M L1 = none) (n2 : M L2 = none) (n3 : M L3 = none) : Ag p M (del (del (del M' L2) L1) L3) := fun b a1 => by
  by_cases q3 : b = L3
  · subst q3; rw [n3]; unfold del; rw [if_pos rfl]
  · rw [show del (del (del M' L2) L1) L3 b = del (del M' L2) L1 b from if_neg q3]
    by_cases q1 : b = L1
    · subst q1; rw [n1]; unfold del; rw [if_pos rfl]
    · rw [show del (del M' L2) L1 b = del M' L2 b from if_neg q1]
      by_cases q2 : b = L2
      · subst q2; rw [n2]; unfold del; rw [if_pos rfl]
      · rw [show del M' L2 b = M' b from if_neg q2]; exact h b a1 q1 q2 q3
/-! ### _law_rows -/
abbrev s_law_rows : Stmt := top 35
abbrev n_law_rows : List Str := ["draws", "rows", "open_names", "many", "k", "name", "told", "outcome"]
theorem sc_law_rows : FnScope n_law_rows ["draws"] (defScope s_law_rows) := ⟨rfl, rfl, rfl, by decide +kernel, rfl, by decide +kernel, by decide +kernel⟩
def RwN (K : PySem.W.Frag) (G : Hp) (v : V) (e : RowX) : Prop := RwL K G v e ∧ nmOk e
theorem RwN.ex {K : PySem.W.Frag} {G G' : Hp} {v : V} {e : RowX} (h : RwN K G v e) (x : Ex G G') : RwN K G' v e := ⟨h.1.ex x, h.2⟩
def RosEnd (K : PySem.W.Frag) (a : Addr) (M M' G' : Hp) (v : V) : Prop := ∃ L vs es, v = .ref L ∧ M' L = some (.lst vs) ∧ M L = none ∧ Paired (RwN K G') vs es ∧ es.length ≤ 16 ∧ Ag2 a L M M'
def sp_law_rows (K : PySem.W.Frag) : Sp := Sg (α := Addr) (fun a vs M G => vs = [.ref a] ∧ Dr K M G a) (fun a M _ v M' G' => RosEnd K a M M' G' v ∧ Dr K M' G' a)
theorem nine_at {z : Int} : ∃ m : Int, atI [V.int 0, .int 1, .int 2, .int 3, .int 4, .int 3, .int 2, .int 7, .int 8] (z % 9) = some (.int m) ∧ 0 ≤ m ∧ m ≤ 8 := by
  have r0 := Int.emod_nonneg z (show (9 : Int) ≠ 0 by decide)
  have r1 := Int.emod_lt_of_pos z (show (0 : Int) < 9 by decide)
  generalize z % 9 = y at *
  have : y = 0 ∨ y = 1 ∨ y = 2 ∨ y = 3 ∨ y = 4 ∨ y = 5 ∨ y = 6 ∨ y = 7 ∨ y = 8 := by omega
  rcases this with rfl | rfl | rfl | rfl | rfl | rfl | rfl | rfl | rfl <;> exact ⟨_, rfl, by decide, by decide⟩
theorem ns_snoc {ns : List Int} {n : Int} (h : ∀ x ∈ ns, -100 ≤ x ∧ x ≤ 100) (g : -100 ≤ n ∧ n ≤ 100) : ∀ x ∈ ns ++ [n], -100 ≤ x ∧ x ≤ 100 := fun x m => (List.mem_append.mp m).elim (h x) fun m => by rw [List.mem_singleton.mp m]; exact g
theorem ok_law_rows {P : Program} {w : World} {K : PySem.W.Frag} {mg : Str → Option Value} {base : Heap}
    {f : Addr} {fd : FuncData} (D : Dn K mg "_law_rows" s_law_rows ["draws"] f fd)
    (b_range : mg "range" = none)
    (b_len : mg "len" = none)
    (c_law_draw : Cal P w K mg base CX0 2 "_law_draw" (sp_law_draw K))
    (c_law_good_deal : Cal P w K mg base CX0 3 "_law_good_deal" (sp_law_good_deal K)) : Cal P w K mg base CX0 4 "_law_rows" (sp_law_rows K) := by
  refine D.ok sc_law_rows (fun vs H Q E h => ?_) fun cdv A outer s H vs Q E hr h => ?_
  · obtain ⟨p, M, G, j, ⟨rfl, _⟩, _⟩ := h; rfl
  obtain ⟨p, M, G, j, ⟨rfl, d⟩, k⟩ := h
  refine ⟨_, (pss_cons (ps_set (i := 1) sc_law_rows.nd rfl (Or.inl rfl) (pe_lst pa_nil))
(pss_cons (ps_set (i := 2) sc_law_rows.nd rfl (Or.inl rfl) (pe_lst pa_nil))
(pss_cons (ps_set (i := 3) sc_law_rows.nd rfl (Or.inl rfl) (pe_ix (ix_uK (K := K) rfl) (pe_lst (pa_cons pe_int (pa_cons pe_int (pa_cons pe_int (pa_cons pe_int (pa_cons pe_int (pa_cons pe_int (pa_cons pe_int (pa_cons pe_int (pa_cons pe_int pa_nil)))))))))) (pe_op op_mod (pe_cal c_law_draw hr (by first | decide | omega) (by rfl) (pa_cons (pv 0) pa_nil)) pe_int) (fun _ _ => rfl)))
(pss_cons (ps_for PassesOwn.never rfl (pi_range1 (by rfl) b_range (pa_cons (pv 3) pa_nil)) (pg_name (i := 4) sc_law_rows.nd rfl (Or.inl rfl))
(pss_cons (ps_set (i := 5) sc_law_rows.nd rfl (Or.inl rfl) (pe_op op_sub (pe_op op_uMul pe_int (pv 4)) pe_int))
(pss_cons (ps_expr (pe_bm PySem.F.plainAttrs_list PySem.F.slot_list_append PySem.F.type_list_append mt_append (pv 1) (pa_cons (pe_tup (pa_cons pe_str (pa_cons (pv 5) (pa_cons (pe_cal c_law_good_deal hr (by first | decide | omega) (by rfl) (pa_cons (pv 0) (pa_cons (pv 4) pa_nil))) pa_nil)))) pa_nil)))
(pss_cons (ps_expr (pe_bm PySem.F.plainAttrs_list PySem.F.slot_list_append PySem.F.type_list_append mt_append (pv 2) (pa_cons (pv 5) pa_nil)))
(pss_one (ps_if (PW.pt (pw_and (pt_cmpR op_lt (pv 3) pe_int (nomark _)) (pw_and1 (pt_cmpR (op_uEqK (K := K) rfl hr) (pe_op op_mod (pe_cal c_law_draw hr (by first | decide | omega) (by rfl) (pa_cons (pv 0) pa_nil)) pe_int) pe_int (nomark _)))))
(pss_cons (ps_set (i := 6) sc_law_rows.nd rfl (Or.inl rfl) (pe_bm PySem.F.plainAttrs_list PySem.F.slot_list_pop PySem.F.type_list_pop mt_popAt (pv 2) (pa_cons (pe_op op_mod (pe_cal c_law_draw hr (by first | decide | omega) (by rfl) (pa_cons (pv 0) pa_nil)) (pe_callB (call_uLenK (K := K) rfl) (by rfl) b_len PySem.boot_len (pa_cons (pv 2) pa_nil))) pa_nil)))
(pss_cons (ps_set (i := 7) sc_law_rows.nd rfl (Or.inl rfl) (pe_ix (ix_uK (K := K) rfl) (pe_lst (pa_cons pe_str (pa_cons pe_str (pa_cons pe_str (pa_cons pe_non (pa_cons pe_int (pa_cons pe_str (pa_cons (pe_tup (pa_cons pe_str pa_nil)) pa_nil)))))))) (pe_op op_mod (pe_cal c_law_draw hr (by first | decide | omega) (by rfl) (pa_cons (pv 0) pa_nil)) pe_int) (fun _ _ => rfl)))
(pss_one (ps_expr (pe_bm PySem.F.plainAttrs_list PySem.F.slot_list_append PySem.F.type_list_append mt_append (pv 1) (pa_cons (pe_tup (pa_cons pe_str (pa_cons (pv 6) (pa_cons (pv 7) (pa_cons (pe_ix (ix_uK (K := K) rfl) (pe_lst (pa_cons (pe_lst (pa_cons pe_non pa_nil)) (pa_cons (pe_lst pa_nil) (pa_cons pe_non (pa_cons pe_int (pa_cons pe_str (pa_cons (pe_tup (pa_cons pe_int pa_nil)) pa_nil))))))) (pe_op op_mod (pe_cal c_law_draw hr (by first | decide | omega) (by rfl) (pa_cons (pv 0) pa_nil)) pe_int) (fun _ _ => rfl)) pa_nil))))) pa_nil))))))
pss_nil))))))
(pss_one (ps_ret (pv 1))))))), ?_⟩
  walk_at "start"
  refine w_newM j (Nat.zero_le _) fun Lr H1 j1 nr gr => ?_
  walk_at "go"
  refine w_newM j1 (Nat.zero_le _) fun Lo H2 j2 no go => ?_
  walk_at "go"
  have nLr : Lr ≠ p := d.ne nr
  have nRO : Lr ≠ Lo := fun z => by rw [← z, upd_same] at no; cases no
  have no1 : M Lo = none := by rw [upd_ne nRO.symm] at no; exact no
  have nLo : Lo ≠ p := d.ne no1
  refine w_new j2 (by show 9 ≤ sizeLine; decide) fun q G3 H3 j3 e3 hq _ => ?_
  walk_at "go"
  have d3 := ((d.upd (o := .lst []) nLr).upd (o := .lst []) nLo).ex e3
  have a3 : Ag4 p Lr Lo Lo M (upd (upd M Lr (.lst [])) Lo (.lst [])) := fun b h1 h2 h3 h4 => by rw [upd_ne h3, upd_ne h2]
  have hr3 : upd (upd M Lr (.lst [])) Lo (.lst []) Lr = some (.lst []) := upd_ne' upd_same nRO
  have ho3 : upd (upd M Lr (.lst [])) Lo (.lst []) Lo = some (.lst []) := upd_same
  generalize upd (upd M Lr (.lst [])) Lo (.lst []) = M3 at *
  refine use_draw j3 d3 fun z M4 G4 H4 _ _ j4 e4 d4 a4 => ?_
  walk_at "go"
  obtain ⟨m, hm, m0, m8⟩ := nine_at (z := z)
  refine w_ixL j4 (sl_of (e4 _ _ hq)) hm ?_
  walk_at "go"
  have hr4 := a4.at hr3 nLr
  have ho4 := a4.at ho3 nLo
  refine w_rng (fun i σ H => ∃ vs es ns M5 G5 x4 x5 x6 x7, J M5 G5 H ∧ Ex G4 G5 ∧ Dr K M5 G5 p ∧ Ag4 p Lr Lo Lo M M5 ∧ M5 Lr = some (.lst vs) ∧ M5 Lo = some (.lst (ns.map V.int)) ∧ Paired (RwN K G5) vs es ∧ es.length ≤ 2 * i ∧ ns.length ≤ i ∧ (∀ x ∈ ns, -100 ≤ x ∧ x ≤ 100) ∧
    σ = [some (.ref p), some (.ref Lr), some (.ref Lo), some (.int m), x4, x5, x6, x7]) ⟨[], [], [], M4, G4, _, _, _, _, j4, Same.refl _, d4, a3.ag a4, hr4, ho4, .nil, Nat.zero_le _, Nat.zero_le _, (fun _ m => nomatch m), rfl⟩ ?_ ?_ (by omega) (by omega)
  · rintro i σ H hi ⟨vs, es, ns, M5, G5, x4, x5, x6, x7, j5, e5, d5, a5, hr5, ho5, hP, l1, l2, hns, rfl⟩
    have hi8 : i < 8 := by omega
    have lv := Paired.length hP
    have nb : -100 ≤ 3 * (i : Int) - 4 ∧ 3 * (i : Int) - 4 ≤ 100 := by omega
    walk_at "go"
    refine ⟨ty_listM j5 hr5, ?_⟩
    walk_at "go"
    refine w_sg (p, (i : Int)) j5 ⟨rfl, d5, by dsimp only; omega, by dsimp only; omega⟩ fun v M6 G6 H6 j6 e6 ⟨⟨a, as, ops, ev, hd, hlw⟩, d6, a6⟩ => ?_
    subst ev
    dsimp only at d6 a6
    walk_at "go"
    refine w_new j6 (by show 3 ≤ sizeLine; decide) fun t G7 H7 j7 e7 ht _ => ?_
    have hr7 := a6.at hr5 nLr
    have ho7 := a6.at ho5 nLo
    walk_at "go"
    refine w_appendA j7 hr7 (by omega) fun H8 j8 => ?_
    walk_at "go"
    have ho8 : upd M6 Lr (.lst (vs ++ [.ref t])) Lo = some (.lst (ns.map V.int)) := upd_ne' ho7 nRO.symm
    refine ⟨ty_listM j8 ho8, ?_⟩
    walk_at "go"
    refine w_appendA j8 ho8 (by rw [List.length_map]; omega) fun H9 j9 => ?_
    rw [map_snoc] at j9
    have hr9 : upd (upd M6 Lr (.lst (vs ++ [.ref t]))) Lo (.lst ((ns ++ [3 * (i : Int) - 4]).map V.int)) Lr = some (.lst (vs ++ [.ref t])) := upd_ne' upd_same nRO
    have ho9 : upd (upd M6 Lr (.lst (vs ++ [.ref t]))) Lo (.lst ((ns ++ [3 * (i : Int) - 4]).map V.int)) Lo = some (.lst ((ns ++ [3 * (i : Int) - 4]).map V.int)) := upd_same
    have d9 := ((d6.ex e7).upd (o := .lst (vs ++ [.ref t])) nLr).upd (o := .lst ((ns ++ [3 * (i : Int) - 4]).map V.int)) nLo
    have a9 : Ag4 p Lr Lo Lo M (upd (upd M6 Lr (.lst (vs ++ [.ref t]))) Lo (.lst ((ns ++ [3 * (i : Int) - 4]).map V.int))) := ((a5.ag a6).u1).u2
    generalize upd (upd M6 Lr (.lst (vs ++ [.ref t]))) Lo (.lst ((ns ++ [3 * (i : Int) - 4]).map V.int)) = M9 at *
    have E7 := e6.trans e7
    have hP9 : Paired (RwN K G7) (vs ++ [.ref t]) (es ++ [.ask (3 * (i : Int) - 4) (.good a as ops)]) := paired_snocE ⟨⟨t, _, rfl, ht, ⟨rfl, hd.ex e7⟩, hlw⟩, nb⟩ (hP.mono fun _ _ f => f.ex E7)
    have hns9 := ns_snoc hns nb
    have l9 : (es ++ [RowX.ask (3 * (i : Int) - 4) (.good a as ops)]).length ≤ 2 * i + 1 := by rw [List.length_append]; simp only [List.length_cons, List.length_nil]; omega
    have lv9 := Paired.length hP9
    have l9n : (ns ++ [3 * (i : Int) - 4]).length ≤ i + 1 := by rw [List.length_append]; simp only [List.length_cons, List.length_nil]; omega
    have l9p : 0 < (ns ++ [3 * (i : Int) - 4]).length := by rw [List.length_append]; simp only [List.length_cons, List.length_nil]; omega
    generalize vs ++ [V.ref t] = vs9 at *
    generalize es ++ [RowX.ask (3 * (i : Int) - 4) (.good a as ops)] = es9 at *
    generalize ns ++ [3 * (i : Int) - 4] = ns9 at *
    have E9 := e5.trans E7
    with_reducible refine w_if ?_
    refine w_testO (fun b H' => ∃ M10 G10, J M10 G10 H' ∧ Ex G7 G10 ∧ Dr K M10 G10 p ∧ Ag p M9 M10) ?_ fun N hN => ?_
    rotate_left
    · walk_at "go"
      refine w_dec (fun c1 => ?_) (fun c1 => ?_)
      · walk_at "go"
        refine use_draw j9 d9 fun z M10 G10 H10 _ _ j10 e10 d10 a10 => ?_
        walk_at "go"
        exact hN _ _ ⟨M10, G10, j10, e10, d10, a10⟩
      · exact hN _ _ ⟨M9, G7, j9, Same.refl _, d9, Ag.refl _ _⟩
    rintro b H10 ⟨M10, G10, j10, e10, d10, a10⟩
    have hr10 := a10.at hr9 nLr
    have ho10 := a10.at ho9 nLo
    cases b with
    | false =>
      refine w_F ?_
      walk_at "go"
      exact ⟨vs9, es9, ns9, M10, G10, _, _, _, _, j10, E9.trans e10, d10, a9.ag a10, hr10, ho10, hP9.mono fun _ _ f => f.ex e10, by omega, l9n, hns9, rfl⟩
    | true =>
      refine w_T ?_
      walk_at "go"
      refine ⟨ty_listM j10 ho10, ?_⟩
      walk_at "go"
      refine use_draw j10 d10 fun z M11 G11 H11 _ _ j11 e11 d11 a11 => ?_
      have ho11 := a11.at ho10 nLo
      walk_at "go"
      refine w_lenM j11 ho11 ?_
      walk_at "go"
      rw [List.length_map]
      have c1 : (0 : Int) < (ns9.length : Int) := by omega
      refine w_I c1 ?_
      have q0 := Int.emod_nonneg z (b := (ns9.length : Int)) (by omega)
      have q1 := Int.emod_lt_of_pos z c1
      generalize z % (ns9.length : Int) = at_ at q0 q1 ⊢
      obtain ⟨qn, rfl⟩ := Int.eq_ofNat_of_zero_le q0
      have hqn : qn < ns9.length := by omega
      walk_at "go"
      refine w_popAt j11 ho11 (q := qn) (y := .int ns9[qn]) (by rw [List.getElem?_map, List.getElem?_eq_getElem hqn]; rfl) (by rw [List.length_map]; omega) fun H12 j12 => ?_
      rw [← map_eraseAt] at j12
      have hnq := hns9 _ (List.getElem_mem hqn)
      have hnsE : ∀ x ∈ ns9.eraseIdx qn, -100 ≤ x ∧ x ≤ 100 := fun x m => hns9 x (List.mem_of_mem_eraseIdx m)
      have lE : (ns9.eraseIdx qn).length ≤ i + 1 := by rw [List.length_eraseIdx_of_lt hqn]; omega
      generalize ns9[qn] = tn at hnq ⊢
      generalize ns9.eraseIdx qn = nsE at *
      have hr11 := a11.at hr10 nLr
      have hr12 : upd M11 Lo (.lst (nsE.map V.int)) Lr = some (.lst vs9) := upd_ne' hr11 nRO
      have ho12 : upd M11 Lo (.lst (nsE.map V.int)) Lo = some (.lst (nsE.map V.int)) := upd_same
      have d12 := d11.upd (o := .lst (nsE.map V.int)) nLo
      have a12 : Ag4 p Lr Lo Lo M (upd M11 Lo (.lst (nsE.map V.int))) := ((a9.ag a10).ag a11).u2
      generalize upd M11 Lo (.lst (nsE.map V.int)) = M12 at *
      walk_at "go"
      refine w_new j12 (by show 1 ≤ sizeLine; decide) fun u13 G13 H13 j13 e13 hu13 _ => ?_
      walk_at "go"
      refine w_new j13 (by show 7 ≤ sizeLine; decide) fun u14 G14 H14 j14 e14 hu14 _ => ?_
      walk_at "go"
      refine use_draw j14 ((d12.ex e13).ex e14) fun z2 M15 G15 H15 _ _ j15 e15 d15 a15 => ?_
      walk_at "go"
      obtain ⟨vo, od, hvo, hod⟩ : ∃ vo od, atI [V.str "done", .str "done", .str "failed", .non, .int 7, .str "odd", .ref u13] (z2 % 7) = some vo ∧ Dp K G15 vo od := by
        have r0 := Int.emod_nonneg z2 (show (7 : Int) ≠ 0 by decide)
        have r1 := Int.emod_lt_of_pos z2 (show (0 : Int) < 7 by decide)
        generalize z2 % 7 = y at *
        have : y = 0 ∨ y = 1 ∨ y = 2 ∨ y = 3 ∨ y = 4 ∨ y = 5 ∨ y = 6 := by omega
        rcases this with rfl | rfl | rfl | rfl | rfl | rfl | rfl
        · exact ⟨_, _, rfl, .str _⟩
        · exact ⟨_, _, rfl, .str _⟩
        · exact ⟨_, _, rfl, .str _⟩
        · exact ⟨_, _, rfl, .non⟩
        · exact ⟨_, _, rfl, .int _⟩
        · exact ⟨_, _, rfl, .str _⟩
        · exact ⟨_, _, rfl, .tup (st_of ((e14.trans e15) _ _ hu13)) (.cons (.str _) .nil)⟩
      refine w_ixL j15 (sl_of (e15 _ _ hu14)) hvo ?_
      walk_at "go"
      have hr15 := a15.at hr12 nLr
      refine ⟨ty_listM j15 hr15, ?_⟩
      walk_at "go"
      refine w_new j15 (by show 1 ≤ sizeLine; decide) fun u16 G16 H16 j16 e16 hu16 _ => ?_
      walk_at "go"
      refine w_new j16 (Nat.zero_le _) fun u17 G17 H17 j17 e17 hu17 _ => ?_
      walk_at "go"
      refine w_new j17 (by show 1 ≤ sizeLine; decide) fun u18 G18 H18 j18 e18 hu18 _ => ?_
      walk_at "go"
      refine w_new j18 (by show 6 ≤ sizeLine; decide) fun u19 G19 H19 j19 e19 hu19 _ => ?_
      walk_at "go"
      refine use_draw j19 ((((d15.ex e16).ex e17).ex e18).ex e19) fun z3 M20 G20 H20 _ _ j20 e20 d20 a20 => ?_
      walk_at "go"
      obtain ⟨vr, rd, hvr, hrd⟩ : ∃ vr rd, atI [V.ref u16, .ref u17, .non, .int 5, .str "text", .ref u18] (z3 % 6) = some vr ∧ Dp K G20 vr rd := by
        have r0 := Int.emod_nonneg z3 (show (6 : Int) ≠ 0 by decide)
        have r1 := Int.emod_lt_of_pos z3 (show (0 : Int) < 6 by decide)
        generalize z3 % 6 = y at *
        have : y = 0 ∨ y = 1 ∨ y = 2 ∨ y = 3 ∨ y = 4 ∨ y = 5 := by omega
        rcases this with rfl | rfl | rfl | rfl | rfl | rfl
        · exact ⟨_, _, rfl, .lst (sl_of ((((e17.trans e18).trans e19).trans e20) _ _ hu16)) (.cons .non .nil)⟩
        · exact ⟨_, _, rfl, .lst (sl_of (((e18.trans e19).trans e20) _ _ hu17)) .nil⟩
        · exact ⟨_, _, rfl, .non⟩
        · exact ⟨_, _, rfl, .int _⟩
        · exact ⟨_, _, rfl, .str _⟩
        · exact ⟨_, _, rfl, .tup (st_of ((e19.trans e20) _ _ hu18)) (.cons (.int _) .nil)⟩
      refine w_ixL j20 (sl_of (e20 _ _ hu19)) hvr ?_
      walk_at "go"
      refine w_new j20 (by show 4 ≤ sizeLine; decide) fun t2 G21 H21 j21 e21 ht2 _ => ?_
      have hr20 := a20.at hr15 nLr
      have ho20 := a20.at (a15.at ho12 nLo) nLo
      walk_at "go"
      refine w_appendA j21 hr20 (by omega) fun H22 j22 => ?_
      walk_at "go"
      have E20 := (((e16.trans e17).trans e18).trans e19).trans e20
      have E21 := ((((e10.trans e11).trans e13).trans e14).trans e15).trans (E20.trans e21)
      refine ⟨vs9 ++ [.ref t2], es9 ++ [.tell tn od rd], nsE, _, G21, _, _, _, _, j22, E9.trans E21, (d20.ex e21).upd nLr, ((a12.ag a15).ag a20).u1, upd_same, upd_ne' ho20 nRO.symm, paired_snocE ⟨⟨t2, _, _, rfl, ht2, dp_mono (E20.trans e21) hod, dp_mono e21 hrd⟩, hnq⟩ (hP9.mono fun _ _ f => f.ex E21), ?_, lE, hnsE, rfl⟩
      rw [List.length_append]
      simp only [List.length_cons, List.length_nil]
      omega
  · rintro σ H ⟨vs, es, ns, M5, G5, x4, x5, x6, x7, j5, e5, d5, a5, hr5, ho5, hP, l1, l2, hns, rfl⟩
    walk_at "go"
    refine k _ _ _ _ (j5.drop Lo) ((e3.trans e4).trans e5) ⟨⟨Lr, vs, es, rfl, (del_ne nRO).trans hr5, nr, hP, by omega, fun b h1 h2 => ?_⟩, d5.del nLo⟩
    by_cases c1 : b = Lo
    · rw [c1, del_same, no1]
    rw [del_ne c1]
    exact a5 b h1 h2 c1 c1
/-! ### _law_numbers -/
abbrev s_law_numbers : Stmt := top 31
abbrev n_law_numbers : List Str := ["script", "numbers", "cell", "rest", "k"]
theorem sc_law_numbers : FnScope n_law_numbers ["script"] (defScope s_law_numbers) := ⟨rfl, rfl, rfl, by decide +kernel, rfl, by decide +kernel, by decide +kernel⟩
def sp_law_numbers (K : PySem.W.Frag) : Sp := Sg (α := Addr × List Int) (fun a vs M G => vs = [.ref a.1] ∧ SqL K G a.1 (a.2.map V.int) ∧ a.2.length ≤ 63)
  (fun a M _ v M' G' => ∃ (t : Addr) (ns : List Int), v = .ref t ∧ G' t = some (.lst (ns.map V.int)) ∧ (∀ n ∈ ns, 0 ≤ n ∧ n < 1000000) ∧ M' = M)
theorem nums_snoc {ns : List Int} {n : Int} (h : ∀ n ∈ ns, 0 ≤ n ∧ n < 1000000) (hn : 0 ≤ n ∧ n < 1000000) : ∀ m ∈ ns ++ [n], 0 ≤ m ∧ m < 1000000 := by
  intro m hm
  rcases List.mem_append.mp hm with hm | hm
  · exact h m hm
  · rw [List.mem_singleton.mp hm]; exact hn
theorem mod_b (n : Int) : 0 ≤ n % 1000000 ∧ n % 1000000 < 1000000 := ⟨Int.emod_nonneg _ (by decide), Int.emod_lt_of_pos _ (by decide)⟩
/-- between the turns: d holds at most m numbers -/
def NumsI (M G : Hp) (a d : Addr) (m : Nat) (σ : L2.St) (H : Hp) : Prop := ∃ (ns : List Int) (G1 : Hp) (x y z : Option V), J (upd M d (.lst (ns.map V.int))) G1 H ∧ Ex G G1 ∧ (∀ n ∈ ns, 0 ≤ n ∧ n < 1000000) ∧ ns.length ≤ m ∧
  σ = [some (.ref a), some (.ref d), x, y, z]
def NumsJ (M G : Hp) (a d : Addr) (m : Nat) (c : Int) (σ : L2.St) (H : Hp) : Prop := ∃ (ns : List Int) (G1 : Hp) (y z : Option V), J (upd M d (.lst (ns.map V.int))) G1 H ∧ Ex G G1 ∧ (∀ n ∈ ns, 0 ≤ n ∧ n < 1000000) ∧ ns.length ≤ m ∧
  σ = [some (.ref a), some (.ref d), some (.int c), y, z]
def NumsR (M G : Hp) (a d : Addr) (m : Nat) (c : Int) (σ : L2.St) (H : Hp) : Prop := ∃ (ns : List Int) (G1 : Hp) (r : Int) (z : Option V), J (upd M d (.lst (ns.map V.int))) G1 H ∧ Ex G G1 ∧ (∀ n ∈ ns, 0 ≤ n ∧ n < 1000000) ∧ ns.length ≤ m ∧
  σ = [some (.ref a), some (.ref d), some (.int c), some (.int r), z]
theorem ok_law_numbers {P : Program} {w : World} {K : PySem.W.Frag} {mg : Str → Option Value} {base : Heap}
    {f : Addr} {fd : FuncData} (D : Dn K mg "_law_numbers" s_law_numbers ["script"] f fd)
    (b_range : mg "range" = none)
    (c_law_mixed : Cal P w K mg base CX0 1 "_law_mixed" (sp_law_mixed K)) : Cal P w K mg base CX0 2 "_law_numbers" (sp_law_numbers K) := by
  refine D.ok sc_law_numbers (fun vs H Q E h => ?_) fun cdv A outer s H vs Q E hr h => ?_
  · obtain ⟨a, M, G, j, ⟨rfl, _⟩, _⟩ := h; rfl
  obtain ⟨⟨a, cs⟩, M, G, j, ⟨rfl, ha, hl⟩, k⟩ := h
  refine ⟨_, (pss_cons (ps_set (i := 1) sc_law_numbers.nd rfl (Or.inl rfl) (pe_lst pa_nil))
(pss_cons (ps_for PassesOwn.never rfl (pi_list (pv 0)) (pg_name (i := 2) sc_law_numbers.nd rfl (Or.inl rfl))
(pss_one (ps_if (pt_cmpR op_ge (pv 2) (pe_op op_pow pe_int pe_int) (nomark _))
(pss_cons (ps_set (i := 3) sc_law_numbers.nd rfl (Or.inl rfl) (pv 2))
(pss_one (ps_for PassesOwn.never rfl (pi_range1 (by rfl) b_range (pa_cons pe_int pa_nil)) (pg_name (i := 4) sc_law_numbers.nd rfl (Or.inl rfl))
(pss_one (ps_if (pt_cmpR op_gt (pv 3) pe_int (nomark _))
(pss_cons (ps_expr (pe_bm PySem.F.plainAttrs_list PySem.F.slot_list_append PySem.F.type_list_append mt_append (pv 1) (pa_cons (pe_op op_mod (pv 3) pe_int) pa_nil)))
(pss_one (ps_set (i := 3) sc_law_numbers.nd rfl (Or.inl rfl) (pe_op op_fdiv (pv 3) pe_int))))
pss_nil)))))
(pss_cons (ps_expr (pe_bm PySem.F.plainAttrs_list PySem.F.slot_list_append PySem.F.type_list_append mt_append (pv 1) (pa_cons (pe_op op_mod (pv 2) pe_int) pa_nil)))
(pss_one (ps_for PassesOwn.never rfl (pi_range1 (by rfl) b_range (pa_cons pe_int pa_nil)) (pg_name (i := 4) sc_law_numbers.nd rfl (Or.inl rfl))
(pss_one (ps_expr (pe_bm PySem.F.plainAttrs_list PySem.F.slot_list_append PySem.F.type_list_append mt_append (pv 1) (pa_cons (pe_op op_mod (pe_cal c_law_mixed hr (by first | decide | omega) (by rfl) (pa_cons (pe_cal c_law_mixed hr (by first | decide | omega) (by rfl) (pa_cons (pe_op op_mod (pv 2) pe_int) (pa_cons (pv 4) pa_nil))) (pa_cons (pe_op (op_uAddK (K := K) rfl) (pv 4) pe_int) pa_nil))) pe_int) pa_nil))))))))))
(pss_one (ps_ret (pv 1))))), ?_⟩
  walk_at "start"
  refine w_newM j (by decide) fun d H1 j1 nM nG => ?_
  walk_at "go"
  refine w_forLV rfl (NumsI M G a d ∘ (60 * ·)) (xs := cs.map V.int) (sl_mono j1.g ha) ⟨[], G, _, _, _, j1, Same.refl G, by simp, Nat.le_refl _, rfl⟩ (fun i σ H _ ⟨ns, G1, _, _, _, j, e, _⟩ => sl_mono (e.trans j.g) ha) ?_ ?_
  · rintro i x σ H hi ⟨ns, G1, x0, y0, z0, j, e, hn, hz, rfl⟩
    dsimp only at ha hl
    obtain ⟨c, rfl⟩ : ∃ c, x = V.int c := by
      rw [List.getElem?_map] at hi
      cases h : cs[i]? with
      | none => rw [h] at hi; cases hi
      | some c => rw [h] at hi; exact ⟨c, (Option.some.inj hi).symm⟩
    have hi' : i < 63 := by
      have := (List.getElem?_eq_some_iff.mp hi).1
      rw [List.length_map] at this; omega
    dsimp only at hz
    walk_at "go"
    refine w_dec (fun h1 => ?_) (fun h1 => ?_)
    · walk_at "go"
      refine w_rng (fun t => NumsR M G a d (60 * i + t) c) ⟨ns, G1, c, _, j, e, hn, hz, rfl⟩ ?_ ?_
      · rintro t σ H ht ⟨ns, G1, r, z, j, e, hn, hz, rfl⟩
        have ht : t < 60 := ht
        walk_at "go"
        refine w_dec (fun h2 => ?_) (fun h2 => ?_)
        · walk_at "go"
          refine ⟨ty_listU j, ?_⟩
          walk_at "go"
          refine w_appendU j (by rw [List.length_map]; omega) fun H' j' => ?_
          walk_at "go"
          exact ⟨ns ++ [r % 1000000], G1, r / 1000000, _, by rw [← map_snoc]; exact j', e, nums_snoc hn (mod_b r), by rw [List.length_append, List.length_singleton]; omega, rfl⟩
        · walk_at "go"
          exact ⟨ns, G1, r, _, j, e, hn, by omega, rfl⟩
      · rintro σ H ⟨ns, G1, r, z, j, e, hn, hz, rfl⟩
        exact ⟨ns, G1, _, _, _, j, e, hn, hz, rfl⟩
    · walk_at "go"
      refine ⟨ty_listU j, ?_⟩
      walk_at "go"
      refine w_appendU j (by rw [List.length_map]; omega) fun H' j' => ?_
      rw [map_snoc] at j'
      walk_at "go"
      refine w_rng (fun t => NumsJ M G a d (60 * i + 1 + t) c) ⟨ns ++ [c % 1000000], G1, _, _, j', e, nums_snoc hn (mod_b c), by rw [List.length_append, List.length_singleton]; omega, rfl⟩ ?_ ?_
      · rintro t σ H ht ⟨ns, G1, y, z, j, e, hn, hz, rfl⟩
        have ht : t < 5 := ht
        walk_at "go"
        refine ⟨ty_listU j, ?_⟩
        walk_at "go"
        refine w_sg (_, _) j rfl fun v M' G' H' j2 e2 ⟨ev, em⟩ => ?_
        subst ev em
        walk_at "go"
        refine w_sg (_, _) j2 rfl fun v M' G' H' j3 e3 ⟨ev, em⟩ => ?_
        subst ev em
        walk_at "go"
        refine w_appendU j3 (by rw [List.length_map]; omega) fun H' j' => ?_
        rw [map_snoc] at j'
        exact ⟨_, _, _, _, j', (e.trans e2).trans e3, nums_snoc hn (mod_b _), by rw [List.length_append, List.length_singleton]; omega, rfl⟩
      · rintro σ H ⟨ns, G1, y, z, j, e, hn, hz, rfl⟩
        exact ⟨ns, G1, _, _, _, j, e, hn, by show ns.length ≤ 60 * (i + 1); have : ns.length ≤ 60 * i + 1 + 5 := hz; omega, rfl⟩
  · rintro σ H ⟨ns, G1, x, y, z, j, e, hn, hz, rfl⟩
    walk_at "go"
    exact k _ _ _ _ (j.freeze nM) (e.trans (Ex.new j.freezeG)) ⟨d, ns, rfl, upd_same, hn, rfl⟩
/-! ### _law_bad_deal -/
abbrev s_law_bad_deal : Stmt := top 34
abbrev n_law_bad_deal : List Str := ["draws", "bad"]
theorem sc_law_bad_deal : FnScope n_law_bad_deal ["draws"] (defScope s_law_bad_deal) := ⟨rfl, rfl, rfl, by decide +kernel, rfl, by decide +kernel, by decide +kernel⟩
def BdEnd (K : PySem.W.Frag) (G : Hp) (v : V) : Prop := ∃ x, LwAt K G v x ∧ x.isGood = false
def sp_law_bad_deal (K : PySem.W.Frag) : Sp := Sg (α := Addr) (fun a vs M G => vs = [.ref a] ∧ Dr K M G a) (fun a M _ v M' G' => BdEnd K G' v ∧ Dr K M' G' a ∧ Ag a M M')
def dB64 (l : List (Bool × List V)) : Bool := dealB (l.map fun p => ⟨p.1, 0, p.2⟩)
def lB64 (l : List (Bool × List V)) : Bool := lwD (l.map fun p => ⟨p.1, 0, p.2⟩)
theorem mp64 (is : List Itm) : ((is.map fun (i : Itm) => (i.tp, i.vs)).map fun p => (⟨p.1, 0, p.2⟩ : Itm)).map (fun (i : Itm) => (i.tp, i.vs)) = is.map (fun (i : Itm) => (i.tp, i.vs)) := by
  rw [List.map_map, List.map_map]; rfl
theorem lwD_same {is js : List Itm} (h : is.map (fun (i : Itm) => (i.tp, i.vs)) = js.map (fun (i : Itm) => (i.tp, i.vs))) : lwD is = lwD js := by
  have hl : is.length = js.length := by have := congrArg List.length h; rw [List.length_map, List.length_map] at this; exact this
  have ha : is.all lwI = js.all lwI := by
    have e : ∀ l : List Itm, l.all lwI = (l.map fun (i : Itm) => (i.tp, i.vs)).all fun p => p.1 && lwV p.2 := fun l => (all_map (fun p : Bool × List V => p.1 && lwV p.2) (fun (i : Itm) => (i.tp, i.vs)) l).symm
    rw [e, e, h]
  unfold lwD
  rw [hl, ha]
theorem bd_of {K : PySem.W.Frag} {G : Hp} {a : Addr} {is : List Itm} (ps : List (Bool × List V)) (h1 : G a = some (.lst (is.map fun i => V.ref i.t))) (h2 : ∀ i ∈ is, ItmAt K G i) (h3 : is.length ≤ 100) (e : is.map (fun (i : Itm) => (i.tp, i.vs)) = ps) (h4 : dB64 ps = false) (h5 : lB64 ps = false) (h6 : ∀ i ∈ is, ShI i) : BdEnd K G (.ref a) :=
  ⟨.bad a is, ⟨⟨rfl, ⟨sl_of h1, h2, h3⟩, by rw [← h4]; unfold dB64; rw [← e]; exact dealB_same (mp64 is).symm⟩, by rw [← h5]; unfold lB64; rw [← e]; exact lwD_same (mp64 is).symm, h6⟩, rfl⟩
theorem it_t {K : PySem.W.Frag} {G : Hp} {t : Addr} {vs : List V} (h : G t = some (.tup vs)) (f : vs.all flatV = true) (l : vs.length ≤ 4) : ItmAt K G ⟨true, t, vs⟩ := ⟨st_of h, fun v m => List.all_eq_true.mp f v m, l⟩
theorem it_l {K : PySem.W.Frag} {G : Hp} {t : Addr} {vs : List V} (h : G t = some (.lst vs)) (f : vs.all flatV = true) (l : vs.length ≤ 4) : ItmAt K G ⟨false, t, vs⟩ := ⟨sl_of h, fun v m => List.all_eq_true.mp f v m, l⟩
theorem sh_i {t : Addr} {w : Str} {n : Int} {r : List V}  (h : SeqAt.shaped (.tuple ((V.str w :: V.int n :: r).map pd)) = true) : ShI ⟨true, t, .str w :: .int n :: r⟩ := fun _ => ⟨⟨w, _, r, rfl, .inl ⟨n, rfl⟩⟩, h⟩
theorem sh_b {t : Addr} {w : Str} {n : Bool} {r : List V}  (h : SeqAt.shaped (.tuple ((V.str w :: V.bl n :: r).map pd)) = true) : ShI ⟨true, t, .str w :: .bl n :: r⟩ := fun _ => ⟨⟨w, _, r, rfl, .inr ⟨n, rfl⟩⟩, h⟩
theorem sh_l {t : Addr} {vs : List V} : ShI ⟨false, t, vs⟩ := fun z => nomatch z
theorem all1 {α : Type} {P : α → Prop} {x : α} (h : P x) : ∀ y ∈ [x], P y := fun y m => by rw [List.mem_singleton.mp m]; exact h
theorem all2 {α : Type} {P : α → Prop} {x z : α} (h : P x) (g : P z) : ∀ y ∈ [x, z], P y := fun y m => by
  rcases List.mem_cons.mp m with rfl | m
  · exact h
  · rw [List.mem_singleton.mp m]; exact g
theorem ok_law_bad_deal {P : Program} {w : World} {K : PySem.W.Frag} {mg : Str → Option Value} {base : Heap}
    {f : Addr} {fd : FuncData} (D : Dn K mg "_law_bad_deal" s_law_bad_deal ["draws"] f fd)
    (c_law_draw : Cal P w K mg base CX0 2 "_law_draw" (sp_law_draw K)) : Cal P w K mg base CX0 3 "_law_bad_deal" (sp_law_bad_deal K) := by
  refine D.ok sc_law_bad_deal (fun vs H Q E h => ?_) fun cdv A outer s H vs Q E hr h => ?_
  · obtain ⟨p, M, G, j, ⟨rfl, _⟩, _⟩ := h; rfl
  obtain ⟨p, M, G, j, ⟨rfl, d⟩, k⟩ := h
  refine ⟨_, (pss_cons (ps_set (i := 1) sc_law_bad_deal.nd rfl (Or.inl rfl) (pe_lst (pa_cons (pe_lst (pa_cons (pe_tup (pa_cons pe_str (pa_cons pe_int (pa_cons pe_int pa_nil)))) pa_nil)) (pa_cons (pe_lst pa_nil) (pa_cons (pe_op op_uMul (pe_lst (pa_cons (pe_tup (pa_cons pe_str (pa_cons pe_int pa_nil))) pa_nil)) pe_int) (pa_cons (pe_lst (pa_cons (pe_tup (pa_cons pe_str (pa_cons (pe_un un_neg pe_int) (pa_cons pe_int pa_nil)))) pa_nil)) (pa_cons (pe_lst (pa_cons (pe_tup (pa_cons pe_str (pa_cons pe_bl pa_nil))) pa_nil)) (pa_cons (pe_lst (pa_cons (pe_tup (pa_cons pe_str (pa_cons pe_int (pa_cons (pe_op (op_uAddK (K := K) rfl) (pe_op op_pow pe_int pe_int) pe_int) pa_nil)))) pa_nil)) (pa_cons (pe_lst (pa_cons (pe_lst (pa_cons pe_str (pa_cons pe_int pa_nil))) pa_nil)) (pa_cons (pe_lst (pa_cons (pe_tup (pa_cons pe_str (pa_cons pe_int (pa_cons pe_int pa_nil)))) pa_nil)) (pa_cons (pe_lst (pa_cons (pe_tup (pa_cons pe_str (pa_cons pe_int pa_nil))) (pa_cons (pe_tup (pa_cons pe_str (pa_cons pe_int pa_nil))) pa_nil))) (pa_cons (pe_lst (pa_cons (pe_tup (pa_cons pe_str (pa_cons pe_int (pa_cons pe_non pa_nil)))) pa_nil)) (pa_cons (pe_lst (pa_cons (pe_tup (pa_cons pe_str (pa_cons pe_int (pa_cons pe_int pa_nil)))) pa_nil)) (pa_cons (pe_tup pa_nil) (pa_cons pe_non pa_nil)))))))))))))))
(pss_one (ps_ret (pe_ix (ix_uK (K := K) rfl) (pv 1) (pe_op op_mod (pe_cal c_law_draw hr (by first | decide | omega) (by rfl) (pa_cons (pv 0) pa_nil)) pe_int) (fun _ _ => rfl))))), ?_⟩
  walk_at "start"
  refine w_new j (by show 3 ≤ sizeLine; decide) fun t0 G1 H1 j1 e1 ht0 _ => ?_
  walk_at "go"
  refine w_new j1 (by show 1 ≤ sizeLine; decide) fun l0 G2 H2 j2 e2 hl0 _ => ?_
  walk_at "go"
  refine w_new j2 (by show 0 ≤ sizeLine; decide) fun l1 G3 H3 j3 e3 hl1 _ => ?_
  walk_at "go"
  refine w_new j3 (by show 2 ≤ sizeLine; decide) fun t2 G4 H4 j4 e4 ht2 _ => ?_
  walk_at "go"
  refine w_new j4 (by show 1 ≤ sizeLine; decide) fun l2 G5 H5 j5 e5 hl2 _ => ?_
  walk_at "go"
  refine w_repM j5 hl2 (by decide) (by decide) (by show 1 * 7 ≤ 1000000; decide) fun r G6 H6 j6 e6 hr2 => ?_
  walk_at "go"
  refine w_new j6 (by show 3 ≤ sizeLine; decide) fun t3 G7 H7 j7 e7 ht3 _ => ?_
  walk_at "go"
  refine w_new j7 (by show 1 ≤ sizeLine; decide) fun l3 G8 H8 j8 e8 hl3 _ => ?_
  walk_at "go"
  refine w_new j8 (by show 2 ≤ sizeLine; decide) fun t4 G9 H9 j9 e9 ht4 _ => ?_
  walk_at "go"
  refine w_new j9 (by show 1 ≤ sizeLine; decide) fun l4 G10 H10 j10 e10 hl4 _ => ?_
  walk_at "go"
  refine w_new j10 (by show 3 ≤ sizeLine; decide) fun t5 G11 H11 j11 e11 ht5 _ => ?_
  walk_at "go"
  refine w_new j11 (by show 1 ≤ sizeLine; decide) fun l5 G12 H12 j12 e12 hl5 _ => ?_
  walk_at "go"
  refine w_new j12 (by show 2 ≤ sizeLine; decide) fun t6 G13 H13 j13 e13 ht6 _ => ?_
  walk_at "go"
  refine w_new j13 (by show 1 ≤ sizeLine; decide) fun l6 G14 H14 j14 e14 hl6 _ => ?_
  walk_at "go"
  refine w_new j14 (by show 3 ≤ sizeLine; decide) fun t7 G15 H15 j15 e15 ht7 _ => ?_
  walk_at "go"
  refine w_new j15 (by show 1 ≤ sizeLine; decide) fun l7 G16 H16 j16 e16 hl7 _ => ?_
  walk_at "go"
  refine w_new j16 (by show 2 ≤ sizeLine; decide) fun t8 G17 H17 j17 e17 ht8 _ => ?_
  walk_at "go"
  refine w_new j17 (by show 2 ≤ sizeLine; decide) fun u8 G18 H18 j18 e18 hu8 _ => ?_
  walk_at "go"
  refine w_new j18 (by show 2 ≤ sizeLine; decide) fun l8 G19 H19 j19 e19 hl8 _ => ?_
  walk_at "go"
  refine w_new j19 (by show 3 ≤ sizeLine; decide) fun t9 G20 H20 j20 e20 ht9 _ => ?_
  walk_at "go"
  refine w_new j20 (by show 1 ≤ sizeLine; decide) fun l9 G21 H21 j21 e21 hl9 _ => ?_
  walk_at "go"
  refine w_new j21 (by show 3 ≤ sizeLine; decide) fun t10 G22 H22 j22 e22 ht10 _ => ?_
  walk_at "go"
  refine w_new j22 (by show 1 ≤ sizeLine; decide) fun l10 G23 H23 j23 e23 hl10 _ => ?_
  walk_at "go"
  refine w_new j23 (by show 0 ≤ sizeLine; decide) fun u11 G24 H24 j24 e24 hu11 _ => ?_
  walk_at "go"
  refine w_new j24 (by show 13 ≤ sizeLine; decide) fun L G25 H25 j25 e25 hL _ => ?_
  walk_at "go"
  have EL : Ex G G25 := ((((((((((((((((((((((((e1.trans e2).trans e3).trans e4).trans e5).trans e6).trans e7).trans e8).trans e9).trans e10).trans e11).trans e12).trans e13).trans e14).trans e15).trans e16).trans e17).trans e18).trans e19).trans e20).trans e21).trans e22).trans e23).trans e24).trans e25)
  refine use_draw j25 (d.ex EL) fun z M13 Gz Hz _ _ jz ez dz az => ?_
  walk_at "go"
  have r0 := Int.emod_nonneg z (show (13 : Int) ≠ 0 by decide)
  have r1 := Int.emod_lt_of_pos z (show (0 : Int) < 13 by decide)
  have EZ := EL.trans ez
  have qt0 := ((((((((((((((((((((((((e2.trans e3).trans e4).trans e5).trans e6).trans e7).trans e8).trans e9).trans e10).trans e11).trans e12).trans e13).trans e14).trans e15).trans e16).trans e17).trans e18).trans e19).trans e20).trans e21).trans e22).trans e23).trans e24).trans e25).trans ez) _ _ ht0
  have ql0 := (((((((((((((((((((((((e3.trans e4).trans e5).trans e6).trans e7).trans e8).trans e9).trans e10).trans e11).trans e12).trans e13).trans e14).trans e15).trans e16).trans e17).trans e18).trans e19).trans e20).trans e21).trans e22).trans e23).trans e24).trans e25).trans ez) _ _ hl0
  have ql1 := ((((((((((((((((((((((e4.trans e5).trans e6).trans e7).trans e8).trans e9).trans e10).trans e11).trans e12).trans e13).trans e14).trans e15).trans e16).trans e17).trans e18).trans e19).trans e20).trans e21).trans e22).trans e23).trans e24).trans e25).trans ez) _ _ hl1
  have qt2 := (((((((((((((((((((((e5.trans e6).trans e7).trans e8).trans e9).trans e10).trans e11).trans e12).trans e13).trans e14).trans e15).trans e16).trans e17).trans e18).trans e19).trans e20).trans e21).trans e22).trans e23).trans e24).trans e25).trans ez) _ _ ht2
  have ql2 := ((((((((((((((((((((e6.trans e7).trans e8).trans e9).trans e10).trans e11).trans e12).trans e13).trans e14).trans e15).trans e16).trans e17).trans e18).trans e19).trans e20).trans e21).trans e22).trans e23).trans e24).trans e25).trans ez) _ _ hl2
  have qr2 := (((((((((((((((((((e7.trans e8).trans e9).trans e10).trans e11).trans e12).trans e13).trans e14).trans e15).trans e16).trans e17).trans e18).trans e19).trans e20).trans e21).trans e22).trans e23).trans e24).trans e25).trans ez) _ _ hr2
  have qt3 := ((((((((((((((((((e8.trans e9).trans e10).trans e11).trans e12).trans e13).trans e14).trans e15).trans e16).trans e17).trans e18).trans e19).trans e20).trans e21).trans e22).trans e23).trans e24).trans e25).trans ez) _ _ ht3
  have ql3 := (((((((((((((((((e9.trans e10).trans e11).trans e12).trans e13).trans e14).trans e15).trans e16).trans e17).trans e18).trans e19).trans e20).trans e21).trans e22).trans e23).trans e24).trans e25).trans ez) _ _ hl3
  have qt4 := ((((((((((((((((e10.trans e11).trans e12).trans e13).trans e14).trans e15).trans e16).trans e17).trans e18).trans e19).trans e20).trans e21).trans e22).trans e23).trans e24).trans e25).trans ez) _ _ ht4
  have ql4 := (((((((((((((((e11.trans e12).trans e13).trans e14).trans e15).trans e16).trans e17).trans e18).trans e19).trans e20).trans e21).trans e22).trans e23).trans e24).trans e25).trans ez) _ _ hl4
  have qt5 := ((((((((((((((e12.trans e13).trans e14).trans e15).trans e16).trans e17).trans e18).trans e19).trans e20).trans e21).trans e22).trans e23).trans e24).trans e25).trans ez) _ _ ht5
  have ql5 := (((((((((((((e13.trans e14).trans e15).trans e16).trans e17).trans e18).trans e19).trans e20).trans e21).trans e22).trans e23).trans e24).trans e25).trans ez) _ _ hl5
  have qt6 := ((((((((((((e14.trans e15).trans e16).trans e17).trans e18).trans e19).trans e20).trans e21).trans e22).trans e23).trans e24).trans e25).trans ez) _ _ ht6
  have ql6 := (((((((((((e15.trans e16).trans e17).trans e18).trans e19).trans e20).trans e21).trans e22).trans e23).trans e24).trans e25).trans ez) _ _ hl6
  have qt7 := ((((((((((e16.trans e17).trans e18).trans e19).trans e20).trans e21).trans e22).trans e23).trans e24).trans e25).trans ez) _ _ ht7
  have ql7 := (((((((((e17.trans e18).trans e19).trans e20).trans e21).trans e22).trans e23).trans e24).trans e25).trans ez) _ _ hl7
  have qt8 := ((((((((e18.trans e19).trans e20).trans e21).trans e22).trans e23).trans e24).trans e25).trans ez) _ _ ht8
  have qu8 := (((((((e19.trans e20).trans e21).trans e22).trans e23).trans e24).trans e25).trans ez) _ _ hu8
  have ql8 := ((((((e20.trans e21).trans e22).trans e23).trans e24).trans e25).trans ez) _ _ hl8
  have qt9 := (((((e21.trans e22).trans e23).trans e24).trans e25).trans ez) _ _ ht9
  have ql9 := ((((e22.trans e23).trans e24).trans e25).trans ez) _ _ hl9
  have qt10 := (((e23.trans e24).trans e25).trans ez) _ _ ht10
  have ql10 := ((e24.trans e25).trans ez) _ _ hl10
  have qu11 := (e25.trans ez) _ _ hu11
  have qL := ez _ _ hL
  have fin : ∀ {v : V}, BdEnd K Gz v → Q v Hz := fun h => k _ _ _ _ jz EZ ⟨h, dz, az⟩
  generalize z % 13 = y at *
  have : y = 0 ∨ y = 1 ∨ y = 2 ∨ y = 3 ∨ y = 4 ∨ y = 5 ∨ y = 6 ∨ y = 7 ∨ y = 8 ∨ y = 9 ∨ y = 10 ∨ y = 11 ∨ y = 12 := by omega
  rcases this with rfl | rfl | rfl | rfl | rfl | rfl | rfl | rfl | rfl | rfl | rfl | rfl | rfl
  · refine w_ixL jz (sl_of qL) (by rfl) ?_
    exact fin (bd_of (is := [⟨true, t0, [.str "put", .int 1000, .int 1]⟩]) [(true, [.str "put", .int 1000, .int 1])] ql0 (all1 (it_t qt0 (by decide) (by decide))) (by show 1 ≤ 100; decide) rfl (by decide +kernel) (by decide +kernel) (all1 (sh_i (by decide +kernel))))
  · refine w_ixL jz (sl_of qL) (by rfl) ?_
    exact fin (bd_of (is := []) [] ql1 (fun _ m => nomatch m) (by show 0 ≤ 100; decide) rfl (by decide +kernel) (by decide +kernel) (fun _ m => nomatch m))
  · refine w_ixL jz (sl_of qL) (by rfl) ?_
    exact fin (bd_of (is := [⟨true, t2, [.str "get", .int 1]⟩, ⟨true, t2, [.str "get", .int 1]⟩, ⟨true, t2, [.str "get", .int 1]⟩, ⟨true, t2, [.str "get", .int 1]⟩, ⟨true, t2, [.str "get", .int 1]⟩, ⟨true, t2, [.str "get", .int 1]⟩, ⟨true, t2, [.str "get", .int 1]⟩]) [(true, [.str "get", .int 1]), (true, [.str "get", .int 1]), (true, [.str "get", .int 1]), (true, [.str "get", .int 1]), (true, [.str "get", .int 1]), (true, [.str "get", .int 1]), (true, [.str "get", .int 1])] qr2 (fun i m => by rw [List.eq_of_mem_replicate (n := 7) m]; exact it_t qt2 (by decide) (by decide)) (by show 7 ≤ 100; decide) rfl (by decide +kernel) (by decide +kernel) (fun i m => by rw [List.eq_of_mem_replicate (n := 7) m]; exact sh_i (by decide +kernel)))
  · refine w_ixL jz (sl_of qL) (by rfl) ?_
    exact fin (bd_of (is := [⟨true, t3, [.str "put", .int (-1), .int 1]⟩]) [(true, [.str "put", .int (-1), .int 1])] ql3 (all1 (it_t qt3 (by decide) (by decide))) (by show 1 ≤ 100; decide) rfl (by decide +kernel) (by decide +kernel) (all1 (sh_i (by decide +kernel))))
  · refine w_ixL jz (sl_of qL) (by rfl) ?_
    exact fin (bd_of (is := [⟨true, t4, [.str "get", .bl true]⟩]) [(true, [.str "get", .bl true])] ql4 (all1 (it_t qt4 (by decide) (by decide))) (by show 1 ≤ 100; decide) rfl (by decide +kernel) (by decide +kernel) (all1 (sh_b (by decide +kernel))))
  · refine w_ixL jz (sl_of qL) (by rfl) ?_
    exact fin (bd_of (is := [⟨true, t5, [.str "put", .int 1, .int 1000000000000000001]⟩]) [(true, [.str "put", .int 1, .int 1000000000000000001])] ql5 (all1 (it_t qt5 (by decide) (by decide))) (by show 1 ≤ 100; decide) rfl (by decide +kernel) (by decide +kernel) (all1 (sh_i (by decide +kernel))))
  · refine w_ixL jz (sl_of qL) (by rfl) ?_
    exact fin (bd_of (is := [⟨false, t6, [.str "get", .int 1]⟩]) [(false, [.str "get", .int 1])] ql6 (all1 (it_l qt6 (by decide) (by decide))) (by show 1 ≤ 100; decide) rfl (by decide +kernel) (by decide +kernel) (all1 sh_l))
  · refine w_ixL jz (sl_of qL) (by rfl) ?_
    exact fin (bd_of (is := [⟨true, t7, [.str "set", .int 1, .int 1]⟩]) [(true, [.str "set", .int 1, .int 1])] ql7 (all1 (it_t qt7 (by decide) (by decide))) (by show 1 ≤ 100; decide) rfl (by decide +kernel) (by decide +kernel) (all1 (sh_i (by decide +kernel))))
  · refine w_ixL jz (sl_of qL) (by rfl) ?_
    exact fin (bd_of (is := [⟨true, t8, [.str "get", .int 1]⟩, ⟨true, u8, [.str "put", .int 1]⟩]) [(true, [.str "get", .int 1]), (true, [.str "put", .int 1])] ql8 (all2 (it_t qt8 (by decide) (by decide)) (it_t qu8 (by decide) (by decide))) (by show 2 ≤ 100; decide) rfl (by decide +kernel) (by decide +kernel) (all2 (sh_i (by decide +kernel)) (sh_i (by decide +kernel))))
  · refine w_ixL jz (sl_of qL) (by rfl) ?_
    exact fin (bd_of (is := [⟨true, t9, [.str "add", .int 1, .non]⟩]) [(true, [.str "add", .int 1, .non])] ql9 (all1 (it_t qt9 (by decide) (by decide))) (by show 1 ≤ 100; decide) rfl (by decide +kernel) (by decide +kernel) (all1 (sh_i (by decide +kernel))))
  · refine w_ixL jz (sl_of qL) (by rfl) ?_
    exact fin (bd_of (is := [⟨true, t10, [.str "scan", .int 6, .int 5]⟩]) [(true, [.str "scan", .int 6, .int 5])] ql10 (all1 (it_t qt10 (by decide) (by decide))) (by show 1 ≤ 100; decide) rfl (by decide +kernel) (by decide +kernel) (all1 (sh_i (by decide +kernel))))
  · refine w_ixL jz (sl_of qL) (by rfl) ?_
    exact fin ⟨.no _, ⟨⟨rfl, .inr ⟨_, _, rfl, st_of qu11⟩⟩, trivial⟩, rfl⟩
  · refine w_ixL jz (sl_of qL) (by rfl) ?_
    exact fin ⟨.no _, ⟨⟨rfl, .inl rfl⟩, trivial⟩, rfl⟩
/-! ### _law_spoilt_row -/
abbrev s_law_spoilt_row : Stmt := top 36
abbrev n_law_spoilt_row : List Str := ["draws", "row", "pick"]
theorem sc_law_spoilt_row : FnScope n_law_spoilt_row ["draws", "row"] (defScope s_law_spoilt_row) := ⟨rfl, rfl, rfl, by decide +kernel, rfl, by decide +kernel, by decide +kernel⟩
structure SrP where
  p : Addr
  v : V
  e : RowX
def SrEnd (K : PySem.W.Frag) (G : Hp) (v : V) : Prop := ∃ e, RwL K G v e
def sp_law_spoilt_row (K : PySem.W.Frag) : Sp := Sg (α := SrP) (fun a vs M G => vs = [.ref a.p, a.v] ∧ Dr K M G a.p ∧ RwL K G a.v a.e ∧ nmOk a.e) (fun a M _ v M' G' => SrEnd K G' v ∧ Dr K M' G' a.p ∧ Ag a.p M M')
theorem w_ixAny {K : PySem.W.Frag} {M G H : Hp} {a : Addr} {xs : List V} {m : Int} {Q : VK} (j : J M G H) (h : SqL K G a xs) (h0 : 0 ≤ m) (h1 : m < xs.length) (q : ∀ v ∈ xs, Q v H) : uIx K (.ref a) (.int m) H Q := by
  obtain ⟨i, rfl⟩ := Int.eq_ofNat_of_zero_le h0
  have hi : i < xs.length := by omega
  exact w_ixL j h (atI_nat (j := i) (List.getElem?_eq_getElem hi)) (q _ (List.getElem_mem hi))
theorem ok_law_spoilt_row {P : Program} {w : World} {K : PySem.W.Frag} {mg : Str → Option Value} {base : Heap}
    {f : Addr} {fd : FuncData} (D : Dn K mg "_law_spoilt_row" s_law_spoilt_row ["draws", "row"] f fd)
    (b_list : mg "list" = none)
    (b_len : mg "len" = none)
    (b_str : mg "str" = none)
    (c_law_draw : Cal P w K mg base CX0 2 "_law_draw" (sp_law_draw K))
    (c_law_bad_deal : Cal P w K mg base CX0 3 "_law_bad_deal" (sp_law_bad_deal K)) : Cal P w K mg base CX0 4 "_law_spoilt_row" (sp_law_spoilt_row K) := by
  refine D.ok sc_law_spoilt_row (fun vs H Q E h => ?_) fun cdv A outer s H vs Q E hr h => ?_
  · obtain ⟨x, M, G, j, ⟨rfl, _⟩, _⟩ := h; rfl
  obtain ⟨⟨p, v, e⟩, M, G, j, ⟨rfl, d, hrw, hnm⟩, k⟩ := h
  dsimp only at d hrw hnm k
  obtain ⟨t, w, n, rest, rfl, ht, hk, n0, n9⟩ := hrw.kind hnm
  refine ⟨_, (pss_cons (ps_set (i := 2) sc_law_spoilt_row.nd rfl (Or.inl rfl) (pe_op op_mod (pe_cal c_law_draw hr (by first | decide | omega) (by rfl) (pa_cons (pv 0) pa_nil)) pe_int))
(pss_cons (ps_if (pt_cmpR (op_uEqK (K := K) rfl hr) (pv 2) pe_int (nomark _))
(pss_one (ps_ret (pe_op (op_uAddK (K := K) rfl) (pe_tup (pa_cons (pe_ix (ix_uK (K := K) rfl) (pv 1) pe_int (fun _ _ => rfl)) (pa_cons pe_bl pa_nil))) (pe_slice (sl_uK (K := K) rfl) (pv 1) (po_some pe_int) po_none))))
pss_nil)
(pss_cons (ps_if (pt_cmpR (op_uEqK (K := K) rfl hr) (pv 2) pe_int (nomark _))
(pss_one (ps_ret (pe_op (op_uAddK (K := K) rfl) (pe_tup (pa_cons (pe_ix (ix_uK (K := K) rfl) (pv 1) pe_int (fun _ _ => rfl)) (pa_cons (pe_callTy call_str_int (by rfl) b_str bt_str (pa_cons (pe_ix (ix_uK (K := K) rfl) (pv 1) pe_int (fun _ _ => rfl)) pa_nil)) pa_nil))) (pe_slice (sl_uK (K := K) rfl) (pv 1) (po_some pe_int) po_none))))
pss_nil)
(pss_cons (ps_if (pt_cmpR (op_uEqK (K := K) rfl hr) (pv 2) pe_int (nomark _))
(pss_one (ps_ret (pe_op (op_uAddK (K := K) rfl) (pe_tup (pa_cons (pe_ix (ix_uK (K := K) rfl) (pe_lst (pa_cons pe_str (pa_cons pe_str (pa_cons pe_str (pa_cons pe_str (pa_cons pe_str pa_nil)))))) (pe_op op_mod (pe_cal c_law_draw hr (by first | decide | omega) (by rfl) (pa_cons (pv 0) pa_nil)) pe_int) (fun _ _ => rfl)) pa_nil)) (pe_slice (sl_uK (K := K) rfl) (pv 1) (po_some pe_int) po_none))))
pss_nil)
(pss_cons (ps_if (pt_cmpR (op_uEqK (K := K) rfl hr) (pv 2) pe_int (nomark _))
(pss_one (ps_ret (pe_slice (sl_uK (K := K) rfl) (pv 1) po_none (po_some (pe_op op_sub (pe_callB (call_uLenK (K := K) rfl) (by rfl) b_len PySem.boot_len (pa_cons (pv 1) pa_nil)) pe_int)))))
pss_nil)
(pss_cons (ps_if (pt_cmpR (op_uEqK (K := K) rfl hr) (pv 2) pe_int (nomark _))
(pss_one (ps_ret (pe_op (op_uAddK (K := K) rfl) (pv 1) (pe_tup (pa_cons pe_int pa_nil)))))
pss_nil)
(pss_cons (ps_if (pt_cmpR (op_uEqK (K := K) rfl hr) (pv 2) pe_int (nomark _))
(pss_one (ps_ret (pe_callTy (call_listC (K := K) rfl) (by rfl) b_list bt_list (pa_cons (pv 1) pa_nil))))
pss_nil)
(pss_cons (ps_if (PW.pt (pw_and (pt_cmpR op_lt (pv 2) pe_int (nomark _)) (pw_and1 (pt_cmpR (op_uEqK (K := K) rfl hr) (pe_ix (ix_uK (K := K) rfl) (pv 1) pe_int (fun _ _ => rfl)) pe_str (nomark _)))))
(pss_one (ps_ret (pe_tup (pa_cons (pe_ix (ix_uK (K := K) rfl) (pv 1) pe_int (fun _ _ => rfl)) (pa_cons (pe_ix (ix_uK (K := K) rfl) (pv 1) pe_int (fun _ _ => rfl)) (pa_cons (pe_cal c_law_bad_deal hr (by first | decide | omega) (by rfl) (pa_cons (pv 0) pa_nil)) pa_nil))))))
pss_nil)
(pss_one (ps_ret (pe_op (op_uAddK (K := K) rfl) (pe_tup (pa_cons (pe_ix (ix_uK (K := K) rfl) (pv 1) pe_int (fun _ _ => rfl)) (pa_cons (pe_op (op_uAddK (K := K) rfl) (pe_ix (ix_uK (K := K) rfl) (pv 1) pe_int (fun _ _ => rfl)) (pe_op op_uMul pe_int (pe_op op_sub (pe_op op_mod (pe_cal c_law_draw hr (by first | decide | omega) (by rfl) (pa_cons (pv 0) pa_nil)) pe_int) pe_int))) pa_nil))) (pe_slice (sl_uK (K := K) rfl) (pv 1) (po_some pe_int) po_none)))))))))))), ?_⟩
  have z0 : ∀ {x : V} {xs : List V}, atI (x :: xs) 0 = some x := fun {x xs} => atI_0
  have z1 : ∀ {x y : V} {xs : List V}, atI (x :: y :: xs) 1 = some y := fun {x y xs} => atI_nat (j := 1) rfl
  walk_at "start"
  refine use_draw j d fun m M1 G1 H1 m0 m1 j1 e1 d1 a1 => ?_
  walk_at "go"
  have hp : 0 ≤ m % 9 ∧ m % 9 < 9 := ⟨Int.emod_nonneg _ (by decide), Int.emod_lt_of_pos _ (by decide)⟩
  generalize m % 9 = c at hp ⊢
  have ht := e1 _ _ ht
  have hk := hk.ex e1
  have hl := hk.len
  have fin : ∀ (v : V) (M' G' H' : Hp), J M' G' H' → Ex G1 G' → Dr K M' G' p → Ag p M1 M' → SrEnd K G' v → Q v H' := fun v M' G' H' j e d a o => k _ _ _ _ j (e1.trans e) ⟨o, d, a1.trans a⟩
  refine w_dec (fun c0 => ?_) (fun c0 => ?_)
  · walk_at "go"
    refine w_ixT j1 (st_of ht) z0 ?_
    walk_at "go"
    refine w_new j1 (by show 2 ≤ sizeLine; decide) fun u G2 H2 j2 e2 hu _ => ?_
    walk_at "go"
    refine w_slTG j2 (st_mono e2 (st_of ht)) fun u2 G3 H3 j3 e3 hu2 => ?_
    refine w_catT j3 (st_of (e3 _ _ hu)) hu2 (by rw [cut_2]; simp only [List.length_cons, List.length_nil]; omega) fun u3 G4 H4 j4 e4 hu3 => ?_
    rw [cut_2] at hu3
    exact fin _ _ _ _ j4 ((e2.trans e3).trans e4) (((d1.ex e2).ex e3).ex e4) (Ag.refl _ _) ⟨.junk, .inr ⟨u3, _, rfl, hu3, .inr ⟨w, .bl true, rest, rfl, hl.1, .inl ⟨true, rfl⟩⟩⟩⟩
  walk_at "go"
  refine w_dec (fun c1 => ?_) (fun c1 => ?_)
  · walk_at "go"
    refine w_ixT j1 (st_of ht) z0 ?_
    walk_at "go"
    refine w_ixT j1 (st_of ht) z1 ?_
    refine ⟨n, rfl, log_ok n0 n9, ?_⟩
    walk_at "go"
    refine w_new j1 (by show 2 ≤ sizeLine; decide) fun u G2 H2 j2 e2 hu _ => ?_
    walk_at "go"
    refine w_slTG j2 (st_mono e2 (st_of ht)) fun u2 G3 H3 j3 e3 hu2 => ?_
    refine w_catT j3 (st_of (e3 _ _ hu)) hu2 (by rw [cut_2]; simp only [List.length_cons, List.length_nil]; omega) fun u3 G4 H4 j4 e4 hu3 => ?_
    rw [cut_2] at hu3
    exact fin _ _ _ _ j4 ((e2.trans e3).trans e4) (((d1.ex e2).ex e3).ex e4) (Ag.refl _ _) ⟨.junk, .inr ⟨u3, _, rfl, hu3, .inr ⟨w, _, rest, rfl, hl.1, .inr (.inl ⟨_, rfl⟩)⟩⟩⟩
  walk_at "go"
  refine w_dec (fun c2 => ?_) (fun c2 => ?_)
  · walk_at "go"
    refine w_new j1 (by show 5 ≤ sizeLine; decide) fun q G2 H2 j2 e2 hq _ => ?_
    walk_at "go"
    refine use_draw j2 (d1.ex e2) fun z M3 G3 H3 _ _ j3 e3 d3 a3 => ?_
    walk_at "go"
    refine w_ixAny j3 (sl_of (e3 _ _ hq)) (Int.emod_nonneg _ (by decide)) (by have := Int.emod_lt_of_pos z (b := 5) (by decide); exact this) fun w' hw' => ?_
    obtain ⟨w5, rfl⟩ : ∃ w5, w' = .str w5 := by
      simp only [List.mem_cons, List.not_mem_nil, or_false] at hw'
      rcases hw' with rfl | rfl | rfl | rfl | rfl <;> exact ⟨_, rfl⟩
    walk_at "go"
    refine w_new j3 (by show 1 ≤ sizeLine; decide) fun u G4 H4 j4 e4 hu _ => ?_
    walk_at "go"
    have E4 := (e2.trans e3).trans e4
    refine w_slTG j4 (st_mono E4 (st_of ht)) fun u2 G5 H5 j5 e5 hu2 => ?_
    rw [cut_1] at hu2
    refine w_catTN j5 (st_of (e5 _ _ hu)) hu2 (by simp only [List.length_cons, List.length_nil]; omega) fun u3 G6 H6 j6 e6 hu3 => ?_
    have E6 := (E4.trans e5).trans e6
    exact fin _ _ _ _ j6 E6 (((d3.ex e4).ex e5).ex e6) a3 ((hk.ex E6).word hu3)
  walk_at "go"
  refine w_dec (fun c3 => ?_) (fun c3 => ?_)
  · walk_at "go"
    refine w_lenT j1 (st_of ht) ?_
    walk_at "go"
    refine w_slTG j1 (st_of ht) fun u G2 H2 j2 e2 hu => ?_
    refine fin _ _ _ _ j2 e2 (d1.ex e2) (Ag.refl _ _) ⟨.junk, .inr ⟨u, _, rfl, hu, ?_⟩⟩
    rcases hk with ⟨rfl, x, y, rfl, _⟩ | ⟨rfl, v1, v2, o, r, rfl, _, _⟩
    · exact .inl (by rw [cut_i3]; show 2 < 3; decide)
    · exact .inr ⟨_, _, [v1], cut_i4, Nat.le_refl _, .inr (.inr ⟨n, rfl, fun z => absurd z.1 (by decide +kernel), fun z => nomatch z.2⟩)⟩
  walk_at "go"
  refine w_dec (fun c4 => ?_) (fun c4 => ?_)
  · walk_at "go"
    refine w_new j1 (by show 1 ≤ sizeLine; decide) fun u G2 H2 j2 e2 hu _ => ?_
    refine w_catT j2 (st_mono e2 (st_of ht)) (st_of hu) (by simp only [List.length_cons, List.length_nil]; omega) fun u3 G4 H4 j4 e4 hu3 => ?_
    refine fin _ _ _ _ j4 (e2.trans e4) ((d1.ex e2).ex e4) (Ag.refl _ _) ⟨.junk, .inr ⟨u3, _, rfl, hu3, .inr ⟨w, _, rest ++ [.int 1], rfl, by rw [List.length_append]; exact Nat.le_add_right_of_le hl.1, .inr (.inr ⟨n, rfl, fun z => ?_, fun z => ?_⟩)⟩⟩⟩
    · have := z.2
      rw [List.length_append] at this
      simp only [List.length_cons, List.length_nil] at this
      omega
    · rcases hk with ⟨rfl, x, y, rfl, _⟩ | ⟨rfl, v1, v2, o, r, rfl, _, _⟩
      · exact absurd z.1 (by decide +kernel)
      · exact nomatch z.2
  walk_at "go"
  refine w_dec (fun c5 => ?_) (fun c5 => ?_)
  · walk_at "go"
    refine w_listC (.inr (st_mono j1.g (st_of ht))) (w_new j1 (Nat.zero_le _) fun u G3 H3 j3 e3 hu _ => ?_)
    exact fin _ _ _ _ j3 e3 (d1.ex e3) (Ag.refl _ _) ⟨.junk, .inl ⟨u, _, rfl, sl_of hu⟩⟩
  with_reducible refine w_next ?_
  with_reducible refine w_seq ?_
  with_reducible refine w_if ?_
  refine w_testO (fun b H' => H' = H1 ∧ (b = true → w = "asked")) ?_ fun N hN => ?_
  rotate_left
  · walk_at "go"
    refine w_dec (fun c6 => ?_) (fun c6 => ?_)
    · walk_at "go"
      refine w_ixT j1 (st_of ht) z0 ?_
      walk_at "go"
      refine w_eqS (k := decide (w = "asked")) rfl ?_
      walk_at "go"
      exact hN _ _ ⟨rfl, fun z => of_decide_eq_true z⟩
    · exact hN _ _ ⟨rfl, fun z => nomatch z⟩
  rintro b H' ⟨rfl, hb⟩
  cases b with
  | true =>
    have hb := hb rfl
    refine w_T ?_
    walk_at "go"
    refine w_ixT j1 (st_of ht) z0 ?_
    walk_at "go"
    refine w_ixT j1 (st_of ht) z1 ?_
    walk_at "go"
    refine w_sg p j1 ⟨rfl, d1⟩ fun v M2 G2 H2 j2 e2 ⟨⟨x, hx, _⟩, d2, a2⟩ => ?_
    walk_at "go"
    refine w_new j2 (by show 3 ≤ sizeLine; decide) fun u G3 H3 j3 e3 hu _ => ?_
    subst hb
    exact fin _ _ _ _ j3 (e2.trans e3) (d2.ex e3) a2 ⟨.ask n x, u, _, rfl, hu, hx.ex e3⟩
  | false =>
    refine w_F ?_
    walk_at "go"
    refine w_ixT j1 (st_of ht) z0 ?_
    walk_at "go"
    refine w_ixT j1 (st_of ht) z1 ?_
    walk_at "go"
    refine use_draw j1 d1 fun z M3 G3 H3 _ _ j3 e3 d3 a3 => ?_
    walk_at "go"
    refine w_new j3 (by show 2 ≤ sizeLine; decide) fun u G4 H4 j4 e4 hu _ => ?_
    walk_at "go"
    refine w_slTG j4 (st_mono (e3.trans e4) (st_of ht)) fun u2 G5 H5 j5 e5 hu2 => ?_
    rw [cut_2] at hu2
    obtain ⟨y, ys, rfl⟩ : ∃ y ys, rest = y :: ys := by
      cases rest with
      | nil => exact absurd hl.1 (by decide)
      | cons y ys => exact ⟨y, ys, rfl⟩
    refine w_catTN j5 (st_of (e5 _ _ hu)) hu2 (by simp only [List.length_cons, List.length_nil] at hl ⊢; omega) fun u3 G6 H6 j6 e6 hu3 => ?_
    have E6 := ((e3.trans e4).trans e5).trans e6
    exact fin _ _ _ _ j6 E6 (((d3.ex e4).ex e5).ex e6) a3 ((hk.ex E6).row hu3)
/-! ### Record.__init__ -/
abbrev s_Record___init__ : Stmt := inClass (top 27) 0
abbrev n_Record___init__ : List Str := ["self"]
theorem sc_Record___init__ : FnScope n_Record___init__ ["self"] (defScope s_Record___init__) := ⟨rfl, rfl, rfl, by decide +kernel, rfl, by decide +kernel, by decide +kernel⟩
def sp_Record___init__ (K : PySem.W.Frag) (C : Addr) : Sp := Sg (α := Addr × Addr) (fun x vs M _ => vs = [.ref x.1] ∧ M x.1 = some (.ins C x.2 [])) (fun x M G v M' G' => v = .non ∧ ∃ dd, M dd = none ∧ M' = upd (upd M dd (.dK [])) x.1 (.ins C x.2 (fl_Record (.ref dd))) ∧ G' = G)
theorem ok_Record___init__ {P : Program} {w : World} {K : PySem.W.Frag} {mg : Str → Option Value} {base : Heap}
    {C_Record : Addr} (T_Record : Tx_Record K mg C_Record)
    {f : Addr} {fd : FuncData} (D : Di K C_Record "Record.__init__" s_Record___init__ ["self"] f fd) : CalI P w K mg base CX0 1 C_Record (sp_Record___init__ K C_Record) := by
  refine D.ok sc_Record___init__ (fun vs H Q E h => ?_) fun cdv A outer s H vs Q E hr h => ?_
  · obtain ⟨x, M, G, j, ⟨rfl, _⟩, _⟩ := h; rfl
  obtain ⟨⟨x, dx⟩, M, G, j, ⟨rfl, hx⟩, k⟩ := h
  dsimp only at hx k
  refine ⟨_, (pss_one (ps_fld (pv 0) pe_dnewK rfl)), ?_⟩
  walk_at "start"
  refine w_newM j (Nat.zero_le _) fun dd H1 j1 nd _ => ?_
  walk_at "go"
  refine w_setX j1 (upd_ne' hx (ne_of_none hx nd)) T_Record.cl T_Record.n_deals (by show 0 < 1000; decide) fun H2 j2 => ?_
  walk_at "go"
  exact k _ _ _ _ j2 (Same.refl G) ⟨rfl, dd, nd, rfl, rfl⟩
/-! ### is_plain_integer -/
abbrev s_is_plain_integer : Stmt := top 7
abbrev n_is_plain_integer : List Str := ["thing"]
theorem sc_is_plain_integer : FnScope n_is_plain_integer ["thing"] (defScope s_is_plain_integer) := ⟨rfl, rfl, rfl, by decide +kernel, rfl, by decide +kernel, by decide +kernel⟩
def AnyV (K : PySem.W.Frag) (G : Hp) (x : V) : Prop := flatV x = true ∨ ∃ d, Dp K G x d
def sp_is_plain_integer (K : PySem.W.Frag) : Sp := Sg (α := V) (fun x vs _ G => vs = [x] ∧ AnyV K G x) (fun x M _ v M' _ => v = .bl (isI x) ∧ M' = M)
theorem ok_is_plain_integer {P : Program} {w : World} {K : PySem.W.Frag} {mg : Str → Option Value} {base : Heap}
    {f : Addr} {fd : FuncData} (D : Dn K mg "is_plain_integer" s_is_plain_integer ["thing"] f fd)
    (b_isinstance : mg "isinstance" = none)
    (b_bool : mg "bool" = none)
    (b_int : mg "int" = none) : Cal P w K mg base CX0 1 "is_plain_integer" (sp_is_plain_integer K) := by
  refine D.ok sc_is_plain_integer (fun vs H Q E h => ?_) fun cdv A outer s H vs Q E hr h => ?_
  · obtain ⟨x, M, G, j, ⟨rfl, _⟩, _⟩ := h; rfl
  obtain ⟨x, M, G, j, ⟨rfl, hx⟩, k⟩ := h
  refine ⟨_, (pss_one (ps_ret (pe_and (pe_callB (call_isiK' (K := K) rfl) (by rfl) b_isinstance bt_isinstance (pa_cons (pv 0) (pa_cons (pe_bltn (v := .ty "int") (by rfl) b_int bt_int rfl) pa_nil))) (pe_one (pe_not (pe_callB (call_isiK' (K := K) rfl) (by rfl) b_isinstance bt_isinstance (pa_cons (pv 0) (pa_cons (pe_bltn (v := .ty "bool") (by rfl) b_bool bt_bool rfl) pa_nil)))))))), ?_⟩
  walk_at "start"
  have fin : ∀ b, b = isI x → Q (.bl b) H := fun b e => k _ _ _ _ j (Same.refl G) ⟨by rw [e], rfl⟩
  rcases hx with hx | ⟨d, hx⟩
  · cases x with
    | non => walk_at "go"; exact fin _ rfl
    | bl b => walk_at "go"; exact fin _ rfl
    | int b => walk_at "go"; exact fin _ rfl
    | str b => walk_at "go"; exact fin _ rfl
    | byt b => cases hx
    | flt b => cases hx
    | ref b => cases hx
    | ty b => cases hx
  · cases hx with
    | non => walk_at "go"; exact fin _ rfl
    | bl b => walk_at "go"; exact fin _ rfl
    | int b => walk_at "go"; exact fin _ rfl
    | str b => walk_at "go"; exact fin _ rfl
    | lst ha _ => refine w_isi false (ty_L (sl_mono j.g ha)) (by rfl) ?_; walk_at "go"; exact fin _ rfl
    | tup ha _ => refine w_isi false (ty_T (st_mono j.g ha)) (by rfl) ?_; walk_at "go"; exact fin _ rfl
/-! ### is_value -/
abbrev s_is_value : Stmt := top 14
abbrev n_is_value : List Str := ["thing"]
theorem sc_is_value : FnScope n_is_value ["thing"] (defScope s_is_value) := ⟨rfl, rfl, rfl, by decide +kernel, rfl, by decide +kernel, by decide +kernel⟩
def isV : V → Bool
  | .int n => decide (IsVal n)
  | _ => false
def sp_is_value (K : PySem.W.Frag) : Sp := Sg (α := V) (fun x vs _ _ => vs = [x] ∧ flatV x = true) (fun x M _ v M' _ => v = .bl (isV x) ∧ M' = M)
theorem ok_is_value {P : Program} {w : World} {K : PySem.W.Frag} {mg : Str → Option Value} {base : Heap}
    {f : Addr} {fd : FuncData} (D : Dn K mg "is_value" s_is_value ["thing"] f fd)
    (g_LIMIT : ∃ u, mg "LIMIT" = some u ∧ RelV (.int 1000000000000000000) u)
    (c_is_plain_integer : Cal P w K mg base CX0 1 "is_plain_integer" (sp_is_plain_integer K)) : Cal P w K mg base CX0 2 "is_value" (sp_is_value K) := by
  refine D.ok sc_is_value (fun vs H Q E h => ?_) fun cdv A outer s H vs Q E hr h => ?_
  · obtain ⟨x, M, G, j, ⟨rfl, _⟩, _⟩ := h; rfl
  obtain ⟨x, M, G, j, ⟨rfl, hx⟩, k⟩ := h
  refine ⟨_, (pss_one (ps_ret (pe_and (pe_cal c_is_plain_integer hr (by first | decide | omega) (by rfl) (pa_cons (pv 0) pa_nil)) (pe_one (pe_chain op_le op_le (pe_un un_neg (pe_gk (by rfl) g_LIMIT)) (pv 0) (pe_gk (by rfl) g_LIMIT)))))), ?_⟩
  walk_at "start"
  refine w_sg x j ⟨rfl, .inl hx⟩ fun v M' G' H' j1 e1 ⟨ev, em⟩ => ?_
  subst ev em
  have fin : ∀ b, b = isV x → Q (.bl b) H' := fun b e => k _ _ _ _ j1 e1 ⟨by rw [e], rfl⟩
  cases x with
  | non => walk_at "go"; exact fin _ rfl
  | bl b => walk_at "go"; exact fin _ rfl
  | str b => walk_at "go"; exact fin _ rfl
  | byt b => cases hx
  | flt b => cases hx
  | ref b => cases hx
  | ty b => cases hx
  | int b =>
    dsimp only [isI]
    walk_at "go"
    refine w_dec (fun h => ?_) (fun h => ?_)
    · walk_at "go"
      refine fin _ ?_
      by_cases h2 : b ≤ 1000000000000000000
      · rw [decide_eq_true h2]; exact (decide_eq_true (show IsVal b from ⟨h, h2⟩)).symm
      · rw [decide_eq_false h2]; exact (decide_eq_false (show ¬ IsVal b from fun z => h2 z.2)).symm
    · walk_at "go"
      exact fin _ (decide_eq_false (show ¬ IsVal b from fun z => h z.1)).symm
/-! ### new_value -/
abbrev s_new_value : Stmt := top 18
abbrev n_new_value : List Str := ["table", "op", "word", "key", "value"]
theorem sc_new_value : FnScope n_new_value ["table", "op"] (defScope s_new_value) := ⟨rfl, rfl, rfl, by decide +kernel, rfl, by decide +kernel, by decide +kernel⟩
def newM (m : Fn) : Op → Option Int
  | .put _ v => v
  | .add k a => some ((m k).getD 0 + a)
  | _ => none
def isSet : Op → Bool
  | .put _ _ => true
  | .add _ _ => true
  | _ => false
structure TbOp (M G : Hp) (d a : Addr) (kv : List (Int × Int)) (op : Op) : Prop where
  tb : Hd M G d (tk kv)
  op : OpAt G a op
def sp_new_value (K : PySem.W.Frag) : Sp := Sg (α := Addr × Addr × List (Int × Int) × Op) (fun x vs M G => vs = [.ref x.1, .ref x.2.1] ∧ TbOp M G x.1 x.2.1 x.2.2.1 x.2.2.2 ∧ isSet x.2.2.2 = true) (fun x M _ v M' _ => v = ov (newM (look x.2.2.1) x.2.2.2) ∧ M' = M)
theorem ok_new_value {P : Program} {w : World} {K : PySem.W.Frag} {mg : Str → Option Value} {base : Heap}
    {f : Addr} {fd : FuncData} (D : Dn K mg "new_value" s_new_value ["table", "op"] f fd) : Cal P w K mg base CX0 1 "new_value" (sp_new_value K) := by
  refine D.ok sc_new_value (fun vs H Q E h => ?_) fun cdv A outer s H vs Q E hr h => ?_
  · obtain ⟨x, M, G, j, ⟨rfl, _⟩, _⟩ := h; rfl
  obtain ⟨⟨d, a, kv, op⟩, M, G, j, ⟨rfl, ⟨tb, ho, _⟩, hs⟩, k⟩ := h
  dsimp only at tb ho hs k
  refine ⟨_, (pss_cons (ps_asg (pv 1) (pg_tup rfl (pgs_cons (pg_name (i := 2) sc_new_value.nd rfl (Or.inl rfl)) (pgs_cons (pg_name (i := 3) sc_new_value.nd rfl (Or.inl rfl)) (pgs_cons (pg_name (i := 4) sc_new_value.nd rfl (Or.inl rfl)) pgs_nil)))))
(pss_cons (ps_if (pt_cmpR (op_uEqK (K := K) rfl hr) (pv 2) pe_str (nomark _))
(pss_one (ps_ret (pe_op (op_uAddK (K := K) rfl) (pe_dget2 (hu_of hr) (pv 0) (pv 3) pe_int ⟨by rfl, by rfl, by rfl, by rfl⟩) (pv 4))))
pss_nil)
(pss_one (ps_ret (pv 4))))), ?_⟩
  walk_at "start"
  cases op with
  | get k => cases hs
  | need k v => cases hs
  | scan k v => cases hs
  | put ky v =>
    refine w_gTup j (st_of ho) (by rfl) ?_
    refine w_gCons ?_
    walk_at "go"
    refine w_gCons ?_
    walk_at "go"
    refine w_gCons ?_
    walk_at "go"
    refine w_gNil ?_
    walk_at "go"
    exact k _ _ _ _ j (Same.refl G) ⟨rfl, rfl⟩
  | add ky v =>
    refine w_gTup j (st_of ho) (by rfl) ?_
    refine w_gCons ?_
    walk_at "go"
    refine w_gCons ?_
    walk_at "go"
    refine w_gCons ?_
    walk_at "go"
    refine w_gNil ?_
    walk_at "go"
    refine w_getB j tb ?_
    walk_at "go"
    refine w_getE j tb ?_
    rw [tk_look, Option.getD_map]
    walk_at "go"
    exact k _ _ _ _ j (Same.refl G) ⟨rfl, rfl⟩
/-! ### is_failing -/
abbrev s_is_failing : Stmt := top 19
abbrev n_is_failing : List Str := ["table", "op"]
theorem sc_is_failing : FnScope n_is_failing ["table", "op"] (defScope s_is_failing) := ⟨rfl, rfl, rfl, by decide +kernel, rfl, by decide +kernel, by decide +kernel⟩
def sp_is_failing (K : PySem.W.Frag) : Sp := Sg (α := Addr × Addr × List (Int × Int) × Op) (fun x vs M G => vs = [.ref x.1, .ref x.2.1] ∧ TbOp M G x.1 x.2.1 x.2.2.1 x.2.2.2) (fun x M _ v M' _ => v = .bl (failM (look x.2.2.1) x.2.2.2) ∧ M' = M)
theorem ok_is_failing {P : Program} {w : World} {K : PySem.W.Frag} {mg : Str → Option Value} {base : Heap}
    {f : Addr} {fd : FuncData} (D : Dn K mg "is_failing" s_is_failing ["table", "op"] f fd)
    (c_is_value : Cal P w K mg base CX0 2 "is_value" (sp_is_value K))
    (c_new_value : Cal P w K mg base CX0 1 "new_value" (sp_new_value K)) : Cal P w K mg base CX0 3 "is_failing" (sp_is_failing K) := by
  refine D.ok sc_is_failing (fun vs H Q E h => ?_) fun cdv A outer s H vs Q E hr h => ?_
  · obtain ⟨x, M, G, j, ⟨rfl, _⟩, _⟩ := h; rfl
  obtain ⟨⟨d, a, kv, op⟩, M, G, j, ⟨rfl, ⟨tb, ho, hk⟩⟩, k⟩ := h
  dsimp only at tb ho hk k
  refine ⟨_, (pss_cons (ps_if (pt_cmpR (op_uEqK (K := K) rfl hr) (pe_ix (ix_uK (K := K) rfl) (pv 1) pe_int (fun _ _ => rfl)) pe_str (nomark _))
(pss_one (ps_ret (pe_cmpR (op_uNeK (K := K) rfl hr) (pe_dget1 (hu_of hr) (pv 0) (pe_ix (ix_uK (K := K) rfl) (pv 1) pe_int (fun _ _ => rfl)) ⟨by rfl, by rfl, by rfl, by rfl⟩) (pe_ix (ix_uK (K := K) rfl) (pv 1) pe_int (fun _ _ => rfl)) (nomark _))))
pss_nil)
(pss_one (ps_ret (pe_and (pe_cmpR (op_uEqK (K := K) rfl hr) (pe_ix (ix_uK (K := K) rfl) (pv 1) pe_int (fun _ _ => rfl)) pe_str (nomark _)) (pe_one (pe_not (pe_cal c_is_value hr (by first | decide | omega) (by rfl) (pa_cons (pe_cal c_new_value hr (by first | decide | omega) (by rfl) (pa_cons (pv 0) (pa_cons (pv 1) pa_nil))) pa_nil)))))))), ?_⟩
  walk_at "start"
  have fin : ∀ b, b = failM (look kv) op → ∀ G' H', J M G' H' → Ex G G' → Q (.bl b) H' := fun b e G' H' j e' => k _ _ _ _ j e' ⟨by rw [e], rfl⟩
  cases op with
  | get ky => walk_at "gx"; exact fin _ rfl G H j (Same.refl G)
  | scan lo hi => walk_at "gx"; exact fin _ rfl G H j (Same.refl G)
  | put ky v => walk_at "gx"; exact fin _ rfl G H j (Same.refl G)
  | need ky v =>
    walk_at "gx"
    refine w_getA j tb ?_
    walk_at "gx"
    refine w_getE j tb ?_
    walk_at "gx"
    rw [tk_look, ov_get]
    refine w_neV (scal_ov _ _) rfl ?_
    rw [dec_ov]
    exact fin _ rfl G H j (Same.refl G)
  | add ky v =>
    walk_at "gx"
    refine w_sg (d, a, kv, .add ky v) j ⟨rfl, ⟨tb, ho, hk⟩, rfl⟩ fun v1 M1 G1 H1 j1 e1 ⟨ev, em⟩ => ?_
    subst ev em
    walk_at "gx"
    refine w_sg _ j1 ⟨rfl, rfl⟩ fun v2 M2 G2 H2 j2 e2 ⟨ev, em⟩ => ?_
    subst ev em
    walk_at "gx"
    exact fin _ rfl _ _ j2 (e1.trans e2)
/-! ### result_of -/
abbrev s_result_of : Stmt := top 20
abbrev n_result_of : List Str := ["table", "op", "key"]
theorem sc_result_of : FnScope n_result_of ["table", "op"] (defScope s_result_of) := ⟨rfl, rfl, rfl, by decide +kernel, rfl, by decide +kernel, by decide +kernel⟩
def sp_result_of (K : PySem.W.Frag) : Sp := Sg (α := Addr × Addr × List (Int × Int) × Op) (fun x vs M G => vs = [.ref x.1, .ref x.2.1] ∧ TbOp M G x.1 x.2.1 x.2.2.1 x.2.2.2 ∧ TabOk x.2.2.1 63)
  (fun x M _ v M' G' => ResAt G' v (resM (look x.2.2.1) x.2.2.2) ∧ M' = M)
theorem ok_result_of {P : Program} {w : World} {K : PySem.W.Frag} {mg : Str → Option Value} {base : Heap}
    {f : Addr} {fd : FuncData} (D : Dn K mg "result_of" s_result_of ["table", "op"] f fd)
    (b_sorted : mg "sorted" = none)
    (c_new_value : Cal P w K mg base CX0 1 "new_value" (sp_new_value K)) : Cal P w K mg base CX0 2 "result_of" (sp_result_of K) := by
  refine D.ok sc_result_of (fun vs H Q E h => ?_) fun cdv A outer s H vs Q E hr h => ?_
  · obtain ⟨x, M, G, j, ⟨rfl, _⟩, _⟩ := h; rfl
  obtain ⟨⟨d, a, kv, op⟩, M, G, j, ⟨rfl, ⟨tb, ho, hk⟩, ok⟩, k⟩ := h
  dsimp only at tb ho hk k ok
  refine ⟨_, (pss_cons (ps_if (pt_cmpR (op_uEqK (K := K) rfl hr) (pe_ix (ix_uK (K := K) rfl) (pv 1) pe_int (fun _ _ => rfl)) pe_str (nomark _))
(pss_one (ps_ret (pe_dget1 (hu_of hr) (pv 0) (pe_ix (ix_uK (K := K) rfl) (pv 1) pe_int (fun _ _ => rfl)) ⟨by rfl, by rfl, by rfl, by rfl⟩)))
pss_nil)
(pss_cons (ps_if (pt_cmpR (op_uEqK (K := K) rfl hr) (pe_ix (ix_uK (K := K) rfl) (pv 1) pe_int (fun _ _ => rfl)) pe_str (nomark _))
(pss_one (ps_ret (pe_cal c_new_value hr (by first | decide | omega) (by rfl) (pa_cons (pv 0) (pa_cons (pv 1) pa_nil)))))
pss_nil)
(pss_cons (ps_if (pt_cmpR (op_uEqK (K := K) rfl hr) (pe_ix (ix_uK (K := K) rfl) (pv 1) pe_int (fun _ _ => rfl)) pe_str (nomark _))
(pss_one (ps_ret (pe_lc (own := [("key", 2)]) (by rfl) sc_result_of.nd (pi_list (pe_callB (call_sortDC rfl) (by rfl) b_sorted bt_sorted (pa_cons (pv 0) pa_nil))) (blkOk_by (own := [("key", 2)]) (N := n_result_of) (sc := defScope s_result_of) (by decide +kernel)) (fun _ _ _ _ _ => (pg_name (i := 2) sc_result_of.nd rfl (Or.inl rfl))) (fun _ _ _ _ _ => pts_one (pt_chain op_le op_lt (pe_ix (ix_uK (K := K) rfl) (pv 1) pe_int (fun _ _ => rfl)) (pv 2) (pe_ix (ix_uK (K := K) rfl) (pv 1) pe_int (fun _ _ => rfl)))) (fun _ _ _ _ _ => (pe_tup (pa_cons (pv 2) (pa_cons (pe_dget (hu_of hr) (pv 0) (pv 2) (fun _ _ => rfl)) pa_nil)))))))
pss_nil)
(pss_one (ps_ret pe_non))))), ?_⟩
  walk_at "start"
  cases op with
  | get ky =>
    walk_at "gx"
    refine w_getA j tb ?_
    walk_at "gx"
    refine w_getE j tb ?_
    rw [tk_look, ov_get]
    exact k _ _ _ _ j (Same.refl G) ⟨ResAt.o _, rfl⟩
  | put ky v => walk_at "gx"; exact k _ _ _ _ j (Same.refl G) ⟨rfl, rfl⟩
  | need ky v => walk_at "gx"; exact k _ _ _ _ j (Same.refl G) ⟨rfl, rfl⟩
  | add ky v =>
    walk_at "gx"
    refine w_sg (d, a, kv, .add ky v) j ⟨rfl, ⟨tb, ho, hk⟩, rfl⟩ fun v1 M1 G1 H1 j1 e1 ⟨ev, em⟩ => ?_
    subst ev em
    exact k _ _ _ _ j1 e1 ⟨rfl, rfl⟩
  | scan lo hi =>
    walk_at "gx"
    refine scan_lc j tb ho ok (fun _ => rfl) (fun _ => rfl) (fun _ => rfl) (fun _ => rfl) fun t as G1 H1 j1 e1 ht hr => ?_
    exact k _ _ _ _ j1 e1 ⟨⟨t, as, rfl, ht, hr⟩, rfl⟩
/-! ### execute -/
abbrev s_execute : Stmt := top 21
abbrev n_execute : List Str := ["table", "ops", "after", "results", "op", "value"]
theorem sc_execute : FnScope n_execute ["table", "ops"] (defScope s_execute) := ⟨rfl, rfl, rfl, by decide +kernel, rfl, by decide +kernel, by decide +kernel⟩
def sp_execute (K : PySem.W.Frag) : Sp := Sg (α := Addr × Addr × List (Int × Int) × List Addr × List Op × Nat) (fun x vs M G => vs = [.ref x.1, .ref x.2.1] ∧ ExPre M G x.1 x.2.1 x.2.2.1 x.2.2.2.1 x.2.2.2.2.1 x.2.2.2.2.2)
  (fun x M G v M' G' => ∃ t R D, v = .ref t ∧ G' t = some (.tup [.str (outM (look x.2.2.1) x.2.2.2.2.1), .ref R, .ref D]) ∧ ExEnd M G M' G' R D x.2.2.1 x.2.2.2.2.1 x.2.2.2.2.2)
theorem use_execute {K : PySem.W.Frag} {M G H : Hp} {d a : Addr} {kv : List (Int × Int)} {as : List Addr} {ops : List Op} {n : Nat} {Q : VK} {E : XK} (j : J M G H) (p : ExPre M G d a kv as ops n)
    (k : ∀ (t R D : Addr) (M' G' H' : Hp), J M' G' H' → Ex G G' → G' t = some (.tup [.str (outM (look kv) ops), .ref R, .ref D]) → ExEnd M G M' G' R D kv ops n → Q (.ref t) H') : sp_execute K ([.ref d, .ref a] ++ []) H Q E :=
  w_sg (d, a, kv, as, ops, n) j ⟨rfl, p⟩ fun v M' G' H' j' e ⟨t, R, D, ev, ht, x⟩ => by subst ev; exact k t R D M' G' H' j' e ht x
theorem set_in (w : Str) : inV (.str w) [V.str "put", V.str "add"] = (decide (("put" : Str) = w) || decide (("add" : Str) = w)) := by
  show ((("put" : Str) == w) || ((("add" : Str) == w) || false)) = _
  rw [Bool.or_false, Bool.beq_eq_decide_eq, Bool.beq_eq_decide_eq]
theorem ok_execute {P : Program} {w : World} {K : PySem.W.Frag} {mg : Str → Option Value} {base : Heap}
    {f : Addr} {fd : FuncData} (D : Dn K mg "execute" s_execute ["table", "ops"] f fd)
    (b_dict : mg "dict" = none)
    {a_SETTING : Addr} (g_SETTING : ∃ u, mg "SETTING" = some u ∧ RelV (.ref a_SETTING) u) (k_SETTING : ∀ H, SqT K H a_SETTING [V.str "put", V.str "add"])
    (c_new_value : Cal P w K mg base CX0 1 "new_value" (sp_new_value K))
    (c_result_of : Cal P w K mg base CX0 2 "result_of" (sp_result_of K))
    (c_is_failing : Cal P w K mg base CX0 3 "is_failing" (sp_is_failing K)) : Cal P w K mg base CX0 4 "execute" (sp_execute K) := by
  refine D.ok sc_execute (fun vs H Q E h => ?_) fun cdv A outer s H vs Q E hr h => ?_
  · obtain ⟨x, M, G, j, ⟨rfl, _⟩, _⟩ := h; rfl
  obtain ⟨⟨d, a, kv, as, ops, n⟩, M, G, j, ⟨rfl, p⟩, k⟩ := h
  dsimp only at p k
  obtain ⟨tb, ok, hn, ha, hops, h1, h6⟩ := p
  refine ⟨_, (pss_cons (ps_set (i := 2) sc_execute.nd rfl (Or.inl rfl) (pe_callTy call_dictC (by rfl) b_dict bt_dict (pa_cons (pv 0) pa_nil)))
(pss_cons (ps_set (i := 3) sc_execute.nd rfl (Or.inl rfl) (pe_lst pa_nil))
(pss_cons (ps_for PassesOwn.never rfl (pi_list (pv 1)) (pg_name (i := 4) sc_execute.nd rfl (Or.inl rfl))
(pss_cons (ps_if (pt_val (pe_cal c_is_failing hr (by first | decide | omega) (by rfl) (pa_cons (pv 2) (pa_cons (pv 4) pa_nil))))
(pss_one (ps_ret (pe_tup (pa_cons pe_str (pa_cons (pv 3) (pa_cons (pe_callTy call_dictC (by rfl) b_dict bt_dict (pa_cons (pv 0) pa_nil)) pa_nil))))))
pss_nil)
(pss_cons (ps_expr (pe_bm PySem.F.plainAttrs_list PySem.F.slot_list_append PySem.F.type_list_append mt_append (pv 3) (pa_cons (pe_cal c_result_of hr (by first | decide | omega) (by rfl) (pa_cons (pv 2) (pa_cons (pv 4) pa_nil))) pa_nil)))
(pss_one (ps_if (pt_cmpR (op_inK (K := K) rfl) (pe_ix (ix_uK (K := K) rfl) (pv 4) pe_int (fun _ _ => rfl)) (pe_gk (by rfl) g_SETTING) (by with_unfolding_all rfl))
(pss_cons (ps_set (i := 5) sc_execute.nd rfl (Or.inl rfl) (pe_cal c_new_value hr (by first | decide | omega) (by rfl) (pa_cons (pv 2) (pa_cons (pv 4) pa_nil))))
(pss_one (ps_if (pt_cmp (pc_isN (pv 5)))
(pss_one (ps_expr (pe_dpop2 (pv 2) (pe_ix (ix_uK (K := K) rfl) (pv 4) pe_int (fun _ _ => rfl)) pe_non ⟨by rfl, by rfl, by rfl, by rfl⟩)))
(pss_one (ps_dput (hu_of hr) (pv 2) (pe_ix (ix_uK (K := K) rfl) (pv 4) pe_int (fun _ _ => rfl)) (pv 5) rfl)))))
pss_nil)))))
(pss_one (ps_ret (pe_tup (pa_cons pe_str (pa_cons (pv 3) (pa_cons (pv 2) pa_nil))))))))), ?_⟩
  walk_at "start"
  refine w_dictC j tb (w_newM j (Nat.zero_le _) fun L H1 j1 nM nG => ?_)
  walk_at "go"
  refine w_newM j1 (Nat.zero_le _) fun R H2 j2 nM2 nG2 => ?_
  walk_at "go"
  have nRL : R ≠ L := fun z => by subst z; rw [upd_same] at nM2; cases nM2
  have nMR : M R = none := by rw [upd_ne nRL] at nM2; exact nM2
  refine w_forLV rfl (ExI M G d a L R kv ops n) (xs := as.map V.ref) (sl_of (j2.g _ _ ha)) ?_ ?_ ?_ ?_
  · refine ⟨[], kv, _, G, none, none, j2, ?_, upd_same, ?_, Same.refl G, .nil, ok, fun _ => rfl, Nat.zero_le _, rfl⟩
    · rw [upd_ne nRL.symm]; exact upd_same
    · intro b q1 q2; rw [upd_ne q1, upd_ne q2]
  · rintro i σ H _ ⟨ws, kv1, M1, G1, x, y, j, hD, hR, hM, e, _⟩
    exact sl_of (j.g _ _ (e _ _ ha))
  · rintro i x σ H hi ⟨ws, kv1, M1, G1, x0, y0, j, hD, hR, hM, e, hres, ok1, rep, hc, rfl⟩
    obtain ⟨u, op, rfl, hu, ho, hat⟩ := (hops.ex e).get hi
    have hil : i < 6 := by have := (List.getElem?_eq_some_iff.mp ho).1; omega
    have em : look kv1 = mAt (look kv) (ops.take i) := funext rep
    have hcut := cut_at hc ho
    rw [← em] at hcut
    have hlen := resL_len (look kv) (ops.take i)
    have hresn : resL (look kv) (ops.take (i + 1)) = resL (look kv) (ops.take i) ++ [resM (look kv1) op] := by rw [take_snoc ho, resL_snoc, em]
    have hmn : mAt (look kv) (ops.take (i + 1)) = postM (look kv1) op := by rw [take_snoc ho, mAt_snoc, em]
    walk_at "go"
    refine w_sg (L, u, kv1, op) j ⟨rfl, .inl hD, hat⟩ fun v M2 G2 H2 j2 e2 ⟨ev, em2⟩ => ?_
    subst ev em2
    walk_at "go"
    refine w_two (fun hf => ?_) (fun hf => ?_)
    · walk_at "go"
      have hcut := hcut.1 hf
      have tb1 : Hd M2 G2 d (tk kv) := by
        rcases tb with tb | tb
        · refine .inl ?_
          rw [hM d (ne_of_none tb nMR) (ne_of_none tb nM)]; exact tb
        · exact .inr (rd_same (e.trans e2) tb)
      refine w_dictC j2 tb1 (w_newM j2 (Nat.zero_le _) fun D2 H3 j3 nM3 nG3 => ?_)
      walk_at "go"
      have n1 : D2 ≠ L := fun z => by subst z; rw [hD] at nM3; cases nM3
      have n2 : D2 ≠ R := fun z => by subst z; rw [hR] at nM3; cases nM3
      have j4 := j3.drop L
      refine w_new j4 (by show 3 ≤ sizeLine; decide) fun t G5 H5 j5 e5 ht nt => ?_
      have ho : outM (look kv) ops = "failed" := by unfold outM; rw [if_neg (by rw [hcut]; have := (List.getElem?_eq_some_iff.mp ho).1; omega)]
      refine k _ _ _ _ j5 ((e.trans e2).trans e5) ⟨t, R, D2, rfl, by rw [ho]; exact ht, ⟨ws, kv, ?_, ?_, ok.mono (by omega), ?_⟩, nMR, ?_, n2.symm, nG2, (e.trans e2).free nG3⟩
      · refine own2 ?_ ?_ fun b q1 q2 => ?_
        · rw [del_ne nRL, upd_ne n2.symm]; exact hR
        · rw [del_ne n1]; exact upd_same
        · by_cases q3 : b = L
          · subst q3; rw [del_same, nM]
          · rw [del_ne q3, upd_ne q2]; exact hM b q1 q3
      · unfold ressM; rw [hcut]; exact hres.ex (e2.trans e5)
      · unfold endM; rw [if_neg (by rw [hcut]; have := (List.getElem?_eq_some_iff.mp (by assumption)).1; omega)]; exact fun _ => rfl
      · rw [← hM D2 n2 n1]; exact nM3
    · have hcut2 := hcut.2 hf
      walk_at "go"
      refine ⟨ty_listM j2 hR, ?_⟩
      walk_at "go"
      refine w_sg (L, u, kv1, op) j2 ⟨rfl, ⟨.inl hD, hat.ex e2⟩, ok1.mono (by omega)⟩ fun v M3 G3 H3 j3 e3 ⟨hv, em2⟩ => ?_
      subst em2
      walk_at "go"
      refine w_appendA j3 hR (by rw [hres.1, hlen, List.length_take]; omega) fun H4 j4 => ?_
      walk_at "go"
      have hat3 : OpAt G3 u op := (hat.ex e2).ex e3
      have hat4 := hat3.1
      have hres4 : RessAt G3 (ws ++ [v]) (resL (look kv) (ops.take (i + 1))) := by rw [hresn]; exact (hres.ex (e2.trans e3)).snoc hv
      have hD4 : upd M3 R (.lst (ws ++ [v])) L = some (.dK (tk kv1)) := upd_ne' hD nRL.symm
      have hM4 : ∀ b, b ≠ R → b ≠ L → upd M3 R (.lst (ws ++ [v])) b = M b := fun b q1 q2 => by rw [upd_ne q1]; exact hM b q1 q2
      have same : isSet op = false → ∀ H x y, J (upd M3 R (.lst (ws ++ [v]))) G3 H → ExI M G d a L R kv ops n (i + 1) [some (.ref d), some (.ref a), some (.ref L), some (.ref R), x, y] H := fun hs H x y j =>
        ⟨ws ++ [v], kv1, _, G3, x, y, j, hD4, upd_same, hM4, (e.trans e2).trans e3, hres4, ok1.mono (by omega), (by rw [hmn]; intro q; cases op <;> first | rfl | (cases hs)), hcut2, rfl⟩
      cases op with
      | get ky =>
        walk_at "gx"
        refine w_inT j4 (k_SETTING G3) (by rfl) (by rfl) ?_
        exact w_bl (w_F (same rfl _ _ _ j4))
      | need ky v =>
        walk_at "gx"
        refine w_inT j4 (k_SETTING G3) (by rfl) (by rfl) ?_
        exact w_bl (w_F (same rfl _ _ _ j4))
      | scan lo hi =>
        walk_at "gx"
        refine w_inT j4 (k_SETTING G3) (by rfl) (by rfl) ?_
        exact w_bl (w_F (same rfl _ _ _ j4))
      | put ky x =>
        walk_at "gx"
        refine w_inT j4 (k_SETTING G3) (by rfl) (by rfl) ?_
        refine w_bl (w_T ?_)
        walk_at "go"
        refine w_sg (L, u, kv1, .put ky x) j4 ⟨rfl, ⟨.inl hD4, hat3⟩, rfl⟩ fun v5 M5 G5 H5 j5 e5 ⟨ev, em5⟩ => ?_
        subst ev em5
        walk_at "go"
        have hat5 := (hat3.ex e5).1
        cases x with
        | none =>
          walk_at "go"
          refine w_T ?_
          walk_at "go"
          refine w_popB j5 hD4 ?_
          walk_at "gx"
          refine w_popE j5 hD4 fun v6 H6 j6 => ?_
          rw [tk_drop] at j6
          exact ⟨ws ++ [v], dropI kv1 ky, _, G5, _, _, j6, upd_same, upd_ne' upd_same nRL, fun b q1 q2 => by rw [upd_ne q2]; exact hM4 b q1 q2, ((e.trans e2).trans e3).trans e5, hres4.ex e5, ok1.drop.mono (by omega), by rw [hmn]; exact Rep.drop fun _ => rfl, hcut2, rfl⟩
        | some x =>
          walk_at "go"
          refine w_F ?_
          walk_at "gx"
          refine w_putX j5 hD4 (by rw [tk_len]; have := ok1.len; omega) fun H6 j6 => ?_
          dsimp only [newM, ov] at j6
          rw [tk_put] at j6
          exact ⟨ws ++ [v], putI kv1 ky x, _, G5, _, _, j6, upd_same, upd_ne' upd_same nRL, fun b q1 q2 => by rw [upd_ne q2]; exact hM4 b q1 q2, ((e.trans e2).trans e3).trans e5, hres4.ex e5, (ok1.put hat.2.1 hat.2.2).mono (by omega), by rw [hmn]; exact Rep.put fun _ => rfl, hcut2, rfl⟩
      | add ky x =>
        walk_at "gx"
        refine w_inT j4 (k_SETTING G3) (by rfl) (by rfl) ?_
        refine w_bl (w_T ?_)
        walk_at "go"
        refine w_sg (L, u, kv1, .add ky x) j4 ⟨rfl, ⟨.inl hD4, hat3⟩, rfl⟩ fun v5 M5 G5 H5 j5 e5 ⟨ev, em5⟩ => ?_
        subst ev em5
        walk_at "go"
        have hat5 := (hat3.ex e5).1
        refine w_F ?_
        walk_at "gx"
        refine w_putX j5 hD4 (by rw [tk_len]; have := ok1.len; omega) fun H6 j6 => ?_
        dsimp only [newM, ov] at j6
        rw [tk_put] at j6
        have hval : IsVal ((look kv1 ky).getD 0 + x) := by
          have : (!decide (IsVal ((look kv1 ky).getD 0 + x))) = false := hf
          simpa using this
        exact ⟨ws ++ [v], putI kv1 ky _, _, G5, _, _, j6, upd_same, upd_ne' upd_same nRL, fun b q1 q2 => by rw [upd_ne q2]; exact hM4 b q1 q2, ((e.trans e2).trans e3).trans e5, hres4.ex e5, (ok1.put hat.2.1 hval).mono (by omega), by rw [hmn]; exact Rep.put fun _ => rfl, hcut2, rfl⟩
  · rintro σ H ⟨ws, kv1, M1, G1, x0, y0, j, hD, hR, hM, e, hres, ok1, rep, hc, rfl⟩
    rw [List.length_map, hops.1] at hc
    rw [List.length_map, hops.1, List.take_length] at hres rep
    have hcl : cutM (look kv) ops = ops.length := Nat.le_antisymm (cut_le _ _) hc
    walk_at "go"
    refine w_new j (by show 3 ≤ sizeLine; decide) fun t G5 H5 j5 e5 ht nt => ?_
    have ho : outM (look kv) ops = "done" := by unfold outM; rw [if_pos hcl]
    refine k _ _ _ _ j5 (e.trans e5) ⟨t, R, L, rfl, by rw [ho]; exact ht, ⟨ws, kv1, own2 hR hD hM, ?_, ?_, ?_⟩, nMR, nM, nRL, nG2, nG⟩
    · unfold ressM; rw [hcl, List.take_length]; exact hres.ex e5
    · exact ok1.mono (by rw [List.length_map, hops.1]; omega)
    · unfold endM; rw [if_pos hcl]; exact rep
/-! ### are_all_same -/
abbrev s_are_all_same : Stmt := top 25
abbrev n_are_all_same : List Str := ["made", "told", "one", "other"]
theorem sc_are_all_same : FnScope n_are_all_same ["made", "told"] (defScope s_are_all_same) := ⟨rfl, rfl, rfl, by decide +kernel, rfl, by decide +kernel, by decide +kernel⟩
theorem ok_are_all_same {P : Program} {w : World} {K : PySem.W.Frag} {mg : Str → Option Value} {base : Heap} {f : Addr} {fd : FuncData} (D : Dn K mg "are_all_same" s_are_all_same ["made", "told"] f fd)
    (b_len : mg "len" = none) (b_all : mg "all" = none) (b_zip : mg "zip" = none) (n : Nat) (c_are_same : Cal P w K mg base CX0 (2 * n + 2) "are_same" (spSame K n)) : Cal P w K mg base CX0 (2 * n + 3) "are_all_same" (spAllS K (n + 1)) := by
  refine D.ok sc_are_all_same (fun vs H Q E h => ?_) fun cdv A outer s H vs Q E hr h => ?_
  · obtain ⟨x, M, G, j, ⟨rfl, _⟩, _⟩ := h; rfl
  obtain ⟨⟨a, b, ⟨xs, ys⟩, ⟨ds, es⟩⟩, M, G, j, ⟨rfl, hab, hx, hy, hl, hok⟩, k⟩ := h
  dsimp only at hab hx hy hl hok k
  refine ⟨_, (pss_one (ps_ret (pe_and (pe_cmpR (op_uEqK (K := K) rfl hr) (pe_callB (call_uLenK (K := K) rfl) (by rfl) b_len PySem.boot_len (pa_cons (pv 0) pa_nil)) (pe_callB (call_uLenK (K := K) rfl) (by rfl) b_len PySem.boot_len (pa_cons (pv 1) pa_nil)) (nomark _)) (pe_one (pe_callB (call_allK (K := K) rfl rfl) (by rfl) b_all bt_all (pa_cons (pe_lc (own := [("one", 2), ("other", 3)]) (by rfl) sc_are_all_same.nd (RZ.pi_zipA (by rfl) b_zip (pa_cons (pv 0) (pa_cons (pv 1) pa_nil))) (blkOk_by (own := [("one", 2), ("other", 3)]) (N := n_are_all_same) (sc := defScope s_are_all_same) (by decide +kernel)) (fun _ _ _ _ _ => (pg_tupK (K := K) (n := 2) rfl rfl (pgs_cons (pg_name (i := 2) sc_are_all_same.nd rfl (Or.inl rfl)) (pgs_cons (pg_name (i := 3) sc_are_all_same.nd rfl (Or.inl rfl)) pgs_nil)))) (fun _ _ _ _ _ => pts_nil) (fun _ _ _ _ _ => (pe_cal c_are_same hr (by first | decide | omega) (by rfl) (pa_cons (pv 2) (pa_cons (pv 3) pa_nil))))) pa_nil)))))), ?_⟩
  walk_at "start"
  refine w_lenB j (hab.imp (·.1) (·.1)) ?_
  walk_at "go"
  refine w_lenB j (hab.imp (·.2) (·.2)) ?_
  walk_at "go"
  have hxl := dpAll_len hx
  have hyl := dpAll_len hy
  refine w_dec (fun c1 => ?_) (fun c1 => ?_)
  rotate_left
  · walk_at "go"
    exact k _ _ _ _ j (Same.refl G) ⟨false, rfl, ⟨(fun z => nomatch z), (fun z => by rw [z] at hxl; omega)⟩, rfl⟩
  have hle : xs.length = ys.length := by omega
  walk_at "go"
  refine w_lcZro j hab hle (fun i acc G1 => ∃ bs : List Bool, acc = bs.map V.bl ∧ bs.length = (xs.take i).length ∧ (bs.all id = true ↔ ds.take i = es.take i)) ⟨[], rfl, rfl, (fun _ => rfl), fun _ => rfl⟩ (fun _ _ _ _ _ h => h) ?_ ?_
  · rintro L i T x y acc G1 H1 hxi hyi nM j1 e1 ⟨bs, rfl, hbl, hbs⟩ hT
    have li := (List.getElem?_eq_some_iff.mp hxi).1
    obtain ⟨d, hd, dx⟩ : ∃ d, ds[i]? = some d ∧ Dp K G x d := by
      obtain ⟨x', h1, h2⟩ := dpAll_get hx (List.getElem?_eq_getElem (show i < ds.length by omega))
      rw [hxi] at h1
      cases h1
      exact ⟨_, List.getElem?_eq_getElem (by omega), h2⟩
    obtain ⟨e, he, ey⟩ : ∃ e, es[i]? = some e ∧ Dp K G y e := by
      obtain ⟨y', h1, h2⟩ := dpAll_get hy (List.getElem?_eq_getElem (show i < es.length by omega))
      rw [hyi] at h1
      cases h1
      exact ⟨_, List.getElem?_eq_getElem (by omega), h2⟩
    refine w_gTup j1 (st_of hT) rfl (w_gCons (w_gName (w_gCons (w_gName (w_gNil ⟨rfl, ?_⟩)))))
    walk_at "go"
    refine use_same j1 (dp_mono e1 dx) (dp_mono e1 ey) (hok _ (List.mem_of_getElem? hd)) fun bb G2 H2 eb j2 e2 => ?_
    refine ro_add j2 (e1.trans e2) (by rw [List.length_map, hbl, List.length_take]; omega) ⟨bs ++ [bb], by rw [List.map_append]; rfl, by rw [tk1 hxi, List.length_append, List.length_append, hbl]; rfl, ?_⟩
    rw [List.all_append, Bool.and_eq_true, hbs, List.take_add_one, List.take_add_one, hd, he]
    show List.take i ds = List.take i es ∧ (bb && true) = true ↔ List.take i ds ++ [d] = List.take i es ++ [e]
    rw [Bool.and_true, eb]
    constructor
    · rintro ⟨h1, h2⟩; rw [h1, h2]
    · intro h
      have l1 : (List.take i ds).length = (List.take i es).length := by rw [List.length_take, List.length_take]; omega
      obtain ⟨h1, h2⟩ := List.append_inj h l1
      exact ⟨h1, List.cons.inj h2 |>.1⟩
  rintro L acc G1 G2 H1 j1 e1 e2 hL ⟨bs, rfl, _, hbs⟩
  walk_at "go"
  refine w_all j1 (sl_of hL) ?_
  rw [hxl, List.take_length, ← hxl, hle, hyl, List.take_length] at hbs
  exact k _ _ _ _ j1 (e1.trans e2) ⟨_, rfl, hbs, rfl⟩
/-! ### are_same -/
abbrev s_are_same : Stmt := top 24
abbrev n_are_same : List Str := ["made", "told"]
theorem sc_are_same : FnScope n_are_same ["made", "told"] (defScope s_are_same) := ⟨rfl, rfl, rfl, by decide +kernel, rfl, by decide +kernel, by decide +kernel⟩
theorem ok_are_same {P : Program} {w : World} {K : PySem.W.Frag} {mg : Str → Option Value} {base : Heap} {f : Addr} {fd : FuncData} (D : Dn K mg "are_same" s_are_same ["made", "told"] f fd)
    (b_isinstance : mg "isinstance" = none) (b_list : mg "list" = none) (b_tuple : mg "tuple" = none) (b_str : mg "str" = none) (n : Nat)
    (c_is_plain_integer : Cal P w K mg base CX0 1 "is_plain_integer" (sp_is_plain_integer K)) (c_are_all_same : Cal P w K mg base CX0 (2 * n + 1) "are_all_same" (spAllS K n)) : Cal P w K mg base CX0 (2 * n + 2) "are_same" (spSame K n) := by
  refine D.ok sc_are_same (fun vs H Q E h => ?_) fun cdv A outer s H vs Q E hr h => ?_
  · obtain ⟨x, M, G, j, ⟨rfl, _⟩, _⟩ := h; rfl
  obtain ⟨⟨x, y, d, e⟩, M, G, j, ⟨rfl, hx, hy, hok⟩, k⟩ := h
  dsimp only at hx hy hok k
  refine ⟨_, (pss_cons (ps_if (pt_val (pe_callB (call_isiK' (K := K) rfl) (by rfl) b_isinstance bt_isinstance (pa_cons (pv 0) (pa_cons (pe_bltn (v := .ty "list") (by rfl) b_list bt_list rfl) pa_nil))))
(pss_one (ps_ret (pe_and (pe_callB (call_isiK' (K := K) rfl) (by rfl) b_isinstance bt_isinstance (pa_cons (pv 1) (pa_cons (pe_bltn (v := .ty "list") (by rfl) b_list bt_list rfl) pa_nil))) (pe_one (pe_cal c_are_all_same hr (by first | decide | omega) (by rfl) (pa_cons (pv 0) (pa_cons (pv 1) pa_nil)))))))
pss_nil)
(pss_cons (ps_if (pt_val (pe_callB (call_isiK' (K := K) rfl) (by rfl) b_isinstance bt_isinstance (pa_cons (pv 0) (pa_cons (pe_bltn (v := .ty "tuple") (by rfl) b_tuple bt_tuple rfl) pa_nil))))
(pss_one (ps_ret (pe_and (pe_callB (call_isiK' (K := K) rfl) (by rfl) b_isinstance bt_isinstance (pa_cons (pv 1) (pa_cons (pe_bltn (v := .ty "tuple") (by rfl) b_tuple bt_tuple rfl) pa_nil))) (pe_one (pe_cal c_are_all_same hr (by first | decide | omega) (by rfl) (pa_cons (pv 0) (pa_cons (pv 1) pa_nil)))))))
pss_nil)
(pss_cons (ps_if (pt_val (pe_callB (call_isiK' (K := K) rfl) (by rfl) b_isinstance bt_isinstance (pa_cons (pv 0) (pa_cons (pe_bltn (v := .ty "str") (by rfl) b_str bt_str rfl) pa_nil))))
(pss_one (ps_ret (pe_and (pe_callB (call_isiK' (K := K) rfl) (by rfl) b_isinstance bt_isinstance (pa_cons (pv 1) (pa_cons (pe_bltn (v := .ty "str") (by rfl) b_str bt_str rfl) pa_nil))) (pe_one (pe_cmpR (op_uEqK (K := K) rfl hr) (pv 0) (pv 1) (nomark _))))))
pss_nil)
(pss_cons (ps_if (pt_cmp (pc_isN (pv 0)))
(pss_one (ps_ret (pe_cmp (pc_isN (pv 1)))))
pss_nil)
(pss_one (ps_ret (pe_and (pe_cal c_is_plain_integer hr (by first | decide | omega) (by rfl) (pa_cons (pv 1) pa_nil)) (pe_one (pe_cmpR (op_uEqK (K := K) rfl hr) (pv 0) (pv 1) (nomark _)))))))))), ?_⟩
  walk_at "start"
  have fin : d = e → Q (.bl true) H := fun z => k _ _ _ _ j (Same.refl G) ⟨true, rfl, ⟨fun _ => z, fun _ => rfl⟩, rfl⟩
  have nof : d ≠ e → Q (.bl false) H := fun z => k _ _ _ _ j (Same.refl G) ⟨false, rfl, ⟨(fun y => nomatch y), (fun y => (z y).elim)⟩, rfl⟩
  have bof : ∀ c : Prop, [Decidable c] → (c ↔ d = e) → Q (.bl (decide c)) H := fun c _ z => k _ _ _ _ j (Same.refl G) ⟨_, rfl, by rw [decide_eq_true_iff]; exact z, rfl⟩
  have hnb : ∀ b, d ≠ .bool b := fun b z => by subst z; cases n <;> exact hok
  cases hx with
  | bl b => exact absurd rfl (hnb b)
  | non =>
    walk_at "gx"
    refine w_dT rfl ?_
    walk_at "gx"
    cases hy with
    | non => exact fin rfl
    | bl b => exact nof (fun z => nomatch z)
    | int b => exact nof (fun z => nomatch z)
    | str b => exact nof (fun z => nomatch z)
    | lst ha hyl => exact nof (fun z => nomatch z)
    | tup ha hyl => exact nof (fun z => nomatch z)
  | int b =>
    walk_at "gx"
    refine w_dF (fun z => nomatch z) ?_
    walk_at "gx"
    refine w_sg y j ⟨rfl, .inr ⟨_, hy⟩⟩ fun v M1 G1 H1 j1 e1 ⟨ev, em⟩ => ?_
    subst ev em
    have nof : PyData.int b ≠ e → Q (.bl false) H1 := fun z => k _ _ _ _ j1 e1 ⟨false, rfl, ⟨(fun y => nomatch y), (fun y => (z y).elim)⟩, rfl⟩
    refine w_bl ?_
    cases hy with
    | non => refine w_F ?_; exact nof (fun z => nomatch z)
    | bl b2 => refine w_F ?_; exact nof (fun z => nomatch z)
    | str b2 => refine w_F ?_; exact nof (fun z => nomatch z)
    | lst ha hyl => refine w_F ?_; exact nof (fun z => nomatch z)
    | tup ha hyl => refine w_F ?_; exact nof (fun z => nomatch z)
    | int b2 =>
      refine w_T ?_
      walk_at "gx"
      exact k _ _ _ _ j1 e1 ⟨_, rfl, by rw [decide_eq_true_iff]; exact ⟨(fun z => by rw [z]), (fun z => by cases z; rfl)⟩, rfl⟩
  | str b =>
    walk_at "gx"
    cases hy with
    | non => walk_at "gx"; exact nof (fun z => nomatch z)
    | bl b2 => walk_at "gx"; exact nof (fun z => nomatch z)
    | int b2 => walk_at "gx"; exact nof (fun z => nomatch z)
    | str b2 =>
      walk_at "gx"
      refine w_eqS rfl ?_
      exact bof (b = b2) ⟨(fun z => by rw [z]), (fun z => by cases z; rfl)⟩
    | lst ha hyl => refine w_isi false (ty_L (sl_mono j.g ha)) (by rfl) ?_; walk_at "gx"; exact nof (fun z => nomatch z)
    | tup ha hyl => refine w_isi false (ty_T (st_mono j.g ha)) (by rfl) ?_; walk_at "gx"; exact nof (fun z => nomatch z)
  | @lst a xs ds ha hxl =>
    cases n with
    | zero => cases hok
    | succ n =>
    walk_at "gx"
    refine w_isi true (ty_L (sl_mono j.g ha)) (by rfl) ?_
    walk_at "gx"
    cases hy with
    | non => walk_at "gx"; exact nof (fun z => nomatch z)
    | bl b2 => walk_at "gx"; exact nof (fun z => nomatch z)
    | int b2 => walk_at "gx"; exact nof (fun z => nomatch z)
    | str b2 => walk_at "gx"; exact nof (fun z => nomatch z)
    | tup hb hyl => refine w_isi false (ty_T (st_mono j.g hb)) (by rfl) ?_; walk_at "gx"; exact nof (fun z => nomatch z)
    | @lst b ys es hb hyl =>
      refine w_isi true (ty_L (sl_mono j.g hb)) (by rfl) ?_
      walk_at "gx"
      exact use_alls j (.inl ⟨ha, hb⟩) hxl hyl hok.1 hok.2 fun b G' H' eb j' e => k _ _ _ _ j' e ⟨b, rfl, eb.trans ⟨(fun z => by rw [z]), (fun z => by cases z; rfl)⟩, rfl⟩
  | @tup a xs ds ha hxl =>
    cases n with
    | zero => cases hok
    | succ n =>
    walk_at "gx"
    refine w_isi false (ty_T (st_mono j.g ha)) (by rfl) ?_
    walk_at "gx"
    refine w_isi true (ty_T (st_mono j.g ha)) (by rfl) ?_
    walk_at "gx"
    cases hy with
    | non => walk_at "gx"; exact nof (fun z => nomatch z)
    | bl b2 => walk_at "gx"; exact nof (fun z => nomatch z)
    | int b2 => walk_at "gx"; exact nof (fun z => nomatch z)
    | str b2 => walk_at "gx"; exact nof (fun z => nomatch z)
    | lst hb hyl => refine w_isi false (ty_L (sl_mono j.g hb)) (by rfl) ?_; walk_at "gx"; exact nof (fun z => nomatch z)
    | @tup b ys es hb hyl =>
      refine w_isi true (ty_T (st_mono j.g hb)) (by rfl) ?_
      walk_at "gx"
      exact use_alls j (.inr ⟨ha, hb⟩) hxl hyl hok.1 hok.2 fun b G' H' eb j' e => k _ _ _ _ j' e ⟨b, rfl, eb.trans ⟨(fun z => by rw [z]), (fun z => by cases z; rfl)⟩, rfl⟩
/-- both, at every depth -/
theorem ok_same {P : Program} {w : World} {K : PySem.W.Frag} {mg : Str → Option Value} {base : Heap} {f g : Addr} {fd gd : FuncData} (D : Dn K mg "are_same" s_are_same ["made", "told"] f fd) (D2 : Dn K mg "are_all_same" s_are_all_same ["made", "told"] g gd)
    (b_isinstance : mg "isinstance" = none) (b_list : mg "list" = none) (b_tuple : mg "tuple" = none) (b_str : mg "str" = none) (b_len : mg "len" = none) (b_all : mg "all" = none) (b_zip : mg "zip" = none)
    (c_is_plain_integer : Cal P w K mg base CX0 1 "is_plain_integer" (sp_is_plain_integer K)) (n : Nat) : Cal P w K mg base CX0 (2 * n + 2) "are_same" (spSame K n) := by
  induction n with
  | zero => exact ok_are_same D b_isinstance b_list b_tuple b_str 0 c_is_plain_integer (D2.cal ⟨fun _ _ _ _ h => h.elim, fun _ _ _ _ _ _ _ _ _ _ _ _ _ h => h.elim⟩)
  | succ n ih => exact ok_are_same D b_isinstance b_list b_tuple b_str (n + 1) c_is_plain_integer (ok_are_all_same D2 b_len b_all b_zip n ih)
/-! ### Record.told -/
abbrev s_Record_told : Stmt := inClass (top 27) 4
abbrev n_Record_told : List Str := ["self", "name"]
theorem sc_Record_told : FnScope n_Record_told ["self"] (defScope s_Record_told) := ⟨rfl, rfl, rfl, by decide +kernel, rfl, by decide +kernel, by decide +kernel⟩
def sp_Record_told (K : PySem.W.Frag) (C D : Addr) : Sp := Sg (α := RecA × Obj) (fun x vs M G => vs = [.ref x.1.p] ∧ RecAt K C D (some x.2) M G x.1) (fun x M _ v M' G' => M' = M ∧ ∃ l, v = .ref l ∧ G' l = some (.lst ((toldL x.1.ds).map V.int)))
theorem ok_Record_told {P : Program} {w : World} {K : PySem.W.Frag} {mg : Str → Option Value} {base : Heap}
    {C_Record : Addr} (T_Record : Tx_Record K mg C_Record)
    {C_Asked : Addr} (T_Asked : Tx_Asked K mg C_Asked)
    {f : Addr} {fd : FuncData} (D : Dm K C_Record "told" "Record.told" s_Record_told ["self"] f fd) : CalM P w K mg base CX0 1 C_Record "told" (sp_Record_told K C_Record C_Asked) := by
  refine D.ok sc_Record_told (fun vs H Q E h => ?_) fun cdv A outer s H vs Q E hr h => ?_
  · obtain ⟨x, M, G, j, ⟨rfl, _⟩, _⟩ := h; rfl
  obtain ⟨⟨r, od⟩, M, G, j, ⟨rfl, hR⟩, k⟩ := h
  dsimp only at hR k
  refine ⟨_, (pss_one (ps_ret (pe_lc (own := [("name", 1)]) (by rfl) sc_Record_told.nd (pi_keys (pe_fld (pv 0) rfl)) (blkOk_by (own := [("name", 1)]) (N := n_Record_told) (sc := defScope s_Record_told) (by decide +kernel)) (fun _ _ _ _ _ => (pg_name (i := 1) sc_Record_told.nd rfl (Or.inl rfl))) (fun _ _ _ _ _ => pts_one (pt_cmp (pc_notN (pe_fldK (K := K) rfl (pe_dget (hu_of hr) (pe_fldK (K := K) rfl (pv 0) rfl) (pv 1) (fun _ _ => rfl)) rfl)))) (fun _ _ _ _ _ => (pv 1))))), ?_⟩
  walk_at "start"
  refine w_fldM j hR.op T_Record.cl T_Record.n_deals fl_Record_deals ?_
  refine w_lcKyKro j (show M r.dd = some (.frz od (.dK (recK r.l))) from hR.od) (fun i acc G1 => acc = (toldL (r.ds.take i)).map V.int) rfl ?_ ?_
  · rintro L i kk v acc G1 H1 hkv nM j1 e1 rfl
    obtain ⟨x, hx, rfl, rfl⟩ := recK_at hkv
    have hA := (hR.at' x (List.mem_of_getElem? hx)).ex e1
    have ll : ∀ {q : Addr} {o : HO}, M q = some o → ∀ {acc : List V}, upd M L (.lst acc) q = some o := fun {q o} e {acc} => upd_ne' e (ne_of_none e nM)
    refine w_gName ⟨rfl, ?_⟩
    walk_at "go"
    refine w_fldM j1 (ll hR.op) T_Record.cl T_Record.n_deals fl_Record_deals ?_
    walk_at "go"
    refine w_getXr j1 (.inr ⟨od, ll (show M r.dd = some (.frz od (.dK (recK r.l))) from hR.od)⟩) (recK_get hR.nn x (List.mem_of_getElem? hx)) ?_
    walk_at "go"
    refine w_fldM j1 (ll hA.op) T_Asked.cl T_Asked.n_answer fl_Asked_answer ?_
    walk_at "go"
    rw [hA.an.isN, Bool.not_not]
    have la : ((toldL (r.ds.take i)).map V.int).length < 1000000 := by
      have := toldL_len (ds := r.ds.take i)
      have l8 := hR.le
      rw [List.length_take] at this
      have : r.ds.length = r.l.length := List.length_map _
      rw [List.length_map]
      omega
    refine w_two (fun c => ?_) (fun c => ?_)
    · walk_at "go"
      refine ro_add j1 e1 la ?_
      rw [tk1 (ds_at hx), toldL_snoc, if_pos c, List.map_append]; rfl
    · exact ro_skip j1 e1 (by rw [tk1 (ds_at hx), toldL_snoc, c, if_neg Bool.false_ne_true, List.append_nil])
  · rintro L acc G1 G2 H1 j1 e1 e2 hL rfl
    rw [show (recK r.l).length = r.ds.length by unfold recK RecA.ds; rw [List.length_map, List.length_map], List.take_length] at hL
    exact k _ _ _ _ j1 (e1.trans e2) ⟨rfl, L, rfl, hL⟩
/-! ### Record.order_behind -/
abbrev s_Record_order_behind : Stmt := inClass (top 27) 5
abbrev n_Record_order_behind : List Str := ["self", "chosen", "table", "name", "deal", "outcome", "results", "after", "found", "other"]
theorem sc_Record_order_behind : FnScope n_Record_order_behind ["self", "chosen", "table"] (defScope s_Record_order_behind) := ⟨rfl, rfl, rfl, by decide +kernel, rfl, by decide +kernel, by decide +kernel⟩
structure ObP where
  r : RecA
  od : Obj
  ch : List Int
  ca : Addr
  kv : List (Int × Int)
  ta : Addr
def ObEnd (G : Hp) (ca : Addr) (v : V) (G' : Hp) : Option (List Int) → Prop
  | none => v = .non
  | some o => ∃ l, v = .ref l ∧ G' l = some (.lst (o.map V.int)) ∧ (l = ca ∨ G l = none)
def spOB (K : PySem.W.Frag) (C D : Addr) (n : Nat) : Sp := Sg (α := ObP) (fun x vs M G => vs = [.ref x.r.p, .ref x.ca, .ref x.ta] ∧ RecAt K C D (some x.od) M G x.r ∧ G x.ca = some (.lst (x.ch.map V.int)) ∧ G x.ta = some (.dK (tk x.kv)) ∧ TabOk x.kv (6 * x.ch.length) ∧ x.ch.Nodup ∧ (∀ q ∈ x.ch, q ∈ x.r.ds.map (·.name)) ∧ x.r.ds.length ≤ x.ch.length + n)
  (fun x M G v M' G' => M' = M ∧ ObEnd G x.ca v G' (dfs x.r.ds n x.ch (look x.kv)))
def spOBP (K : PySem.W.Frag) (C D : Addr) : Nat → Sp
  | 0 => spNo
  | n + 1 => spOB K C D n
def sp_Record_order_behind (K : PySem.W.Frag) (C D : Addr) : Sp := spOB K C D 8
theorem aux_ob {P : Program} {w : World} {K : PySem.W.Frag} {mg : Str → Option Value} {base : Heap}
    {C_Record : Addr} (T_Record : Tx_Record K mg C_Record)
    {C_Asked : Addr} (T_Asked : Tx_Asked K mg C_Asked)
    {f : Addr} {fd : FuncData} (D : Dm K C_Record "order_behind" "Record.order_behind" s_Record_order_behind ["self", "chosen", "table"] f fd)
    (b_all : mg "all" = none)
    (c_are_same : Cal P w K mg base CX0 10 "are_same" (spSame K 4))
    (c_execute : Cal P w K mg base CX0 4 "execute" (sp_execute K))
    (c_Record_told : CalM P w K mg base CX0 1 C_Record "told" (sp_Record_told K C_Record C_Asked))
    (n : Nat) (c_Record_order_behind : CalM P w K mg base CX0 (n + 13) C_Record "order_behind" (spOBP K C_Record C_Asked n)) : CalM P w K mg base CX0 (n + 14) C_Record "order_behind" (spOB K C_Record C_Asked n) := by
  refine D.ok sc_Record_order_behind (fun vs H Q E h => ?_) fun cdv A outer s H vs Q E hr h => ?_
  · obtain ⟨x, M, G, j, ⟨rfl, _⟩, _⟩ := h; rfl
  obtain ⟨⟨r, od, ch, ca, kv, ta⟩, M, G, j, ⟨rfl, hR, hca, hta, htk, hnd, hsub, hlen⟩, k⟩ := h
  dsimp only at hR hca hta htk hnd hsub hlen k
  refine ⟨_, (pss_cons (ps_if (pt_val (pe_callB (call_allK (K := K) rfl rfl) (by rfl) b_all bt_all (pa_cons (pe_lc (own := [("name", 3)]) (by rfl) sc_Record_order_behind.nd (pi_list (pe_calM0 c_Record_told T_Record.cl hr (by first | decide | omega) (pv 0))) (blkOk_by (own := [("name", 3)]) (N := n_Record_order_behind) (sc := defScope s_Record_order_behind) (by decide +kernel)) (fun _ _ _ _ _ => (pg_name (i := 3) sc_Record_order_behind.nd rfl (Or.inl rfl))) (fun _ _ _ _ _ => pts_nil) (fun _ _ _ _ _ => (pe_cmpR (op_inK (K := K) rfl) (pv 3) (pv 1) (by with_unfolding_all rfl)))) pa_nil)))
(pss_one (ps_ret (pv 1)))
pss_nil)
(pss_cons (ps_for PassesOwn.never rfl (pi_items (pe_fld (pv 0) rfl)) (pg_tup rfl (pgs_cons (pg_name (i := 3) sc_Record_order_behind.nd rfl (Or.inl rfl)) (pgs_cons (pg_name (i := 4) sc_Record_order_behind.nd rfl (Or.inl rfl)) pgs_nil)))
(pss_cons (ps_if (PW.pt (pw_or (pt_cmpR (op_inK (K := K) rfl) (pv 3) (pv 1) (by with_unfolding_all rfl)) (pw_or1 (pt_not (pt_val (pe_callB (call_allK (K := K) rfl rfl) (by rfl) b_all bt_all (pa_cons (pe_lc (own := [("other", 9)]) (by rfl) sc_Record_order_behind.nd (pi_list (pe_fld (pv 4) rfl)) (blkOk_by (own := [("other", 9)]) (N := n_Record_order_behind) (sc := defScope s_Record_order_behind) (by decide +kernel)) (fun _ _ _ _ _ => (pg_name (i := 9) sc_Record_order_behind.nd rfl (Or.inl rfl))) (fun _ _ _ _ _ => pts_nil) (fun _ _ _ _ _ => (pe_cmpR (op_inK (K := K) rfl) (pv 9) (pv 1) (by with_unfolding_all rfl)))) pa_nil)))))))
(pss_one ps_continue)
pss_nil)
(pss_cons (ps_asg (pe_cal c_execute hr (by first | decide | omega) (by rfl) (pa_cons (pv 2) (pa_cons (pe_fld (pv 4) rfl) pa_nil))) (pg_tup rfl (pgs_cons (pg_name (i := 5) sc_Record_order_behind.nd rfl (Or.inl rfl)) (pgs_cons (pg_name (i := 6) sc_Record_order_behind.nd rfl (Or.inl rfl)) (pgs_cons (pg_name (i := 7) sc_Record_order_behind.nd rfl (Or.inl rfl)) pgs_nil)))))
(pss_one (ps_if (PW.pt (pw_or (pt_cmp (pc_isN (pe_fld (pv 4) rfl))) (pw_or1 (pt_val (pe_cal c_are_same hr (by first | decide | omega) (by rfl) (pa_cons (pe_tup (pa_cons (pv 5) (pa_cons (pv 6) pa_nil))) (pa_cons (pe_fld (pv 4) rfl) pa_nil)))))))
(pss_cons (ps_set (i := 8) sc_Record_order_behind.nd rfl (Or.inl rfl) (pe_calM c_Record_order_behind T_Record.cl hr (by first | decide | omega) (pv 0) (pa_cons (pe_op (op_uAddK (K := K) rfl) (pv 1) (pe_lst (pa_cons (pv 3) pa_nil))) (pa_cons (pv 7) pa_nil))))
(pss_one (ps_if (pt_cmp (pc_notN (pv 8)))
(pss_one (ps_ret (pv 8)))
pss_nil)))
pss_nil)))))
(pss_one (ps_ret pe_non)))), ?_⟩
  walk_at "start"
  refine w_methM j hR.op (no_Record (by decide +kernel)) ?_
  walk_at "go"
  have lds : r.ds.length = r.l.length := List.length_map _
  have l8 := hR.le
  have names : r.ds.map (·.name) = r.l.map (·.2.name) := by unfold RecA.ds; rw [List.map_map]; rfl
  have lch : ch.length ≤ r.ds.length := by
    have := nodup_le hnd hsub
    rw [List.length_map] at this
    exact this
  refine w_sg (r, od) j ⟨rfl, hR⟩ fun v1 M1 G1 H1 j1 e1 ⟨em, l1, ev, hl1⟩ => ?_
  dsimp only at em hl1
  subst em ev
  have tl := toldL_len (ds := r.ds)
  refine w_lcLro j1 (sl_of hl1) (fun i acc G2 => acc = (((toldL r.ds).take i).map fun q => decide (q ∈ ch)).map V.bl) rfl ?_ ?_
  · rintro L i x acc G2 H2 hi nM j2 e2 rfl
    rw [List.getElem?_map] at hi
    cases hq : (toldL r.ds)[i]? with
    | none => rw [hq] at hi; cases hi
    | some q =>
    rw [hq] at hi
    cases hi
    refine w_gName ⟨rfl, ?_⟩
    walk_at "go"
    refine w_inL j2 (sl_of ((e1.trans e2) _ _ hca)) rfl (flat_ints ch) ?_
    rw [if_neg Bool.false_ne_true, inV_int]
    refine ro_add j2 e2 (by rw [List.length_map, List.length_map, List.length_take]; omega) ?_
    rw [tk1 hq, List.map_append, List.map_append]; rfl
  rintro L acc G2 G3 H3 j3 e2 e3 hL rfl
  rw [List.length_map, List.take_length] at hL
  walk_at "go"
  refine w_all j3 (sl_of hL) ?_
  have ea : (((toldL r.ds).map fun q => decide (q ∈ ch)).all id) = allIn (toldL r.ds) ch := by rw [List.all_map]; rfl
  rw [ea]
  have E3 := (e1.trans e2).trans e3
  refine w_bl ?_
  cases hA : allIn (toldL r.ds) ch with
  | true =>
    refine w_T ?_
    walk_at "go"
    exact k _ _ _ _ j3 E3 ⟨rfl, by rw [dfs_told hA]; exact ⟨ca, rfl, E3 _ _ hca, .inl rfl⟩⟩
  | false =>
  have hz : n = 0 → ∀ d ∈ r.ds, d.name ∈ ch := fun z d hd => by
    apply Classical.byContradiction
    intro hn
    have := nodup_le (xs := d.name :: ch) (ys := r.ds.map (·.name)) (List.nodup_cons.mpr ⟨hn, hnd⟩) fun x m => by
      rcases List.mem_cons.mp m with rfl | m
      · exact List.mem_map_of_mem (f := (·.name)) hd
      · exact hsub x m
    rw [List.length_cons, List.length_map] at this
    omega
  have hdf := dfs_not (m := look kv) hA hz
  rw [hdf] at k
  refine w_F ?_
  walk_at "go"
  refine w_fldM j3 hR.op T_Record.cl T_Record.n_deals fl_Record_deals ?_
  refine w_forIK j3 (show M1 r.dd = some (.frz od (.dK (recK r.l))) from hR.od) (fun i σ G4 => tryD (obF r.ds n) ch (look kv) r.ds = tryD (obF r.ds n) ch (look kv) (r.ds.drop i) ∧ ∃ x3 x4 x5 x6 x7 x8 x9, σ = [some (.ref r.p), some (.ref ca), some (.ref ta), x3, x4, x5, x6, x7, x8, x9]) ⟨rfl, _, _, _, _, _, _, _, rfl⟩ ?_ (fun _ _ _ _ _ h => h) ?_
  · rintro i T kk v σ G4 H4 hkv j4 e4 hT ⟨htr, x3, x4, x5, x6, x7, x8, x9, rfl⟩
    obtain ⟨x, hx, rfl, rfl⟩ := recK_at hkv
    have E4 := E3.trans e4
    have hA4 := (hR.at' x (List.mem_of_getElem? hx)).ex E4
    have hR4 := hR.ex E4
    have hds := ds_at hx
    have hdrop : r.ds.drop i = x.2 :: r.ds.drop (i + 1) := List.drop_eq_getElem?_toList_append |>.trans (by rw [hds]; rfl)
    rw [hdrop] at htr
    have hT : G4 T = some (.tup [.int x.2.name, .ref x.1.p]) := hT
    refine w_gTup j4 (st_of hT) rfl (w_gCons (w_gName (w_gCons (w_gName (w_gNil ?_)))))
    have hskip : skipD ch x.2 = true → tryD (obF r.ds n) ch (look kv) r.ds = tryD (obF r.ds n) ch (look kv) (r.ds.drop (i + 1)) := fun z => by rw [htr, tryD, if_pos z]
    refine w_seqO (fun σ H => ∃ G5, J M1 G5 H ∧ Ex G4 G5 ∧ skipD ch x.2 = false ∧ ∃ x9, σ = [some (.ref r.p), some (.ref ca), some (.ref ta), some (.int x.2.name), some (.ref x.1.p), x5, x6, x7, x8, x9]) ?_ fun N hN => ?_
    rotate_left
    · walk_at "go"
      refine w_inL j4 (sl_of (E4 _ _ hca)) rfl (flat_ints ch) ?_
      rw [if_neg Bool.false_ne_true, inV_int]
      refine w_bl ?_
      refine w_dec (fun c1 => ?_) (fun c1 => ?_)
      · refine w_T ?_
        walk_at "go"
        exact ⟨G4, j4, e4, hskip (by unfold skipD; rw [decide_eq_true c1]; rfl), _, _, _, _, _, _, _, rfl⟩
      · walk_at "go"
        refine w_fldM j4 hA4.op T_Asked.cl T_Asked.n_earlier fl_Asked_earlier ?_
        refine w_lcLro j4 (sl_of hA4.er) (fun i acc G2 => acc = ((x.2.earlier.take i).map fun q => decide (q ∈ ch)).map V.bl) rfl ?_ ?_
        · rintro L i2 y acc G2 H2 hi nM j2 e2 rfl
          rw [List.getElem?_map] at hi
          cases hq : x.2.earlier[i2]? with
          | none => rw [hq] at hi; cases hi
          | some q =>
          rw [hq] at hi
          cases hi
          have hel := hA4.el
          refine w_gName ⟨rfl, ?_⟩
          walk_at "go"
          refine w_inL j2 (sl_of ((E4.trans e2) _ _ hca)) rfl (flat_ints ch) ?_
          rw [if_neg Bool.false_ne_true, inV_int]
          refine ro_add j2 e2 (by rw [List.length_map, List.length_map, List.length_take]; omega) ?_
          rw [tk1 hq, List.map_append, List.map_append]; rfl
        rintro L acc G5 G6 H6 j6 e5 e6 hL rfl
        rw [List.length_map, List.take_length] at hL
        walk_at "go"
        refine w_all j6 (sl_of hL) ?_
        have ea : ((x.2.earlier.map fun q => decide (q ∈ ch)).all id) = allIn x.2.earlier ch := by rw [List.all_map]; rfl
        rw [ea]
        refine w_bl ?_
        cases hE : allIn x.2.earlier ch with
        | false =>
          refine w_T ?_
          walk_at "go"
          exact ⟨G6, j6, (e4.trans e5).trans e6, hskip (by unfold skipD; rw [hE, decide_eq_false c1]; rfl), _, _, _, _, _, _, _, rfl⟩
        | true =>
          refine w_F ?_
          walk_at "go"
          exact hN _ _ ⟨G6, j6, e5.trans e6, by unfold skipD; rw [hE, decide_eq_false c1]; rfl, _, rfl⟩
    rintro σ5 H5 ⟨G5, j5, e5, hns, x9', rfl⟩
    have hnm : x.2.name ∉ ch := fun z => by unfold skipD at hns; rw [decide_eq_true z] at hns; cases hns
    have hcl : ch.length + 1 ≤ r.ds.length := by
      have := nodup_le (xs := x.2.name :: ch) (ys := r.ds.map (·.name)) (List.nodup_cons.mpr ⟨hnm, hnd⟩) fun y m => by
        rcases List.mem_cons.mp m with rfl | m
        · exact List.mem_map_of_mem (f := (·.name)) (List.mem_of_getElem? hds)
        · exact hsub y m
      rw [List.length_cons, List.length_map] at this
      exact this
    have E5 := E4.trans e5
    have hA5 := hA4.ex e5
    have hR5 := hR4.ex e5
    walk_at "go"
    refine w_fldM j5 hA5.op T_Asked.cl T_Asked.n_ops fl_Asked_ops ?_
    walk_at "go"
    refine use_execute j5 (n := 6 * ch.length) ⟨.inr (.inl (E5 _ _ hta)), htk, by omega, hA5.dl⟩ fun t R D M6 G6 H6 j6 e6 ht ⟨⟨ws, kv', em, hws, tok, rep⟩, nR, nD, neRD, gR, gD⟩ => ?_
    subst em
    have nD' : upd M1 R (.lst ws) D = none := by rw [upd_ne neRD.symm]; exact nD
    have j7 := (j6.freeze nD').freeze nR
    have e7 : Ex G6 (upd (upd G6 D (.dK (tk kv'))) R (.lst ws)) := (Ex.new j6.freezeG).trans (Ex.new (j6.freeze nD').freezeG)
    have hD7 : upd (upd G6 D (.dK (tk kv'))) R (.lst ws) D = some (.dK (tk kv')) := upd_ne' upd_same neRD.symm
    have hR7 : upd (upd G6 D (.dK (tk kv'))) R (.lst ws) R = some (.lst ws) := upd_same
    have ht7 := e7 _ _ ht
    generalize upd (upd G6 D (.dK (tk kv'))) R (.lst ws) = G7 at *
    have E7 := (E5.trans e6).trans e7
    have hA7 := (hA5.ex e6).ex e7
    have hws7 := hws.ex e7
    clear j6 gR gD nD' nR nD
    have hgo : ∀ z, fitD (look kv) x.2 = z → tryD (obF r.ds n) ch (look kv) r.ds = if z = true then orO (obF r.ds n (ch ++ [x.2.name]) (endM (look kv) x.2.ops)) (tryD (obF r.ds n) ch (look kv) (r.ds.drop (i + 1))) else tryD (obF r.ds n) ch (look kv) (r.ds.drop (i + 1)) := fun z hz => by
      rw [htr, tryD, if_neg (by rw [hns]; exact Bool.false_ne_true), hz]
    refine w_gTup j7 (st_of ht7) rfl (w_gCons (w_gName (w_gCons (w_gName (w_gCons (w_gName (w_gNil ?_)))))))
    refine w_if ?_
    refine w_testO (fun b H' => ∃ G8, J M1 G8 H' ∧ Ex G7 G8 ∧ b = fitD (look kv) x.2) ?_ fun N hN => ?_
    rotate_left
    · walk_at "go"
      refine w_fldM j7 hA7.op T_Asked.cl T_Asked.n_answer fl_Asked_answer ?_
      have han := hA7.an
      cases hans : x.2.ans with
      | none =>
        rw [hans] at han
        rw [show x.1.av = .non from han]
        walk_at "go"
        refine w_dT rfl ?_
        exact hN _ _ ⟨G7, j7, Same.refl _, (fit_none hans).symm⟩
      | some y =>
        rw [hans] at han
        have han : Dp K G7 x.1.av (.tuple [y.1, y.2]) := han
        have hnv : x.1.av ≠ .non := fun z => by rw [z] at han; cases han
        walk_at "go"
        refine w_dF hnv ?_
        walk_at "go"
        refine w_new j7 (by show 2 ≤ sizeLine; decide) fun t8 G8 H8 j8 e8 ht8 _ => ?_
        walk_at "go"
        refine w_fldM j8 hA7.op T_Asked.cl T_Asked.n_answer fl_Asked_answer ?_
        walk_at "go"
        refine use_same (n := 4) j8 (.tup (st_of ht8) (.cons (.str _) (.cons (dp_mono e8 (dp_ress hR7 hws7)) .nil))) (dp_mono e8 han) (okM_two (okM_str _ _) (okM_ress 0 _ hA7.dl.2.2.2)) fun b G9 H9 eb j9 e9 => ?_
        walk_at "go"
        refine hN _ _ ⟨G9, j9, e8.trans e9, ?_⟩
        exact Bool.eq_iff_iff.mpr (eb.trans (fit_some hans).symm)
    rintro b H8 ⟨G8, j8, e8, rfl⟩
    have E8 := E7.trans e8
    have e38 : Ex G3 G8 := (((e4.trans e5).trans e6).trans e7).trans e8
    have hR8 := (((hR5.ex e6).ex e7).ex e8)
    refine w_two (fun hf => ?_) (fun hf => ?_)
    rotate_left
    · walk_at "go"
      exact ⟨G8, j8, e38, by rw [hgo _ hf, if_neg Bool.false_ne_true], _, _, _, _, _, _, _, rfl⟩
    have hgo := hgo _ hf
    rw [if_pos rfl] at hgo
    obtain ⟨n', rfl⟩ : ∃ n', n = n' + 1 := ⟨n - 1, by omega⟩
    walk_at "go"
    refine w_methM j8 hR8.op (no_Record (by decide +kernel)) ?_
    walk_at "go"
    refine w_new j8 (by show 1 ≤ sizeLine; decide) fun l9 G9 H9 j9 e9 hl9 _ => ?_
    walk_at "go"
    refine w_catL (j9.g _ _ ((E8.trans e9) _ _ hca)) (j9.g _ _ hl9) (w_new j9 (by rw [List.length_map]; exact sz_le (by show ch.length + 1 ≤ _; omega)) fun l10 G10 H10 j10 e10 hl10 nl10 => ?_)
    walk_at "go"
    have hR10 := (hR8.ex e9).ex e10
    have lk : look kv' = endM (look kv) x.2.ops := funext rep
    show spOB K C_Record C_Asked n' _ _ _ _
    refine w_sg (α := ObP) ⟨r, od, ch ++ [x.2.name], l10, kv', D⟩ j10 ⟨rfl, hR10, by rw [List.map_append]; exact hl10, e10 _ _ (e9 _ _ (e8 _ _ hD7)), tok.mono (by dsimp only; rw [List.length_append]; show 6 * ch.length + 6 ≤ 6 * (ch.length + 1); omega), ?_, ?_, ?_⟩ fun v11 M11 G11 H11 j11 e11 ⟨em, hend⟩ => ?_
    · dsimp only
      rw [List.nodup_append]
      exact ⟨hnd, List.nodup_cons.mpr ⟨(fun z => nomatch z), List.nodup_nil⟩, fun a ha b hb e => hnm (by rw [← List.mem_singleton.mp hb, ← e]; exact ha)⟩
    · intro q m
      rcases List.mem_append.mp m with m | m
      · exact hsub q m
      · rw [List.mem_singleton.mp m]; exact List.mem_map_of_mem (f := (·.name)) (List.mem_of_getElem? hds)
    · dsimp only
      rw [List.length_append]
      show r.ds.length ≤ ch.length + 1 + n'
      omega
    dsimp only at em hend
    subst em
    rw [lk] at hend
    have E11 := ((E8.trans e9).trans e10).trans e11
    walk_at "go"
    have hob : obF r.ds (n' + 1) = dfs r.ds n' := rfl
    rw [hob] at hgo k
    cases hdf2 : dfs r.ds n' (ch ++ [x.2.name]) (endM (look kv) x.2.ops) with
    | none =>
      rw [hdf2] at hend hgo
      rw [show v11 = .non from hend]
      refine w_nT rfl ?_
      walk_at "go"
      exact ⟨G11, j11, ((e38.trans e9).trans e10).trans e11, by rw [hob, hgo]; rfl, _, _, _, _, _, _, _, rfl⟩
    | some o =>
      rw [hdf2] at hend hgo
      obtain ⟨l, rfl, hl, hlf⟩ := hend
      refine w_nF (fun z => nomatch z) ?_
      walk_at "go"
      refine k _ _ _ _ j11 E11 ⟨rfl, ?_⟩
      rw [hgo]
      refine ⟨l, rfl, hl, .inr ?_⟩
      rcases hlf with z | z
      · rw [z]; exact (E8.trans e9).free nl10
      · exact ((E8.trans e9).trans e10).free z
  · rintro σ G4 H4 j4 e4 ⟨htr, x3, x4, x5, x6, x7, x8, x9, rfl⟩
    walk_at "go"
    have hl : (recK r.l).length = r.ds.length := by unfold recK; rw [List.length_map, lds]
    rw [hl, List.drop_length] at htr
    exact k _ _ _ _ j4 (E3.trans e4) ⟨rfl, by rw [htr]; rfl⟩
theorem ok_Record_order_behind {P : Program} {w : World} {K : PySem.W.Frag} {mg : Str → Option Value} {base : Heap}
    {C_Record : Addr} (T_Record : Tx_Record K mg C_Record)
    {C_Asked : Addr} (T_Asked : Tx_Asked K mg C_Asked)
    {f : Addr} {fd : FuncData} (D : Dm K C_Record "order_behind" "Record.order_behind" s_Record_order_behind ["self", "chosen", "table"] f fd)
    (b_all : mg "all" = none)
    (c_are_same : Cal P w K mg base CX0 10 "are_same" (spSame K 4))
    (c_execute : Cal P w K mg base CX0 4 "execute" (sp_execute K))
    (c_Record_told : CalM P w K mg base CX0 1 C_Record "told" (sp_Record_told K C_Record C_Asked)) : CalM P w K mg base CX0 22 C_Record "order_behind" (sp_Record_order_behind K C_Record C_Asked) := by
  have all : ∀ n, CalM P w K mg base CX0 (n + 14) C_Record "order_behind" (spOB K C_Record C_Asked n) := fun n => by
    induction n with
    | zero => exact aux_ob T_Record T_Asked D b_all c_are_same c_execute c_Record_told 0 ⟨f, fd, _, ⟨fun _ _ _ _ h => h.elim, fun _ _ _ _ _ _ _ _ _ _ _ _ _ h => h.elim⟩, D.me, D.bn⟩
    | succ n ih => exact aux_ob T_Record T_Asked D b_all c_are_same c_execute c_Record_told (n + 1) ih
  exact all 8
/-! ### Asked.__init__ -/
abbrev s_Asked___init__ : Stmt := inClass (top 26) 0
abbrev n_Asked___init__ : List Str := ["self", "ops", "earlier"]
theorem sc_Asked___init__ : FnScope n_Asked___init__ ["self", "ops", "earlier"] (defScope s_Asked___init__) := ⟨rfl, rfl, rfl, by decide +kernel, rfl, by decide +kernel, by decide +kernel⟩
structure AiP where
  x : Addr
  dx : Addr
  a : V
  b : V
def sp_Asked___init__ (K : PySem.W.Frag) (C : Addr) : Sp := Sg (α := AiP) (fun x vs M _ => vs = [.ref x.x, x.a, x.b] ∧ M x.x = some (.ins C x.dx [])) (fun x M G v M' G' => v = .non ∧ M' = upd M x.x (.ins C x.dx (fl_Asked x.a x.b .non)) ∧ G' = G)
theorem ok_Asked___init__ {P : Program} {w : World} {K : PySem.W.Frag} {mg : Str → Option Value} {base : Heap}
    {C_Asked : Addr} (T_Asked : Tx_Asked K mg C_Asked)
    {f : Addr} {fd : FuncData} (D : Di K C_Asked "Asked.__init__" s_Asked___init__ ["self", "ops", "earlier"] f fd) : CalI P w K mg base CX0 1 C_Asked (sp_Asked___init__ K C_Asked) := by
  refine D.ok sc_Asked___init__ (fun vs H Q E h => ?_) fun cdv A outer s H vs Q E hr h => ?_
  · obtain ⟨x, M, G, j, ⟨rfl, _⟩, _⟩ := h; rfl
  obtain ⟨⟨x, dx, a, b⟩, M, G, j, ⟨rfl, hx⟩, k⟩ := h
  dsimp only at hx k
  refine ⟨_, (pss_cons (ps_fld (pv 0) (pv 1) rfl)
(pss_cons (ps_fld (pv 0) (pv 2) rfl)
(pss_one (ps_fld (pv 0) pe_non rfl)))), ?_⟩
  walk_at "start"
  refine w_setX j hx T_Asked.cl T_Asked.n_ops (by show 0 < 1000; decide) fun H1 j1 => ?_
  walk_at "go"
  refine w_setX j1 upd_same T_Asked.cl T_Asked.n_earlier (by show 1 < 1000; decide) fun H2 j2 => ?_
  rw [upd_upd] at j2
  walk_at "go"
  refine w_setX j2 upd_same T_Asked.cl T_Asked.n_answer (by show 2 < 1000; decide) fun H3 j3 => ?_
  rw [upd_upd] at j3
  walk_at "go"
  exact k _ _ _ _ j3 (Same.refl G) ⟨rfl, rfl, rfl⟩
/-! ### is_scan -/
abbrev s_is_scan : Stmt := top 15
abbrev n_is_scan : List Str := ["low", "high"]
theorem sc_is_scan : FnScope n_is_scan ["low", "high"] (defScope s_is_scan) := ⟨rfl, rfl, rfl, by decide +kernel, rfl, by decide +kernel, by decide +kernel⟩
def sp_is_scan (K : PySem.W.Frag) : Sp := Sg (α := V × V) (fun x vs _ _ => vs = [x.1, x.2] ∧ flatV x.1 = true ∧ flatV x.2 = true) (fun x M _ v M' _ => v = .bl (scanB x.1 x.2) ∧ M' = M)
theorem isI_int {x : V} (h : isI x = true) : ∃ a, x = .int a := by cases x <;> first | exact ⟨_, rfl⟩ | exact absurd h Bool.false_ne_true
theorem scanB_no {x y : V} (h : isI x = false ∨ isI y = false) : scanB x y = false := by
  cases x <;> first
    | rfl
    | (cases y <;> first
      | exact Bool.and_false _
      | (rcases h with h | h <;> cases h))
theorem scanB_ii (a b : Int) : scanB (.int a) (.int b) = (decide (0 ≤ a) && (decide (a ≤ b) && decide (b ≤ 1000))) := by
  show (decide (0 ≤ a ∧ a ≤ 1000) && decide (a ≤ b ∧ b ≤ 1000)) = _
  by_cases h1 : 0 ≤ a <;> by_cases h2 : a ≤ b <;> by_cases h3 : b ≤ 1000 <;> simp [h1, h2, h3] <;> omega
theorem ok_is_scan {P : Program} {w : World} {K : PySem.W.Frag} {mg : Str → Option Value} {base : Heap}
    {f : Addr} {fd : FuncData} (D : Dn K mg "is_scan" s_is_scan ["low", "high"] f fd)
    (g_KEYS : ∃ u, mg "KEYS" = some u ∧ RelV (.int 1000) u)
    (c_is_plain_integer : Cal P w K mg base CX0 1 "is_plain_integer" (sp_is_plain_integer K)) : Cal P w K mg base CX0 2 "is_scan" (sp_is_scan K) := by
  refine D.ok sc_is_scan (fun vs H Q E h => ?_) fun cdv A outer s H vs Q E hr h => ?_
  · obtain ⟨x, M, G, j, ⟨rfl, _⟩, _⟩ := h; rfl
  obtain ⟨⟨x, y⟩, M, G, j, ⟨rfl, hx, hy⟩, k⟩ := h
  dsimp only at hx hy k
  refine ⟨_, (pss_one (ps_ret (pe_and (pe_cal c_is_plain_integer hr (by first | decide | omega) (by rfl) (pa_cons (pv 0) pa_nil)) (pe_and (pe_cal c_is_plain_integer hr (by first | decide | omega) (by rfl) (pa_cons (pv 1) pa_nil)) (pe_one (pe_chain3 op_le op_le op_le pe_int (pv 0) (pv 1) (pe_gk (by rfl) g_KEYS))))))), ?_⟩
  walk_at "start"
  refine w_sg x j ⟨rfl, .inl hx⟩ fun v M' G' H' j1 e1 ⟨ev, em⟩ => ?_
  subst ev em
  have fin : ∀ b, b = scanB x y → ∀ G'' H'', J M' G'' H'' → Ex G G'' → Q (.bl b) H'' := fun b e G'' H'' j e1 => k _ _ _ _ j e1 ⟨by rw [e], rfl⟩
  refine w_bl ?_
  cases hi : isI x with
  | false => refine w_F ?_; walk_at "go"; exact fin _ (scanB_no (.inl hi)).symm _ _ j1 e1
  | true =>
    refine w_T ?_
    walk_at "go"
    refine w_sg y j1 ⟨rfl, .inl hy⟩ fun v M' G2 H2 j2 e2 ⟨ev, em⟩ => ?_
    subst ev em
    refine w_bl ?_
    have e2 := e1.trans e2
    cases hj : isI y with
    | false => refine w_F ?_; walk_at "go"; exact fin _ (scanB_no (.inr hj)).symm _ _ j2 e2
    | true =>
      refine w_T ?_
      obtain ⟨a, rfl⟩ := isI_int hi
      obtain ⟨b, rfl⟩ := isI_int hj
      have sb := scanB_ii a b
      walk_at "go"
      refine w_dec (fun h1 => ?_) (fun h1 => ?_)
      · walk_at "go"
        refine w_dec (fun h2 => ?_) (fun h2 => ?_)
        · walk_at "go"
          exact fin _ (by rw [sb, decide_eq_true h1, decide_eq_true h2]; rfl) _ _ j2 e2
        · walk_at "go"
          exact fin _ (by rw [sb, decide_eq_true h1, decide_eq_false h2]; rfl) _ _ j2 e2
      · walk_at "go"
        exact fin _ (by rw [sb, decide_eq_false h1]; rfl) _ _ j2 e2
/-! ### is_key -/
abbrev s_is_key : Stmt := top 13
abbrev n_is_key : List Str := ["thing"]
theorem sc_is_key : FnScope n_is_key ["thing"] (defScope s_is_key) := ⟨rfl, rfl, rfl, by decide +kernel, rfl, by decide +kernel, by decide +kernel⟩
def sp_is_key (K : PySem.W.Frag) : Sp := Sg (α := V) (fun x vs _ _ => vs = [x] ∧ flatV x = true) (fun x M _ v M' _ => v = .bl (keyB x) ∧ M' = M)
theorem ok_is_key {P : Program} {w : World} {K : PySem.W.Frag} {mg : Str → Option Value} {base : Heap}
    {f : Addr} {fd : FuncData} (D : Dn K mg "is_key" s_is_key ["thing"] f fd)
    (g_KEYS : ∃ u, mg "KEYS" = some u ∧ RelV (.int 1000) u)
    (c_is_plain_integer : Cal P w K mg base CX0 1 "is_plain_integer" (sp_is_plain_integer K)) : Cal P w K mg base CX0 2 "is_key" (sp_is_key K) := by
  refine D.ok sc_is_key (fun vs H Q E h => ?_) fun cdv A outer s H vs Q E hr h => ?_
  · obtain ⟨x, M, G, j, ⟨rfl, _⟩, _⟩ := h; rfl
  obtain ⟨x, M, G, j, ⟨rfl, hx⟩, k⟩ := h
  refine ⟨_, (pss_one (ps_ret (pe_and (pe_cal c_is_plain_integer hr (by first | decide | omega) (by rfl) (pa_cons (pv 0) pa_nil)) (pe_one (pe_chain op_le op_lt pe_int (pv 0) (pe_gk (by rfl) g_KEYS)))))), ?_⟩
  walk_at "start"
  refine w_sg x j ⟨rfl, .inl hx⟩ fun v M' G' H' j1 e1 ⟨ev, em⟩ => ?_
  subst ev em
  have fin : ∀ b, b = keyB x → Q (.bl b) H' := fun b e => k _ _ _ _ j1 e1 ⟨by rw [e], rfl⟩
  cases x with
  | non => walk_at "go"; exact fin _ rfl
  | bl b => walk_at "go"; exact fin _ rfl
  | str b => walk_at "go"; exact fin _ rfl
  | byt b => cases hx
  | flt b => cases hx
  | ref b => cases hx
  | ty b => cases hx
  | int b =>
    dsimp only [isI]
    walk_at "go"
    refine w_dec (fun h => ?_) (fun h => ?_)
    · walk_at "go"
      refine fin _ ?_
      by_cases h2 : b < 1000
      · rw [decide_eq_true h2]; exact (decide_eq_true (show IsKey b from ⟨h, h2⟩)).symm
      · rw [decide_eq_false h2]; exact (decide_eq_false (show ¬ IsKey b from fun z => h2 z.2)).symm
    · walk_at "go"
      exact fin _ (decide_eq_false (show ¬ IsKey b from fun z => h z.1)).symm
/-! ### is_operation -/
abbrev s_is_operation : Stmt := top 16
abbrev n_is_operation : List Str := ["thing", "word", "first", "second"]
theorem sc_is_operation : FnScope n_is_operation ["thing"] (defScope s_is_operation) := ⟨rfl, rfl, rfl, by decide +kernel, rfl, by decide +kernel, by decide +kernel⟩
def sp_is_operation (K : PySem.W.Frag) : Sp := Sg (α := Itm) (fun x vs _ G => vs = [.ref x.t] ∧ ItmAt K G x) (fun x M _ v M' _ => v = .bl (itB x) ∧ M' = M)
theorem isV_in (x : V) : isV x = inB (-1000000000000000000) 1000000000000000000 x := by cases x <;> rfl
theorem opB_two {x y : V} : opB [x, y] = (match x with | .str w => decide (w = "get") && keyB y | _ => false) := by cases x <;> rfl
theorem opB_nostr {x : V} {r : List V} (h : ∀ w, x ≠ .str w) : opB (x :: r) = false := by
  cases x <;> first
    | exact absurd rfl (h _)
    | rfl
    | (unfold opB; split <;> first | rfl | (rename_i e; cases e))
theorem opB_long {x y z u : V} {r : List V} : opB (x :: y :: z :: u :: r) = false := by cases x <;> rfl
theorem opB_one {x : V} : opB [x] = false := by cases x <;> rfl
theorem ne_op {a b : Str} (h : decide (a = b) = false) : ¬ a = b := of_decide_eq_false h
theorem two_in (w : Str) : inV (.str w) [V.str "put", V.str "need"] = (decide (("put" : Str) = w) || decide (("need" : Str) = w)) := by
  show ((("put" : Str) == w) || ((("need" : Str) == w) || false)) = _
  rw [Bool.or_false, Bool.beq_eq_decide_eq, Bool.beq_eq_decide_eq]
theorem ok_is_operation {P : Program} {w : World} {K : PySem.W.Frag} {mg : Str → Option Value} {base : Heap}
    {f : Addr} {fd : FuncData} (D : Dn K mg "is_operation" s_is_operation ["thing"] f fd)
    (b_len : mg "len" = none)
    (b_isinstance : mg "isinstance" = none)
    (b_str : mg "str" = none)
    (b_tuple : mg "tuple" = none)
    (c_is_value : Cal P w K mg base CX0 2 "is_value" (sp_is_value K))
    (c_is_key : Cal P w K mg base CX0 2 "is_key" (sp_is_key K))
    (c_is_scan : Cal P w K mg base CX0 2 "is_scan" (sp_is_scan K)) : Cal P w K mg base CX0 3 "is_operation" (sp_is_operation K) := by
  refine D.ok sc_is_operation (fun vs H Q E h => ?_) fun cdv A outer s H vs Q E hr h => ?_
  · obtain ⟨x, M, G, j, ⟨rfl, _⟩, _⟩ := h; rfl
  obtain ⟨⟨tp, t, vs⟩, M, G, j, ⟨rfl, hi⟩, k⟩ := h
  obtain ⟨ht, hf, hl⟩ := hi
  dsimp only at ht hf hl k
  refine ⟨_, (pss_cons (ps_if (PW.pt (pw_or (pt_not (pt_val (pe_callB (call_isiK' (K := K) rfl) (by rfl) b_isinstance bt_isinstance (pa_cons (pv 0) (pa_cons (pe_bltn (v := .ty "tuple") (by rfl) b_tuple bt_tuple rfl) pa_nil))))) (pw_or (pt_cmpR op_lt (pe_callB (call_uLenK (K := K) rfl) (by rfl) b_len PySem.boot_len (pa_cons (pv 0) pa_nil)) pe_int (nomark _)) (pw_or1 (pt_not (pt_val (pe_callB (call_isiK' (K := K) rfl) (by rfl) b_isinstance bt_isinstance (pa_cons (pe_ix (ix_uK (K := K) rfl) (pv 0) pe_int (fun _ _ => rfl)) (pa_cons (pe_bltn (v := .ty "str") (by rfl) b_str bt_str rfl) pa_nil)))))))))
(pss_one (ps_ret pe_bl))
pss_nil)
(pss_cons (ps_if (pt_cmpR (op_uEqK (K := K) rfl hr) (pe_ix (ix_uK (K := K) rfl) (pv 0) pe_int (fun _ _ => rfl)) pe_str (nomark _))
(pss_one (ps_ret (pe_and (pe_cmpR (op_uEqK (K := K) rfl hr) (pe_callB (call_uLenK (K := K) rfl) (by rfl) b_len PySem.boot_len (pa_cons (pv 0) pa_nil)) pe_int (nomark _)) (pe_one (pe_cal c_is_key hr (by first | decide | omega) (by rfl) (pa_cons (pe_ix (ix_uK (K := K) rfl) (pv 0) pe_int (fun _ _ => rfl)) pa_nil))))))
pss_nil)
(pss_cons (ps_if (pt_cmpR (op_uNeK (K := K) rfl hr) (pe_callB (call_uLenK (K := K) rfl) (by rfl) b_len PySem.boot_len (pa_cons (pv 0) pa_nil)) pe_int (nomark _))
(pss_one (ps_ret pe_bl))
pss_nil)
(pss_cons (ps_asg (pv 0) (pg_tup rfl (pgs_cons (pg_name (i := 1) sc_is_operation.nd rfl (Or.inl rfl)) (pgs_cons (pg_name (i := 2) sc_is_operation.nd rfl (Or.inl rfl)) (pgs_cons (pg_name (i := 3) sc_is_operation.nd rfl (Or.inl rfl)) pgs_nil)))))
(pss_cons (ps_if (pt_cmpR (op_uEqK (K := K) rfl hr) (pv 1) pe_str (nomark _))
(pss_one (ps_ret (pe_cal c_is_scan hr (by first | decide | omega) (by rfl) (pa_cons (pv 2) (pa_cons (pv 3) pa_nil)))))
pss_nil)
(pss_cons (ps_if (pt_cmpR (op_uEqK (K := K) rfl hr) (pv 1) pe_str (nomark _))
(pss_one (ps_ret (pe_and (pe_cal c_is_key hr (by first | decide | omega) (by rfl) (pa_cons (pv 2) pa_nil)) (pe_one (pe_cal c_is_value hr (by first | decide | omega) (by rfl) (pa_cons (pv 3) pa_nil))))))
pss_nil)
(pss_one (ps_ret (pe_and (pe_cmpR (op_inK (K := K) rfl) (pv 1) (pe_tup (pa_cons pe_str (pa_cons pe_str pa_nil))) (by with_unfolding_all rfl)) (pe_and (pe_cal c_is_key hr (by first | decide | omega) (by rfl) (pa_cons (pv 2) pa_nil)) (pe_one (pe_or (pe_cmp (pc_isN (pv 3))) (pe_one (pe_cal c_is_value hr (by first | decide | omega) (by rfl) (pa_cons (pv 3) pa_nil))))))))))))))), ?_⟩
  walk_at "start"
  have fin : ∀ b, b = (tp && opB vs) → ∀ G' H', J M G' H' → Ex G G' → Q (.bl b) H' := fun b e G' H' j e' => k _ _ _ _ j e' ⟨by rw [e]; rfl, rfl⟩
  cases tp with
  | false =>
    have ht : SqL K G t vs := ht
    refine w_isi false (ty_L (sl_mono j.g ht)) (by rfl) ?_
    walk_at "go"
    exact fin _ rfl G H j (Same.refl G)
  | true =>
    have ht : SqT K G t vs := ht
    refine w_isi true (ty_T (st_mono j.g ht)) (by rfl) ?_
    walk_at "go"
    refine w_lenT j ht ?_
    walk_at "go"
    match vs, ht, hf, fin with
    | [], ht, hf, fin =>
      refine w_dT (by decide) ?_
      walk_at "go"
      exact fin _ rfl G H j (Same.refl G)
    | [x], ht, hf, fin =>
      refine w_dT (by simp) ?_
      walk_at "go"
      exact fin _ (by rw [opB_one]; rfl) G H j (Same.refl G)
    | x :: y :: r, ht, hf, fin =>
      refine w_dF (by simp only [List.length_cons]; omega) ?_
      walk_at "go"
      refine w_ixT j ht atI_0 ?_
      walk_at "go"
      by_cases hs : ∃ w, x = .str w
      case neg =>
        have hx := hf x List.mem_cons_self
        have no := opB_nostr (x := x) (r := y :: r) fun w e => hs ⟨w, e⟩
        cases x with
        | str w => exact absurd ⟨w, rfl⟩ hs
        | non => walk_at "go"; exact fin _ (by rw [no]; rfl) G H j (Same.refl G)
        | bl b => walk_at "go"; exact fin _ (by rw [no]; rfl) G H j (Same.refl G)
        | int b => walk_at "go"; exact fin _ (by rw [no]; rfl) G H j (Same.refl G)
        | byt b => cases hx
        | flt b => cases hx
        | ref b => cases hx
        | ty b => cases hx
      case pos =>
        obtain ⟨w, rfl⟩ := hs
        have hy : flatV y = true := hf y (List.mem_cons_of_mem _ List.mem_cons_self)
        walk_at "go"
        refine w_ixT j ht atI_0 ?_
        refine w_eqS rfl ?_
        walk_at "go"
        refine w_dec (fun hw => ?_) (fun hw => ?_)
        · walk_at "go"
          refine w_lenT j ht ?_
          walk_at "go"
          refine w_dec (fun h2 => ?_) (fun h2 => ?_)
          · have h2 : r = [] := by simp only [List.length_cons] at h2; exact List.eq_nil_of_length_eq_zero (by omega)
            subst h2
            walk_at "go"
            refine w_ixT j ht (by rfl) ?_
            walk_at "go"
            refine w_sg y j ⟨rfl, hy⟩ fun v M1 G1 H1 j1 e1 ⟨ev, em⟩ => ?_
            subst ev em
            exact fin _ (by rw [opB_two]; dsimp only; rw [decide_eq_true hw]; rfl) _ _ j1 e1
          · walk_at "go"
            refine fin _ ?_ G H j (Same.refl G)
            cases r with
            | nil => exact absurd rfl h2
            | cons z r =>
              cases r with
              | nil => show false = (true && (if w = "get" then false else wordB w y z)); rw [if_pos hw]; rfl
              | cons u r => rw [opB_long]; rfl
        · walk_at "go"
          refine w_lenT j ht ?_
          walk_at "go"
          match r, ht, hf, fin with
          | [], ht, hf, fin =>
            refine w_nF (by simp) ?_
            walk_at "go"
            exact fin _ (by rw [opB_two]; dsimp only; rw [decide_eq_false hw]; rfl) G H j (Same.refl G)
          | z :: u :: r, ht, hf, fin =>
            refine w_nF (by simp only [List.length_cons]; omega) ?_
            walk_at "go"
            exact fin _ (by rw [opB_long]; rfl) G H j (Same.refl G)
          | [z], ht, hf, fin =>
            have hz : flatV z = true := hf z (List.mem_cons_of_mem _ (List.mem_cons_of_mem _ List.mem_cons_self))
            refine w_nT (by simp) ?_
            have fin : ∀ b, b = wordB w y z → ∀ G' H', J M G' H' → Ex G G' → Q (.bl b) H' := fun b e => fin b (by rw [e]; show _ = (true && (if w = "get" then false else wordB w y z)); rw [if_neg hw]; rfl)
            walk_at "go"
            refine w_gTup j ht rfl ?_
            refine w_gCons (w_gName (w_gCons (w_gName (w_gCons (w_gName (w_gNil ?_))))))
            walk_at "go"
            refine w_eqS rfl ?_
            walk_at "go"
            refine w_dec (fun h1 => ?_) (fun h1 => ?_)
            · walk_at "go"
              refine w_sg (y, z) j ⟨rfl, hy, hz⟩ fun v M1 G1 H1 j1 e1 ⟨ev, em⟩ => ?_
              subst ev em
              exact fin _ (by unfold wordB; rw [if_pos h1]) _ _ j1 e1
            · walk_at "go"
              refine w_eqS rfl ?_
              walk_at "go"
              refine w_dec (fun h2 => ?_) (fun h2 => ?_)
              · walk_at "go"
                refine w_sg y j ⟨rfl, hy⟩ fun v M1 G1 H1 j1 e1 ⟨ev, em⟩ => ?_
                subst ev em
                refine w_bl ?_
                cases hk : keyB y with
                | false =>
                  refine w_F ?_
                  exact fin _ (by unfold wordB; rw [if_neg h1, if_pos h2, hk]; rfl) _ _ j1 e1
                | true =>
                  refine w_T ?_
                  walk_at "go"
                  refine w_sg z j1 ⟨rfl, hz⟩ fun v M2 G2 H2 j2 e2 ⟨ev, em⟩ => ?_
                  subst ev em
                  exact fin _ (by unfold wordB; rw [if_neg h1, if_pos h2, hk, isV_in]; rfl) _ _ j2 (e1.trans e2)
              · walk_at "go"
                refine w_new j (by decide) fun q G2 H2 j2 e2 hq nq => ?_
                refine w_inT j2 (st_of hq) (by rfl) (by rfl) ?_
                refine w_bl ?_
                cases hw2 : inV (.str w) [V.str "put", V.str "need"] with
                | false =>
                  have h3 : ¬ (w = "put" ∨ w = "need") := fun z => by
                    rw [two_in] at hw2
                    rcases z with z | z <;> subst z <;> revert hw2 <;> decide
                  refine w_F ?_
                  walk_at "go"
                  exact fin _ (by unfold wordB; rw [if_neg h1, if_neg h2, if_neg h3]) _ _ j2 e2
                | true =>
                  have h3 : w = "put" ∨ w = "need" := by
                    rw [two_in] at hw2
                    rcases Bool.or_eq_true_iff.mp hw2 with z | z
                    · exact .inl (of_decide_eq_true z).symm
                    · exact .inr (of_decide_eq_true z).symm
                  have fin : ∀ b, b = (keyB y && (decide (z = .non) || inB (-1000000000000000000) 1000000000000000000 z)) → ∀ G' H', J M G' H' → Ex G G' → Q (.bl b) H' := fun b e => fin b (by rw [e]; unfold wordB; rw [if_neg h1, if_neg h2, if_pos h3])
                  refine w_T ?_
                  walk_at "go"
                  refine w_sg y j2 ⟨rfl, hy⟩ fun v M3 G3 H3 j3 e3 ⟨ev, em⟩ => ?_
                  subst ev em
                  have E3 := e2.trans e3
                  refine w_bl ?_
                  cases hk : keyB y with
                  | false =>
                    refine w_F ?_
                    walk_at "go"
                    exact fin _ (by rw [hk]; rfl) _ _ j3 E3
                  | true =>
                    refine w_T ?_
                    walk_at "go"
                    by_cases hn : z = .non
                    · refine w_dT hn ?_
                      exact fin _ (by rw [hk, decide_eq_true hn]; rfl) _ _ j3 E3
                    · refine w_dF hn ?_
                      walk_at "go"
                      refine w_sg z j3 ⟨rfl, hz⟩ fun v M4 G4 H4 j4 e4 ⟨ev, em⟩ => ?_
                      subst ev em
                      exact fin _ (by rw [hk, decide_eq_false hn, isV_in]; rfl) _ _ j4 (E3.trans e4)
/-! ### check_deal -/
abbrev s_check_deal : Stmt := top 17
abbrev n_check_deal : List Str := ["ops", "op"]
theorem sc_check_deal : FnScope n_check_deal ["ops"] (defScope s_check_deal) := ⟨rfl, rfl, rfl, by decide +kernel, rfl, by decide +kernel, by decide +kernel⟩
def sp_check_deal (K : PySem.W.Frag) (C : Addr) : Sp := Sx (α := V × Option (List Itm)) (fun x vs _ G => vs = [x.1] ∧ ThAt K G x.1 x.2)
  (fun x M _ v M' _ => v = .non ∧ M' = M ∧ thB x.2 = true) (fun x M _ c M' _ => c = C ∧ M' = M ∧ thB x.2 = false)
theorem not_all {is : List Itm} {i : Nat} {x : Itm} (h : is[i]? = some x) (n : itB x = false) : is.all itB = false := by
  cases e : is.all itB with
  | false => rfl
  | true =>
    have := List.all_eq_true.mp e x (List.mem_of_getElem? h)
    rw [n] at this
    cases this
theorem ok_check_deal {P : Program} {w : World} {K : PySem.W.Frag} {mg : Str → Option Value} {base : Heap}
    {f : Addr} {fd : FuncData} (D : Dn K mg "check_deal" s_check_deal ["ops"] f fd)
    (b_len : mg "len" = none)
    (b_isinstance : mg "isinstance" = none)
    (b_list : mg "list" = none)
    (g_MOST_OPERATIONS : ∃ u, mg "MOST_OPERATIONS" = some u ∧ RelV (.int 6) u)
    {A_BadDeal : Addr} (x_BadDeal : Xc K mg "BadDeal" A_BadDeal)
    (c_is_operation : Cal P w K mg base CX0 3 "is_operation" (sp_is_operation K)) : Cal P w K mg base (L2N.CX P w) 4 "check_deal" (sp_check_deal K A_BadDeal) := by
  refine D.okXN sc_check_deal (fun vs H Q E h => ?_) fun cdv A outer s H vs Q E hr h => ?_
  · obtain ⟨x, M, G, j, ⟨rfl, _⟩, _⟩ := h; rfl
  obtain ⟨⟨v0, x0⟩, M, G, j, ⟨rfl, hth⟩, k, kx⟩ := h
  dsimp only at hth k kx
  refine ⟨_, (pss_cons (ps_if (pt_not (pt_val (pe_callB (call_isiK' (K := K) rfl) (by rfl) b_isinstance bt_isinstance (pa_cons (pv 0) (pa_cons (pe_bltn (v := .ty "list") (by rfl) b_list bt_list rfl) pa_nil)))))
(pss_one (ps_raiseAN rfl (L2N.takes_of rfl rfl rfl rfl) x_BadDeal (by rfl)))
pss_nil)
(pss_cons (ps_if (pt_not (pt_chain op_le op_le pe_int (pe_callB (call_uLenK (K := K) rfl) (by rfl) b_len PySem.boot_len (pa_cons (pv 0) pa_nil)) (pe_gk (by rfl) g_MOST_OPERATIONS)))
(pss_one (ps_raiseAN rfl (L2N.takes_of rfl rfl rfl rfl) x_BadDeal (by rfl)))
pss_nil)
(pss_one (ps_for (passes_of rfl) rfl (pi_list (pv 0)) (pg_name (i := 1) sc_check_deal.nd rfl (Or.inl rfl))
(pss_one (ps_if (pt_not (pt_val (pe_cal c_is_operation hr (by first | decide | omega) (by rfl) (pa_cons (pv 1) pa_nil))))
(pss_one (ps_raiseAN rfl (L2N.takes_of rfl rfl rfl rfl) x_BadDeal (by rfl)))
pss_nil)))))), ?_⟩
  walk_at "start"
  cases x0 with
  | none =>
    rcases hth with rfl | ⟨t, xs, rfl, ht⟩
    · refine w_isi false ty_non (by rfl) ?_
      walk_at "go"
      exact kx _ _ _ _ j (Same.refl G) ⟨rfl, rfl, rfl⟩
    · refine w_isi false (ty_T (st_mono j.g ht)) (by rfl) ?_
      walk_at "go"
      exact kx _ _ _ _ j (Same.refl G) ⟨rfl, rfl, rfl⟩
  | some is =>
  obtain ⟨a, rfl, ha, hi, hl⟩ := hth
  have bad : dealB is = false → ∀ G' H', J M G' H' → Ex G G' → E (.ref A_BadDeal) none H' := fun b G' H' j e => kx _ _ _ _ j e ⟨rfl, rfl, b⟩
  refine w_isi true (ty_L (sl_mono j.g ha)) (by rfl) ?_
  walk_at "go"
  refine w_lenL j ha ?_
  walk_at "go"
  rw [List.length_map]
  have fall : ¬ (1 ≤ is.length ∧ is.length ≤ 6) → dealB is = false := fun n => by unfold dealB; rw [decide_eq_false n]; rfl
  refine w_dec (fun h1 => ?_) (fun h1 => ?_)
  · walk_at "go"
    refine w_decN (fun h2 => ?_) (fun h2 => ?_)
    · walk_at "go"
      exact bad (fall fun z => h2 (by omega)) G H j (Same.refl G)
    · walk_at "go"
      have hlen : 1 ≤ is.length ∧ is.length ≤ 6 := ⟨by omega, by omega⟩
      refine w_forLV rfl (fun n σ H => ∃ G1 y, J M G1 H ∧ Ex G G1 ∧ (∀ (m : Nat) (x : Itm), m < n → is[m]? = some x → itB x = true) ∧ σ = [some (.ref a), y]) (xs := is.map fun i => V.ref i.t) (sl_mono j.g ha) ?_ ?_ ?_ ?_
      · exact ⟨G, _, j, Same.refl G, fun m x h => absurd h (Nat.not_lt_zero m), rfl⟩
      · rintro n σ H _ ⟨G1, y, j, e, _⟩
        exact sl_mono j.g (sl_mono e ha)
      · rintro n x σ H hx ⟨G1, y, j, e, ok, rfl⟩
        rw [List.getElem?_map] at hx
        cases hn : is[n]? with
        | none => rw [hn] at hx; cases hx
        | some i =>
          rw [hn] at hx
          cases hx
          walk_at "go"
          refine w_sg i j ⟨rfl, (hi i (List.mem_of_getElem? hn)).ex e⟩ fun v M2 G2 H2 j2 e2 ⟨ev, em⟩ => ?_
          subst ev em
          refine w_bl ?_
          cases hb : itB i with
          | false =>
            refine w_nf ?_
            walk_at "go"
            refine bad ?_ _ _ j2 (e.trans e2)
            unfold dealB
            rw [not_all hn hb, Bool.and_false]
          | true =>
            refine w_nt ?_
            walk_at "go"
            refine ⟨G2, _, j2, e.trans e2, fun m x hm hx => ?_, rfl⟩
            by_cases q : m = n
            · subst q; rw [hn] at hx; cases hx; exact hb
            · exact ok m x (by omega) hx
      · rintro σ H ⟨G1, y, j, e, ok, rfl⟩
        rw [List.length_map] at ok
        walk_at "go"
        refine k _ _ _ _ j e ⟨rfl, rfl, ?_⟩
        show dealB is = true
        unfold dealB
        rw [decide_eq_true hlen]
        refine List.all_eq_true.mpr fun x hx => ?_
        obtain ⟨m, hm⟩ := List.getElem?_of_mem hx
        exact ok m x (List.getElem?_eq_some_iff.mp hm).1 hm
  · walk_at "go"
    exact bad (fall fun z => h1 (by omega)) G H j (Same.refl G)
/-! ### Record.ask -/
abbrev s_Record_ask : Stmt := inClass (top 27) 2
abbrev n_Record_ask : List Str := ["self", "name", "ops"]
theorem sc_Record_ask : FnScope n_Record_ask ["self", "name", "ops"] (defScope s_Record_ask) := ⟨rfl, rfl, rfl, by decide +kernel, rfl, by decide +kernel, by decide +kernel⟩
structure AkP where
  M0 : Hp
  r : RecA
  n : Int
  v : V
  x : Dth
def sp_Record_ask (K : PySem.W.Frag) (X C D : Addr) : Sp := Sx (α := AkP) (fun x vs M G => vs = [.ref x.r.p, .int x.n, x.v] ∧ RecAt K C D none M G x.r ∧ RecN x.M0 M x.r ∧ DthAt K G x.v x.x ∧ x.r.l.length ≤ 7) (fun x M _ v M' G' => okAsk x.r.ds x.n x.x ∧ RdEnd K C D x.M0 x.r (.ask x.n (opsOf x.x)) v M' G') (fun x M _ c M' _ => c = X ∧ M' = M ∧ ¬ okAsk x.r.ds x.n x.x)
theorem ok_Record_ask {P : Program} {w : World} {K : PySem.W.Frag} {mg : Str → Option Value} {base : Heap}
    {C_Record : Addr} (T_Record : Tx_Record K mg C_Record)
    {C_Asked : Addr} (T_Asked : Tx_Asked K mg C_Asked)
    {f : Addr} {fd : FuncData} (D : Dm K C_Record "ask" "Record.ask" s_Record_ask ["self", "name", "ops"] f fd)
    (b_len : mg "len" = none)
    (g_MOST_NAMES : ∃ u, mg "MOST_NAMES" = some u ∧ RelV (.int 7) u)
    {A_BadHistory : Addr} (x_BadHistory : Xc K mg "BadHistory" A_BadHistory)
    {A_BadDeal : Addr} (x_BadDeal : Xc K mg "BadDeal" A_BadDeal)
    (c_Asked___init__ : CalI P w K mg base CX0 1 C_Asked (sp_Asked___init__ K C_Asked))
    (c_Record_told : CalM P w K mg base CX0 1 C_Record "told" (sp_Record_told K C_Record C_Asked))
    (c_check_deal : Cal P w K mg base (L2N.CX P w) 4 "check_deal" (sp_check_deal K A_BadDeal)) : CalM P w K mg base (L2.CX P w) 5 C_Record "ask" (sp_Record_ask K A_BadHistory C_Record C_Asked) := by
  refine D.okX sc_Record_ask (fun vs H Q E h => ?_) fun cdv A outer s H vs Q E hr h => ?_
  · obtain ⟨x, M, G, j, ⟨rfl, _⟩, _⟩ := h; rfl
  obtain ⟨⟨M0, r, n, v, x⟩, M, G, j, ⟨rfl, hR, hN, hdt, hl7⟩, k, kx⟩ := h
  dsimp only at hR hN hdt hl7 k kx
  refine ⟨_, (pss_cons (ps_if (pt_cmp (pc_din (hu_of hr) (pv 1) (pe_fld (pv 0) rfl)))
(pss_one (ps_raiseA rfl (takes_of rfl rfl rfl rfl) x_BadHistory (by rfl)))
pss_nil)
(pss_cons (ps_if (pt_cmpR (op_uEqK (K := K) rfl hr) (pe_callB (call_uLenK (K := K) rfl) (by rfl) b_len PySem.boot_len (pa_cons (pe_fld (pv 0) rfl) pa_nil)) (pe_gk (by rfl) g_MOST_NAMES) (nomark _))
(pss_one (ps_raiseA rfl (takes_of rfl rfl rfl rfl) x_BadHistory (by rfl)))
pss_nil)
(pss_cons (ps_tryH rfl rfl ⟨by rfl, by decide, Or.inl x_BadDeal.gP⟩ (fun hd => L2H.passesAt_of rfl hd) (takes_of rfl rfl rfl rfl) (fun W pn xe tk =>
(pss_one (ps_expr (pe_calXN c_check_deal hr (by first | decide | omega) (by rfl) tk (pa_cons (pv 2) pa_nil)))))
(fun a oe cls d pn t1 h1 =>
(pss_one (ps_raiseFN h1 t1 x_BadHistory (by rfl)))))
(pss_one (ps_dput (hu_of hr) (pe_fld (pv 0) rfl) (pv 1) (pe_calI c_Asked___init__ T_Asked.gC hr (by first | decide | omega) (by rfl) (pa_cons (pv 2) (pa_cons (pe_lock (pe_calM0 c_Record_told T_Record.cl hr (by first | decide | omega) (pv 0))) pa_nil))) rfl))))), ?_⟩
  have bad : ¬ okAsk r.ds n x → ∀ G' H', J M G' H' → Ex G G' → E (.ref A_BadHistory) none H' := fun b G' H' j e => kx _ _ _ _ j e ⟨rfl, rfl, b⟩
  have lds : r.ds.length = r.l.length := List.length_map _
  have names : r.ds.map (·.name) = r.l.map (·.2.name) := by unfold RecA.ds; rw [List.map_map]; rfl
  have hod : M r.dd = some (.dK (recK r.l)) := hR.od
  have lrk : (recK r.l).length = r.l.length := List.length_map _
  walk_at "start"
  refine w_fldM j hR.op T_Record.cl T_Record.n_deals fl_Record_deals ?_
  walk_at "go"
  refine w_inX j (.ofM hod) ?_
  by_cases hin : n ∈ r.l.map (·.2.name)
  · obtain ⟨y, hy, rfl⟩ := List.mem_map.mp hin
    rw [recK_get hR.nn y hy]
    walk_at "go"
    refine w_T ?_
    walk_at "go"
    exact bad (fun h => h.1 (by rw [names]; exact hin)) G H j (Same.refl G)
  rw [recK_none.mpr hin]
  walk_at "go"
  refine w_F ?_
  walk_at "go"
  refine w_fldM j hR.op T_Record.cl T_Record.n_deals fl_Record_deals ?_
  walk_at "go"
  refine w_lenD j (.inl hod) ?_
  walk_at "go"
  refine w_dec (fun c7 => ?_) (fun c7 => ?_)
  · walk_at "go"
    exact bad (fun h => by have := h.2.1; omega) G H j (Same.refl G)
  walk_at "go"
  refine w_tryH ?_
  walk_at "go"
  obtain ⟨y, hth, hyb⟩ := dth_th hdt
  refine w_sx (v, y) j ⟨rfl, hth⟩ (fun v1 M1 G1 H1 j1 e1 ⟨ev, em, hb⟩ => ?_) fun C M1 G1 H1 j1 e1 ⟨ec, em, hb⟩ => ?_
  rotate_left
  · subst ec em
    dsimp only at hb
    refine w_caughtO x_BadDeal.exm fun a ha => ?_
    walk_at "go"
    exact bad (fun h => by have := h.2.2; rw [← hyb, hb] at this; cases this) _ _ j1 e1
  dsimp only at hb
  cases x with
  | bad a is => rw [hyb] at hb; cases hb
  | no u => rw [hyb] at hb; cases hb
  | good a as ops =>
  obtain ⟨rfl, hdl⟩ := hdt
  subst ev em
  have hn : n ∉ r.l.map (·.2.name) := hin
  walk_at "go"
  refine w_lockE j1 hod trivial fun od H2 j2 => ?_
  have hR2 := (hR.ex e1).lock (od := od)
  walk_at "go"
  refine w_methM j2 hR2.op (no_Record (by decide +kernel)) ?_
  walk_at "go"
  refine w_sg (r, od) j2 ⟨rfl, hR2⟩ fun v3 M3 G3 H3 j3 e3 ⟨em, l3, ev, hl3⟩ => ?_
  dsimp only at em hl3
  subst em ev
  refine w_unlockJ j3 hod fun H4 j4 eH => ?_
  rw [eH]
  have E3 := e1.trans e3
  have hR4 := hR.ex E3
  clear j3 eH
  walk_at "go"
  refine w_makeX j4 fun x5 dx5 H5 j5 nx5 gx5 => ?_
  refine w_sg ⟨x5, dx5, .ref a, .ref l3⟩ j5 ⟨rfl, upd_same⟩ fun v6 M6 G6 H6 j6 e6 ⟨ev, em, eg⟩ => ⟨ev, ?_⟩
  dsimp only at em eg
  rw [upd_upd] at em
  subst em eg
  have kp : ∀ {q o u}, M1 q = some o → upd M1 x5 u q = some o := fun {q o u} e => upd_ne' e (ne_of_none e nx5)
  have hR6 : RecAt K C_Record C_Asked none (upd M1 x5 (.ins C_Asked dx5 (fl_Asked (.ref a) (.ref l3) .non))) G6 r := hR4.mv hR4.nt.updI fun q o e => kp e
  have hod6 : upd M1 x5 (.ins C_Asked dx5 (fl_Asked (.ref a) (.ref l3) .non)) r.dd = some (.dK (recK r.l)) := kp hod
  walk_at "go"
  refine w_fldM j6 hR6.op T_Record.cl T_Record.n_deals fl_Record_deals ?_
  walk_at "go"
  refine w_putX j6 hod6 (by omega) fun H7 j7 => ?_
  rw [putK_new hn] at j7
  walk_at "go"
  have tl := toldL_len (ds := r.ds)
  have hA : AskAt K C_Asked (upd M1 x5 (.ins C_Asked dx5 (fl_Asked (.ref a) (.ref l3) .non))) G6 ⟨x5, dx5, a, as, l3, .non⟩ ⟨n, ops, toldL r.ds, none⟩ := ⟨upd_same, hdl.ex E3, hl3, by dsimp only; omega, rfl⟩
  have hp : x5 ∉ r.l.map (·.1.p) := fun m => by
    obtain ⟨y, hy, e⟩ := List.mem_map.mp m
    have := (hR.at' y hy).op
    rw [e, nx5] at this; cases this
  have hR7 := hR6.ask hA hn hp (ne_of_none hR.op nx5) (by omega)
  have erk : recK (r.l ++ [((⟨x5, dx5, a, as, l3, .non⟩ : JA), (⟨n, ops, toldL r.ds, none⟩ : JD))]) = recK r.l ++ [(.inl n, .ref x5)] := by unfold recK; rw [List.map_append]; rfl
  rw [← erk] at j7
  have M0n : ∀ {q}, M1 q = none → M0 q = none := fun {q} e => by
    cases z : M0 q with
    | none => rfl
    | some o => have := hN.sm q o z; rw [e] at this; cases this
  refine k _ _ _ _ j7 E3 ⟨⟨by rw [names]; exact hin, by omega, rfl⟩, rfl, _, hR7, ⟨fun q o e => upd_ne' (kp (hN.sm q o e)) (ne_of_none e hN.dd), hN.p, hN.dd, fun y hy => ?_⟩, rfl, ?_⟩
  · rcases List.mem_append.mp hy with hy | hy
    · exact hN.l y hy
    · rw [List.mem_singleton.mp hy]; exact M0n nx5
  · unfold RecA.ds stepJ
    rw [List.map_append]; rfl
/-! ### Record.tell -/
abbrev s_Record_tell : Stmt := inClass (top 27) 3
abbrev n_Record_tell : List Str := ["self", "name", "outcome", "results", "deal"]
theorem sc_Record_tell : FnScope n_Record_tell ["self", "name", "outcome", "results"] (defScope s_Record_tell) := ⟨rfl, rfl, rfl, by decide +kernel, rfl, by decide +kernel, by decide +kernel⟩
structure TeP where
  M0 : Hp
  r : RecA
  n : Int
  v1 : V
  v2 : V
  o : PyData
  rr : PyData
def sp_Record_tell (K : PySem.W.Frag) (X C D : Addr) : Sp := Sx (α := TeP) (fun x vs M G => vs = [.ref x.r.p, .int x.n, x.v1, x.v2] ∧ RecAt K C D none M G x.r ∧ RecN x.M0 M x.r ∧ Dp K G x.v1 x.o ∧ Dp K G x.v2 x.rr) (fun x M _ v M' G' => okEv x.r.ds (.tell x.n x.o x.rr) ∧ RdEnd K C D x.M0 x.r (.tell x.n x.o x.rr) v M' G') (fun x M _ c M' _ => c = X ∧ M' = M ∧ ¬ okEv x.r.ds (.tell x.n x.o x.rr))
theorem ok_Record_tell {P : Program} {w : World} {K : PySem.W.Frag} {mg : Str → Option Value} {base : Heap}
    {C_Asked : Addr} (T_Asked : Tx_Asked K mg C_Asked)
    {C_Record : Addr} (T_Record : Tx_Record K mg C_Record)
    {f : Addr} {fd : FuncData} (D : Dm K C_Record "tell" "Record.tell" s_Record_tell ["self", "name", "outcome", "results"] f fd)
    {A_BadHistory : Addr} (x_BadHistory : Xc K mg "BadHistory" A_BadHistory) : CalM P w K mg base (L2.CX P w) 1 C_Record "tell" (sp_Record_tell K A_BadHistory C_Record C_Asked) := by
  refine D.okX sc_Record_tell (fun vs H Q E h => ?_) fun cdv A outer s H vs Q E hr h => ?_
  · obtain ⟨x, M, G, j, ⟨rfl, _⟩, _⟩ := h; rfl
  obtain ⟨⟨M0, r, n, v1, v2, o, rr⟩, M, G, j, ⟨rfl, hR, hN, h1, h2⟩, k, kx⟩ := h
  dsimp only at hR hN h1 h2 k kx
  refine ⟨_, (pss_cons (ps_if (pt_cmp (pc_dnotin (hu_of hr) (pv 1) (pe_fld (pv 0) rfl)))
(pss_one (ps_raiseA rfl (takes_of rfl rfl rfl rfl) x_BadHistory (by rfl)))
pss_nil)
(pss_cons (ps_set (i := 4) sc_Record_tell.nd rfl (Or.inl rfl) (pe_dget (hu_of hr) (pe_fld (pv 0) rfl) (pv 1) (fun _ _ => rfl)))
(pss_cons (ps_if (pt_cmp (pc_notN (pe_fld (pv 4) rfl)))
(pss_one (ps_raiseA rfl (takes_of rfl rfl rfl rfl) x_BadHistory (by rfl)))
pss_nil)
(pss_one (ps_fld (pv 4) (pe_tup (pa_cons (pv 2) (pa_cons (pv 3) pa_nil))) rfl))))), ?_⟩
  have hod : M r.dd = some (.dK (recK r.l)) := hR.od
  have names : r.ds.map (·.name) = r.l.map (·.2.name) := by unfold RecA.ds; rw [List.map_map]; rfl
  walk_at "start"
  have bad : ¬ okEv r.ds (.tell n o rr) → ∀ G' H', J M G' H' → Ex G G' → E (.ref A_BadHistory) none H' := fun b G' H' j e => kx _ _ _ _ j e ⟨rfl, rfl, b⟩
  refine w_fldM j hR.op T_Record.cl T_Record.n_deals fl_Record_deals ?_
  walk_at "go"
  refine w_notinX j (.ofM hod) ?_
  by_cases hin : n ∈ r.l.map (·.2.name)
  rotate_left
  · rw [recK_none.mpr hin]
    walk_at "go"
    refine w_T ?_
    walk_at "go"
    refine bad (fun ⟨d, hd, dn, _⟩ => hin ?_) G H j (Same.refl G)
    rw [← names, ← dn]
    exact List.mem_map_of_mem (f := (·.name)) hd
  obtain ⟨x, hx, rfl⟩ := List.mem_map.mp hin
  have hA := hR.at' x hx
  have hg := recK_get hR.nn x hx
  rw [hg]
  walk_at "go"
  refine w_nt ?_
  walk_at "go"
  refine w_fldM j hR.op T_Record.cl T_Record.n_deals fl_Record_deals ?_
  walk_at "go"
  refine w_getX j (.ofM hod) hg ?_
  walk_at "go"
  refine w_fldM j hA.op T_Asked.cl T_Asked.n_answer fl_Asked_answer ?_
  have han := hA.an
  have hxd : x.2 ∈ r.ds := List.mem_map_of_mem hx
  cases hans : x.2.ans with
  | some y =>
    rw [hans] at han
    have han : Dp K G x.1.av (.tuple [y.1, y.2]) := han
    have hnv : x.1.av ≠ .non := fun z => by rw [z] at han; cases han
    walk_at "go"
    refine w_nF hnv ?_
    walk_at "go"
    refine bad (fun ⟨d, hd, dn, da⟩ => ?_) G H j (Same.refl G)
    have nd : (r.ds.map (·.name)).Nodup := by rw [names]; exact hR.nn
    rw [nodup_inj nd hd hxd dn, hans] at da
    cases da
  | none =>
  rw [hans] at han
  rw [show x.1.av = .non from han]
  walk_at "go"
  refine w_nT rfl ?_
  walk_at "go"
  refine w_new j (by show 2 ≤ sizeLine; decide) fun t1 G1 H1 j1 e1 ht1 _ => ?_
  walk_at "go"
  refine w_setX j1 hA.op T_Asked.cl T_Asked.n_answer (by show 3 < 1000; decide) fun H2 j2 => ?_
  rw [sf_Asked_answer] at j2
  walk_at "go"
  have hR2 := (hR.ex e1).tell (t := .ref t1) (o := o) (rr := rr) hx (.tup (st_of ht1) (.cons (dp_mono e1 h1) (.cons (dp_mono e1 h2) .nil)))
  exact k _ _ _ _ j2 e1 ⟨⟨x.2, hxd, rfl, hans⟩, rfl, _, hR2, hN.tell hx, rfl, tell_ds⟩
/-! ### Record.read -/
abbrev s_Record_read : Stmt := inClass (top 27) 1
abbrev n_Record_read : List Str := ["self", "event"]
theorem sc_Record_read : FnScope n_Record_read ["self", "event"] (defScope s_Record_read) := ⟨rfl, rfl, rfl, by decide +kernel, rfl, by decide +kernel, by decide +kernel⟩
structure RvP where
  M0 : Hp
  r : RecA
  v : V
  e : RowX
def sp_Record_read (K : PySem.W.Frag) (X C D : Addr) : Sp := Sx (α := RvP) (fun x vs M G => vs = [.ref x.r.p, x.v] ∧ RecAt K C D none M G x.r ∧ RecN x.M0 M x.r ∧ RowAt K G x.v x.e ∧ x.r.l.length ≤ 7) (fun x M _ v M' G' => okRow x.r.ds x.e ∧ RdEnd K C D x.M0 x.r (evR x.e) v M' G') (fun x M _ c M' _ => c = X ∧ M' = M ∧ ¬ okRow x.r.ds x.e)
theorem ok_Record_read {P : Program} {w : World} {K : PySem.W.Frag} {mg : Str → Option Value} {base : Heap}
    {C_Record : Addr} (T_Record : Tx_Record K mg C_Record)
    {C_Asked : Addr} (T_Asked : Tx_Asked K mg C_Asked)
    {f : Addr} {fd : FuncData} (D : Dm K C_Record "read" "Record.read" s_Record_read ["self", "event"] f fd)
    (b_len : mg "len" = none)
    (b_isinstance : mg "isinstance" = none)
    (b_str : mg "str" = none)
    (b_tuple : mg "tuple" = none)
    {A_BadHistory : Addr} (x_BadHistory : Xc K mg "BadHistory" A_BadHistory)
    (c_Record_ask : CalM P w K mg base (L2.CX P w) 5 C_Record "ask" (sp_Record_ask K A_BadHistory C_Record C_Asked))
    (c_Record_tell : CalM P w K mg base (L2.CX P w) 1 C_Record "tell" (sp_Record_tell K A_BadHistory C_Record C_Asked))
    (c_is_plain_integer : Cal P w K mg base CX0 1 "is_plain_integer" (sp_is_plain_integer K)) : CalM P w K mg base (L2.CX P w) 6 C_Record "read" (sp_Record_read K A_BadHistory C_Record C_Asked) := by
  refine D.okX sc_Record_read (fun vs H Q E h => ?_) fun cdv A outer s H vs Q E hr h => ?_
  · obtain ⟨x, M, G, j, ⟨rfl, _⟩, _⟩ := h; rfl
  obtain ⟨⟨M0, r, v, e⟩, M, G, j, ⟨rfl, hR, hN, hev, hl7⟩, k, kx⟩ := h
  dsimp only at hR hN hev hl7 k kx
  refine ⟨_, (pss_cons (ps_if (PW.pt (pw_or (pt_not (pt_val (pe_callB (call_isiK' (K := K) rfl) (by rfl) b_isinstance bt_isinstance (pa_cons (pv 1) (pa_cons (pe_bltn (v := .ty "tuple") (by rfl) b_tuple bt_tuple rfl) pa_nil))))) (pw_or (pt_cmpR op_lt (pe_callB (call_uLenK (K := K) rfl) (by rfl) b_len PySem.boot_len (pa_cons (pv 1) pa_nil)) pe_int (nomark _)) (pw_or1 (pt_not (pt_val (pe_callB (call_isiK' (K := K) rfl) (by rfl) b_isinstance bt_isinstance (pa_cons (pe_ix (ix_uK (K := K) rfl) (pv 1) pe_int (fun _ _ => rfl)) (pa_cons (pe_bltn (v := .ty "str") (by rfl) b_str bt_str rfl) pa_nil)))))))))
(pss_one (ps_raiseA rfl (takes_of rfl rfl rfl rfl) x_BadHistory (by rfl)))
pss_nil)
(pss_cons (ps_if (pt_not (pt_val (pe_cal c_is_plain_integer hr (by first | decide | omega) (by rfl) (pa_cons (pe_ix (ix_uK (K := K) rfl) (pv 1) pe_int (fun _ _ => rfl)) pa_nil))))
(pss_one (ps_raiseA rfl (takes_of rfl rfl rfl rfl) x_BadHistory (by rfl)))
pss_nil)
(pss_one (ps_if (PW.pt (pw_and (pt_cmpR (op_uEqK (K := K) rfl hr) (pe_ix (ix_uK (K := K) rfl) (pv 1) pe_int (fun _ _ => rfl)) pe_str (nomark _)) (pw_and1 (pt_cmpR (op_uEqK (K := K) rfl hr) (pe_callB (call_uLenK (K := K) rfl) (by rfl) b_len PySem.boot_len (pa_cons (pv 1) pa_nil)) pe_int (nomark _)))))
(pss_one (ps_expr (pe_calMX c_Record_ask T_Record.cl hr (by first | decide | omega) (takes_of rfl rfl rfl rfl) (pv 0) (pa_cons (pe_ix (ix_uK (K := K) rfl) (pv 1) pe_int (fun _ _ => rfl)) (pa_cons (pe_ix (ix_uK (K := K) rfl) (pv 1) pe_int (fun _ _ => rfl)) pa_nil)))))
(pss_one (ps_if (PW.pt (pw_and (pt_cmpR (op_uEqK (K := K) rfl hr) (pe_ix (ix_uK (K := K) rfl) (pv 1) pe_int (fun _ _ => rfl)) pe_str (nomark _)) (pw_and1 (pt_cmpR (op_uEqK (K := K) rfl hr) (pe_callB (call_uLenK (K := K) rfl) (by rfl) b_len PySem.boot_len (pa_cons (pv 1) pa_nil)) pe_int (nomark _)))))
(pss_one (ps_expr (pe_calMX c_Record_tell T_Record.cl hr (by first | decide | omega) (takes_of rfl rfl rfl rfl) (pv 0) (pa_cons (pe_ix (ix_uK (K := K) rfl) (pv 1) pe_int (fun _ _ => rfl)) (pa_cons (pe_ix (ix_uK (K := K) rfl) (pv 1) pe_int (fun _ _ => rfl)) (pa_cons (pe_ix (ix_uK (K := K) rfl) (pv 1) pe_int (fun _ _ => rfl)) pa_nil))))))
(pss_one (ps_raiseA rfl (takes_of rfl rfl rfl rfl) x_BadHistory (by rfl))))))))), ?_⟩
  have z0 : ∀ {x : V} {xs : List V}, atI (x :: xs) 0 = some x := fun {x xs} => atI_0
  walk_at "start"
  cases e with
  | ask n x =>
    obtain ⟨t, u, rfl, ht, hdl⟩ := hev
    refine w_isi true (ty_T (st_mono j.g (st_of ht))) (by rfl) ?_
    walk_at "go"
    refine w_lenT j (st_of ht) ?_
    walk_at "go"
    refine w_dF (by simp only [List.length_cons, List.length_nil]; omega) ?_
    walk_at "go"
    refine w_ixT j (st_of ht) z0 ?_
    walk_at "go"
    refine w_ixT j (st_of ht) (by rfl) ?_
    walk_at "go"
    refine w_sg (.int n) j ⟨rfl, .inl rfl⟩ fun v1 M1 G1 H1 j1 e1 ⟨ev, em⟩ => ?_
    subst ev em
    have ht := e1 _ _ ht
    have hR := hR.ex e1
    walk_at "go"
    refine w_nt ?_
    walk_at "go"
    refine w_ixT j1 (st_of ht) z0 ?_
    walk_at "go"
    refine w_lenT j1 (st_of ht) ?_
    walk_at "go"
    refine w_dT (by simp only [List.length_cons, List.length_nil]; omega) ?_
    walk_at "go"
    refine w_methM j1 hR.op (no_Record (by decide +kernel)) ?_
    walk_at "go"
    refine w_ixT j1 (st_of ht) (by rfl) ?_
    walk_at "go"
    refine w_ixT j1 (st_of ht) (by rfl) ?_
    walk_at "go"
    refine w_sx ⟨M0, r, n, u, x⟩ j1 ⟨rfl, hR, hN, hdl.ex e1, hl7⟩ (fun v2 M2 G2 H2 j2 e2 ⟨ho, ev, h2⟩ => ?_) fun C M2 G2 H2 j2 e2 ⟨ec, em, ho⟩ => kx _ _ _ _ j2 (e1.trans e2) ⟨ec, em, ho⟩
    walk_at "go"
    exact k _ _ _ _ j2 (e1.trans e2) ⟨ho, rfl, h2⟩
  | tell n o rr =>
    obtain ⟨t, v1, v2, rfl, ht, h1, h2⟩ := hev
    refine w_isi true (ty_T (st_mono j.g (st_of ht))) (by rfl) ?_
    walk_at "go"
    refine w_lenT j (st_of ht) ?_
    walk_at "go"
    refine w_dF (by simp only [List.length_cons, List.length_nil]; omega) ?_
    walk_at "go"
    refine w_ixT j (st_of ht) z0 ?_
    walk_at "go"
    refine w_ixT j (st_of ht) (by rfl) ?_
    walk_at "go"
    refine w_sg (.int n) j ⟨rfl, .inl rfl⟩ fun v1 M1 G1 H1 j1 e1 ⟨ev, em⟩ => ?_
    subst ev em
    have ht := e1 _ _ ht
    have hR := hR.ex e1
    walk_at "go"
    refine w_nt ?_
    walk_at "go"
    refine w_ixT j1 (st_of ht) z0 ?_
    walk_at "go"
    refine w_ixT j1 (st_of ht) z0 ?_
    walk_at "go"
    refine w_lenT j1 (st_of ht) ?_
    walk_at "go"
    refine w_dT (by simp only [List.length_cons, List.length_nil]; omega) ?_
    walk_at "go"
    refine w_methM j1 hR.op (no_Record (by decide +kernel)) ?_
    walk_at "go"
    refine w_ixT j1 (st_of ht) (by rfl) ?_
    walk_at "go"
    refine w_ixT j1 (st_of ht) (by rfl) ?_
    walk_at "go"
    refine w_ixT j1 (st_of ht) (by rfl) ?_
    walk_at "go"
    refine w_sx ⟨M0, r, n, v1, v2, o, rr⟩ j1 ⟨rfl, hR, hN, dp_mono e1 h1, dp_mono e1 h2⟩ (fun v3 M2 G2 H2 j2 e2 ⟨ho, ev, h2⟩ => ?_) fun C M2 G2 H2 j2 e2 ⟨ec, em, ho⟩ => kx _ _ _ _ j2 (e1.trans e2) ⟨ec, em, ho⟩
    walk_at "go"
    exact k _ _ _ _ j2 (e1.trans e2) ⟨ho, rfl, h2⟩
  | junk =>
    have bad : ∀ G' H', J M G' H' → Ex G G' → E (.ref A_BadHistory) none H' := fun G' H' j e => kx _ _ _ _ j e ⟨rfl, rfl, id⟩
    rcases hev with ⟨t, xs, rfl, ht⟩ | ⟨t, xs, rfl, ht, hx⟩
    · refine w_isi false (ty_L (sl_mono j.g ht)) (by rfl) ?_
      walk_at "go"
      exact bad G H j (Same.refl G)
    refine w_isi true (ty_T (st_mono j.g ht)) (by rfl) ?_
    walk_at "go"
    refine w_lenT j ht ?_
    walk_at "go"
    rcases hx with hx | ⟨w, nm, rest, rfl, hl, hx⟩
    · refine w_dT (by omega) ?_
      walk_at "go"
      exact bad G H j (Same.refl G)
    refine w_dF (by simp only [List.length_cons]; omega) ?_
    walk_at "go"
    refine w_ixT j ht z0 ?_
    walk_at "go"
    refine w_ixT j ht (atI_nat (j := 1) rfl) ?_
    walk_at "go"
    have lw : (V.str w :: nm :: rest).length = rest.length + 2 := rfl
    rcases hx with ⟨b, rfl⟩ | ⟨s5, rfl⟩ | ⟨n, rfl, hx1, hx2⟩
    · refine w_sg (.bl b) j ⟨rfl, .inl rfl⟩ fun v1 M1 G1 H1 j1 e1 ⟨ev, em⟩ => ?_
      subst ev em
      walk_at "go"
      refine w_T ?_
      walk_at "go"
      exact bad G1 H1 j1 e1
    · refine w_sg (.str s5) j ⟨rfl, .inl rfl⟩ fun v1 M1 G1 H1 j1 e1 ⟨ev, em⟩ => ?_
      subst ev em
      walk_at "go"
      refine w_T ?_
      walk_at "go"
      exact bad G1 H1 j1 e1
    · refine w_sg (.int n) j ⟨rfl, .inl rfl⟩ fun v1 M1 G1 H1 j1 e1 ⟨ev, em⟩ => ?_
      subst ev em
      have ht1 := st_mono e1 ht
      walk_at "go"
      refine w_nt ?_
      walk_at "go"
      refine w_ixT j1 ht1 z0 ?_
      walk_at "go"
      by_cases ca : w = "asked"
      · subst ca
        have hr : rest.length ≠ 1 := fun z => hx1 ⟨rfl, z⟩
        refine w_eqS (k := true) (by decide +kernel) ?_
        refine w_bl ?_
        refine w_T ?_
        walk_at "go"
        refine w_lenT j1 ht1 ?_
        walk_at "go"
        refine w_dF (by rw [lw]; omega) ?_
        walk_at "go"
        refine w_ixT j1 ht1 z0 ?_
        walk_at "go"
        try (refine w_eqS (k := false) (by decide +kernel) ?_)
        try (refine w_bl ?_)
        try (refine w_F ?_)
        walk_at "go"
        exact bad G1 H1 j1 e1
      · refine w_eqS (k := false) (decide_eq_false ca) ?_
        refine w_bl ?_
        refine w_F ?_
        walk_at "go"
        refine w_ixT j1 ht1 z0 ?_
        walk_at "go"
        by_cases ct : w = "told"
        · subst ct
          have hr : rest.length ≠ 2 := fun z => hx2 ⟨rfl, z⟩
          refine w_eqS (k := true) (by decide +kernel) ?_
          refine w_bl ?_
          refine w_T ?_
          walk_at "go"
          refine w_lenT j1 ht1 ?_
          walk_at "go"
          refine w_dF (by rw [lw]; omega) ?_
          walk_at "go"
          exact bad G1 H1 j1 e1
        · refine w_eqS (k := false) (decide_eq_false ct) ?_
          refine w_bl ?_
          refine w_F ?_
          walk_at "go"
          exact bad G1 H1 j1 e1
/-! ### judge -/
abbrev s_judge : Stmt := top 28
abbrev n_judge : List Str := ["history", "record", "event"]
theorem sc_judge : FnScope n_judge ["history"] (defScope s_judge) := ⟨rfl, rfl, rfl, by decide +kernel, rfl, by decide +kernel, by decide +kernel⟩
def sp_judge (K : PySem.W.Frag) (X C D : Addr) : Sp := Sx (α := Addr × List V × List RowX) (fun x vs M G => vs = [.ref x.1] ∧ NoT M ∧ SqL K G x.1 x.2.1 ∧ Paired (RowAt K G) x.2.1 x.2.2) (fun x M _ _ M' _ => M' = M ∧ okRows [] x.2.2) (fun x M _ c M' _ => c = X ∧ M' = M ∧ ¬ okRows [] x.2.2)
theorem ok_judge {P : Program} {w : World} {K : PySem.W.Frag} {mg : Str → Option Value} {base : Heap}
    {C_Record : Addr} (T_Record : Tx_Record K mg C_Record)
    {C_Asked : Addr} (T_Asked : Tx_Asked K mg C_Asked)
    {f : Addr} {fd : FuncData} (D : Dn K mg "judge" s_judge ["history"] f fd)
    (b_isinstance : mg "isinstance" = none)
    (b_list : mg "list" = none)
    {A_BadHistory : Addr} (x_BadHistory : Xc K mg "BadHistory" A_BadHistory)
    (c_Record_order_behind : CalM P w K mg base CX0 22 C_Record "order_behind" (sp_Record_order_behind K C_Record C_Asked))
    (c_Record_read : CalM P w K mg base (L2.CX P w) 6 C_Record "read" (sp_Record_read K A_BadHistory C_Record C_Asked))
    (c_Record___init__ : CalI P w K mg base CX0 1 C_Record (sp_Record___init__ K C_Record)) : Cal P w K mg base (L2.CX P w) 23 "judge" (sp_judge K A_BadHistory C_Record C_Asked) := by
  refine D.okX sc_judge (fun vs H Q E h => ?_) fun cdv A outer s H vs Q E hr h => ?_
  · obtain ⟨x, M, G, j, ⟨rfl, _⟩, _⟩ := h; rfl
  obtain ⟨⟨ha, vs, es⟩, M, G, j, ⟨rfl, nt, hha, hes⟩, k, kx⟩ := h
  dsimp only at hha hes k kx
  refine ⟨_, (pss_cons (ps_if (pt_not (pt_val (pe_callB (call_isiK' (K := K) rfl) (by rfl) b_isinstance bt_isinstance (pa_cons (pv 0) (pa_cons (pe_bltn (v := .ty "list") (by rfl) b_list bt_list rfl) pa_nil)))))
(pss_one (ps_raiseA rfl (takes_of rfl rfl rfl rfl) x_BadHistory (by rfl)))
pss_nil)
(pss_cons (ps_set (i := 1) sc_judge.nd rfl (Or.inl rfl) (pe_calI0 c_Record___init__ T_Record.gC hr (by first | decide | omega) (by rfl)))
(pss_cons (ps_for (passes_of rfl) rfl (pi_list (pv 0)) (pg_name (i := 2) sc_judge.nd rfl (Or.inl rfl))
(pss_one (ps_expr (pe_calMX c_Record_read T_Record.cl hr (by first | decide | omega) (takes_of rfl rfl rfl rfl) (pv 1) (pa_cons (pv 2) pa_nil)))))
(pss_one (ps_ret (pe_lock (pe_calM c_Record_order_behind T_Record.cl hr (by first | decide | omega) (pv 1) (pa_cons (pe_lst pa_nil) (pa_cons pe_dnewK pa_nil))))))))), ?_⟩
  have lvs := Paired.length hes
  walk_at "start"
  refine w_isi true (ty_L (sl_mono j.g hha)) (by rfl) ?_
  walk_at "go"
  refine w_makeX j fun rp dx H1 j1 nx gx => ?_
  refine w_sg (rp, dx) j1 ⟨rfl, upd_same⟩ fun v2 M2 G2 H2 j2 e2 ⟨ev, dd, nd, em, eg⟩ => ⟨ev, ?_⟩
  dsimp only at nd em eg
  have ddp : dd ≠ rp := fun z => by rw [z, upd_same] at nd; cases nd
  have nd0 : M dd = none := by rw [upd_ne ddp] at nd; exact nd
  subst em eg
  have hR0 : RecAt K C_Record C_Asked none (upd (upd (upd M rp (.ins C_Record dx [])) dd (.dK [])) rp (.ins C_Record dx (fl_Record (.ref dd)))) G2 ⟨rp, dx, dd, []⟩ :=
    ⟨nt.updI.updK.updI, upd_same, upd_ne' upd_same ddp, (fun _ m => nomatch m), .nil, .nil, (fun m => nomatch m), Nat.zero_le _⟩
  have hN0 : RecN M (upd (upd (upd M rp (.ins C_Record dx [])) dd (.dK [])) rp (.ins C_Record dx (fl_Record (.ref dd)))) ⟨rp, dx, dd, []⟩ :=
    ⟨fun q o e => upd_ne' (upd_ne' (upd_ne' e (ne_of_none e nx)) (ne_of_none e nd0)) (ne_of_none e nx), nx, nd0, fun _ m => nomatch m⟩
  generalize upd (upd (upd M rp (.ins C_Record dx [])) dd (.dK [])) rp (.ins C_Record dx (fl_Record (.ref dd))) = M2 at *
  walk_at "go"
  refine w_forLV rfl (xs := vs) (fun i σ H => ∃ M3 G3 r x2, J M3 G3 H ∧ Ex G2 G3 ∧ RecAt K C_Record C_Asked none M3 G3 r ∧ RecN M M3 r ∧ r.p = rp ∧ (okRows [] es ↔ okRows r.ds (es.drop i)) ∧ r.ds.length ≤ 7 ∧ σ = [some (.ref ha), some (.ref rp), x2]) (sl_mono j2.g hha) ⟨M2, G2, ⟨rp, dx, dd, []⟩, _, j2, Same.refl _, hR0, hN0, rfl, Iff.rfl, Nat.zero_le _, rfl⟩ ?_ ?_ ?_
  · rintro i σ H _ ⟨M3, G3, r, x2, j3, e3, _⟩
    exact sl_mono (e3.trans j3.g) hha
  · rintro i x σ H hi ⟨M3, G3, r, x2, j3, e3, hR, hN, hrp, hoe, hl7, rfl⟩
    obtain ⟨e, he, hev⟩ := paired_atX hes hi
    have hdrop : es.drop i = e :: es.drop (i + 1) := List.drop_eq_getElem?_toList_append |>.trans (by rw [he]; rfl)
    rw [hdrop] at hoe
    refine w_gName ?_
    walk_at "go"
    rw [← hrp]
    refine w_methM j3 hR.op (no_Record (by decide +kernel)) ?_
    walk_at "go"
    have lds : r.ds.length = r.l.length := List.length_map _
    refine w_sx ⟨M, r, x, e⟩ j3 ⟨rfl, hR, hN, hev.ex e3, by dsimp only; omega⟩ (fun v4 M4 G4 H4 j4 e4 ⟨ho, ev, r', hR', hN', hp', hds'⟩ => ?_) fun C M4 G4 H4 j4 e4 ⟨ec, em, ho⟩ => ?_
    rotate_left
    · subst em
      exact kx _ _ _ _ (j4.sub hN.sm) ((e2.trans e3).trans e4) ⟨ec, rfl, fun z => ho (hoe.mp z).1⟩
    dsimp only at hds' hp' hN' ho
    walk_at "go"
    refine ⟨M4, G4, r', _, j4, e3.trans e4, hR', hN', hp', ?_, by rw [hds']; exact row_len ho hl7, rfl⟩
    rw [hds']
    exact hoe.trans ⟨fun z => z.2, fun z => ⟨ho, z⟩⟩
  · rintro σ H ⟨M3, G3, r, x2, j3, e3, hR, hN, hrp, hoe, hl7, rfl⟩
    have hall : okRows [] es := hoe.mpr (by rw [lvs, List.drop_length]; trivial)
    have hod : M3 r.dd = some (.dK (recK r.l)) := hR.od
    walk_at "go"
    refine w_lockE j3 hod trivial fun od H4 j4 => ?_
    have hR4 := hR.lock (od := od)
    walk_at "go"
    rw [← hrp]
    refine w_methM j4 hR4.op (no_Record (by decide +kernel)) ?_
    walk_at "go"
    refine w_new j4 (Nat.zero_le _) fun ca G5 H5 j5 e5 hca nca => ?_
    walk_at "go"
    refine w_new j5 (Nat.zero_le _) fun ta G6 H6 j6 e6 hta _ => ?_
    show spOB K C_Record C_Asked 8 _ _ _ E0
    refine w_sg (α := ObP) ⟨r, od, [], ca, [], ta⟩ j6 ⟨rfl, (hR4.ex e5).ex e6, e6 _ _ hca, hta, .nil, .nil, (fun _ m => nomatch m), ?_⟩ fun v7 M7 G7 H7 j7 e7 ⟨em, hend⟩ => ?_
    · have : r.ds.length = r.l.length := List.length_map _
      have := hR.le
      dsimp only
      show r.ds.length ≤ 0 + 8
      omega
    dsimp only at em hend
    subst em
    refine w_unlockJ j7 hod fun H8 j8 eH => ?_
    rw [eH]
    exact k _ _ _ _ (j8.sub hN.sm) ((((e2.trans e3).trans e5).trans e6).trans e7) ⟨rfl, hall⟩
/-! ### _law_good_asked -/
abbrev s_law_good_asked : Stmt := top 37
abbrev n_law_good_asked : List Str := ["row", "asked", "op"]
theorem sc_law_good_asked : FnScope n_law_good_asked ["row", "asked"] (defScope s_law_good_asked) := ⟨rfl, rfl, rfl, by decide +kernel, rfl, by decide +kernel, by decide +kernel⟩
structure GaP where
  t : Addr
  a : Addr
  ns : List Int
  e : Option (Int × Dth)
def GaAt (K : PySem.W.Frag) (G : Hp) (t : Addr) : Option (Int × Dth) → Prop
  | some (n, x) => ∃ u, G t = some (.tup [.str "asked", .int n, u]) ∧ LwAt K G u x
  | none => ∃ xs, SqT K G t xs ∧ xs.length ≠ 3
def gaOk (ns : List Int) : Option (Int × Dth) → Prop
  | some (n, x) => n ∉ ns ∧ x.isGood = true
  | none => False
def sp_law_good_asked (K : PySem.W.Frag) : Sp := Sg (α := GaP) (fun x vs M G => vs = [.ref x.t, .ref x.a] ∧ M x.a = some (.lst (x.ns.map V.int)) ∧ GaAt K G x.t x.e) (fun x M _ v M' _ => ∃ b, v = .bl b ∧ M' = M ∧ (b = true ↔ gaOk x.ns x.e))
theorem not_allL {is : List Itm} {i : Nat} {x : Itm} (h : is[i]? = some x) (n : lwI x = false) : is.all lwI = false := by
  cases e : is.all lwI with
  | false => rfl
  | true =>
    have := List.all_eq_true.mp e x (List.mem_of_getElem? h)
    rw [n] at this
    cases this
theorem ok_law_good_asked {P : Program} {w : World} {K : PySem.W.Frag} {mg : Str → Option Value} {base : Heap}
    {f : Addr} {fd : FuncData} (D : Dn K mg "_law_good_asked" s_law_good_asked ["row", "asked"] f fd)
    (b_isinstance : mg "isinstance" = none)
    (b_bool : mg "bool" = none)
    (b_tuple : mg "tuple" = none)
    (b_len : mg "len" = none)
    (b_list : mg "list" = none) : Cal P w K mg base CX0 1 "_law_good_asked" (sp_law_good_asked K) := by
  refine D.ok sc_law_good_asked (fun vs H Q E h => ?_) fun cdv A outer s H vs Q E hr h => ?_
  · obtain ⟨x, M, G, j, ⟨rfl, _⟩, _⟩ := h; rfl
  obtain ⟨⟨t, a, ns, e⟩, M, G, j, ⟨rfl, ha, he⟩, k⟩ := h
  dsimp only at ha he k
  refine ⟨_, (pss_cons (ps_if (PW.pt (pw_or (pt_cmpR (op_uNeK (K := K) rfl hr) (pe_callB (call_uLenK (K := K) rfl) (by rfl) b_len PySem.boot_len (pa_cons (pv 0) pa_nil)) pe_int (nomark _)) (pw_or (pt_cmpR (op_inK (K := K) rfl) (pe_ix (ix_uK (K := K) rfl) (pv 0) pe_int (fun _ _ => rfl)) (pv 1) (by with_unfolding_all rfl)) (pw_or (pt_not (pt_val (pe_callB (call_isiK' (K := K) rfl) (by rfl) b_isinstance bt_isinstance (pa_cons (pe_ix (ix_uK (K := K) rfl) (pv 0) pe_int (fun _ _ => rfl)) (pa_cons (pe_bltn (v := .ty "list") (by rfl) b_list bt_list rfl) pa_nil))))) (pw_or (pt_cmpR op_lt (pe_callB (call_uLenK (K := K) rfl) (by rfl) b_len PySem.boot_len (pa_cons (pe_ix (ix_uK (K := K) rfl) (pv 0) pe_int (fun _ _ => rfl)) pa_nil)) pe_int (nomark _)) (pw_or1 (pt_cmpR op_gt (pe_callB (call_uLenK (K := K) rfl) (by rfl) b_len PySem.boot_len (pa_cons (pe_ix (ix_uK (K := K) rfl) (pv 0) pe_int (fun _ _ => rfl)) pa_nil)) pe_int (nomark _))))))))
(pss_one (ps_ret pe_bl))
pss_nil)
(pss_cons (ps_for PassesOwn.never rfl (pi_list (pe_ix (ix_uK (K := K) rfl) (pv 0) pe_int (fun _ _ => rfl))) (pg_name (i := 2) sc_law_good_asked.nd rfl (Or.inl rfl))
(pss_cons (ps_if (PW.pt (pw_or (pt_not (pt_val (pe_callB (call_isiK' (K := K) rfl) (by rfl) b_isinstance bt_isinstance (pa_cons (pv 2) (pa_cons (pe_bltn (v := .ty "tuple") (by rfl) b_tuple bt_tuple rfl) pa_nil))))) (pw_or (pt_cmpR (op_uEqK (K := K) rfl hr) (pe_ix (ix_uK (K := K) rfl) (pv 2) pe_int (fun _ _ => rfl)) pe_str (nomark _)) (pw_or1 (pt_val (pe_callB (call_isiK' (K := K) rfl) (by rfl) b_isinstance bt_isinstance (pa_cons (pe_ix (ix_uK (K := K) rfl) (pv 2) pe_int (fun _ _ => rfl)) (pa_cons (pe_bltn (v := .ty "bool") (by rfl) b_bool bt_bool rfl) pa_nil))))))))
(pss_one (ps_ret pe_bl))
pss_nil)
(pss_one (ps_if (PW.pt (pw_or (pt_cmpR op_lt (pe_ix (ix_uK (K := K) rfl) (pv 2) pe_int (fun _ _ => rfl)) pe_int (nomark _)) (pw_or (pt_cmpR op_gt (pe_ix (ix_uK (K := K) rfl) (pv 2) pe_int (fun _ _ => rfl)) pe_int (nomark _)) (pw_or1 (pt_cmpR (op_inDK (K := K) rfl hr) (pv 2) (pe_lst (pa_cons (pe_tup (pa_cons pe_str (pa_cons pe_int pa_nil))) (pa_cons (pe_tup (pa_cons pe_str (pa_cons pe_int (pa_cons pe_non pa_nil)))) (pa_cons (pe_tup (pa_cons pe_str (pa_cons pe_int (pa_cons pe_int pa_nil)))) (pa_cons (pe_tup (pa_cons pe_str (pa_cons pe_int (pa_cons (pe_op (op_uAddK (K := K) rfl) (pe_op op_pow pe_int pe_int) pe_int) pa_nil)))) pa_nil))))) (by with_unfolding_all rfl))))))
(pss_one (ps_ret pe_bl))
pss_nil))))
(pss_one (ps_ret pe_bl)))), ?_⟩
  have no : ∀ {G' H' : Hp}, ¬ gaOk ns e → J M G' H' → Ex G G' → Q (.bl false) H' := fun h j e => k _ _ _ _ j e ⟨false, rfl, rfl, (fun z => nomatch z), fun z => absurd z h⟩
  walk_at "start"
  cases e with
  | none =>
    obtain ⟨xs, ht, hl⟩ := he
    refine w_lenT j ht ?_
    walk_at "go"
    refine w_nF (by omega) ?_
    walk_at "go"
    exact no id j (Same.refl G)
  | some nx =>
    obtain ⟨n, x⟩ := nx
    obtain ⟨u, ht, hlw⟩ := he
    refine w_lenT j (st_of ht) ?_
    walk_at "go"
    refine w_nT (by rfl) ?_
    walk_at "go"
    refine w_ixT j (st_of ht) (atI_nat (j := 1) rfl) ?_
    walk_at "go"
    refine w_inMI j ha ?_
    walk_at "go"
    refine w_dec (fun c1 => ?_) (fun c1 => ?_)
    · walk_at "go"
      exact no (fun z => z.1 c1) j (Same.refl G)
    walk_at "go"
    refine w_ixT j (st_of ht) (atI_nat (j := 2) rfl) ?_
    walk_at "go"
    obtain ⟨y, hy, hyb, hys⟩ := lw_th hlw
    cases y with
    | none =>
      have ng : ¬ gaOk ns (some (n, x)) := fun z => by have := z.2; rw [← hyb] at this; cases this
      rcases hy with rfl | ⟨t2, xs, rfl, ht2⟩
      · walk_at "go"
        exact no ng j (Same.refl G)
      · refine w_isi false (ty_T (st_mono j.g ht2)) (by rfl) ?_
        walk_at "go"
        exact no ng j (Same.refl G)
    | some is =>
      obtain ⟨b, rfl, hL, hi, hl100⟩ := hy
      have hys := hys is rfl
      have hgi : gaOk ns (some (n, x)) ↔ lwD is = true := ⟨fun z => by have := z.2; rw [← hyb] at this; exact this, fun z => ⟨c1, by rw [← hyb]; exact z⟩⟩
      have fall : ¬ (1 ≤ is.length ∧ is.length ≤ 6) → ¬ gaOk ns (some (n, x)) := fun h z => by
        have := hgi.mp z
        unfold lwD at this
        rw [decide_eq_false h] at this
        cases this
      refine w_isi true (ty_L (sl_mono j.g hL)) (by rfl) ?_
      walk_at "go"
      refine w_ixT j (st_of ht) (atI_nat (j := 2) rfl) ?_
      walk_at "go"
      refine w_lenL j hL ?_
      walk_at "go"
      rw [List.length_map]
      refine w_dec (fun c2 => ?_) (fun c2 => ?_)
      · walk_at "go"
        exact no (fall fun z => by omega) j (Same.refl G)
      walk_at "go"
      refine w_ixT j (st_of ht) (atI_nat (j := 2) rfl) ?_
      walk_at "go"
      refine w_lenL j hL ?_
      walk_at "go"
      rw [List.length_map]
      refine w_dec (fun c3 => ?_) (fun c3 => ?_)
      · walk_at "go"
        exact no (fall fun z => by omega) j (Same.refl G)
      walk_at "go"
      have hlen : 1 ≤ is.length ∧ is.length ≤ 6 := ⟨by omega, by omega⟩
      have bad : ∀ {i : Nat} {q : Itm}, is[i]? = some q → lwI q = false → ¬ gaOk ns (some (n, x)) := fun h1 h2 z => by
        have := hgi.mp z
        unfold lwD at this
        rw [not_allL h1 h2, Bool.and_false] at this
        cases this
      refine w_ixT j (st_of ht) (atI_nat (j := 2) rfl) ?_
      refine w_forX (xs := is.map fun i => V.ref i.t) (fun i σ H => ∃ G1 y, J M G1 H ∧ Ex G G1 ∧ (∀ (m : Nat) (q : Itm), m < i → is[m]? = some q → lwI q = true) ∧ σ = [some (.ref t), some (.ref a), y]) ⟨G, _, j, Same.refl G, fun m q h => absurd h (Nat.not_lt_zero m), rfl⟩ ?_ ?_ ?_
      · rintro i σ H _ ⟨G1, y, j1, e1, _⟩
        exact sl_mono (e1.trans j1.g) hL
      · rintro i v σ H hv ⟨G1, y, j1, e1, hok, rfl⟩
        rw [List.getElem?_map] at hv
        cases hn : is[i]? with
        | none => rw [hn] at hv; cases hv
        | some q =>
          rw [hn] at hv
          have hv := Option.some.inj hv
          subst hv
          have hq := (hi q (List.mem_of_getElem? hn)).ex e1
          have hs := hys q (List.mem_of_getElem? hn)
          have bad := bad hn
          have good : lwI q = true → ∀ (G' H' : Hp), J M G' H' → Ex G1 G' → ∃ G1 y, J M G1 H' ∧ Ex G G1 ∧ (∀ (m : Nat) (q : Itm), m < i + 1 → is[m]? = some q → lwI q = true) ∧ [some (V.ref t), some (.ref a), some (.ref q.t)] = [some (V.ref t), some (.ref a), y] := fun g G' H' j' e' => ⟨G', _, j', e1.trans e', fun m q' hm hq' => by
            by_cases z : m = i
            · subst z; rw [hn] at hq'; cases hq'; exact g
            · exact hok m q' (by omega) hq', rfl⟩
          obtain ⟨tp, qt, qv⟩ := q
          dsimp only at good ⊢
          walk_at "go"
          cases tp with
          | false =>
            have hq1 : SqL K G1 qt qv := hq.1
            refine w_isi false (ty_L (sl_mono j1.g hq1)) (by rfl) ?_
            walk_at "go"
            exact no (bad rfl) j1 e1
          | true =>
            have hq1 : SqT K G1 qt qv := hq.1
            obtain ⟨⟨w, x2, r, eqv, hx2⟩, hsh⟩ := hs rfl
            dsimp only at eqv hsh
            subst eqv
            refine w_isi true (ty_T (st_mono j1.g hq1)) (by rfl) ?_
            walk_at "go"
            refine w_ixT j1 hq1 atI_0 ?_
            walk_at "go"
            by_cases cw : w = "set"
            · subst cw
              refine w_eqS (k := true) (by decide +kernel) ?_
              walk_at "go"
              refine no (bad ?_) j1 e1
              rcases hx2 with ⟨m, rfl⟩ | ⟨m, rfl⟩ <;> rfl
            refine w_eqS (k := false) (decide_eq_false cw) ?_
            walk_at "go"
            refine w_ixT j1 hq1 (atI_nat (j := 1) rfl) ?_
            rcases hx2 with ⟨m, rfl⟩ | ⟨m, rfl⟩
            rotate_left
            · walk_at "go"
              exact no (bad rfl) j1 e1
            walk_at "go"
            refine w_ixT j1 hq1 (atI_nat (j := 1) rfl) ?_
            walk_at "go"
            have lw : lwI ⟨true, qt, .str w :: .int m :: r⟩ = (decide (0 ≤ m) && (decide (m ≤ 999) && !(bad64.any fun z => PyData.eqv z (.tuple ((V.str w :: V.int m :: r).map pd))))) := by
              show (true && lwV (.str w :: .int m :: r)) = _
              unfold lwV
              dsimp only
              rw [decide_eq_false cw]; rfl
            refine w_dec (fun c4 => ?_) (fun c4 => ?_)
            · walk_at "go"
              refine no (bad ?_) j1 e1
              rw [lw, decide_eq_false (show ¬ 0 ≤ m by omega)]; rfl
            walk_at "go"
            refine w_ixT j1 hq1 (atI_nat (j := 1) rfl) ?_
            walk_at "go"
            refine w_dec (fun c5 => ?_) (fun c5 => ?_)
            · walk_at "go"
              refine no (bad ?_) j1 e1
              rw [lw, decide_eq_false (show ¬ m ≤ 999 by omega), Bool.false_and, Bool.and_false]
            walk_at "go"
            refine w_new j1 (by show 2 ≤ sizeLine; decide) fun u1 G2 H2 j2 e2 hu1 _ => ?_
            walk_at "go"
            refine w_new j2 (by show 3 ≤ sizeLine; decide) fun u2 G3 H3 j3 e3 hu2 _ => ?_
            walk_at "go"
            refine w_new j3 (by show 3 ≤ sizeLine; decide) fun u3 G4 H4 j4 e4 hu3 _ => ?_
            walk_at "go"
            refine w_new j4 (by show 3 ≤ sizeLine; decide) fun u4 G5 H5 j5 e5 hu4 _ => ?_
            walk_at "go"
            refine w_new j5 (by show 4 ≤ sizeLine; decide) fun u5 G6 H6 j6 e6 hu5 _ => ?_
            have E6 : Ex G1 G6 := (((e2.trans e3).trans e4).trans e5).trans e6
            have h1 := (((e3.trans e4).trans e5).trans e6) _ _ hu1
            have h2 := ((e4.trans e5).trans e6) _ _ hu2
            have h3 := (e5.trans e6) _ _ hu3
            have h4 := e6 _ _ hu4
            refine ⟨.tuple ((V.str w :: V.int m :: r).map pd), bad64, dp_mono j6.g (ItmAt.dp (hq.ex E6)), dp_mono j6.g (.lst (sl_of hu5) (.cons (.tup (st_of h1) (.cons (.str _) (.cons (.int _) .nil))) (.cons (.tup (st_of h2) (.cons (.str _) (.cons (.int _) (.cons .non .nil)))) (.cons (.tup (st_of h3) (.cons (.str _) (.cons (.int _) (.cons (.int _) .nil)))) (.cons (.tup (st_of h4) (.cons (.str _) (.cons (.int _) (.cons (.int _) .nil)))) .nil))))), hsh, shp_bad, ?_⟩
            walk_at "go"
            cases hb : (bad64.any fun z => PyData.eqv z (.tuple ((V.str w :: V.int m :: r).map pd))) with
            | true =>
              refine w_T ?_
              walk_at "go"
              refine no (bad ?_) j6 (e1.trans E6)
              rw [lw, hb, Bool.not_true, Bool.and_false, Bool.and_false]
            | false =>
              refine w_F ?_
              walk_at "go"
              refine good ?_ _ _ j6 E6
              rw [lw, hb, decide_eq_true (show 0 ≤ m by omega), decide_eq_true (show m ≤ 999 by omega)]; rfl
      · rintro σ H ⟨G1, y, j1, e1, hok, rfl⟩
        rw [List.length_map] at hok
        walk_at "go"
        refine k _ _ _ _ j1 e1 ⟨true, rfl, rfl, fun _ => hgi.mpr ?_, fun _ => rfl⟩
        unfold lwD
        rw [decide_eq_true hlen]
        refine List.all_eq_true.mpr fun q hq => ?_
        obtain ⟨m, hm⟩ := List.getElem?_of_mem hq
        exact hok m q (List.getElem?_eq_some_iff.mp hm).1 hm
/-! ### _law_good -/
abbrev s_law_good : Stmt := top 38
abbrev n_law_good : List Str := ["rows", "asked", "told", "row"]
theorem sc_law_good : FnScope n_law_good ["rows"] (defScope s_law_good) := ⟨rfl, rfl, rfl, by decide +kernel, rfl, by decide +kernel, by decide +kernel⟩
structure GoP where
  L : Addr
  vs : List V
  es : List RowX
def sp_law_good (K : PySem.W.Frag) : Sp := Sg (α := GoP) (fun x vs M G => vs = [.ref x.L] ∧ SqL K G x.L x.vs ∧ Paired (RwL K G) x.vs x.es ∧ x.es.length ≤ 100) (fun x M _ v M' _ => ∃ b, v = .bl b ∧ M' = M ∧ (b = true ↔ okRows [] x.es))
structure GoS (es : List RowX) (i : Nat) (ns tl : List Int) : Prop where
  le : ns.length ≤ 7 → ∃ ds, GdS ds ns tl ∧ (okRows [] es ↔ okRows ds (es.drop i))
  gt : 7 < ns.length → ¬ okRows [] es
  ln : ns.length ≤ i
  lt : tl.length ≤ i
theorem drop_at {es : List RowX} {i : Nat} {e : RowX} (h : es[i]? = some e) : es.drop i = e :: es.drop (i + 1) := List.drop_eq_getElem?_toList_append |>.trans (by rw [h]; rfl)
theorem GoS.bad {es : List RowX} {i : Nat} {ns tl : List Int} {e : RowX} (h : GoS es i ns tl) (he : es[i]? = some e) (n : ∀ ds, GdS ds ns tl → ¬ okRow ds e) : ¬ okRows [] es := by
  by_cases c : ns.length ≤ 7
  · obtain ⟨ds, h1, h2⟩ := h.le c
    rw [drop_at he] at h2
    exact fun z => n ds h1 (h2.mp z).1
  · exact h.gt (by omega)
theorem GdS.len {ds : List JD} {ns tl : List Int} (h : GdS ds ns tl) : ds.length = ns.length := by rw [← h.nm, List.length_map]
theorem GoS.ask {es : List RowX} {i : Nat} {ns tl : List Int} {n : Int} {x : Dth} (h : GoS es i ns tl) (he : es[i]? = some (.ask n x)) (hn : n ∉ ns) (hx : x.isGood = true) : GoS es (i + 1) (ns ++ [n]) tl := by
  have hl : (ns ++ [n]).length = ns.length + 1 := by rw [List.length_append]; rfl
  refine ⟨fun c => ?_, fun c => ?_, by rw [hl]; have := h.ln; omega, by have := h.lt; omega⟩
  · rw [hl] at c
    obtain ⟨ds, h1, h2⟩ := h.le (by omega)
    rw [drop_at he] at h2
    refine ⟨_, h1.ask (ops := opsOf x) hn, h2.trans ⟨fun z => z.2, fun z => ⟨⟨by rw [h1.nm]; exact hn, by rw [h1.len]; omega, hx⟩, z⟩⟩⟩
  · rw [hl] at c
    exact h.bad he fun ds h1 z => by
      have := z.2.1
      rw [h1.len] at this
      omega
theorem GoS.tell {es : List RowX} {i : Nat} {ns tl : List Int} {n : Int} {o r : PyData} (h : GoS es i ns tl) (he : es[i]? = some (.tell n o r)) (hn : n ∈ ns) (ht : n ∉ tl) : GoS es (i + 1) ns (tl ++ [n]) := by
  refine ⟨fun c => ?_, h.gt, by have := h.ln; omega, by rw [List.length_append]; have := h.lt; simp only [List.length_cons, List.length_nil]; omega⟩
  obtain ⟨ds, h1, h2⟩ := h.le c
  rw [drop_at he] at h2
  exact ⟨_, h1.tell (o := o) (r := r) hn, h2.trans ⟨fun z => z.2, fun z => ⟨(h1.ok (o := o) (r := r)).mpr ⟨hn, ht⟩, z⟩⟩⟩
theorem ok_law_good {P : Program} {w : World} {K : PySem.W.Frag} {mg : Str → Option Value} {base : Heap}
    {f : Addr} {fd : FuncData} (D : Dn K mg "_law_good" s_law_good ["rows"] f fd)
    (b_len : mg "len" = none)
    (b_isinstance : mg "isinstance" = none)
    (b_bool : mg "bool" = none)
    (b_int : mg "int" = none)
    (b_tuple : mg "tuple" = none)
    (c_law_good_asked : Cal P w K mg base CX0 1 "_law_good_asked" (sp_law_good_asked K)) : Cal P w K mg base CX0 2 "_law_good" (sp_law_good K) := by
  refine D.ok sc_law_good (fun vs H Q E h => ?_) fun cdv A outer s H vs Q E hr h => ?_
  · obtain ⟨x, M, G, j, ⟨rfl, _⟩, _⟩ := h; rfl
  obtain ⟨⟨L, vs, es⟩, M, G, j, ⟨rfl, hL, hP, hl⟩, k⟩ := h
  dsimp only at hL hP hl k
  refine ⟨_, (pss_cons (ps_set (i := 1) sc_law_good.nd rfl (Or.inl rfl) (pe_lst pa_nil))
(pss_cons (ps_set (i := 2) sc_law_good.nd rfl (Or.inl rfl) (pe_lst pa_nil))
(pss_cons (ps_for PassesOwn.never rfl (pi_list (pv 0)) (pg_name (i := 3) sc_law_good.nd rfl (Or.inl rfl))
(pss_cons (ps_if (PW.pt (pw_or (pt_not (pt_val (pe_callB (call_isiK' (K := K) rfl) (by rfl) b_isinstance bt_isinstance (pa_cons (pv 3) (pa_cons (pe_bltn (v := .ty "tuple") (by rfl) b_tuple bt_tuple rfl) pa_nil))))) (pw_or1 (pt_cmpR op_lt (pe_callB (call_uLenK (K := K) rfl) (by rfl) b_len PySem.boot_len (pa_cons (pv 3) pa_nil)) pe_int (nomark _)))))
(pss_one (ps_ret pe_bl))
pss_nil)
(pss_cons (ps_if (PW.pt (pw_or (pt_not (pt_val (pe_callB (call_isiK' (K := K) rfl) (by rfl) b_isinstance bt_isinstance (pa_cons (pe_ix (ix_uK (K := K) rfl) (pv 3) pe_int (fun _ _ => rfl)) (pa_cons (pe_bltn (v := .ty "int") (by rfl) b_int bt_int rfl) pa_nil))))) (pw_or1 (pt_val (pe_callB (call_isiK' (K := K) rfl) (by rfl) b_isinstance bt_isinstance (pa_cons (pe_ix (ix_uK (K := K) rfl) (pv 3) pe_int (fun _ _ => rfl)) (pa_cons (pe_bltn (v := .ty "bool") (by rfl) b_bool bt_bool rfl) pa_nil)))))))
(pss_one (ps_ret pe_bl))
pss_nil)
(pss_one (ps_if (pt_cmpR (op_uEqK (K := K) rfl hr) (pe_ix (ix_uK (K := K) rfl) (pv 3) pe_int (fun _ _ => rfl)) pe_str (nomark _))
(pss_cons (ps_if (pt_not (pt_val (pe_cal c_law_good_asked hr (by first | decide | omega) (by rfl) (pa_cons (pv 3) (pa_cons (pv 1) pa_nil)))))
(pss_one (ps_ret pe_bl))
pss_nil)
(pss_one (ps_expr (pe_bm PySem.F.plainAttrs_list PySem.F.slot_list_append PySem.F.type_list_append mt_append (pv 1) (pa_cons (pe_ix (ix_uK (K := K) rfl) (pv 3) pe_int (fun _ _ => rfl)) pa_nil)))))
(pss_one (ps_if (pt_cmpR (op_uEqK (K := K) rfl hr) (pe_ix (ix_uK (K := K) rfl) (pv 3) pe_int (fun _ _ => rfl)) pe_str (nomark _))
(pss_cons (ps_if (PW.pt (pw_or (pt_cmpR (op_uNeK (K := K) rfl hr) (pe_callB (call_uLenK (K := K) rfl) (by rfl) b_len PySem.boot_len (pa_cons (pv 3) pa_nil)) pe_int (nomark _)) (pw_or (pt_cmpR (op_notInK (K := K) rfl) (pe_ix (ix_uK (K := K) rfl) (pv 3) pe_int (fun _ _ => rfl)) (pv 1) (by with_unfolding_all rfl)) (pw_or1 (pt_cmpR (op_inK (K := K) rfl) (pe_ix (ix_uK (K := K) rfl) (pv 3) pe_int (fun _ _ => rfl)) (pv 2) (by with_unfolding_all rfl))))))
(pss_one (ps_ret pe_bl))
pss_nil)
(pss_one (ps_expr (pe_bm PySem.F.plainAttrs_list PySem.F.slot_list_append PySem.F.type_list_append mt_append (pv 2) (pa_cons (pe_ix (ix_uK (K := K) rfl) (pv 3) pe_int (fun _ _ => rfl)) pa_nil)))))
(pss_one (ps_ret pe_bl)))))))))
(pss_one (ps_ret (pe_cmpR op_le (pe_callB (call_uLenK (K := K) rfl) (by rfl) b_len PySem.boot_len (pa_cons (pv 1) pa_nil)) pe_int (nomark _))))))), ?_⟩
  have lv := Paired.length hP
  have z0 : ∀ {x : V} {xs : List V}, atI (x :: xs) 0 = some x := fun {x xs} => atI_0
  have z1 : ∀ {x y : V} {xs : List V}, atI (x :: y :: xs) 1 = some y := fun {x y xs} => atI_nat (j := 1) rfl
  walk_at "start"
  refine w_newM j (Nat.zero_le _) fun La H1 j1 na ga => ?_
  walk_at "go"
  refine w_newM j1 (Nat.zero_le _) fun Lt H2 j2 nt gt => ?_
  walk_at "go"
  have nat : La ≠ Lt := fun z => by rw [← z, upd_same] at nt; cases nt
  have nt0 : M Lt = none := by rw [upd_ne nat.symm] at nt; exact nt
  have no : ∀ {M' G' H' : Hp}, ¬ okRows [] es → J M' G' H' → Same M M' → Ex G G' → Q (.bl false) H' := fun h j s e => k _ _ _ _ (j.sub s) e ⟨false, rfl, rfl, (fun z => nomatch z), fun z => absurd z h⟩
  refine w_forLV rfl (xs := vs) (fun i σ H => ∃ ns tl M3 G3 x3, J M3 G3 H ∧ Ex G G3 ∧ Same M M3 ∧ M3 La = some (.lst (ns.map V.int)) ∧ M3 Lt = some (.lst (tl.map V.int)) ∧ GoS es i ns tl ∧ σ = [some (.ref L), some (.ref La), some (.ref Lt), x3]) (sl_mono (j2.g) hL) ⟨[], [], _, G, _, j2, Same.refl _, fun a o e => upd_ne' (upd_ne' e (ne_of_none e na)) (ne_of_none e nt0), upd_ne' upd_same nat, upd_same, ⟨fun _ => ⟨[], GdS.nil, Iff.rfl⟩, (fun z => absurd z (by decide)), Nat.zero_le _, Nat.zero_le _⟩, rfl⟩ ?_ ?_ ?_
  · rintro i σ H _ ⟨ns, tl, M3, G3, x3, j3, e3, _⟩
    exact sl_mono (e3.trans j3.g) hL
  · rintro i v σ H hi ⟨ns, tl, M3, G3, x3, j3, e3, s3, ha, ht, hS, rfl⟩
    obtain ⟨e, he, hev⟩ := paired_atX hP hi
    have hev := hev.ex e3
    have hi100 : i < es.length := (List.getElem?_eq_some_iff.mp he).1
    have l1 := hS.ln
    have l2 := hS.lt
    walk_at "go"
    cases e with
    | ask n x =>
      obtain ⟨t, u, rfl, htu, hlw⟩ := hev
      refine w_isi true (ty_T (st_mono j3.g (st_of htu))) (by rfl) ?_
      walk_at "go"
      refine w_lenT j3 (st_of htu) ?_
      walk_at "go"
      refine w_dF (by simp only [List.length_cons, List.length_nil]; omega) ?_
      walk_at "go"
      refine w_ixT j3 (st_of htu) z1 ?_
      walk_at "go"
      refine w_ixT j3 (st_of htu) z1 ?_
      walk_at "go"
      refine w_ixT j3 (st_of htu) z0 ?_
      walk_at "go"
      refine w_sg (α := GaP) ⟨t, La, ns, some (n, x)⟩ j3 ⟨rfl, ha, u, htu, hlw⟩ fun v4 M4 G4 H4 j4 e4 ⟨b, ev, em, hb⟩ => ?_
      subst ev em
      dsimp only at hb
      walk_at "go"
      cases b with
      | false =>
        refine w_nf ?_
        walk_at "go"
        refine no (hS.bad he fun ds h1 z => ?_) j4 s3 (e3.trans e4)
        have := hb.mpr ⟨by rw [← h1.nm]; exact z.1, z.2.2⟩
        cases this
      | true =>
        have hg := hb.mp rfl
        refine w_nt ?_
        walk_at "go"
        refine ⟨ty_listM j4 ha, ?_⟩
        walk_at "go"
        refine w_ixT j4 (st_of (e4 _ _ htu)) z1 ?_
        walk_at "go"
        refine w_appendA j4 ha (by rw [List.length_map]; omega) fun H5 j5 => ?_
        rw [map_snoc] at j5
        walk_at "go"
        exact ⟨ns ++ [n], tl, _, G4, _, j5, e3.trans e4, fun a o e => upd_ne' (s3 a o e) (ne_of_none e na), upd_same, upd_ne' ht nat.symm, hS.ask he hg.1 hg.2, rfl⟩
    | tell n o r =>
      obtain ⟨t, v1, v2, rfl, htu, hd1, hd2⟩ := hev
      refine w_isi true (ty_T (st_mono j3.g (st_of htu))) (by rfl) ?_
      walk_at "go"
      refine w_lenT j3 (st_of htu) ?_
      walk_at "go"
      refine w_dF (by simp only [List.length_cons, List.length_nil]; omega) ?_
      walk_at "go"
      refine w_ixT j3 (st_of htu) z1 ?_
      walk_at "go"
      refine w_ixT j3 (st_of htu) z1 ?_
      walk_at "go"
      refine w_ixT j3 (st_of htu) z0 ?_
      walk_at "go"
      refine w_ixT j3 (st_of htu) z0 ?_
      walk_at "go"
      refine w_lenT j3 (st_of htu) ?_
      walk_at "go"
      refine w_nT (by rfl) ?_
      walk_at "go"
      refine w_ixT j3 (st_of htu) z1 ?_
      walk_at "go"
      refine w_ninMI j3 ha ?_
      walk_at "go"
      refine w_decN (fun c1 => ?_) (fun c1 => ?_)
      · walk_at "go"
        exact no (hS.bad he fun ds h1 z => c1 ((h1.ok (o := o) (r := r)).mp z).1) j3 s3 e3
      walk_at "go"
      refine w_ixT j3 (st_of htu) z1 ?_
      walk_at "go"
      refine w_inMI j3 ht ?_
      walk_at "go"
      refine w_dec (fun c2 => ?_) (fun c2 => ?_)
      · walk_at "go"
        exact no (hS.bad he fun ds h1 z => ((h1.ok (o := o) (r := r)).mp z).2 c2) j3 s3 e3
      walk_at "go"
      refine ⟨ty_listM j3 ht, ?_⟩
      walk_at "go"
      refine w_ixT j3 (st_of htu) z1 ?_
      walk_at "go"
      refine w_appendA j3 ht (by rw [List.length_map]; omega) fun H5 j5 => ?_
      rw [map_snoc] at j5
      walk_at "go"
      exact ⟨ns, tl ++ [n], _, G3, _, j5, e3, fun a o e => upd_ne' (s3 a o e) (ne_of_none e nt0), upd_ne' ha nat, upd_same, hS.tell he c1 c2, rfl⟩
    | junk =>
      have bad : ∀ {G' H' : Hp}, J M3 G' H' → Ex G3 G' → Q (.bl false) H' := fun j e => no (hS.bad he fun ds _ z => z) j s3 (e3.trans e)
      rcases hev with ⟨t, xs, rfl, htu⟩ | ⟨t, xs, rfl, htu, hx⟩
      · refine w_isi false (ty_L (sl_mono j3.g htu)) (by rfl) ?_
        walk_at "go"
        exact bad j3 (Same.refl _)
      refine w_isi true (ty_T (st_mono j3.g htu)) (by rfl) ?_
      walk_at "go"
      refine w_lenT j3 htu ?_
      walk_at "go"
      rcases hx with hx | ⟨w, nm, rest, rfl, hl1, hx⟩
      · refine w_dT (by omega) ?_
        walk_at "go"
        exact bad j3 (Same.refl _)
      refine w_dF (by simp only [List.length_cons]; omega) ?_
      walk_at "go"
      refine w_ixT j3 htu z1 ?_
      rcases hx with ⟨b, rfl⟩ | ⟨s5, rfl⟩ | ⟨n, rfl, hx1, hx2⟩
      · walk_at "go"
        refine w_ixT j3 htu z1 ?_
        walk_at "go"
        exact bad j3 (Same.refl _)
      · walk_at "go"
        exact bad j3 (Same.refl _)
      walk_at "go"
      refine w_ixT j3 htu z1 ?_
      walk_at "go"
      refine w_ixT j3 htu z0 ?_
      walk_at "go"
      have lw : (V.str w :: V.int n :: rest).length = rest.length + 2 := rfl
      by_cases ca : w = "asked"
      · subst ca
        have hr : rest.length ≠ 1 := fun z => hx1 ⟨rfl, z⟩
        refine w_eqS (k := true) (by decide +kernel) ?_
        walk_at "go"
        refine w_sg (α := GaP) ⟨t, La, ns, none⟩ j3 ⟨rfl, ha, _, htu, by rw [lw]; omega⟩ fun v4 M4 G4 H4 j4 e4 ⟨b, ev, em, hb⟩ => ?_
        subst ev em
        have hb : b = false := by
          cases b with
          | false => rfl
          | true => exact (hb.mp rfl).elim
        subst hb
        walk_at "go"
        exact bad j4 e4
      refine w_eqS (k := false) (decide_eq_false ca) ?_
      walk_at "go"
      refine w_ixT j3 htu z0 ?_
      walk_at "go"
      by_cases ct : w = "told"
      · subst ct
        have hr : rest.length ≠ 2 := fun z => hx2 ⟨rfl, z⟩
        refine w_eqS (k := true) (by decide +kernel) ?_
        walk_at "go"
        refine w_lenT j3 htu ?_
        walk_at "go"
        refine w_nF (by rw [lw]; omega) ?_
        walk_at "go"
        exact bad j3 (Same.refl _)
      refine w_eqS (k := false) (decide_eq_false ct) ?_
      walk_at "go"
      exact bad j3 (Same.refl _)
  · rintro σ H ⟨ns, tl, M3, G3, x3, j3, e3, s3, ha, ht, hS, rfl⟩
    walk_at "go"
    refine w_lenM j3 ha ?_
    walk_at "go"
    rw [List.length_map]
    refine k _ _ _ _ (j3.sub s3) e3 ⟨_, rfl, rfl, ?_⟩
    rw [decide_eq_true_iff]
    rw [lv] at hS
    constructor
    · intro c
      obtain ⟨ds, h1, h2⟩ := hS.le (by omega)
      rw [List.drop_length] at h2
      exact h2.mpr trivial
    · intro z
      by_cases c : ns.length ≤ 7
      · omega
      · exact absurd z (hS.gt (by omega))
/-! ### dictionaries by lists of pairs (as for tables) -/
theorem paired_snoc {α β : Type} {F : α → β → Prop} {x : α} {y : β} (h : F x y) : ∀ {xs : List α} {ys : List β}, Paired F xs ys → Paired F (xs ++ [x]) (ys ++ [y])
  | _, _, .nil => .cons h .nil
  | _, _, .cons h' t => .cons h' (paired_snoc h t)
section
variable {α β κ : Type} [DecidableEq α] [DecidableEq κ]
def getA (l : List (α × β)) (a : α) : Option β := (l.find? fun p => decide (p.1 = a)).map (·.2)
def putA (l : List (α × β)) (a : α) (b : β) : List (α × β) := if (l.any fun p => decide (p.1 = a)) = true then l.map (fun p => if p.1 = a then (p.1, b) else p) else l ++ [(a, b)]
def dropA (l : List (α × β)) (a : α) : List (α × β) := l.filter fun p => decide (p.1 ≠ a)
theorem getA_nil {a : α} : getA ([] : List (α × β)) a = none := rfl
theorem getA_pos {p : α × β} {r : List (α × β)} {a : α} (e : p.1 = a) : getA (p :: r) a = some p.2 := by simp [getA, e]
theorem getA_neg {p : α × β} {r : List (α × β)} {a : α} (e : ¬ p.1 = a) : getA (p :: r) a = getA r a := by simp [getA, e]
theorem getA_mem {l : List (α × β)} {a : α} {b : β} (h : getA l a = some b) : (a, b) ∈ l := by
  induction l with
  | nil => cases h
  | cons p r ih =>
    by_cases e : p.1 = a
    · rw [getA_pos e] at h
      have h := Option.some.inj h
      subst e h
      exact List.mem_cons_self
    · rw [getA_neg e] at h; exact List.mem_cons_of_mem _ (ih h)
theorem getA_of {l : List (α × β)} (hn : (l.map (·.1)).Nodup) {p : α × β} (h : p ∈ l) : getA l p.1 = some p.2 := by
  induction l with
  | nil => cases h
  | cons q r ih =>
    rw [List.map_cons, List.nodup_cons] at hn
    rcases List.mem_cons.mp h with rfl | h
    · exact getA_pos rfl
    · rw [getA_neg (fun e => hn.1 (e ▸ List.mem_map_of_mem h)), ih hn.2 h]
theorem getA_none {l : List (α × β)} {a : α} : getA l a = none ↔ a ∉ l.map (·.1) := by
  induction l with
  | nil => simp [getA_nil]
  | cons p r ih =>
    by_cases e : p.1 = a
    · rw [getA_pos e]; simp [e]
    · rw [getA_neg e, ih, List.map_cons, List.mem_cons]
      constructor
      · rintro h (z | z)
        · exact e z.symm
        · exact h z
      · exact fun h z => h (.inr z)
theorem getA_any {l : List (α × β)} {a : α} : (l.any fun p => decide (p.1 = a)) = (getA l a).isSome := by
  induction l with
  | nil => rfl
  | cons p r ih =>
    by_cases e : p.1 = a
    · rw [getA_pos e, List.any_cons, decide_eq_true e]; rfl
    · rw [getA_neg e, List.any_cons, decide_eq_false e, ih]; rfl
theorem putA_keys {l : List (α × β)} {a : α} {b : β} : (putA l a b).map (·.1) = if (getA l a).isSome = true then l.map (·.1) else l.map (·.1) ++ [a] := by
  unfold putA
  rw [getA_any]
  split
  · rw [List.map_map]
    refine List.map_congr_left fun p _ => ?_
    show (if p.1 = a then (p.1, b) else p).1 = p.1
    split <;> rfl
  · rw [List.map_append]; rfl
theorem putA_nodup {l : List (α × β)} {a : α} {b : β} (h : (l.map (·.1)).Nodup) : ((putA l a b).map (·.1)).Nodup := by
  rw [putA_keys]
  split
  · exact h
  · rename_i q
    have : getA l a = none := by cases e : getA l a with
      | none => rfl
      | some x => rw [e] at q; exact (q rfl).elim
    rw [List.nodup_append]
    refine ⟨h, by simp, fun x hx y hy => ?_⟩
    rw [List.mem_singleton.mp hy]
    exact fun z => getA_none.mp this (z ▸ hx)
theorem putA_mem {l : List (α × β)} {a : α} {b : β} {p : α × β} (h : p ∈ putA l a b) : p ∈ l ∨ p = (a, b) := by
  unfold putA at h
  split at h
  · obtain ⟨q, hq, rfl⟩ := List.mem_map.mp h
    by_cases e : q.1 = a
    · rw [if_pos e, e]; exact .inr rfl
    · rw [if_neg e]; exact .inl hq
  · rcases List.mem_append.mp h with m | m
    · exact .inl m
    · exact .inr (List.mem_singleton.mp m)
theorem putA_len {l : List (α × β)} {a : α} {b : β} : (putA l a b).length ≤ l.length + 1 := by
  unfold putA
  split
  · rw [List.length_map]; omega
  · rw [List.length_append]; exact Nat.le_refl _
theorem getA_map {a c : α} {b : β} : ∀ l : List (α × β), getA (l.map fun p => if p.1 = a then (p.1, b) else p) c = (getA l c).map fun x => if c = a then b else x
  | [] => rfl
  | p :: r => by
    have ih := getA_map (a := a) (c := c) (b := b) r
    rw [List.map_cons]
    by_cases h : p.1 = a
    · rw [if_pos h]
      by_cases e : p.1 = c
      · rw [getA_pos (p := (p.1, b)) e, getA_pos e, Option.map_some, if_pos (e.symm.trans h)]
      · rw [getA_neg (p := (p.1, b)) e, getA_neg e, ih]
    · rw [if_neg h]
      by_cases e : p.1 = c
      · rw [getA_pos e, getA_pos e, Option.map_some, if_neg (fun z => h (e.trans z))]
      · rw [getA_neg e, getA_neg e, ih]
theorem getA_snoc {a c : α} {b : β} : ∀ l : List (α × β), getA l a = none → getA (l ++ [(a, b)]) c = if c = a then some b else getA l c
  | [], _ => by
    by_cases e : a = c
    · rw [if_pos e.symm]; exact getA_pos (p := (a, b)) e
    · rw [if_neg (fun z => e z.symm)]; exact getA_neg (p := (a, b)) e
  | p :: r, h => by
    have hk : ¬ p.1 = a := fun z => by rw [getA_pos z] at h; cases h
    rw [getA_neg hk] at h
    rw [List.cons_append]
    by_cases e : p.1 = c
    · rw [getA_pos e, getA_pos e, if_neg (fun z => hk (e.trans z))]
    · rw [getA_neg e, getA_neg e, getA_snoc r h]
theorem getA_put {l : List (α × β)} {a c : α} {b : β} : getA (putA l a b) c = if c = a then some b else getA l c := by
  unfold putA
  rw [getA_any]
  cases e : getA l a with
  | some x =>
    rw [if_pos (show (some x).isSome = true from rfl), getA_map]
    by_cases q : c = a
    · subst q; rw [if_pos rfl, e, Option.map_some, if_pos rfl]
    · rw [if_neg q]
      cases getA l c with
      | none => rfl
      | some y => rw [Option.map_some, if_neg q]
  | none => rw [if_neg (by simp), getA_snoc l e]
theorem dropA_mem {l : List (α × β)} {a : α} {p : α × β} : p ∈ dropA l a ↔ p ∈ l ∧ p.1 ≠ a := by
  unfold dropA
  rw [List.mem_filter, decide_eq_true_iff]
theorem dropA_nodup {l : List (α × β)} {a : α} (h : (l.map (·.1)).Nodup) : ((dropA l a).map (·.1)).Nodup := h.sublist (List.filter_sublist.map _)
theorem dropA_len {l : List (α × β)} {a : α} : (dropA l a).length ≤ l.length := List.length_filter_le _ _
/-- a dict -/
def DcAt (enc : α → κ) (F : V → β → Prop) (kv : List (κ × V)) (l : List (α × β)) : Prop := Paired (fun (e : κ × V) (p : α × β) => e.1 = enc p.1 ∧ F e.2 p.2) kv l
variable {enc : α → κ} {F : V → β → Prop} {kv : List (κ × V)} {l : List (α × β)} {a : α} {b : β} {v : V}
theorem DcAt.len (h : DcAt enc F kv l) : kv.length = l.length := Paired.length h
theorem DcAt.keys (h : DcAt enc F kv l) : kv.map (·.1) = (l.map (·.1)).map enc := by
  induction h with
  | nil => rfl
  | cons f _ ih => rw [List.map_cons, List.map_cons, List.map_cons, ih, f.1]
theorem DcAt.get (inj : ∀ x y, enc x = enc y → x = y) (h : DcAt enc F kv l) (a : α) : (getA l a = none ∧ valV kv (enc a) = none) ∨ ∃ b v, getA l a = some b ∧ valV kv (enc a) = some v ∧ F v b := by
  induction h with
  | nil => exact .inl ⟨rfl, rfl⟩
  | @cons e p kv l f t ih =>
    by_cases q : p.1 = a
    · exact .inr ⟨p.2, e.2, getA_pos q, valV_pos (f.1.trans (congrArg enc q)), f.2⟩
    · rw [getA_neg q, valV_neg (fun z => q (inj _ _ (f.1.symm.trans z)))]
      exact ih
theorem DcAt.any (inj : ∀ x y, enc x = enc y → x = y) (h : DcAt enc F kv l) (a : α) : (valV kv (enc a)).isSome = (getA l a).isSome := by
  rcases h.get inj a with ⟨h1, h2⟩ | ⟨b, v, h1, h2, _⟩
  · rw [h1, h2]; rfl
  · rw [h1, h2]; rfl
theorem DcAt.put (inj : ∀ x y, enc x = enc y → x = y) (h : DcAt enc F kv l) (hv : F v b) : DcAt enc F (putK kv (enc a) v) (putA l a b) := by
  unfold putK putA
  rw [valV_any, getA_any, h.any inj a]
  split
  · rename_i hs
    clear hs
    unfold DcAt
    induction h with
    | nil => exact .nil
    | @cons e p kv l f t ih =>
      refine .cons ?_ ih
      show (if e.1 = enc a then (e.1, v) else e).1 = enc (if p.1 = a then (p.1, b) else p).1 ∧ F (if e.1 = enc a then (e.1, v) else e).2 (if p.1 = a then (p.1, b) else p).2
      by_cases q : p.1 = a
      · rw [if_pos (f.1.trans (congrArg enc q)), if_pos q]; exact ⟨f.1, hv⟩
      · rw [if_neg (fun z => q (inj _ _ (f.1.symm.trans z))), if_neg q]; exact f
  · exact paired_snoc ⟨rfl, hv⟩ h
theorem DcAt.drop (inj : ∀ x y, enc x = enc y → x = y) (h : DcAt enc F kv l) : DcAt enc F (dropK kv (enc a)) (dropA l a) := by
  unfold dropK dropA DcAt
  induction h with
  | nil => exact .nil
  | @cons e p kv l f t ih =>
    by_cases q : p.1 = a
    · have q2 := f.1.trans (congrArg enc q)
      rw [List.filter_cons_of_neg (by simpa using q2), List.filter_cons_of_neg (by simpa using q)]
      exact ih
    · have q2 : e.1 ≠ enc a := fun z => q (inj _ _ (f.1.symm.trans z))
      rw [List.filter_cons_of_pos (by simpa using q2), List.filter_cons_of_pos (by simpa using q)]
      exact .cons f ih
theorem DcAt.mono {F' : V → β → Prop} (h : DcAt enc F kv l) (g : ∀ v b, F v b → F' v b) : DcAt enc F' kv l := L2.Paired.mapP h fun _ _ f => ⟨f.1, g _ _ f.2⟩
end

theorem inl_inj (x y : Int) (h : (Sum.inl x : Key) = Sum.inl y) : x = y := Sum.inl.inj h
theorem putA_new {α β : Type} [DecidableEq α] {l : List (α × β)} {a : α} {b : β} (h : getA l a = none) : putA l a b = l ++ [(a, b)] := by
  unfold putA
  rw [getA_any, h, if_neg (by simp)]
theorem getA_take {α β : Type} [DecidableEq α] {l : List (α × β)} (hn : (l.map (·.1)).Nodup) {i : Nat} {x : α × β} (hi : l[i]? = some x) : getA (l.take i) x.1 = none := by
  rw [getA_none]
  intro m
  obtain ⟨y, hy, e⟩ := List.mem_map.mp m
  obtain ⟨k, hk, rfl⟩ := List.mem_take_iff_getElem.mp hy
  have li := (List.getElem?_eq_some_iff.mp hi).1
  have e2 : l[i] = x := (List.getElem?_eq_some_iff.mp hi).2
  have e3 : (l.map (·.1))[k]'(by rw [List.length_map]; omega) = (l.map (·.1))[i]'(by rw [List.length_map]; exact li) := by
    rw [List.getElem_map, List.getElem_map, e2]; exact e
  have := (List.getElem_inj (h₀ := by rw [List.length_map]; omega) (h₁ := by rw [List.length_map]; exact li) hn).mp e3
  omega
def ForKyT (g : TG) (t : TS) (D : Ends) (σ : L2.St) (x : V) (H1 : Hp) : Prop := ∃ d o, x = .ref d ∧
  ((∃ kvs, H1 d = some (.frz o (.dK kvs)) ∧ ∃ W : Nat → Nat → L2.St → Hp → Prop, (∃ m, W 0 m σ H1) ∧ ∀ i m σ H, W i m σ H →
  ((Itk d o kvs).stop i H ∧ D.nx σ H) ∨ ((Itk d o kvs).go i H ∧ ∃ N : L2.St → Hp → Prop, (∀ σ' H', N σ' H' → ∃ m', m' < m ∧ W (i + 1) m' σ' H') ∧ ∀ x H', (Itk d o kvs).yld i H x H' → g x σ H' fun σ2 H2 => t { D with nx := N, ct := N, bk := D.nx } σ2 H2)) ∨
  ∃ kvs, H1 d = some (.frz o (.dT kvs)) ∧ ∃ W : Nat → Nat → L2.St → Hp → Prop, (∃ m, W 0 m σ H1) ∧ ∀ i m σ H, W i m σ H →
  ((Itkt d o kvs).stop i H ∧ D.nx σ H) ∨ ((Itkt d o kvs).go i H ∧ ∃ N : L2.St → Hp → Prop, (∀ σ' H', N σ' H' → ∃ m', m' < m ∧ W (i + 1) m' σ' H') ∧ ∀ x H', (Itkt d o kvs).yld i H x H' → g x σ H' fun σ2 H2 => t { D with nx := N, ct := N, bk := D.nx } σ2 H2))
theorem w_forKyTe {td : TE} {g : TG} {t : TS} {D : Ends} {σ : L2.St} {H : Hp} (h : td σ H fun x H1 => ForKyT g t D σ x H1) : tFor (iKeys td) g t D σ H := h
local macro_rules
  | `(tactic| walk_at "v") => `(tactic| with_reducible refine w_forKyTe ?_)
theorem w_forKyTM {H : Hp} {d : Addr} {o : Obj} {kvs : List (List Key × V)} {g : TG} {t : TS} {D : Ends} {σ : L2.St} (hx : H d = some (.frz o (.dT kvs))) (Pv : Nat → L2.St → Hp → Prop) (h0 : Pv 0 σ H) (hl : ∀ i σ H, Pv i σ H → H d = some (.frz o (.dT kvs)))
    (hs : ∀ i q k v σ H1, kvs[i]? = some (k, v) → H1 q = some (.tup (k.map kV)) → Pv i σ H1 → g (.ref q) σ H1 fun σ2 H2 => t { D with nx := Pv (i + 1), ct := Pv (i + 1), bk := D.nx } σ2 H2) (hd : ∀ σ H1, Pv kvs.length σ H1 → D.nx σ H1) : ForKyT g t D σ (.ref d) H := by
  refine ⟨d, o, rfl, .inr ⟨kvs, hx, for_it walk_keysT Pv h0 (fun i σ H _ p => hl i σ H p) ?_ hd⟩⟩
  rintro i x σ H H' hi p ⟨rfl, k, v, q, hkv, rfl, hq⟩
  exact hs i q k v σ _ hkv hq p
theorem w_forKyKM {H : Hp} {d : Addr} {o : Obj} {kvs : List (Key × V)} {g : TG} {t : TS} {D : Ends} {σ : L2.St} (hx : H d = some (.frz o (.dK kvs))) (Pv : Nat → L2.St → Hp → Prop) (h0 : Pv 0 σ H) (hl : ∀ i σ H, Pv i σ H → H d = some (.frz o (.dK kvs)))
    (hs : ∀ i k v σ H1, kvs[i]? = some (k, v) → Pv i σ H1 → g (kV k) σ H1 fun σ2 H2 => t { D with nx := Pv (i + 1), ct := Pv (i + 1), bk := D.nx } σ2 H2) (hd : ∀ σ H1, Pv kvs.length σ H1 → D.nx σ H1) : ForKyT g t D σ (.ref d) H := by
  refine ⟨d, o, rfl, .inl ⟨kvs, hx, for_it walk_keys Pv h0 (fun i σ H _ p => hl i σ H p) ?_ hd⟩⟩
  rintro i x σ H H' hi p ⟨rfl, k, v, hkv, rfl⟩
  exact hs i k v σ _ hkv p
/-! ### what explains a record -/
def askL : Nat → List Ev → List (Int × List Op × Nat)
  | _, [] => []
  | i, .ask n ops :: r => (n, ops, i) :: askL (i + 1) r
  | i, .tell _ _ _ :: r => askL (i + 1) r
def tellL : Nat → List Ev → List (Int × (PyData × PyData) × Nat)
  | _, [] => []
  | i, .ask _ _ :: r => tellL (i + 1) r
  | i, .tell n o x :: r => (n, (o, x), i) :: tellL (i + 1) r
theorem askL_snoc (e : Ev) : ∀ (i : Nat) (es : List Ev), askL i (es ++ [e]) = askL i es ++ askL (i + es.length) [e]
  | i, [] => by simp [askL]
  | i, .ask n ops :: r => by
    show (n, ops, i) :: askL (i + 1) (r ++ [e]) = (n, ops, i) :: askL (i + 1) r ++ _
    rw [askL_snoc e (i + 1) r, List.cons_append, List.length_cons]
    congr 3; omega
  | i, .tell n o x :: r => by
    show askL (i + 1) (r ++ [e]) = askL (i + 1) r ++ _
    rw [askL_snoc e (i + 1) r, List.length_cons]
    congr 2; omega
theorem tellL_snoc (e : Ev) : ∀ (i : Nat) (es : List Ev), tellL i (es ++ [e]) = tellL i es ++ tellL (i + es.length) [e]
  | i, [] => by simp [tellL]
  | i, .ask n ops :: r => by
    show tellL (i + 1) (r ++ [e]) = tellL (i + 1) r ++ _
    rw [tellL_snoc e (i + 1) r, List.length_cons]
    congr 2; omega
  | i, .tell n o x :: r => by
    show (n, (o, x), i) :: tellL (i + 1) (r ++ [e]) = (n, (o, x), i) :: tellL (i + 1) r ++ _
    rw [tellL_snoc e (i + 1) r, List.cons_append, List.length_cons]
    congr 3; omega
open Classical in
noncomputable def fitT (T : List (Int × (PyData × PyData) × Nat)) (n : Int) (m : Fn) (ops : List Op) : Bool := match getA T n with
  | none => true
  | some x => decide (PyData.list [.str (outM m ops), .list ((ressM m ops).map resD)] = .list [x.1.1, x.1.2])
/-- the first loop -/
noncomputable def runO (A : List (Int × List Op × Nat)) (T : List (Int × (PyData × PyData) × Nat)) : List Int → Fn → List Int → Bool
  | _, _, [] => true
  | done, m, n :: r => if n ∈ done then false else match getA A n with
    | none => false
    | some a => fitT T n m a.1 && runO A T (done ++ [n]) (endM m a.1) r
section
variable {A : List (Int × List Op × Nat)} {T : List (Int × (PyData × PyData) × Nat)} {done r : List Int} {m : Fn} {n : Int} {a : List Op × Nat}
theorem runO_in (h : n ∈ done) : runO A T done m (n :: r) = false := by rw [runO, if_pos h]
theorem runO_no (h : getA A n = none) : runO A T done m (n :: r) = false := by
  rw [runO]
  split
  · rfl
  · rw [h]
theorem runO_go (h : n ∉ done) (g : getA A n = some a) : runO A T done m (n :: r) = (fitT T n m a.1 && runO A T (done ++ [n]) (endM m a.1) r) := by rw [runO, if_neg h, g]
theorem fitT_none (h : getA T n = none) {ops : List Op} : fitT T n m ops = true := by unfold fitT; rw [h]
open Classical in
theorem fitT_some {x : (PyData × PyData) × Nat} (h : getA T n = some x) {ops : List Op} : fitT T n m ops = true ↔ PyData.list [.str (outM m ops), .list ((ressM m ops).map resD)] = .list [x.1.1, x.1.2] := by
  unfold fitT; rw [h]; exact decide_eq_true_iff
end
/-- the places -/
def posL : Nat → List Int → List (Int × Nat)
  | _, [] => []
  | i, n :: r => (n, i) :: posL (i + 1) r
theorem posL_snoc (n : Int) : ∀ (i : Nat) (o : List Int), posL i (o ++ [n]) = posL i o ++ [(n, i + o.length)]
  | i, [] => by simp [posL]
  | i, a :: r => by
    show (a, i) :: posL (i + 1) (r ++ [n]) = (a, i) :: posL (i + 1) r ++ _
    rw [posL_snoc n (i + 1) r, List.cons_append, List.length_cons]
    congr 3; congr 1; omega
theorem posL_keys : ∀ (i : Nat) (o : List Int), (posL i o).map (·.1) = o
  | _, [] => rfl
  | i, a :: r => by rw [posL, List.map_cons, posL_keys (i + 1) r]
theorem posL_len (i : Nat) (o : List Int) : (posL i o).length = o.length := by rw [← List.length_map (f := (·.1)), posL_keys]
theorem posL_none {i : Nat} {o : List Int} {n : Int} (h : n ∉ o) : getA (posL i o) n = none := getA_none.mpr (by rw [posL_keys]; exact h)
/-- the second loop -/
def lateP (A : List (Int × List Op × Nat)) (t : Nat) (pe : Nat) (l : Int × Nat) : Bool := match getA A l.1 with
  | none => true
  | some a => !(decide (t < a.2) && decide (l.2 < pe))
def rowP (A : List (Int × List Op × Nat)) (P : List (Int × Nat)) (t : Int × (PyData × PyData) × Nat) : Bool := match getA P t.1 with
  | none => false
  | some pe => P.all (lateP A t.2.2 pe)
def earlyO (A : List (Int × List Op × Nat)) (T : List (Int × (PyData × PyData) × Nat)) (P : List (Int × Nat)) : Bool := T.all (rowP A P)
theorem lateP_some {A : List (Int × List Op × Nat)} {t pe : Nat} {l : Int × Nat} {a : List Op × Nat} (h : getA A l.1 = some a) : lateP A t pe l = !(decide (t < a.2) && decide (l.2 < pe)) := by unfold lateP; rw [h]
theorem rowP_none {A : List (Int × List Op × Nat)} {P : List (Int × Nat)} {t : Int × (PyData × PyData) × Nat} (h : getA P t.1 = none) : rowP A P t = false := by unfold rowP; rw [h]
theorem rowP_some {A : List (Int × List Op × Nat)} {P : List (Int × Nat)} {t : Int × (PyData × PyData) × Nat} {pe : Nat} (h : getA P t.1 = some pe) : rowP A P t = P.all (lateP A t.2.2 pe) := by unfold rowP; rw [h]
noncomputable def explB (es : List Ev) (o : List Int) : Bool := runO (askL 0 es) (tellL 0 es) [] (fun _ => none) o && earlyO (askL 0 es) (tellL 0 es) (posL 0 o)
/-- the three dictionaries -/
structure XM (M M' : Hp) (D1 D2 D3 : Addr) (k1 k2 k3 : List (Key × V)) : Prop where
  sm : Same M M'
  h1 : M' D1 = some (.dK k1)
  h2 : M' D2 = some (.dK k2)
  h3 : M' D3 = some (.dK k3)
  n1 : M D1 = none
  n2 : M D2 = none
  n3 : M D3 = none
  d12 : D2 ≠ D1
  d13 : D3 ≠ D1
  d23 : D3 ≠ D2
section
variable {M M' : Hp} {D1 D2 D3 : Addr} {k1 k2 k3 k : List (Key × V)}
theorem XM.u1 (x : XM M M' D1 D2 D3 k1 k2 k3) : XM M (upd M' D1 (.dK k)) D1 D2 D3 k k2 k3 := ⟨fun a o e => upd_ne' (x.sm a o e) (ne_of_none e x.n1), upd_same, upd_ne' x.h2 x.d12, upd_ne' x.h3 x.d13, x.n1, x.n2, x.n3, x.d12, x.d13, x.d23⟩
theorem XM.u2 (x : XM M M' D1 D2 D3 k1 k2 k3) : XM M (upd M' D2 (.dK k)) D1 D2 D3 k1 k k3 := ⟨fun a o e => upd_ne' (x.sm a o e) (ne_of_none e x.n2), upd_ne' x.h1 x.d12.symm, upd_same, upd_ne' x.h3 x.d23, x.n1, x.n2, x.n3, x.d12, x.d13, x.d23⟩
theorem XM.u3 (x : XM M M' D1 D2 D3 k1 k2 k3) : XM M (upd M' D3 (.dK k)) D1 D2 D3 k1 k2 k := ⟨fun a o e => upd_ne' (x.sm a o e) (ne_of_none e x.n3), upd_ne' x.h1 x.d13.symm, upd_ne' x.h2 x.d23.symm, upd_same, x.n1, x.n2, x.n3, x.d12, x.d13, x.d23⟩
end
theorem paired_atD {α β : Type} {F : α → β → Prop} : ∀ {xs : List α} {ys : List β} {i : Nat} {x : α}, Paired F xs ys → xs[i]? = some x → ∃ y, ys[i]? = some y ∧ F x y
  | _, _, _, _, .nil, e => by simp at e
  | _, _, 0, _, .cons h _, e => by
    have e := Option.some.inj e
    subst e
    exact ⟨_, rfl, h⟩
  | _, _, i + 1, _, .cons _ t, e => by
    obtain ⟨y, h1, h2⟩ := paired_atD (i := i) t (by simpa using e)
    exact ⟨y, by simpa using h1, h2⟩
theorem dropAt {α : Type} {l : List α} {i : Nat} {x : α} (h : l[i]? = some x) : l.drop i = x :: l.drop (i + 1) := List.drop_eq_getElem?_toList_append |>.trans (by rw [h]; rfl)
theorem askL_idx : ∀ {i : Nat} {es : List Ev}, (askL i es).length ≤ es.length
  | _, [] => Nat.le_refl _
  | i, .ask n ops :: r => Nat.succ_le_succ (askL_idx (i := i + 1) (es := r))
  | i, .tell n o x :: r => Nat.le_succ_of_le (askL_idx (i := i + 1) (es := r))
theorem tellL_idx : ∀ {i : Nat} {es : List Ev}, (tellL i es).length ≤ es.length
  | _, [] => Nat.le_refl _
  | i, .ask n ops :: r => Nat.le_succ_of_le (tellL_idx (i := i + 1) (es := r))
  | i, .tell n o x :: r => Nat.succ_le_succ (tellL_idx (i := i + 1) (es := r))
theorem askL_app (fs : List Ev) : ∀ (i : Nat) (es : List Ev), askL i (es ++ fs) = askL i es ++ askL (i + es.length) fs
  | i, [] => rfl
  | i, .ask n ops :: r => by
    show (n, ops, i) :: askL (i + 1) (r ++ fs) = (n, ops, i) :: askL (i + 1) r ++ _
    rw [askL_app fs (i + 1) r, List.cons_append, List.length_cons, show i + 1 + r.length = i + (r.length + 1) by omega]
  | i, .tell n o x :: r => by
    show askL (i + 1) (r ++ fs) = askL (i + 1) r ++ _
    rw [askL_app fs (i + 1) r, List.length_cons, show i + 1 + r.length = i + (r.length + 1) by omega]
theorem tellL_app (fs : List Ev) : ∀ (i : Nat) (es : List Ev), tellL i (es ++ fs) = tellL i es ++ tellL (i + es.length) fs
  | i, [] => rfl
  | i, .ask n ops :: r => by
    show tellL (i + 1) (r ++ fs) = tellL (i + 1) r ++ _
    rw [tellL_app fs (i + 1) r, List.length_cons, show i + 1 + r.length = i + (r.length + 1) by omega]
  | i, .tell n o x :: r => by
    show (n, (o, x), i) :: tellL (i + 1) (r ++ fs) = (n, (o, x), i) :: tellL (i + 1) r ++ _
    rw [tellL_app fs (i + 1) r, List.cons_append, List.length_cons, show i + 1 + r.length = i + (r.length + 1) by omega]
theorem nd_mid {α : Type} {a b : List α} {x : α} (h : (a ++ x :: b).Nodup) : x ∉ a := fun m => (List.nodup_append.mp h).2.2 x m x List.mem_cons_self rfl
theorem ask_step {es : List Ev} {i : Nat} {n : Int} {ops : List Op} (he : es[i]? = some (.ask n ops)) (nd : ((askL 0 es).map (·.1)).Nodup) :
    getA (askL 0 (es.take i)) n = none ∧ askL 0 (es.take (i + 1)) = askL 0 (es.take i) ++ [(n, ops, i)] ∧ tellL 0 (es.take (i + 1)) = tellL 0 (es.take i) := by
  have hi := (List.getElem?_eq_some_iff.mp he).1
  have hl : (es.take i).length = i := by rw [List.length_take]; omega
  refine ⟨getA_none.mpr ?_, ?_, ?_⟩
  · have e : es = es.take i ++ .ask n ops :: es.drop (i + 1) := by rw [← dropAt he, List.take_append_drop]
    rw [e, askL_app, List.map_append] at nd
    exact nd_mid nd
  · rw [tk1 he, askL_app, hl, Nat.zero_add]; rfl
  · rw [tk1 he, tellL_app, hl, Nat.zero_add]; exact List.append_nil _
theorem tell_step {es : List Ev} {i : Nat} {n : Int} {o x : PyData} (he : es[i]? = some (.tell n o x)) (nd : ((tellL 0 es).map (·.1)).Nodup) :
    getA (tellL 0 (es.take i)) n = none ∧ tellL 0 (es.take (i + 1)) = tellL 0 (es.take i) ++ [(n, (o, x), i)] ∧ askL 0 (es.take (i + 1)) = askL 0 (es.take i) := by
  have hi := (List.getElem?_eq_some_iff.mp he).1
  have hl : (es.take i).length = i := by rw [List.length_take]; omega
  refine ⟨getA_none.mpr ?_, ?_, ?_⟩
  · have e : es = es.take i ++ .tell n o x :: es.drop (i + 1) := by rw [← dropAt he, List.take_append_drop]
    rw [e, tellL_app, List.map_append] at nd
    exact nd_mid nd
  · rw [tk1 he, tellL_app, hl, Nat.zero_add]; rfl
  · rw [tk1 he, askL_app, hl, Nat.zero_add]; exact List.append_nil _
def plV (v : V) (n : Nat) : Prop := v = .int n
/-- a record as the laws draw them -/
structure EvsOk (es : List Ev) : Prop where
  an : ((askL 0 es).map (·.1)).Nodup
  tn : ((tellL 0 es).map (·.1)).Nodup
  al : (askL 0 es).length ≤ 8
  so : ∀ a ∈ askL 0 es, ∀ op ∈ a.2.1, SmOp op
  ln : es.length ≤ 1000
  od : ∀ t ∈ tellL 0 es, okD 4 t.2.1.1 ∧ okD 4 t.2.1.2
/-! ### the search and what explains a record -/
/-- the judge's deals and the law's -/
structure CnAt (T : List (Int × (PyData × PyData) × Nat)) (d : JD) (a : Int × List Op × Nat) : Prop where
  nm : d.name = a.1
  op : d.ops = a.2.1
  an : d.ans = (getA T d.name).map (·.1)
  er : ∀ e, e ∈ d.earlier ↔ ∃ x j, getA T e = some (x, j) ∧ j < a.2.2
  ne : d.name ∉ d.earlier
theorem okEvs_app : ∀ {es fs : List Ev} {ds : List JD}, okEvs ds (es ++ fs) ↔ okEvs ds es ∧ okEvs (readJ ds es) fs
  | [], fs, ds => ⟨fun h => ⟨trivial, h⟩, fun h => h.2⟩
  | e :: es, fs, ds => by
    show okEv ds e ∧ okEvs (stepJ ds e) (es ++ fs) ↔ (okEv ds e ∧ okEvs (stepJ ds e) es) ∧ okEvs (readJ (stepJ ds e) es) fs
    rw [okEvs_app (es := es), and_assoc]
theorem readJ_snoc {es : List Ev} {e : Ev} {ds : List JD} : readJ ds (es ++ [e]) = stepJ (readJ ds es) e := by
  unfold readJ; rw [List.foldl_append]; rfl
theorem paired_names {T : List (Int × (PyData × PyData) × Nat)} {ds : List JD} {A : List (Int × List Op × Nat)} (h : Paired (CnAt T) ds A) : ds.map (·.name) = A.map (·.1) := by
  induction h with
  | nil => rfl
  | cons f _ ih => rw [List.map_cons, List.map_cons, ih, f.nm]
theorem paired_left {α β : Type} {F : α → β → Prop} {xs : List α} {ys : List β} (h : Paired F xs ys) : ∀ x ∈ xs, ∃ y ∈ ys, F x y := by
  induction h with
  | nil => exact fun _ m => nomatch m
  | cons f _ ih =>
    intro x m
    rcases List.mem_cons.mp m with rfl | m
    · exact ⟨_, List.mem_cons_self, f⟩
    · obtain ⟨y, hy, g⟩ := ih x m
      exact ⟨y, List.mem_cons_of_mem _ hy, g⟩
theorem paired_right {α β : Type} {F : α → β → Prop} {xs : List α} {ys : List β} (h : Paired F xs ys) : ∀ y ∈ ys, ∃ x ∈ xs, F x y := by
  induction h with
  | nil => exact fun _ m => nomatch m
  | cons f _ ih =>
    intro x m
    rcases List.mem_cons.mp m with rfl | m
    · exact ⟨_, List.mem_cons_self, f⟩
    · obtain ⟨y, hy, g⟩ := ih x m
      exact ⟨y, List.mem_cons_of_mem _ hy, g⟩
theorem paired_map {α β γ : Type} {F : α → β → Prop} {F' : γ → β → Prop} {f : α → γ} (g : ∀ x y, F x y → F' (f x) y) {xs : List α} {ys : List β} (h : Paired F xs ys) : Paired F' (xs.map f) ys := by
  induction h with
  | nil => exact .nil
  | cons p _ ih => exact .cons (g _ _ p) ih
theorem tellL_lt : ∀ {i : Nat} {es : List Ev} {t : Int × (PyData × PyData) × Nat}, t ∈ tellL i es → t.2.2 < i + es.length
  | i, .ask n ops :: r, t, h => by
    have := tellL_lt (i := i + 1) (es := r) (t := t) h
    rw [List.length_cons]; omega
  | i, .tell n o x :: r, t, h => by
    rcases List.mem_cons.mp (show t ∈ (n, (o, x), i) :: tellL (i + 1) r from h) with rfl | h
    · rw [List.length_cons]; show i < _; omega
    · have := tellL_lt (i := i + 1) (es := r) (t := t) h
      rw [List.length_cons]; omega
theorem askL_lt : ∀ {i : Nat} {es : List Ev} {t : Int × List Op × Nat}, t ∈ askL i es → t.2.2 < i + es.length
  | i, .tell n o x :: r, t, h => by
    have := askL_lt (i := i + 1) (es := r) (t := t) h
    rw [List.length_cons]; omega
  | i, .ask n ops :: r, t, h => by
    rcases List.mem_cons.mp (show t ∈ (n, ops, i) :: askL (i + 1) r from h) with rfl | h
    · rw [List.length_cons]; show i < _; omega
    · have := askL_lt (i := i + 1) (es := r) (t := t) h
      rw [List.length_cons]; omega
/-- after so many rows -/
structure CnI (es : List Ev) : Prop where
  pr : Paired (CnAt (tellL 0 es)) (readJ [] es) (askL 0 es)
  an : ((askL 0 es).map (·.1)).Nodup
  tn : ((tellL 0 es).map (·.1)).Nodup
  tm : ∀ t ∈ tellL 0 es, t.1 ∈ (askL 0 es).map (·.1)
  le : (askL 0 es).length ≤ 7
theorem mem_toldL {ds : List JD} {n : Int} : n ∈ toldL ds ↔ ∃ d ∈ ds, d.ans.isSome = true ∧ d.name = n := by
  unfold toldL
  rw [List.mem_map]
  constructor
  · rintro ⟨d, h, e⟩
    rw [List.mem_filter] at h
    exact ⟨d, h.1, h.2, e⟩
  · rintro ⟨d, h, g, e⟩
    exact ⟨d, List.mem_filter.mpr ⟨h, g⟩, e⟩
theorem CnI.told {es : List Ev} (c : CnI es) (n : Int) : n ∈ toldL (readJ [] es) ↔ ∃ x, getA (tellL 0 es) n = some x := by
  rw [mem_toldL]
  constructor
  · rintro ⟨d, hd, ha, rfl⟩
    obtain ⟨a, _, f⟩ := paired_left c.pr d hd
    rw [f.an] at ha
    cases e : getA (tellL 0 es) d.name with
    | none => rw [e] at ha; cases ha
    | some x => exact ⟨x, rfl⟩
  · rintro ⟨x, e⟩
    have m := c.tm _ (getA_mem e)
    rw [← paired_names c.pr] at m
    obtain ⟨d, hd, hn⟩ := List.mem_map.mp m
    have hn : d.name = n := hn
    obtain ⟨a, _, f⟩ := paired_left c.pr d hd
    refine ⟨d, hd, ?_, hn⟩
    rw [f.an, hn, e]; rfl
theorem nd_snoc {l : List Int} {n : Int} (h : l.Nodup) (g : n ∉ l) : (l ++ [n]).Nodup := by
  rw [List.nodup_append]
  exact ⟨h, List.nodup_cons.mpr ⟨(fun z => nomatch z), List.nodup_nil⟩, fun a ha b hb e => g (by rw [← List.mem_singleton.mp hb, ← e]; exact ha)⟩
theorem CnI.step {es : List Ev} {e : Ev} (c : CnI es) (h : okEv (readJ [] es) e) : CnI (es ++ [e]) := by
  have nm := paired_names c.pr
  cases e with
  | ask n ops =>
    obtain ⟨h1, h2⟩ := h
    have eA : askL 0 (es ++ [.ask n ops]) = askL 0 es ++ [(n, ops, es.length)] := by rw [askL_app, Nat.zero_add]; rfl
    have eT : tellL 0 (es ++ [.ask n ops]) = tellL 0 es := by rw [tellL_app, Nat.zero_add]; exact List.append_nil _
    have hl : (readJ [] es).length = (askL 0 es).length := by rw [← List.length_map (f := (·.name)), nm, List.length_map]
    have hT : getA (tellL 0 es) n = none := getA_none.mpr fun m => by
      obtain ⟨t, ht, e⟩ := List.mem_map.mp m
      have := c.tm t ht
      rw [← nm] at this
      exact h1 (e ▸ this)
    refine ⟨?_, ?_, by rw [eT]; exact c.tn, ?_, ?_⟩
    · rw [readJ_snoc, eA, eT]
      refine paired_snoc ⟨rfl, rfl, ?_, fun e => ?_, ?_⟩ c.pr
      · show none = _
        rw [hT]; rfl
      · show e ∈ toldL (readJ [] es) ↔ _
        rw [c.told]
        constructor
        · rintro ⟨⟨x, j⟩, hx⟩
          refine ⟨x, j, hx, ?_⟩
          have := tellL_lt (getA_mem hx)
          rw [Nat.zero_add] at this
          exact this
        · rintro ⟨x, j, hx, _⟩
          exact ⟨_, hx⟩
      · show n ∉ toldL (readJ [] es)
        intro m
        obtain ⟨d, hd, _, e⟩ := mem_toldL.mp m
        exact h1 (e ▸ List.mem_map_of_mem (f := (·.name)) hd)
    · rw [eA, List.map_append]
      exact nd_snoc c.an (by rw [← nm]; exact h1)
    · rw [eT, eA]
      intro t ht
      rw [List.map_append]
      exact List.mem_append_left _ (c.tm t ht)
    · rw [eA, List.length_append]; show (askL 0 es).length + 1 ≤ 7; omega
  | tell n o x =>
    obtain ⟨d, hd, dn, da⟩ := h
    have eA : askL 0 (es ++ [.tell n o x]) = askL 0 es := by rw [askL_app, Nat.zero_add]; exact List.append_nil _
    have eT : tellL 0 (es ++ [.tell n o x]) = tellL 0 es ++ [(n, (o, x), es.length)] := by rw [tellL_app, Nat.zero_add]; rfl
    have hT : getA (tellL 0 es) n = none := by
      obtain ⟨a, _, f⟩ := paired_left c.pr d hd
      have := f.an
      rw [da, dn] at this
      cases e : getA (tellL 0 es) n with
      | none => rfl
      | some y => rw [e] at this; cases this
    refine ⟨?_, by rw [eA]; exact c.an, ?_, ?_, by rw [eA]; exact c.le⟩
    · rw [readJ_snoc, eA, eT]
      have alt := fun a ha => askL_lt (i := 0) (es := es) (t := a) ha
      have : Paired (fun d a => CnAt (tellL 0 es) d a ∧ a ∈ askL 0 es) (readJ [] es) (askL 0 es) := by
        have go : ∀ {xs : List JD} {ys : List (Int × List Op × Nat)} (S : List (Int × List Op × Nat)), Paired (CnAt (tellL 0 es)) xs ys → (∀ y ∈ ys, y ∈ S) → Paired (fun d a => CnAt (tellL 0 es) d a ∧ a ∈ S) xs ys := by
          intro xs ys S p
          induction p with
          | nil => exact fun _ => .nil
          | cons f _ ih => exact fun hs => .cons ⟨f, hs _ List.mem_cons_self⟩ (ih fun y m => hs y (List.mem_cons_of_mem _ m))
        exact go _ c.pr fun _ m => m
      refine paired_map (f := setAns n o x) (fun d a f => ?_) this
      obtain ⟨f, ha⟩ := f
      have e1 : (setAns n o x d).name = d.name := by unfold setAns; split <;> rfl
      have e2 : (setAns n o x d).ops = d.ops := by unfold setAns; split <;> rfl
      have e3 : (setAns n o x d).earlier = d.earlier := by unfold setAns; split <;> rfl
      refine ⟨e1.trans f.nm, e2.trans f.op, ?_, fun e => ?_, by rw [e1, e3]; exact f.ne⟩
      · rw [e1, getA_snoc _ hT]
        unfold setAns
        by_cases q : d.name = n
        · rw [if_pos q, if_pos q]; rfl
        · rw [if_neg q, if_neg q]; exact f.an
      · rw [e3, f.er]
        constructor
        · rintro ⟨y, j, h1, h2⟩
          refine ⟨y, j, ?_, h2⟩
          rw [getA_snoc _ hT, if_neg (fun z => by rw [z, hT] at h1; cases h1)]
          exact h1
        · rintro ⟨y, j, h1, h2⟩
          rw [getA_snoc _ hT] at h1
          by_cases q : e = n
          · rw [if_pos q] at h1
            have h1 := Option.some.inj h1
            have hj : es.length = j := congrArg (·.2) h1
            have := alt a ha
            omega
          · rw [if_neg q] at h1
            exact ⟨y, j, h1, h2⟩
    · rw [eT, List.map_append]
      exact nd_snoc c.tn (getA_none.mp hT)
    · rw [eT, eA]
      intro t ht
      rcases List.mem_append.mp ht with ht | ht
      · exact c.tm t ht
      · rw [List.mem_singleton.mp ht, ← nm]
        exact dn ▸ List.mem_map_of_mem (f := (·.name)) hd
theorem cnI_of {es : List Ev} (h : okEvs [] es) : CnI es := by
  have go : ∀ i, i ≤ es.length → CnI (es.take i) := by
    intro i
    induction i with
    | zero => exact fun _ => ⟨.nil, List.nodup_nil, List.nodup_nil, (fun _ m => nomatch m), Nat.zero_le _⟩
    | succ i ih =>
      intro hi
      have he : es[i]? = some es[i] := List.getElem?_eq_getElem (by omega)
      rw [tk1 he]
      refine (ih (by omega)).step ?_
      have e : es = es.take i ++ es[i] :: es.drop (i + 1) := by rw [← dropAt he, List.take_append_drop]
      rw [e] at h
      exact (okEvs_app.mp h).2.1
  have := go es.length (Nat.le_refl _)
  rwa [List.take_length] at this
/-! ### every order is found -/
inductive Path (ds : List JD) : List Int → Fn → List Int → Prop
  | done {ch : List Int} {m : Fn} (h : allIn (toldL ds) ch = true) : Path ds ch m ch
  | step {ch : List Int} {m : Fn} {d : JD} {o : List Int} (h : d ∈ ds) (s : skipD ch d = false) (f : fitD m d = true) (p : Path ds (ch ++ [d.name]) (endM m d.ops) o) : Path ds ch m o
theorem tryD_some {F : List Int → Fn → Option (List Int)} {ch : List Int} {m : Fn} {o : List Int} : ∀ {ds : List JD}, tryD F ch m ds = some o → ∃ d ∈ ds, skipD ch d = false ∧ fitD m d = true ∧ F (ch ++ [d.name]) (endM m d.ops) = some o
  | [], h => by cases h
  | d :: r, h => by
    rw [tryD] at h
    have up : tryD F ch m r = some o → ∃ x ∈ d :: r, skipD ch x = false ∧ fitD m x = true ∧ F (ch ++ [x.name]) (endM m x.ops) = some o := fun h => by
      obtain ⟨x, hx, g⟩ := tryD_some h
      exact ⟨x, List.mem_cons_of_mem _ hx, g⟩
    cases hs : skipD ch d with
    | true => rw [hs, if_pos rfl] at h; exact up h
    | false =>
      rw [hs, if_neg Bool.false_ne_true] at h
      cases hf : fitD m d with
      | false => rw [hf, if_neg Bool.false_ne_true] at h; exact up h
      | true =>
        rw [hf, if_pos rfl] at h
        cases hF : F (ch ++ [d.name]) (endM m d.ops) with
        | none => rw [hF] at h; exact up h
        | some o' =>
          rw [hF] at h
          have h : some o' = some o := h
          exact ⟨d, List.mem_cons_self, hs, hf, by rw [← h]; exact hF⟩
theorem tryD_ne {F : List Int → Fn → Option (List Int)} {ch : List Int} {m : Fn} {d : JD} : ∀ {ds : List JD}, d ∈ ds → skipD ch d = false → fitD m d = true → F (ch ++ [d.name]) (endM m d.ops) ≠ none → tryD F ch m ds ≠ none
  | x :: r, hd, hs, hf, hF => by
    rw [tryD]
    rcases List.mem_cons.mp hd with rfl | hd
    · rw [hs, if_neg Bool.false_ne_true, hf, if_pos rfl]
      cases e : F (ch ++ [d.name]) (endM m d.ops) with
      | none => exact absurd e hF
      | some o => exact fun z => nomatch z
    · have ih := tryD_ne (ds := r) hd hs hf hF
      split
      · exact ih
      · split
        · cases F (ch ++ [x.name]) (endM m x.ops) with
          | none => exact ih
          | some o => exact fun z => nomatch z
        · exact ih
theorem dfs_path {ds : List JD} {o : List Int} : ∀ {n : Nat} {ch : List Int} {m : Fn}, dfs ds n ch m = some o → Path ds ch m o
  | 0, ch, m, h => by
    rw [dfs] at h
    split at h
    · rename_i q; have h := Option.some.inj h; subst h; exact .done q
    · cases h
  | n + 1, ch, m, h => by
    rw [dfs] at h
    split at h
    · rename_i q; have h := Option.some.inj h; subst h; exact .done q
    · obtain ⟨d, hd, hs, hf, hF⟩ := tryD_some h
      exact .step hd hs hf (dfs_path hF)
theorem path_dfs {ds : List JD} {o ch : List Int} {m : Fn} (nn : (ds.map (·.name)).Nodup) (p : Path ds ch m o) : ∀ {n : Nat}, ch.Nodup → (∀ x ∈ ch, x ∈ ds.map (·.name)) → ds.length ≤ n + ch.length → dfs ds n ch m ≠ none := by
  induction p with
  | @done ch m h =>
    intro n _ _ _
    cases n with
    | zero => rw [dfs, if_pos h]; exact fun z => nomatch z
    | succ n => rw [dfs, if_pos h]; exact fun z => nomatch z
  | @step ch m d o h s f p ih =>
    intro n cn cs hl
    have hc : d.name ∉ ch := fun z => by unfold skipD at s; rw [decide_eq_true z] at s; cases s
    have cn' : (ch ++ [d.name]).Nodup := nd_snoc cn hc
    have cs' : ∀ x ∈ ch ++ [d.name], x ∈ ds.map (·.name) := fun x m => by
      rcases List.mem_append.mp m with m | m
      · exact cs x m
      · rw [List.mem_singleton.mp m]; exact List.mem_map_of_mem (f := (·.name)) h
    cases n with
    | zero =>
      have := nodup_le cn' cs'
      rw [List.length_append, List.length_map] at this
      have : ch.length + 1 ≤ ds.length := this
      omega
    | succ n =>
      rw [dfs]
      split
      · exact fun z => nomatch z
      · exact tryD_ne h s f (ih cn' cs' (by rw [List.length_append]; show ds.length ≤ n + (ch.length + 1); omega))
/-- each stands behind those that were told before it was asked -/
def ordOk (ds : List JD) : List Int → List Int → Prop
  | _, [] => True
  | done, n :: r => (∀ d ∈ ds, d.name = n → allIn d.earlier done = true) ∧ ordOk ds (done ++ [n]) r
section
variable {es : List Ev}
theorem CnI.get (c : CnI es) {d : JD} (h : d ∈ readJ [] es) : ∃ j, getA (askL 0 es) d.name = some (d.ops, j) ∧ ∀ e, e ∈ d.earlier ↔ ∃ x i, getA (tellL 0 es) e = some (x, i) ∧ i < j := by
  obtain ⟨a, ha, f⟩ := paired_left c.pr d h
  refine ⟨a.2.2, ?_, f.er⟩
  rw [f.nm, f.op]
  exact getA_of c.an ha
theorem CnI.nn (c : CnI es) : ((readJ [] es).map (·.name)).Nodup := by rw [paired_names c.pr]; exact c.an
theorem CnI.fit (c : CnI es) {d : JD} (h : d ∈ readJ [] es) {m : Fn} : fitT (tellL 0 es) d.name m d.ops = fitD m d := by
  obtain ⟨a, ha, f⟩ := paired_left c.pr d h
  have e := f.an
  cases q : getA (tellL 0 es) d.name with
  | none => rw [q] at e; rw [fitT_none q, fit_none e]
  | some x =>
    rw [q] at e
    refine Bool.eq_iff_iff.mpr ((fitT_some q).trans (Iff.trans ?_ (fit_some e).symm))
    exact ⟨fun z => by injection z with z; rw [z], fun z => by injection z with z; rw [z]⟩
theorem skip_iff {ch : List Int} {d : JD} : skipD ch d = false ↔ d.name ∉ ch ∧ allIn d.earlier ch = true := by
  unfold skipD
  rw [Bool.or_eq_false_iff, decide_eq_false_iff_not]
  exact ⟨fun h => ⟨h.1, by rw [← Bool.not_not (allIn d.earlier ch), h.2]; rfl⟩, fun h => ⟨h.1, by rw [h.2]; rfl⟩⟩
theorem path_run (c : CnI es) {ch : List Int} {m : Fn} {o : List Int} (p : Path (readJ [] es) ch m o) : ∃ r, o = ch ++ r ∧ runO (askL 0 es) (tellL 0 es) ch m r = true ∧ ordOk (readJ [] es) ch r ∧ allIn (toldL (readJ [] es)) o = true := by
  induction p with
  | @done ch m h => exact ⟨[], (List.append_nil _).symm, by rw [runO], trivial, h⟩
  | @step ch m d o h s f p ih =>
    obtain ⟨r, e, h1, h2, h3⟩ := ih
    obtain ⟨s1, s2⟩ := skip_iff.mp s
    obtain ⟨j, hg, _⟩ := c.get h
    refine ⟨d.name :: r, by rw [e, List.append_assoc]; rfl, ?_, ⟨fun d' hd' hn => ?_, h2⟩, h3⟩
    · rw [runO_go s1 hg, c.fit h, f, h1]; rfl
    · rw [nodup_inj c.nn hd' h hn]; exact s2
theorem run_path (c : CnI es) {o : List Int} : ∀ {r ch : List Int} {m : Fn}, o = ch ++ r → runO (askL 0 es) (tellL 0 es) ch m r = true → ordOk (readJ [] es) ch r → allIn (toldL (readJ [] es)) o = true → Path (readJ [] es) ch m o
  | [], ch, m, e, _, _, h => by
    rw [List.append_nil] at e; subst e
    exact .done h
  | n :: r, ch, m, e, h1, h2, h3 => by
    by_cases q : n ∈ ch
    · rw [runO_in q] at h1; cases h1
    cases g : getA (askL 0 es) n with
    | none => rw [runO_no g] at h1; cases h1
    | some a =>
      have hm : n ∈ (askL 0 es).map (·.1) := List.mem_map_of_mem (f := (·.1)) (getA_mem g)
      rw [← paired_names c.pr] at hm
      obtain ⟨d, hd, hn⟩ := List.mem_map.mp hm
      have hn : d.name = n := hn
      subst hn
      obtain ⟨j, hg, _⟩ := c.get hd
      obtain rfl := Option.some.inj (hg.symm.trans g)
      rw [runO_go q hg, Bool.and_eq_true, c.fit hd] at h1
      exact .step hd (skip_iff.mpr ⟨q, h2.1 d hd rfl⟩) h1.1 (run_path c (by rw [e, List.append_assoc]; rfl) h1.2 h2.2 h3)
theorem run_nodup {A : List (Int × List Op × Nat)} {T : List (Int × (PyData × PyData) × Nat)} : ∀ {r ch : List Int} {m : Fn}, ch.Nodup → runO A T ch m r = true → (ch ++ r).Nodup
  | [], ch, m, h, _ => by rw [List.append_nil]; exact h
  | n :: r, ch, m, h, h1 => by
    by_cases q : n ∈ ch
    · rw [runO_in q] at h1; cases h1
    cases g : getA A n with
    | none => rw [runO_no g] at h1; cases h1
    | some a =>
      rw [runO_go q g, Bool.and_eq_true] at h1
      have := run_nodup (nd_snoc h q) h1.2
      rw [List.append_assoc] at this
      exact this
theorem posL_mem {e : Int} {p : Nat} : ∀ {i : Nat} {o : List Int}, (e, p) ∈ posL i o ↔ ∃ q, p = i + q ∧ o[q]? = some e
  | i, [] => ⟨(fun m => nomatch m), fun ⟨q, _, h⟩ => by simp at h⟩
  | i, a :: r => by
    show (e, p) ∈ (a, i) :: posL (i + 1) r ↔ _
    rw [List.mem_cons, posL_mem (i := i + 1) (o := r)]
    constructor
    · rintro (h | ⟨q, h1, h2⟩)
      · cases h; exact ⟨0, rfl, rfl⟩
      · exact ⟨q + 1, by omega, h2⟩
    · rintro ⟨q, h1, h2⟩
      cases q with
      | zero =>
        have h2 : some a = some e := h2
        cases h2
        left
        rw [h1]; rfl
      | succ q => exact .inr ⟨q, by omega, h2⟩
theorem ord_iff {ds : List JD} : ∀ {r ch : List Int}, ordOk ds ch r ↔ ∀ p ∈ posL ch.length r, ∀ d ∈ ds, d.name = p.1 → ∀ e ∈ d.earlier, e ∈ (ch ++ r).take p.2
  | [], ch => ⟨fun _ p m => (nomatch m), fun _ => trivial⟩
  | n :: r, ch => by
    show (∀ d ∈ ds, d.name = n → allIn d.earlier ch = true) ∧ ordOk ds (ch ++ [n]) r ↔ ∀ p ∈ (n, ch.length) :: posL (ch.length + 1) r, _
    rw [ord_iff (r := r) (ch := ch ++ [n]), List.length_append, List.append_assoc]
    show _ ∧ (∀ p ∈ posL (ch.length + 1) r, ∀ d ∈ ds, d.name = p.1 → ∀ e ∈ d.earlier, e ∈ (ch ++ (n :: r)).take p.2) ↔ _
    have w : ∀ l : List Int, allIn l ch = true ↔ ∀ e ∈ l, e ∈ (ch ++ (n :: r)).take ch.length := fun l => by
      unfold allIn
      rw [List.all_eq_true, List.take_left']
      · exact ⟨fun h e m => of_decide_eq_true (h e m), fun h e m => decide_eq_true (h e m)⟩
      · rfl
    constructor
    · rintro ⟨h1, h2⟩ p hp d hd hn
      rcases List.mem_cons.mp hp with rfl | hp
      · exact (w _).mp (h1 d hd hn)
      · exact h2 p hp d hd hn
    · exact fun h => ⟨fun d hd hn => (w _).mpr (h _ List.mem_cons_self d hd hn), fun p hp => h p (List.mem_cons_of_mem _ hp)⟩
theorem mem_take_pos {o : List Int} (hn : o.Nodup) {e : Int} {k : Nat} : e ∈ o.take k ↔ ∃ pe, getA (posL 0 o) e = some pe ∧ pe < k := by
  constructor
  · intro m
    obtain ⟨q, hq, rfl⟩ := List.mem_take_iff_getElem.mp m
    refine ⟨q, getA_of (p := (o[q], q)) (by rw [posL_keys]; exact hn) (posL_mem.mpr ⟨q, (Nat.zero_add q).symm, List.getElem?_eq_getElem (by omega)⟩), by omega⟩
  · rintro ⟨pe, h, hk⟩
    obtain ⟨q, h1, h2⟩ := posL_mem.mp (getA_mem h)
    obtain ⟨h3, h4⟩ := List.getElem?_eq_some_iff.mp h2
    exact List.mem_take_iff_getElem.mpr ⟨q, by omega, h4⟩
theorem early_iff (c : CnI es) {o : List Int} (hn : o.Nodup) (hs : ∀ n ∈ o, ∃ a, getA (askL 0 es) n = some a) : earlyO (askL 0 es) (tellL 0 es) (posL 0 o) = true ↔ ordOk (readJ [] es) [] o ∧ allIn (toldL (readJ [] es)) o = true := by
  have pn : ((posL 0 o).map (·.1)).Nodup := by rw [posL_keys]; exact hn
  have hd : ∀ n ∈ o, ∃ d ∈ readJ [] es, d.name = n := fun n m => by
    obtain ⟨a, ha⟩ := hs n m
    have hm : n ∈ (askL 0 es).map (·.1) := List.mem_map_of_mem (f := (·.1)) (getA_mem ha)
    rw [← paired_names c.pr] at hm
    obtain ⟨d, h1, h2⟩ := List.mem_map.mp hm
    exact ⟨d, h1, h2⟩
  rw [ord_iff]
  show _ ↔ (∀ p ∈ posL 0 o, ∀ d ∈ readJ [] es, d.name = p.1 → ∀ e ∈ d.earlier, e ∈ o.take p.2) ∧ _
  unfold earlyO
  rw [List.all_eq_true]
  constructor
  · intro h
    have told : ∀ e x, getA (tellL 0 es) e = some x → ∃ pe, getA (posL 0 o) e = some pe ∧ ∀ l ∈ posL 0 o, lateP (askL 0 es) x.2 pe l = true := fun e x hx => by
      have := h _ (getA_mem hx)
      cases g : getA (posL 0 o) e with
      | none => rw [rowP_none g] at this; cases this
      | some pe =>
        rw [rowP_some g] at this
        exact ⟨pe, rfl, fun l hl => List.all_eq_true.mp this l hl⟩
    refine ⟨fun p hp d hd hpn e he => ?_, ?_⟩
    · obtain ⟨j, hg, her⟩ := c.get hd
      obtain ⟨x, i, hx, hij⟩ := (her e).mp he
      obtain ⟨pe, hpe, hl⟩ := told e _ hx
      have := hl p hp
      rw [lateP_some (a := (d.ops, j)) (by rw [← hpn]; exact hg)] at this
      show e ∈ o.take p.2
      rw [mem_take_pos hn]
      refine ⟨pe, hpe, ?_⟩
      have h1 : ¬ p.2 < pe := fun z => by
        rw [decide_eq_true z, decide_eq_true (show i < j from hij)] at this; cases this
      have h2 : pe ≠ p.2 := fun z => by
        have g := getA_of pn hp
        have m1 := posL_mem.mp (getA_mem hpe)
        have m2 := posL_mem.mp (show (p.1, p.2) ∈ posL 0 o from hp)
        obtain ⟨q1, a1, b1⟩ := m1
        obtain ⟨q2, a2, b2⟩ := m2
        have : q1 = q2 := by omega
        rw [this, b2] at b1
        have b1 := Option.some.inj b1
        obtain ⟨a, _, f⟩ := paired_left c.pr d hd
        exact f.ne (by rw [hpn, b1]; exact he)
      omega
    · unfold allIn
      rw [List.all_eq_true]
      intro n m
      obtain ⟨x, hx⟩ := (c.told n).mp m
      obtain ⟨pe, hpe, _⟩ := told n x hx
      refine decide_eq_true ?_
      have := List.mem_map_of_mem (f := (·.1)) (getA_mem hpe)
      rw [posL_keys] at this
      exact this
  · rintro ⟨h1, h2⟩ t ht
    have hx := getA_of c.tn ht
    have hto : t.1 ∈ o := by
      have := List.all_eq_true.mp h2 t.1 ((c.told _).mpr ⟨_, hx⟩)
      exact of_decide_eq_true this
    cases g : getA (posL 0 o) t.1 with
    | none =>
      rw [getA_none, posL_keys] at g
      exact absurd hto g
    | some pe =>
      rw [rowP_some g, List.all_eq_true]
      intro l hl
      have hlo : l.1 ∈ o := by
        have := List.mem_map_of_mem (f := (·.1)) hl
        rw [posL_keys] at this
        exact this
      obtain ⟨d, hdm, hdn⟩ := hd _ hlo
      obtain ⟨j, hg, her⟩ := c.get hdm
      rw [lateP_some (a := (d.ops, j)) (by rw [← hdn]; exact hg)]
      by_cases q : t.2.2 < j
      · have := h1 l hl d hdm hdn t.1 ((her _).mpr ⟨t.2.1, t.2.2, hx, q⟩)
        obtain ⟨pe', hp', hlt⟩ := (mem_take_pos hn).mp this
        obtain rfl := Option.some.inj (hp'.symm.trans g)
        rw [decide_eq_false (show ¬ l.2 < pe' by omega), Bool.and_false]; rfl
      · rw [decide_eq_false (show ¬ t.2.2 < j from q)]; rfl
theorem run_in {A : List (Int × List Op × Nat)} {T : List (Int × (PyData × PyData) × Nat)} : ∀ {r ch : List Int} {m : Fn}, runO A T ch m r = true → ∀ n ∈ r, ∃ a, getA A n = some a
  | n :: r, ch, m, h1, x, hx => by
    by_cases q : n ∈ ch
    · rw [runO_in q] at h1; cases h1
    cases g : getA A n with
    | none => rw [runO_no g] at h1; cases h1
    | some a =>
      rw [runO_go q g, Bool.and_eq_true] at h1
      rcases List.mem_cons.mp hx with rfl | hx
      · exact ⟨a, g⟩
      · exact run_in h1.2 x hx
/-- what the judge finds explains the record -/
theorem judge_sound {o : List Int} (h : okEvs [] es) (j : dfs (readJ [] es) 8 [] (fun _ => none) = some o) : explB es o = true := by
  have c := cnI_of h
  obtain ⟨r, e, h1, h2, h3⟩ := path_run c (dfs_path j)
  have e : o = r := e
  subst e
  unfold explB
  have nd := run_nodup List.nodup_nil h1
  rw [h1, Bool.true_and]
  exact (early_iff c nd (run_in h1)).mpr ⟨h2, h3⟩
/-- where it finds none there is none -/
theorem judge_whole {o : List Int} (h : okEvs [] es) (j : explB es o = true) : dfs (readJ [] es) 8 [] (fun _ => none) ≠ none := by
  have c := cnI_of h
  unfold explB at j
  rw [Bool.and_eq_true] at j
  have nd := run_nodup List.nodup_nil j.1
  obtain ⟨h2, h3⟩ := (early_iff c nd (run_in j.1)).mp j.2
  have hl : (readJ [] es).length ≤ 7 := by
    have := c.le
    rw [← List.length_map (f := (·.1)), ← paired_names c.pr, List.length_map] at this
    exact this
  refine path_dfs c.nn (run_path c rfl j.1 h2 h3) List.nodup_nil (fun _ m => nomatch m) ?_
  show (readJ [] es).length ≤ 8 + 0
  omega
end
/-! ### drawn records are fit for the law -/
theorem askL_ev : ∀ {i : Nat} {es : List Ev} {a : Int × List Op × Nat}, a ∈ askL i es → Ev.ask a.1 a.2.1 ∈ es
  | i, .ask n ops :: r, a, h => by
    rcases List.mem_cons.mp (show a ∈ (n, ops, i) :: askL (i + 1) r from h) with rfl | h
    · exact List.mem_cons_self
    · exact List.mem_cons_of_mem _ (askL_ev h)
  | i, .tell n o x :: r, a, h => List.mem_cons_of_mem _ (askL_ev (i := i + 1) (es := r) h)
theorem tellL_ev : ∀ {i : Nat} {es : List Ev} {t : Int × (PyData × PyData) × Nat}, t ∈ tellL i es → Ev.tell t.1 t.2.1.1 t.2.1.2 ∈ es
  | i, .tell n o x :: r, a, h => by
    rcases List.mem_cons.mp (show a ∈ (n, (o, x), i) :: tellL (i + 1) r from h) with rfl | h
    · exact List.mem_cons_self
    · exact List.mem_cons_of_mem _ (tellL_ev h)
  | i, .ask n ops :: r, a, h => List.mem_cons_of_mem _ (tellL_ev (i := i + 1) (es := r) h)
theorem evsOk_of {es : List Ev} (h : okEvs [] es) (g : ∀ e ∈ es, EvG e) (l : es.length ≤ 1000) : EvsOk es := by
  have c := cnI_of h
  refine ⟨c.an, c.tn, Nat.le_trans c.le (by decide), fun a ha => g _ (askL_ev ha), l, fun t ht => ?_⟩
  obtain ⟨⟨s, e1⟩, rs, e2, e3⟩ := g _ (tellL_ev ht)
  rw [e1]
  exact ⟨okD_flat _ rfl, e3⟩
theorem judge_len {es : List Ev} {o : List Int} (h : okEvs [] es) (j : dfs (readJ [] es) 8 [] (fun _ => none) = some o) : o.length ≤ 7 := by
  have c := cnI_of h
  obtain ⟨r, e, h1, _, _⟩ := path_run c (dfs_path j)
  have e : o = r := e
  subst e
  have := nodup_le (xs := o) (ys := (askL 0 es).map (·.1)) (run_nodup List.nodup_nil h1) fun n m => by
    obtain ⟨a, ha⟩ := run_in h1 n m
    exact List.mem_map_of_mem (f := (·.1)) (getA_mem ha)
  rw [List.length_map] at this
  exact Nat.le_trans this c.le
theorem asked_len {es : List Ev} (h : okEvs [] es) : (askL 0 es).length = (readJ [] es).length := by
  have := paired_names (cnI_of h).pr
  rw [← List.length_map (f := (·.1)), ← this, List.length_map]
/-! ### records in which each deal is told at once -/
def flatR : List Rw → List Ev
  | [] => []
  | w :: ws => .ask w.n w.ops :: .tell w.n w.o w.r :: flatR ws
theorem flatR_snoc (w : Rw) : ∀ ws : List Rw, flatR (ws ++ [w]) = flatR ws ++ [.ask w.n w.ops, .tell w.n w.o w.r]
  | [] => rfl
  | x :: ws => by show _ :: _ :: flatR (ws ++ [w]) = _; rw [flatR_snoc w ws]; rfl
theorem flatR_len : ∀ ws : List Rw, (flatR ws).length = 2 * ws.length
  | [] => rfl
  | x :: ws => by show (flatR ws).length + 1 + 1 = _; rw [flatR_len ws, List.length_cons]; omega
/-- the judge's deals of such a record -/
structure FlI (ws : List Rw) : Prop where
  ok : okEvs [] (flatR ws)
  nm : (readJ [] (flatR ws)).map (·.name) = ws.map (·.n)
  er : ∀ d ∈ readJ [] (flatR ws), ∀ i, (ws.map (·.n))[i]? = some d.name → d.earlier = (ws.map (·.n)).take i
  an : ∀ d ∈ readJ [] (flatR ws), d.ans.isSome = true
theorem told_all {ds : List JD} (h : ∀ d ∈ ds, d.ans.isSome = true) : toldL ds = ds.map (·.name) := by
  unfold toldL
  rw [List.filter_eq_self.mpr h]
theorem flI_of : ∀ {ws : List Rw}, (ws.map (·.n)).Nodup → ws.length ≤ 7 → FlI ws := by
  have go : ∀ (ws : List Rw) (i : Nat), i ≤ ws.length → (ws.map (·.n)).Nodup → ws.length ≤ 7 → FlI (ws.take i) := by
    intro ws i
    induction i with
    | zero =>
      intro _ _ _
      have : FlI [] := ⟨trivial, rfl, (fun _ m => nomatch m), fun _ m => nomatch m⟩
      exact this
    | succ i ih =>
      intro hi hn hl
      have hI : FlI (ws.take i) := ih (by omega) hn hl
      have hw : ws[i]? = some ws[i] := List.getElem?_eq_getElem (by omega)
      generalize ws[i] = w at hw
      rw [tk1 hw]
      generalize hp : ws.take i = ps at *
      have hnot : w.n ∉ ps.map (·.n) := by
        have e : ws = ps ++ w :: ws.drop (i + 1) := by rw [← hp, ← dropAt hw, List.take_append_drop]
        rw [e, List.map_append] at hn
        exact nd_mid hn
      have lp : ps.length ≤ 6 := by rw [← hp, List.length_take]; omega
      have ld : (readJ [] (flatR ps)).length = ps.length := by rw [← List.length_map (f := (·.name)), hI.nm, List.length_map]
      have hd : w.n ∉ (readJ [] (flatR ps)).map (·.name) := by rw [hI.nm]; exact hnot
      have tl : toldL (readJ [] (flatR ps)) = ps.map (·.n) := by rw [told_all hI.an, hI.nm]
      have e1 : readJ [] (flatR (ps ++ [w])) = readJ [] (flatR ps) ++ [⟨w.n, w.ops, ps.map (·.n), some (w.o, w.r)⟩] := by
        rw [flatR_snoc]
        unfold readJ
        rw [List.foldl_append]
        show ((readJ [] (flatR ps)) ++ [(⟨w.n, w.ops, toldL (readJ [] (flatR ps)), none⟩ : JD)]).map (setAns w.n w.o w.r) = _
        rw [tl, List.map_append]
        have : (readJ [] (flatR ps)).map (setAns w.n w.o w.r) = readJ [] (flatR ps) := by
          have := List.map_congr_left (f := setAns w.n w.o w.r) (g := id) (l := readJ [] (flatR ps)) fun d hd' => by
            unfold setAns
            have ne : d.name ≠ w.n := fun z => hd (by rw [← z]; exact List.mem_map_of_mem (f := (·.name)) hd')
            rw [if_neg ne]; rfl
          rw [this, List.map_id]
        rw [this]
        congr 1
        show [setAns w.n w.o w.r _] = _
        unfold setAns
        rw [if_pos rfl]
      have lm : (ps.map (·.n)).length = ps.length := List.length_map _
      refine ⟨?_, ?_, fun d hd' j hj => ?_, fun d hd' => ?_⟩
      · rw [flatR_snoc, show ([Ev.ask w.n w.ops, .tell w.n w.o w.r] : List Ev) = [.ask w.n w.ops] ++ [.tell w.n w.o w.r] from rfl]
        refine okEvs_app.mpr ⟨hI.ok, ⟨hd, by omega⟩, ⟨_, List.mem_append_right _ List.mem_cons_self, rfl, rfl⟩, trivial⟩
      · rw [e1, List.map_append, List.map_append, hI.nm]; rfl
      · rw [e1] at hd'
        rw [List.map_append] at hj ⊢
        rcases List.mem_append.mp hd' with hd' | hd'
        · have hin : d.name ∈ ps.map (·.n) := by rw [← hI.nm]; exact List.mem_map_of_mem (f := (·.name)) hd'
          have hjl : j < (ps.map (·.n)).length := by
            apply Classical.byContradiction
            intro hge
            rw [List.getElem?_append_right (by omega)] at hj
            cases q : j - (ps.map (·.n)).length with
            | zero =>
              rw [q] at hj
              have hj : some w.n = some d.name := hj
              have hj := Option.some.inj hj
              exact hnot (by rw [hj]; exact hin)
            | succ z => rw [q] at hj; cases hj
          rw [List.getElem?_append_left hjl] at hj
          rw [hI.er d hd' j hj, List.take_append_of_le_length (by omega)]
        · rw [List.mem_singleton.mp hd'] at hj ⊢
          have hjl : j = (ps.map (·.n)).length := by
            apply Classical.byContradiction
            intro hne
            by_cases hlt : j < (ps.map (·.n)).length
            · rw [List.getElem?_append_left hlt] at hj
              exact hnot (List.mem_of_getElem? hj)
            · rw [List.getElem?_append_right (by omega)] at hj
              cases q : j - (ps.map (·.n)).length with
              | zero => omega
              | succ z => rw [q] at hj; cases hj
          rw [hjl, List.take_left']
          rfl
      · rw [e1] at hd'
        rcases List.mem_append.mp hd' with hd' | hd'
        · exact hI.an d hd'
        · rw [List.mem_singleton.mp hd']; rfl
  intro ws hn hl
  have := go ws ws.length (Nat.le_refl _) hn hl
  rwa [List.take_length] at this
/-- only one order explains it -/
theorem flat_only {ws : List Rw} (c : FlI ws) (hn : (ws.map (·.n)).Nodup) : ∀ {r ch : List Int}, ordOk (readJ [] (flatR ws)) ch r → (ch ++ r).Nodup → (∀ n ∈ r, n ∈ ws.map (·.n)) → allIn (toldL (readJ [] (flatR ws))) (ch ++ r) = true → ∀ {k : Nat}, ch = (ws.map (·.n)).take k → k ≤ ws.length → ch ++ r = ws.map (·.n)
  | [], ch, _, _, _, ha, k, hc, hk => by
    rw [List.append_nil] at ha ⊢
    rw [told_all c.an, c.nm] at ha
    have hall : ∀ n ∈ ws.map (·.n), n ∈ ch := fun n m => of_decide_eq_true (List.all_eq_true.mp ha n m)
    have := nodup_le hn hall
    have h2 : ch.length = min k (ws.map (·.n)).length := by rw [hc, List.length_take]
    rw [List.length_map] at this h2
    rw [hc, List.take_of_length_le]
    rw [List.length_map]; omega
  | n :: r, ch, ho, hd, hi, ha, k, hc, hk => by
    have hm := hi n List.mem_cons_self
    obtain ⟨i, hil, hin⟩ := List.getElem_of_mem hm
    have hi' : (ws.map (·.n))[i]? = some n := by rw [List.getElem?_eq_getElem hil, hin]
    have hnc : n ∉ ch := nd_mid hd
    have hm2 := hm
    rw [← c.nm] at hm2
    obtain ⟨d, hdm, hdn⟩ := List.mem_map.mp hm2
    have hdn : d.name = n := hdn
    have her := c.er d hdm i (by rw [hdn]; exact hi')
    have hea := ho.1 d hdm hdn
    rw [her] at hea
    have hea : ∀ e ∈ (ws.map (·.n)).take i, e ∈ ch := fun e m => of_decide_eq_true (List.all_eq_true.mp hea e m)
    have h1 : k ≤ i := by
      apply Classical.byContradiction
      intro hlt
      refine hnc ?_
      rw [hc, ← hin]
      exact List.mem_take_iff_getElem.mpr ⟨i, by omega, rfl⟩
    have h2 : i ≤ k := by
      have t1 : ((ws.map (·.n)).take i).Nodup := hn.sublist (List.take_sublist ..)
      have := nodup_le t1 hea
      rw [hc, List.length_take, List.length_take] at this
      omega
    obtain rfl : i = k := by omega
    have := flat_only c hn (r := r) (ch := ch ++ [n]) ho.2 (by rw [List.append_assoc]; exact hd) (fun x m => hi x (List.mem_cons_of_mem _ m)) (by rw [List.append_assoc]; exact ha) (k := i + 1) (by rw [hc, tk1 hi']) (by rw [List.length_map] at hil; omega)
    rw [List.append_assoc] at this
    exact this
theorem forced_judge {ws : List Rw} (hn : (ws.map (·.n)).Nodup) (hl : ws.length ≤ 7) : dfs (readJ [] (flatR ws)) 8 [] (fun _ => none) = if explB (flatR ws) (ws.map (·.n)) = true then some (ws.map (·.n)) else none := by
  have c := flI_of hn hl
  have key : ∀ o, dfs (readJ [] (flatR ws)) 8 [] (fun _ => none) = some o → o = ws.map (·.n) := fun o ho => by
    have cn := cnI_of c.ok
    obtain ⟨r, e, h1, h2, h3⟩ := path_run cn (dfs_path ho)
    have e : o = r := e
    subst e
    refine flat_only c hn (ch := []) h2 (run_nodup List.nodup_nil h1) (fun n m => ?_) h3 (k := 0) rfl (Nat.zero_le _)
    obtain ⟨a, ha⟩ := run_in h1 n m
    rw [← c.nm, paired_names cn.pr]
    exact List.mem_map_of_mem (f := (·.1)) (getA_mem ha)
  split
  · rename_i h
    cases q : dfs (readJ [] (flatR ws)) 8 [] (fun _ => none) with
    | none => exact absurd q (judge_whole c.ok h)
    | some o => rw [key o q]
  · rename_i h
    cases q : dfs (readJ [] (flatR ws)) 8 [] (fun _ => none) with
    | none => rfl
    | some o => exact absurd (by have := judge_sound c.ok q; rwa [key o q] at this) h
/-! ### deals executed one after the other -/
def RunX (ds : List JD) : List Int → Fn → List Rw → Prop
  | _, _, [] => True
  | ch, m, w :: X => (∃ d ∈ ds, d.name = w.n ∧ d.ops = w.ops ∧ allIn d.earlier ch = true ∧ (d.ans = none ∨ d.ans = some (w.o, w.r))) ∧ w.n ∉ ch ∧ w.o = .str (outM m w.ops) ∧ w.r = .list ((ressM m w.ops).map resD) ∧ RunX ds (ch ++ [w.n]) (endM m w.ops) X
def tabX : Fn → List Rw → Fn
  | m, [] => m
  | m, w :: X => tabX (endM m w.ops) X
theorem tabX_snoc (w : Rw) : ∀ (m : Fn) (X : List Rw), tabX m (X ++ [w]) = endM (tabX m X) w.ops
  | m, [] => rfl
  | m, x :: X => tabX_snoc w (endM m x.ops) X
theorem RunX.more {ds : List JD} {d' : JD} : ∀ {X : List Rw} {ch : List Int} {m : Fn}, RunX ds ch m X → RunX (ds ++ [d']) ch m X
  | [], _, _, _ => trivial
  | w :: X, ch, m, ⟨⟨d, hd, h⟩, h1, h2, h3, h4⟩ => ⟨⟨d, List.mem_append_left _ hd, h⟩, h1, h2, h3, h4.more⟩
theorem RunX.told {ds : List JD} {n : Int} {o r : PyData} : ∀ {X : List Rw} {ch : List Int} {m : Fn}, RunX ds ch m X → (∀ w ∈ X, w.n = n → w.o = o ∧ w.r = r) → RunX (ds.map (setAns n o r)) ch m X
  | [], _, _, _, _ => trivial
  | w :: X, ch, m, ⟨⟨d, hd, e1, e2, e3, e4⟩, h1, h2, h3, h4⟩, hu => by
    refine ⟨⟨setAns n o r d, List.mem_map_of_mem hd, ?_, ?_, ?_, ?_⟩, h1, h2, h3, h4.told fun x hx => hu x (List.mem_cons_of_mem _ hx)⟩
    · unfold setAns; split <;> exact e1
    · unfold setAns; split <;> exact e2
    · unfold setAns; split <;> exact e3
    · by_cases q : d.name = n
      · unfold setAns
        rw [if_pos q]
        obtain ⟨a, b⟩ := hu w List.mem_cons_self (e1.symm.trans q)
        right
        show some (o, r) = some (w.o, w.r)
        rw [a, b]
      · unfold setAns
        rw [if_neg q]; exact e4
theorem RunX.snoc {ds : List JD} {w : Rw} : ∀ {X : List Rw} {ch : List Int} {m : Fn}, RunX ds ch m X → RunX ds (ch ++ X.map (·.n)) (tabX m X) [w] → RunX ds ch m (X ++ [w])
  | [], ch, m, _, h => by rw [List.map_nil, List.append_nil] at h; exact h
  | x :: X, ch, m, ⟨h0, h1, h2, h3, h4⟩, h => ⟨h0, h1, h2, h3, h4.snoc (by rw [List.append_assoc]; exact h)⟩
theorem RunX.path {ds : List JD} : ∀ {X : List Rw} {ch : List Int} {m : Fn}, RunX ds ch m X → allIn (toldL ds) (ch ++ X.map (·.n)) = true → Path ds ch m (ch ++ X.map (·.n))
  | [], ch, m, _, h => by rw [List.map_nil, List.append_nil] at h ⊢; exact .done h
  | w :: X, ch, m, ⟨⟨d, hd, e1, e2, e3, e4⟩, h1, h2, h3, h4⟩, h => by
    have ih := h4.path (by rw [List.append_assoc]; exact h)
    rw [List.append_assoc] at ih
    rw [← e1, ← e2] at ih
    refine .step hd (skip_iff.mpr ⟨by rw [e1]; exact h1, e3⟩) ?_ (by rw [e1] at ih ⊢; exact ih)
    rcases e4 with e4 | e4
    · exact fit_none e4
    · rw [fit_some e4, e2, h2, h3]
theorem RunX.nd {ds : List JD} : ∀ {X : List Rw} {ch : List Int} {m : Fn}, RunX ds ch m X → ch.Nodup → (ch ++ X.map (·.n)).Nodup
  | [], ch, m, _, h => by rw [List.map_nil, List.append_nil]; exact h
  | w :: X, ch, m, ⟨_, h1, _, _, h4⟩, h => by
    have := h4.nd (nd_snoc h h1)
    rw [List.append_assoc] at this
    exact this
theorem RunX.sub {ds : List JD} : ∀ {X : List Rw} {ch : List Int} {m : Fn}, RunX ds ch m X → ∀ w ∈ X, w.n ∈ ds.map (·.name)
  | x :: X, ch, m, ⟨⟨d, hd, e1, _⟩, _, _, _, h4⟩, w, hw => by
    rcases List.mem_cons.mp hw with rfl | hw
    · rw [← e1]; exact List.mem_map_of_mem (f := (·.name)) hd
    · exact h4.sub w hw
structure H2Ok (left : List Int) (AR : List (Int × List Op)) (RR X : List Rw) (es : List Ev) : Prop where
  ok : okEvs [] es
  ln : left.Nodup
  ld : ∀ n ∈ left, n ∉ (readJ [] es).map (·.name)
  le : (readJ [] es).length + left.length ≤ 7
  eg : ∀ e ∈ es, EvG e
  an : (AR.map (·.1)).Nodup
  ad : ∀ a ∈ AR, ∃ d ∈ readJ [] es, d.name = a.1 ∧ d.ops = a.2 ∧ d.ans = none
  ax : ∀ a ∈ AR, a.1 ∉ X.map (·.n)
  aso : ∀ a ∈ AR, ∀ op ∈ a.2, SmOp op
  rn : (RR.map (·.n)).Nodup
  rx : ∀ w ∈ RR, w ∈ X
  rd : ∀ w ∈ RR, ∃ d ∈ readJ [] es, d.name = w.n ∧ d.ans = none
  rg : ∀ w ∈ RR, EvG (.tell w.n w.o w.r)
  run : RunX (readJ [] es) [] (fun _ => none) X
  tx : ∀ n ∈ toldL (readJ [] es), n ∈ X.map (·.n)
section
variable {left : List Int} {AR : List (Int × List Op)} {RR X : List Rw} {es : List Ev} {n : Int} {ops : List Op} {w : Rw} {q : Nat}
theorem H2Ok.ask (h : H2Ok (n :: left) AR RR X es) (ho : ∀ op ∈ ops, SmOp op) : H2Ok left (AR ++ [(n, ops)]) RR X (es ++ [.ask n ops]) := by
  have er : readJ [] (es ++ [.ask n ops]) = readJ [] es ++ [⟨n, ops, toldL (readJ [] es), none⟩] := readJ_snocH
  obtain ⟨n1, n2⟩ := List.nodup_cons.mp h.ln
  have hn := h.ld n List.mem_cons_self
  have le := h.le
  rw [List.length_cons] at le
  have up : ∀ {P : JD → Prop}, (∃ d ∈ readJ [] es, P d) → ∃ d ∈ readJ [] (es ++ [.ask n ops]), P d := fun {P} ⟨d, hd, hp⟩ => ⟨d, by rw [er]; exact List.mem_append_left _ hd, hp⟩
  refine ⟨okEvs_app.mpr ⟨h.ok, ⟨hn, by omega⟩, trivial⟩, n2, fun x hx m => ?_, ?_, fun e he => ?_, ?_, fun a ha => ?_, fun a ha => ?_, fun a ha => ?_, h.rn, h.rx, fun w hw => up (h.rd w hw), h.rg, ?_, fun x hx => ?_⟩
  · rw [er, List.map_append] at m
    rcases List.mem_append.mp m with m | m
    · exact h.ld x (List.mem_cons_of_mem _ hx) m
    · have m : x = n := List.mem_singleton.mp m
      exact n1 (m ▸ hx)
  · rw [er, List.length_append]; show (readJ [] es).length + 1 + left.length ≤ 7; omega
  · rcases List.mem_append.mp he with he | he
    · exact h.eg e he
    · rw [List.mem_singleton.mp he]; exact ho
  · rw [List.map_append]
    refine nd_snoc h.an fun m => ?_
    obtain ⟨a, ha, e⟩ := List.mem_map.mp m
    obtain ⟨d, hd, dn, _⟩ := h.ad a ha
    have e : a.1 = n := e
    exact hn (by rw [← e, ← dn]; exact List.mem_map_of_mem (f := (·.name)) hd)
  · rcases List.mem_append.mp ha with ha | ha
    · exact up (h.ad a ha)
    · rw [List.mem_singleton.mp ha, er]
      exact ⟨_, List.mem_append_right _ List.mem_cons_self, rfl, rfl, rfl⟩
  · rcases List.mem_append.mp ha with ha | ha
    · exact h.ax a ha
    · rw [List.mem_singleton.mp ha]
      intro m
      obtain ⟨w, hw, e⟩ := List.mem_map.mp m
      have e : w.n = n := e
      exact hn (e ▸ h.run.sub w hw)
  · rcases List.mem_append.mp ha with ha | ha
    · exact h.aso a ha
    · rw [List.mem_singleton.mp ha]; exact ho
  · rw [er]; exact h.run.more
  · rw [er, toldL_snoc] at hx
    have hx : x ∈ toldL (readJ [] es) ++ [] := hx
    rw [List.append_nil] at hx
    exact h.tx x hx
theorem H2Ok.lose (h : H2Ok left AR RR X es) : H2Ok left (AR.eraseIdx q) RR X es :=
  ⟨h.ok, h.ln, h.ld, h.le, h.eg, by rw [map_eraseAt]; exact h.an.sublist (List.eraseIdx_sublist ..), fun a ha => h.ad a (List.mem_of_mem_eraseIdx ha), fun a ha => h.ax a (List.mem_of_mem_eraseIdx ha), fun a ha => h.aso a (List.mem_of_mem_eraseIdx ha), h.rn, h.rx, h.rd, h.rg, h.run, h.tx⟩
theorem H2Ok.drop (h : H2Ok left AR RR X es) : H2Ok left AR (RR.eraseIdx q) X es :=
  ⟨h.ok, h.ln, h.ld, h.le, h.eg, h.an, h.ad, h.ax, h.aso, by rw [map_eraseAt]; exact h.rn.sublist (List.eraseIdx_sublist ..), fun w hw => h.rx w (List.mem_of_mem_eraseIdx hw), fun w hw => h.rd w (List.mem_of_mem_eraseIdx hw), fun w hw => h.rg w (List.mem_of_mem_eraseIdx hw), h.run, h.tx⟩
theorem H2Ok.exec (h : H2Ok left AR RR X es) (hq : AR[q]? = some (n, ops)) (hw : w = ⟨n, ops, .str (outM (tabX (fun _ => none) X) ops), .list ((ressM (tabX (fun _ => none) X) ops).map resD)⟩) (hg : EvG (.tell w.n w.o w.r)) : H2Ok left (AR.eraseIdx q) (RR ++ [w]) (X ++ [w]) es := by
  have hm := List.mem_of_getElem? hq
  have hx := h.ax _ hm
  obtain ⟨d, hd, dn, dop, da⟩ := h.ad _ hm
  have wn : w.n = n := by rw [hw]
  have c := cnI_of h.ok
  have gone : ∀ a ∈ AR.eraseIdx q, a.1 ≠ n := fun a ha e => by
    have := nodup_eraseAt h.an (show (AR.map (·.1))[q]? = some n by rw [List.getElem?_map, hq]; rfl)
    rw [← map_eraseAt] at this
    exact this (e ▸ List.mem_map_of_mem (f := (·.1)) ha)
  refine ⟨h.ok, h.ln, h.ld, h.le, h.eg, by rw [map_eraseAt]; exact h.an.sublist (List.eraseIdx_sublist ..), fun a ha => h.ad a (List.mem_of_mem_eraseIdx ha), fun a ha m => ?_, fun a ha => h.aso a (List.mem_of_mem_eraseIdx ha), ?_, fun x hx => ?_, fun x hx => ?_, fun x hx => ?_, ?_, fun x hx => ?_⟩
  · rw [List.map_append] at m
    rcases List.mem_append.mp m with m | m
    · exact h.ax a (List.mem_of_mem_eraseIdx ha) m
    · have m : a.1 = w.n := List.mem_singleton.mp m
      exact gone a ha (m.trans wn)
  · rw [List.map_append]
    refine nd_snoc h.rn fun m => ?_
    obtain ⟨x, hxr, e⟩ := List.mem_map.mp m
    have e : x.n = w.n := e
    exact hx (by show n ∈ _; rw [← wn, ← e]; exact List.mem_map_of_mem (f := (·.n)) (h.rx x hxr))
  · rcases List.mem_append.mp hx with hx | hx
    · exact List.mem_append_left _ (h.rx x hx)
    · exact List.mem_append_right _ hx
  · rcases List.mem_append.mp hx with hx | hx
    · exact h.rd x hx
    · rw [List.mem_singleton.mp hx]; exact ⟨d, hd, dn.trans wn.symm, da⟩
  · rcases List.mem_append.mp hx with hx | hx
    · exact h.rg x hx
    · rw [List.mem_singleton.mp hx]; exact hg
  · refine h.run.snoc ⟨⟨d, hd, dn.trans wn.symm, by rw [hw]; exact dop, ?_, .inl da⟩, by rw [wn]; exact hx, by rw [hw], by rw [hw], trivial⟩
    unfold allIn
    rw [List.all_eq_true]
    intro e he
    obtain ⟨j, _, her⟩ := c.get hd
    obtain ⟨y, i, hy, _⟩ := (her e).mp he
    exact decide_eq_true (h.tx e ((c.told e).mpr ⟨_, hy⟩))
  · rw [List.map_append]; exact List.mem_append_left _ (h.tx x hx)
theorem H2Ok.tell (h : H2Ok left AR RR X es) (hq : RR[q]? = some w) : H2Ok left AR (RR.eraseIdx q) X (es ++ [.tell w.n w.o w.r]) := by
  have hm := List.mem_of_getElem? hq
  have hX := h.rx w hm
  have nX : (X.map (·.n)).Nodup := h.run.nd List.nodup_nil
  have er : readJ [] (es ++ [.tell w.n w.o w.r]) = (readJ [] es).map (setAns w.n w.o w.r) := readJ_snocH
  have en : (readJ [] (es ++ [.tell w.n w.o w.r])).map (·.name) = (readJ [] es).map (·.name) := by
    rw [er, List.map_map]
    refine List.map_congr_left fun d _ => ?_
    show (setAns w.n w.o w.r d).name = d.name
    unfold setAns; split <;> rfl
  have keep : ∀ d ∈ readJ [] es, d.name ≠ w.n → d ∈ readJ [] (es ++ [.tell w.n w.o w.r]) := fun d hd ne => by
    rw [er]
    refine List.mem_map.mpr ⟨d, hd, ?_⟩
    unfold setAns
    rw [if_neg ne]
  refine ⟨okEvs_app.mpr ⟨h.ok, h.rd w hm, trivial⟩, h.ln, fun x hx => by rw [en]; exact h.ld x hx, by rw [er, List.length_map]; exact h.le, fun e he => ?_, h.an, fun a ha => ?_, h.ax, h.aso, by rw [map_eraseAt]; exact h.rn.sublist (List.eraseIdx_sublist ..), fun x hx => h.rx x (List.mem_of_mem_eraseIdx hx), fun x hx => ?_, fun x hx => h.rg x (List.mem_of_mem_eraseIdx hx), ?_, fun x hx => ?_⟩
  · rcases List.mem_append.mp he with he | he
    · exact h.eg e he
    · rw [List.mem_singleton.mp he]; exact h.rg w hm
  · obtain ⟨d, hd, dn, dop, da⟩ := h.ad a ha
    refine ⟨d, keep d hd fun z => h.ax a ha ?_, dn, dop, da⟩
    rw [← dn, z]; exact List.mem_map_of_mem (f := (·.n)) hX
  · obtain ⟨d, hd, dn, da⟩ := h.rd x (List.mem_of_mem_eraseIdx hx)
    refine ⟨d, keep d hd fun z => ?_, dn, da⟩
    have := nodup_eraseAt h.rn (nm_at hq)
    rw [← map_eraseAt, ← z, dn] at this
    exact this (List.mem_map_of_mem (f := (·.n)) hx)
  · rw [er]
    exact h.run.told fun x hx e => by rw [nodup_inj nX hx hX e]; exact ⟨rfl, rfl⟩
  · rw [er] at hx
    obtain ⟨d', hd', ha', hn'⟩ := mem_toldL.mp hx
    obtain ⟨d, hd, rfl⟩ := List.mem_map.mp hd'
    by_cases z : d.name = w.n
    · have : (setAns w.n w.o w.r d).name = w.n := by unfold setAns; rw [if_pos z]; exact z
      rw [← hn', this]
      exact List.mem_map_of_mem (f := (·.n)) hX
    · have e : setAns w.n w.o w.r d = d := by unfold setAns; rw [if_neg z]
      rw [e] at ha' hn'
      exact h.tx x (mem_toldL.mpr ⟨d, hd, ha', hn'⟩)
theorem H2Ok.judge (h : H2Ok left AR RR X es) : dfs (readJ [] es) 8 [] (fun _ => none) ≠ none := by
  have c := cnI_of h.ok
  have hl : (readJ [] es).length ≤ 7 := by rw [← asked_len h.ok]; exact c.le
  refine path_dfs c.nn (h.run.path ?_) List.nodup_nil (fun _ m => nomatch m) ?_
  · unfold allIn
    rw [List.all_eq_true]
    exact fun e m => decide_eq_true (h.tx e m)
  · show (readJ [] es).length ≤ 8 + 0
    omega
theorem H2Ok.xl (h : H2Ok left AR RR X es) : X.length ≤ 7 := by
  have c := cnI_of h.ok
  have hl : (readJ [] es).length ≤ 7 := by rw [← asked_len h.ok]; exact c.le
  have := nodup_le (h.run.nd List.nodup_nil) (ys := (readJ [] es).map (·.name)) fun n m => by
    obtain ⟨w, hw, e⟩ := List.mem_map.mp m
    exact e ▸ h.run.sub w hw
  rw [List.nil_append, List.length_map, List.length_map] at this
  omega
end
theorem J.take {M G H : Hp} {l : Addr} {o : HO} (j : J M G H) (h : G l = some o) : J (upd M l o) (del G l) H where
  m := fun a u e => by
    by_cases q : a = l
    · subst q
      rw [upd_same] at e
      rw [← Option.some.inj e]
      exact j.g _ _ h
    · rw [upd_ne q] at e; exact j.m a u e
  g := fun a u e => by
    by_cases q : a = l
    · subst q; rw [del_same] at e; cases e
    · rw [del_ne q] at e; exact j.g a u e
  d := fun a u e => by
    by_cases q : a = l
    · subst q; exact del_same
    · rw [upd_ne q] at e
      rw [del_ne q]; exact j.d a u e
theorem Ex.take {G0 G : Hp} {l : Addr} (e : Ex G0 G) (n : G0 l = none) : Ex G0 (del G l) := fun a u h => by
  have q : a ≠ l := fun z => by rw [z, n] at h; cases h
  rw [del_ne q]; exact e a u h
def evD : Ev → PyData
  | .ask n ops => .tuple [.str "asked", .int n, .list (ops.map opD)]
  | .tell n o r => .tuple [.str "told", .int n, o, r]
theorem dp_ev {K : PySem.W.Frag} {G : Hp} {v : V} {e : Ev} (h : EvAt K G v e) : Dp K G v (evD e) := by
  cases e with
  | ask n ops =>
    obtain ⟨t, a, as, rfl, ht, hd⟩ := h
    exact .tup (st_of ht) (.cons (.str _) (.cons (.int _) (.cons (dp_ops hd.1 hd.2.1) .nil)))
  | tell n o r =>
    obtain ⟨t, v1, v2, rfl, ht, h1, h2⟩ := h
    exact .tup (st_of ht) (.cons (.str _) (.cons (.int _) (.cons h1 (.cons h2 .nil))))
theorem dp_evs {K : PySem.W.Frag} {G : Hp} : ∀ {vs : List V} {es : List Ev}, Paired (EvAt K G) vs es → DpAll K G vs (es.map evD)
  | _, _, .nil => .nil
  | _, _, .cons h t => .cons (dp_ev h) (dp_evs t)
theorem okD_ev {K : PySem.W.Frag} {G : Hp} {v : V} {e : Ev} (h : EvAt K G v e) (g : EvG e) : okD 5 (evD e) := by
  cases e with
  | ask n ops =>
    obtain ⟨t, a, as, rfl, ht, hd⟩ := h
    refine ⟨by show 3 ≤ 100000; decide, fun x hx => ?_⟩
    simp only [List.mem_cons, List.not_mem_nil, or_false] at hx
    rcases hx with rfl | rfl | rfl
    · exact okD_flat _ rfl
    · exact okD_flat _ rfl
    · exact okD_ops 2 hd.2.2.2
  | tell n o r =>
    obtain ⟨⟨s, e1⟩, rs, e2, e3⟩ := g
    refine ⟨by show 4 ≤ 100000; decide, fun x hx => ?_⟩
    simp only [List.mem_cons, List.not_mem_nil, or_false] at hx
    rcases hx with rfl | rfl | rfl | rfl
    · exact okD_flat _ rfl
    · exact okD_flat _ rfl
    · rw [e1]; exact okD_flat _ rfl
    · exact e3
theorem okD_evs {K : PySem.W.Frag} {G : Hp} {vs : List V} {es : List Ev} (h : Paired (EvAt K G) vs es) (g : ∀ e ∈ es, EvG e) (l : es.length ≤ 1000) : okD 6 (.list (es.map evD)) := by
  refine ⟨by rw [List.length_map]; omega, fun x hx => ?_⟩
  obtain ⟨e, he, rfl⟩ := List.mem_map.mp hx
  obtain ⟨v, _, hv⟩ := paired_right h e he
  exact okD_ev hv (g e he)
theorem okD_ints (ns : List Int) (l : ns.length ≤ 1000) : okD 6 (.list (ns.map PyData.int)) := by
  refine ⟨by rw [List.length_map]; omega, fun x hx => ?_⟩
  obtain ⟨n, _, rfl⟩ := List.mem_map.mp hx
  exact okD_flat _ rfl
theorem dp_intsJ {K : PySem.W.Frag} {G : Hp} : ∀ ns : List Int, DpAll K G (ns.map V.int) (ns.map PyData.int)
  | [] => .nil
  | n :: r => .cons (.int n) (dp_intsJ r)
theorem flatR_evG : ∀ {ws : List Rw}, (∀ w ∈ ws, RwG w) → ∀ e ∈ flatR ws, EvG e
  | w :: ws, h, e, m => by
    rcases List.mem_cons.mp (show e ∈ Ev.ask w.n w.ops :: .tell w.n w.o w.r :: flatR ws from m) with rfl | m
    · exact (h w List.mem_cons_self).1
    · rcases List.mem_cons.mp m with rfl | m
      · exact (h w List.mem_cons_self).2
      · exact flatR_evG (fun x hx => h x (List.mem_cons_of_mem _ hx)) e m
/-! ### law -/
abbrev s_law : Stmt := top 39
abbrev n_law : List Str := ["script", "draws", "rows", "at", "row", "refused", "e"]
theorem sc_law : FnScope n_law ["script"] (defScope s_law) := ⟨rfl, rfl, rfl, by decide +kernel, rfl, by decide +kernel, by decide +kernel⟩
theorem ok_law {P : Program} {w : World} {K : PySem.W.Frag} {mg : Str → Option Value} {base : Heap}
    {f : Addr} {fd : FuncData} (D : Dn K mg "law" s_law ["script"] f fd)
    (b_list : mg "list" = none)
    (b_isinstance : mg "isinstance" = none)
    (b_len : mg "len" = none)
    {A_BadHistory : Addr} (x_BadHistory : Xc K mg "BadHistory" A_BadHistory)
    {A_BadRecord : Addr} (x_BadRecord : Xc K mg "BadRecord" A_BadRecord)
    {A_BadLine : Addr} (x_BadLine : Xc K mg "BadLine" A_BadLine)
    {A_BadDeal : Addr} (x_BadDeal : Xc K mg "BadDeal" A_BadDeal)
    (i_BadHistory_BadDeal : PySem.W.kitOne K (.ref A_BadHistory) (.ref A_BadDeal) = some false)
    (i_BadHistory_BadLine : PySem.W.kitOne K (.ref A_BadHistory) (.ref A_BadLine) = some false)
    (i_BadHistory_BadRecord : PySem.W.kitOne K (.ref A_BadHistory) (.ref A_BadRecord) = some false)
    (c_law_good : Cal P w K mg base CX0 2 "_law_good" (sp_law_good K))
    (c_judge : Cal P w K mg base (L2.CX P w) 23 "judge" (sp_judge K A_BadHistory C_Record C_Asked))
    (c_law_draw : Cal P w K mg base CX0 2 "_law_draw" (sp_law_draw K))
    (c_law_spoilt_row : Cal P w K mg base CX0 4 "_law_spoilt_row" (sp_law_spoilt_row K))
    (c_law_rows : Cal P w K mg base CX0 4 "_law_rows" (sp_law_rows K))
    (c_law_numbers : Cal P w K mg base CX0 2 "_law_numbers" (sp_law_numbers K)) : FnOk P w K mg base CX0 24 f fd ["script"] (sp_law K) := by
  refine D.fn.ok sc_law (fun vs H Q E h => ?_) fun cdv A outer s H vs Q E hr h => ?_
  · obtain ⟨a, ns, rfl, _⟩ := h; rfl
  obtain ⟨sc, ns, rfl, ha, hl, k⟩ := h
  have j := J.start H
  refine ⟨_, (pss_cons (ps_set (i := 1) sc_law.nd rfl (Or.inl rfl) (pe_lst (pa_cons (pe_cal c_law_numbers hr (by first | decide | omega) (by rfl) (pa_cons (pv 0) pa_nil)) (pa_cons pe_int pa_nil))))
(pss_cons (ps_set (i := 2) sc_law.nd rfl (Or.inl rfl) (pe_cal c_law_rows hr (by first | decide | omega) (by rfl) (pa_cons (pv 1) pa_nil)))
(pss_cons (ps_if (PW.pt (pw_and (pt_cmpR op_gt (pe_callB (call_uLenK (K := K) rfl) (by rfl) b_len PySem.boot_len (pa_cons (pv 2) pa_nil)) pe_int (nomark _)) (pw_and1 (pt_cmpR op_gt (pe_op op_mod (pe_cal c_law_draw hr (by first | decide | omega) (by rfl) (pa_cons (pv 1) pa_nil)) pe_int) pe_int (nomark _)))))
(pss_cons (ps_set (i := 3) sc_law.nd rfl (Or.inl rfl) (pe_op op_mod (pe_cal c_law_draw hr (by first | decide | omega) (by rfl) (pa_cons (pv 1) pa_nil)) (pe_callB (call_uLenK (K := K) rfl) (by rfl) b_len PySem.boot_len (pa_cons (pv 2) pa_nil))))
(pss_one (ps_asg (pe_cal c_law_spoilt_row hr (by first | decide | omega) (by rfl) (pa_cons (pv 1) (pa_cons (pe_ix (ix_uK (K := K) rfl) (pv 2) (pv 3) (fun _ _ => rfl)) pa_nil))) (pg_sub (pv 2) (pv 3) set_list))))
pss_nil)
(pss_cons (ps_if (PW.pt (pw_and (pt_cmpR op_gt (pe_callB (call_uLenK (K := K) rfl) (by rfl) b_len PySem.boot_len (pa_cons (pv 2) pa_nil)) pe_int (nomark _)) (pw_and1 (pt_cmpR (op_uEqK (K := K) rfl hr) (pe_op op_mod (pe_cal c_law_draw hr (by first | decide | omega) (by rfl) (pa_cons (pv 1) pa_nil)) pe_int) pe_int (nomark _)))))
(pss_cons (ps_set (i := 3) sc_law.nd rfl (Or.inl rfl) (pe_op op_mod (pe_cal c_law_draw hr (by first | decide | omega) (by rfl) (pa_cons (pv 1) pa_nil)) (pe_op op_sub (pe_callB (call_uLenK (K := K) rfl) (by rfl) b_len PySem.boot_len (pa_cons (pv 2) pa_nil)) pe_int)))
(pss_cons (ps_set (i := 4) sc_law.nd rfl (Or.inl rfl) (pe_ix (ix_uK (K := K) rfl) (pv 2) (pv 3) (fun _ _ => rfl)))
(pss_cons (ps_asg (pe_ix (ix_uK (K := K) rfl) (pv 2) (pe_op (op_uAddK (K := K) rfl) (pv 3) pe_int) (fun _ _ => rfl)) (pg_sub (pv 2) (pv 3) set_list))
(pss_one (ps_asg (pv 4) (pg_sub (pv 2) (pe_op (op_uAddK (K := K) rfl) (pv 3) pe_int) set_list))))))
pss_nil)
(pss_cons (ps_set (i := 5) sc_law.nd rfl (Or.inl rfl) pe_bl)
(pss_cons (ps_tryA (i := 6) rfl rfl sc_law.nd rfl rfl ⟨by rfl, by decide, Or.inl x_BadHistory.gP⟩ takes0 (fun W pn xe tk _ =>
(pss_one (ps_expr (pe_calX c_judge hr (by first | decide | omega) (by rfl) tk (pa_cons (pe_callTy (call_listC (K := K) rfl) (by rfl) b_list bt_list (pa_cons (pv 2) pa_nil)) pa_nil)))))
(fun a oe cls d pn hz hf => pss_given (p := cls = .ref A_BadHistory ∧ d = none) fun q =>
(pss_one (ps_set (i := 5) sc_law.nd rfl (Or.inl rfl) (pe_not (pe_callB (call_isET x_BadHistory.excC (by obtain ⟨rfl, rfl⟩ := q; exact hz) hf) (by rfl) b_isinstance bt_isinstance (pa_cons (pv 6) (pa_cons (pe_tup (pa_cons (pe_gk (by rfl) x_BadDeal.g) (pa_cons (pe_gk (by rfl) x_BadLine.g) (pa_cons (pe_gk (by rfl) x_BadRecord.g) pa_nil)))) pa_nil))))))))
(pss_one (ps_ret (pe_cmpR (op_uNeK (K := K) rfl hr) (pv 5) (pe_cal c_law_good hr (by first | decide | omega) (by rfl) (pa_cons (pv 2) pa_nil)) (nomark _)))))))))), ?_⟩
  walk_at "start"
  refine w_sg (sc, ns) j ⟨rfl, ha, hl⟩ fun v M1 G1 H1 j1 e1 ⟨q, nums, ev, hq, hn, em⟩ => ?_
  subst ev em
  walk_at "go"
  refine w_newM j1 (by show 2 ≤ sizeLine; decide) fun p H2 j2 nM nG => ?_
  walk_at "go"
  have d2 : Dr K (upd (fun _ => none) p (.lst [.ref q, .int 0])) G1 p := ⟨q, nums, 0, upd_same, sl_of hq, hn, Int.le_refl _⟩
  have nt2 : NoT (upd (fun _ => none) p (.lst [.ref q, .int 0])) := NoT.emp.updL
  have m2 : ∀ b, b ≠ p → upd (fun _ => none) p (.lst [.ref q, .int 0]) b = none := fun b h => upd_ne h
  generalize upd (fun _ => none) p (.lst [.ref q, .int 0]) = M2 at *
  refine w_sg p j2 ⟨rfl, d2⟩ fun v M3 G3 H3 j3 e3 ⟨⟨L, vs, es, ev, hL, nL1, hP, hle, a3⟩, d3⟩ => ?_
  subst ev
  have nLp : L ≠ p := fun z => by
    obtain ⟨_, _, _, hx, _⟩ := d2
    rw [z, hx] at nL1; cases nL1
  have nt3 : NoT (del (del M3 L) p) := fun a xs z => by
    by_cases c1 : a = p
    · rw [c1, del_same] at z; cases z
    rw [del_ne c1] at z
    by_cases c2 : a = L
    · rw [c2, del_same] at z; cases z
    rw [del_ne c2, a3 a c1 c2, m2 a c1] at z; cases z
  have lv := Paired.length hP
  -- the rows, whatever is done to them
  refine w_gName ?_
  refine w_seqO (fun σ H => ∃ vs es M4 G4 x3 x4, J M4 G4 H ∧ Dr K M4 G4 p ∧ M4 L = some (.lst vs) ∧ Paired (RwL K G4) vs es ∧ es.length ≤ 16 ∧ NoT (del (del M4 L) p) ∧ σ = [some (.ref sc), some (.ref p), some (.ref L), x3, x4, none, none]) ?_ fun N hN => ?_
  rotate_left
  · have skip : ∀ {M' G' H' : Hp}, J M' G' H' → Ex G3 G' → Dr K M' G' p → Ag p M3 M' → N [some (.ref sc), some (.ref p), some (.ref L), none, none, none, none] H' := fun {M' G' H'} j e d a => hN _ _ ⟨vs, es, M', G', _, _, j, d, a.at hL nLp, hP.mono fun _ _ f => f.1.ex e, hle, fun b xs z => by
      by_cases c1 : b = p
      · rw [c1, del_same] at z; cases z
      rw [del_ne c1] at z
      by_cases c2 : b = L
      · rw [c2, del_same] at z; cases z
      rw [del_ne c2, a b c1] at z
      exact nt3 b xs (by rw [del_ne c1, del_ne c2]; exact z), rfl⟩
    walk_at "go"
    refine w_lenM j3 hL ?_
    walk_at "go"
    refine w_dec (fun c1 => ?_) (fun c1 => ?_)
    · walk_at "go"
      refine use_draw j3 d3 fun z M4 G4 H4 _ _ j4 e4 d4 a4 => ?_
      walk_at "go"
      refine w_dec (fun c2 => ?_) (fun c2 => ?_)
      · walk_at "go"
        refine use_draw j4 d4 fun z2 M5 G5 H5 _ _ j5 e5 d5 a5 => ?_
        have a45 := a4.trans a5
        have hL5 := a45.at hL nLp
        walk_at "go"
        refine w_lenM j5 hL5 ?_
        have c1 : (0 : Int) < (vs.length : Int) := c1
        walk_at "go"
        refine w_I c1 ?_
        have q0 := Int.emod_nonneg z2 (b := (vs.length : Int)) (by omega)
        have q1 := Int.emod_lt_of_pos z2 c1
        generalize z2 % (vs.length : Int) = at_ at q0 q1 ⊢
        obtain ⟨qn, rfl⟩ := Int.eq_ofNat_of_zero_le q0
        have hqn : qn < vs.length := by omega
        walk_at "go"
        refine w_ixM j5 hL5 (atI_nat (j := qn) (List.getElem?_eq_getElem hqn)) ?_
        walk_at "go"
        obtain ⟨e, he, hev⟩ := paired_atX hP (List.getElem?_eq_getElem hqn)
        have E5 := e4.trans e5
        refine w_sg (α := SrP) ⟨p, vs[qn], e⟩ j5 ⟨rfl, d5, hev.1.ex E5, hev.2⟩ fun v M6 G6 H6 j6 e6 ⟨⟨e', he'⟩, d6, a6⟩ => ?_
        have a6 := a45.trans a6
        walk_at "go"
        refine w_setM j6 (a6.at hL nLp) (ix_at hqn) fun H7 j7 => ?_
        refine hN _ _ ⟨vs.set qn v, es.set qn e', _, G6, _, _, j7, d6.upd nLp, upd_same, paired_setX (hP.mono fun _ _ f => f.1.ex (E5.trans e6)) he', by rw [List.length_set]; exact hle, fun b xs z => ?_, rfl⟩
        by_cases c1 : b = p
        · rw [c1, del_same] at z; cases z
        rw [del_ne c1] at z
        by_cases c2 : b = L
        · rw [c2, del_same] at z; cases z
        rw [del_ne c2, upd_ne c2, a6 b c1] at z
        exact nt3 b xs (by rw [del_ne c1, del_ne c2]; exact z)
      · walk_at "go"
        exact skip j4 e4 d4 a4
    · walk_at "go"
      exact skip j3 (Same.refl _) d3 (Ag.refl _ _)
  rintro σ H ⟨vs, es, M4, G4, x3, x4, j4, d4, hL4, hP4, hle4, nt4, rfl⟩
  have lv4 := Paired.length hP4
  refine w_seqO (fun σ H => ∃ vs es M5 G5 x3 x4, J M5 G5 H ∧ M5 L = some (.lst vs) ∧ Paired (RwL K G5) vs es ∧ es.length ≤ 16 ∧ NoT (del (del M5 L) p) ∧ σ = [some (.ref sc), some (.ref p), some (.ref L), x3, x4, none, none]) ?_ fun N hN => ?_
  rotate_left
  · have skip : ∀ {M' G' H' : Hp}, J M' G' H' → Ex G4 G' → Ag p M4 M' → N [some (.ref sc), some (.ref p), some (.ref L), x3, x4, none, none] H' := fun {M' G' H'} j e a => hN _ _ ⟨vs, es, M', G', _, _, j, a.at hL4 nLp, hP4.mono fun _ _ f => f.ex e, hle4, fun b xs z => by
      by_cases c1 : b = p
      · rw [c1, del_same] at z; cases z
      rw [del_ne c1] at z
      by_cases c2 : b = L
      · rw [c2, del_same] at z; cases z
      rw [del_ne c2, a b c1] at z
      exact nt4 b xs (by rw [del_ne c1, del_ne c2]; exact z), rfl⟩
    walk_at "go"
    refine w_lenM j4 hL4 ?_
    walk_at "go"
    refine w_dec (fun c1 => ?_) (fun c1 => ?_)
    · walk_at "go"
      refine use_draw j4 d4 fun z M5 G5 H5 _ _ j5 e5 d5 a5 => ?_
      walk_at "go"
      refine w_dec (fun c2 => ?_) (fun c2 => ?_)
      · walk_at "go"
        refine use_draw j5 d5 fun z2 M6 G6 H6 _ _ j6 e6 d6 a6 => ?_
        have a6 := a5.trans a6
        have hL6 := a6.at hL4 nLp
        walk_at "go"
        refine w_lenM j6 hL6 ?_
        have c1 : (1 : Int) < (vs.length : Int) := c1
        walk_at "go"
        have c0 : (0 : Int) < (vs.length : Int) - 1 := by omega
        refine w_I c0 ?_
        have q0 := Int.emod_nonneg z2 (b := (vs.length : Int) - 1) (by omega)
        have q1 := Int.emod_lt_of_pos z2 c0
        generalize z2 % ((vs.length : Int) - 1) = at_ at q0 q1 ⊢
        obtain ⟨qn, rfl⟩ := Int.eq_ofNat_of_zero_le q0
        have hqn : qn < vs.length := by omega
        have hqm : qn + 1 < vs.length := by omega
        walk_at "go"
        refine w_ixM j6 hL6 (atI_nat (j := qn) (List.getElem?_eq_getElem hqn)) ?_
        walk_at "go"
        refine w_ixM j6 hL6 (v := vs[qn + 1]) (by rw [show ((qn : Int) + 1) = ((qn + 1 : Nat) : Int) by omega]; exact atI_nat (j := qn + 1) (List.getElem?_eq_getElem hqm)) ?_
        walk_at "go"
        refine w_setM j6 hL6 (ix_at hqn) fun H7 j7 => ?_
        walk_at "go"
        obtain ⟨ea, hea, hva⟩ := paired_atX hP4 (List.getElem?_eq_getElem hqn)
        obtain ⟨eb, heb, hvb⟩ := paired_atX hP4 (List.getElem?_eq_getElem hqm)
        have E6 := e5.trans e6
        refine w_setM (jx := qn + 1) j7 upd_same (by rw [List.length_set, show ((qn : Int) + 1) = ((qn + 1 : Nat) : Int) by omega]; exact ix_at hqm) fun H8 j8 => ?_
        walk_at "go"
        refine hN _ _ ⟨_, (es.set qn eb).set (qn + 1) ea, _, G6, _, _, j8, upd_same, paired_setX (paired_setX (hP4.mono fun _ _ f => f.ex E6) (hvb.ex E6)) (hva.ex E6), by rw [List.length_set, List.length_set]; exact hle4, fun b xs z => ?_, rfl⟩
        by_cases c1 : b = p
        · rw [c1, del_same] at z; cases z
        rw [del_ne c1] at z
        by_cases c2 : b = L
        · rw [c2, del_same] at z; cases z
        rw [del_ne c2, upd_ne c2, upd_ne c2, a6 b c1] at z
        exact nt4 b xs (by rw [del_ne c1, del_ne c2]; exact z)
      · walk_at "go"
        exact skip j5 e5 a5
    · walk_at "go"
      exact skip j4 (Same.refl _) (Ag.refl _ _)
  rintro σ H ⟨vs, es, M5, G5, x3, x4, j5, hL5, hP5, hle5, nt5, rfl⟩
  have lv5 := Paired.length hP5
  have j6 := (j5.seal hL5).drop p
  have e6 := Ex.new (o := .lst vs) (j5.out hL5)
  have hP6 : Paired (RwL K (upd G5 L (.lst vs))) vs es := hP5.mono fun _ _ f => f.ex e6
  have hL6 : upd G5 L (.lst vs) L = some (.lst vs) := upd_same
  generalize upd G5 L (.lst vs) = G6 at *
  generalize del (del M5 L) p = M6 at *
  with_reducible refine w_seq ?_
  with_reducible refine w_asg ?_
  with_reducible refine w_c ?_
  with_reducible refine w_gName ?_
  with_reducible show tSeq (tTryA _ _ _ _ _ _) _ _ _ _
  refine w_seqP (fun σ H => ∃ (r : Bool) (G7 : Hp) (y : Option V), J M6 G7 H ∧ Ex G6 G7 ∧ (r = true ↔ ¬ okRows [] es) ∧ σ = [some (.ref sc), some (.ref p), some (.ref L), x3, x4, some (.bl r), y]) ?_ fun rest => ?_
  · rintro σ H ⟨r, G7, y, j7, e7, hr7, rfl⟩
    walk_at "go"
    refine w_sg (α := GoP) ⟨L, vs, es⟩ j7 ⟨rfl, sl_of (e7 _ _ hL6), hP6.mono fun _ _ f => f.ex e7, by dsimp only; omega⟩ fun v M8 G8 H8 j8 e8 ⟨g, ev, em, hg⟩ => ?_
    subst ev
    refine w_neV rfl (k := true) ?_ ?_
    · cases r with
      | true => 
        cases g with
        | true => exact absurd (hg.mp rfl) (hr7.mp rfl)
        | false => rfl
      | false =>
        cases g with
        | true => rfl
        | false =>
          exact absurd (hr7.mpr fun z => by have := hg.mpr z; cases this) (fun z => nomatch z)
    walk_at "go"
    exact k _
  walk_at "go"
  refine w_listC (.inl (sl_mono j6.g (sl_of hL6))) (w_new j6 (Nat.zero_le _) fun L2 G7 H7 j7 e7 hL7 _ => ?_)
  walk_at "go"
  refine w_sx (α := Addr × List V × List RowX) (L2, vs, es) j7 ⟨rfl, nt5, sl_of hL7, (hP6.mono fun _ _ f => (f.ex e7).row)⟩ (fun v M8 G8 H8 j8 e8 ⟨em, ho⟩ => ?_) fun C M8 G8 H8 j8 e8 ⟨ec, em, ho⟩ => ?_
  · subst em
    exact rest _ _ ⟨false, G8, _, j8, e7.trans e8, ⟨(fun z => nomatch z), fun z => absurd ho z⟩, rfl⟩
  · subst ec em
    refine w_caught x_BadHistory.exm fun ea hea => ⟨⟨rfl, rfl⟩, ?_⟩
    walk_at "go"
    refine w_new j8 (by show 3 ≤ sizeLine; decide) fun t9 G9 H9 j9 e9 ht9 _ => ?_
    walk_at "go"
    refine w_isET3 j9 ht9 i_BadHistory_BadDeal i_BadHistory_BadLine i_BadHistory_BadRecord ?_
    refine w_bl ?_
    refine w_gName ?_
    exact rest _ _ ⟨true, G9, _, j9, (e7.trans e8).trans e9, ⟨(fun _ => ho), fun _ => rfl⟩, rfl⟩
/-! ### the end -/
set_option maxHeartbeats 16000000 in
theorem all_mk {l : PySem.W.OpenLaw} {w : World} {K : PySem.W.Frag} {h : Heap} {mg : Str → Option Value} {fa : Addr} (X : K.In h) (G : h.Ns mainGlobals mg) (hfa : mg "law" = some (.ref fa))
    {C_Record : Addr}
    {C_Asked : Addr}
    {f0 : Addr} {od0 an0 : Option Addr} {sl0 : Array (Option Value)} {oc0 kV0 dc0 pm0 cd0 ct0 : Value}
    {f1 : Addr} {od1 an1 : Option Addr} {sl1 : Array (Option Value)} {oc1 kV1 dc1 pm1 cd1 ct1 : Value}
    {f2 : Addr} {od2 an2 : Option Addr} {sl2 : Array (Option Value)} {oc2 kV2 dc2 pm2 cd2 ct2 : Value}
    {f3 : Addr} {od3 an3 : Option Addr} {sl3 : Array (Option Value)} {oc3 kV3 dc3 pm3 cd3 ct3 : Value}
    {f4 : Addr} {od4 an4 : Option Addr} {sl4 : Array (Option Value)} {oc4 kV4 dc4 pm4 cd4 ct4 : Value}
    {f5 : Addr} {od5 an5 : Option Addr} {sl5 : Array (Option Value)} {oc5 kV5 dc5 pm5 cd5 ct5 : Value}
    {f6 : Addr} {od6 an6 : Option Addr} {sl6 : Array (Option Value)} {oc6 kV6 dc6 pm6 cd6 ct6 : Value}
    {f7 : Addr} {od7 an7 : Option Addr} {sl7 : Array (Option Value)} {oc7 kV7 dc7 pm7 cd7 ct7 : Value}
    {f8 : Addr} {od8 an8 : Option Addr} {sl8 : Array (Option Value)} {oc8 kV8 dc8 pm8 cd8 ct8 : Value}
    {f9 : Addr} {od9 an9 : Option Addr} {sl9 : Array (Option Value)} {oc9 kV9 dc9 pm9 cd9 ct9 : Value}
    {f10 : Addr} {od10 an10 : Option Addr} {sl10 : Array (Option Value)} {oc10 kV10 dc10 pm10 cd10 ct10 : Value}
    {f11 : Addr} {od11 an11 : Option Addr} {sl11 : Array (Option Value)} {oc11 kV11 dc11 pm11 cd11 ct11 : Value}
    {f12 : Addr} {od12 an12 : Option Addr} {sl12 : Array (Option Value)} {oc12 kV12 dc12 pm12 cd12 ct12 : Value}
    {f13 : Addr} {od13 an13 : Option Addr} {sl13 : Array (Option Value)} {oc13 kV13 dc13 pm13 cd13 ct13 : Value}
    {f14 : Addr} {od14 an14 : Option Addr} {sl14 : Array (Option Value)} {oc14 kV14 dc14 pm14 cd14 ct14 : Value}
    {f15 : Addr} {od15 an15 : Option Addr} {sl15 : Array (Option Value)} {oc15 kV15 dc15 pm15 cd15 ct15 : Value}
    {f16 : Addr} {od16 an16 : Option Addr} {sl16 : Array (Option Value)} {oc16 kV16 dc16 pm16 cd16 ct16 : Value}
    {f17 : Addr} {od17 an17 : Option Addr} {sl17 : Array (Option Value)} {oc17 kV17 dc17 pm17 cd17 ct17 : Value}
    {f18 : Addr} {od18 an18 : Option Addr} {sl18 : Array (Option Value)} {oc18 kV18 dc18 pm18 cd18 ct18 : Value}
    {f19 : Addr} {od19 an19 : Option Addr} {sl19 : Array (Option Value)} {oc19 kV19 dc19 pm19 cd19 ct19 : Value}
    {f20 : Addr} {od20 an20 : Option Addr} {sl20 : Array (Option Value)} {oc20 kV20 dc20 pm20 cd20 ct20 : Value}
    {f21 : Addr} {od21 an21 : Option Addr} {sl21 : Array (Option Value)} {oc21 kV21 dc21 pm21 cd21 ct21 : Value}
    {f22 : Addr} {od22 an22 : Option Addr} {sl22 : Array (Option Value)} {oc22 kV22 dc22 pm22 cd22 ct22 : Value}
    {f23 : Addr} {od23 an23 : Option Addr} {sl23 : Array (Option Value)} {oc23 kV23 dc23 pm23 cd23 ct23 : Value}
    {f24 : Addr} {od24 an24 : Option Addr} {sl24 : Array (Option Value)} {oc24 kV24 dc24 pm24 cd24 ct24 : Value}
    {f25 : Addr} {od25 an25 : Option Addr} {sl25 : Array (Option Value)} {oc25 kV25 dc25 pm25 cd25 ct25 : Value}
    {f26 : Addr} {od26 an26 : Option Addr} {sl26 : Array (Option Value)} {oc26 kV26 dc26 pm26 cd26 ct26 : Value}
    {f27 : Addr} {od27 an27 : Option Addr} {sl27 : Array (Option Value)} {oc27 kV27 dc27 pm27 cd27 ct27 : Value}
    {f28 : Addr} {od28 an28 : Option Addr} {sl28 : Array (Option Value)} {oc28 kV28 dc28 pm28 cd28 ct28 : Value}
    {f29 : Addr} {od29 an29 : Option Addr} {sl29 : Array (Option Value)} {oc29 kV29 dc29 pm29 cd29 ct29 : Value}
    {A_BadDeal : Addr}
    {A_BadHistory : Addr}
    {A_BadRecord : Addr}
    {A_BadLine : Addr}
    {t1 : Tok}
    {t2 : Tok}
    {t3 : Tok}
    {e_SETTING : Addr} {en_SETTING : Nat} {es_SETTING : Array (Option Value)}
    {t4 : Tok}
    {t5 : Tok}
    {t6 : Tok}
    (aC_Record : PySem.W.nsIn K mainGlobals "Record" = some (some (.ref C_Record)))
    (pgC_Record : PySem.W.plainGet K C_Record Str.empty = true)
    (hdC_Record : PySem.W.hasDictIn K C_Record = true)
    (poC_Record : PySem.W.plainOver K C_Record = true)
    (saC_Record : PySem.W.findIn K (.ref C_Record) "__setattr__" = some (some (.builtin "object.__setattr__")))
    (kcC_Record : PySem.W.keepIn K (.ref C_Record) = true)
    (mkC_Record : PySem.W.makesIn K C_Record = true)
    (nfC_deals_Record : PySem.W.findIn K (.ref C_Record) "deals" = some none)
    (aC_Asked : PySem.W.nsIn K mainGlobals "Asked" = some (some (.ref C_Asked)))
    (pgC_Asked : PySem.W.plainGet K C_Asked Str.empty = true)
    (hdC_Asked : PySem.W.hasDictIn K C_Asked = true)
    (poC_Asked : PySem.W.plainOver K C_Asked = true)
    (saC_Asked : PySem.W.findIn K (.ref C_Asked) "__setattr__" = some (some (.builtin "object.__setattr__")))
    (kcC_Asked : PySem.W.keepIn K (.ref C_Asked) = true)
    (mkC_Asked : PySem.W.makesIn K C_Asked = true)
    (nfC_ops_Asked : PySem.W.findIn K (.ref C_Asked) "ops" = some none)
    (nfC_earlier_Asked : PySem.W.findIn K (.ref C_Asked) "earlier" = some none)
    (nfC_answer_Asked : PySem.W.findIn K (.ref C_Asked) "answer" = some none)
    (a0 : PySem.W.nsIn K mainGlobals "_law_mixed" = some (some (.ref f0)))
    (l0 : K.lookup f0 = some ⟨oc0, od0, .func (PySem.W.fnOf "_law_mixed" "_law_mixed" (defArgs s_law_mixed) (defBody s_law_mixed) (defScope s_law_mixed) .none kV0 dc0 pm0 an0 cd0 ct0), sl0⟩)
    (c0 : PySem.W.codeIn K cd0 "_law_mixed" = true) (k0 : PySem.W.keepIn K (.ref f0) = true)
    (a1 : PySem.W.nsIn K mainGlobals "_law_draw" = some (some (.ref f1)))
    (l1 : K.lookup f1 = some ⟨oc1, od1, .func (PySem.W.fnOf "_law_draw" "_law_draw" (defArgs s_law_draw) (defBody s_law_draw) (defScope s_law_draw) .none kV1 dc1 pm1 an1 cd1 ct1), sl1⟩)
    (c1 : PySem.W.codeIn K cd1 "_law_draw" = true) (k1 : PySem.W.keepIn K (.ref f1) = true)
    (a2 : PySem.W.nsIn K mainGlobals "_law_good_deal" = some (some (.ref f2)))
    (l2 : K.lookup f2 = some ⟨oc2, od2, .func (PySem.W.fnOf "_law_good_deal" "_law_good_deal" (defArgs s_law_good_deal) (defBody s_law_good_deal) (defScope s_law_good_deal) .none kV2 dc2 pm2 an2 cd2 ct2), sl2⟩)
    (c2 : PySem.W.codeIn K cd2 "_law_good_deal" = true) (k2 : PySem.W.keepIn K (.ref f2) = true)
    (a3 : PySem.W.nsIn K mainGlobals "_law_rows" = some (some (.ref f3)))
    (l3 : K.lookup f3 = some ⟨oc3, od3, .func (PySem.W.fnOf "_law_rows" "_law_rows" (defArgs s_law_rows) (defBody s_law_rows) (defScope s_law_rows) .none kV3 dc3 pm3 an3 cd3 ct3), sl3⟩)
    (c3 : PySem.W.codeIn K cd3 "_law_rows" = true) (k3 : PySem.W.keepIn K (.ref f3) = true)
    (a4 : PySem.W.nsIn K mainGlobals "_law_numbers" = some (some (.ref f4)))
    (l4 : K.lookup f4 = some ⟨oc4, od4, .func (PySem.W.fnOf "_law_numbers" "_law_numbers" (defArgs s_law_numbers) (defBody s_law_numbers) (defScope s_law_numbers) .none kV4 dc4 pm4 an4 cd4 ct4), sl4⟩)
    (c4 : PySem.W.codeIn K cd4 "_law_numbers" = true) (k4 : PySem.W.keepIn K (.ref f4) = true)
    (a5 : PySem.W.nsIn K mainGlobals "_law_bad_deal" = some (some (.ref f5)))
    (l5 : K.lookup f5 = some ⟨oc5, od5, .func (PySem.W.fnOf "_law_bad_deal" "_law_bad_deal" (defArgs s_law_bad_deal) (defBody s_law_bad_deal) (defScope s_law_bad_deal) .none kV5 dc5 pm5 an5 cd5 ct5), sl5⟩)
    (c5 : PySem.W.codeIn K cd5 "_law_bad_deal" = true) (k5 : PySem.W.keepIn K (.ref f5) = true)
    (a6 : PySem.W.nsIn K mainGlobals "_law_spoilt_row" = some (some (.ref f6)))
    (l6 : K.lookup f6 = some ⟨oc6, od6, .func (PySem.W.fnOf "_law_spoilt_row" "_law_spoilt_row" (defArgs s_law_spoilt_row) (defBody s_law_spoilt_row) (defScope s_law_spoilt_row) .none kV6 dc6 pm6 an6 cd6 ct6), sl6⟩)
    (c6 : PySem.W.codeIn K cd6 "_law_spoilt_row" = true) (k6 : PySem.W.keepIn K (.ref f6) = true)
    (a7 : PySem.W.findIn K (.ref C_Record) "__init__" = some (some (.ref f7))) (i7 : PySem.W.isFn K (.ref f7) = true)
    (l7 : K.lookup f7 = some ⟨oc7, od7, .func (PySem.W.fnOf "__init__" "Record.__init__" (defArgs s_Record___init__) (defBody s_Record___init__) (defScope s_Record___init__) .none kV7 dc7 pm7 an7 cd7 ct7), sl7⟩)
    (c7 : PySem.W.codeIn K cd7 "Record.__init__" = true) (k7 : PySem.W.keepIn K (.ref f7) = true)
    (a8 : PySem.W.nsIn K mainGlobals "is_plain_integer" = some (some (.ref f8)))
    (l8 : K.lookup f8 = some ⟨oc8, od8, .func (PySem.W.fnOf "is_plain_integer" "is_plain_integer" (defArgs s_is_plain_integer) (defBody s_is_plain_integer) (defScope s_is_plain_integer) .none kV8 dc8 pm8 an8 cd8 ct8), sl8⟩)
    (c8 : PySem.W.codeIn K cd8 "is_plain_integer" = true) (k8 : PySem.W.keepIn K (.ref f8) = true)
    (a9 : PySem.W.nsIn K mainGlobals "is_value" = some (some (.ref f9)))
    (l9 : K.lookup f9 = some ⟨oc9, od9, .func (PySem.W.fnOf "is_value" "is_value" (defArgs s_is_value) (defBody s_is_value) (defScope s_is_value) .none kV9 dc9 pm9 an9 cd9 ct9), sl9⟩)
    (c9 : PySem.W.codeIn K cd9 "is_value" = true) (k9 : PySem.W.keepIn K (.ref f9) = true)
    (a10 : PySem.W.nsIn K mainGlobals "new_value" = some (some (.ref f10)))
    (l10 : K.lookup f10 = some ⟨oc10, od10, .func (PySem.W.fnOf "new_value" "new_value" (defArgs s_new_value) (defBody s_new_value) (defScope s_new_value) .none kV10 dc10 pm10 an10 cd10 ct10), sl10⟩)
    (c10 : PySem.W.codeIn K cd10 "new_value" = true) (k10 : PySem.W.keepIn K (.ref f10) = true)
    (a11 : PySem.W.nsIn K mainGlobals "is_failing" = some (some (.ref f11)))
    (l11 : K.lookup f11 = some ⟨oc11, od11, .func (PySem.W.fnOf "is_failing" "is_failing" (defArgs s_is_failing) (defBody s_is_failing) (defScope s_is_failing) .none kV11 dc11 pm11 an11 cd11 ct11), sl11⟩)
    (c11 : PySem.W.codeIn K cd11 "is_failing" = true) (k11 : PySem.W.keepIn K (.ref f11) = true)
    (a12 : PySem.W.nsIn K mainGlobals "result_of" = some (some (.ref f12)))
    (l12 : K.lookup f12 = some ⟨oc12, od12, .func (PySem.W.fnOf "result_of" "result_of" (defArgs s_result_of) (defBody s_result_of) (defScope s_result_of) .none kV12 dc12 pm12 an12 cd12 ct12), sl12⟩)
    (c12 : PySem.W.codeIn K cd12 "result_of" = true) (k12 : PySem.W.keepIn K (.ref f12) = true)
    (a13 : PySem.W.nsIn K mainGlobals "execute" = some (some (.ref f13)))
    (l13 : K.lookup f13 = some ⟨oc13, od13, .func (PySem.W.fnOf "execute" "execute" (defArgs s_execute) (defBody s_execute) (defScope s_execute) .none kV13 dc13 pm13 an13 cd13 ct13), sl13⟩)
    (c13 : PySem.W.codeIn K cd13 "execute" = true) (k13 : PySem.W.keepIn K (.ref f13) = true)
    (a14 : PySem.W.nsIn K mainGlobals "are_all_same" = some (some (.ref f14)))
    (l14 : K.lookup f14 = some ⟨oc14, od14, .func (PySem.W.fnOf "are_all_same" "are_all_same" (defArgs s_are_all_same) (defBody s_are_all_same) (defScope s_are_all_same) .none kV14 dc14 pm14 an14 cd14 ct14), sl14⟩)
    (c14 : PySem.W.codeIn K cd14 "are_all_same" = true) (k14 : PySem.W.keepIn K (.ref f14) = true)
    (a15 : PySem.W.nsIn K mainGlobals "are_same" = some (some (.ref f15)))
    (l15 : K.lookup f15 = some ⟨oc15, od15, .func (PySem.W.fnOf "are_same" "are_same" (defArgs s_are_same) (defBody s_are_same) (defScope s_are_same) .none kV15 dc15 pm15 an15 cd15 ct15), sl15⟩)
    (c15 : PySem.W.codeIn K cd15 "are_same" = true) (k15 : PySem.W.keepIn K (.ref f15) = true)
    (a16 : PySem.W.findIn K (.ref C_Record) "told" = some (some (.ref f16))) (i16 : PySem.W.isFn K (.ref f16) = true)
    (l16 : K.lookup f16 = some ⟨oc16, od16, .func (PySem.W.fnOf "told" "Record.told" (defArgs s_Record_told) (defBody s_Record_told) (defScope s_Record_told) .none kV16 dc16 pm16 an16 cd16 ct16), sl16⟩)
    (c16 : PySem.W.codeIn K cd16 "Record.told" = true) (k16 : PySem.W.keepIn K (.ref f16) = true)
    (a17 : PySem.W.findIn K (.ref C_Record) "order_behind" = some (some (.ref f17))) (i17 : PySem.W.isFn K (.ref f17) = true)
    (l17 : K.lookup f17 = some ⟨oc17, od17, .func (PySem.W.fnOf "order_behind" "Record.order_behind" (defArgs s_Record_order_behind) (defBody s_Record_order_behind) (defScope s_Record_order_behind) .none kV17 dc17 pm17 an17 cd17 ct17), sl17⟩)
    (c17 : PySem.W.codeIn K cd17 "Record.order_behind" = true) (k17 : PySem.W.keepIn K (.ref f17) = true)
    (a18 : PySem.W.findIn K (.ref C_Asked) "__init__" = some (some (.ref f18))) (i18 : PySem.W.isFn K (.ref f18) = true)
    (l18 : K.lookup f18 = some ⟨oc18, od18, .func (PySem.W.fnOf "__init__" "Asked.__init__" (defArgs s_Asked___init__) (defBody s_Asked___init__) (defScope s_Asked___init__) .none kV18 dc18 pm18 an18 cd18 ct18), sl18⟩)
    (c18 : PySem.W.codeIn K cd18 "Asked.__init__" = true) (k18 : PySem.W.keepIn K (.ref f18) = true)
    (a19 : PySem.W.nsIn K mainGlobals "is_scan" = some (some (.ref f19)))
    (l19 : K.lookup f19 = some ⟨oc19, od19, .func (PySem.W.fnOf "is_scan" "is_scan" (defArgs s_is_scan) (defBody s_is_scan) (defScope s_is_scan) .none kV19 dc19 pm19 an19 cd19 ct19), sl19⟩)
    (c19 : PySem.W.codeIn K cd19 "is_scan" = true) (k19 : PySem.W.keepIn K (.ref f19) = true)
    (a20 : PySem.W.nsIn K mainGlobals "is_key" = some (some (.ref f20)))
    (l20 : K.lookup f20 = some ⟨oc20, od20, .func (PySem.W.fnOf "is_key" "is_key" (defArgs s_is_key) (defBody s_is_key) (defScope s_is_key) .none kV20 dc20 pm20 an20 cd20 ct20), sl20⟩)
    (c20 : PySem.W.codeIn K cd20 "is_key" = true) (k20 : PySem.W.keepIn K (.ref f20) = true)
    (a21 : PySem.W.nsIn K mainGlobals "is_operation" = some (some (.ref f21)))
    (l21 : K.lookup f21 = some ⟨oc21, od21, .func (PySem.W.fnOf "is_operation" "is_operation" (defArgs s_is_operation) (defBody s_is_operation) (defScope s_is_operation) .none kV21 dc21 pm21 an21 cd21 ct21), sl21⟩)
    (c21 : PySem.W.codeIn K cd21 "is_operation" = true) (k21 : PySem.W.keepIn K (.ref f21) = true)
    (a22 : PySem.W.nsIn K mainGlobals "check_deal" = some (some (.ref f22)))
    (l22 : K.lookup f22 = some ⟨oc22, od22, .func (PySem.W.fnOf "check_deal" "check_deal" (defArgs s_check_deal) (defBody s_check_deal) (defScope s_check_deal) .none kV22 dc22 pm22 an22 cd22 ct22), sl22⟩)
    (c22 : PySem.W.codeIn K cd22 "check_deal" = true) (k22 : PySem.W.keepIn K (.ref f22) = true)
    (a23 : PySem.W.findIn K (.ref C_Record) "ask" = some (some (.ref f23))) (i23 : PySem.W.isFn K (.ref f23) = true)
    (l23 : K.lookup f23 = some ⟨oc23, od23, .func (PySem.W.fnOf "ask" "Record.ask" (defArgs s_Record_ask) (defBody s_Record_ask) (defScope s_Record_ask) .none kV23 dc23 pm23 an23 cd23 ct23), sl23⟩)
    (c23 : PySem.W.codeIn K cd23 "Record.ask" = true) (k23 : PySem.W.keepIn K (.ref f23) = true)
    (a24 : PySem.W.findIn K (.ref C_Record) "tell" = some (some (.ref f24))) (i24 : PySem.W.isFn K (.ref f24) = true)
    (l24 : K.lookup f24 = some ⟨oc24, od24, .func (PySem.W.fnOf "tell" "Record.tell" (defArgs s_Record_tell) (defBody s_Record_tell) (defScope s_Record_tell) .none kV24 dc24 pm24 an24 cd24 ct24), sl24⟩)
    (c24 : PySem.W.codeIn K cd24 "Record.tell" = true) (k24 : PySem.W.keepIn K (.ref f24) = true)
    (a25 : PySem.W.findIn K (.ref C_Record) "read" = some (some (.ref f25))) (i25 : PySem.W.isFn K (.ref f25) = true)
    (l25 : K.lookup f25 = some ⟨oc25, od25, .func (PySem.W.fnOf "read" "Record.read" (defArgs s_Record_read) (defBody s_Record_read) (defScope s_Record_read) .none kV25 dc25 pm25 an25 cd25 ct25), sl25⟩)
    (c25 : PySem.W.codeIn K cd25 "Record.read" = true) (k25 : PySem.W.keepIn K (.ref f25) = true)
    (a26 : PySem.W.nsIn K mainGlobals "judge" = some (some (.ref f26)))
    (l26 : K.lookup f26 = some ⟨oc26, od26, .func (PySem.W.fnOf "judge" "judge" (defArgs s_judge) (defBody s_judge) (defScope s_judge) .none kV26 dc26 pm26 an26 cd26 ct26), sl26⟩)
    (c26 : PySem.W.codeIn K cd26 "judge" = true) (k26 : PySem.W.keepIn K (.ref f26) = true)
    (a27 : PySem.W.nsIn K mainGlobals "_law_good_asked" = some (some (.ref f27)))
    (l27 : K.lookup f27 = some ⟨oc27, od27, .func (PySem.W.fnOf "_law_good_asked" "_law_good_asked" (defArgs s_law_good_asked) (defBody s_law_good_asked) (defScope s_law_good_asked) .none kV27 dc27 pm27 an27 cd27 ct27), sl27⟩)
    (c27 : PySem.W.codeIn K cd27 "_law_good_asked" = true) (k27 : PySem.W.keepIn K (.ref f27) = true)
    (a28 : PySem.W.nsIn K mainGlobals "_law_good" = some (some (.ref f28)))
    (l28 : K.lookup f28 = some ⟨oc28, od28, .func (PySem.W.fnOf "_law_good" "_law_good" (defArgs s_law_good) (defBody s_law_good) (defScope s_law_good) .none kV28 dc28 pm28 an28 cd28 ct28), sl28⟩)
    (c28 : PySem.W.codeIn K cd28 "_law_good" = true) (k28 : PySem.W.keepIn K (.ref f28) = true)
    (a29 : PySem.W.nsIn K mainGlobals "law" = some (some (.ref f29)))
    (l29 : K.lookup f29 = some ⟨oc29, od29, .func (PySem.W.fnOf "law" "law" (defArgs s_law) (defBody s_law) (defScope s_law) .none kV29 dc29 pm29 an29 cd29 ct29), sl29⟩)
    (c29 : PySem.W.codeIn K cd29 "law" = true) (k29 : PySem.W.keepIn K (.ref f29) = true)
    (z_len : PySem.W.nsIn K mainGlobals "len" = some none)
    (z_range : PySem.W.nsIn K mainGlobals "range" = some none)
    (z_list : PySem.W.nsIn K mainGlobals "list" = some none)
    (z_str : PySem.W.nsIn K mainGlobals "str" = some none)
    (z_isinstance : PySem.W.nsIn K mainGlobals "isinstance" = some none)
    (z_bool : PySem.W.nsIn K mainGlobals "bool" = some none)
    (z_int : PySem.W.nsIn K mainGlobals "int" = some none)
    (z_sorted : PySem.W.nsIn K mainGlobals "sorted" = some none)
    (z_dict : PySem.W.nsIn K mainGlobals "dict" = some none)
    (z_all : PySem.W.nsIn K mainGlobals "all" = some none)
    (z_zip : PySem.W.nsIn K mainGlobals "zip" = some none)
    (z_tuple : PySem.W.nsIn K mainGlobals "tuple" = some none)
    (aX_BadDeal : PySem.W.nsIn K mainGlobals "BadDeal" = some (some (.ref A_BadDeal)))
    (xP_BadDeal : PySem.W.excIn K A_BadDeal [.type "ValueError", .type "Exception", .type "BaseException", .type "object"] "ValueError.__new__" = true)
    (kP_BadDeal : PySem.W.keepIn K (.ref A_BadDeal) = true)
    (bP_BadDeal : PySem.W.subIn K (.ref A_BadDeal) (.type "BaseException") = some true)
    (tP_BadDeal : PySem.W.typeIn K (.ref A_BadDeal) = some (.type "type"))
    (hD_BadDeal : PySem.W.hasDictIn K A_BadDeal = true)
    (sP_BadDeal : PySem.W.subIn K (.ref A_BadDeal) (.ref A_BadDeal) = some true)
    (hg_BadDeal : PySem.W.findIn K (.ref A_BadDeal) "__getattribute__" = some (some (.builtin "BaseException.__getattribute__")))
    (hk_BadDeal : PySem.W.findIn K (.ref A_BadDeal) "__getattr__" = some none)
    (ha_BadDeal : PySem.W.findIn K (.ref A_BadDeal) "__class__" = some (some (.builtin "object.__class__")))
    (hn_BadDeal : PySem.W.specialIn K (.builtin "object.__class__") "__get__" = some (some (.builtin "getset_descriptor.__get__")))
    (ht_BadDeal : PySem.W.takesIn K (.builtin "object.__class__") = some true)
    (hm_BadDeal : PySem.W.mroIn K A_BadDeal (.type "object") = some true)
    (aX_BadHistory : PySem.W.nsIn K mainGlobals "BadHistory" = some (some (.ref A_BadHistory)))
    (xP_BadHistory : PySem.W.excIn K A_BadHistory [.type "ValueError", .type "Exception", .type "BaseException", .type "object"] "ValueError.__new__" = true)
    (kP_BadHistory : PySem.W.keepIn K (.ref A_BadHistory) = true)
    (bP_BadHistory : PySem.W.subIn K (.ref A_BadHistory) (.type "BaseException") = some true)
    (tP_BadHistory : PySem.W.typeIn K (.ref A_BadHistory) = some (.type "type"))
    (hD_BadHistory : PySem.W.hasDictIn K A_BadHistory = true)
    (sP_BadHistory : PySem.W.subIn K (.ref A_BadHistory) (.ref A_BadHistory) = some true)
    (hg_BadHistory : PySem.W.findIn K (.ref A_BadHistory) "__getattribute__" = some (some (.builtin "BaseException.__getattribute__")))
    (hk_BadHistory : PySem.W.findIn K (.ref A_BadHistory) "__getattr__" = some none)
    (ha_BadHistory : PySem.W.findIn K (.ref A_BadHistory) "__class__" = some (some (.builtin "object.__class__")))
    (hn_BadHistory : PySem.W.specialIn K (.builtin "object.__class__") "__get__" = some (some (.builtin "getset_descriptor.__get__")))
    (ht_BadHistory : PySem.W.takesIn K (.builtin "object.__class__") = some true)
    (hm_BadHistory : PySem.W.mroIn K A_BadHistory (.type "object") = some true)
    (aX_BadRecord : PySem.W.nsIn K mainGlobals "BadRecord" = some (some (.ref A_BadRecord)))
    (xP_BadRecord : PySem.W.excIn K A_BadRecord [.type "ValueError", .type "Exception", .type "BaseException", .type "object"] "ValueError.__new__" = true)
    (kP_BadRecord : PySem.W.keepIn K (.ref A_BadRecord) = true)
    (bP_BadRecord : PySem.W.subIn K (.ref A_BadRecord) (.type "BaseException") = some true)
    (tP_BadRecord : PySem.W.typeIn K (.ref A_BadRecord) = some (.type "type"))
    (hD_BadRecord : PySem.W.hasDictIn K A_BadRecord = true)
    (sP_BadRecord : PySem.W.subIn K (.ref A_BadRecord) (.ref A_BadRecord) = some true)
    (hg_BadRecord : PySem.W.findIn K (.ref A_BadRecord) "__getattribute__" = some (some (.builtin "BaseException.__getattribute__")))
    (hk_BadRecord : PySem.W.findIn K (.ref A_BadRecord) "__getattr__" = some none)
    (ha_BadRecord : PySem.W.findIn K (.ref A_BadRecord) "__class__" = some (some (.builtin "object.__class__")))
    (hn_BadRecord : PySem.W.specialIn K (.builtin "object.__class__") "__get__" = some (some (.builtin "getset_descriptor.__get__")))
    (ht_BadRecord : PySem.W.takesIn K (.builtin "object.__class__") = some true)
    (hm_BadRecord : PySem.W.mroIn K A_BadRecord (.type "object") = some true)
    (aX_BadLine : PySem.W.nsIn K mainGlobals "BadLine" = some (some (.ref A_BadLine)))
    (xP_BadLine : PySem.W.excIn K A_BadLine [.type "ValueError", .type "Exception", .type "BaseException", .type "object"] "ValueError.__new__" = true)
    (kP_BadLine : PySem.W.keepIn K (.ref A_BadLine) = true)
    (bP_BadLine : PySem.W.subIn K (.ref A_BadLine) (.type "BaseException") = some true)
    (tP_BadLine : PySem.W.typeIn K (.ref A_BadLine) = some (.type "type"))
    (hD_BadLine : PySem.W.hasDictIn K A_BadLine = true)
    (sP_BadLine : PySem.W.subIn K (.ref A_BadLine) (.ref A_BadLine) = some true)
    (hg_BadLine : PySem.W.findIn K (.ref A_BadLine) "__getattribute__" = some (some (.builtin "BaseException.__getattribute__")))
    (hk_BadLine : PySem.W.findIn K (.ref A_BadLine) "__getattr__" = some none)
    (ha_BadLine : PySem.W.findIn K (.ref A_BadLine) "__class__" = some (some (.builtin "object.__class__")))
    (hn_BadLine : PySem.W.specialIn K (.builtin "object.__class__") "__get__" = some (some (.builtin "getset_descriptor.__get__")))
    (ht_BadLine : PySem.W.takesIn K (.builtin "object.__class__") = some true)
    (hm_BadLine : PySem.W.mroIn K A_BadLine (.type "object") = some true)
    (ki_BadHistory_BadDeal : PySem.W.kitOne K (.ref A_BadHistory) (.ref A_BadDeal) = some false)
    (ki_BadHistory_BadLine : PySem.W.kitOne K (.ref A_BadHistory) (.ref A_BadLine) = some false)
    (ki_BadHistory_BadRecord : PySem.W.kitOne K (.ref A_BadHistory) (.ref A_BadRecord) = some false)
    (q_LIMIT : PySem.W.nsIn K mainGlobals "LIMIT" = some (some (.int 1000000000000000000 t1)))
    (q_SETTING : PySem.W.nsIn K mainGlobals "SETTING" = some (some (.ref e_SETTING)))
    (w_SETTING : K.lookup e_SETTING = some ⟨.type "tuple", none, .seq #[Value.str "put" t2, Value.str "add" t3] en_SETTING, es_SETTING⟩)
    (q_KEYS : PySem.W.nsIn K mainGlobals "KEYS" = some (some (.int 1000 t4)))
    (q_MOST_OPERATIONS : PySem.W.nsIn K mainGlobals "MOST_OPERATIONS" = some (some (.int 6 t5)))
    (q_MOST_NAMES : PySem.W.nsIn K mainGlobals "MOST_NAMES" = some (some (.int 7 t6))) :
    ∃ fd : FuncData, (∀ (s : Shared) (v : Value), BindsTo s fd ⟨[v], []⟩ [("script", v)]) ∧ ∀ base : Heap, K.In base → base.Ns mainGlobals mg → FnOk l.prog w K mg base CX0 24 fa fd ["script"] (sp_law K) := by
  have e := hfa.symm.trans (PySem.W.mg_of X G a29)
  cases e
  have F0 := fun_mk (st := s_law_mixed) l0 c0 k0
  have B0 := F0.binds (ps := ["number", "k"]) fun _ _ _ _ _ _ us hl => match us, hl with | [_, _], _ => rfl
  have D_law_mixed : Dn K mg "_law_mixed" s_law_mixed ["number", "k"] f0 _ := ⟨F0, PySem.W.mg_of X G a0, k0, B0⟩
  have F1 := fun_mk (st := s_law_draw) l1 c1 k1
  have B1 := F1.binds (ps := ["draws"]) fun _ _ _ _ _ _ us hl => match us, hl with | [_], _ => rfl
  have D_law_draw : Dn K mg "_law_draw" s_law_draw ["draws"] f1 _ := ⟨F1, PySem.W.mg_of X G a1, k1, B1⟩
  have F2 := fun_mk (st := s_law_good_deal) l2 c2 k2
  have B2 := F2.binds (ps := ["draws", "k"]) fun _ _ _ _ _ _ us hl => match us, hl with | [_, _], _ => rfl
  have D_law_good_deal : Dn K mg "_law_good_deal" s_law_good_deal ["draws", "k"] f2 _ := ⟨F2, PySem.W.mg_of X G a2, k2, B2⟩
  have F3 := fun_mk (st := s_law_rows) l3 c3 k3
  have B3 := F3.binds (ps := ["draws"]) fun _ _ _ _ _ _ us hl => match us, hl with | [_], _ => rfl
  have D_law_rows : Dn K mg "_law_rows" s_law_rows ["draws"] f3 _ := ⟨F3, PySem.W.mg_of X G a3, k3, B3⟩
  have F4 := fun_mk (st := s_law_numbers) l4 c4 k4
  have B4 := F4.binds (ps := ["script"]) fun _ _ _ _ _ _ us hl => match us, hl with | [_], _ => rfl
  have D_law_numbers : Dn K mg "_law_numbers" s_law_numbers ["script"] f4 _ := ⟨F4, PySem.W.mg_of X G a4, k4, B4⟩
  have F5 := fun_mk (st := s_law_bad_deal) l5 c5 k5
  have B5 := F5.binds (ps := ["draws"]) fun _ _ _ _ _ _ us hl => match us, hl with | [_], _ => rfl
  have D_law_bad_deal : Dn K mg "_law_bad_deal" s_law_bad_deal ["draws"] f5 _ := ⟨F5, PySem.W.mg_of X G a5, k5, B5⟩
  have F6 := fun_mk (st := s_law_spoilt_row) l6 c6 k6
  have B6 := F6.binds (ps := ["draws", "row"]) fun _ _ _ _ _ _ us hl => match us, hl with | [_, _], _ => rfl
  have D_law_spoilt_row : Dn K mg "_law_spoilt_row" s_law_spoilt_row ["draws", "row"] f6 _ := ⟨F6, PySem.W.mg_of X G a6, k6, B6⟩
  have F7 := fun_mk (st := s_Record___init__) l7 c7 k7
  have B7 := F7.binds (ps := ["self"]) fun _ _ _ _ _ _ us hl => match us, hl with | [_], _ => rfl
  have D_Record___init__ : Di K C_Record "Record.__init__" s_Record___init__ ["self"] f7 _ := ⟨F7, ⟨mkC_Record, a7, i7, kcC_Record⟩, B7⟩
  have F8 := fun_mk (st := s_is_plain_integer) l8 c8 k8
  have B8 := F8.binds (ps := ["thing"]) fun _ _ _ _ _ _ us hl => match us, hl with | [_], _ => rfl
  have D_is_plain_integer : Dn K mg "is_plain_integer" s_is_plain_integer ["thing"] f8 _ := ⟨F8, PySem.W.mg_of X G a8, k8, B8⟩
  have F9 := fun_mk (st := s_is_value) l9 c9 k9
  have B9 := F9.binds (ps := ["thing"]) fun _ _ _ _ _ _ us hl => match us, hl with | [_], _ => rfl
  have D_is_value : Dn K mg "is_value" s_is_value ["thing"] f9 _ := ⟨F9, PySem.W.mg_of X G a9, k9, B9⟩
  have F10 := fun_mk (st := s_new_value) l10 c10 k10
  have B10 := F10.binds (ps := ["table", "op"]) fun _ _ _ _ _ _ us hl => match us, hl with | [_, _], _ => rfl
  have D_new_value : Dn K mg "new_value" s_new_value ["table", "op"] f10 _ := ⟨F10, PySem.W.mg_of X G a10, k10, B10⟩
  have F11 := fun_mk (st := s_is_failing) l11 c11 k11
  have B11 := F11.binds (ps := ["table", "op"]) fun _ _ _ _ _ _ us hl => match us, hl with | [_, _], _ => rfl
  have D_is_failing : Dn K mg "is_failing" s_is_failing ["table", "op"] f11 _ := ⟨F11, PySem.W.mg_of X G a11, k11, B11⟩
  have F12 := fun_mk (st := s_result_of) l12 c12 k12
  have B12 := F12.binds (ps := ["table", "op"]) fun _ _ _ _ _ _ us hl => match us, hl with | [_, _], _ => rfl
  have D_result_of : Dn K mg "result_of" s_result_of ["table", "op"] f12 _ := ⟨F12, PySem.W.mg_of X G a12, k12, B12⟩
  have F13 := fun_mk (st := s_execute) l13 c13 k13
  have B13 := F13.binds (ps := ["table", "ops"]) fun _ _ _ _ _ _ us hl => match us, hl with | [_, _], _ => rfl
  have D_execute : Dn K mg "execute" s_execute ["table", "ops"] f13 _ := ⟨F13, PySem.W.mg_of X G a13, k13, B13⟩
  have F14 := fun_mk (st := s_are_all_same) l14 c14 k14
  have B14 := F14.binds (ps := ["made", "told"]) fun _ _ _ _ _ _ us hl => match us, hl with | [_, _], _ => rfl
  have D_are_all_same : Dn K mg "are_all_same" s_are_all_same ["made", "told"] f14 _ := ⟨F14, PySem.W.mg_of X G a14, k14, B14⟩
  have F15 := fun_mk (st := s_are_same) l15 c15 k15
  have B15 := F15.binds (ps := ["made", "told"]) fun _ _ _ _ _ _ us hl => match us, hl with | [_, _], _ => rfl
  have D_are_same : Dn K mg "are_same" s_are_same ["made", "told"] f15 _ := ⟨F15, PySem.W.mg_of X G a15, k15, B15⟩
  have F16 := fun_mk (st := s_Record_told) l16 c16 k16
  have B16 := F16.binds (ps := ["self"]) fun _ _ _ _ _ _ us hl => match us, hl with | [_], _ => rfl
  have D_Record_told : Dm K C_Record "told" "Record.told" s_Record_told ["self"] f16 _ := ⟨F16, ⟨a16, i16, k16⟩, B16⟩
  have F17 := fun_mk (st := s_Record_order_behind) l17 c17 k17
  have B17 := F17.binds (ps := ["self", "chosen", "table"]) fun _ _ _ _ _ _ us hl => match us, hl with | [_, _, _], _ => rfl
  have D_Record_order_behind : Dm K C_Record "order_behind" "Record.order_behind" s_Record_order_behind ["self", "chosen", "table"] f17 _ := ⟨F17, ⟨a17, i17, k17⟩, B17⟩
  have F18 := fun_mk (st := s_Asked___init__) l18 c18 k18
  have B18 := F18.binds (ps := ["self", "ops", "earlier"]) fun _ _ _ _ _ _ us hl => match us, hl with | [_, _, _], _ => rfl
  have D_Asked___init__ : Di K C_Asked "Asked.__init__" s_Asked___init__ ["self", "ops", "earlier"] f18 _ := ⟨F18, ⟨mkC_Asked, a18, i18, kcC_Asked⟩, B18⟩
  have F19 := fun_mk (st := s_is_scan) l19 c19 k19
  have B19 := F19.binds (ps := ["low", "high"]) fun _ _ _ _ _ _ us hl => match us, hl with | [_, _], _ => rfl
  have D_is_scan : Dn K mg "is_scan" s_is_scan ["low", "high"] f19 _ := ⟨F19, PySem.W.mg_of X G a19, k19, B19⟩
  have F20 := fun_mk (st := s_is_key) l20 c20 k20
  have B20 := F20.binds (ps := ["thing"]) fun _ _ _ _ _ _ us hl => match us, hl with | [_], _ => rfl
  have D_is_key : Dn K mg "is_key" s_is_key ["thing"] f20 _ := ⟨F20, PySem.W.mg_of X G a20, k20, B20⟩
  have F21 := fun_mk (st := s_is_operation) l21 c21 k21
  have B21 := F21.binds (ps := ["thing"]) fun _ _ _ _ _ _ us hl => match us, hl with | [_], _ => rfl
  have D_is_operation : Dn K mg "is_operation" s_is_operation ["thing"] f21 _ := ⟨F21, PySem.W.mg_of X G a21, k21, B21⟩
  have F22 := fun_mk (st := s_check_deal) l22 c22 k22
  have B22 := F22.binds (ps := ["ops"]) fun _ _ _ _ _ _ us hl => match us, hl with | [_], _ => rfl
  have D_check_deal : Dn K mg "check_deal" s_check_deal ["ops"] f22 _ := ⟨F22, PySem.W.mg_of X G a22, k22, B22⟩
  have F23 := fun_mk (st := s_Record_ask) l23 c23 k23
  have B23 := F23.binds (ps := ["self", "name", "ops"]) fun _ _ _ _ _ _ us hl => match us, hl with | [_, _, _], _ => rfl
  have D_Record_ask : Dm K C_Record "ask" "Record.ask" s_Record_ask ["self", "name", "ops"] f23 _ := ⟨F23, ⟨a23, i23, k23⟩, B23⟩
  have F24 := fun_mk (st := s_Record_tell) l24 c24 k24
  have B24 := F24.binds (ps := ["self", "name", "outcome", "results"]) fun _ _ _ _ _ _ us hl => match us, hl with | [_, _, _, _], _ => rfl
  have D_Record_tell : Dm K C_Record "tell" "Record.tell" s_Record_tell ["self", "name", "outcome", "results"] f24 _ := ⟨F24, ⟨a24, i24, k24⟩, B24⟩
  have F25 := fun_mk (st := s_Record_read) l25 c25 k25
  have B25 := F25.binds (ps := ["self", "event"]) fun _ _ _ _ _ _ us hl => match us, hl with | [_, _], _ => rfl
  have D_Record_read : Dm K C_Record "read" "Record.read" s_Record_read ["self", "event"] f25 _ := ⟨F25, ⟨a25, i25, k25⟩, B25⟩
  have F26 := fun_mk (st := s_judge) l26 c26 k26
  have B26 := F26.binds (ps := ["history"]) fun _ _ _ _ _ _ us hl => match us, hl with | [_], _ => rfl
  have D_judge : Dn K mg "judge" s_judge ["history"] f26 _ := ⟨F26, PySem.W.mg_of X G a26, k26, B26⟩
  have F27 := fun_mk (st := s_law_good_asked) l27 c27 k27
  have B27 := F27.binds (ps := ["row", "asked"]) fun _ _ _ _ _ _ us hl => match us, hl with | [_, _], _ => rfl
  have D_law_good_asked : Dn K mg "_law_good_asked" s_law_good_asked ["row", "asked"] f27 _ := ⟨F27, PySem.W.mg_of X G a27, k27, B27⟩
  have F28 := fun_mk (st := s_law_good) l28 c28 k28
  have B28 := F28.binds (ps := ["rows"]) fun _ _ _ _ _ _ us hl => match us, hl with | [_], _ => rfl
  have D_law_good : Dn K mg "_law_good" s_law_good ["rows"] f28 _ := ⟨F28, PySem.W.mg_of X G a28, k28, B28⟩
  have F29 := fun_mk (st := s_law) l29 c29 k29
  have B29 := F29.binds (ps := ["script"]) fun _ _ _ _ _ _ us hl => match us, hl with | [_], _ => rfl
  have D_law : Dn K mg "law" s_law ["script"] fa _ := ⟨F29, PySem.W.mg_of X G a29, k29, B29⟩
  have T_Record : Tx_Record K mg C_Record := ⟨⟨pgC_Record, hdC_Record, poC_Record, saC_Record⟩, PySem.W.mg_of X G aC_Record, nfC_deals_Record⟩
  have T_Asked : Tx_Asked K mg C_Asked := ⟨⟨pgC_Asked, hdC_Asked, poC_Asked, saC_Asked⟩, PySem.W.mg_of X G aC_Asked, nfC_ops_Asked, nfC_earlier_Asked, nfC_answer_Asked⟩
  have b_len := PySem.W.mg_none_of X G z_len
  have b_range := PySem.W.mg_none_of X G z_range
  have b_list := PySem.W.mg_none_of X G z_list
  have b_str := PySem.W.mg_none_of X G z_str
  have b_isinstance := PySem.W.mg_none_of X G z_isinstance
  have b_bool := PySem.W.mg_none_of X G z_bool
  have b_int := PySem.W.mg_none_of X G z_int
  have b_sorted := PySem.W.mg_none_of X G z_sorted
  have b_dict := PySem.W.mg_none_of X G z_dict
  have b_all := PySem.W.mg_none_of X G z_all
  have b_zip := PySem.W.mg_none_of X G z_zip
  have b_tuple := PySem.W.mg_none_of X G z_tuple
  have x_BadDeal : Xc K mg "BadDeal" A_BadDeal := ⟨PySem.W.mg_of X G aX_BadDeal, xP_BadDeal, kP_BadDeal, bP_BadDeal, tP_BadDeal, hD_BadDeal, sP_BadDeal, hg_BadDeal, hk_BadDeal, ha_BadDeal, hn_BadDeal, ht_BadDeal, hm_BadDeal⟩
  have x_BadHistory : Xc K mg "BadHistory" A_BadHistory := ⟨PySem.W.mg_of X G aX_BadHistory, xP_BadHistory, kP_BadHistory, bP_BadHistory, tP_BadHistory, hD_BadHistory, sP_BadHistory, hg_BadHistory, hk_BadHistory, ha_BadHistory, hn_BadHistory, ht_BadHistory, hm_BadHistory⟩
  have x_BadRecord : Xc K mg "BadRecord" A_BadRecord := ⟨PySem.W.mg_of X G aX_BadRecord, xP_BadRecord, kP_BadRecord, bP_BadRecord, tP_BadRecord, hD_BadRecord, sP_BadRecord, hg_BadRecord, hk_BadRecord, ha_BadRecord, hn_BadRecord, ht_BadRecord, hm_BadRecord⟩
  have x_BadLine : Xc K mg "BadLine" A_BadLine := ⟨PySem.W.mg_of X G aX_BadLine, xP_BadLine, kP_BadLine, bP_BadLine, tP_BadLine, hD_BadLine, sP_BadLine, hg_BadLine, hk_BadLine, ha_BadLine, hn_BadLine, ht_BadLine, hm_BadLine⟩
  have g_LIMIT : ∃ u, mg "LIMIT" = some u ∧ RelV (.int 1000000000000000000) u := ⟨_, PySem.W.mg_of X G q_LIMIT, _, rfl⟩
  have g_SETTING : ∃ u, mg "SETTING" = some u ∧ RelV (.ref e_SETTING) u := ⟨_, PySem.W.mg_of X G q_SETTING, rfl⟩
  have t_SETTING : ∃ o, K.lookup e_SETTING = some o ∧ o.cls = .type "tuple" ∧ o.dict = none := ⟨_, w_SETTING, rfl, rfl⟩
  have k_SETTING : ∀ H, SqT K H e_SETTING [V.str "put", V.str "add"] := fun H => .inr ⟨_, _, _, w_SETTING, rfl, rfl, by show 2 ≤ sizeLine; decide, (.cons ⟨_, rfl⟩ (.cons ⟨_, rfl⟩ .nil))⟩
  have g_KEYS : ∃ u, mg "KEYS" = some u ∧ RelV (.int 1000) u := ⟨_, PySem.W.mg_of X G q_KEYS, _, rfl⟩
  have g_MOST_OPERATIONS : ∃ u, mg "MOST_OPERATIONS" = some u ∧ RelV (.int 6) u := ⟨_, PySem.W.mg_of X G q_MOST_OPERATIONS, _, rfl⟩
  have g_MOST_NAMES : ∃ u, mg "MOST_NAMES" = some u ∧ RelV (.int 7) u := ⟨_, PySem.W.mg_of X G q_MOST_NAMES, _, rfl⟩
  refine ⟨PySem.W.fnOf "law" "law" (defArgs s_law) (defBody s_law) (defScope s_law) .none kV29 dc29 pm29 an29 cd29 ct29, fun s v => .of_eq rfl, fun base hb1 hb2 => ?_⟩
  have c_law_mixed := ok_law_mixed (P := l.prog) (w := w) (base := base) D_law_mixed
  have c_law_draw := ok_law_draw (P := l.prog) (w := w) (base := base) D_law_draw b_len c_law_mixed
  have c_law_good_deal := ok_law_good_deal (P := l.prog) (w := w) (base := base) D_law_good_deal c_law_draw
  have c_law_rows := ok_law_rows (P := l.prog) (w := w) (base := base) D_law_rows b_range b_len c_law_draw c_law_good_deal
  have c_law_numbers := ok_law_numbers (P := l.prog) (w := w) (base := base) D_law_numbers b_range c_law_mixed
  have c_law_bad_deal := ok_law_bad_deal (P := l.prog) (w := w) (base := base) D_law_bad_deal c_law_draw
  have c_law_spoilt_row := ok_law_spoilt_row (P := l.prog) (w := w) (base := base) D_law_spoilt_row b_list b_len b_str c_law_draw c_law_bad_deal
  have c_Record___init__ := ok_Record___init__ (P := l.prog) (w := w) (base := base) T_Record D_Record___init__
  have c_is_plain_integer := ok_is_plain_integer (P := l.prog) (w := w) (base := base) D_is_plain_integer b_isinstance b_bool b_int
  have c_is_value := ok_is_value (P := l.prog) (w := w) (base := base) D_is_value g_LIMIT c_is_plain_integer
  have c_new_value := ok_new_value (P := l.prog) (w := w) (base := base) D_new_value
  have c_is_failing := ok_is_failing (P := l.prog) (w := w) (base := base) D_is_failing c_is_value c_new_value
  have c_result_of := ok_result_of (P := l.prog) (w := w) (base := base) D_result_of b_sorted c_new_value
  have c_execute := ok_execute (P := l.prog) (w := w) (base := base) D_execute b_dict g_SETTING k_SETTING c_new_value c_result_of c_is_failing
  have c_are_same := fun n => ok_same (P := l.prog) (w := w) (base := base) D_are_same D_are_all_same b_isinstance b_list b_tuple b_str b_len b_all b_zip c_is_plain_integer n
  have c_Record_told := ok_Record_told (P := l.prog) (w := w) (base := base) T_Record T_Asked D_Record_told
  have c_Record_order_behind := ok_Record_order_behind (P := l.prog) (w := w) (base := base) T_Record T_Asked D_Record_order_behind b_all (c_are_same 4) c_execute c_Record_told
  have c_Asked___init__ := ok_Asked___init__ (P := l.prog) (w := w) (base := base) T_Asked D_Asked___init__
  have c_is_scan := ok_is_scan (P := l.prog) (w := w) (base := base) D_is_scan g_KEYS c_is_plain_integer
  have c_is_key := ok_is_key (P := l.prog) (w := w) (base := base) D_is_key g_KEYS c_is_plain_integer
  have c_is_operation := ok_is_operation (P := l.prog) (w := w) (base := base) D_is_operation b_len b_isinstance b_str b_tuple c_is_value c_is_key c_is_scan
  have c_check_deal := ok_check_deal (P := l.prog) (w := w) (base := base) D_check_deal b_len b_isinstance b_list g_MOST_OPERATIONS x_BadDeal c_is_operation
  have c_Record_ask := ok_Record_ask (P := l.prog) (w := w) (base := base) T_Record T_Asked D_Record_ask b_len g_MOST_NAMES x_BadHistory x_BadDeal c_Asked___init__ c_Record_told c_check_deal
  have c_Record_tell := ok_Record_tell (P := l.prog) (w := w) (base := base) T_Asked T_Record D_Record_tell x_BadHistory
  have c_Record_read := ok_Record_read (P := l.prog) (w := w) (base := base) T_Record T_Asked D_Record_read b_len b_isinstance b_str b_tuple x_BadHistory c_Record_ask c_Record_tell c_is_plain_integer
  have c_judge := ok_judge (P := l.prog) (w := w) (base := base) T_Record T_Asked D_judge b_isinstance b_list x_BadHistory c_Record_order_behind c_Record_read c_Record___init__
  have c_law_good_asked := ok_law_good_asked (P := l.prog) (w := w) (base := base) D_law_good_asked b_isinstance b_bool b_tuple b_len b_list
  have c_law_good := ok_law_good (P := l.prog) (w := w) (base := base) D_law_good b_len b_isinstance b_bool b_int b_tuple c_law_good_asked
  exact ok_law D_law b_list b_isinstance b_len x_BadHistory x_BadRecord x_BadLine x_BadDeal ki_BadHistory_BadDeal ki_BadHistory_BadLine ki_BadHistory_BadRecord c_law_good c_judge c_law_draw c_law_spoilt_row c_law_rows c_law_numbers
theorem walk {l : PySem.W.OpenLaw} {q : Program} {loose : List Str} {XP : (Str → Option Value) → Heap → Prop} {YP : World → Heap → Prop} {d : DefRec} {K : Params → PySem.W.Frag} (hn : l.most = some 63) (hdf : d.params.defaults = [])
    (hY : ∀ (w : World) (h : Heap), YP w h → (K w.params).In h)
    (F : ∀ (w : World) (mg : Str → Option Value) (fa : Addr) (h : Heap), (K w.params).In h → h.Ns mainGlobals mg → mg d.name = some (.ref fa) →
      ∃ fd : FuncData, (∀ (s : Shared) (u : Value), BindsTo s fd ⟨[u], []⟩ [("script", u)]) ∧ ∀ base : Heap, (K w.params).In base → base.Ns mainGlobals mg → FnOk l.prog w (K w.params) mg base CX0 24 fa fd ["script"] (sp_law (K w.params))) :
    PySem.W.WalkO q loose XP YP l.row.toRowW d [] (fun f vs => PySem.call f vs) :=
  L2.walk_of (n := 63) (k := 24) (x := "script") (CX := fun _ => CX0) (sp := fun w => sp_law (K w.params)) hn (by decide) hdf ⟨rfl, by decide, by decide⟩ hY F (fun _ _ a ns hl _ hS => ⟨a, ns, rfl, hS, hl, fun _ => rfl⟩) fun _ _ _ _ _ z => z
end Nz
open PySem PySem.W PyProof.Rows
set_option maxRecDepth 100000 in
set_option maxHeartbeats 0 in
theorem PySem.Challenge.cw_wholecloth_k64_records_of_deals_are_chec_holds : PySem.Challenge.rw_wholecloth_k64_records_of_deals_are_chec.Holds := by
  w_on; o_law; k_head; (case hw => w_witness2)
  k_fill
  refine Nz.walk (l := PySem.Challenge.rw_wholecloth_k64_records_of_deals_are_chec) rfl rfl (fun w h Y => PySem.W.kIn_of Y) ?F
  case F =>
    intro w mg fa h KX G hmg
    refine' Nz.all_mk KX G hmg ?aC_Record ?pgC_Record ?hdC_Record ?poC_Record ?saC_Record ?kcC_Record ?mkC_Record ?nfC_deals_Record ?aC_Asked ?pgC_Asked ?hdC_Asked ?poC_Asked ?saC_Asked ?kcC_Asked ?mkC_Asked ?nfC_ops_Asked ?nfC_earlier_Asked ?nfC_answer_Asked ?a0 ?l0 ?c0 ?k0 ?a1 ?l1 ?c1 ?k1 ?a2 ?l2 ?c2 ?k2 ?a3 ?l3 ?c3 ?k3 ?a4 ?l4 ?c4 ?k4 ?a5 ?l5 ?c5 ?k5 ?a6 ?l6 ?c6 ?k6 ?a7 ?i7 ?l7 ?c7 ?k7 ?a8 ?l8 ?c8 ?k8 ?a9 ?l9 ?c9 ?k9 ?a10 ?l10 ?c10 ?k10 ?a11 ?l11 ?c11 ?k11 ?a12 ?l12 ?c12 ?k12 ?a13 ?l13 ?c13 ?k13 ?a14 ?l14 ?c14 ?k14 ?a15 ?l15 ?c15 ?k15 ?a16 ?i16 ?l16 ?c16 ?k16 ?a17 ?i17 ?l17 ?c17 ?k17 ?a18 ?i18 ?l18 ?c18 ?k18 ?a19 ?l19 ?c19 ?k19 ?a20 ?l20 ?c20 ?k20 ?a21 ?l21 ?c21 ?k21 ?a22 ?l22 ?c22 ?k22 ?a23 ?i23 ?l23 ?c23 ?k23 ?a24 ?i24 ?l24 ?c24 ?k24 ?a25 ?i25 ?l25 ?c25 ?k25 ?a26 ?l26 ?c26 ?k26 ?a27 ?l27 ?c27 ?k27 ?a28 ?l28 ?c28 ?k28 ?a29 ?l29 ?c29 ?k29 ?z_len ?z_range ?z_list ?z_str ?z_isinstance ?z_bool ?z_int ?z_sorted ?z_dict ?z_all ?z_zip ?z_tuple ?aX_BadDeal ?xP_BadDeal ?kP_BadDeal ?bP_BadDeal ?tP_BadDeal ?hD_BadDeal ?sP_BadDeal ?hg_BadDeal ?hk_BadDeal ?ha_BadDeal ?hn_BadDeal ?ht_BadDeal ?hm_BadDeal ?aX_BadHistory ?xP_BadHistory ?kP_BadHistory ?bP_BadHistory ?tP_BadHistory ?hD_BadHistory ?sP_BadHistory ?hg_BadHistory ?hk_BadHistory ?ha_BadHistory ?hn_BadHistory ?ht_BadHistory ?hm_BadHistory ?aX_BadRecord ?xP_BadRecord ?kP_BadRecord ?bP_BadRecord ?tP_BadRecord ?hD_BadRecord ?sP_BadRecord ?hg_BadRecord ?hk_BadRecord ?ha_BadRecord ?hn_BadRecord ?ht_BadRecord ?hm_BadRecord ?aX_BadLine ?xP_BadLine ?kP_BadLine ?bP_BadLine ?tP_BadLine ?hD_BadLine ?sP_BadLine ?hg_BadLine ?hk_BadLine ?ha_BadLine ?hn_BadLine ?ht_BadLine ?hm_BadLine ?ki_BadHistory_BadDeal ?ki_BadHistory_BadLine ?ki_BadHistory_BadRecord ?q_LIMIT ?q_SETTING ?w_SETTING ?q_KEYS ?q_MOST_OPERATIONS ?q_MOST_NAMES
    (case aC_Record => k_is)
    (case pgC_Record => k_is)
    (case hdC_Record => k_is)
    (case poC_Record => k_is)
    (case saC_Record => k_is)
    (case kcC_Record => k_is)
    (case mkC_Record => k_is)
    (case nfC_deals_Record => k_is)
    (case aC_Asked => k_is)
    (case pgC_Asked => k_is)
    (case hdC_Asked => k_is)
    (case poC_Asked => k_is)
    (case saC_Asked => k_is)
    (case kcC_Asked => k_is)
    (case mkC_Asked => k_is)
    (case nfC_ops_Asked => k_is)
    (case nfC_earlier_Asked => k_is)
    (case nfC_answer_Asked => k_is)
    (case a0 => k_is)
    (case l0 => k_is)
    (case c0 => k_is)
    (case k0 => k_is)
    (case a1 => k_is)
    (case l1 => k_is)
    (case c1 => k_is)
    (case k1 => k_is)
    (case a2 => k_is)
    (case l2 => k_is)
    (case c2 => k_is)
    (case k2 => k_is)
    (case a3 => k_is)
    (case l3 => k_is)
    (case c3 => k_is)
    (case k3 => k_is)
    (case a4 => k_is)
    (case l4 => k_is)
    (case c4 => k_is)
    (case k4 => k_is)
    (case a5 => k_is)
    (case l5 => k_is)
    (case c5 => k_is)
    (case k5 => k_is)
    (case a6 => k_is)
    (case l6 => k_is)
    (case c6 => k_is)
    (case k6 => k_is)
    (case a7 => k_is)
    (case i7 => k_is)
    (case l7 => k_is)
    (case c7 => k_is)
    (case k7 => k_is)
    (case a8 => k_is)
    (case l8 => k_is)
    (case c8 => k_is)
    (case k8 => k_is)
    (case a9 => k_is)
    (case l9 => k_is)
    (case c9 => k_is)
    (case k9 => k_is)
    (case a10 => k_is)
    (case l10 => k_is)
    (case c10 => k_is)
    (case k10 => k_is)
    (case a11 => k_is)
    (case l11 => k_is)
    (case c11 => k_is)
    (case k11 => k_is)
    (case a12 => k_is)
    (case l12 => k_is)
    (case c12 => k_is)
    (case k12 => k_is)
    (case a13 => k_is)
    (case l13 => k_is)
    (case c13 => k_is)
    (case k13 => k_is)
    (case a14 => k_is)
    (case l14 => k_is)
    (case c14 => k_is)
    (case k14 => k_is)
    (case a15 => k_is)
    (case l15 => k_is)
    (case c15 => k_is)
    (case k15 => k_is)
    (case a16 => k_is)
    (case i16 => k_is)
    (case l16 => k_is)
    (case c16 => k_is)
    (case k16 => k_is)
    (case a17 => k_is)
    (case i17 => k_is)
    (case l17 => k_is)
    (case c17 => k_is)
    (case k17 => k_is)
    (case a18 => k_is)
    (case i18 => k_is)
    (case l18 => k_is)
    (case c18 => k_is)
    (case k18 => k_is)
    (case a19 => k_is)
    (case l19 => k_is)
    (case c19 => k_is)
    (case k19 => k_is)
    (case a20 => k_is)
    (case l20 => k_is)
    (case c20 => k_is)
    (case k20 => k_is)
    (case a21 => k_is)
    (case l21 => k_is)
    (case c21 => k_is)
    (case k21 => k_is)
    (case a22 => k_is)
    (case l22 => k_is)
    (case c22 => k_is)
    (case k22 => k_is)
    (case a23 => k_is)
    (case i23 => k_is)
    (case l23 => k_is)
    (case c23 => k_is)
    (case k23 => k_is)
    (case a24 => k_is)
    (case i24 => k_is)
    (case l24 => k_is)
    (case c24 => k_is)
    (case k24 => k_is)
    (case a25 => k_is)
    (case i25 => k_is)
    (case l25 => k_is)
    (case c25 => k_is)
    (case k25 => k_is)
    (case a26 => k_is)
    (case l26 => k_is)
    (case c26 => k_is)
    (case k26 => k_is)
    (case a27 => k_is)
    (case l27 => k_is)
    (case c27 => k_is)
    (case k27 => k_is)
    (case a28 => k_is)
    (case l28 => k_is)
    (case c28 => k_is)
    (case k28 => k_is)
    (case a29 => k_is)
    (case l29 => k_is)
    (case c29 => k_is)
    (case k29 => k_is)
    (case z_len => k_is)
    (case z_range => k_is)
    (case z_list => k_is)
    (case z_str => k_is)
    (case z_isinstance => k_is)
    (case z_bool => k_is)
    (case z_int => k_is)
    (case z_sorted => k_is)
    (case z_dict => k_is)
    (case z_all => k_is)
    (case z_zip => k_is)
    (case z_tuple => k_is)
    (case aX_BadDeal => k_is)
    (case xP_BadDeal => k_exc)
    (case kP_BadDeal => k_is)
    (case bP_BadDeal => k_is)
    (case tP_BadDeal => k_is)
    (case hD_BadDeal => k_is)
    (case sP_BadDeal => first | rfl | k_is)
    (case hg_BadDeal => k_is)
    (case hk_BadDeal => k_is)
    (case ha_BadDeal => k_is)
    (case hn_BadDeal => k_is)
    (case ht_BadDeal => k_is)
    (case hm_BadDeal => k_is)
    (case aX_BadHistory => k_is)
    (case xP_BadHistory => k_exc)
    (case kP_BadHistory => k_is)
    (case bP_BadHistory => k_is)
    (case tP_BadHistory => k_is)
    (case hD_BadHistory => k_is)
    (case sP_BadHistory => first | rfl | k_is)
    (case hg_BadHistory => k_is)
    (case hk_BadHistory => k_is)
    (case ha_BadHistory => k_is)
    (case hn_BadHistory => k_is)
    (case ht_BadHistory => k_is)
    (case hm_BadHistory => k_is)
    (case aX_BadRecord => k_is)
    (case xP_BadRecord => k_exc)
    (case kP_BadRecord => k_is)
    (case bP_BadRecord => k_is)
    (case tP_BadRecord => k_is)
    (case hD_BadRecord => k_is)
    (case sP_BadRecord => first | rfl | k_is)
    (case hg_BadRecord => k_is)
    (case hk_BadRecord => k_is)
    (case ha_BadRecord => k_is)
    (case hn_BadRecord => k_is)
    (case ht_BadRecord => k_is)
    (case hm_BadRecord => k_is)
    (case aX_BadLine => k_is)
    (case xP_BadLine => k_exc)
    (case kP_BadLine => k_is)
    (case bP_BadLine => k_is)
    (case tP_BadLine => k_is)
    (case hD_BadLine => k_is)
    (case sP_BadLine => first | rfl | k_is)
    (case hg_BadLine => k_is)
    (case hk_BadLine => k_is)
    (case ha_BadLine => k_is)
    (case hn_BadLine => k_is)
    (case ht_BadLine => k_is)
    (case hm_BadLine => k_is)
    (case ki_BadHistory_BadDeal => refine Nz.kit_no (by first | rfl | decide) ?_ ?_ ?_ <;> k_is)
    (case ki_BadHistory_BadLine => refine Nz.kit_no (by first | rfl | decide) ?_ ?_ ?_ <;> k_is)
    (case ki_BadHistory_BadRecord => refine Nz.kit_no (by first | rfl | decide) ?_ ?_ ?_ <;> k_is)
    (case q_LIMIT => k_is)
    (case q_SETTING => k_is)
    (case w_SETTING => k_is)
    (case q_KEYS => k_is)
    (case q_MOST_OPERATIONS => k_is)
    (case q_MOST_NAMES => k_is)
