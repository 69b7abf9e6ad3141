import PyProof.Rows.All
import Wide.All
import OpenK.AllK
import Wide.FinOn
import HandS.ForMost
import HandS.IsInst
import HandS.TupAny
import HandS.Flow
import HandS.SortInts
import HandS.More
import HandS.Exc
import HandS.TryOnly
import HandS.ExcOwn
import HandS.WordsExc
import HandS.ExcIs
import HandS.Strs
import HandS.SetBool
import HandS.TupSets
import HandS.SetFor
import HandS.Deep
import HandS.Property
import HandS.Zip
import HandS.SortKw
import HandS.Defaults
import KE.DataMinMax
import KE.SortData
import KE.DatumOrd
import PySem.Challenge.RW_wholecloth_k04_spans_and_changes
set_option Elab.async false
set_option linter.all false
set_option maxRecDepth 100000
set_option maxHeartbeats 4000000
/-! The walk's own layer: M (what is owned and may change), G (what stands for good), H (both). -/
namespace Nz
open PySem L2 PySem.Spec PyProof.Rows

/-! ### heaps -/
abbrev Ex (G G' : Hp) : Prop := Same G G'
structure J (M G H : Hp) : Prop where
  m : Same M H
  g : Same G H
  d : ∀ a o, M a = some o → G a = none
theorem upd_ne' {H : Hp} {a b : Addr} {o u : HO} (e : H b = some u) (h : b ≠ a) : upd H a o b = some u := by rw [upd_ne h]; exact e
theorem Ex.new {G : Hp} {t : Addr} {o : HO} (h : G t = none) : Ex G (upd G t o) := fun a u e => by
  rw [upd_ne (ne_of_none e h)]; exact e
section
variable {M G H : Hp} {t d : Addr} {o o' : HO}
theorem J.freeM (j : J M G H) (h : H t = none) : M t = none := j.m.free h
theorem J.freeG (j : J M G H) (h : H t = none) : G t = none := j.g.free h
theorem J.newG (j : J M G H) (h : H t = none) : J M (upd G t o) (upd H t o) where
  m := fun a u e => by rw [upd_ne (ne_of_none (j.m a u e) h)]; exact j.m a u e
  g := fun a u e => by
    by_cases q : a = t
    · subst q; rw [upd_same] at e ⊢; exact e
    · rw [upd_ne q] at e ⊢; exact j.g a u e
  d := fun a u e => by rw [upd_ne (ne_of_none (j.m a u e) h)]; exact j.d a u e
theorem J.newM (j : J M G H) (h : H t = none) : J (upd M t o) G (upd H t o) where
  g := fun a u e => by rw [upd_ne (ne_of_none (j.g a u e) h)]; exact j.g a u e
  m := fun a u e => by
    by_cases q : a = t
    · subst q; rw [upd_same] at e ⊢; exact e
    · rw [upd_ne q] at e ⊢; exact j.m a u e
  d := fun a u e => by
    by_cases q : a = t
    · subst q; exact j.freeG h
    · rw [upd_ne q] at e; exact j.d a u e
theorem J.put (j : J M G H) (h : M t = some o) : J (upd M t o') G (upd H t o') where
  g := fun a u e => by
    have q : a ≠ t := fun z => by subst z; rw [j.d a o h] at e; cases e
    rw [upd_ne q]; exact j.g a u e
  m := fun a u e => by
    by_cases q : a = t
    · subst q; rw [upd_same] at e ⊢; exact e
    · rw [upd_ne q] at e ⊢; exact j.m a u e
  d := fun a u e => by
    by_cases q : a = t
    · subst q; exact j.d a o h
    · rw [upd_ne q] at e; exact j.d a u e
theorem J.freeze (j : J (upd M t o) G H) (h : M t = none) : J M (upd G t o) H where
  m := fun a u e => j.m a u (by rw [upd_ne (ne_of_none e h)]; exact e)
  g := fun a u e => by
    by_cases q : a = t
    · subst q; rw [upd_same] at e; cases e; exact j.m a _ upd_same
    · rw [upd_ne q] at e; exact j.g a u e
  d := fun a u e => by
    have q : a ≠ t := ne_of_none e h
    rw [upd_ne q]; exact j.d a u (by rw [upd_ne q]; exact e)
theorem J.freezeG (j : J (upd M t o) G H) : G t = none := j.d t o upd_same
theorem J.ex (j : J M G H) {H' : Hp} (e : Same H H') : J M G H' := ⟨j.m.trans e, j.g.trans e, j.d⟩
theorem J.start (H : Hp) : J (fun _ => none) H H := ⟨fun _ _ e => (nomatch e), Same.refl H, fun _ _ e => (nomatch e)⟩
end

/-! ### reading along -/
theorem rd_same {G G' : Hp} {a : Addr} {u : HO} (e : Same G G') (h : Rd G a u) : Rd G' a u := by
  rcases h with h | ⟨o, h⟩
  · exact .inl (e a _ h)
  · exact .inr ⟨o, e a _ h⟩
section
variable {K : PySem.W.Frag} {G G' : Hp} {a : Addr} {xs : List V}
theorem sl_of (h : G a = some (.lst xs)) : SqL K G a xs := .inl (.inl h)
theorem st_of (h : G a = some (.tup xs)) : SqT K G a xs := .inl (.inl h)
theorem sl_mono (e : Same G G') (h : SqL K G a xs) : SqL K G' a xs := h.elim (fun h => .inl (rd_same e h)) .inr
theorem st_mono (e : Same G G') (h : SqT K G a xs) : SqT K G' a xs := h.elim (fun h => .inl (rd_same e h)) .inr
end

/-! ### M but for one cell -/
def Ag (p : Addr) (M M' : Hp) : Prop := ∀ b, b ≠ p → M' b = M b
theorem Ag.refl (p : Addr) (M : Hp) : Ag p M M := fun _ _ => rfl
theorem Ag.trans {p : Addr} {M M1 M2 : Hp} (a : Ag p M M1) (b : Ag p M1 M2) : Ag p M M2 := fun c h => (b c h).trans (a c h)
theorem Ag.upd {p : Addr} {M : Hp} {o : HO} : Ag p M (upd M p o) := fun _ h => upd_ne h

/-- M without a cell -/
def del (M : Hp) (L : Addr) : Hp := fun b => if b = L then none else M b
theorem del_same {M : Hp} {L : Addr} : del M L L = none := by unfold del; rw [if_pos rfl]
theorem del_ne {M : Hp} {L b : Addr} (h : b ≠ L) : del M L b = M b := by unfold del; rw [if_neg h]
theorem J.seal {M G H : Hp} {L : Addr} {o : HO} (j : J M G H) (h : M L = some o) : J (del M L) (upd G L o) H where
  m := fun a u e => by
    by_cases q : a = L
    · subst q; rw [del_same] at e; cases e
    · rw [del_ne q] at e; exact j.m a u e
  g := fun a u e => by
    by_cases q : a = L
    · subst q; rw [upd_same] at e; cases e; exact j.m _ _ h
    · rw [upd_ne q] at e; exact j.g a u e
  d := fun a u e => by
    by_cases q : a = L
    · subst q; rw [del_same] at e; cases e
    · rw [del_ne q] at e; rw [upd_ne q]; exact j.d a u e
theorem J.out {M G H : Hp} {L : Addr} {o : HO} (j : J M G H) (h : M L = some o) : G L = none := j.d L o h
theorem J.drop {M G H : Hp} (L : Addr) (j : J M G H) : J (del M L) G H where
  m := fun a u e => by
    by_cases q : a = L
    · subst q; rw [del_same] at e; cases e
    · rw [del_ne q] at e; exact j.m a u e
  g := j.g
  d := fun a u e => by
    by_cases q : a = L
    · subst q; rw [del_same] at e; cases e
    · rw [del_ne q] at e; exact j.d a u e
/-- what stood for good is owned again, where G0 knew nothing of it -/
theorem J.thaw {M G G0 H : Hp} {b : Addr} {u : HO} (j : J M G H) (e : Ex G0 G) (h : G b = some u) (hb : G0 b = none) : J (upd M b u) G0 H where
  m := fun a x q => by
    by_cases z : a = b
    · subst z; rw [upd_same] at q; cases q; exact j.g _ _ h
    · rw [upd_ne z] at q; exact j.m a x q
  g := fun a x q => j.g a x (e a x q)
  d := fun a x q => by
    by_cases z : a = b
    · subst z; exact hb
    · rw [upd_ne z] at q
      cases r : G0 a with
      | none => rfl
      | some y => have := j.d a x q; rw [e a y r] at this; cases this
theorem J.less {M G G0 H : Hp} (j : J M G H) (e : Ex G0 G) : J M G0 H where
  m := j.m
  g := fun a x q => j.g a x (e a x q)
  d := fun a x q => by
    cases r : G0 a with
    | none => rfl
    | some y => have := j.d a x q; rw [e a y r] at this; cases this
theorem J.own {M G H : Hp} {b : Addr} {u : HO} (j : J M G H) (h : H b = some u) (hb : G b = none) : J (upd M b u) G H where
  m := fun a x q => by
    by_cases z : a = b
    · subst z; rw [upd_same] at q; cases q; exact h
    · rw [upd_ne z] at q; exact j.m a x q
  g := j.g
  d := fun a x q => by
    by_cases z : a = b
    · subst z; exact hb
    · rw [upd_ne z] at q; exact j.d a x q
/-- M but for two cells -/
def Ag2 (p L : Addr) (M M' : Hp) : Prop := ∀ b, b ≠ p → b ≠ L → M' b = M b
theorem Ag2.refl (p L : Addr) (M : Hp) : Ag2 p L M M := fun _ _ _ => rfl
theorem Ag2.upd {p L : Addr} {M M' : Hp} {o : HO} (h : Ag2 p L M M') : Ag2 p L M (upd M' L o) := fun b h1 h2 => (upd_ne h2).trans (h b h1 h2)
theorem Ag2.ag {p L : Addr} {M M1 M2 : Hp} (h : Ag2 p L M M1) (a : Ag p M1 M2) : Ag2 p L M M2 := fun b h1 h2 => (a b h1).trans (h b h1 h2)
theorem Ag2.del {p L : Addr} {M M' : Hp} (h : Ag2 p L M M') (n : M L = none) : Ag p M (del M' L) := fun b h1 => by
  by_cases q : b = L
  · subst q; rw [del_same, n]
  · rw [del_ne q]; exact h b h1 q
theorem Ag.del_eq {L : Addr} {M M2 : Hp} (a : Ag L M M2) (n : M L = none) : del M2 L = M := by
  funext b
  by_cases q : b = L
  · subst q; rw [del_same, n]
  · rw [del_ne q]; exact a b q
theorem Ag.at {p b : Addr} {M M' : Hp} {o : HO} (a : Ag p M M') (e : M b = some o) (h : b ≠ p) : M' b = some o := (a b h).trans e

/-! ### promises: al: what is known of the arguments, then J; the end likewise -/
def Sg {α : Type} (pre : α → List V → Hp → Hp → Prop) (post : α → Hp → Hp → V → Hp → Hp → Prop) : Sp := fun vs H Q _ =>
  ∃ a M G, J M G H ∧ pre a vs M G ∧ ∀ v M' G' H', J M' G' H' → Ex G G' → post a M G v M' G' → Q v H'
theorem w_sg {α : Type} {pre : α → List V → Hp → Hp → Prop} {post : α → Hp → Hp → V → Hp → Hp → Prop} {vs : List V} {M G H : Hp} {Q : VK} {E : XK} (a : α) (j : J M G H) (hp : pre a vs M G)
    (k : ∀ v M' G' H', J M' G' H' → Ex G G' → post a M G v M' G' → Q v H') : Sg pre post vs H Q E := ⟨a, M, G, j, hp, k⟩

/-! ### a def under its name -/
structure Dn (K : PySem.W.Frag) (mg : Str → Option Value) (x : Str) (st : Stmt) (ps : List Str) (f : Addr) (fd : FuncData) : Prop where
  fn : Fun K x x st f fd
  mgf : mg x = some (.ref f)
  kp : PySem.W.keepIn K (.ref f) = true
  bn : Binds K fd ps []
structure Cal (P : Program) (w : World) (K : PySem.W.Frag) (mg : Str → Option Value) (base : Heap) (CX : CXT) (k : Nat) (x : Str) (sp : Sp) : Prop where
  ex : ∃ (f : Addr) (fd : FuncData) (ps : List Str), FnOk P w K mg base CX k f fd ps sp ∧ mg x = some (.ref f) ∧ PySem.W.keepIn K (.ref f) = true ∧ Binds K fd ps []
section
variable {P : Program} {w : World} {K : PySem.W.Frag} {mg : Str → Option Value} {base : Heap} {CX : CXT}
theorem Dn.cal {x : Str} {st : Stmt} {ps : List Str} {f : Addr} {fd : FuncData} {k : Nat} {sp : Sp} (D : Dn K mg x st ps f fd) (F : FnOk P w K mg base CX k f fd ps sp) : Cal P w K mg base CX k x sp := ⟨f, fd, ps, F, D.mgf, D.kp, D.bn⟩
theorem Cal.mono {x : Str} {j k : Nat} {sp : Sp} (c : Cal P w K mg base CX j x sp) (h : j ≤ k) : Cal P w K mg base CX k x sp := by
  obtain ⟨f, fd, ps, F, a, b, d⟩ := c.ex
  exact ⟨f, fd, ps, F.mono h, a, b, d⟩
/-- a def that lets nothing out: its body -/
theorem Dn.ok {x : Str} {st : Stmt} {ps : List Str} {f : Addr} {fd : FuncData} {N : List Str} {k : Nat} {sp : Sp} (D : Dn K mg x st ps f fd) (S : FnScope N ps (defScope st)) (len : ∀ vs H Q E, sp vs H Q E → vs.length = ps.length)
    (hbody : ∀ (cdv : Value) (A : Around) (outer : List Env) (s : Shared) (H : Hp) (vs : List V) (Q : VK) (E : XK), Room k (A.deeper (envOfC x (defScope st) s.heap.objs.size f cdv)) → sp vs H Q E →
      ∃ t, PSs (cxOf CX0 P w K mg base N x (defScope st) f cdv A outer s H E).nox (defBody st) t ∧ t { nx := fun _ H' => Q .non H', rt := Q } (start N vs) H) : Cal P w K mg base CX0 (k + 1) x sp :=
  D.cal (D.fn.ok S len hbody)
end
section
variable {X : Cx} {CX : CXT} {k j : Nat} {x : Str} {sp : Sp} {p pos : Pos} {e : Expr} {es : List Expr} {t : TA} {E : XK}
theorem pe_cal (c : Cal X.prog X.w X.K X.mg X.base CX0 k x sp) (hr : Room j X.A) (hk : k ≤ j) (hg : Gl X x) (ha : PA X (e :: es) t)
    (hdb : (x == ("__debug__" : Str)) = false := by decide) (he : starEach (e :: es) X.env = (false, eval e X.env) :: starEach es X.env := by rfl) (hpl : (backTo pos (starEach es X.env)).any (·.1) = false := by rfl) :
    PE X (.Call (.Name x p) (e :: es) [] pos) (tCall sp [] E0 t) := by
  obtain ⟨f, fd, ps, F, hm, kp, b⟩ := c.ex
  exact pe_call F (hr.mono hk) hg hm kp b .nil pass0 ha hdb he hpl
theorem pe_cal0 (c : Cal X.prog X.w X.K X.mg X.base CX0 k x sp) (hr : Room j X.A) (hk : k ≤ j) (hg : Gl X x)
    (hdb : (x == ("__debug__" : Str)) = false := by decide) : PE X (.Call (.Name x p) [] [] pos) (tCall sp [] E0 tNil) := by
  obtain ⟨f, fd, ps, F, hm, kp, b⟩ := c.ex
  exact pe_call0 F (hr.mono hk) hg hm kp b .nil pass0 hdb
/-! ### operators whatever their operands are -/
def uAdd (K : PySem.W.Frag) : R2 := fun x y H Q => rI0 (fun i j => .int (i + j)) x y H Q ∨ (rCat x y H Q ∨ rCatA K x y H Q)
theorem op_uAdd : OpR X (binaryOp .Add) (uAdd X.K) := op_add.or (op_cat.or op_catA)
def uEq (K : PySem.W.Frag) : R2 := fun x y H Q => rEq x y H Q ∨ rEqD K x y H Q
theorem op_uEq (hr : Room j X.A) : OpR X (compareOp .Eq) (uEq X.K) := op_eq.or (op_eqD hr.units)
def uNe (K : PySem.W.Frag) : R2 := fun x y H Q => rNe x y H Q ∨ rNeD K x y H Q
theorem op_uNe (hr : Room j X.A) : OpR X (compareOp .NotEq) (uNe X.K) := op_ne.or (op_neD hr.units)
def uIx (K : PySem.W.Frag) : R2 := fun x y H Q => rIxL K x y H Q ∨ rIxT K x y H Q
theorem ix_u : IxR X (uIx X.K) := ix_list.or ix_tup
def uSl (K : PySem.W.Frag) : V → Option Int → Option Int → Hp → VK → Prop := fun x lo hi H Q => rSlL K x lo hi H Q ∨ rSlA K x lo hi H Q
theorem sl_u : SlR X (uSl X.K) := sl_list.or sl_tupA
def uMul : R2 := fun x y H Q => rI CMul (fun i j => .int (i * j)) x y H Q ∨ rRep x y H Q
theorem op_uMul : OpR X (binaryOp .Mult) uMul := op_mul.or op_rep
def uLen (K : PySem.W.Frag) : List V → Hp → VK → Prop := fun xs H Q => (∃ p ys, xs = [.ref p] ∧ (SqL K H p ys ∨ SqT K H p ys) ∧ Q (.int ys.length) H) ∨ (∃ a kvs, xs = [V.ref a] ∧ H a = some (.dK kvs) ∧ Q (.int kvs.length) H)
theorem call_uLen : CallR X (.builtin "len") (uLen X.K) := call_len_seq.or call_lenD
end

theorem bt_int : bootBuiltins "int" = some (.type "int") := by decide +kernel
theorem bt_str : bootBuiltins "str" = some (.type "str") := by decide +kernel
theorem bt_bool : bootBuiltins "bool" = some (.type "bool") := by decide +kernel
theorem bt_list : bootBuiltins "list" = some (.type "list") := by decide +kernel
theorem bt_tuple : bootBuiltins "tuple" = some (.type "tuple") := by decide +kernel
theorem bt_dict : bootBuiltins "dict" = some (.type "dict") := by decide +kernel
theorem bt_set : bootBuiltins "set" = some (.type "set") := by decide +kernel
theorem bt_isinstance : bootBuiltins "isinstance" = some (.builtin "isinstance") := by decide +kernel
theorem bt_min : bootBuiltins "min" = some (.builtin "min") := by decide +kernel
theorem bt_max : bootBuiltins "max" = some (.builtin "max") := by decide +kernel
theorem bt_sorted : bootBuiltins "sorted" = some (.builtin "sorted") := by decide +kernel
theorem bt_sum : bootBuiltins "sum" = some (.builtin "sum") := by decide +kernel
theorem bt_abs : bootBuiltins "abs" = some (.builtin "abs") := by decide +kernel
theorem pe_gk {X : Cx} {x : Str} {pos : Pos} {v : V} (hg : Gl X x) (h : ∃ u, X.mg x = some u ∧ RelV v u) (hd : (x == ("__debug__" : Str)) = false := by decide) : PE X (.Name x pos) (tC v) := by
  obtain ⟨u, hm, r⟩ := h
  exact pe_glob hg hm r hd

section
variable {X : Cx} {j : Nat} {K : PySem.W.Frag}
theorem op_uAddK (h : X.K = K) : OpR X (binaryOp .Add) (uAdd K) := h ▸ op_uAdd
theorem op_uEqK (h : X.K = K) (hr : Room j X.A) : OpR X (compareOp .Eq) (uEq K) := h ▸ op_uEq hr
theorem op_uNeK (h : X.K = K) (hr : Room j X.A) : OpR X (compareOp .NotEq) (uNe K) := h ▸ op_uNe hr
theorem ix_uK (h : X.K = K) : IxR X (uIx K) := h ▸ ix_u
theorem sl_uK (h : X.K = K) : SlR X (uSl K) := h ▸ sl_u
theorem call_uLenK (h : X.K = K) : CallR X (.builtin "len") (uLen K) := h ▸ call_uLen
theorem call_isiK' (h : X.K = K) : CallR X (.builtin "isinstance") (rIsi K) := h ▸ call_isi
theorem op_inK (h : X.K = K) : OpR X (compareOp .In) (rIn K false) := h ▸ op_in_seq
theorem op_notInK (h : X.K = K) : OpR X (compareOp .NotIn) (rIn K true) := h ▸ op_notIn_seq
end

/-! ### the steps -/
section
variable {K : PySem.W.Frag} {M G H : Hp} {σ : L2.St} {i : Nat} {v x y : V} {ta tb tc te : TE} {r r' : R2} {Q : VK} {D : Ends} {t u : TS} {c c' : TT} {QB : Bool → Hp → Prop} {g : TG} {a b p : Addr} {xs ys : List V} {m n : Int} {QL : List V → Hp → Prop}
theorem w_var (h : σ[i]? = some (some v)) (q : Q v H) : tVar i σ H Q := ⟨v, h, q⟩
theorem w_c (q : Q v H) : tC v σ H Q := q
theorem w_op (h : ta σ H fun x H1 => tb σ H1 fun y H2 => r x y H2 Q) : tOp r ta tb σ H Q := h
theorem w_un {r : V → Hp → VK → Prop} (h : ta σ H fun x H1 => r x H1 Q) : tUn r ta σ H Q := h
theorem w_chain (h : ta σ H fun x H1 => tb σ H1 fun y H2 => r x y H2 fun z H3 => ∃ k, z = .bl k ∧ (if k = true then tc σ H3 fun w' H4 => r' y w' H4 Q else Q (.bl false) H3)) : tChain r r' ta tb tc σ H Q := h
theorem w_test (h : ta σ H fun x H' => ∃ k, x = .bl k ∧ QB k H') : tTest ta σ H QB := h
theorem w_tB (h : ta σ H fun x H' => ∃ k, x = .bl k ∧ QB k H') : tB ta σ H QB := h
theorem w_bl {P : Bool → Prop} {b : Bool} (q : P b) : ∃ k, V.bl b = .bl k ∧ P k := ⟨b, rfl, q⟩
theorem w_and (h : c σ H fun k H1 => if k = true then c' σ H1 QB else QB false H1) : tAnd c c' σ H QB := h
theorem w_or (h : c σ H fun k H1 => if k = true then QB true H1 else c' σ H1 QB) : tOr c c' σ H QB := h
theorem w_not (h : c σ H fun k H1 => QB (!k) H1) : tNot c σ H QB := h
theorem w_andV (h : ta σ H fun x H1 => ∃ k, x = .bl k ∧ if k = true then tb σ H1 Q else Q (.bl false) H1) : tAndV ta tb σ H Q := h
theorem w_orV (h : ta σ H fun x H1 => ∃ k, x = .bl k ∧ if k = true then Q (.bl true) H1 else tb σ H1 Q) : tOrV ta tb σ H Q := h
theorem w_notV (h : ta σ H fun x H1 => ∃ k, x = .bl k ∧ Q (.bl (!k)) H1) : tNotV ta σ H Q := h
theorem w_ifE (h : c σ H fun k H1 => if k = true then ta σ H1 Q else tb σ H1 Q) : tIf c ta tb σ H Q := h
theorem w_isN (h : ta σ H fun x H1 => Q (.bl (decide (x = .non))) H1) : tIsN ta σ H Q := h
theorem w_notN (h : ta σ H fun x H1 => Q (.bl (!decide (x = .non))) H1) : tNotN ta σ H Q := h
/- statements -/
theorem w_seq (h : t { D with nx := u D } σ H) : tSeq t u D σ H := h
theorem w_next (h : D.nx σ H) : tNext D σ H := h
theorem w_ret (h : te σ H D.rt) : tRet te D σ H := h
theorem w_retN (h : D.rt .non H) : tRetN D σ H := h
theorem w_if (h : c σ H fun b H1 => if b = true then t D σ H1 else u D σ H1) : tIfS c t u D σ H := h
theorem w_asg (h : te σ H fun x H1 => g x σ H1 D.nx) : tAsg te g D σ H := h
theorem w_drop (h : te σ H fun _ H1 => D.nx σ H1) : tDrop te D σ H := h
theorem w_gName {R : L2.St → Hp → Prop} (h : R (σ.set i (some v)) H) : gName i v σ H R := h
theorem w_gSub {s : TSet} {to ti : TE} {R : L2.St → Hp → Prop} (h : to σ H fun o H1 => ti σ H1 fun i H2 => s o i v H2 fun H3 => R σ H3) : gSub to ti s v σ H R := h
theorem w_gTup {gs : TGs} {R : L2.St → Hp → Prop} (j : J M G H) (h : SqT K G a xs) (l : xs.length = i) (q : gs xs σ H R) : gTup K i gs (.ref a) σ H R := ⟨a, xs, rfl, st_mono j.g h, l, q⟩
theorem w_gCons {g : TG} {gs : TGs} {R : L2.St → Hp → Prop} (q : g v σ H fun σ' H' => gs xs σ' H' R) : gCons g gs (v :: xs) σ H R := ⟨v, xs, rfl, q⟩
theorem w_gNil {R : L2.St → Hp → Prop} (q : R σ H) : gNil [] σ H R := ⟨rfl, q⟩
/- arguments, calls -/
theorem w_anil (q : QL [] H) : tNil σ H QL := q
theorem w_acons {tr : TA} (h : ta σ H fun x H1 => tr σ H1 fun xs H2 => QL (x :: xs) H2) : tCons ta tr σ H QL := h
theorem w_call {sp : Sp} {dvs : List V} {E : XK} {tr : TA} (h : tr σ H fun vs H1 => sp (vs ++ dvs) H1 Q E) : tCall sp dvs E tr σ H Q := h
theorem w_cb {r : List V → Hp → VK → Prop} {tr : TA} (h : tr σ H fun vs H1 => r vs H1 Q) : tCB r tr σ H Q := h
def NewO (o : HO) (n : Nat) (H : Hp) (Q : VK) : Prop := n ≤ sizeLine ∧ ∀ p, H p = none → Q (.ref p) (upd H p o)
theorem w_tup {tr : TA} (h : tr σ H fun xs H1 => NewO (.tup xs) xs.length H1 Q) : tTup tr σ H Q := h
theorem w_lst {tr : TA} (h : tr σ H fun xs H1 => NewO (.lst xs) xs.length H1 Q) : tLst tr σ H Q := h
theorem sz_le {n : Nat} (h : n ≤ 1000000) : n ≤ sizeLine := Nat.le_trans h (by decide)
theorem sz_lt {n : Nat} (h : n < 1000000) : n < sizeLine := Nat.lt_of_lt_of_le h (by decide)
/-- a new object that stands for good -/
theorem w_new {o : HO} {n : Nat} (j : J M G H) (z : n ≤ sizeLine) (k : ∀ p G' H', J M G' H' → Ex G G' → G' p = some o → G p = none → Q (.ref p) H') : NewO o n H Q :=
  ⟨z, fun p h => k p _ _ (j.newG h) (Ex.new (j.freeG h)) upd_same (j.freeG h)⟩
/-- .. that may change -/
theorem w_newM {o : HO} {n : Nat} (j : J M G H) (z : n ≤ sizeLine) (k : ∀ p H', J (upd M p o) G H' → M p = none → G p = none → Q (.ref p) H') : NewO o n H Q :=
  ⟨z, fun p h => k p _ (j.newM h) (j.freeM h) (j.freeG h)⟩
/- operators -/
theorem w_I0 {f : Int → Int → V} (q : Q (f m n) H) : rI0 f (.int m) (.int n) H Q := ⟨m, n, rfl, rfl, q⟩
theorem w_I {C : Int → Int → Prop} {f : Int → Int → V} (hc : C m n) (q : Q (f m n) H) : rI C f (.int m) (.int n) H Q := ⟨m, n, rfl, rfl, hc, q⟩
theorem w_U {f : Int → V} (q : Q (f m) H) : rU f (.int m) H Q := ⟨m, rfl, q⟩
theorem w_addI (q : Q (.int (m + n)) H) : uAdd K (.int m) (.int n) H Q := .inl (w_I0 q)
theorem w_mulI (hc : CMul m n) (q : Q (.int (m * n)) H) : uMul (.int m) (.int n) H Q := .inl (w_I hc q)
theorem w_eqI (q : Q (.bl (decide (m = n))) H) : uEq K (.int m) (.int n) H Q := .inl ⟨rfl, by
  have e : decide (V.int m = V.int n) = decide (m = n) := decide_eq_decide.mpr ⟨fun h => V.int.inj h, fun h => h ▸ rfl⟩
  rw [e]; exact q⟩
theorem w_neI (q : Q (.bl (!decide (m = n))) H) : uNe K (.int m) (.int n) H Q := .inl ⟨rfl, by
  have e : decide (V.int m = V.int n) = decide (m = n) := decide_eq_decide.mpr ⟨fun h => V.int.inj h, fun h => h ▸ rfl⟩
  rw [e]; exact q⟩
theorem w_eqV {k : Bool} (hs : scal x y = true) (e : decide (x = y) = k) (q : Q (.bl k) H) : uEq K x y H Q := .inl ⟨hs, by rw [e]; exact q⟩
theorem w_eqS {k : Bool} {s1 s2 : Str} (e : decide (s1 = s2) = k) (q : Q (.bl k) H) : uEq K (.str s1) (.str s2) H Q := .inl ⟨rfl, by
  have e' : decide (V.str s1 = V.str s2) = decide (s1 = s2) := decide_eq_decide.mpr ⟨fun h => V.str.inj h, fun h => h ▸ rfl⟩
  rw [e', e]; exact q⟩
theorem w_neV {k : Bool} (hs : scal x y = true) (e : (!decide (x = y)) = k) (q : Q (.bl k) H) : uNe K x y H Q := .inl ⟨hs, by rw [e]; exact q⟩
theorem w_ixL (j : J M G H) (h : SqL K G a xs) (e : atI xs m = some v) (q : Q v H) : uIx K (.ref a) (.int m) H Q := .inl ⟨a, xs, m, v, rfl, rfl, sl_mono j.g h, e, q⟩
theorem w_ixT (j : J M G H) (h : SqT K G a xs) (e : atI xs m = some v) (q : Q v H) : uIx K (.ref a) (.int m) H Q := .inr ⟨a, xs, m, v, rfl, rfl, st_mono j.g h, e, q⟩
theorem w_ixM (j : J M G H) (h : M a = some (.lst xs)) (e : atI xs m = some v) (q : Q v H) : uIx K (.ref a) (.int m) H Q := .inl ⟨a, xs, m, v, rfl, rfl, .inl (.inl (j.m a _ h)), e, q⟩
theorem w_lenL (j : J M G H) (h : SqL K G a xs) (q : Q (.int xs.length) H) : uLen K [.ref a] H Q := .inl ⟨a, xs, rfl, .inl (sl_mono j.g h), q⟩
theorem w_lenT (j : J M G H) (h : SqT K G a xs) (q : Q (.int xs.length) H) : uLen K [.ref a] H Q := .inl ⟨a, xs, rfl, .inr (st_mono j.g h), q⟩
theorem w_lenM (j : J M G H) (h : M a = some (.lst xs)) (q : Q (.int xs.length) H) : uLen K [.ref a] H Q := .inl ⟨a, xs, rfl, .inl (.inl (.inl (j.m a _ h))), q⟩
theorem w_setM {QH : Hp → Prop} {jx : Nat} (j : J M G H) (h : M a = some (.lst xs)) (e : ixN xs.length m = some jx) (q : ∀ H', J (upd M a (.lst (xs.set jx v))) G H' → QH H') : rSetL (.ref a) (.int m) v H QH :=
  ⟨a, xs, m, jx, rfl, rfl, j.m a _ h, e, q _ (j.put h)⟩
/- methods -/
theorem w_bm {T : String} {r : V → List V → Hp → VK → Prop} {tr : TA} (h : ta σ H fun x H1 => tyV K T x H1 ∧ tr σ H1 fun xs H2 => r x xs H2 Q) : tBM K T r ta tr σ H Q := h
theorem w_appendM (j : J M G H) (h : M a = some (.lst xs)) (z : xs.length < sizeLine) (q : ∀ H', J (upd M a (.lst (xs ++ [v]))) G H' → Q .non H') : rAppend (.ref a) [v] H Q :=
  ⟨a, xs, v, rfl, rfl, j.m a _ h, z, q _ (j.put h)⟩
theorem ty_listM (j : J M G H) (h : M a = some (.lst xs)) : tyV K "list" (.ref a) H := .inl ⟨rfl, xs, .inl (.inl (j.m a _ h))⟩
theorem ty_listG (j : J M G H) (h : SqL K G a xs) : tyV K "list" (.ref a) H := .inl ⟨rfl, xs, sl_mono j.g h⟩
/- two ways -/
theorem w_two {k : Bool} {A B : Prop} (h1 : k = true → A) (h2 : k = false → B) : if k = true then A else B := by
  cases k with
  | true => rw [if_pos rfl]; exact h1 rfl
  | false => rw [if_neg Bool.false_ne_true]; exact h2 rfl
theorem w_dec {p : Prop} [Decidable p] {A B : Prop} (h1 : p → A) (h2 : ¬ p → B) : if decide p = true then A else B := w_two (fun h => h1 (of_decide_eq_true h)) fun h => h2 (of_decide_eq_false h)
theorem w_decN {p : Prop} [Decidable p] {A B : Prop} (h1 : ¬ p → A) (h2 : p → B) : if (!decide p) = true then A else B := w_two (fun h => h1 (of_decide_eq_false (by simpa using h))) fun h => h2 (of_decide_eq_true (by simpa using h))
theorem w_T {A B : Prop} (h : A) : if true = true then A else B := by rw [if_pos rfl]; exact h
theorem w_F {A B : Prop} (h : B) : if false = true then A else B := by rw [if_neg Bool.false_ne_true]; exact h
theorem w_nt {A B : Prop} (h : B) : if (!true) = true then A else B := w_F h
theorem w_nf {A B : Prop} (h : A) : if (!false) = true then A else B := w_T h
theorem w_dT {p : Prop} [Decidable p] {A B : Prop} (h : p) (q : A) : if decide p = true then A else B := by rw [decide_eq_true h]; exact w_T q
theorem w_dF {p : Prop} [Decidable p] {A B : Prop} (h : ¬ p) (q : B) : if decide p = true then A else B := by rw [decide_eq_false h]; exact w_F q
theorem w_nT {p : Prop} [Decidable p] {A B : Prop} (h : p) (q : B) : if (!decide p) = true then A else B := by rw [decide_eq_true h]; exact w_F q
theorem w_nF {p : Prop} [Decidable p] {A B : Prop} (h : ¬ p) (q : A) : if (!decide p) = true then A else B := by rw [decide_eq_false h]; exact w_T q
/- loops -/
theorem w_forL {tl : TE} {a : Addr} (h : tl σ H fun v H1 => v = .ref a ∧ SqL K H1 a xs ∧ ∃ Pv : Nat → L2.St → Hp → Prop, Pv 0 σ H1 ∧ (∀ i σ H, i ≤ xs.length → Pv i σ H → SqL K H a xs) ∧
    (∀ i x σ H, xs[i]? = some x → Pv i σ H → g x σ H fun σ2 H2 => t { D with nx := Pv (i + 1), ct := Pv (i + 1), bk := D.nx } σ2 H2) ∧ ∀ σ H, Pv xs.length σ H → D.nx σ H)
    (mono : ∀ Q Q' : VK, (∀ v H, Q v H → Q' v H) → tl σ H Q → tl σ H Q') : tFor (iList K tl) g t D σ H := by
  refine mono _ _ (fun v H1 q => ?_) h
  obtain ⟨rfl, hs, Pv, h0, hl, hs', hd⟩ := q
  exact ⟨a, rfl, ⟨xs, hs⟩, for_list Pv h0 hl hs' hd⟩
theorem mono_var (Q Q' : VK) (h : ∀ v H, Q v H → Q' v H) (q : tVar i σ H Q) : tVar i σ H Q' := by
  obtain ⟨v, e, q⟩ := q
  exact ⟨v, e, h v H q⟩
/-- for x in xs, xs a local name -/
theorem w_forLV {s : Nat} {a : Addr} (e : σ[s]? = some (some (.ref a))) (Pv : Nat → L2.St → Hp → Prop) (hS : SqL K H a xs) (h0 : Pv 0 σ H) (hl : ∀ i σ H, i ≤ xs.length → Pv i σ H → SqL K H a xs)
    (hs : ∀ i x σ H, xs[i]? = some x → Pv i σ H → g x σ H fun σ2 H2 => t { D with nx := Pv (i + 1), ct := Pv (i + 1), bk := D.nx } σ2 H2) (hd : ∀ σ H, Pv xs.length σ H → D.nx σ H) : tFor (iList K (tVar s)) g t D σ H :=
  ⟨.ref a, e, a, rfl, ⟨xs, hS⟩, for_list Pv h0 hl hs hd⟩
theorem w_forTV {s : Nat} {a : Addr} (e : σ[s]? = some (some (.ref a))) (Pv : Nat → L2.St → Hp → Prop) (hS : SqT K H a xs) (h0 : Pv 0 σ H) (hl : ∀ i σ H, i ≤ xs.length → Pv i σ H → SqT K H a xs)
    (hs : ∀ i x σ H, xs[i]? = some x → Pv i σ H → g x σ H fun σ2 H2 => t { D with nx := Pv (i + 1), ct := Pv (i + 1), bk := D.nx } σ2 H2) (hd : ∀ σ H, Pv xs.length σ H → D.nx σ H) : tFor (iTup K (tVar s)) g t D σ H :=
  ⟨.ref a, e, a, rfl, ⟨xs, hS⟩, for_tup Pv h0 hl hs hd⟩
/-- for k in range(e) -/
def RngR (g : TG) (t : TS) (D : Ends) (σ : L2.St) : List V → Hp → Prop := fun vs H1 => ∃ j : Int, vs = [.int j] ∧ -(2 ^ 62) ≤ j ∧ j < 2 ^ 62 ∧ ∃ Pv : Nat → L2.St → Hp → Prop, Pv 0 σ H1 ∧
  (∀ i σ H, i < j.toNat → Pv i σ H → g (.int i) σ H fun σ2 H2 => t { D with nx := Pv (i + 1), ct := Pv (i + 1), bk := D.nx } σ2 H2) ∧ ∀ σ H, Pv j.toNat σ H → D.nx σ H
theorem RngR.go {vs : List V} (h : RngR g t D σ vs H) : ∃ j : Int, vs = [.int j] ∧ -(2 ^ 62) ≤ j ∧ j < 2 ^ 62 ∧ ∃ W : Nat → Nat → L2.St → Hp → Prop, (∃ m, W 0 m σ H) ∧ ∀ i m σ H, W i m σ H →
      ((Itr 0 j.toNat).stop i H ∧ D.nx σ H) ∨ ((Itr 0 j.toNat).go i H ∧ ∃ N : L2.St → Hp → Prop, (∀ σ' H', N σ' H' → ∃ m', m' < m ∧ W (i + 1) m' σ' H') ∧ ∀ x H', (Itr 0 j.toNat).yld i H x H' → g x σ H' fun σ2 H2 => t { D with nx := N, ct := N, bk := D.nx } σ2 H2) := by
  obtain ⟨jj, e, h1, h2, Pv, h0, hs, hd⟩ := h
  refine ⟨jj, e, h1, h2, for_range Pv h0 (fun i σ H hi p => ?_) hd⟩
  have q := hs i σ H hi p
  rw [Int.zero_add]; exact q
def RngD (g : TG) (t : TS) (D : Ends) (σ : L2.St) (vs : List V) (H : Hp) : Prop := ∃ j : Int, vs = [.int j] ∧ -(2 ^ 62) ≤ j ∧ j < 2 ^ 62 ∧ ∃ W : Nat → Nat → L2.St → Hp → Prop, (∃ m, W 0 m σ H) ∧ ∀ i m σ H, W i m σ H →
      ((Itr 0 j.toNat).stop i H ∧ D.nx σ H) ∨ ((Itr 0 j.toNat).go i H ∧ ∃ N : L2.St → Hp → Prop, (∀ σ' H', N σ' H' → ∃ m', m' < m ∧ W (i + 1) m' σ' H') ∧ ∀ x H', (Itr 0 j.toNat).yld i H x H' → g x σ H' fun σ2 H2 => t { D with nx := N, ct := N, bk := D.nx } σ2 H2)
theorem w_forR {ta : TA} (h : ta σ H fun vs H1 => RngD g t D σ vs H1) : tFor (iRng1 ta) g t D σ H := h
theorem w_rng (Pv : Nat → L2.St → Hp → Prop) (h0 : Pv 0 σ H)
    (hs : ∀ i σ H, i < m.toNat → Pv i σ H → g (.int i) σ H fun σ2 H2 => t { D with nx := Pv (i + 1), ct := Pv (i + 1), bk := D.nx } σ2 H2) (hd : ∀ σ H, Pv m.toNat σ H → D.nx σ H) (h1 : -(2 ^ 62) ≤ m := by first | decide | omega) (h2 : m < 2 ^ 62 := by first | decide | omega) :
    RngD g t D σ [.int m] H := RngR.go ⟨m, rfl, h1, h2, Pv, h0, hs, hd⟩
theorem w_appendU (j : J (upd M a (.lst xs)) G H) (z : xs.length < 1000000) (q : ∀ H', J (upd M a (.lst (xs ++ [v]))) G H' → Q .non H') : rAppend (.ref a) [v] H Q :=
  w_appendM j upd_same (sz_lt z) fun H' j' => q H' (by rw [upd_upd] at j'; exact j')
theorem w_appendA (j : J M G H) (h : M a = some (.lst xs)) (z : xs.length < 1000000) (q : ∀ H', J (upd M a (.lst (xs ++ [v]))) G H' → Q .non H') : rAppend (.ref a) [v] H Q := w_appendM j h (sz_lt z) q
theorem ty_listU (j : J (upd M a (.lst xs)) G H) : tyV K "list" (.ref a) H := ty_listM j upd_same
theorem map_snoc (ns : List Int) (n : Int) : ns.map V.int ++ [V.int n] = (ns ++ [n]).map V.int := by rw [List.map_append]; rfl
/-- list(xs), xs[a:b] of lists, xs + ys -/
theorem w_catL (h1 : H a = some (.lst xs)) (h2 : H b = some (.lst ys)) (k : NewO (.lst (xs ++ ys)) (xs.length + ys.length) H Q) : uAdd K (.ref a) (.ref b) H Q :=
  .inr (.inl ⟨a, b, xs, ys, rfl, rfl, h1, h2, k.1, k.2⟩)
theorem w_slL {lo hi : Option Int} (j : J M G H) (h : SqL K G a xs) (k : NewO (.lst (cutV xs lo hi)) 0 H Q) : uSl K (.ref a) lo hi H Q := .inl ⟨a, xs, rfl, sl_mono j.g h, k.2⟩
theorem w_slT {lo hi : Option Int} (j : J M G H) (h : SqT K G a xs) (k1 : HT.sIx xs.length 0 lo = 0 ∧ HT.sIx xs.length xs.length hi = xs.length → Q (.ref a) H)
    (k : ¬ (HT.sIx xs.length 0 lo = 0 ∧ HT.sIx xs.length xs.length hi = xs.length) → NewO (.tup (cutV xs lo hi)) 0 H Q) : uSl K (.ref a) lo hi H Q := .inr ⟨a, xs, rfl, st_mono j.g h, k1, fun h => (k h).2⟩
def PartX (x : V) (H : Hp) (Q : Option Int → Hp → Prop) : Prop := ∃ i, x = .int i ∧ Q (some i) H
theorem w_part {QO : Option Int → Hp → Prop} (h : te σ H fun x H1 => PartX x H1 QO) : tPart te σ H QO := h
theorem w_partX {QO : Option Int → Hp → Prop} (h : QO (some m) H) : PartX (.int m) H QO := ⟨m, rfl, h⟩
theorem w_nopart {QO : Option Int → Hp → Prop} (h : QO none H) : tNoPart σ H QO := h
theorem atI_0 {α : Type} {y : α} {ys : List α} : atI (y :: ys) 0 = some y := atI_nat (j := 0) rfl
theorem w_sl {r : V → Option Int → Option Int → Hp → VK → Prop} {tl th : TO} (h : te σ H fun x H1 => tl σ H1 fun l H2 => th σ H2 fun u H3 => r x l u H3 Q) : tSl r te tl th σ H Q := h
/-! comprehensions -/
variable {tt : TT} {vs : List Nat} {s : Nat}
/-- the block's end at one element: the new list stands at L as before, it gets y -/
def StepL (L : Addr) (acc : List V) (R : List V → Hp → Hp → Prop) (y : V) (H4 : Hp) : Prop := ∃ M4 G4, J M4 G4 H4 ∧ M4 L = some (.lst acc) ∧ acc.length < sizeLine ∧ R (acc ++ [y]) (upd M4 L (.lst (acc ++ [y]))) G4
def SkipL (L : Addr) (acc : List V) (R : List V → Hp → Hp → Prop) (H3 : Hp) : Prop := ∃ M3 G3, J M3 G3 H3 ∧ M3 L = some (.lst acc) ∧ R acc M3 G3
def LcI (P : Addr → Nat → List V → Hp → Hp → Prop) (L : Addr) (i : Nat) (H : Hp) : Prop := ∃ acc M1 G1, J M1 G1 H ∧ M1 L = some (.lst acc) ∧ P L i acc M1 G1
theorem StepL.go {P : Addr → Nat → List V → Hp → Hp → Prop} {L : Addr} {acc : List V} {k : Nat} (h : StepL L acc (P L k) y H) : ∃ acc', H L = some (.lst acc') ∧ acc'.length < sizeLine ∧ LcI P L k (upd H L (.lst (acc' ++ [y]))) := by
  obtain ⟨M4, G4, j, e, z, r⟩ := h
  exact ⟨acc, j.m _ _ e, z, acc ++ [y], _, _, j.put e, upd_same, r⟩
def LcD (J' : It) (g : TG) (tt : TT) (te : TE) (vs : List Nat) (σ : L2.St) (H1 : Hp) (Q : VK) : Prop := ∀ D, H1 D = none → ∃ W : Nat → Nat → Hp → Prop, (∃ m, W 0 m (upd H1 D (.lst []))) ∧ ∀ i m H, W i m H →
  (J'.stop i H ∧ Q (.ref D) H) ∨ (J'.go i H ∧ ∃ Nx : Hp → Prop, (∀ H', Nx H' → ∃ m', m' < m ∧ W (i + 1) m' H') ∧ ∀ x H', J'.yld i H x H' → g x (wipe σ vs) H' fun σ2 H2 => wipe σ2 vs = wipe σ vs ∧ tt σ2 H2 fun b H3 =>
    if b = true then te σ2 H3 fun y H4 => ∃ acc, H4 D = some (.lst acc) ∧ acc.length < sizeLine ∧ Nx (upd H4 D (.lst (acc ++ [y]))) else Nx H3)
def LcR (g : TG) (tt : TT) (te : TE) (vs : List Nat) (σ : L2.St) (vs' : List V) (H1 : Hp) (Q : VK) : Prop := ∃ j : Int, vs' = [.int j] ∧ -(2 ^ 62) ≤ j ∧ j < 2 ^ 62 ∧ LcD (Itr 0 j.toNat) g tt te vs σ H1 Q
def LcL (K : PySem.W.Frag) (g : TG) (tt : TT) (te : TE) (vs : List Nat) (σ : L2.St) (x : V) (H1 : Hp) (Q : VK) : Prop := ∃ a, x = .ref a ∧ (∃ xs, SqL K H1 a xs) ∧ LcD (Itl K a) g tt te vs σ H1 Q
theorem w_lcR {ta : TA} (h : ta σ H fun vs' H1 => LcR g tt te vs σ vs' H1 Q) : tLc (iRng1 ta) g tt te vs σ H Q := h
theorem w_lcL {tl : TE} (h : tl σ H fun x H1 => LcL K g tt te vs σ x H1 Q) : tLc (iList K tl) g tt te vs σ H Q := h
/-- [e for k in range(m)]; the element's reading must be monotone in what is wanted: it is given by its steps, so the law of the turn is asked for any wish that is weaker -/
theorem w_lcr (j : J M G H) (P : Addr → Nat → List V → Hp → Hp → Prop) (h0 : ∀ L, M L = none → G L = none → P L 0 [] (upd M L (.lst [])) G) (hw : ∀ x, wipe ((wipe σ vs).set s (some x)) vs = wipe σ vs)
    (hs : ∀ L i acc M1 G1 H1 (R : V → Hp → Prop), i < m.toNat → J M1 G1 H1 → M1 L = some (.lst acc) → P L i acc M1 G1 → (∀ y H4, StepL L acc (P L (i + 1)) y H4 → R y H4) → te ((wipe σ vs).set s (some (.int i))) H1 R)
    (hd : ∀ L acc M1 G1 H1, J M1 G1 H1 → M1 L = some (.lst acc) → P L m.toNat acc M1 G1 → Q (.ref L) H1) (h1 : -(2 ^ 62) ≤ m := by first | decide | omega) (h2 : m < 2 ^ 62 := by first | decide | omega) : LcR (gName s) tYes te vs σ [.int m] H Q := by
  refine ⟨m, rfl, h1, h2, fun L hL => lc_range (LcI P L) ⟨[], _, _, j.newM hL, upd_same, h0 L (j.freeM hL) (j.freeG hL)⟩ (fun i H1 hi p => ?_) fun H1 p => ?_⟩
  · obtain ⟨acc, M1, G1, j1, e, p⟩ := p
    rw [Int.zero_add]
    refine ⟨hw (.int i), ?_⟩
    refine w_T (B := LcI P L (i + 1) H1) ?_
    refine hs L i acc M1 G1 H1 _ hi j1 e p ?_
    intro y H4 q
    exact q.go
  · obtain ⟨acc, M1, G1, j1, e, p⟩ := p
    exact hd L acc M1 G1 H1 j1 e p
/-- [e for x in xs if t] -/
theorem w_lcl (j : J M G H) (P : Addr → Nat → List V → Hp → Hp → Prop) (hx : SqL K G a xs) (h0 : ∀ L, M L = none → G L = none → P L 0 [] (upd M L (.lst [])) G) (hG : ∀ L i acc M1 G1, P L i acc M1 G1 → Ex G G1) (hw : ∀ x, wipe ((wipe σ vs).set s (some x)) vs = wipe σ vs)
    (hs : ∀ L i x acc M1 G1 H1 (R : Bool → Hp → Prop), xs[i]? = some x → J M1 G1 H1 → M1 L = some (.lst acc) → P L i acc M1 G1 →
      (∀ b H3, (if b = true then te ((wipe σ vs).set s (some x)) H3 (fun y H4 => ∃ acc, H4 L = some (.lst acc) ∧ acc.length < sizeLine ∧ LcI P L (i + 1) (upd H4 L (.lst (acc ++ [y])))) else SkipL L acc (P L (i + 1)) H3) → R b H3) → tt ((wipe σ vs).set s (some x)) H1 R)
    (hd : ∀ L acc M1 G1 H1, J M1 G1 H1 → M1 L = some (.lst acc) → P L xs.length acc M1 G1 → Q (.ref L) H1) : LcL K (gName s) tt te vs σ (.ref a) H Q := by
  refine ⟨a, rfl, ⟨xs, sl_mono j.g hx⟩, fun L hL => lc_list (xs := xs) (LcI P L) ⟨[], _, _, j.newM hL, upd_same, h0 L (j.freeM hL) (j.freeG hL)⟩ (fun i H1 _ p => ?_) (fun i x H1 hi p => ?_) fun H1 p => ?_⟩
  · obtain ⟨acc, M1, G1, j1, e, p⟩ := p
    exact sl_mono ((hG _ _ _ _ _ p).trans j1.g) hx
  · obtain ⟨acc, M1, G1, j1, e, p⟩ := p
    refine ⟨hw _, ?_⟩
    refine hs L i x acc M1 G1 H1 _ hi j1 e p fun b H3 q => ?_
    cases b with
    | true => rw [if_pos rfl] at q ⊢; exact q
    | false =>
      rw [if_neg Bool.false_ne_true] at q ⊢
      obtain ⟨M3, G3, j3, e3, r⟩ := q
      exact ⟨acc, M3, G3, j3, e3, r⟩
  · obtain ⟨acc, M1, G1, j1, e, p⟩ := p
    exact hd L acc M1 G1 H1 j1 e p
theorem w_yes {R : Bool → Hp → Prop} (h : R true H) : tYes σ H R := h
/-! dicts -/
variable {kvs : List (Key × V)} {td ty tx tv : TE}
def Hd (M G : Hp) (a : Addr) (kvs : List (Key × V)) : Prop := M a = some (.dK kvs) ∨ Rd G a (.dK kvs)
theorem Hd.rd (j : J M G H) (h : Hd M G a kvs) : Rd H a (.dK kvs) := h.elim (fun h => .inl (j.m _ _ h)) (rd_same j.g)
theorem Hd.ofM (h : M a = some (.dK kvs)) : Hd M G a kvs := .inl h
theorem Hd.ofG (h : G a = some (.dK kvs)) : Hd M G a kvs := .inr (.inl h)
def GetA (x : V) (ty : TE) (σ : L2.St) (H1 : Hp) (Q : VK) : Prop := ∃ a, x = .ref a ∧ IsD H1 a ∧ ty σ H1 fun y H2 => ∃ o, DGet H2 a y o ∧ Q (o.getD .non) H2
def GetB (x : V) (ty tx : TE) (σ : L2.St) (H1 : Hp) (Q : VK) : Prop := ∃ a, x = .ref a ∧ IsD H1 a ∧ ty σ H1 fun y H2 => tx σ H2 fun z H3 => ∃ o, DGet H3 a y o ∧ Q (o.getD z) H3
def GetE (a : Addr) (y z : V) (H3 : Hp) (Q : VK) : Prop := ∃ o, DGet H3 a y o ∧ Q (o.getD z) H3
theorem w_dget1 (h : td σ H fun x H1 => GetA x ty σ H1 Q) : tDGet1 td ty σ H Q := h
theorem w_dget2 (h : td σ H fun x H1 => GetB x ty tx σ H1 Q) : tDGet2 td ty tx σ H Q := h
theorem w_getA (j : J M G H) (h : Hd M G a kvs) (q : ty σ H fun y H2 => GetE a y .non H2 Q) : GetA (.ref a) ty σ H Q := ⟨a, rfl, .inl ⟨kvs, h.rd j⟩, q⟩
theorem w_getB (j : J M G H) (h : Hd M G a kvs) (q : ty σ H fun y H2 => tx σ H2 fun z H3 => GetE a y z H3 Q) : GetB (.ref a) ty tx σ H Q := ⟨a, rfl, .inl ⟨kvs, h.rd j⟩, q⟩
theorem w_getE (j : J M G H) (h : Hd M G a kvs) (q : Q ((valV kvs (.inl m)).getD y) H) : GetE a (.int m) y H Q := ⟨_, .inl ⟨kvs, .inl m, h.rd j, rfl, rfl⟩, q⟩
def GetX (x y : V) (H2 : Hp) (Q : VK) : Prop := ∃ a v, x = .ref a ∧ DGet H2 a y (some v) ∧ Q v H2
theorem w_dget (h : td σ H fun x H1 => ty σ H1 fun y H2 => GetX x y H2 Q) : tDGet td ty σ H Q := h
theorem w_getX (j : J M G H) (h : Hd M G a kvs) (e : valV kvs (.inl m) = some v) (q : Q v H) : GetX (.ref a) (.int m) H Q := ⟨a, v, rfl, .inl ⟨kvs, .inl m, h.rd j, rfl, e.symm⟩, q⟩
def InX (neg : Bool) (x y : V) (H2 : Hp) (Q : VK) : Prop := ∃ a o, x = .ref a ∧ DGet H2 a y o ∧ Q (.bl (if neg then !o.isSome else o.isSome)) H2
theorem w_din (h : ty σ H fun y H1 => td σ H1 fun x H2 => InX false x y H2 Q) : tDIn ty td σ H Q := h
theorem w_dnotin (h : ty σ H fun y H1 => td σ H1 fun x H2 => InX true x y H2 Q) : tDNotIn ty td σ H Q := h
theorem w_inX (j : J M G H) (h : Hd M G a kvs) (q : Q (.bl (valV kvs (.inl m)).isSome) H) : InX false (.ref a) (.int m) H Q := ⟨a, _, rfl, .inl ⟨kvs, .inl m, h.rd j, rfl, rfl⟩, q⟩
theorem w_notinX (j : J M G H) (h : Hd M G a kvs) (q : Q (.bl (!(valV kvs (.inl m)).isSome)) H) : InX true (.ref a) (.int m) H Q := ⟨a, _, rfl, .inl ⟨kvs, .inl m, h.rd j, rfl, rfl⟩, q⟩
def PutX (x y v : V) (H3 : Hp) (R : Hp → Prop) : Prop := ∃ a H4, x = .ref a ∧ DPut H3 a y v H4 ∧ R H4
theorem w_dput (h : tv σ H fun v H1 => td σ H1 fun x H2 => ty σ H2 fun y H3 => PutX x y v H3 (D.nx σ)) : sDPut td ty tv D σ H := h
theorem w_putX {R : Hp → Prop} (j : J M G H) (h : M a = some (.dK kvs)) (z : kvs.length < 1000000) (q : ∀ H', J (upd M a (.dK (putK kvs (.inl m) v))) G H' → R H') : PutX (.ref a) (.int m) v H R :=
  ⟨a, _, rfl, .inl ⟨kvs, .inl m, j.m _ _ h, rfl, sz_lt z, rfl⟩, q _ (j.put h)⟩
def PopB (x : V) (ty tx : TE) (σ : L2.St) (H1 : Hp) (Q : VK) : Prop := ∃ a, x = .ref a ∧ IsD H1 a ∧ ty σ H1 fun y H2 => tx σ H2 fun z H3 => ∃ kvs k, H3 a = some (.dK kvs) ∧ y = kV k ∧
  (∀ v, valV kvs k = some v → Q v (upd H3 a (.dK (dropK kvs k)))) ∧ (valV kvs k = none → Q z H3)
def PopE (a : Addr) (y z : V) (H3 : Hp) (Q : VK) : Prop := ∃ kvs k, H3 a = some (.dK kvs) ∧ y = kV k ∧ (∀ v, valV kvs k = some v → Q v (upd H3 a (.dK (dropK kvs k)))) ∧ (valV kvs k = none → Q z H3)
theorem w_dpop2 (h : td σ H fun x H1 => PopB x ty tx σ H1 Q) : tDPop2 td ty tx σ H Q := h
theorem w_popB (j : J M G H) (h : M a = some (.dK kvs)) (q : ty σ H fun y H2 => tx σ H2 fun z H3 => PopE a y z H3 Q) : PopB (.ref a) ty tx σ H Q := ⟨a, rfl, .inl ⟨kvs, .inl (j.m _ _ h)⟩, q⟩
theorem dropK_none (h : valV kvs (.inl m : Key) = none) : dropK kvs (.inl m) = kvs := dropK_no (valV_not h)
theorem w_popE (j : J M G H) (h : M a = some (.dK kvs)) (q : ∀ v H', J (upd M a (.dK (dropK kvs (.inl m)))) G H' → Q v H') : PopE a (.int m) y H Q := by
  refine ⟨kvs, .inl m, j.m _ _ h, rfl, fun v _ => q v _ (j.put h), fun e => q y H ?_⟩
  rw [dropK_none e]
  have e2 : upd M a (.dK kvs) = M := by
    funext b; unfold upd; split
    · rename_i hb; rw [hb, h]
    · rfl
  rw [e2]; exact j
theorem w_lenD (j : J M G H) (h : M a = some (.dK kvs) ∨ G a = some (.dK kvs)) (q : Q (.int kvs.length) H) : uLen K [.ref a] H Q := .inr ⟨a, kvs, rfl, h.elim (j.m _ _) (j.g _ _), q⟩
/-- {} -/
theorem w_dnew (h : NewO (.dK []) 0 H Q) : tDNewK σ H Q := h.2
/-- isinstance -/
theorem w_isi (bb : Bool) {n cc : String} (h : TyX K H x (.type n)) (e : kitB n cc = some bb) (q : Q (.bl bb) H) : rIsi K [x, .ty cc] H Q := ⟨x, .ty cc, .type n, .type cc, bb, rfl, .ty cc, h, kit_ty e, q⟩
theorem ty_int : TyX K H (.int m) (.type "int") := .base (.int m)
theorem ty_bl {b : Bool} : TyX K H (.bl b) (.type "bool") := .base (.bl b)
theorem ty_str {z : Str} : TyX K H (.str z) (.type "str") := .base (.str z)
theorem ty_non : TyX K H .non (.type "NoneType") := .base .non
theorem ty_L (h : SqL K H a xs) : TyX K H (.ref a) (.type "list") := by
  rcases h with (h | ⟨o, h⟩) | ⟨o, _, _, h, c, _⟩
  · exact .base (.lst h)
  · exact .base (.frz h)
  · exact .kList h c
theorem ty_T (h : SqT K H a xs) : TyX K H (.ref a) (.type "tuple") := by
  rcases h with (h | ⟨o, h⟩) | ⟨o, _, _, h, c, _⟩
  · exact .base (.tup h)
  · exact .fTuple h
  · exact .kTuple h c
theorem ty_D (h : Rd H a (.dK kvs)) : TyX K H (.ref a) (.type "dict") := by
  rcases h with h | ⟨o, h⟩
  · exact .base (.dK h)
  · exact .fDict h
/-- dict(d), sorted(d), list(xs), tuple(xs) -/
def DictC (xs : List V) (H : Hp) (Q : VK) : Prop := ∃ (a : Addr) (kvs : List (Key × V)), xs = [.ref a] ∧ Rd H a (.dK kvs) ∧ ∀ p, H p = none → Q (.ref p) (upd H p (.dK kvs))
theorem w_dictC (j : J M G H) (h : Hd M G a kvs) (q : NewO (.dK kvs) 0 H Q) : DictC [.ref a] H Q := ⟨a, kvs, rfl, h.rd j, q.2⟩
def ListC (K : PySem.W.Frag) (xs : List V) (H : Hp) (Q : VK) : Prop := ∃ p ys, xs = [.ref p] ∧ (SqL K H p ys ∨ SqT K H p ys) ∧ ∀ l, H l = none → Q (.ref l) (upd H l (.lst ys))
theorem w_listC (h : SqL K H a xs ∨ SqT K H a xs) (q : NewO (.lst xs) 0 H Q) : ListC K [.ref a] H Q := ⟨a, xs, rfl, h, q.2⟩
def TupC (K : PySem.W.Frag) (xs : List V) (H : Hp) (Q : VK) : Prop := ∃ p ys, xs = [.ref p] ∧ ((SqL K H p ys ∧ ∀ l, H l = none → Q (.ref l) (upd H l (.tup ys))) ∨ (SqT K H p ys ∧ Q (.ref p) H))
theorem w_tupC (h : SqL K H a xs) (q : NewO (.tup xs) 0 H Q) : TupC K [.ref a] H Q := ⟨a, xs, rfl, .inl ⟨h, q.2⟩⟩
def SortD (xs : List V) (H : Hp) (Q : VK) : Prop := ∃ (a : Addr) (kvs : List (Key × V)) (ks : List Int), xs = [.ref a] ∧ Rd H a (.dK kvs) ∧ kvs.map (·.1) = ks.map Sum.inl ∧ ks.length < 64 ∧
    ∀ (ys : List Int) (p : Addr), ys.Perm ks → ys.Pairwise (· ≤ ·) → H p = none → Q (.ref p) (upd H p (.lst (ys.map V.int)))
theorem w_sortD {ks : List Int} (j : J M G H) (h : Hd M G a kvs) (e : kvs.map (·.1) = ks.map Sum.inl) (z : ks.length < 64) (q : ∀ ys : List Int, ys.Perm ks → ys.Pairwise (· ≤ ·) → NewO (.lst (ys.map V.int)) 0 H Q) : SortD [.ref a] H Q :=
  ⟨a, kvs, ks, rfl, h.rd j, e, z, fun ys p h1 h2 => (q ys h1 h2).2 p⟩
theorem w_cDict {tr : TA} (h : tr σ H fun vs H1 => DictC vs H1 Q) : tCB (fun xs H Q => ∃ (a : Addr) (kvs : List (Key × V)), xs = [.ref a] ∧ Rd H a (.dK kvs) ∧ ∀ p, H p = none → Q (.ref p) (upd H p (.dK kvs))) tr σ H Q := h
theorem w_cList {tr : TA} (h : tr σ H fun vs H1 => ListC K vs H1 Q) : tCB (fun xs H Q => ∃ p ys, xs = [.ref p] ∧ (SqL K H p ys ∨ SqT K H p ys) ∧ ∀ l, H l = none → Q (.ref l) (upd H l (.lst ys))) tr σ H Q := h
theorem w_cTup {tr : TA} (h : tr σ H fun vs H1 => TupC K vs H1 Q) : tCB (fun xs H Q => ∃ p ys, xs = [.ref p] ∧ ((SqL K H p ys ∧ ∀ l, H l = none → Q (.ref l) (upd H l (.tup ys))) ∨ (SqT K H p ys ∧ Q (.ref p) H))) tr σ H Q := h
theorem w_cSortD {tr : TA} (h : tr σ H fun vs H1 => SortD vs H1 Q) : tCB (fun xs H Q => ∃ (a : Addr) (kvs : List (Key × V)) (ks : List Int), xs = [.ref a] ∧ Rd H a (.dK kvs) ∧ kvs.map (·.1) = ks.map Sum.inl ∧ ks.length < 64 ∧
    ∀ (ys : List Int) (p : Addr), ys.Perm ks → ys.Pairwise (· ≤ ·) → H p = none → Q (.ref p) (upd H p (.lst (ys.map V.int)))) tr σ H Q := h
/-- x in xs, flat items -/
theorem w_inT {neg : Bool} (j : J M G H) (h : SqT K G a xs) (hx : flatV x = true) (hf : xs.all flatV = true) (q : Q (.bl (if neg then !inV x xs else inV x xs)) H) : rIn K neg x (.ref a) H Q := ⟨a, xs, rfl, .inr (st_mono j.g h), hx, hf, q⟩
theorem w_inL {neg : Bool} (j : J M G H) (h : SqL K G a xs) (hx : flatV x = true) (hf : xs.all flatV = true) (q : Q (.bl (if neg then !inV x xs else inV x xs)) H) : rIn K neg x (.ref a) H Q := ⟨a, xs, rfl, .inl (sl_mono j.g h), hx, hf, q⟩
end
section
variable {X : Cx} {K : PySem.W.Frag}
theorem call_listC (h : X.K = K) : CallR X (.type "list") (ListC K) := h ▸ call_list_of
theorem call_tupC (h : X.K = K) : CallR X (.type "tuple") (TupC K) := h ▸ call_tuple_of
theorem call_dictC : CallR X (.type "dict") DictC := call_dictD
theorem call_sortDC (hc : X.calm = true) : CallR X (.builtin "sorted") SortD := call_sortedDI hc
end
/-! ### errors of the program: raised, let through, caught -/
structure Xc (K : PySem.W.Frag) (mg : Str → Option Value) (x : Str) (C : Addr) : Prop where
  gP : mg x = some (.ref C)
  xP : PySem.W.excIn K C [.type "ValueError", .type "Exception", .type "BaseException", .type "object"] "ValueError.__new__" = true
  kP : PySem.W.keepIn K (.ref C) = true
  bP : PySem.W.subIn K (.ref C) (.type "BaseException") = some true
  tP : PySem.W.typeIn K (.ref C) = some (.type "type")
  hD : PySem.W.hasDictIn K C = true
  sP : PySem.W.subIn K (.ref C) (.ref C) = some true
  hg : PySem.W.findIn K (.ref C) "__getattribute__" = some (some (.builtin "BaseException.__getattribute__"))
  hk : PySem.W.findIn K (.ref C) "__getattr__" = some none
  ha : PySem.W.findIn K (.ref C) "__class__" = some (some (.builtin "object.__class__"))
  hn : PySem.W.specialIn K (.builtin "object.__class__") "__get__" = some (some (.builtin "getset_descriptor.__get__"))
  ht : PySem.W.takesIn K (.builtin "object.__class__") = some true
  hm : PySem.W.mroIn K C (.type "object") = some true
theorem Xc.excC {K : PySem.W.Frag} {mg : Str → Option Value} {x : Str} {C : Addr} (X : Xc K mg x C) : ExcC K C := ⟨X.hg, X.hk, X.bP, X.hD, X.ha, X.hn, X.ht, X.hm⟩
theorem Xc.exm {K : PySem.W.Frag} {mg : Str → Option Value} {x : Str} {C : Addr} (X : Xc K mg x C) : PySem.W.exmOne K (.ref C) (.ref C) = some true := PySem.W.exm_ref X.bP X.hD X.tP X.sP
theorem Xc.g {K : PySem.W.Frag} {mg : Str → Option Value} {x : Str} {C : Addr} (X : Xc K mg x C) : ∃ u, mg x = some u ∧ RelV (.ref C) u := ⟨_, X.gP, rfl⟩
/-- a promise that tells how it may raise -/
def Sx {α : Type} (pre : α → List V → Hp → Hp → Prop) (post : α → Hp → Hp → V → Hp → Hp → Prop) (exc : α → Hp → Hp → Addr → Hp → Hp → Prop) : Sp := fun vs H Q E =>
  ∃ a M G, J M G H ∧ pre a vs M G ∧ (∀ v M' G' H', J M' G' H' → Ex G G' → post a M G v M' G' → Q v H') ∧ ∀ C M' G' H', J M' G' H' → Ex G G' → exc a M G C M' G' → E (.ref C) none H'
theorem w_sx {α : Type} {pre : α → List V → Hp → Hp → Prop} {post : α → Hp → Hp → V → Hp → Hp → Prop} {exc : α → Hp → Hp → Addr → Hp → Hp → Prop} {vs : List V} {M G H : Hp} {Q : VK} {E : XK} (a : α) (j : J M G H) (hp : pre a vs M G)
    (k : ∀ v M' G' H', J M' G' H' → Ex G G' → post a M G v M' G' → Q v H') (kx : ∀ C M' G' H', J M' G' H' → Ex G G' → exc a M G C M' G' → E (.ref C) none H') : Sx pre post exc vs H Q E := ⟨a, M, G, j, hp, k, kx⟩
theorem Dn.okX {P : Program} {w : World} {K : PySem.W.Frag} {mg : Str → Option Value} {base : Heap} {x : Str} {st : Stmt} {ps : List Str} {f : Addr} {fd : FuncData} {N : List Str} {k : Nat} {sp : Sp} (D : Dn K mg x st ps f fd) (S : FnScope N ps (defScope st)) (len : ∀ vs H Q E, sp vs H Q E → vs.length = ps.length)
    (hbody : ∀ (cdv : Value) (A : Around) (outer : List Env) (s : Shared) (H : Hp) (vs : List V) (Q : VK) (E : XK), Room k (A.deeper (envOfC x (defScope st) s.heap.objs.size f cdv)) → sp vs H Q E →
      ∃ t, PSs (cxOf (L2.CX P w) P w K mg base N x (defScope st) f cdv A outer s H E) (defBody st) t ∧ t { nx := fun _ H' => Q .non H', rt := Q } (start N vs) H) : Cal P w K mg base (L2.CX P w) (k + 1) x sp :=
  D.cal (D.fn.okX S len hbody)
/-- a call of what may raise, where an error is wished for -/
theorem pe_calX {X : Cx} {k j : Nat} {x : Str} {sp : Sp} {p pos : Pos} {e : Expr} {es : List Expr} {t : TA} {W : WX} (c : Cal X.prog X.w X.K X.mg X.base (L2.CX X.prog X.w) k x sp) (hr : Room j X.A) (hk : k ≤ j) (hg : Gl X x) (tk : Takes X W) (ha : PA X (e :: es) t)
    (hdb : (x == ("__debug__" : Str)) = false := by decide) (he : starEach (e :: es) X.env = (false, eval e X.env) :: starEach es X.env := by rfl) (hpl : (backTo pos (starEach es X.env)).any (·.1) = false := by rfl) :
    PE X (.Call (.Name x p) (e :: es) [] pos) (tCallS sp (WE W) t) := by
  obtain ⟨f, fd, ps, F, hm, kp, b⟩ := c.ex
  exact pe_callS F (hr.mono hk) hg hm kp b (fun σ => passAt tk σ) ha hdb he hpl
theorem w_callS {sp : Sp} {E : L2.St → XK} {t : TA} {σ : L2.St} {H : Hp} {Q : VK} (h : t σ H fun vs H1 => sp vs H1 Q (E σ)) : tCallS sp E t σ H Q := h
def tRaiseA (C : Addr) (W : WX) : TS := fun _ σ H => W (.ref C) none σ H
theorem ps_raiseA {X : Cx} {W : WX} {x m : Str} {C : Addr} {j : Nat} {p p2 pos pos2 : Pos} (hc : X.calm = true) (tk : Takes X W) (h : Xc X.K X.mg x C) (hg : Gl X x) (hdb : (x == ("__debug__" : Str)) = false := by decide) :
    PS X (.Raise (some (.Call (.Name x p) [.Constant (.str m) j p2] [] pos)) none pos2) (tRaiseA C W) := ps_raise hc tk (pmk_own PySem.F.excBase_ValueError h.xP h.gP h.kP (raises_own h.bP h.tP) hg hdb)
theorem w_raise {C : Addr} {W : WX} {D : Ends} {σ : L2.St} {H : Hp} (h : W (.ref C) none σ H) : tRaiseA C W D σ H := h
def tTryA (K : PySem.W.Frag) (c : Value) (i : Nat) (tb : WX → TS) (ts : Addr → Value → Option Addr → TS) (Wout : WX) : TS := fun D σ H => tb (wAs K c i ts Wout D) D σ H
theorem w_tryA {K : PySem.W.Frag} {c : Value} {i : Nat} {tb : WX → TS} {ts : Addr → Value → Option Addr → TS} {Wout : WX} {D : Ends} {σ : L2.St} {H : Hp} (h : tb (wAs K c i ts Wout D) D σ H) : tTryA K c i tb ts Wout D σ H := h
theorem ps_tryA {X : Cx} {x n : Str} {c : Value} {i : Nat} {body suite : List Stmt} {b₀ : Stmt} {np pos pos' : Pos} {tb : WX → TS} {ts : Addr → Value → Option Addr → TS} {Wout : WX} (hs : X.stack = X.env :: X.outer) (hf : X.env.frame = some X.env.locals) (hN : X.N.Nodup) (hi : X.N[i]? = some n) (hln : X.env.kindOf n = some .local) (hc : Names X x c) (tk : Takes X Wout)
    (hb : ∀ (W : WX) (pn : List (Addr × Obj)) (xe : Value → Shared → Prop), Takes (X.tr pn xe) W → PassesOwn (model X.prog X.w) X.A X.env xe → PSs (X.tr pn xe) body (tb W))
    (hsu : ∀ (a : Addr) (oe : Obj) (cls : Value) (d : Option Addr) (pn : List (Addr × Obj)), Zc cls d oe → (∃ vs, oe.data = .fields vs) → PSs (X.suite a ((a, oe) :: pn)) (b₀ :: suite) (ts a cls d)) :
    PS X (.Try body [.ExceptHandler (some (.Name x np)) (some n) (b₀ :: suite) pos'] [] [] pos) (tTryA X.K c i tb ts Wout) := ps_try_as hs hf hN hi hln hc tk hb hsu
/-- a fact that the suite's rules want is asked of its reading -/
theorem pss_given {X : Cx} {b : List Stmt} {t : TS} {p : Prop} (h : p → PSs X b t) : PSs X b (fun D σ H => p ∧ t D σ H) := ⟨fun pins s σ H D I z => (h z.1).run pins s σ H D I z.2⟩
/-- what a caught error of the class C asks -/
theorem w_caught {K : PySem.W.Frag} {c : Value} {C : Addr} {i : Nat} {ts : Addr → Value → Option Addr → TS} {Wout : WX} {D : Ends} {σ : L2.St} {H : Hp} (e : PySem.W.exmOne K (.ref C) c = some true)
    (h : ∀ a, H a = none → ts a (.ref C) none { nx := fun σ' H' => D.nx (σ'.set i none) H', rt := D.rt, bk := fun σ' H' => D.bk (σ'.set i none) H', ct := fun σ' H' => D.ct (σ'.set i none) H' } (σ.set i (some (.ref a))) H) : wAs K c i ts Wout D (.ref C) none σ H :=
  ⟨true, e, fun _ => h, fun q => Bool.noConfusion q⟩
theorem w_isE {K : PySem.W.Frag} {D a C : Addr} {b : Bool} {H : Hp} {Q : VK} (e : PySem.W.kitOne K (.ref D) (.ref C) = some b) (q : Q (.bl b) H) : rIsE K D a [.ref a, .ref C] H Q := ⟨.ref C, .ref C, b, rfl, fun _ r => r, e, q⟩
theorem w_seqP {t : TS} {u : TS} {D : Ends} {σ : L2.St} {H : Hp} (Pm : L2.St → Hp → Prop) (rest : ∀ σ H, Pm σ H → u D σ H) (first : (∀ σ H, Pm σ H → u D σ H) → t { D with nx := u D } σ H) : tSeq t u D σ H := first rest
/-- a op1 b op2 c op3 d -/
def tChain3 (r1 r2 r3 : R2) (ta tb tc td : TE) : TE := fun σ H Q => ta σ H fun x H1 => tb σ H1 fun y H2 => r1 x y H2 fun z H3 => ∃ k, z = .bl k ∧
  (if k = true then tc σ H3 fun u H4 => r2 y u H4 fun z2 H5 => ∃ k2, z2 = .bl k2 ∧ (if k2 = true then td σ H5 fun v H6 => r3 u v H6 Q else Q (.bl false) H5) else Q (.bl false) H3)
theorem pe_chain3 {X : Cx} {o1 o2 o3 : CmpOp} {r1 r2 r3 : R2} {a b c d : Expr} {ta tb tc td : TE} {pos : Pos} (h1 : OpR X (compareOp o1) r1) (h2 : OpR X (compareOp o2) r2) (h3 : OpR X (compareOp o3) r3) (ha : PE X a ta) (hb : PE X b tb) (hc : PE X c tc) (hd : PE X d td)
    (hm : lastMarks [o1, o2, o3] [b, c, d] = false := by with_unfolding_all rfl) : PE X (.Compare a [o1, o2, o3] [b, c, d] pos) (tChain3 r1 r2 r3 ta tb tc td) := by
  refine ⟨fun pins s σ H Q I h => Compare_chain (thn (ha.run pins s σ H _ I h) fun v0 s1 ⟨x, H1, I1, q1, w1⟩ => chain_link (thn (hb.run pins s1 σ H1 _ I1 w1) fun u0 s2 ⟨y, H2, I2, q2, w2⟩ => thn (h1 pins s2 σ H2 x y v0 u0 _ I2 q1 q2 w2) fun e0 s3 ⟨z, H3, I3, q3, k, ez, w3⟩ => ?_)) hm⟩
  subst ez; cases q3
  refine wpAny_truthy_bool ?_
  cases k with
  | false => exact ite_ff ⟨.bl false, H3, I3, rfl, w3⟩
  | true =>
    refine ite_tt (chain_link (thn (hc.run pins s3 σ H3 _ I3 w3) fun u1 s4 ⟨y1, H4, I4, q4, w4⟩ => thn (h2 pins s4 σ H4 y y1 u0 u1 _ I4 q2 q4 w4) fun e1 s5 ⟨z1, H5, I5, q5, k1, ez1, w5⟩ => ?_))
    subst ez1; cases q5
    refine wpAny_truthy_bool ?_
    cases k1 with
    | false => exact ite_ff ⟨.bl false, H5, I5, rfl, w5⟩
    | true => exact ite_tt (chain_last (thn (hd.run pins s5 σ H5 _ I5 w5) fun u2 s6 ⟨y2, H6, I6, q6, w6⟩ => h3 pins s6 σ H6 y1 y2 u1 u2 Q I6 q4 q6 w6))
theorem w_chain3 {r1 r2 r3 : R2} {ta tb tc td : TE} {σ : L2.St} {H : Hp} {Q : VK} (h : ta σ H fun x H1 => tb σ H1 fun y H2 => r1 x y H2 fun z H3 => ∃ k, z = .bl k ∧
  (if k = true then tc σ H3 fun u H4 => r2 y u H4 fun z2 H5 => ∃ k2, z2 = .bl k2 ∧ (if k2 = true then td σ H5 fun v H6 => r3 u v H6 Q else Q (.bl false) H5) else Q (.bl false) H3)) : tChain3 r1 r2 r3 ta tb tc td σ H Q := h
/-- tuples that stand: what is behind + and a slice stands too -/
theorem w_catT {K : PySem.W.Frag} {M G H : Hp} {a b : Addr} {xs ys : List V} {Q : VK} (j : J M G H) (h1 : SqT K G a xs) (h2 : SqT K G b ys) (z : xs.length + ys.length ≤ 1000000)
    (k : ∀ p G' H', J M G' H' → Ex G G' → SqT K G' p (xs ++ ys) → Q (.ref p) H') : uAdd K (.ref a) (.ref b) H Q :=
  .inr (.inr ⟨a, b, xs, ys, rfl, rfl, st_mono j.g h1, st_mono j.g h2, sz_le z, fun e => k b G H j (Same.refl G) (by subst e; exact h2), fun _ e => k a G H j (Same.refl G) (by subst e; rw [List.append_nil]; exact h1),
    fun _ _ p hp => k p _ _ (j.newG hp) (Ex.new (j.freeG hp)) (st_of upd_same)⟩)
theorem cut_all {xs : List V} {lo hi : Option Int} (h : HT.sIx xs.length 0 lo = 0 ∧ HT.sIx xs.length xs.length hi = xs.length) : cutV xs lo hi = xs := by
  unfold cutV
  rw [h.1, h.2]
  simp
theorem w_slTG {K : PySem.W.Frag} {M G H : Hp} {a : Addr} {xs : List V} {lo hi : Option Int} {Q : VK} (j : J M G H) (h : SqT K G a xs)
    (k : ∀ p G' H', J M G' H' → Ex G G' → SqT K G' p (cutV xs lo hi) → Q (.ref p) H') : uSl K (.ref a) lo hi H Q :=
  w_slT j h (fun e => k a G H j (Same.refl G) (by rw [cut_all e]; exact h)) fun _ => ⟨Nat.zero_le _, fun p hp => k p _ _ (j.newG hp) (Ex.new (j.freeG hp)) (st_of upd_same)⟩
theorem cut_sub {xs : List V} {lo hi : Option Int} {v : V} (h : v ∈ cutV xs lo hi) : v ∈ xs := by
  unfold cutV at h
  first
    | exact List.mem_of_mem_drop (List.mem_of_mem_take h)
    | exact List.mem_of_mem_take (List.mem_of_mem_drop h)
theorem cut_len {xs : List V} {lo hi : Option Int} : (cutV xs lo hi).length ≤ xs.length := by
  unfold cutV
  simp only [List.length_take, List.length_drop]
  omega
theorem kit_no {K : PySem.W.Frag} {A B : Addr} (h0 : (Value.ref A == Value.ref B) = false) (h1 : PySem.W.isClsIn K B = true) (h2 : PySem.W.typeIn K (.ref B) = some (.type "type")) (h3 : PySem.W.subIn K (.ref A) (.ref B) = some false) : PySem.W.kitOne K (.ref A) (.ref B) = some false := by
  have e : ((PySem.W.clsIn K B).isSome && PySem.W.typeIn K (.ref B) == some (.type "type")) = true := by rw [show (PySem.W.clsIn K B).isSome = true from h1, h2]; rfl
  unfold PySem.W.kitOne
  rw [h0, if_neg Bool.false_ne_true]
  exact (if_pos e).trans h3
end Nz

namespace Nz
open PySem L2 PySem.Spec PyProof.Rows
local macro_rules
  | `(tactic| walk_at "v") => `(tactic| first
    | with_reducible refine w_asg ?_
    | ((with_reducible refine' w_var ?h ?_); (case h => rfl))
    | with_reducible refine w_c ?_
    | with_reducible refine w_op ?_
    | with_reducible refine w_if ?_
    | with_reducible refine w_test ?_
    | with_reducible refine w_bl ?_
    | with_reducible refine w_ret ?_
    | with_reducible refine w_gName ?_
    | with_reducible refine w_call ?_
    | with_reducible refine w_acons ?_
    | with_reducible refine w_anil ?_
    | with_reducible refine w_cDict ?_
    | with_reducible refine w_cList ?_
    | with_reducible refine w_cTup ?_
    | with_reducible refine w_cSortD ?_
    | with_reducible refine w_cb ?_
    | with_reducible refine w_next ?_
    | with_reducible refine w_drop ?_
    | with_reducible refine w_gSub ?_
    | with_reducible refine w_addI ?_
    | with_reducible refine w_I0 ?_
    | ((with_reducible refine' w_I ?hc ?_); (case hc => first | decide | exact ⟨by decide, by decide⟩ | exact ⟨by decide, by decide, by decide⟩))
    | ((with_reducible refine' w_mulI ?hc ?_); (case hc => first | exact .inr (by decide) | exact .inl (by decide)))
    | with_reducible refine w_eqI ?_
    | with_reducible refine w_neI ?_
    | with_reducible refine w_U ?_
    | with_reducible refine w_un ?_
    | with_reducible refine w_and ?_
    | with_reducible refine w_or ?_
    | with_reducible refine w_not ?_
    | with_reducible refine w_andV ?_
    | with_reducible refine w_orV ?_
    | with_reducible refine w_notV ?_
    | with_reducible refine w_ifE ?_
    | with_reducible refine w_isN ?_
    | with_reducible refine w_notN ?_
    | with_reducible refine w_tB ?_
    | with_reducible refine w_chain ?_
    | with_reducible refine w_chain3 ?_
    | with_reducible refine w_callS ?_
    | with_reducible refine w_raise ?_
    | with_reducible refine w_tryA ?_
    | with_reducible refine w_tup ?_
    | with_reducible refine w_lst ?_
    | with_reducible refine w_bm ?_
    | with_reducible refine w_sl ?_
    | with_reducible refine w_retN ?_
    | with_reducible refine w_forR ?_
    | ((with_reducible refine' w_eqS ?he ?_); (case he => first | exact decide_eq_true rfl | exact decide_eq_false (by decide +kernel)))
    | with_reducible refine w_T ?_
    | with_reducible refine w_nt ?_
    | with_reducible refine w_nf ?_
    | with_reducible refine w_F ?_
    | with_reducible refine w_part ?_
    | with_reducible refine w_partX ?_
    | with_reducible refine w_nopart ?_
    | with_reducible refine w_dget1 ?_
    | with_reducible refine w_dget2 ?_
    | with_reducible refine w_dget ?_
    | with_reducible refine w_din ?_
    | with_reducible refine w_dnotin ?_
    | with_reducible refine w_dput ?_
    | with_reducible refine w_dpop2 ?_
    | with_reducible refine w_dnew ?_
    | ((with_reducible refine' w_isi true ?hh ?e ?_); (case hh => first | exact ty_int | exact ty_bl | exact ty_str | exact ty_non); (case e => rfl))
    | ((with_reducible refine' w_isi false ?hh ?e ?_); (case hh => first | exact ty_int | exact ty_bl | exact ty_str | exact ty_non); (case e => rfl))
    | with_reducible refine w_lcR ?_
    | with_reducible refine w_lcL ?_)
local macro_rules
  | `(tactic| walk_at "w") => `(tactic| first | with_reducible refine w_seq ?_ | walk_at "v")
local macro_rules
  | `(tactic| walk_at "to") => `(tactic| ((repeat walk_at "v"); (try dsimp only [Int.reduceToNat, Int.reducePow, Int.reduceNeg, Int.reduceMul]); (with_reducible show tSeq _ _ _ _ _)))
local macro_rules
  | `(tactic| walk_at "go") => `(tactic| ((repeat walk_at "w"); (try dsimp only [Int.reduceToNat, Int.reducePow, Int.reduceNeg, Int.reduceMul])))
local macro_rules
  | `(tactic| walk_at "start") => `(tactic| ((try dsimp only [cxOf]); (repeat walk_at "w"); (try dsimp only [Int.reduceToNat, Int.reducePow, Int.reduceNeg, Int.reduceMul])))
local macro_rules
  | `(tactic| walk_at "ix") => `(tactic| first
    | refine w_ixT (by assumption) (st_of (by assumption)) (by rfl) ?_
    | refine w_ixL (by assumption) (sl_of (by assumption)) (by rfl) ?_
    | refine w_ixT (by assumption) (by assumption) (by rfl) ?_
    | refine w_ixL (by assumption) (by assumption) (by rfl) ?_
    | refine w_ixM (by assumption) (by assumption) (by rfl) ?_)
local macro_rules
  | `(tactic| walk_at "gx") => `(tactic| (repeat (first | walk_at "w" | walk_at "ix")); (try dsimp only [Int.reduceToNat, Int.reducePow, Int.reduceNeg, Int.reduceMul]))

def top (i : Nat) : Stmt := PySem.Challenge.pw_wholecloth_k04_spans_and_changes.main.body.getD i (.Pass ⟨0, 0, 0, 0⟩)
/-! ### _law_mixed -/
abbrev s_law_mixed : Stmt := top 14
abbrev n_law_mixed : List Str := ["number", "k", "step"]
theorem sc_law_mixed : FnScope n_law_mixed ["number", "k"] (defScope s_law_mixed) := ⟨rfl, rfl, rfl, by decide +kernel, rfl, by decide +kernel, by decide +kernel⟩
def mixed (n k : Int) : Int :=
  ((n * 48271 + k * 69621 + 12345) % 2147483647 * ((n * 48271 + k * 69621 + 12345) % 2147483647 / 65536 + 3) + k) % 2147483647
theorem mixed_b (n k : Int) : 0 ≤ mixed n k ∧ mixed n k < 2147483647 := by
  unfold mixed
  exact ⟨Int.emod_nonneg _ (by decide), Int.emod_lt_of_pos _ (by decide)⟩
def sp_law_mixed (K : PySem.W.Frag) : Sp := Sg (α := Int × Int) (fun a vs _ _ => vs = [.int a.1, .int a.2]) (fun a M _ v M' _ => v = .int (mixed a.1 a.2) ∧ M' = M)
theorem ok_law_mixed {P : Program} {w : World} {K : PySem.W.Frag} {mg : Str → Option Value} {base : Heap}
    {f : Addr} {fd : FuncData} (D : Dn K mg "_law_mixed" s_law_mixed ["number", "k"] f fd) : Cal P w K mg base CX0 1 "_law_mixed" (sp_law_mixed K) := by
  refine D.ok sc_law_mixed (fun vs H Q E h => ?_) fun cdv A outer s H vs Q E hr h => ?_
  · obtain ⟨a, M, G, j, rfl, _⟩ := h; rfl
  obtain ⟨⟨n, k⟩, M, G, j, rfl, q⟩ := h
  refine ⟨_, (pss_cons (ps_set (i := 2) sc_law_mixed.nd rfl (Or.inl rfl) (pe_op op_mod (pe_op (op_uAddK (K := K) rfl) (pe_op (op_uAddK (K := K) rfl) (pe_op op_uMul (pv 0) pe_int) (pe_op op_uMul (pv 1) pe_int)) pe_int) pe_int))
(pss_one (ps_ret (pe_op op_mod (pe_op (op_uAddK (K := K) rfl) (pe_op op_uMul (pv 2) (pe_op (op_uAddK (K := K) rfl) (pe_op op_fdiv (pv 2) pe_int) pe_int)) (pv 1)) pe_int)))), ?_⟩
  walk_at "start"
  refine w_mulI (.inl ?_) ?_
  · have h1 := Int.emod_nonneg (n * 48271 + k * 69621 + 12345) (b := 2147483647) (by decide)
    have h2 := Int.emod_lt_of_pos (n * 48271 + k * 69621 + 12345) (b := 2147483647) (by decide)
    omega
  walk_at "go"
  exact q _ _ _ _ j (Same.refl G) ⟨rfl, rfl⟩
/-! ### _law_numbers -/
abbrev s_law_numbers : Stmt := top 15
abbrev n_law_numbers : List Str := ["script", "numbers", "cell", "rest", "k"]
theorem sc_law_numbers : FnScope n_law_numbers ["script"] (defScope s_law_numbers) := ⟨rfl, rfl, rfl, by decide +kernel, rfl, by decide +kernel, by decide +kernel⟩
def sp_law_numbers (K : PySem.W.Frag) : Sp := Sg (α := Addr × List Int) (fun a vs M G => vs = [.ref a.1] ∧ SqL K G a.1 (a.2.map V.int) ∧ a.2.length ≤ 63)
  (fun a M _ v M' G' => ∃ (t : Addr) (ns : List Int), v = .ref t ∧ G' t = some (.lst (ns.map V.int)) ∧ (∀ n ∈ ns, 0 ≤ n ∧ n < 1000000) ∧ M' = M)
theorem nums_snoc {ns : List Int} {n : Int} (h : ∀ n ∈ ns, 0 ≤ n ∧ n < 1000000) (hn : 0 ≤ n ∧ n < 1000000) : ∀ m ∈ ns ++ [n], 0 ≤ m ∧ m < 1000000 := by
  intro m hm
  rcases List.mem_append.mp hm with hm | hm
  · exact h m hm
  · rw [List.mem_singleton.mp hm]; exact hn
theorem mod_b (n : Int) : 0 ≤ n % 1000000 ∧ n % 1000000 < 1000000 := ⟨Int.emod_nonneg _ (by decide), Int.emod_lt_of_pos _ (by decide)⟩
/-- between the turns: d holds at most m numbers -/
def NumsI (M G : Hp) (a d : Addr) (m : Nat) (σ : L2.St) (H : Hp) : Prop := ∃ (ns : List Int) (G1 : Hp) (x y z : Option V), J (upd M d (.lst (ns.map V.int))) G1 H ∧ Ex G G1 ∧ (∀ n ∈ ns, 0 ≤ n ∧ n < 1000000) ∧ ns.length ≤ m ∧
  σ = [some (.ref a), some (.ref d), x, y, z]
def NumsJ (M G : Hp) (a d : Addr) (m : Nat) (c : Int) (σ : L2.St) (H : Hp) : Prop := ∃ (ns : List Int) (G1 : Hp) (y z : Option V), J (upd M d (.lst (ns.map V.int))) G1 H ∧ Ex G G1 ∧ (∀ n ∈ ns, 0 ≤ n ∧ n < 1000000) ∧ ns.length ≤ m ∧
  σ = [some (.ref a), some (.ref d), some (.int c), y, z]
def NumsR (M G : Hp) (a d : Addr) (m : Nat) (c : Int) (σ : L2.St) (H : Hp) : Prop := ∃ (ns : List Int) (G1 : Hp) (r : Int) (z : Option V), J (upd M d (.lst (ns.map V.int))) G1 H ∧ Ex G G1 ∧ (∀ n ∈ ns, 0 ≤ n ∧ n < 1000000) ∧ ns.length ≤ m ∧
  σ = [some (.ref a), some (.ref d), some (.int c), some (.int r), z]
theorem ok_law_numbers {P : Program} {w : World} {K : PySem.W.Frag} {mg : Str → Option Value} {base : Heap}
    {f : Addr} {fd : FuncData} (D : Dn K mg "_law_numbers" s_law_numbers ["script"] f fd)
    (b_range : mg "range" = none)
    (c_law_mixed : Cal P w K mg base CX0 1 "_law_mixed" (sp_law_mixed K)) : Cal P w K mg base CX0 2 "_law_numbers" (sp_law_numbers K) := by
  refine D.ok sc_law_numbers (fun vs H Q E h => ?_) fun cdv A outer s H vs Q E hr h => ?_
  · obtain ⟨a, M, G, j, ⟨rfl, _⟩, _⟩ := h; rfl
  obtain ⟨⟨a, cs⟩, M, G, j, ⟨rfl, ha, hl⟩, k⟩ := h
  refine ⟨_, (pss_cons (ps_set (i := 1) sc_law_numbers.nd rfl (Or.inl rfl) (pe_lst pa_nil))
(pss_cons (ps_for PassesOwn.never rfl (pi_list (pv 0)) (pg_name (i := 2) sc_law_numbers.nd rfl (Or.inl rfl))
(pss_one (ps_if (pt_cmpR op_ge (pv 2) (pe_op op_pow pe_int pe_int) (nomark _))
(pss_cons (ps_set (i := 3) sc_law_numbers.nd rfl (Or.inl rfl) (pv 2))
(pss_one (ps_for PassesOwn.never rfl (pi_range1 (by rfl) b_range (pa_cons pe_int pa_nil)) (pg_name (i := 4) sc_law_numbers.nd rfl (Or.inl rfl))
(pss_one (ps_if (pt_cmpR op_gt (pv 3) pe_int (nomark _))
(pss_cons (ps_expr (pe_bm PySem.F.plainAttrs_list PySem.F.slot_list_append PySem.F.type_list_append mt_append (pv 1) (pa_cons (pe_op op_mod (pv 3) pe_int) pa_nil)))
(pss_one (ps_set (i := 3) sc_law_numbers.nd rfl (Or.inl rfl) (pe_op op_fdiv (pv 3) pe_int))))
pss_nil)))))
(pss_cons (ps_expr (pe_bm PySem.F.plainAttrs_list PySem.F.slot_list_append PySem.F.type_list_append mt_append (pv 1) (pa_cons (pe_op op_mod (pv 2) pe_int) pa_nil)))
(pss_one (ps_for PassesOwn.never rfl (pi_range1 (by rfl) b_range (pa_cons pe_int pa_nil)) (pg_name (i := 4) sc_law_numbers.nd rfl (Or.inl rfl))
(pss_one (ps_expr (pe_bm PySem.F.plainAttrs_list PySem.F.slot_list_append PySem.F.type_list_append mt_append (pv 1) (pa_cons (pe_op op_mod (pe_cal c_law_mixed hr (by first | decide | omega) (by rfl) (pa_cons (pe_cal c_law_mixed hr (by first | decide | omega) (by rfl) (pa_cons (pe_op op_mod (pv 2) pe_int) (pa_cons (pv 4) pa_nil))) (pa_cons (pe_op (op_uAddK (K := K) rfl) (pv 4) pe_int) pa_nil))) pe_int) pa_nil))))))))))
(pss_one (ps_ret (pv 1))))), ?_⟩
  walk_at "start"
  refine w_newM j (by decide) fun d H1 j1 nM nG => ?_
  walk_at "go"
  refine w_forLV rfl (NumsI M G a d ∘ (60 * ·)) (xs := cs.map V.int) (sl_mono j1.g ha) ⟨[], G, _, _, _, j1, Same.refl G, by simp, Nat.le_refl _, rfl⟩ (fun i σ H _ ⟨ns, G1, _, _, _, j, e, _⟩ => sl_mono (e.trans j.g) ha) ?_ ?_
  · rintro i x σ H hi ⟨ns, G1, x0, y0, z0, j, e, hn, hz, rfl⟩
    dsimp only at ha hl
    obtain ⟨c, rfl⟩ : ∃ c, x = V.int c := by
      rw [List.getElem?_map] at hi
      cases h : cs[i]? with
      | none => rw [h] at hi; cases hi
      | some c => rw [h] at hi; exact ⟨c, (Option.some.inj hi).symm⟩
    have hi' : i < 63 := by
      have := (List.getElem?_eq_some_iff.mp hi).1
      rw [List.length_map] at this; omega
    dsimp only at hz
    walk_at "go"
    refine w_dec (fun h1 => ?_) (fun h1 => ?_)
    · walk_at "go"
      refine w_rng (fun t => NumsR M G a d (60 * i + t) c) ⟨ns, G1, c, _, j, e, hn, hz, rfl⟩ ?_ ?_
      · rintro t σ H ht ⟨ns, G1, r, z, j, e, hn, hz, rfl⟩
        have ht : t < 60 := ht
        walk_at "go"
        refine w_dec (fun h2 => ?_) (fun h2 => ?_)
        · walk_at "go"
          refine ⟨ty_listU j, ?_⟩
          walk_at "go"
          refine w_appendU j (by rw [List.length_map]; omega) fun H' j' => ?_
          walk_at "go"
          exact ⟨ns ++ [r % 1000000], G1, r / 1000000, _, by rw [← map_snoc]; exact j', e, nums_snoc hn (mod_b r), by rw [List.length_append, List.length_singleton]; omega, rfl⟩
        · walk_at "go"
          exact ⟨ns, G1, r, _, j, e, hn, by omega, rfl⟩
      · rintro σ H ⟨ns, G1, r, z, j, e, hn, hz, rfl⟩
        exact ⟨ns, G1, _, _, _, j, e, hn, hz, rfl⟩
    · walk_at "go"
      refine ⟨ty_listU j, ?_⟩
      walk_at "go"
      refine w_appendU j (by rw [List.length_map]; omega) fun H' j' => ?_
      rw [map_snoc] at j'
      walk_at "go"
      refine w_rng (fun t => NumsJ M G a d (60 * i + 1 + t) c) ⟨ns ++ [c % 1000000], G1, _, _, j', e, nums_snoc hn (mod_b c), by rw [List.length_append, List.length_singleton]; omega, rfl⟩ ?_ ?_
      · rintro t σ H ht ⟨ns, G1, y, z, j, e, hn, hz, rfl⟩
        have ht : t < 5 := ht
        walk_at "go"
        refine ⟨ty_listU j, ?_⟩
        walk_at "go"
        refine w_sg (_, _) j rfl fun v M' G' H' j2 e2 ⟨ev, em⟩ => ?_
        subst ev em
        walk_at "go"
        refine w_sg (_, _) j2 rfl fun v M' G' H' j3 e3 ⟨ev, em⟩ => ?_
        subst ev em
        walk_at "go"
        refine w_appendU j3 (by rw [List.length_map]; omega) fun H' j' => ?_
        rw [map_snoc] at j'
        exact ⟨_, _, _, _, j', (e.trans e2).trans e3, nums_snoc hn (mod_b _), by rw [List.length_append, List.length_singleton]; omega, rfl⟩
      · rintro σ H ⟨ns, G1, y, z, j, e, hn, hz, rfl⟩
        exact ⟨ns, G1, _, _, _, j, e, hn, by show ns.length ≤ 60 * (i + 1); have : ns.length ≤ 60 * i + 1 + 5 := hz; omega, rfl⟩
  · rintro σ H ⟨ns, G1, x, y, z, j, e, hn, hz, rfl⟩
    walk_at "go"
    exact k _ _ _ _ (j.freeze nM) (e.trans (Ex.new j.freezeG)) ⟨d, ns, rfl, upd_same, hn, rfl⟩
/-! ### _law_draw -/
abbrev s_law_draw : Stmt := top 16
abbrev n_law_draw : List Str := ["draws", "at", "first"]
theorem sc_law_draw : FnScope n_law_draw ["draws"] (defScope s_law_draw) := ⟨rfl, rfl, rfl, by decide +kernel, rfl, by decide +kernel, by decide +kernel⟩
/-- the law's draws: a list of the numbers and of the place -/
def Dr (K : PySem.W.Frag) (M G : Hp) (p : Addr) : Prop :=
  ∃ (q : Addr) (ns : List Int) (at_ : Int), M p = some (.lst [.ref q, .int at_]) ∧ SqL K G q (ns.map V.int) ∧ (∀ n ∈ ns, 0 ≤ n ∧ n < 1000000) ∧ 0 ≤ at_
theorem Dr.ex {K : PySem.W.Frag} {M G G' : Hp} {p : Addr} (d : Dr K M G p) (e : Ex G G') : Dr K M G' p := by
  obtain ⟨q, ns, at_, h1, h2, h3⟩ := d
  exact ⟨q, ns, at_, h1, sl_mono e h2, h3⟩
theorem Dr.upd {K : PySem.W.Frag} {M G : Hp} {p d : Addr} {o : HO} (h : Dr K M G p) (e : d ≠ p) : Dr K (upd M d o) G p := by
  obtain ⟨q, ns, at_, h1, h2, h3⟩ := h
  exact ⟨q, ns, at_, upd_ne' h1 e.symm, h2, h3⟩
theorem Dr.del {K : PySem.W.Frag} {M G : Hp} {p d : Addr} (h : Dr K M G p) (e : d ≠ p) : Dr K (del M d) G p := by
  obtain ⟨q, ns, at_, h1, h2, h3⟩ := h
  exact ⟨q, ns, at_, (del_ne e.symm).trans h1, h2, h3⟩
theorem Dr.ne {K : PySem.W.Frag} {M G : Hp} {p d : Addr} (h : Dr K M G p) (e : M d = none) : d ≠ p := by
  obtain ⟨q, ns, at_, h1, h2, h3⟩ := h
  exact (ne_of_none h1 e).symm
def sp_law_draw (K : PySem.W.Frag) : Sp := Sg (α := Addr) (fun p vs M G => vs = [.ref p] ∧ Dr K M G p)
  (fun p M _ v M' G' => ∃ n : Int, v = .int n ∧ 0 ≤ n ∧ n < 1000000 ∧ Dr K M' G' p ∧ Ag p M M')
theorem atI_map {ns : List Int} {i : Int} (h0 : 0 ≤ i) (h1 : i < ns.length) : ∃ n, n ∈ ns ∧ atI (ns.map V.int) i = some (.int n) := by
  obtain ⟨k, rfl⟩ : ∃ k : Nat, i = k := ⟨i.toNat, by omega⟩
  have hk : k < ns.length := by omega
  refine ⟨ns[k], List.getElem_mem hk, atI_nat ?_⟩
  rw [List.getElem?_map, List.getElem?_eq_getElem hk]; rfl
theorem use_draw {K : PySem.W.Frag} {M G H : Hp} {p : Addr} {Q : VK} {E : XK} (j : J M G H) (d : Dr K M G p)
    (k : ∀ (n : Int) (M' G' H' : Hp), 0 ≤ n → n < 1000000 → J M' G' H' → Ex G G' → Dr K M' G' p → Ag p M M' → Q (.int n) H') : sp_law_draw K ([.ref p] ++ []) H Q E :=
  w_sg p j ⟨rfl, d⟩ fun v M' G' H' j' e ⟨n, ev, h0, h1, d', ag⟩ => by subst ev; exact k n M' G' H' h0 h1 j' e d' ag
/-- what a def that draws promises: a value of which Pv holds -/
def Dg (K : PySem.W.Frag) (Pv : V → Hp → Prop) : Sp := Sg (α := Addr) (fun p vs M G => vs = [.ref p] ∧ Dr K M G p) (fun p M _ v M' G' => Pv v G' ∧ Dr K M' G' p ∧ Ag p M M')
theorem use_dg {K : PySem.W.Frag} {M G H : Hp} {p : Addr} {Q : VK} {E : XK} {Pv : V → Hp → Prop} (j : J M G H) (d : Dr K M G p)
    (k : ∀ (v : V) (M' G' H' : Hp), Pv v G' → J M' G' H' → Ex G G' → Dr K M' G' p → Ag p M M' → Q v H') : Dg K Pv ([.ref p] ++ []) H Q E :=
  w_sg p j ⟨rfl, d⟩ fun v M' G' H' j' e ⟨h, d', ag⟩ => k v M' G' H' h j' e d' ag
/-- .. with the law's keys -/
def KeysAt (K : PySem.W.Frag) (G : Hp) (t : Addr) (ks : List Int) : Prop := SqL K G t (ks.map V.int) ∧ (∀ k ∈ ks, 0 ≤ k ∧ k < 1000) ∧ 3 ≤ ks.length ∧ ks.length ≤ 15
theorem KeysAt.ex {K : PySem.W.Frag} {G G' : Hp} {t : Addr} {ks : List Int} (h : KeysAt K G t ks) (e : Ex G G') : KeysAt K G' t ks := ⟨sl_mono e h.1, h.2⟩
def Dk (K : PySem.W.Frag) (Pv : V → Hp → Prop) : Sp := Sg (α := Addr × Addr × List Int) (fun a vs M G => vs = [.ref a.1, .ref a.2.1] ∧ Dr K M G a.1 ∧ KeysAt K G a.2.1 a.2.2) (fun a M _ v M' G' => Pv v G' ∧ Dr K M' G' a.1 ∧ Ag a.1 M M')
theorem use_dk {K : PySem.W.Frag} {M G H : Hp} {p t : Addr} {ks : List Int} {Q : VK} {E : XK} {Pv : V → Hp → Prop} (j : J M G H) (d : Dr K M G p) (hk : KeysAt K G t ks)
    (k : ∀ (v : V) (M' G' H' : Hp), Pv v G' → J M' G' H' → Ex G G' → Dr K M' G' p → Ag p M M' → Q v H') : Dk K Pv ([.ref p, .ref t] ++ []) H Q E :=
  w_sg (p, t, ks) j ⟨rfl, d, hk⟩ fun v M' G' H' j' e ⟨h, d', ag⟩ => k v M' G' H' h j' e d' ag
theorem ok_law_draw {P : Program} {w : World} {K : PySem.W.Frag} {mg : Str → Option Value} {base : Heap}
    {f : Addr} {fd : FuncData} (D : Dn K mg "_law_draw" s_law_draw ["draws"] f fd)
    (b_len : mg "len" = none)
    (c_law_mixed : Cal P w K mg base CX0 1 "_law_mixed" (sp_law_mixed K)) : Cal P w K mg base CX0 2 "_law_draw" (sp_law_draw K) := by
  refine D.ok sc_law_draw (fun vs H Q E h => ?_) fun cdv A outer s H vs Q E hr h => ?_
  · obtain ⟨p, M, G, j, ⟨rfl, _⟩, _⟩ := h; rfl
  obtain ⟨p, M, G, j, ⟨rfl, q, ns, at_, hp, hq, hn, h0⟩, k⟩ := h
  refine ⟨_, (pss_cons (ps_set (i := 1) sc_law_draw.nd rfl (Or.inl rfl) (pe_ix (ix_uK (K := K) rfl) (pv 0) pe_int (fun _ _ => rfl)))
(pss_cons (ps_asg (pe_op (op_uAddK (K := K) rfl) (pv 1) pe_int) (pg_sub (pv 0) pe_int set_list))
(pss_cons (ps_if (pt_cmpR op_lt (pv 1) (pe_callB (call_uLenK (K := K) rfl) (by rfl) b_len PySem.boot_len (pa_cons (pe_ix (ix_uK (K := K) rfl) (pv 0) pe_int (fun _ _ => rfl)) pa_nil)) (nomark _))
(pss_one (ps_ret (pe_ix (ix_uK (K := K) rfl) (pe_ix (ix_uK (K := K) rfl) (pv 0) pe_int (fun _ _ => rfl)) (pv 1) (fun _ _ => rfl))))
pss_nil)
(pss_cons (ps_set (i := 2) sc_law_draw.nd rfl (Or.inl rfl) (pe_op (op_uAddK (K := K) rfl) pe_int (pv 1)))
(pss_cons (ps_if (pt_cmpR op_gt (pe_callB (call_uLenK (K := K) rfl) (by rfl) b_len PySem.boot_len (pa_cons (pe_ix (ix_uK (K := K) rfl) (pv 0) pe_int (fun _ _ => rfl)) pa_nil)) pe_int (nomark _))
(pss_one (ps_set (i := 2) sc_law_draw.nd rfl (Or.inl rfl) (pe_op (op_uAddK (K := K) rfl) (pv 2) (pe_op op_uMul pe_int (pe_ix (ix_uK (K := K) rfl) (pe_ix (ix_uK (K := K) rfl) (pv 0) pe_int (fun _ _ => rfl)) pe_int (fun _ _ => rfl))))))
pss_nil)
(pss_one (ps_ret (pe_op op_mod (pe_cal c_law_mixed hr (by first | decide | omega) (by rfl) (pa_cons (pe_cal c_law_mixed hr (by first | decide | omega) (by rfl) (pa_cons (pv 2) (pa_cons (pv 1) pa_nil))) (pa_cons pe_int pa_nil))) pe_int)))))))), ?_⟩
  walk_at "start"
  refine w_ixM j hp (by rfl) ?_
  walk_at "go"
  refine w_setM j hp (by rfl) fun H1 j1 => ?_
  walk_at "go"
  refine w_ixM j1 upd_same (by rfl) ?_
  walk_at "go"
  refine w_lenL j1 hq ?_
  walk_at "go"
  have dr : Dr K (upd M p (.lst [.ref q, .int (at_ + 1)])) G p := ⟨q, ns, _, upd_same, hq, hn, by omega⟩
  refine w_dec (fun hlt => ?_) (fun hlt => ?_)
  · walk_at "go"
    refine w_ixM j1 upd_same (by rfl) ?_
    walk_at "go"
    rw [List.length_map] at hlt
    obtain ⟨n, hm, e⟩ := atI_map h0 hlt
    refine w_ixL j1 hq e ?_
    exact k _ _ _ _ j1 (Same.refl G) ⟨n, rfl, (hn n hm).1, (hn n hm).2, dr, Ag.upd⟩
  · walk_at "go"
    refine w_ixM j1 upd_same (by rfl) ?_
    walk_at "go"
    refine w_lenL j1 hq ?_
    walk_at "go"
    refine w_dec (fun hl => ?_) (fun hl => ?_)
    · walk_at "go"
      refine w_ixM j1 upd_same (by rfl) ?_
      walk_at "go"
      rw [List.length_map] at hl
      obtain ⟨n, hm, e⟩ := atI_map (ns := ns) (i := 0) (by omega) hl
      refine w_ixL j1 hq e ?_
      walk_at "go"
      refine w_sg (_, _) j1 rfl fun v M' G' H' j2 e2 ⟨ev, em⟩ => ?_
      subst ev em
      walk_at "go"
      refine w_sg (_, _) j2 rfl fun v M' G' H' j3 e3 ⟨ev, em⟩ => ?_
      subst ev em
      walk_at "go"
      exact k _ _ _ _ j3 (e2.trans e3) ⟨_, rfl, Int.emod_nonneg _ (by decide), Int.emod_lt_of_pos _ (by decide), dr.ex (e2.trans e3), Ag.upd⟩
    · walk_at "go"
      refine w_sg (_, _) j1 rfl fun v M' G' H' j2 e2 ⟨ev, em⟩ => ?_
      subst ev em
      walk_at "go"
      refine w_sg (_, _) j2 rfl fun v M' G' H' j3 e3 ⟨ev, em⟩ => ?_
      subst ev em
      walk_at "go"
      exact k _ _ _ _ j3 (e2.trans e3) ⟨_, rfl, Int.emod_nonneg _ (by decide), Int.emod_lt_of_pos _ (by decide), dr.ex (e2.trans e3), Ag.upd⟩
/-! ### _law_keys -/
abbrev s_law_keys : Stmt := top 24
abbrev n_law_keys : List Str := ["draws", "keys", "k"]
theorem sc_law_keys : FnScope n_law_keys ["draws"] (defScope s_law_keys) := ⟨rfl, rfl, rfl, by decide +kernel, rfl, by decide +kernel, by decide +kernel⟩
def sp_law_keys (K : PySem.W.Frag) : Sp := Dg K fun v G => ∃ t ks, v = .ref t ∧ KeysAt K G t ks
def KeysI (K : PySem.W.Frag) (M G : Hp) (p d : Addr) (m : Nat) (σ : L2.St) (H : Hp) : Prop := ∃ (ks : List Int) (M1 G1 : Hp) (y z : Option V), J M1 G1 H ∧ M1 d = some (.lst (ks.map V.int)) ∧ Ex G G1 ∧ Dr K M1 G1 p ∧ Ag2 p d M M1 ∧
  (∀ k ∈ ks, 0 ≤ k ∧ k < 1000) ∧ ks.length = m + 3 ∧ σ = [some (.ref p), some (.ref d), z]
theorem keys_snoc {ns : List Int} {n : Int} (h : ∀ n ∈ ns, 0 ≤ n ∧ n < 1000) (hn : 0 ≤ n ∧ n < 1000) : ∀ m ∈ ns ++ [n], 0 ≤ m ∧ m < 1000 := by
  intro m hm
  rcases List.mem_append.mp hm with hm | hm
  · exact h m hm
  · rw [List.mem_singleton.mp hm]; exact hn
theorem ok_law_keys {P : Program} {w : World} {K : PySem.W.Frag} {mg : Str → Option Value} {base : Heap}
    {f : Addr} {fd : FuncData} (D : Dn K mg "_law_keys" s_law_keys ["draws"] f fd)
    (b_range : mg "range" = none)
    (c_law_draw : Cal P w K mg base CX0 2 "_law_draw" (sp_law_draw K)) : Cal P w K mg base CX0 3 "_law_keys" (sp_law_keys K) := by
  refine D.ok sc_law_keys (fun vs H Q E h => ?_) fun cdv A outer s H vs Q E hr h => ?_
  · obtain ⟨p, M, G, j, ⟨rfl, _⟩, _⟩ := h; rfl
  obtain ⟨p, M, G, j, ⟨rfl, d⟩, k⟩ := h
  refine ⟨_, (pss_cons (ps_set (i := 1) sc_law_keys.nd rfl (Or.inl rfl) (pe_lst (pa_cons pe_int (pa_cons pe_int (pa_cons pe_int pa_nil)))))
(pss_cons (ps_for PassesOwn.never rfl (pi_range1 (by rfl) b_range (pa_cons (pe_ix (ix_uK (K := K) rfl) (pe_lst (pa_cons pe_int (pa_cons pe_int (pa_cons pe_int (pa_cons pe_int pa_nil))))) (pe_op op_mod (pe_cal c_law_draw hr (by first | decide | omega) (by rfl) (pa_cons (pv 0) pa_nil)) pe_int) (fun _ _ => rfl)) pa_nil)) (pg_name (i := 2) sc_law_keys.nd rfl (Or.inl rfl))
(pss_one (ps_expr (pe_bm PySem.F.plainAttrs_list PySem.F.slot_list_append PySem.F.type_list_append mt_append (pv 1) (pa_cons (pe_op op_mod (pe_cal c_law_draw hr (by first | decide | omega) (by rfl) (pa_cons (pv 0) pa_nil)) pe_int) pa_nil)))))
(pss_one (ps_ret (pv 1))))), ?_⟩
  walk_at "start"
  refine w_newM j (by decide) fun L H1 j1 nM nG => ?_
  walk_at "go"
  have nLp : L ≠ p := d.ne nM
  refine w_new j1 (by decide) fun q G2 H2 j2 e2 hq nq => ?_
  walk_at "go"
  refine use_draw j2 ((d.ex e2).upd nLp) fun n M3 G3 H3 n0 n1 j3 e3 d3 a3 => ?_
  walk_at "go"
  have hp : 0 ≤ n % 4 ∧ n % 4 < 4 := ⟨Int.emod_nonneg _ (by decide), Int.emod_lt_of_pos _ (by decide)⟩
  generalize n % 4 = pick at hp ⊢
  obtain ⟨c, hc, hat⟩ : ∃ c : Int, (c = 4 ∨ c = 12) ∧ atI [V.int 4, .int 4, .int 4, .int 12] pick = some (.int c) := by
    have : pick = 0 ∨ pick = 1 ∨ pick = 2 ∨ pick = 3 := by omega
    rcases this with rfl | rfl | rfl | rfl
    · exact ⟨4, .inl rfl, rfl⟩
    · exact ⟨4, .inl rfl, rfl⟩
    · exact ⟨4, .inl rfl, rfl⟩
    · exact ⟨12, .inr rfl, rfl⟩
  refine w_ixL j3 (sl_of (e3 _ _ hq)) hat ?_
  walk_at "go"
  have hL3 : M3 L = some (.lst [.int 0, .int 999, .int 500]) := (a3 L nLp).trans upd_same
  refine w_rng (KeysI K M G p L) ?_ ?_ ?_ (by omega) (by omega)
  · exact ⟨[0, 999, 500], M3, G3, none, _, j3, hL3, e2.trans e3, d3, (Ag2.refl p L M).upd.ag a3, by decide, rfl, rfl⟩
  · rintro i σ H hi ⟨ks, M1, G1, y, z, j, hL, e, d, a, hk, hl, rfl⟩
    walk_at "go"
    refine ⟨ty_listM j hL, ?_⟩
    walk_at "go"
    refine use_draw j d fun n M4 G4 H4 n0 n1 j4 e4 d4 a4 => ?_
    walk_at "go"
    refine w_appendA j4 (a4.at hL nLp) (by rw [List.length_map]; omega) fun H5 j5 => ?_
    rw [map_snoc] at j5
    exact ⟨ks ++ [n % 1000], _, G4, none, _, j5, upd_same, e.trans e4, d4.upd nLp, (a.ag a4).upd, keys_snoc hk ⟨Int.emod_nonneg _ (by decide), Int.emod_lt_of_pos _ (by decide)⟩, by rw [List.length_append, List.length_singleton, hl], rfl⟩
  · rintro σ H ⟨ks, M1, G1, y, z, j, hL, e, d, a, hk, hl, rfl⟩
    walk_at "go"
    refine k _ _ _ _ (j.seal hL) (e.trans (Ex.new (j.out hL))) ⟨⟨L, ks, rfl, sl_of upd_same, hk, by omega, by omega⟩, (d.del nLp).ex (Ex.new (j.out hL)), a.del nM⟩
/-! ### keys, values -/
def IsVal (n : Int) : Prop := -1000000000000000000 ≤ n ∧ n ≤ 1000000000000000000
instance (n : Int) : Decidable (IsVal n) := inferInstanceAs (Decidable (_ ∧ _))
def IsKey (n : Int) : Prop := 0 ≤ n ∧ n < 1000
def ov : Option Int → V
  | none => .non
  | some n => .int n
def OkV : Option Int → Prop
  | none => True
  | some n => IsVal n
/-! ### tables of values -/
def look (kv : List (Int × Int)) (k : Int) : Option Int := (kv.find? fun p => decide (p.1 = k)).map (·.2)
def putI (kv : List (Int × Int)) (k v : Int) : List (Int × Int) := if (look kv k).isSome then kv.map (fun p => if p.1 = k then (p.1, v) else p) else kv ++ [(k, v)]
def dropI (kv : List (Int × Int)) (k : Int) : List (Int × Int) := kv.filter fun p => decide (p.1 ≠ k)
def tk (kv : List (Int × Int)) : List (Key × V) := kv.map fun p => ((Sum.inl p.1 : Key), V.int p.2)
theorem look_nil (k : Int) : look [] k = none := rfl
theorem look_cons (p : Int × Int) (r : List (Int × Int)) (k : Int) : look (p :: r) k = if p.1 = k then some p.2 else look r k := by
  unfold look; rw [List.find?_cons]
  by_cases h : p.1 = k
  · rw [decide_eq_true h, if_pos h]; rfl
  · rw [decide_eq_false h, if_neg h]
theorem tk_look : ∀ (kv : List (Int × Int)) (k : Int), valV (tk kv) (.inl k) = (look kv k).map V.int
  | [], k => rfl
  | p :: r, k => by
    show valV (((Sum.inl p.1 : Key), V.int p.2) :: tk r) (.inl k) = _
    rw [look_cons]
    by_cases h : p.1 = k
    · rw [valV_pos (by rw [h]), if_pos h]; rfl
    · rw [valV_neg (fun z => h (Sum.inl.inj z)), if_neg h]; exact tk_look r k
theorem tk_put (kv : List (Int × Int)) (k v : Int) : putK (tk kv) (.inl k) (.int v) = tk (putI kv k v) := by
  have ha : ((tk kv).any fun kv => decide (kv.1 = (Sum.inl k : Key))) = (look kv k).isSome := by rw [valV_any, tk_look]; cases look kv k <;> rfl
  unfold putK putI
  rw [ha]
  cases look kv k with
  | none => show tk kv ++ _ = tk (kv ++ [(k, v)]); unfold tk; rw [List.map_append]; rfl
  | some x =>
    show (tk kv).map _ = tk (kv.map _)
    unfold tk
    rw [List.map_map, List.map_map]
    refine List.map_congr_left fun p _ => ?_
    show (if (Sum.inl p.1 : Key) = Sum.inl k then ((Sum.inl p.1 : Key), V.int v) else ((Sum.inl p.1 : Key), V.int p.2)) = (((Sum.inl (if p.1 = k then (p.1, v) else p).1 : Key)), V.int (if p.1 = k then (p.1, v) else p).2)
    by_cases h : p.1 = k
    · rw [if_pos (by rw [h]), if_pos h]
    · rw [if_neg (fun z => h (Sum.inl.inj z)), if_neg h]
theorem tk_drop : ∀ (kv : List (Int × Int)) (k : Int), dropK (tk kv) (.inl k) = tk (dropI kv k)
  | [], k => rfl
  | p :: r, k => by
    show dropK (((Sum.inl p.1 : Key), V.int p.2) :: tk r) (.inl k) = _
    unfold dropI
    rw [List.filter_cons]
    by_cases h : p.1 = k
    · rw [dropK_pos (by rw [h]), if_neg (by simp [h])]; exact tk_drop r k
    · rw [dropK_neg (fun z => h (Sum.inl.inj z)), if_pos (by simp [h])]
      show _ = ((Sum.inl p.1 : Key), V.int p.2) :: tk (dropI r k)
      rw [tk_drop r k]
theorem tk_len (kv : List (Int × Int)) : (tk kv).length = kv.length := List.length_map _
theorem tk_keys (kv : List (Int × Int)) : (tk kv).map (·.1) = (kv.map (·.1)).map Sum.inl := by unfold tk; rw [List.map_map, List.map_map]; rfl
theorem look_mem : ∀ {kv : List (Int × Int)} {k v : Int}, look kv k = some v → (k, v) ∈ kv
  | [], k, v, h => by cases h
  | p :: r, k, v, h => by
    rw [look_cons] at h
    by_cases e : p.1 = k
    · rw [if_pos e] at h
      have : p = (k, v) := by rw [← e, ← Option.some.inj h]
      rw [this]; exact List.mem_cons_self
    · rw [if_neg e] at h; exact List.mem_cons_of_mem _ (look_mem h)
theorem look_none : ∀ {kv : List (Int × Int)} {k : Int}, look kv k = none ↔ k ∉ kv.map (·.1)
  | [], k => by simp [look]
  | p :: r, k => by
    rw [look_cons, List.map_cons, List.mem_cons]
    by_cases e : p.1 = k
    · rw [if_pos e]; simp [e]
    · rw [if_neg e, look_none]
      constructor
      · intro h z; rcases z with z | z
        · exact e z.symm
        · exact h z
      · intro h z; exact h (.inr z)
theorem mem_look : ∀ {kv : List (Int × Int)} {k v : Int}, (kv.map (·.1)).Nodup → (k, v) ∈ kv → look kv k = some v
  | [], k, v, _, h => by cases h
  | p :: r, k, v, hn, h => by
    rw [List.map_cons, List.nodup_cons] at hn
    rw [look_cons]
    rcases List.mem_cons.mp h with rfl | h
    · rw [if_pos rfl]
    · by_cases e : p.1 = k
      · exact absurd (by rw [e]; exact List.mem_map_of_mem (f := (·.1)) h) hn.1
      · rw [if_neg e]; exact mem_look hn.2 h
theorem put_keys_old {kv : List (Int × Int)} {k v : Int} (h : (look kv k).isSome = true) : (putI kv k v).map (·.1) = kv.map (·.1) := by
  unfold putI; rw [if_pos h, List.map_map]
  refine List.map_congr_left fun p _ => ?_
  show (if p.1 = k then (p.1, v) else p).1 = p.1
  by_cases e : p.1 = k
  · rw [if_pos e]
  · rw [if_neg e]
theorem put_new {kv : List (Int × Int)} {k v : Int} (h : look kv k = none) : putI kv k v = kv ++ [(k, v)] := by unfold putI; rw [h]; rfl
theorem look_map (k v j : Int) : ∀ kv : List (Int × Int), look (kv.map fun p => if p.1 = k then (p.1, v) else p) j = (look kv j).map fun x => if j = k then v else x
  | [] => rfl
  | p :: r => by
    rw [List.map_cons, look_cons, look_cons]
    by_cases e : p.1 = k
    · rw [if_pos e]
      by_cases f : p.1 = j
      · rw [if_pos f, if_pos f]; show some v = some (if j = k then v else p.2); rw [if_pos (f.symm.trans e)]
      · rw [if_neg f, if_neg f]; exact look_map k v j r
    · rw [if_neg e]
      by_cases f : p.1 = j
      · rw [if_pos f, if_pos f]; show some p.2 = some (if j = k then v else p.2); rw [if_neg (fun z => e (f.trans z))]
      · rw [if_neg f, if_neg f]; exact look_map k v j r
theorem look_snoc (k v j : Int) : ∀ kv : List (Int × Int), look (kv ++ [(k, v)]) j = (look kv j).or (if k = j then some v else none)
  | [] => by rw [List.nil_append, look_cons]; rfl
  | p :: r => by
    rw [List.cons_append, look_cons, look_cons]
    by_cases f : p.1 = j
    · rw [if_pos f, if_pos f]; rfl
    · rw [if_neg f, if_neg f]; exact look_snoc k v j r
theorem look_put (kv : List (Int × Int)) (k v j : Int) : look (putI kv k v) j = if j = k then some v else look kv j := by
  cases h : look kv k with
  | some x =>
    unfold putI; rw [h, if_pos (show (some x).isSome = true from rfl), look_map]
    by_cases e : j = k
    · subst e; rw [h, if_pos rfl]; show some (if j = j then v else x) = _; rw [if_pos rfl]
    · rw [if_neg e]; cases look kv j with
      | none => rfl
      | some y => show some (if j = k then v else y) = _; rw [if_neg e]
  | none =>
    rw [put_new h, look_snoc]
    by_cases e : j = k
    · subst e; rw [h, if_pos rfl]; rfl
    · rw [if_neg (fun z => e z.symm), if_neg e]; cases look kv j <;> rfl
theorem look_drop (k j : Int) : ∀ kv : List (Int × Int), look (dropI kv k) j = if j = k then none else look kv j
  | [] => by rw [show dropI [] k = [] from rfl, look_nil]; split <;> rfl
  | p :: r => by
    unfold dropI
    rw [List.filter_cons]
    by_cases e : p.1 = k
    · rw [if_neg (by simp [e])]
      show look (dropI r k) j = _
      rw [look_drop k j r, look_cons]
      by_cases f : j = k
      · rw [if_pos f, if_pos f]
      · rw [if_neg f, if_neg f, if_neg (fun z => f (z.symm.trans e))]
    · rw [if_pos (by simp [e]), look_cons]
      show (if p.1 = j then some p.2 else look (dropI r k) j) = _
      rw [look_drop k j r, look_cons]
      by_cases f : p.1 = j
      · rw [if_pos f, if_pos f, if_neg (fun z => e (f.trans z))]
      · rw [if_neg f, if_neg f]
/-- keys once, keys and values within their bounds, not too many -/
structure TabOk (kv : List (Int × Int)) (n : Nat) : Prop where
  nd : (kv.map (·.1)).Nodup
  ok : ∀ p ∈ kv, IsKey p.1 ∧ IsVal p.2
  len : kv.length ≤ n
theorem TabOk.nil : TabOk [] 0 := ⟨List.nodup_nil, fun p h => (by cases h), Nat.le_refl _⟩
theorem TabOk.mono {kv : List (Int × Int)} {n m : Nat} (h : TabOk kv n) (e : n ≤ m) : TabOk kv m := ⟨h.nd, h.ok, Nat.le_trans h.len e⟩
theorem put_len (kv : List (Int × Int)) (k v : Int) : (putI kv k v).length ≤ kv.length + 1 := by
  unfold putI; split
  · rw [List.length_map]; omega
  · rw [List.length_append]; exact Nat.le_refl _
theorem TabOk.put {kv : List (Int × Int)} {n : Nat} {k v : Int} (h : TabOk kv n) (hk : IsKey k) (hv : IsVal v) : TabOk (putI kv k v) (n + 1) := by
  refine ⟨?_, ?_, Nat.le_trans (put_len kv k v) (Nat.succ_le_succ h.len)⟩
  · cases e : look kv k with
    | some x => rw [put_keys_old (by rw [e]; rfl)]; exact h.nd
    | none =>
      rw [put_new e, List.map_append]
      exact nd_snoc h.nd (look_none.mp e)
  · intro p hp
    unfold putI at hp
    split at hp
    · obtain ⟨q, hq, e⟩ := List.mem_map.mp hp
      have := h.ok q hq
      by_cases c : q.1 = k
      · rw [if_pos c] at e; rw [← e]; exact ⟨this.1, hv⟩
      · rw [if_neg c] at e; rw [← e]; exact this
    · rcases List.mem_append.mp hp with hp | hp
      · exact h.ok p hp
      · rw [List.mem_singleton.mp hp]; exact ⟨hk, hv⟩
theorem TabOk.drop {kv : List (Int × Int)} {n : Nat} {k : Int} (h : TabOk kv n) : TabOk (dropI kv k) n := by
  refine ⟨?_, fun p hp => h.ok p (List.mem_filter.mp hp).1, Nat.le_trans (List.length_filter_le _ _) h.len⟩
  have hs : ((dropI kv k).map (·.1)).Sublist (kv.map (·.1)) := (List.filter_sublist (l := kv)).map _
  exact hs.nodup h.nd
/-- a table as a function -/
abbrev Fn := Int → Option Int
def Rep (kv : List (Int × Int)) (m : Fn) : Prop := ∀ k, look kv k = m k
def setM (m : Fn) (k : Int) (v : Option Int) : Fn := fun j => if j = k then v else m j
theorem Rep.put {kv : List (Int × Int)} {m : Fn} {k v : Int} (h : Rep kv m) : Rep (putI kv k v) (setM m k (some v)) := fun j => by rw [look_put, h j]; rfl
theorem Rep.drop {kv : List (Int × Int)} {m : Fn} {k : Int} (h : Rep kv m) : Rep (dropI kv k) (setM m k none) := fun j => by rw [look_drop, h j]; rfl
/-- the keys of a table, within borders, ascending, with their values -/
def scanM (m : Fn) (lo hi : Int) : List (Int × Int) := (List.range 1000).filterMap fun (i : Nat) => if lo ≤ (i : Int) ∧ (i : Int) < hi then (m i).map fun v => ((i : Int), v) else none
theorem scan_mem {m : Fn} {lo hi : Int} {p : Int × Int} : p ∈ scanM m lo hi ↔ 0 ≤ p.1 ∧ p.1 < 1000 ∧ lo ≤ p.1 ∧ p.1 < hi ∧ m p.1 = some p.2 := by
  unfold scanM
  rw [List.mem_filterMap]
  constructor
  · rintro ⟨i, hi', e⟩
    rw [List.mem_range] at hi'
    split at e
    · rename_i hb
      cases hm : m i with
      | none => rw [hm] at e; cases e
      | some v =>
        rw [hm] at e
        have e := Option.some.inj e
        subst e
        exact ⟨by show (0 : Int) ≤ (i : Int); omega, by show (i : Int) < 1000; omega, hb.1, hb.2, hm⟩
    · cases e
  · rintro ⟨h0, h1, h2, h3, h4⟩
    refine ⟨p.1.toNat, by rw [List.mem_range]; omega, ?_⟩
    have e : ((p.1.toNat : Nat) : Int) = p.1 := by omega
    rw [e, if_pos ⟨h2, h3⟩, h4]; rfl
theorem scan_sorted (m : Fn) (lo hi : Int) : (scanM m lo hi).Pairwise fun p q => p.1 < q.1 := by
  unfold scanM
  rw [List.pairwise_filterMap]
  refine List.Pairwise.imp (R := fun a b => a < b) ?_ List.pairwise_lt_range
  intro a b h x hx y hy
  split at hx
  · split at hy
    · cases ha : m a with
      | none => rw [ha] at hx; cases hx
      | some u =>
        cases hb : m b with
        | none => rw [hb] at hy; cases hy
        | some v =>
          rw [ha] at hx; rw [hb] at hy
          cases hx; cases hy
          show (a : Int) < b; omega
    · cases hy
  · cases hx
/-- two ascending lists with the same members are one -/
theorem asc_unique : ∀ {xs ys : List (Int × Int)}, xs.Pairwise (fun p q => p.1 < q.1) → ys.Pairwise (fun p q => p.1 < q.1) → (∀ p, p ∈ xs ↔ p ∈ ys) → xs = ys
  | [], [], _, _, _ => rfl
  | [], y :: ys, _, _, h => by have := (h y).mpr List.mem_cons_self; cases this
  | x :: xs, [], _, _, h => by have := (h x).mp List.mem_cons_self; cases this
  | x :: xs, y :: ys, hx, hy, h => by
    rw [List.pairwise_cons] at hx hy
    have e : x = y := by
      rcases List.mem_cons.mp ((h x).mp List.mem_cons_self) with e | m1
      · exact e
      · rcases List.mem_cons.mp ((h y).mpr List.mem_cons_self) with e | m2
        · exact e.symm
        · have := hy.1 x m1; have := hx.1 y m2; omega
    subst e
    congr 1
    refine asc_unique hx.2 hy.2 fun p => ?_
    constructor
    · intro hp
      rcases List.mem_cons.mp ((h p).mp (List.mem_cons_of_mem _ hp)) with e | q
      · have := hx.1 p hp; rw [e] at this; omega
      · exact q
    · intro hp
      rcases List.mem_cons.mp ((h p).mpr (List.mem_cons_of_mem _ hp)) with e | q
      · have := hy.1 p hp; rw [e] at this; omega
      · exact q
/-- the rows that a comprehension over the sorted keys gives -/
def rowsOf (kv : List (Int × Int)) (ys : List Int) (lo hi : Int) : List (Int × Int) := ys.filterMap fun k => if lo ≤ k ∧ k < hi then (look kv k).map fun v => (k, v) else none
theorem rows_eq {kv : List (Int × Int)} {m : Fn} {n : Nat} {ys : List Int} {lo hi : Int} (h : TabOk kv n) (r : Rep kv m) (hp : ys.Perm (kv.map (·.1))) (hs : ys.Pairwise (· ≤ ·)) : rowsOf kv ys lo hi = scanM m lo hi := by
  have hnd : ys.Nodup := hp.nodup_iff.mpr h.nd
  have hlt : ys.Pairwise (· < ·) := by
    refine List.Pairwise.imp₂ (R := fun a b => a ≤ b) (S := fun a b => a ≠ b) (fun a b h1 h2 => by omega) hs hnd
  refine asc_unique ?_ (scan_sorted m lo hi) fun p => ?_
  · unfold rowsOf
    rw [List.pairwise_filterMap]
    refine List.Pairwise.imp (R := fun a b => a < b) ?_ hlt
    intro a b h x hx y hy
    split at hx
    · split at hy
      · cases ha : look kv a with
        | none => rw [ha] at hx; cases hx
        | some u =>
          cases hb : look kv b with
          | none => rw [hb] at hy; cases hy
          | some v =>
            rw [ha] at hx; rw [hb] at hy
            cases hx; cases hy
            exact h
      · cases hy
    · cases hx
  · rw [scan_mem]
    unfold rowsOf
    rw [List.mem_filterMap]
    constructor
    · rintro ⟨k, hk, e⟩
      split at e
      · rename_i hb
        cases hm : look kv k with
        | none => rw [hm] at e; cases e
        | some v =>
          rw [hm] at e
          have e := Option.some.inj e
          subst e
          have hk2 := (h.ok _ (look_mem hm)).1
          exact ⟨hk2.1, hk2.2, hb.1, hb.2, by rw [← r k]; exact hm⟩
      · cases e
    · rintro ⟨h0, h1, h2, h3, h4⟩
      have hl : look kv p.1 = some p.2 := by rw [r]; exact h4
      refine ⟨p.1, hp.mem_iff.mpr (List.mem_map_of_mem (f := (·.1)) (look_mem hl)), ?_⟩
      rw [if_pos ⟨h2, h3⟩, hl]; rfl
theorem scal_ov (x y : Option Int) : scal (ov x) (ov y) = true := by cases x <;> cases y <;> rfl
theorem dec_ov (x y : Option Int) : decide (ov x = ov y) = decide (x = y) := by
  refine decide_eq_decide.mpr ⟨fun h => ?_, fun h => h ▸ rfl⟩
  cases x <;> cases y
  · rfl
  · cases h
  · cases h
  · exact congrArg some (V.int.inj h)
theorem ov_get (o : Option Int) : (o.map V.int).getD .non = ov o := by cases o <;> rfl
/-! ### _law_value -/
abbrev s_law_value : Stmt := top 22
abbrev n_law_value : List Str := ["draws", "pick", "high"]
theorem sc_law_value : FnScope n_law_value ["draws"] (defScope s_law_value) := ⟨rfl, rfl, rfl, by decide +kernel, rfl, by decide +kernel, by decide +kernel⟩
def sp_law_value (K : PySem.W.Frag) : Sp := Dg K fun v _ => ∃ n, v = .int n ∧ IsVal n
theorem ok_law_value {P : Program} {w : World} {K : PySem.W.Frag} {mg : Str → Option Value} {base : Heap}
    {f : Addr} {fd : FuncData} (D : Dn K mg "_law_value" s_law_value ["draws"] f fd)
    (c_law_draw : Cal P w K mg base CX0 2 "_law_draw" (sp_law_draw K)) : Cal P w K mg base CX0 3 "_law_value" (sp_law_value K) := by
  refine D.ok sc_law_value (fun vs H Q E h => ?_) fun cdv A outer s H vs Q E hr h => ?_
  · obtain ⟨p, M, G, j, ⟨rfl, _⟩, _⟩ := h; rfl
  obtain ⟨p, M, G, j, ⟨rfl, d⟩, k⟩ := h
  refine ⟨_, (pss_cons (ps_set (i := 1) sc_law_value.nd rfl (Or.inl rfl) (pe_op op_mod (pe_cal c_law_draw hr (by first | decide | omega) (by rfl) (pa_cons (pv 0) pa_nil)) pe_int))
(pss_cons (ps_if (pt_cmpR (op_uEqK (K := K) rfl hr) (pv 1) pe_int (nomark _))
(pss_one (ps_ret (pe_op op_sub (pe_op op_pow pe_int pe_int) (pe_op op_mod (pe_cal c_law_draw hr (by first | decide | omega) (by rfl) (pa_cons (pv 0) pa_nil)) pe_int))))
pss_nil)
(pss_cons (ps_if (pt_cmpR (op_uEqK (K := K) rfl hr) (pv 1) pe_int (nomark _))
(pss_one (ps_ret (pe_op op_sub (pe_op op_mod (pe_cal c_law_draw hr (by first | decide | omega) (by rfl) (pa_cons (pv 0) pa_nil)) pe_int) (pe_op op_pow pe_int pe_int))))
pss_nil)
(pss_cons (ps_if (PW.pt (pw_or (pt_cmpR (op_uEqK (K := K) rfl hr) (pv 1) pe_int (nomark _)) (pw_or1 (pt_cmpR (op_uEqK (K := K) rfl hr) (pv 1) pe_int (nomark _)))))
(pss_cons (ps_set (i := 2) sc_law_value.nd rfl (Or.inl rfl) (pe_op op_uMul (pe_cal c_law_draw hr (by first | decide | omega) (by rfl) (pa_cons (pv 0) pa_nil)) (pe_op op_pow pe_int pe_int)))
(pss_one (ps_ret (pe_op op_uMul (pe_op (op_uAddK (K := K) rfl) (pe_op (op_uAddK (K := K) rfl) (pv 2) (pe_op op_uMul (pe_cal c_law_draw hr (by first | decide | omega) (by rfl) (pa_cons (pv 0) pa_nil)) (pe_op op_pow pe_int pe_int))) (pe_cal c_law_draw hr (by first | decide | omega) (by rfl) (pa_cons (pv 0) pa_nil))) (pe_op op_sub pe_int (pe_op op_uMul pe_int (pv 1)))))))
pss_nil)
(pss_one (ps_ret (pe_op op_sub (pe_op op_mod (pe_cal c_law_draw hr (by first | decide | omega) (by rfl) (pa_cons (pv 0) pa_nil)) pe_int) pe_int))))))), ?_⟩
  walk_at "start"
  refine use_draw j d fun n M1 G1 H1 n0 n1 j1 e1 d1 a1 => ?_
  walk_at "go"
  have hp : 0 ≤ n % 12 ∧ n % 12 < 12 := ⟨Int.emod_nonneg _ (by decide), Int.emod_lt_of_pos _ (by decide)⟩
  generalize n % 12 = pick at hp ⊢
  have fin : ∀ (M G H : Hp) (v : Int), IsVal v → J M G H → Ex G1 G → Dr K M G p → Ag p M1 M → Q (.int v) H := fun M G H v hv j e d a => k _ _ _ _ j (e1.trans e) ⟨⟨v, rfl, hv⟩, d, a1.trans a⟩
  refine w_dec (fun h => ?_) (fun h => ?_)
  · walk_at "go"
    refine use_draw j1 d1 fun n M2 G2 H2 n0 n1 j2 e2 d2 a2 => ?_
    walk_at "go"
    exact fin _ _ _ _ ⟨by show _ ≤ (10 : Int) ^ 18 - n % 3; omega, by show (10 : Int) ^ 18 - n % 3 ≤ _; omega⟩ j2 e2 d2 a2
  · walk_at "go"
    refine w_dec (fun h => ?_) (fun h => ?_)
    · walk_at "go"
      refine use_draw j1 d1 fun n M2 G2 H2 n0 n1 j2 e2 d2 a2 => ?_
      walk_at "go"
      exact fin _ _ _ _ ⟨by show _ ≤ n % 3 - (10 : Int) ^ 18; omega, by show n % 3 - (10 : Int) ^ 18 ≤ _; omega⟩ j2 e2 d2 a2
    · walk_at "go"
      by_cases hpk : pick = 2 ∨ pick = 3
      · rcases hpk with rfl | rfl
        · refine w_dT rfl ?_
          walk_at "go"
          refine use_draw j1 d1 fun n M2 G2 H2 n0 n1 j2 e2 d2 a2 => ?_
          walk_at "go"
          refine use_draw j2 d2 fun m M3 G3 H3 m0 m1 j3 e3 d3 a3 => ?_
          walk_at "go"
          refine use_draw j3 d3 fun l M4 G4 H4 l0 l1 j4 e4 d4 a4 => ?_
          walk_at "go"
          exact fin _ _ _ _ (by unfold IsVal; omega) j4 ((e2.trans e3).trans e4) d4 ((a2.trans a3).trans a4)
        · refine w_dF (by decide) ?_
          walk_at "go"
          refine w_dT rfl ?_
          walk_at "go"
          refine use_draw j1 d1 fun n M2 G2 H2 n0 n1 j2 e2 d2 a2 => ?_
          walk_at "go"
          refine use_draw j2 d2 fun m M3 G3 H3 m0 m1 j3 e3 d3 a3 => ?_
          walk_at "go"
          refine use_draw j3 d3 fun l M4 G4 H4 l0 l1 j4 e4 d4 a4 => ?_
          walk_at "go"
          exact fin _ _ _ _ (by unfold IsVal; omega) j4 ((e2.trans e3).trans e4) d4 ((a2.trans a3).trans a4)
      · refine w_dF (fun z => hpk (.inl z)) ?_
        walk_at "go"
        refine w_dF (fun z => hpk (.inr z)) ?_
        walk_at "go"
        refine use_draw j1 d1 fun n M2 G2 H2 n0 n1 j2 e2 d2 a2 => ?_
        walk_at "go"
        exact fin _ _ _ _ ⟨by omega, by omega⟩ j2 e2 d2 a2
/-! ### _law_key -/
abbrev s_law_key : Stmt := top 25
abbrev n_law_key : List Str := ["draws", "keys"]
theorem sc_law_key : FnScope n_law_key ["draws", "keys"] (defScope s_law_key) := ⟨rfl, rfl, rfl, by decide +kernel, rfl, by decide +kernel, by decide +kernel⟩
def sp_law_key (K : PySem.W.Frag) : Sp := Dk K fun v _ => ∃ n, v = .int n ∧ IsKey n
theorem ok_law_key {P : Program} {w : World} {K : PySem.W.Frag} {mg : Str → Option Value} {base : Heap}
    {f : Addr} {fd : FuncData} (D : Dn K mg "_law_key" s_law_key ["draws", "keys"] f fd)
    (b_len : mg "len" = none)
    (c_law_draw : Cal P w K mg base CX0 2 "_law_draw" (sp_law_draw K)) : Cal P w K mg base CX0 3 "_law_key" (sp_law_key K) := by
  refine D.ok sc_law_key (fun vs H Q E h => ?_) fun cdv A outer s H vs Q E hr h => ?_
  · obtain ⟨p, M, G, j, ⟨rfl, _⟩, _⟩ := h; rfl
  obtain ⟨⟨p, t, ks⟩, M, G, j, ⟨rfl, d, hk⟩, k⟩ := h
  refine ⟨_, (pss_one (ps_ret (pe_ix (ix_uK (K := K) rfl) (pv 1) (pe_op op_mod (pe_cal c_law_draw hr (by first | decide | omega) (by rfl) (pa_cons (pv 0) pa_nil)) (pe_callB (call_uLenK (K := K) rfl) (by rfl) b_len PySem.boot_len (pa_cons (pv 1) pa_nil))) (fun _ _ => rfl)))), ?_⟩
  walk_at "start"
  refine use_draw j d fun n M1 G1 H1 n0 n1 j1 e1 d1 a1 => ?_
  walk_at "go"
  have hk1 := hk.ex e1
  refine w_lenL j1 hk1.1 ?_
  walk_at "go"
  rw [List.length_map]
  have hl : (0 : Int) < ks.length := by have := hk.2.2.1; dsimp only at this; omega
  refine w_I hl ?_
  walk_at "go"
  obtain ⟨m, hm, e⟩ := atI_map (ns := ks) (Int.emod_nonneg n (Int.ne_of_gt hl)) (Int.emod_lt_of_pos n hl)
  refine w_ixL j1 hk1.1 e ?_
  exact k _ _ _ _ j1 e1 ⟨⟨m, rfl, hk.2.1 m hm⟩, d1, a1⟩
/-! ### _law_table -/
abbrev s_law_table : Stmt := top 28
abbrev n_law_table : List Str := ["draws", "keys", "table", "k"]
theorem sc_law_table : FnScope n_law_table ["draws", "keys"] (defScope s_law_table) := ⟨rfl, rfl, rfl, by decide +kernel, rfl, by decide +kernel, by decide +kernel⟩
def TabAt (G : Hp) (t : Addr) (kv : List (Int × Int)) (n : Nat) : Prop := G t = some (.dK (tk kv)) ∧ TabOk kv n
def sp_law_table (K : PySem.W.Frag) : Sp := Dk K fun v G => ∃ t kv, v = .ref t ∧ TabAt G t kv 17
def TableI (K : PySem.W.Frag) (M G : Hp) (p t d : Addr) (m : Nat) (σ : L2.St) (H : Hp) : Prop := ∃ (kv : List (Int × Int)) (M1 G1 : Hp) (z : Option V), J M1 G1 H ∧ M1 d = some (.dK (tk kv)) ∧ Ex G G1 ∧ Dr K M1 G1 p ∧ Ag2 p d M M1 ∧
  TabOk kv m ∧ σ = [some (.ref p), some (.ref t), some (.ref d), z]
theorem ok_law_table {P : Program} {w : World} {K : PySem.W.Frag} {mg : Str → Option Value} {base : Heap}
    {f : Addr} {fd : FuncData} (D : Dn K mg "_law_table" s_law_table ["draws", "keys"] f fd)
    (b_range : mg "range" = none)
    (b_len : mg "len" = none)
    (c_law_draw : Cal P w K mg base CX0 2 "_law_draw" (sp_law_draw K))
    (c_law_key : Cal P w K mg base CX0 3 "_law_key" (sp_law_key K))
    (c_law_value : Cal P w K mg base CX0 3 "_law_value" (sp_law_value K)) : Cal P w K mg base CX0 4 "_law_table" (sp_law_table K) := by
  refine D.ok sc_law_table (fun vs H Q E h => ?_) fun cdv A outer s H vs Q E hr h => ?_
  · obtain ⟨p, M, G, j, ⟨rfl, _⟩, _⟩ := h; rfl
  obtain ⟨⟨p, t, ks⟩, M, G, j, ⟨rfl, d, hk⟩, k⟩ := h
  refine ⟨_, (pss_cons (ps_set (i := 2) sc_law_table.nd rfl (Or.inl rfl) pe_dnewK)
(pss_cons (ps_for PassesOwn.never rfl (pi_range1 (by rfl) b_range (pa_cons (pe_op op_mod (pe_cal c_law_draw hr (by first | decide | omega) (by rfl) (pa_cons (pv 0) pa_nil)) (pe_op (op_uAddK (K := K) rfl) (pe_callB (call_uLenK (K := K) rfl) (by rfl) b_len PySem.boot_len (pa_cons (pv 1) pa_nil)) pe_int)) pa_nil)) (pg_name (i := 3) sc_law_table.nd rfl (Or.inl rfl))
(pss_one (ps_dput (hu_of hr) (pv 2) (pe_cal c_law_key hr (by first | decide | omega) (by rfl) (pa_cons (pv 0) (pa_cons (pv 1) pa_nil))) (pe_cal c_law_value hr (by first | decide | omega) (by rfl) (pa_cons (pv 0) pa_nil)) rfl)))
(pss_one (ps_ret (pv 2))))), ?_⟩
  walk_at "start"
  refine w_newM j (Nat.zero_le _) fun L H1 j1 nM nG => ?_
  walk_at "go"
  have nLp : L ≠ p := d.ne nM
  refine use_draw j1 (d.upd nLp) fun n M2 G2 H2 n0 n1 j2 e2 d2 a2 => ?_
  walk_at "go"
  have hk2 := hk.ex e2
  refine w_lenL j2 hk2.1 ?_
  walk_at "go"
  rw [List.length_map]
  have hl : 3 ≤ ks.length ∧ ks.length ≤ 15 := ⟨hk.2.2.1, hk.2.2.2⟩
  refine w_I (show (0 : Int) < _ by omega) ?_
  walk_at "go"
  have hc : 0 ≤ n % ((ks.length : Int) + 3) ∧ n % ((ks.length : Int) + 3) < 18 := ⟨Int.emod_nonneg _ (by omega), by have := Int.emod_lt_of_pos n (show (0 : Int) < (ks.length : Int) + 3 by omega); omega⟩
  generalize n % ((ks.length : Int) + 3) = c at hc ⊢
  refine w_rng (TableI K M G p t L) ?_ ?_ ?_ (by omega) (by omega)
  · exact ⟨[], M2, G2, none, j2, (a2 L nLp).trans upd_same, e2, d2, (Ag2.refl p L M).upd.ag a2, .nil, rfl⟩
  · rintro i σ H hi ⟨kv, M3, G3, z, j3, hL, e3, d3, a3, ok, rfl⟩
    walk_at "go"
    refine use_dg j3 d3 fun v M4 G4 H4 ⟨x, ev, hx⟩ j4 e4 d4 a4 => ?_
    subst ev
    walk_at "go"
    refine use_dk j4 d4 (hk.ex (e3.trans e4)) fun v M5 G5 H5 ⟨y, ev, hy⟩ j5 e5 d5 a5 => ?_
    subst ev
    refine w_putX j5 ((a5.at (a4.at hL nLp) nLp)) (by rw [tk_len]; have := ok.len; omega) fun H6 j6 => ?_
    rw [tk_put] at j6
    exact ⟨putI kv y x, _, G5, _, j6, upd_same, (e3.trans e4).trans e5, d5.upd nLp, ((a3.ag a4).ag a5).upd, ok.put hy hx, rfl⟩
  · rintro σ H ⟨kv, M3, G3, z, j3, hL, e3, d3, a3, ok, rfl⟩
    walk_at "go"
    refine k _ _ _ _ (j3.seal hL) (e3.trans (Ex.new (j3.out hL))) ⟨⟨L, kv, rfl, upd_same, ok.mono (by omega)⟩, (d3.del nLp).ex (Ex.new (j3.out hL)), a3.del nM⟩
/-! ### _law_worth -/
abbrev s_law_worth : Stmt := top 23
abbrev n_law_worth : List Str := ["draws"]
theorem sc_law_worth : FnScope n_law_worth ["draws"] (defScope s_law_worth) := ⟨rfl, rfl, rfl, by decide +kernel, rfl, by decide +kernel, by decide +kernel⟩
def sp_law_worth (K : PySem.W.Frag) : Sp := Dg K fun v _ => ∃ o, v = ov o ∧ OkV o
theorem ok_law_worth {P : Program} {w : World} {K : PySem.W.Frag} {mg : Str → Option Value} {base : Heap}
    {f : Addr} {fd : FuncData} (D : Dn K mg "_law_worth" s_law_worth ["draws"] f fd)
    (c_law_value : Cal P w K mg base CX0 3 "_law_value" (sp_law_value K))
    (c_law_draw : Cal P w K mg base CX0 2 "_law_draw" (sp_law_draw K)) : Cal P w K mg base CX0 4 "_law_worth" (sp_law_worth K) := by
  refine D.ok sc_law_worth (fun vs H Q E h => ?_) fun cdv A outer s H vs Q E hr h => ?_
  · obtain ⟨p, M, G, j, ⟨rfl, _⟩, _⟩ := h; rfl
  obtain ⟨p, M, G, j, ⟨rfl, d⟩, k⟩ := h
  refine ⟨_, (pss_cons (ps_if (pt_cmpR (op_uEqK (K := K) rfl hr) (pe_op op_mod (pe_cal c_law_draw hr (by first | decide | omega) (by rfl) (pa_cons (pv 0) pa_nil)) pe_int) pe_int (nomark _))
(pss_one (ps_ret pe_non))
pss_nil)
(pss_one (ps_ret (pe_cal c_law_value hr (by first | decide | omega) (by rfl) (pa_cons (pv 0) pa_nil))))), ?_⟩
  walk_at "start"
  refine use_draw j d fun n M1 G1 H1 n0 n1 j1 e1 d1 a1 => ?_
  walk_at "go"
  refine w_dec (fun h => ?_) (fun h => ?_)
  · walk_at "go"
    exact k _ _ _ _ j1 e1 ⟨⟨none, rfl, trivial⟩, d1, a1⟩
  · walk_at "go"
    refine use_dg j1 d1 fun v M2 G2 H2 ⟨n, ev, hv⟩ j2 e2 d2 a2 => ?_
    subst ev
    exact k _ _ _ _ j2 (e1.trans e2) ⟨⟨some n, rfl, hv⟩, d2, a1.trans a2⟩
/-- an operation -/
inductive Op where
  | get (k : Int) | put (k : Int) (v : Option Int) | add (k a : Int) | need (k : Int) (v : Option Int) | scan (lo hi : Int)
def opV : Op → List V
  | .get k => [.str "get", .int k]
  | .put k v => [.str "put", .int k, ov v]
  | .add k a => [.str "add", .int k, .int a]
  | .need k v => [.str "need", .int k, ov v]
  | .scan lo hi => [.str "scan", .int lo, .int hi]
def OkOp : Op → Prop
  | .get k => IsKey k
  | .put k v => IsKey k ∧ OkV v
  | .add k a => IsKey k ∧ IsVal a
  | .need k v => IsKey k ∧ OkV v
  | .scan lo hi => 0 ≤ lo ∧ lo ≤ hi ∧ hi ≤ 1000
def OpAt (G : Hp) (t : Addr) (op : Op) : Prop := G t = some (.tup (opV op)) ∧ OkOp op
theorem OpAt.ex {G G' : Hp} {t : Addr} {op : Op} (h : OpAt G t op) (e : Ex G G') : OpAt G' t op := ⟨e _ _ h.1, h.2⟩
/-- a list of operations -/
def OpsAt (G : Hp) (as : List Addr) (ops : List Op) : Prop := as.length = ops.length ∧ ∀ (i : Nat) (a : Addr) (op : Op), as[i]? = some a → ops[i]? = some op → OpAt G a op
theorem OpsAt.ex {G G' : Hp} {as : List Addr} {ops : List Op} (h : OpsAt G as ops) (e : Ex G G') : OpsAt G' as ops := ⟨h.1, fun i a op h1 h2 => (h.2 i a op h1 h2).ex e⟩
theorem OpsAt.nil {G : Hp} : OpsAt G [] [] := ⟨rfl, fun i a op h => by simp at h⟩
theorem snoc_get {α : Type} {xs : List α} {x y : α} {i : Nat} (h : (xs ++ [x])[i]? = some y) : (i < xs.length ∧ xs[i]? = some y) ∨ (i = xs.length ∧ x = y) := by
  by_cases hi : i < xs.length
  · rw [List.getElem?_append_left hi] at h; exact .inl ⟨hi, h⟩
  · rw [List.getElem?_append_right (by omega)] at h
    have hj : i - xs.length = 0 := by
      cases hk : i - xs.length with
      | zero => rfl
      | succ m => rw [hk] at h; simp at h
    rw [hj] at h
    exact .inr ⟨by omega, Option.some.inj h⟩
theorem OpsAt.snoc {G : Hp} {as : List Addr} {ops : List Op} {a : Addr} {op : Op} (h : OpsAt G as ops) (o : OpAt G a op) : OpsAt G (as ++ [a]) (ops ++ [op]) := by
  refine ⟨by rw [List.length_append, List.length_append, h.1]; rfl, fun i b q h1 h2 => ?_⟩
  rcases snoc_get h1 with ⟨hi, h1⟩ | ⟨hi, rfl⟩
  · rcases snoc_get h2 with ⟨_, h2⟩ | ⟨hj, _⟩
    · exact h.2 i b q h1 h2
    · have := h.1; omega
  · rcases snoc_get h2 with ⟨hj, _⟩ | ⟨_, rfl⟩
    · have := h.1; omega
    · exact o
theorem OpsAt.get {G : Hp} {as : List Addr} {ops : List Op} {i : Nat} {x : V} (h : OpsAt G as ops) (hx : (as.map V.ref)[i]? = some x) : ∃ a op, x = .ref a ∧ as[i]? = some a ∧ ops[i]? = some op ∧ OpAt G a op := by
  rw [List.getElem?_map] at hx
  cases e : as[i]? with
  | none => rw [e] at hx; cases hx
  | some a =>
    rw [e] at hx
    have hi : i < ops.length := by rw [← h.1]; exact (List.getElem?_eq_some_iff.mp e).1
    exact ⟨a, ops[i], (Option.some.inj hx).symm, rfl, List.getElem?_eq_getElem hi, h.2 i a _ e (List.getElem?_eq_getElem hi)⟩
theorem ref_snoc (as : List Addr) (a : Addr) : as.map V.ref ++ [V.ref a] = (as ++ [a]).map V.ref := by rw [List.map_append]; rfl
def IsDeal (G : Hp) (t : Addr) (as : List Addr) (ops : List Op) : Prop := G t = some (.lst (as.map V.ref)) ∧ OpsAt G as ops ∧ 1 ≤ ops.length ∧ ops.length ≤ 6
theorem IsDeal.ex {G G' : Hp} {t : Addr} {as : List Addr} {ops : List Op} (h : IsDeal G t as ops) (e : Ex G G') : IsDeal G' t as ops := ⟨e _ _ h.1, h.2.1.ex e, h.2.2⟩
/-! ### _law_op -/
abbrev s_law_op : Stmt := top 26
abbrev n_law_op : List Str := ["draws", "keys", "word", "low", "high"]
theorem sc_law_op : FnScope n_law_op ["draws", "keys"] (defScope s_law_op) := ⟨rfl, rfl, rfl, by decide +kernel, rfl, by decide +kernel, by decide +kernel⟩
def sp_law_op (K : PySem.W.Frag) : Sp := Dk K fun v G => ∃ t op, v = .ref t ∧ OpAt G t op
theorem ok_law_op {P : Program} {w : World} {K : PySem.W.Frag} {mg : Str → Option Value} {base : Heap}
    {f : Addr} {fd : FuncData} (D : Dn K mg "_law_op" s_law_op ["draws", "keys"] f fd)
    (b_max : mg "max" = none)
    (b_min : mg "min" = none)
    (c_law_worth : Cal P w K mg base CX0 4 "_law_worth" (sp_law_worth K))
    (c_law_key : Cal P w K mg base CX0 3 "_law_key" (sp_law_key K))
    (c_law_draw : Cal P w K mg base CX0 2 "_law_draw" (sp_law_draw K))
    (c_law_value : Cal P w K mg base CX0 3 "_law_value" (sp_law_value K)) : Cal P w K mg base CX0 5 "_law_op" (sp_law_op K) := by
  refine D.ok sc_law_op (fun vs H Q E h => ?_) fun cdv A outer s H vs Q E hr h => ?_
  · obtain ⟨p, M, G, j, ⟨rfl, _⟩, _⟩ := h; rfl
  obtain ⟨⟨p, t, ks⟩, M, G, j, ⟨rfl, d, hk⟩, k⟩ := h
  refine ⟨_, (pss_cons (ps_set (i := 2) sc_law_op.nd rfl (Or.inl rfl) (pe_ix (ix_uK (K := K) rfl) (pe_lst (pa_cons pe_str (pa_cons pe_str (pa_cons pe_str (pa_cons pe_str (pa_cons pe_str (pa_cons pe_str (pa_cons pe_str (pa_cons pe_str pa_nil))))))))) (pe_op op_mod (pe_cal c_law_draw hr (by first | decide | omega) (by rfl) (pa_cons (pv 0) pa_nil)) pe_int) (fun _ _ => rfl)))
(pss_cons (ps_if (pt_cmpR (op_uEqK (K := K) rfl hr) (pv 2) pe_str (nomark _))
(pss_one (ps_ret (pe_tup (pa_cons pe_str (pa_cons (pe_cal c_law_key hr (by first | decide | omega) (by rfl) (pa_cons (pv 0) (pa_cons (pv 1) pa_nil))) pa_nil)))))
pss_nil)
(pss_cons (ps_if (pt_cmpR (op_uEqK (K := K) rfl hr) (pv 2) pe_str (nomark _))
(pss_one (ps_ret (pe_tup (pa_cons pe_str (pa_cons (pe_cal c_law_key hr (by first | decide | omega) (by rfl) (pa_cons (pv 0) (pa_cons (pv 1) pa_nil))) (pa_cons (pe_cal c_law_value hr (by first | decide | omega) (by rfl) (pa_cons (pv 0) pa_nil)) pa_nil))))))
pss_nil)
(pss_cons (ps_if (pt_cmpR (op_uEqK (K := K) rfl hr) (pv 2) pe_str (nomark _))
(pss_cons (ps_set (i := 3) sc_law_op.nd rfl (Or.inl rfl) (pe_op op_mod (pe_op (op_uAddK (K := K) rfl) (pe_cal c_law_key hr (by first | decide | omega) (by rfl) (pa_cons (pv 0) (pa_cons (pv 1) pa_nil))) (pe_op op_mod (pe_cal c_law_draw hr (by first | decide | omega) (by rfl) (pa_cons (pv 0) pa_nil)) pe_int)) pe_int))
(pss_cons (ps_set (i := 4) sc_law_op.nd rfl (Or.inl rfl) (pe_op op_mod (pe_op (op_uAddK (K := K) rfl) (pe_cal c_law_key hr (by first | decide | omega) (by rfl) (pa_cons (pv 0) (pa_cons (pv 1) pa_nil))) (pe_op op_mod (pe_cal c_law_draw hr (by first | decide | omega) (by rfl) (pa_cons (pv 0) pa_nil)) pe_int)) pe_int))
(pss_one (ps_ret (pe_tup (pa_cons pe_str (pa_cons (pe_callB (call_min2 rfl) (by rfl) b_min bt_min (pa_cons (pv 3) (pa_cons (pv 4) pa_nil))) (pa_cons (pe_callB (call_max2 rfl) (by rfl) b_max bt_max (pa_cons (pv 3) (pa_cons (pv 4) pa_nil))) pa_nil))))))))
pss_nil)
(pss_one (ps_ret (pe_tup (pa_cons (pv 2) (pa_cons (pe_cal c_law_key hr (by first | decide | omega) (by rfl) (pa_cons (pv 0) (pa_cons (pv 1) pa_nil))) (pa_cons (pe_cal c_law_worth hr (by first | decide | omega) (by rfl) (pa_cons (pv 0) pa_nil)) pa_nil)))))))))), ?_⟩
  walk_at "start"
  refine w_new j (by decide) fun q G2 H2 j2 e2 hq nq => ?_
  walk_at "go"
  refine use_draw j2 (d.ex e2) fun n M1 G1 H1 n0 n1 j1 e1 d1 a1 => ?_
  walk_at "go"
  have hk1 := hk.ex (e2.trans e1)
  have fin : ∀ (M' G' H' : Hp) (u : Addr) (op : Op), J M' G' H' → Ex G1 G' → Dr K M' G' p → Ag p M1 M' → OpAt G' u op → Q (.ref u) H' := fun M' G' H' u op j e d a o => k _ _ _ _ j ((e2.trans e1).trans e) ⟨⟨u, op, rfl, o⟩, d, a1.trans a⟩
  have hp : n % 8 = 0 ∨ n % 8 = 1 ∨ n % 8 = 2 ∨ n % 8 = 3 ∨ n % 8 = 4 ∨ n % 8 = 5 ∨ n % 8 = 6 ∨ n % 8 = 7 := by omega
  have Put : ∀ (w : Str) (op : Int → Option Int → Op), (∀ k v, opV (op k v) = [.str w, .int k, ov v]) → (∀ k v, OkOp (op k v) = (IsKey k ∧ OkV v)) →
      sp_law_key K ([.ref p, .ref t] ++ []) H1 (fun x H1 => tCons (tCall (sp_law_worth K) [] E0 (tCons (tVar 0) tNil)) tNil [some (.ref p), some (.ref t), some (.str w), none, none] H1 fun xs H2 => NewO (.tup (.str w :: x :: xs)) (V.str w :: x :: xs).length H2 Q) E0 := fun w op hv ho => by
    walk_at "go"
    refine use_dk j1 d1 hk1 fun v M3 G3 H3 ⟨x, ev, hx⟩ j3 e3 d3 a3 => ?_
    subst ev
    walk_at "go"
    refine use_dg j3 d3 fun v M4 G4 H4 ⟨y, ev, hy⟩ j4 e4 d4 a4 => ?_
    subst ev
    walk_at "go"
    refine w_new j4 (by show 3 ≤ sizeLine; decide) fun u G5 H5 j5 e5 hu _ => ?_
    exact fin _ _ _ u (op x y) j5 ((e3.trans e4).trans e5) (d4.ex e5) (a3.trans a4) ⟨by rw [hv]; exact hu, by rw [ho]; exact ⟨hx, hy⟩⟩
  rcases hp with hp | hp | hp | hp | hp | hp | hp | hp
  · rw [hp]
    refine w_ixL j1 (sl_of (e1 _ _ hq)) (by rfl) ?_
    walk_at "go"
    refine use_dk j1 d1 hk1 fun v M3 G3 H3 ⟨x, ev, hx⟩ j3 e3 d3 a3 => ?_
    subst ev
    walk_at "go"
    refine w_new j3 (by show 2 ≤ sizeLine; decide) fun u G5 H5 j5 e5 hu _ => ?_
    exact fin _ _ _ u (.get x) j5 (e3.trans e5) (d3.ex e5) a3 ⟨hu, hx⟩
  · rw [hp]
    refine w_ixL j1 (sl_of (e1 _ _ hq)) (by rfl) ?_
    walk_at "go"
    exact Put "put" .put (fun _ _ => rfl) (fun _ _ => rfl)
  · rw [hp]
    refine w_ixL j1 (sl_of (e1 _ _ hq)) (by rfl) ?_
    walk_at "go"
    refine use_dk j1 d1 hk1 fun v M3 G3 H3 ⟨x, ev, hx⟩ j3 e3 d3 a3 => ?_
    subst ev
    walk_at "go"
    refine use_dg j3 d3 fun v M4 G4 H4 ⟨y, ev, hy⟩ j4 e4 d4 a4 => ?_
    subst ev
    walk_at "go"
    refine w_new j4 (by show 3 ≤ sizeLine; decide) fun u G5 H5 j5 e5 hu _ => ?_
    exact fin _ _ _ u (.add x y) j5 ((e3.trans e4).trans e5) (d4.ex e5) (a3.trans a4) ⟨hu, hx, hy⟩
  · rw [hp]
    refine w_ixL j1 (sl_of (e1 _ _ hq)) (by rfl) ?_
    walk_at "go"
    exact Put "need" .need (fun _ _ => rfl) (fun _ _ => rfl)
  · rw [hp]
    refine w_ixL j1 (sl_of (e1 _ _ hq)) (by rfl) ?_
    walk_at "go"
    refine use_dk j1 d1 hk1 fun v M3 G3 H3 ⟨x, ev, hx⟩ j3 e3 d3 a3 => ?_
    subst ev
    walk_at "go"
    refine use_draw j3 d3 fun n1 M4 G4 H4 _ _ j4 e4 d4 a4 => ?_
    walk_at "go"
    refine use_dk j4 d4 (hk1.ex (e3.trans e4)) fun v M5 G5 H5 ⟨y, ev, hy⟩ j5 e5 d5 a5 => ?_
    subst ev
    walk_at "go"
    refine use_draw j5 d5 fun n2 M6 G6 H6 _ _ j6 e6 d6 a6 => ?_
    walk_at "go"
    refine ⟨_, _, rfl, ?_⟩
    walk_at "go"
    refine ⟨_, _, rfl, ?_⟩
    walk_at "go"
    have b1 : 0 ≤ (x + n1 % 2) % 1001 ∧ (x + n1 % 2) % 1001 < 1001 := ⟨Int.emod_nonneg _ (by decide), Int.emod_lt_of_pos _ (by decide)⟩
    have b2 : 0 ≤ (y + n2 % 2) % 1001 ∧ (y + n2 % 2) % 1001 < 1001 := ⟨Int.emod_nonneg _ (by decide), Int.emod_lt_of_pos _ (by decide)⟩
    generalize (x + n1 % 2) % 1001 = lo at b1 ⊢
    generalize (y + n2 % 2) % 1001 = hi at b2 ⊢
    refine w_new j6 (by show 3 ≤ sizeLine; decide) fun u G7 H7 j7 e7 hu _ => ?_
    refine fin _ _ _ u (.scan (if hi < lo then hi else lo) (if hi > lo then hi else lo)) j7 ((((e3.trans e4).trans e5).trans e6).trans e7) (d6.ex e7) (((a3.trans a4).trans a5).trans a6) ⟨hu, ?_⟩
    show 0 ≤ (if hi < lo then hi else lo) ∧ (if hi < lo then hi else lo) ≤ (if hi > lo then hi else lo) ∧ (if hi > lo then hi else lo) ≤ 1000
    by_cases h1 : hi < lo <;> by_cases h2 : hi > lo <;> simp only [h1, h2, if_true, if_false] <;> omega
  · rw [hp]
    refine w_ixL j1 (sl_of (e1 _ _ hq)) (by rfl) ?_
    walk_at "go"
    refine use_dk j1 d1 hk1 fun v M3 G3 H3 ⟨x, ev, hx⟩ j3 e3 d3 a3 => ?_
    subst ev
    walk_at "go"
    refine use_dg j3 d3 fun v M4 G4 H4 ⟨y, ev, hy⟩ j4 e4 d4 a4 => ?_
    subst ev
    walk_at "go"
    refine w_new j4 (by show 3 ≤ sizeLine; decide) fun u G5 H5 j5 e5 hu _ => ?_
    exact fin _ _ _ u (.add x y) j5 ((e3.trans e4).trans e5) (d4.ex e5) (a3.trans a4) ⟨hu, hx, hy⟩
  · rw [hp]
    refine w_ixL j1 (sl_of (e1 _ _ hq)) (by rfl) ?_
    walk_at "go"
    exact Put "put" .put (fun _ _ => rfl) (fun _ _ => rfl)
  · rw [hp]
    refine w_ixL j1 (sl_of (e1 _ _ hq)) (by rfl) ?_
    walk_at "go"
    refine use_dk j1 d1 hk1 fun v M3 G3 H3 ⟨x, ev, hx⟩ j3 e3 d3 a3 => ?_
    subst ev
    walk_at "go"
    refine w_new j3 (by show 2 ≤ sizeLine; decide) fun u G5 H5 j5 e5 hu _ => ?_
    exact fin _ _ _ u (.get x) j5 (e3.trans e5) (d3.ex e5) a3 ⟨hu, hx⟩
/-! ### _law_deal -/
abbrev s_law_deal : Stmt := top 27
abbrev n_law_deal : List Str := ["draws", "keys", "k"]
theorem sc_law_deal : FnScope n_law_deal ["draws", "keys"] (defScope s_law_deal) := ⟨rfl, rfl, rfl, by decide +kernel, rfl, by decide +kernel, by decide +kernel⟩
def sp_law_deal (K : PySem.W.Frag) : Sp := Dk K fun v G => ∃ t as ops, v = .ref t ∧ IsDeal G t as ops
theorem ok_law_deal {P : Program} {w : World} {K : PySem.W.Frag} {mg : Str → Option Value} {base : Heap}
    {f : Addr} {fd : FuncData} (D : Dn K mg "_law_deal" s_law_deal ["draws", "keys"] f fd)
    (b_range : mg "range" = none)
    (c_law_draw : Cal P w K mg base CX0 2 "_law_draw" (sp_law_draw K))
    (c_law_op : Cal P w K mg base CX0 5 "_law_op" (sp_law_op K)) : Cal P w K mg base CX0 6 "_law_deal" (sp_law_deal K) := by
  refine D.ok sc_law_deal (fun vs H Q E h => ?_) fun cdv A outer s H vs Q E hr h => ?_
  · obtain ⟨p, M, G, j, ⟨rfl, _⟩, _⟩ := h; rfl
  obtain ⟨⟨p, t, ks⟩, M, G, j, ⟨rfl, d, hk⟩, k⟩ := h
  refine ⟨_, (pss_one (ps_ret (pe_lc (own := [("k", 2)]) (by rfl) sc_law_deal.nd (pi_range1 (by rfl) b_range (pa_cons (pe_op (op_uAddK (K := K) rfl) pe_int (pe_op op_mod (pe_cal c_law_draw hr (by first | decide | omega) (by rfl) (pa_cons (pv 0) pa_nil)) pe_int)) pa_nil)) (blkOk_by (own := [("k", 2)]) (N := n_law_deal) (sc := defScope s_law_deal) (by decide +kernel)) (fun _ _ _ _ _ => pg_name (i := 2) sc_law_deal.nd rfl (Or.inl rfl)) (fun _ _ _ _ _ => pts_nil) (fun _ _ _ _ _ => (pe_cal c_law_op hr (by first | decide | omega) (by rfl) (pa_cons (pv 0) (pa_cons (pv 1) pa_nil))))))), ?_⟩
  walk_at "start"
  refine use_draw j d fun n M1 G1 H1 n0 n1 j1 e1 d1 a1 => ?_
  walk_at "go"
  have hp : 0 ≤ n % 6 ∧ n % 6 < 6 := ⟨Int.emod_nonneg _ (by decide), Int.emod_lt_of_pos _ (by decide)⟩
  refine w_lcr j1 (fun L i acc M2 G2 => L ≠ p ∧ Ex G1 G2 ∧ Dr K M2 G2 p ∧ Ag2 p L M M2 ∧ M L = none ∧ ∃ as ops, acc = as.map V.ref ∧ OpsAt G2 as ops ∧ ops.length = i) ?_ (fun _ => rfl) ?_ ?_ (by omega) (by omega)
  · intro L h1 h2
    have nL : L ≠ p := d1.ne h1
    exact ⟨nL, Same.refl _, d1.upd nL, ((Ag2.refl p L M).ag a1).upd, by rw [← a1 L nL]; exact h1, [], [], rfl, .nil, rfl⟩
  · rintro L i acc M2 G2 H2 R hi j2 hL ⟨nL, e2, d2, a2, mL, as, ops, rfl, ho, hl⟩ hR
    walk_at "go"
    refine use_dk j2 d2 (hk.ex (e1.trans e2)) fun v M3 G3 H3 ⟨u, op, ev, o⟩ j3 e3 d3 a3 => ?_
    subst ev
    refine hR _ _ ⟨M3, G3, j3, a3.at hL nL, sz_lt (by rw [List.length_map, ho.1]; omega), nL, e2.trans e3, d3.upd nL, (a2.ag a3).upd, mL, as ++ [u], ops ++ [op], ref_snoc as u, (ho.ex e3).snoc o, by rw [List.length_append, hl]; rfl⟩
  · rintro L acc M2 G2 H2 j2 hL ⟨nL, e2, d2, a2, mL, as, ops, rfl, ho, hl⟩
    refine k _ _ _ _ (j2.seal hL) ((e1.trans e2).trans (Ex.new (j2.out hL))) ⟨⟨L, as, ops, rfl, upd_same, ho.ex (Ex.new (j2.out hL)), by omega, by omega⟩, (d2.del nL).ex (Ex.new (j2.out hL)), a2.del mL⟩
/-! ### data of any depth, both sides alike -/
def okD : Nat → PyData → Prop
  | _, .none => True
  | _, .bool _ => True
  | _, .int _ => True
  | _, .str _ => True
  | 0, .list _ => False
  | 0, .tuple _ => False
  | n + 1, .list xs => xs.length ≤ 100000 ∧ ∀ x ∈ xs, okD n x
  | n + 1, .tuple xs => xs.length ≤ 100000 ∧ ∀ x ∈ xs, okD n x
  | _, .dict _ => False
theorem dpAll_len {K : PySem.W.Frag} {G : Hp} : ∀ {xs : List V} {ds : List PyData}, DpAll K G xs ds → xs.length = ds.length
  | _, _, .nil => rfl
  | _, _, .cons _ t => by rw [List.length_cons, List.length_cons, dpAll_len t]
theorem dpAll_get {K : PySem.W.Frag} {G : Hp} : ∀ {xs : List V} {ds : List PyData} {i : Nat} {d : PyData}, DpAll K G xs ds → ds[i]? = some d → ∃ x, xs[i]? = some x ∧ Dp K G x d
  | _, _, _, _, .nil, e => by simp at e
  | _, _, 0, d, .cons h t, e => ⟨_, rfl, by have e := Option.some.inj e; subst e; exact h⟩
  | _, _, i + 1, d, .cons h t, e => by
    obtain ⟨x, h1, h2⟩ := dpAll_get (i := i) t (by simpa using e)
    exact ⟨x, by simpa using h1, h2⟩
mutual
theorem dp_mono {K : PySem.W.Frag} {G G' : Hp} (e : Same G G') : ∀ {v : V} {d : PyData}, Dp K G v d → Dp K G' v d
  | _, _, .non => .non
  | _, _, .bl b => .bl b
  | _, _, .int i => .int i
  | _, _, .str x => .str x
  | _, _, .lst h t => .lst (sl_mono e h) (dpAll_mono e t)
  | _, _, .tup h t => .tup (st_mono e h) (dpAll_mono e t)
theorem dpAll_mono {K : PySem.W.Frag} {G G' : Hp} (e : Same G G') : ∀ {vs : List V} {ds : List PyData}, DpAll K G vs ds → DpAll K G' vs ds
  | _, _, .nil => .nil
  | _, _, .cons h t => .cons (dp_mono e h) (dpAll_mono e t)
end
theorem dpAll_snoc {K : PySem.W.Frag} {G : Hp} : ∀ {xs : List V} {ds : List PyData} {x : V} {d : PyData}, DpAll K G xs ds → Dp K G x d → DpAll K G (xs ++ [x]) (ds ++ [d])
  | _, _, _, _, .nil, h => .cons h .nil
  | _, _, _, _, .cons a t, h => .cons a (dpAll_snoc t h)
theorem dpAll_of {K : PySem.W.Frag} {G : Hp} : ∀ {xs : List V} {ds : List PyData}, xs.length = ds.length → (∀ (i : Nat) (x : V) (d : PyData), xs[i]? = some x → ds[i]? = some d → Dp K G x d) → DpAll K G xs ds
  | [], [], _, _ => .nil
  | x :: xs, d :: ds, h, f => .cons (f 0 x d rfl rfl) (dpAll_of (by simpa using h) fun i y e h1 h2 => f (i + 1) y e (by simpa using h1) (by simpa using h2))
  | [], _ :: _, h, _ => by simp at h
  | _ :: _, [], h, _ => by simp at h
/-- a sequence of either kind -/
def SqB (K : PySem.W.Frag) (G : Hp) (a : Addr) (xs : List V) : Prop := SqL K G a xs ∨ SqT K G a xs
theorem w_ixB {K : PySem.W.Frag} {M G H : Hp} {a : Addr} {xs : List V} {m : Int} {v : V} {Q : VK} (j : J M G H) (h : SqB K G a xs) (e : atI xs m = some v) (q : Q v H) : uIx K (.ref a) (.int m) H Q :=
  h.elim (fun h => w_ixL j h e q) fun h => w_ixT j h e q
theorem w_lenB {K : PySem.W.Frag} {M G H : Hp} {a : Addr} {xs : List V} {Q : VK} (j : J M G H) (h : SqB K G a xs) (q : Q (.int xs.length) H) : uLen K [.ref a] H Q := h.elim (fun h => w_lenL j h q) fun h => w_lenT j h q
def spNo : Sp := fun _ _ _ _ => False
def spAll1 (K : PySem.W.Frag) (n : Nat) : Sp := Sg (α := Addr × Addr × List V × List V × List PyData) (fun x vs M G => vs = [.ref x.1, .ref x.2.1] ∧ SqB K G x.1 x.2.2.1 ∧ SqB K G x.2.1 x.2.2.2.1 ∧ DpAll K G x.2.2.1 x.2.2.2.2 ∧ DpAll K G x.2.2.2.1 x.2.2.2.2 ∧ x.2.2.2.2.length ≤ 100000 ∧ ∀ d ∈ x.2.2.2.2, okD n d)
      (fun x M _ v M' _ => v = .bl true ∧ M' = M)
def spAll (K : PySem.W.Frag) : Nat → Sp
  | 0 => spNo
  | n + 1 => spAll1 K n
def spEq (K : PySem.W.Frag) (n : Nat) : Sp := Sg (α := V × V × PyData) (fun x vs M G => vs = [x.1, x.2.1] ∧ Dp K G x.1 x.2.2 ∧ Dp K G x.2.1 x.2.2 ∧ okD n x.2.2) (fun x M _ v M' _ => v = .bl true ∧ M' = M)
theorem use_eq {K : PySem.W.Frag} {n : Nat} {M G H : Hp} {x y : V} {d : PyData} {Q : VK} {E : XK} (j : J M G H) (h1 : Dp K G x d) (h2 : Dp K G y d) (h3 : okD n d) (k : ∀ G' H', J M G' H' → Ex G G' → Q (.bl true) H') : spEq K n ([x, y] ++ []) H Q E :=
  w_sg (x, y, d) j ⟨rfl, h1, h2, h3⟩ fun v M' G' H' j' e ⟨ev, em⟩ => by subst ev em; exact k G' H' j' e
theorem use_all {K : PySem.W.Frag} {n : Nat} {M G H : Hp} {a b : Addr} {xs ys : List V} {ds : List PyData} {Q : VK} {E : XK} (j : J M G H) (h1 : SqB K G a xs) (h2 : SqB K G b ys) (h3 : DpAll K G xs ds) (h4 : DpAll K G ys ds) (h5 : ds.length ≤ 100000) (h6 : ∀ d ∈ ds, okD n d)
    (k : ∀ G' H', J M G' H' → Ex G G' → Q (.bl true) H') : spAll K (n + 1) ([.ref a, .ref b] ++ []) H Q E := by
  show spAll1 K n _ H Q E
  exact w_sg (a, b, xs, ys, ds) j ⟨rfl, h1, h2, h3, h4, h5, h6⟩ fun v M' G' H' j' e ⟨ev, em⟩ => by subst ev em; exact k G' H' j' e
/-! ### _law_all_equal -/
abbrev s_law_all_equal : Stmt := top 18
abbrev n_law_all_equal : List Str := ["actual", "due", "k"]
theorem sc_law_all_equal : FnScope n_law_all_equal ["actual", "due"] (defScope s_law_all_equal) := ⟨rfl, rfl, rfl, by decide +kernel, rfl, by decide +kernel, by decide +kernel⟩
theorem ok_law_all_equal {P : Program} {w : World} {K : PySem.W.Frag} {mg : Str → Option Value} {base : Heap} {f : Addr} {fd : FuncData} (D : Dn K mg "_law_all_equal" s_law_all_equal ["actual", "due"] f fd)
    (b_range : mg "range" = none) (b_len : mg "len" = none) (n : Nat) (c_law_equal : Cal P w K mg base CX0 (2 * n + 1) "_law_equal" (spEq K n)) : Cal P w K mg base CX0 (2 * n + 2) "_law_all_equal" (spAll K (n + 1)) := by
  refine D.ok sc_law_all_equal (fun vs H Q E h => ?_) fun cdv A outer s H vs Q E hr h => ?_
  · obtain ⟨x, M, G, j, ⟨rfl, _⟩, _⟩ := h; rfl
  obtain ⟨⟨a, b, xs, ys, ds⟩, M, G, j, ⟨rfl, ha, hb, hx, hy, hl, hok⟩, k⟩ := h
  dsimp only at ha hb hx hy hl hok k
  refine ⟨_, (pss_cons (ps_for PassesOwn.never rfl (pi_range1 (by rfl) b_range (pa_cons (pe_callB (call_uLenK (K := K) rfl) (by rfl) b_len PySem.boot_len (pa_cons (pv 1) pa_nil)) pa_nil)) (pg_name (i := 2) sc_law_all_equal.nd rfl (Or.inl rfl))
(pss_one (ps_if (pt_not (pt_val (pe_cal c_law_equal hr (by first | decide | omega) (by rfl) (pa_cons (pe_ix (ix_uK (K := K) rfl) (pv 0) (pv 2) (fun _ _ => rfl)) (pa_cons (pe_ix (ix_uK (K := K) rfl) (pv 1) (pv 2) (fun _ _ => rfl)) pa_nil)))))
(pss_one (ps_ret pe_bl))
pss_nil)))
(pss_one (ps_ret pe_bl))), ?_⟩
  walk_at "start"
  refine w_lenB j hb ?_
  walk_at "go"
  have hyl := dpAll_len hy
  refine w_rng (fun i σ H => ∃ G1 z, J M G1 H ∧ Ex G G1 ∧ σ = [some (.ref a), some (.ref b), z]) ⟨G, _, j, Same.refl G, rfl⟩ ?_ ?_ (by omega) (by omega)
  · rintro i σ H hi ⟨G1, z, j, e, rfl⟩
    have hi : i < ds.length := by rw [← hyl]; simpa using hi
    obtain ⟨x, hx1, hx2⟩ := dpAll_get hx (List.getElem?_eq_getElem hi)
    obtain ⟨y, hy1, hy2⟩ := dpAll_get hy (List.getElem?_eq_getElem hi)
    walk_at "go"
    refine w_ixB j (ha.imp (sl_mono e) (st_mono e)) (atI_nat hx1) ?_
    walk_at "go"
    refine w_ixB j (hb.imp (sl_mono e) (st_mono e)) (atI_nat hy1) ?_
    walk_at "go"
    refine use_eq j (dp_mono e hx2) (dp_mono e hy2) (hok _ (List.getElem_mem hi)) fun G2 H2 j2 e2 => ?_
    walk_at "go"
    exact ⟨G2, _, j2, e.trans e2, rfl⟩
  · rintro σ H ⟨G1, z, j, e, rfl⟩
    walk_at "go"
    exact k _ _ _ _ j e ⟨rfl, rfl⟩
/-! ### _law_equal -/
abbrev s_law_equal : Stmt := top 17
abbrev n_law_equal : List Str := ["actual", "due"]
theorem sc_law_equal : FnScope n_law_equal ["actual", "due"] (defScope s_law_equal) := ⟨rfl, rfl, rfl, by decide +kernel, rfl, by decide +kernel, by decide +kernel⟩
theorem ok_law_equal {P : Program} {w : World} {K : PySem.W.Frag} {mg : Str → Option Value} {base : Heap} {f : Addr} {fd : FuncData} (D : Dn K mg "_law_equal" s_law_equal ["actual", "due"] f fd)
    (b_isinstance : mg "isinstance" = none) (b_list : mg "list" = none) (b_tuple : mg "tuple" = none) (b_bool : mg "bool" = none) (b_int : mg "int" = none) (b_str : mg "str" = none) (b_len : mg "len" = none) (n : Nat)
    (c_law_all_equal : Cal P w K mg base CX0 (2 * n) "_law_all_equal" (spAll K n)) : Cal P w K mg base CX0 (2 * n + 1) "_law_equal" (spEq K n) := by
  refine D.ok sc_law_equal (fun vs H Q E h => ?_) fun cdv A outer s H vs Q E hr h => ?_
  · obtain ⟨x, M, G, j, ⟨rfl, _⟩, _⟩ := h; rfl
  obtain ⟨⟨x, y, d⟩, M, G, j, ⟨rfl, hx, hy, hok⟩, k⟩ := h
  dsimp only at hx hy hok k
  refine ⟨_, (pss_cons (ps_if (pt_val (pe_callB (call_isiK' (K := K) rfl) (by rfl) b_isinstance bt_isinstance (pa_cons (pv 1) (pa_cons (pe_bltn (v := .ty "list") (by rfl) b_list bt_list rfl) pa_nil))))
(pss_cons (ps_if (PW.pt (pw_or (pt_not (pt_val (pe_callB (call_isiK' (K := K) rfl) (by rfl) b_isinstance bt_isinstance (pa_cons (pv 0) (pa_cons (pe_bltn (v := .ty "list") (by rfl) b_list bt_list rfl) pa_nil))))) (pw_or1 (pt_cmpR (op_uNeK (K := K) rfl hr) (pe_callB (call_uLenK (K := K) rfl) (by rfl) b_len PySem.boot_len (pa_cons (pv 0) pa_nil)) (pe_callB (call_uLenK (K := K) rfl) (by rfl) b_len PySem.boot_len (pa_cons (pv 1) pa_nil)) (nomark _)))))
(pss_one (ps_ret pe_bl))
pss_nil)
(pss_one (ps_ret (pe_cal c_law_all_equal hr (by first | decide | omega) (by rfl) (pa_cons (pv 0) (pa_cons (pv 1) pa_nil))))))
pss_nil)
(pss_cons (ps_if (pt_val (pe_callB (call_isiK' (K := K) rfl) (by rfl) b_isinstance bt_isinstance (pa_cons (pv 1) (pa_cons (pe_bltn (v := .ty "tuple") (by rfl) b_tuple bt_tuple rfl) pa_nil))))
(pss_cons (ps_if (PW.pt (pw_or (pt_not (pt_val (pe_callB (call_isiK' (K := K) rfl) (by rfl) b_isinstance bt_isinstance (pa_cons (pv 0) (pa_cons (pe_bltn (v := .ty "tuple") (by rfl) b_tuple bt_tuple rfl) pa_nil))))) (pw_or1 (pt_cmpR (op_uNeK (K := K) rfl hr) (pe_callB (call_uLenK (K := K) rfl) (by rfl) b_len PySem.boot_len (pa_cons (pv 0) pa_nil)) (pe_callB (call_uLenK (K := K) rfl) (by rfl) b_len PySem.boot_len (pa_cons (pv 1) pa_nil)) (nomark _)))))
(pss_one (ps_ret pe_bl))
pss_nil)
(pss_one (ps_ret (pe_cal c_law_all_equal hr (by first | decide | omega) (by rfl) (pa_cons (pv 0) (pa_cons (pv 1) pa_nil))))))
pss_nil)
(pss_cons (ps_if (pt_val (pe_callB (call_isiK' (K := K) rfl) (by rfl) b_isinstance bt_isinstance (pa_cons (pv 1) (pa_cons (pe_bltn (v := .ty "bool") (by rfl) b_bool bt_bool rfl) pa_nil))))
(pss_one (ps_ret (pe_and (pe_callB (call_isiK' (K := K) rfl) (by rfl) b_isinstance bt_isinstance (pa_cons (pv 0) (pa_cons (pe_bltn (v := .ty "bool") (by rfl) b_bool bt_bool rfl) pa_nil))) (pe_one (pe_cmpR (op_uEqK (K := K) rfl hr) (pv 0) (pv 1) (nomark _))))))
pss_nil)
(pss_cons (ps_if (pt_val (pe_callB (call_isiK' (K := K) rfl) (by rfl) b_isinstance bt_isinstance (pa_cons (pv 1) (pa_cons (pe_bltn (v := .ty "int") (by rfl) b_int bt_int rfl) pa_nil))))
(pss_one (ps_ret (pe_and (pe_callB (call_isiK' (K := K) rfl) (by rfl) b_isinstance bt_isinstance (pa_cons (pv 0) (pa_cons (pe_bltn (v := .ty "int") (by rfl) b_int bt_int rfl) pa_nil))) (pe_and (pe_not (pe_callB (call_isiK' (K := K) rfl) (by rfl) b_isinstance bt_isinstance (pa_cons (pv 0) (pa_cons (pe_bltn (v := .ty "bool") (by rfl) b_bool bt_bool rfl) pa_nil)))) (pe_one (pe_cmpR (op_uEqK (K := K) rfl hr) (pv 0) (pv 1) (nomark _)))))))
pss_nil)
(pss_cons (ps_if (pt_val (pe_callB (call_isiK' (K := K) rfl) (by rfl) b_isinstance bt_isinstance (pa_cons (pv 1) (pa_cons (pe_bltn (v := .ty "str") (by rfl) b_str bt_str rfl) pa_nil))))
(pss_one (ps_ret (pe_and (pe_callB (call_isiK' (K := K) rfl) (by rfl) b_isinstance bt_isinstance (pa_cons (pv 0) (pa_cons (pe_bltn (v := .ty "str") (by rfl) b_str bt_str rfl) pa_nil))) (pe_one (pe_cmpR (op_uEqK (K := K) rfl hr) (pv 0) (pv 1) (nomark _))))))
pss_nil)
(pss_one (ps_ret (pe_cmp (pc_isN (pv 0)))))))))), ?_⟩
  walk_at "start"
  have fin : Q (.bl true) H := k _ _ _ _ j (Same.refl G) ⟨rfl, rfl⟩
  cases hy with
  | non =>
    cases hx
    walk_at "gx"
    exact fin
  | bl b =>
    cases hx
    walk_at "gx"
    refine w_eqV rfl (decide_eq_true rfl) ?_
    exact fin
  | int b =>
    cases hx
    walk_at "gx"
    rw [decide_eq_true rfl]
    exact fin
  | str b =>
    cases hx
    walk_at "gx"
    exact fin
  | lst hb hyl =>
    cases hx with
    | lst ha hxl =>
      cases n with
      | zero => cases hok
      | succ n =>
        walk_at "gx"
        refine w_isi true (ty_L (sl_mono j.g hb)) (by rfl) ?_
        walk_at "gx"
        refine w_isi true (ty_L (sl_mono j.g ha)) (by rfl) ?_
        walk_at "gx"
        refine w_lenL j ha ?_
        walk_at "gx"
        refine w_lenL j hb ?_
        walk_at "gx"
        rw [dpAll_len hxl, dpAll_len hyl, decide_eq_true rfl]
        refine w_F ?_
        walk_at "gx"
        exact use_all j (.inl ha) (.inl hb) hxl hyl hok.1 hok.2 fun G' H' j' e => k _ _ _ _ j' e ⟨rfl, rfl⟩
  | tup hb hyl =>
    cases hx with
    | tup ha hxl =>
      cases n with
      | zero => cases hok
      | succ n =>
        walk_at "gx"
        refine w_isi false (ty_T (st_mono j.g hb)) (by rfl) ?_
        walk_at "gx"
        refine w_isi true (ty_T (st_mono j.g hb)) (by rfl) ?_
        walk_at "gx"
        refine w_isi true (ty_T (st_mono j.g ha)) (by rfl) ?_
        walk_at "gx"
        refine w_lenT j ha ?_
        walk_at "gx"
        refine w_lenT j hb ?_
        walk_at "gx"
        rw [dpAll_len hxl, dpAll_len hyl, decide_eq_true rfl]
        refine w_F ?_
        walk_at "gx"
        exact use_all j (.inr ha) (.inr hb) hxl hyl hok.1 hok.2 fun G' H' j' e => k _ _ _ _ j' e ⟨rfl, rfl⟩
/-- both, at every depth -/
theorem ok_equal {P : Program} {w : World} {K : PySem.W.Frag} {mg : Str → Option Value} {base : Heap} {f g : Addr} {fd gd : FuncData} (D : Dn K mg "_law_equal" s_law_equal ["actual", "due"] f fd) (D2 : Dn K mg "_law_all_equal" s_law_all_equal ["actual", "due"] g gd)
    (b_isinstance : mg "isinstance" = none) (b_list : mg "list" = none) (b_tuple : mg "tuple" = none) (b_bool : mg "bool" = none) (b_int : mg "int" = none) (b_str : mg "str" = none) (b_len : mg "len" = none) (b_range : mg "range" = none) (n : Nat) :
    Cal P w K mg base CX0 (2 * n + 1) "_law_equal" (spEq K n) := by
  induction n with
  | zero => exact ok_law_equal D b_isinstance b_list b_tuple b_bool b_int b_str b_len 0 (D2.cal ⟨fun _ _ _ _ h => h.elim, fun _ _ _ _ _ _ _ _ _ _ _ _ _ h => h.elim⟩)
  | succ n ih => exact ok_law_equal D b_isinstance b_list b_tuple b_bool b_int b_str b_len (n + 1) (ok_law_all_equal D2 b_range b_len n ih)
/-! ### spans -/
def pairD (p : Int × Int) : PyData := .tuple [.int p.1, .int p.2]
def inP (ps : List (Int × Int)) (p : Int × Int) : Bool := (ps.map pairD).any fun z => PyData.eqv z (pairD p)
def addP (ps : List (Int × Int)) (p : Int × Int) : List (Int × Int) := if inP ps p = true then ps else ps ++ [p]
def spanM : Op → Option (Int × Int)
  | .put _ _ => none
  | .get k => some (k, k + 1)
  | .add k _ => some (k, k + 1)
  | .need k _ => some (k, k + 1)
  | .scan lo hi => if lo < hi then some (lo, hi) else none
def stepP (ps : List (Int × Int)) (op : Op) : List (Int × Int) := match spanM op with
  | some p => addP ps p
  | none => ps
def spansM (ops : List Op) : List (Int × Int) := ops.foldl stepP []
theorem spansM_snoc (ops : List Op) (op : Op) : spansM (ops ++ [op]) = stepP (spansM ops) op := by unfold spansM; rw [List.foldl_append]; rfl
theorem addP_len (ps : List (Int × Int)) (p : Int × Int) : (addP ps p).length ≤ ps.length + 1 := by
  unfold addP
  split
  · exact Nat.le_succ _
  · rw [List.length_append]; exact Nat.le_refl _
theorem stepP_len (ps : List (Int × Int)) (op : Op) : (stepP ps op).length ≤ ps.length + 1 := by
  unfold stepP
  split
  · exact addP_len _ _
  · exact Nat.le_succ _
theorem fold_len : ∀ (ops : List Op) (ps : List (Int × Int)), (ops.foldl stepP ps).length ≤ ps.length + ops.length
  | [], ps => Nat.le_refl _
  | op :: r, ps => by
    have := fold_len r (stepP ps op)
    have := stepP_len ps op
    rw [List.foldl_cons, List.length_cons]
    omega
theorem spansM_len (ops : List Op) : (spansM ops).length ≤ ops.length := by have := fold_len ops []; rw [List.length_nil, Nat.zero_add] at this; exact this
def PrAt (G : Hp) (as : List Addr) (ps : List (Int × Int)) : Prop := as.length = ps.length ∧ ∀ (i : Nat) (a : Addr) (p : Int × Int), as[i]? = some a → ps[i]? = some p → G a = some (.tup [.int p.1, .int p.2])
theorem PrAt.nil {G : Hp} : PrAt G [] [] := ⟨rfl, fun i a p h => by simp at h⟩
theorem PrAt.ex {G G' : Hp} {as : List Addr} {ps : List (Int × Int)} (h : PrAt G as ps) (e : Ex G G') : PrAt G' as ps := ⟨h.1, fun i a p h1 h2 => e _ _ (h.2 i a p h1 h2)⟩
theorem PrAt.snoc {G : Hp} {as : List Addr} {ps : List (Int × Int)} {a : Addr} {p : Int × Int} (h : PrAt G as ps) (o : G a = some (.tup [.int p.1, .int p.2])) : PrAt G (as ++ [a]) (ps ++ [p]) := by
  refine ⟨by rw [List.length_append, List.length_append, h.1]; rfl, fun i b q h1 h2 => ?_⟩
  rcases snoc_get h1 with ⟨hi, h1⟩ | ⟨hi, rfl⟩
  · rcases snoc_get h2 with ⟨_, h2⟩ | ⟨hj, _⟩
    · exact h.2 i b q h1 h2
    · have := h.1; omega
  · rcases snoc_get h2 with ⟨hj, _⟩ | ⟨_, rfl⟩
    · have := h.1; omega
    · exact o
theorem dp_pair {K : PySem.W.Frag} {G : Hp} {a : Addr} {p : Int × Int} (h : G a = some (.tup [.int p.1, .int p.2])) : Dp K G (.ref a) (pairD p) := .tup (st_of h) (.cons (.int _) (.cons (.int _) .nil))
theorem PrAt.dp {K : PySem.W.Frag} {G : Hp} {as : List Addr} {ps : List (Int × Int)} (h : PrAt G as ps) : DpAll K G (as.map V.ref) (ps.map pairD) := by
  refine dpAll_of (by rw [List.length_map, List.length_map]; exact h.1) fun i x d h1 h2 => ?_
  rw [List.getElem?_map] at h1 h2
  cases ha : as[i]? with
  | none => rw [ha] at h1; cases h1
  | some a =>
    cases hp : ps[i]? with
    | none => rw [hp] at h2; cases h2
    | some p =>
      rw [ha] at h1; rw [hp] at h2
      cases h1; cases h2
      exact dp_pair (h.2 i a p ha hp)
theorem shaped_pair (p : Int × Int) : SeqAt.shaped (pairD p) = true := rfl
theorem shaped_pairs : ∀ (ps : List (Int × Int)), ps.length ≤ 6 → SeqAt.shaped (.list (ps.map pairD)) = true
  | [], _ => rfl
  | [_], _ => rfl
  | [_, _], _ => rfl
  | [_, _, _], _ => rfl
  | [_, _, _, _], _ => rfl
  | [_, _, _, _, _], _ => rfl
  | [_, _, _, _, _, _], _ => rfl
  | _ :: _ :: _ :: _ :: _ :: _ :: _ :: r, h => by simp only [List.length_cons] at h; omega
theorem op_notInDK {X : Cx} {K : PySem.W.Frag} {j : Nat} (h : X.K = K) (hr : Room j X.A) : OpR X (compareOp .NotIn) (rNotInD K) := h ▸ op_notInD (by have := hr.un; omega)
theorem w_notInP {K : PySem.W.Frag} {M G H : Hp} {F t : Addr} {as : List Addr} {ps : List (Int × Int)} {p : Int × Int} {Q : VK} (j : J M G H) (hF : M F = some (.lst (as.map V.ref))) (ha : PrAt G as ps) (hl : ps.length ≤ 6) (ht : G t = some (.tup [.int p.1, .int p.2])) (q : Q (.bl (!inP ps p)) H) : rNotInD K (.ref t) (.ref F) H Q :=
  ⟨pairD p, ps.map pairD, dp_mono j.g (dp_pair ht), .lst (sl_of (j.m _ _ hF)) (dpAll_mono j.g ha.dp), shaped_pair p, shaped_pairs ps hl, q⟩
theorem okD_pairs {ps : List (Int × Int)} (h : ps.length ≤ 6) : okD 2 (.list (ps.map pairD)) := by
  refine ⟨by rw [List.length_map]; omega, fun x hx => ?_⟩
  obtain ⟨p, _, rfl⟩ := List.mem_map.mp hx
  refine ⟨by show 2 ≤ 100000; decide, fun y hy => ?_⟩
  rcases List.mem_cons.mp hy with rfl | hy
  · trivial
  · rw [List.mem_singleton.mp hy]; trivial
/-- a list of pairs that the caller has made -/
def SpEnd (M G : Hp) (ops : List Op) (v : V) (M' G' : Hp) : Prop := ∃ F as, v = .ref F ∧ G' F = some (.lst (as.map V.ref)) ∧ PrAt G' as (spansM ops) ∧ M' = M
/-! ### span_of -/
abbrev s_span_of : Stmt := top 10
abbrev n_span_of : List Str := ["op"]
theorem sc_span_of : FnScope n_span_of ["op"] (defScope s_span_of) := ⟨rfl, rfl, rfl, by decide +kernel, rfl, by decide +kernel, by decide +kernel⟩
def sp_span_of (K : PySem.W.Frag) : Sp := Sg (α := Addr × Op) (fun x vs _ G => vs = [.ref x.1] ∧ OpAt G x.1 x.2) (fun x M _ v M' G' => M' = M ∧ match spanM x.2 with | none => v = .non | some p => ∃ t, v = .ref t ∧ G' t = some (.tup [.int p.1, .int p.2]))
theorem ok_span_of {P : Program} {w : World} {K : PySem.W.Frag} {mg : Str → Option Value} {base : Heap}
    {f : Addr} {fd : FuncData} (D : Dn K mg "span_of" s_span_of ["op"] f fd) : Cal P w K mg base CX0 1 "span_of" (sp_span_of K) := by
  refine D.ok sc_span_of (fun vs H Q E h => ?_) fun cdv A outer s H vs Q E hr h => ?_
  · obtain ⟨x, M, G, j, ⟨rfl, _⟩, _⟩ := h; rfl
  obtain ⟨⟨a, op⟩, M, G, j, ⟨rfl, ho, hk⟩, k⟩ := h
  dsimp only at ho hk k
  refine ⟨_, (pss_cons (ps_if (pt_cmpR (op_uEqK (K := K) rfl hr) (pe_ix (ix_uK (K := K) rfl) (pv 0) pe_int (fun _ _ => rfl)) pe_str (nomark _))
(pss_one (ps_ret pe_non))
pss_nil)
(pss_cons (ps_if (pt_cmpR (op_uNeK (K := K) rfl hr) (pe_ix (ix_uK (K := K) rfl) (pv 0) pe_int (fun _ _ => rfl)) pe_str (nomark _))
(pss_one (ps_ret (pe_tup (pa_cons (pe_ix (ix_uK (K := K) rfl) (pv 0) pe_int (fun _ _ => rfl)) (pa_cons (pe_op (op_uAddK (K := K) rfl) (pe_ix (ix_uK (K := K) rfl) (pv 0) pe_int (fun _ _ => rfl)) pe_int) pa_nil)))))
pss_nil)
(pss_cons (ps_if (pt_cmpR op_lt (pe_ix (ix_uK (K := K) rfl) (pv 0) pe_int (fun _ _ => rfl)) (pe_ix (ix_uK (K := K) rfl) (pv 0) pe_int (fun _ _ => rfl)) (nomark _))
(pss_one (ps_ret (pe_tup (pa_cons (pe_ix (ix_uK (K := K) rfl) (pv 0) pe_int (fun _ _ => rfl)) (pa_cons (pe_ix (ix_uK (K := K) rfl) (pv 0) pe_int (fun _ _ => rfl)) pa_nil)))))
pss_nil)
(pss_one (ps_ret pe_non))))), ?_⟩
  walk_at "start"
  cases op with
  | put ky v => walk_at "gx"; exact k _ _ _ _ j (Same.refl G) ⟨rfl, rfl⟩
  | get ky =>
    walk_at "gx"
    refine w_neV (k := true) rfl (by decide +kernel) ?_
    walk_at "gx"
    exact w_new j (by show 2 ≤ sizeLine; decide) fun t G2 H2 j2 e2 ht _ => k _ _ _ _ j2 e2 ⟨rfl, t, rfl, ht⟩
  | add ky v =>
    walk_at "gx"
    refine w_neV (k := true) rfl (by decide +kernel) ?_
    walk_at "gx"
    exact w_new j (by show 2 ≤ sizeLine; decide) fun t G2 H2 j2 e2 ht _ => k _ _ _ _ j2 e2 ⟨rfl, t, rfl, ht⟩
  | need ky v =>
    walk_at "gx"
    refine w_neV (k := true) rfl (by decide +kernel) ?_
    walk_at "gx"
    exact w_new j (by show 2 ≤ sizeLine; decide) fun t G2 H2 j2 e2 ht _ => k _ _ _ _ j2 e2 ⟨rfl, t, rfl, ht⟩
  | scan lo hi =>
    walk_at "gx"
    refine w_neV (k := false) rfl (by decide +kernel) ?_
    walk_at "gx"
    refine w_dec (fun h => ?_) (fun h => ?_)
    · walk_at "gx"
      exact w_new j (by show 2 ≤ sizeLine; decide) fun t G2 H2 j2 e2 ht _ => k _ _ _ _ j2 e2 ⟨rfl, by rw [show spanM (.scan lo hi) = some (lo, hi) from if_pos h]; exact ⟨t, rfl, ht⟩⟩
    · walk_at "gx"
      exact k _ _ _ _ j (Same.refl G) ⟨rfl, by rw [show spanM (.scan lo hi) = none from if_neg h]⟩
/-! ### spans -/
abbrev s_spans : Stmt := top 11
abbrev n_spans : List Str := ["ops", "found", "op", "span"]
theorem sc_spans : FnScope n_spans ["ops"] (defScope s_spans) := ⟨rfl, rfl, rfl, by decide +kernel, rfl, by decide +kernel, by decide +kernel⟩
def sp_spans (K : PySem.W.Frag) : Sp := Sg (α := Addr × List Addr × List Op) (fun x vs _ G => vs = [.ref x.1] ∧ IsDeal G x.1 x.2.1 x.2.2) (fun x M G v M' G' => SpEnd M G x.2.2 v M' G')
theorem take_o {α : Type} {l : List α} {i : Nat} {x : α} (h : l[i]? = some x) : l.take (i + 1) = l.take i ++ [x] := by rw [List.take_add_one, h]; rfl
def SpI (M G : Hp) (a F : Addr) (ops : List Op) (i : Nat) (σ : L2.St) (H : Hp) : Prop := ∃ (us : List Addr) (M1 G1 : Hp) (y z : Option V), J M1 G1 H ∧ Ex G G1 ∧ M1 F = some (.lst (us.map V.ref)) ∧ Ag F M M1 ∧ PrAt G1 us (spansM (ops.take i)) ∧ σ = [some (.ref a), some (.ref F), y, z]
theorem ok_spans {P : Program} {w : World} {K : PySem.W.Frag} {mg : Str → Option Value} {base : Heap}
    {f : Addr} {fd : FuncData} (D : Dn K mg "spans" s_spans ["ops"] f fd)
    (c_span_of : Cal P w K mg base CX0 1 "span_of" (sp_span_of K)) : Cal P w K mg base CX0 2 "spans" (sp_spans K) := by
  refine D.ok sc_spans (fun vs H Q E h => ?_) fun cdv A outer s H vs Q E hr h => ?_
  · obtain ⟨x, M, G, j, ⟨rfl, _⟩, _⟩ := h; rfl
  obtain ⟨⟨a, as, ops⟩, M, G, j, ⟨rfl, ha, hops, h1, h6⟩, k⟩ := h
  dsimp only at ha hops h1 h6 k
  refine ⟨_, (pss_cons (ps_set (i := 1) sc_spans.nd rfl (Or.inl rfl) (pe_lst pa_nil))
(pss_cons (ps_for PassesOwn.never rfl (pi_list (pv 0)) (pg_name (i := 2) sc_spans.nd rfl (Or.inl rfl))
(pss_cons (ps_set (i := 3) sc_spans.nd rfl (Or.inl rfl) (pe_cal c_span_of hr (by first | decide | omega) (by rfl) (pa_cons (pv 2) pa_nil)))
(pss_one (ps_if (PW.pt (pw_and (pt_cmp (pc_notN (pv 3))) (pw_and1 (pt_cmpR (op_notInDK (K := K) rfl hr) (pv 3) (pv 1) (by with_unfolding_all rfl)))))
(pss_one (ps_expr (pe_bm PySem.F.plainAttrs_list PySem.F.slot_list_append PySem.F.type_list_append mt_append (pv 1) (pa_cons (pv 3) pa_nil))))
pss_nil))))
(pss_one (ps_ret (pv 1))))), ?_⟩
  walk_at "start"
  refine w_newM j (Nat.zero_le _) fun F H1 j1 nM nG => ?_
  walk_at "go"
  refine w_forLV rfl (SpI M G a F ops) (xs := as.map V.ref) (sl_of (j1.g _ _ ha)) ?_ ?_ ?_ ?_
  · exact ⟨[], _, G, _, _, j1, Same.refl G, upd_same, Ag.upd, .nil, rfl⟩
  · rintro i σ H _ ⟨us, M1, G1, y, z, j, e, _⟩
    exact sl_of (j.g _ _ (e _ _ ha))
  · rintro i x σ H hi ⟨us, M1, G1, y, z, j, e, hF, ag, hps, rfl⟩
    obtain ⟨u, op, rfl, hu, ho, hat⟩ := (hops.ex e).get hi
    have hil : i < ops.length := (List.getElem?_eq_some_iff.mp ho).1
    have hlen : (spansM (ops.take i)).length ≤ 5 := by have := spansM_len (ops.take i); rw [List.length_take] at this; omega
    have hnext : spansM (ops.take (i + 1)) = stepP (spansM (ops.take i)) op := by rw [take_o ho, spansM_snoc]
    walk_at "go"
    refine w_sg (u, op) j ⟨rfl, hat⟩ fun v M2 G2 H2 j2 e2 ⟨em, hv⟩ => ?_
    subst em
    dsimp only at hv
    cases hs : spanM op with
    | none =>
      rw [hs] at hv
      subst hv
      walk_at "go"
      refine w_nT rfl ?_
      walk_at "go"
      exact ⟨us, _, G2, _, _, j2, e.trans e2, hF, ag, by rw [hnext]; unfold stepP; rw [hs]; exact hps.ex e2, rfl⟩
    | some p =>
      rw [hs] at hv
      obtain ⟨t, rfl, ht⟩ := hv
      walk_at "go"
      refine w_nF (fun z => nomatch z) ?_
      walk_at "go"
      refine w_notInP j2 hF (hps.ex e2) (by omega) ht ?_
      refine w_bl ?_
      cases hin : inP (spansM (ops.take i)) p with
      | true =>
        refine w_nt ?_
        walk_at "go"
        exact ⟨us, _, G2, _, _, j2, e.trans e2, hF, ag, by rw [hnext]; unfold stepP; rw [hs]; dsimp only; unfold addP; rw [if_pos hin]; exact hps.ex e2, rfl⟩
      | false =>
        refine w_nf ?_
        walk_at "go"
        refine ⟨ty_listM j2 hF, ?_⟩
        walk_at "go"
        refine w_appendA j2 hF (by rw [List.length_map, hps.1]; omega) fun H3 j3 => ?_
        walk_at "go"
        exact ⟨us ++ [t], _, G2, _, _, j3, e.trans e2, by rw [List.map_append]; exact upd_same, ag.trans Ag.upd, by rw [hnext]; unfold stepP; rw [hs]; dsimp only; unfold addP; rw [if_neg (by rw [hin]; exact Bool.false_ne_true)]; exact (hps.ex e2).snoc ht, rfl⟩
  · rintro σ H ⟨us, M1, G1, y, z, j, e, hF, ag, hps, rfl⟩
    rw [List.length_map, hops.1, List.take_length] at hps
    walk_at "go"
    have e1 := Ex.new (o := .lst (us.map V.ref)) (j.out hF)
    exact k _ _ _ _ (j.seal hF) (e.trans e1) ⟨F, us, rfl, upd_same, hps.ex e1, ag.del_eq nM⟩
/-! ### _law_spans -/
abbrev s_law_spans : Stmt := top 29
abbrev n_law_spans : List Str := ["ops", "found", "op", "span"]
theorem sc_law_spans : FnScope n_law_spans ["ops"] (defScope s_law_spans) := ⟨rfl, rfl, rfl, by decide +kernel, rfl, by decide +kernel, by decide +kernel⟩
def sp_law_spans (K : PySem.W.Frag) : Sp := Sg (α := Addr × List Addr × List Op) (fun x vs _ G => vs = [.ref x.1] ∧ IsDeal G x.1 x.2.1 x.2.2) (fun x M G v M' G' => SpEnd M G x.2.2 v M' G')
theorem ok_law_spans {P : Program} {w : World} {K : PySem.W.Frag} {mg : Str → Option Value} {base : Heap}
    {f : Addr} {fd : FuncData} (D : Dn K mg "_law_spans" s_law_spans ["ops"] f fd) : Cal P w K mg base CX0 1 "_law_spans" (sp_law_spans K) := by
  refine D.ok sc_law_spans (fun vs H Q E h => ?_) fun cdv A outer s H vs Q E hr h => ?_
  · obtain ⟨x, M, G, j, ⟨rfl, _⟩, _⟩ := h; rfl
  obtain ⟨⟨a, as, ops⟩, M, G, j, ⟨rfl, ha, hops, h1, h6⟩, k⟩ := h
  dsimp only at ha hops h1 h6 k
  refine ⟨_, (pss_cons (ps_set (i := 1) sc_law_spans.nd rfl (Or.inl rfl) (pe_lst pa_nil))
(pss_cons (ps_for PassesOwn.never rfl (pi_list (pv 0)) (pg_name (i := 2) sc_law_spans.nd rfl (Or.inl rfl))
(pss_cons (ps_set (i := 3) sc_law_spans.nd rfl (Or.inl rfl) (pe_tup (pa_cons (pe_ix (ix_uK (K := K) rfl) (pv 2) pe_int (fun _ _ => rfl)) (pa_cons (pe_op (op_uAddK (K := K) rfl) (pe_ix (ix_uK (K := K) rfl) (pv 2) pe_int (fun _ _ => rfl)) pe_int) pa_nil))))
(pss_cons (ps_if (pt_cmpR (op_uEqK (K := K) rfl hr) (pe_ix (ix_uK (K := K) rfl) (pv 2) pe_int (fun _ _ => rfl)) pe_str (nomark _))
(pss_one (ps_set (i := 3) sc_law_spans.nd rfl (Or.inl rfl) (pe_tup (pa_cons (pe_ix (ix_uK (K := K) rfl) (pv 2) pe_int (fun _ _ => rfl)) (pa_cons (pe_ix (ix_uK (K := K) rfl) (pv 2) pe_int (fun _ _ => rfl)) pa_nil)))))
pss_nil)
(pss_one (ps_if (PW.pt (pw_and (pt_cmpR (op_uNeK (K := K) rfl hr) (pe_ix (ix_uK (K := K) rfl) (pv 2) pe_int (fun _ _ => rfl)) pe_str (nomark _)) (pw_and (pt_cmpR op_lt (pe_ix (ix_uK (K := K) rfl) (pv 3) pe_int (fun _ _ => rfl)) (pe_ix (ix_uK (K := K) rfl) (pv 3) pe_int (fun _ _ => rfl)) (nomark _)) (pw_and1 (pt_cmpR (op_notInDK (K := K) rfl hr) (pv 3) (pv 1) (by with_unfolding_all rfl))))))
(pss_one (ps_expr (pe_bm PySem.F.plainAttrs_list PySem.F.slot_list_append PySem.F.type_list_append mt_append (pv 1) (pa_cons (pv 3) pa_nil))))
pss_nil)))))
(pss_one (ps_ret (pv 1))))), ?_⟩
  walk_at "start"
  refine w_newM j (Nat.zero_le _) fun F H1 j1 nM nG => ?_
  walk_at "go"
  refine w_forLV rfl (SpI M G a F ops) (xs := as.map V.ref) (sl_of (j1.g _ _ ha)) ?_ ?_ ?_ ?_
  · exact ⟨[], _, G, _, _, j1, Same.refl G, upd_same, Ag.upd, .nil, rfl⟩
  · rintro i σ H _ ⟨us, M1, G1, y, z, j, e, _⟩
    exact sl_of (j.g _ _ (e _ _ ha))
  · rintro i x σ H hi ⟨us, M1, G1, y, z, j, e, hF, ag, hps, rfl⟩
    obtain ⟨u, op, rfl, hu, ho, hat⟩ := (hops.ex e).get hi
    have hil : i < ops.length := (List.getElem?_eq_some_iff.mp ho).1
    have hlen : (spansM (ops.take i)).length ≤ 5 := by have := spansM_len (ops.take i); rw [List.length_take] at this; omega
    have hnext : spansM (ops.take (i + 1)) = stepP (spansM (ops.take i)) op := by rw [take_o ho, spansM_snoc]
    have no : spanM op = none → ∀ {H : Hp} {G2 : Hp} {y z : Option V}, J M1 G2 H → Ex G1 G2 → SpI M G a F ops (i + 1) [some (.ref a), some (.ref F), y, z] H := fun hs H G2 y z j2 e2 =>
      ⟨us, _, G2, _, _, j2, e.trans e2, hF, ag, by rw [hnext]; unfold stepP; rw [hs]; exact hps.ex e2, rfl⟩
    have old : ∀ p, spanM op = some p → inP (spansM (ops.take i)) p = true → ∀ {H : Hp} {G2 : Hp} {y z : Option V}, J M1 G2 H → Ex G1 G2 → SpI M G a F ops (i + 1) [some (.ref a), some (.ref F), y, z] H := fun p hs hin H G2 y z j2 e2 =>
      ⟨us, _, G2, _, _, j2, e.trans e2, hF, ag, by rw [hnext]; unfold stepP; rw [hs]; dsimp only; unfold addP; rw [if_pos hin]; exact hps.ex e2, rfl⟩
    have new : ∀ p (t : Addr), spanM op = some p → inP (spansM (ops.take i)) p = false → ∀ {H : Hp} {G2 : Hp} {y z : Option V}, J (upd M1 F (.lst (us.map V.ref ++ [V.ref t]))) G2 H → Ex G1 G2 → G2 t = some (.tup [.int p.1, .int p.2]) → SpI M G a F ops (i + 1) [some (.ref a), some (.ref F), y, z] H := fun p t hs hin H G2 y z j2 e2 ht =>
      ⟨us ++ [t], _, G2, _, _, j2, e.trans e2, by rw [List.map_append]; exact upd_same, ag.trans Ag.upd, by rw [hnext]; unfold stepP; rw [hs]; dsimp only; unfold addP; rw [if_neg (by rw [hin]; exact Bool.false_ne_true)]; exact (hps.ex e2).snoc ht, rfl⟩
    have hat0 := hat.1
    have tst : ∀ {Q1 : Bool → Prop} {b : Bool}, Q1 b → ∃ k, V.bl b = .bl k ∧ Q1 k := fun q => ⟨_, rfl, q⟩
    cases op with
    | get ky =>
      walk_at "gx"
      refine w_new j (by show 2 ≤ sizeLine; decide) fun t G2 H2 j2 e2 ht _ => ?_
      have hat2 := e2 _ _ hat0
      walk_at "gx"
      refine w_neV (k := true) rfl (by decide +kernel) ?_
      walk_at "gx"
      refine w_dT (by omega) ?_
      walk_at "gx"
      refine w_notInP j2 hF (hps.ex e2) (by omega) (p := (ky, ky + 1)) ht ?_
      refine w_bl ?_
      cases hin : inP (spansM (ops.take i)) (ky, ky + 1) with
      | true =>
        refine w_nt ?_
        walk_at "go"
        exact old (ky, ky + 1) rfl hin j2 e2
      | false =>
        refine w_nf ?_
        walk_at "go"
        refine ⟨ty_listM j2 hF, ?_⟩
        walk_at "go"
        refine w_appendA j2 hF (by rw [List.length_map, hps.1]; omega) fun H3 j3 => ?_
        walk_at "go"
        exact new (ky, ky + 1) _ rfl hin j3 e2 ht
    | add ky v =>
      walk_at "gx"
      refine w_new j (by show 2 ≤ sizeLine; decide) fun t G2 H2 j2 e2 ht _ => ?_
      have hat2 := e2 _ _ hat0
      walk_at "gx"
      refine w_neV (k := true) rfl (by decide +kernel) ?_
      walk_at "gx"
      refine w_dT (by omega) ?_
      walk_at "gx"
      refine w_notInP j2 hF (hps.ex e2) (by omega) (p := (ky, ky + 1)) ht ?_
      refine w_bl ?_
      cases hin : inP (spansM (ops.take i)) (ky, ky + 1) with
      | true =>
        refine w_nt ?_
        walk_at "go"
        exact old (ky, ky + 1) rfl hin j2 e2
      | false =>
        refine w_nf ?_
        walk_at "go"
        refine ⟨ty_listM j2 hF, ?_⟩
        walk_at "go"
        refine w_appendA j2 hF (by rw [List.length_map, hps.1]; omega) fun H3 j3 => ?_
        walk_at "go"
        exact new (ky, ky + 1) _ rfl hin j3 e2 ht
    | need ky v =>
      walk_at "gx"
      refine w_new j (by show 2 ≤ sizeLine; decide) fun t G2 H2 j2 e2 ht _ => ?_
      have hat2 := e2 _ _ hat0
      walk_at "gx"
      refine w_neV (k := true) rfl (by decide +kernel) ?_
      walk_at "gx"
      refine w_dT (by omega) ?_
      walk_at "gx"
      refine w_notInP j2 hF (hps.ex e2) (by omega) (p := (ky, ky + 1)) ht ?_
      refine w_bl ?_
      cases hin : inP (spansM (ops.take i)) (ky, ky + 1) with
      | true =>
        refine w_nt ?_
        walk_at "go"
        exact old (ky, ky + 1) rfl hin j2 e2
      | false =>
        refine w_nf ?_
        walk_at "go"
        refine ⟨ty_listM j2 hF, ?_⟩
        walk_at "go"
        refine w_appendA j2 hF (by rw [List.length_map, hps.1]; omega) fun H3 j3 => ?_
        walk_at "go"
        exact new (ky, ky + 1) _ rfl hin j3 e2 ht
    | put ky v =>
      walk_at "gx"
      refine w_new j (by show 2 ≤ sizeLine; decide) fun t G2 H2 j2 e2 ht _ => ?_
      have hat2 := e2 _ _ hat0
      walk_at "gx"
      refine w_neV (k := false) rfl (by decide +kernel) ?_
      walk_at "gx"
      exact no rfl j2 e2
    | scan lo hi =>
      walk_at "gx"
      refine w_new j (by show 2 ≤ sizeLine; decide) fun t0 G2 H2 j2 e2 _ _ => ?_
      have hat2 := e2 _ _ hat0
      walk_at "gx"
      refine w_new j2 (by show 2 ≤ sizeLine; decide) fun t G3 H3 j3 e3 ht _ => ?_
      have hat3 := e3 _ _ hat2
      have e23 := e2.trans e3
      walk_at "gx"
      refine w_neV (k := true) rfl (by decide +kernel) ?_
      walk_at "gx"
      refine w_dec (fun h => ?_) (fun h => ?_)
      · walk_at "gx"
        refine w_notInP j3 hF (hps.ex e23) (by omega) (p := (lo, hi)) ht ?_
        refine w_bl ?_
        cases hin : inP (spansM (ops.take i)) (lo, hi) with
        | true =>
          refine w_nt ?_
          walk_at "go"
          exact old (lo, hi) (if_pos h) hin j3 e23
        | false =>
          refine w_nf ?_
          walk_at "go"
          refine ⟨ty_listM j3 hF, ?_⟩
          walk_at "go"
          refine w_appendA j3 hF (by rw [List.length_map, hps.1]; omega) fun H4 j4 => ?_
          walk_at "go"
          exact new (lo, hi) _ (if_pos h) hin j4 e23 ht
      · walk_at "gx"
        exact no (if_neg h) j3 e23
  · rintro σ H ⟨us, M1, G1, y, z, j, e, hF, ag, hps, rfl⟩
    rw [List.length_map, hops.1, List.take_length] at hps
    walk_at "go"
    have e1 := Ex.new (o := .lst (us.map V.ref)) (j.out hF)
    exact k _ _ _ _ (j.seal hF) (e.trans e1) ⟨F, us, rfl, upd_same, hps.ex e1, ag.del_eq nM⟩
/-! ### is_plain_integer -/
abbrev s_is_plain_integer : Stmt := top 1
abbrev n_is_plain_integer : List Str := ["thing"]
theorem sc_is_plain_integer : FnScope n_is_plain_integer ["thing"] (defScope s_is_plain_integer) := ⟨rfl, rfl, rfl, by decide +kernel, rfl, by decide +kernel, by decide +kernel⟩
def isI : V → Bool
  | .int _ => true
  | _ => false
def sp_is_plain_integer (K : PySem.W.Frag) : Sp := Sg (α := V) (fun x vs _ _ => vs = [x] ∧ flatV x = true) (fun x M _ v M' _ => v = .bl (isI x) ∧ M' = M)
theorem ok_is_plain_integer {P : Program} {w : World} {K : PySem.W.Frag} {mg : Str → Option Value} {base : Heap}
    {f : Addr} {fd : FuncData} (D : Dn K mg "is_plain_integer" s_is_plain_integer ["thing"] f fd)
    (b_isinstance : mg "isinstance" = none)
    (b_bool : mg "bool" = none)
    (b_int : mg "int" = none) : Cal P w K mg base CX0 1 "is_plain_integer" (sp_is_plain_integer K) := by
  refine D.ok sc_is_plain_integer (fun vs H Q E h => ?_) fun cdv A outer s H vs Q E hr h => ?_
  · obtain ⟨x, M, G, j, ⟨rfl, _⟩, _⟩ := h; rfl
  obtain ⟨x, M, G, j, ⟨rfl, hx⟩, k⟩ := h
  refine ⟨_, (pss_one (ps_ret (pe_and (pe_callB (call_isiK' (K := K) rfl) (by rfl) b_isinstance bt_isinstance (pa_cons (pv 0) (pa_cons (pe_bltn (v := .ty "int") (by rfl) b_int bt_int rfl) pa_nil))) (pe_one (pe_not (pe_callB (call_isiK' (K := K) rfl) (by rfl) b_isinstance bt_isinstance (pa_cons (pv 0) (pa_cons (pe_bltn (v := .ty "bool") (by rfl) b_bool bt_bool rfl) pa_nil)))))))), ?_⟩
  walk_at "start"
  have fin : ∀ b, b = isI x → Q (.bl b) H := fun b e => k _ _ _ _ j (Same.refl G) ⟨by rw [e], rfl⟩
  cases x with
  | non => walk_at "go"; exact fin _ rfl
  | bl b => walk_at "go"; exact fin _ rfl
  | int b => walk_at "go"; exact fin _ rfl
  | str b => walk_at "go"; exact fin _ rfl
  | byt b => cases hx
  | flt b => cases hx
  | ref b => cases hx
  | ty b => cases hx
/-! ### is_value -/
abbrev s_is_value : Stmt := top 5
abbrev n_is_value : List Str := ["thing"]
theorem sc_is_value : FnScope n_is_value ["thing"] (defScope s_is_value) := ⟨rfl, rfl, rfl, by decide +kernel, rfl, by decide +kernel, by decide +kernel⟩
def isV : V → Bool
  | .int n => decide (IsVal n)
  | _ => false
def sp_is_value (K : PySem.W.Frag) : Sp := Sg (α := V) (fun x vs _ _ => vs = [x] ∧ flatV x = true) (fun x M _ v M' _ => v = .bl (isV x) ∧ M' = M)
theorem ok_is_value {P : Program} {w : World} {K : PySem.W.Frag} {mg : Str → Option Value} {base : Heap}
    {f : Addr} {fd : FuncData} (D : Dn K mg "is_value" s_is_value ["thing"] f fd)
    (g_LIMIT : ∃ u, mg "LIMIT" = some u ∧ RelV (.int 1000000000000000000) u)
    (c_is_plain_integer : Cal P w K mg base CX0 1 "is_plain_integer" (sp_is_plain_integer K)) : Cal P w K mg base CX0 2 "is_value" (sp_is_value K) := by
  refine D.ok sc_is_value (fun vs H Q E h => ?_) fun cdv A outer s H vs Q E hr h => ?_
  · obtain ⟨x, M, G, j, ⟨rfl, _⟩, _⟩ := h; rfl
  obtain ⟨x, M, G, j, ⟨rfl, hx⟩, k⟩ := h
  refine ⟨_, (pss_one (ps_ret (pe_and (pe_cal c_is_plain_integer hr (by first | decide | omega) (by rfl) (pa_cons (pv 0) pa_nil)) (pe_one (pe_chain op_le op_le (pe_un un_neg (pe_gk (by rfl) g_LIMIT)) (pv 0) (pe_gk (by rfl) g_LIMIT)))))), ?_⟩
  walk_at "start"
  refine w_sg x j ⟨rfl, hx⟩ fun v M' G' H' j1 e1 ⟨ev, em⟩ => ?_
  subst ev em
  have fin : ∀ b, b = isV x → Q (.bl b) H' := fun b e => k _ _ _ _ j1 e1 ⟨by rw [e], rfl⟩
  cases x with
  | non => walk_at "go"; exact fin _ rfl
  | bl b => walk_at "go"; exact fin _ rfl
  | str b => walk_at "go"; exact fin _ rfl
  | byt b => cases hx
  | flt b => cases hx
  | ref b => cases hx
  | ty b => cases hx
  | int b =>
    dsimp only [isI]
    walk_at "go"
    refine w_dec (fun h => ?_) (fun h => ?_)
    · walk_at "go"
      refine fin _ ?_
      by_cases h2 : b ≤ 1000000000000000000
      · rw [decide_eq_true h2]; exact (decide_eq_true (show IsVal b from ⟨h, h2⟩)).symm
      · rw [decide_eq_false h2]; exact (decide_eq_false (show ¬ IsVal b from fun z => h2 z.2)).symm
    · walk_at "go"
      exact fin _ (decide_eq_false (show ¬ IsVal b from fun z => h z.1)).symm
/-! ### what deals mean -/
inductive Res where
  | non | int (n : Int) | rows (ps : List (Int × Int))
def rO : Option Int → Res
  | none => .non
  | some n => .int n
/-- the rows of a scan: a list of pairs -/
def RowsAt (G : Hp) (as : List Addr) (ps : List (Int × Int)) : Prop := as.length = ps.length ∧ ∀ (i : Nat) (a : Addr) (p : Int × Int), as[i]? = some a → ps[i]? = some p → G a = some (.tup [.int p.1, .int p.2])
theorem RowsAt.ex {G G' : Hp} {as : List Addr} {ps : List (Int × Int)} (h : RowsAt G as ps) (e : Ex G G') : RowsAt G' as ps := ⟨h.1, fun i a p h1 h2 => e _ _ (h.2 i a p h1 h2)⟩
theorem RowsAt.nil {G : Hp} : RowsAt G [] [] := ⟨rfl, fun i a op h => by simp at h⟩
theorem RowsAt.snoc {G : Hp} {as : List Addr} {ps : List (Int × Int)} {a : Addr} {p : Int × Int} (h : RowsAt G as ps) (o : G a = some (.tup [.int p.1, .int p.2])) : RowsAt G (as ++ [a]) (ps ++ [p]) := by
  refine ⟨by rw [List.length_append, List.length_append, h.1]; rfl, fun i b q h1 h2 => ?_⟩
  rcases snoc_get h1 with ⟨hi, h1⟩ | ⟨hi, rfl⟩
  · rcases snoc_get h2 with ⟨_, h2⟩ | ⟨hj, _⟩
    · exact h.2 i b q h1 h2
    · have := h.1; omega
  · rcases snoc_get h2 with ⟨hj, _⟩ | ⟨_, rfl⟩
    · have := h.1; omega
    · exact o
def ResAt (G : Hp) (v : V) : Res → Prop
  | .non => v = .non
  | .int n => v = .int n
  | .rows ps => ∃ t as, v = .ref t ∧ G t = some (.lst (as.map V.ref)) ∧ RowsAt G as ps
theorem ResAt.ex {G G' : Hp} {v : V} {r : Res} (h : ResAt G v r) (e : Ex G G') : ResAt G' v r := by
  cases r with
  | non => exact h
  | int n => exact h
  | rows ps => obtain ⟨t, as, h1, h2, h3⟩ := h; exact ⟨t, as, h1, e _ _ h2, h3.ex e⟩
theorem ResAt.o {G : Hp} (o : Option Int) : ResAt G (ov o) (rO o) := by cases o <;> rfl
def RessAt (G : Hp) (ws : List V) (rs : List Res) : Prop := ws.length = rs.length ∧ ∀ (i : Nat) (w : V) (r : Res), ws[i]? = some w → rs[i]? = some r → ResAt G w r
theorem RessAt.ex {G G' : Hp} {ws : List V} {rs : List Res} (h : RessAt G ws rs) (e : Ex G G') : RessAt G' ws rs := ⟨h.1, fun i w r h1 h2 => (h.2 i w r h1 h2).ex e⟩
theorem RessAt.nil {G : Hp} : RessAt G [] [] := ⟨rfl, fun i a op h => by simp at h⟩
theorem RessAt.snoc {G : Hp} {ws : List V} {rs : List Res} {w : V} {r : Res} (h : RessAt G ws rs) (o : ResAt G w r) : RessAt G (ws ++ [w]) (rs ++ [r]) := by
  refine ⟨by rw [List.length_append, List.length_append, h.1]; rfl, fun i b q h1 h2 => ?_⟩
  rcases snoc_get h1 with ⟨hi, h1⟩ | ⟨hi, rfl⟩
  · rcases snoc_get h2 with ⟨_, h2⟩ | ⟨hj, _⟩
    · exact h.2 i b q h1 h2
    · have := h.1; omega
  · rcases snoc_get h2 with ⟨hj, _⟩ | ⟨_, rfl⟩
    · have := h.1; omega
    · exact o
def failM (m : Fn) : Op → Bool
  | .add k a => !decide (IsVal ((m k).getD 0 + a))
  | .need k v => !decide (m k = v)
  | _ => false
def resM (m : Fn) : Op → Res
  | .get k => rO (m k)
  | .add k a => .int ((m k).getD 0 + a)
  | .scan lo hi => .rows (scanM m lo hi)
  | _ => .non
def postM (m : Fn) : Op → Fn
  | .put k v => setM m k v
  | .add k a => setM m k (some ((m k).getD 0 + a))
  | _ => m
def mAt (m : Fn) (ops : List Op) : Fn := ops.foldl postM m
def resL (m : Fn) : List Op → List Res
  | [] => []
  | op :: ops => resM m op :: resL (postM m op) ops
/-- how many operations are done -/
def cutM (m : Fn) : List Op → Nat
  | [] => 0
  | op :: ops => if failM m op = true then 0 else cutM (postM m op) ops + 1
theorem mAt_snoc (m : Fn) (ops : List Op) (op : Op) : mAt m (ops ++ [op]) = postM (mAt m ops) op := by unfold mAt; rw [List.foldl_append]; rfl
theorem resL_snoc : ∀ (m : Fn) (ops : List Op) (op : Op), resL m (ops ++ [op]) = resL m ops ++ [resM (mAt m ops) op]
  | m, [], op => rfl
  | m, o :: ops, op => by
    show resM m o :: resL (postM m o) (ops ++ [op]) = resM m o :: (resL (postM m o) ops ++ [resM (mAt (postM m o) ops) op])
    rw [resL_snoc]
theorem resL_len : ∀ (m : Fn) (ops : List Op), (resL m ops).length = ops.length
  | m, [] => rfl
  | m, o :: ops => by show (resL (postM m o) ops).length + 1 = ops.length + 1; rw [resL_len]
theorem take_snoc {α : Type} {xs : List α} {i : Nat} {x : α} (h : xs[i]? = some x) : xs.take (i + 1) = xs.take i ++ [x] := by
  rw [List.take_succ, h]; rfl
theorem cut_le : ∀ (m : Fn) (ops : List Op), cutM m ops ≤ ops.length
  | m, [] => Nat.le_refl _
  | m, o :: ops => by
    unfold cutM; split
    · exact Nat.zero_le _
    · exact Nat.succ_le_succ (cut_le (postM m o) ops)
theorem cut_at : ∀ {m : Fn} {ops : List Op} {i : Nat} {op : Op}, i ≤ cutM m ops → ops[i]? = some op → (failM (mAt m (ops.take i)) op = true → cutM m ops = i) ∧ (failM (mAt m (ops.take i)) op = false → i + 1 ≤ cutM m ops)
  | m, [], i, op, _, e => by simp at e
  | m, o :: ops, 0, op, h, e => by
    have e : o = op := Option.some.inj e
    subst e
    refine ⟨fun f => ?_, fun f => ?_⟩
    · show cutM m (o :: ops) = 0
      unfold cutM; rw [if_pos (show failM m o = true from f)]
    · unfold cutM; rw [if_neg (by rw [show failM m o = false from f]; decide)]; omega
  | m, o :: ops, i + 1, op, h, e => by
    have e : ops[i]? = some op := by simpa using e
    unfold cutM at h ⊢
    split at h
    · omega
    · rename_i hf
      rw [if_neg hf]
      have ih := cut_at (m := postM m o) (ops := ops) (i := i) (op := op) (by omega) e
      refine ⟨fun f => ?_, fun f => ?_⟩
      · rw [ih.1 f]
      · have := ih.2 f; omega
def outM (m : Fn) (ops : List Op) : Str := if cutM m ops = ops.length then "done" else "failed"
def endM (m : Fn) (ops : List Op) : Fn := if cutM m ops = ops.length then mAt m ops else m
def ressM (m : Fn) (ops : List Op) : List Res := resL m (ops.take (cutM m ops))
/-! ### new_value -/
abbrev s_new_value : Stmt := top 6
abbrev n_new_value : List Str := ["table", "op", "word", "key", "value"]
theorem sc_new_value : FnScope n_new_value ["table", "op"] (defScope s_new_value) := ⟨rfl, rfl, rfl, by decide +kernel, rfl, by decide +kernel, by decide +kernel⟩
def newM (m : Fn) : Op → Option Int
  | .put _ v => v
  | .add k a => some ((m k).getD 0 + a)
  | _ => none
def isSet : Op → Bool
  | .put _ _ => true
  | .add _ _ => true
  | _ => false
structure TbOp (M G : Hp) (d a : Addr) (kv : List (Int × Int)) (op : Op) : Prop where
  tb : Hd M G d (tk kv)
  op : OpAt G a op
def sp_new_value (K : PySem.W.Frag) : Sp := Sg (α := Addr × Addr × List (Int × Int) × Op) (fun x vs M G => vs = [.ref x.1, .ref x.2.1] ∧ TbOp M G x.1 x.2.1 x.2.2.1 x.2.2.2 ∧ isSet x.2.2.2 = true) (fun x M _ v M' _ => v = ov (newM (look x.2.2.1) x.2.2.2) ∧ M' = M)
theorem ok_new_value {P : Program} {w : World} {K : PySem.W.Frag} {mg : Str → Option Value} {base : Heap}
    {f : Addr} {fd : FuncData} (D : Dn K mg "new_value" s_new_value ["table", "op"] f fd) : Cal P w K mg base CX0 1 "new_value" (sp_new_value K) := by
  refine D.ok sc_new_value (fun vs H Q E h => ?_) fun cdv A outer s H vs Q E hr h => ?_
  · obtain ⟨x, M, G, j, ⟨rfl, _⟩, _⟩ := h; rfl
  obtain ⟨⟨d, a, kv, op⟩, M, G, j, ⟨rfl, ⟨tb, ho, _⟩, hs⟩, k⟩ := h
  dsimp only at tb ho hs k
  refine ⟨_, (pss_cons (ps_asg (pv 1) (pg_tup rfl (pgs_cons (pg_name (i := 2) sc_new_value.nd rfl (Or.inl rfl)) (pgs_cons (pg_name (i := 3) sc_new_value.nd rfl (Or.inl rfl)) (pgs_cons (pg_name (i := 4) sc_new_value.nd rfl (Or.inl rfl)) pgs_nil)))))
(pss_cons (ps_if (pt_cmpR (op_uEqK (K := K) rfl hr) (pv 2) pe_str (nomark _))
(pss_one (ps_ret (pe_op (op_uAddK (K := K) rfl) (pe_dget2 (hu_of hr) (pv 0) (pv 3) pe_int ⟨by rfl, by rfl, by rfl, by rfl⟩) (pv 4))))
pss_nil)
(pss_one (ps_ret (pv 4))))), ?_⟩
  walk_at "start"
  cases op with
  | get k => cases hs
  | need k v => cases hs
  | scan k v => cases hs
  | put ky v =>
    refine w_gTup j (st_of ho) (by rfl) ?_
    refine w_gCons ?_
    walk_at "go"
    refine w_gCons ?_
    walk_at "go"
    refine w_gCons ?_
    walk_at "go"
    refine w_gNil ?_
    walk_at "go"
    exact k _ _ _ _ j (Same.refl G) ⟨rfl, rfl⟩
  | add ky v =>
    refine w_gTup j (st_of ho) (by rfl) ?_
    refine w_gCons ?_
    walk_at "go"
    refine w_gCons ?_
    walk_at "go"
    refine w_gCons ?_
    walk_at "go"
    refine w_gNil ?_
    walk_at "go"
    refine w_getB j tb ?_
    walk_at "go"
    refine w_getE j tb ?_
    rw [tk_look, Option.getD_map]
    walk_at "go"
    exact k _ _ _ _ j (Same.refl G) ⟨rfl, rfl⟩
/-! ### is_failing -/
abbrev s_is_failing : Stmt := top 7
abbrev n_is_failing : List Str := ["table", "op"]
theorem sc_is_failing : FnScope n_is_failing ["table", "op"] (defScope s_is_failing) := ⟨rfl, rfl, rfl, by decide +kernel, rfl, by decide +kernel, by decide +kernel⟩
def sp_is_failing (K : PySem.W.Frag) : Sp := Sg (α := Addr × Addr × List (Int × Int) × Op) (fun x vs M G => vs = [.ref x.1, .ref x.2.1] ∧ TbOp M G x.1 x.2.1 x.2.2.1 x.2.2.2) (fun x M _ v M' _ => v = .bl (failM (look x.2.2.1) x.2.2.2) ∧ M' = M)
theorem ok_is_failing {P : Program} {w : World} {K : PySem.W.Frag} {mg : Str → Option Value} {base : Heap}
    {f : Addr} {fd : FuncData} (D : Dn K mg "is_failing" s_is_failing ["table", "op"] f fd)
    (c_is_value : Cal P w K mg base CX0 2 "is_value" (sp_is_value K))
    (c_new_value : Cal P w K mg base CX0 1 "new_value" (sp_new_value K)) : Cal P w K mg base CX0 3 "is_failing" (sp_is_failing K) := by
  refine D.ok sc_is_failing (fun vs H Q E h => ?_) fun cdv A outer s H vs Q E hr h => ?_
  · obtain ⟨x, M, G, j, ⟨rfl, _⟩, _⟩ := h; rfl
  obtain ⟨⟨d, a, kv, op⟩, M, G, j, ⟨rfl, ⟨tb, ho, hk⟩⟩, k⟩ := h
  dsimp only at tb ho hk k
  refine ⟨_, (pss_cons (ps_if (pt_cmpR (op_uEqK (K := K) rfl hr) (pe_ix (ix_uK (K := K) rfl) (pv 1) pe_int (fun _ _ => rfl)) pe_str (nomark _))
(pss_one (ps_ret (pe_cmpR (op_uNeK (K := K) rfl hr) (pe_dget1 (hu_of hr) (pv 0) (pe_ix (ix_uK (K := K) rfl) (pv 1) pe_int (fun _ _ => rfl)) ⟨by rfl, by rfl, by rfl, by rfl⟩) (pe_ix (ix_uK (K := K) rfl) (pv 1) pe_int (fun _ _ => rfl)) (nomark _))))
pss_nil)
(pss_one (ps_ret (pe_and (pe_cmpR (op_uEqK (K := K) rfl hr) (pe_ix (ix_uK (K := K) rfl) (pv 1) pe_int (fun _ _ => rfl)) pe_str (nomark _)) (pe_one (pe_not (pe_cal c_is_value hr (by first | decide | omega) (by rfl) (pa_cons (pe_cal c_new_value hr (by first | decide | omega) (by rfl) (pa_cons (pv 0) (pa_cons (pv 1) pa_nil))) pa_nil)))))))), ?_⟩
  walk_at "start"
  have fin : ∀ b, b = failM (look kv) op → ∀ G' H', J M G' H' → Ex G G' → Q (.bl b) H' := fun b e G' H' j e' => k _ _ _ _ j e' ⟨by rw [e], rfl⟩
  cases op with
  | get ky => walk_at "gx"; exact fin _ rfl G H j (Same.refl G)
  | scan lo hi => walk_at "gx"; exact fin _ rfl G H j (Same.refl G)
  | put ky v => walk_at "gx"; exact fin _ rfl G H j (Same.refl G)
  | need ky v =>
    walk_at "gx"
    refine w_getA j tb ?_
    walk_at "gx"
    refine w_getE j tb ?_
    walk_at "gx"
    rw [tk_look, ov_get]
    refine w_neV (scal_ov _ _) rfl ?_
    rw [dec_ov]
    exact fin _ rfl G H j (Same.refl G)
  | add ky v =>
    walk_at "gx"
    refine w_sg (d, a, kv, .add ky v) j ⟨rfl, ⟨tb, ho, hk⟩, rfl⟩ fun v1 M1 G1 H1 j1 e1 ⟨ev, em⟩ => ?_
    subst ev em
    walk_at "gx"
    refine w_sg _ j1 ⟨rfl, rfl⟩ fun v2 M2 G2 H2 j2 e2 ⟨ev, em⟩ => ?_
    subst ev em
    walk_at "gx"
    exact fin _ rfl _ _ j2 (e1.trans e2)
theorem rows_snoc {kv : List (Int × Int)} {ys : List Int} {i : Nat} {y lo hi : Int} (h : ys[i]? = some y) : rowsOf kv (ys.take (i + 1)) lo hi = rowsOf kv (ys.take i) lo hi ++ (if lo ≤ y ∧ y < hi then (look kv y).map fun v => (y, v) else none).toList := by
  rw [take_snoc h]; unfold rowsOf; rw [List.filterMap_append, List.filterMap_cons]
  split
  · rename_i e; rw [e]; rfl
  · rename_i b e; rw [e]; rfl
theorem rows_len {kv : List (Int × Int)} {ys : List Int} {lo hi : Int} : (rowsOf kv ys lo hi).length ≤ ys.length := List.length_filterMap_le _ _
/-- [(key, d[key]) for key in sorted(d) if op[1] <= key < op[2]] -/
theorem scan_lc {K : PySem.W.Frag} {M G H : Hp} {d a : Addr} {kv : List (Int × Int)} {lo hi : Int} {σ : L2.St} {s : Nat} {Q : VK} (j : J M G H) (tb : Hd M G d (tk kv)) (ho : G a = some (.tup (opV (.scan lo hi)))) (ok : TabOk kv 63)
    (s0 : ∀ x, ((wipe σ [s]).set s (some x))[0]? = some (some (.ref d))) (s1 : ∀ x, ((wipe σ [s]).set s (some x))[1]? = some (some (.ref a))) (s2 : ∀ x, ((wipe σ [s]).set s (some x))[s]? = some (some x)) (hw : ∀ x, wipe ((wipe σ [s]).set s (some x)) [s] = wipe σ [s])
    (k : ∀ t as G' H', J M G' H' → Ex G G' → G' t = some (.lst (as.map V.ref)) → RowsAt G' as (scanM (look kv) lo hi) → Q (.ref t) H') :
    SortD [V.ref d] H fun x H1 => LcL K (gName s) (tTest (tChain (rI0 fun i j => V.bl (decide (i ≤ j))) (rI0 fun i j => V.bl (decide (i < j))) (tOp (uIx K) (tVar 1) (tC (V.int 1))) (tVar s) (tOp (uIx K) (tVar 1) (tC (V.int 2)))))
      (tTup (tCons (tVar s) (tCons (tDGet (tVar 0) (tVar s)) tNil))) [s] σ x H1 Q := by
  refine w_sortD j tb (tk_keys kv) (by rw [List.length_map]; have := ok.len; omega) fun ys hp hs => ?_
  refine w_new j (Nat.zero_le _) fun q G1 H1 j1 e1 hq nq => ?_
  have hlen : ys.length ≤ 63 := by rw [hp.length_eq, List.length_map]; exact ok.len
  refine w_lcl j1 (fun L i acc M2 G2 => Ex G1 G2 ∧ Ag L M M2 ∧ M L = none ∧ ∃ as, acc = as.map V.ref ∧ RowsAt G2 as (rowsOf kv (ys.take i) lo hi)) (sl_of hq) ?_ (fun _ _ _ _ _ h => h.1) hw ?_ ?_
  · exact fun L h1 h2 => ⟨Same.refl _, Ag.upd, h1, [], rfl, .nil⟩
  · rintro L i x acc M2 G2 H2 R hxi j2 hL ⟨e2, a2, mL, as, rfl, hr⟩ hR
    obtain ⟨y, hy, rfl⟩ : ∃ y, ys[i]? = some y ∧ x = V.int y := by
      rw [List.getElem?_map] at hxi
      cases h : ys[i]? with
      | none => rw [h] at hxi; cases hxi
      | some y => rw [h] at hxi; exact ⟨y, rfl, (Option.some.inj hxi).symm⟩
    have hil : i < 63 := by have := (List.getElem?_eq_some_iff.mp hy).1; omega
    have hro := rows_snoc (kv := kv) (lo := lo) (hi := hi) hy
    have ho2 : G2 a = some (.tup (opV (.scan lo hi))) := e2 _ _ (e1 _ _ ho)
    have skip : ¬ (lo ≤ y ∧ y < hi) → SkipL L (as.map V.ref) (fun acc M2 G2 => Ex G1 G2 ∧ Ag L M M2 ∧ M L = none ∧ ∃ as, acc = as.map V.ref ∧ RowsAt G2 as (rowsOf kv (ys.take (i + 1)) lo hi)) H2 := fun hn =>
      ⟨M2, G2, j2, hL, e2, a2, mL, as, rfl, by rw [hro, if_neg hn]; show RowsAt G2 as (rowsOf kv (ys.take i) lo hi ++ []); rw [List.append_nil]; exact hr⟩
    refine w_test (w_chain (w_op (w_var (s1 _) (w_c (w_ixT j2 (st_of ho2) (by rfl) (w_var (s2 _) (w_I0 (w_bl (w_dec (fun h1 => ?_) fun h1 => ?_)))))))))
    · refine w_op (w_var (s1 _) (w_c (w_ixT j2 (st_of ho2) (by rfl) (w_I0 (w_bl (hR _ _ (w_dec (fun h2 => ?_) fun h2 => skip (fun z => h2 z.2))))))))
      have hk : y ∈ kv.map (·.1) := hp.mem_iff.mp (List.mem_of_getElem? hy)
      obtain ⟨v, hv⟩ : ∃ v, look kv y = some v := by
        cases h : look kv y with
        | none => exact absurd hk (look_none.mp h)
        | some v => exact ⟨v, rfl⟩
      have tb2 : Hd M2 G2 d (tk kv) := by
        rcases tb with tb | tb
        · exact .inl ((a2 d (ne_of_none tb mL)).trans tb)
        · exact .inr (rd_same (e1.trans e2) tb)
      refine w_tup (w_acons (w_var (s2 _) (w_acons (w_dget (w_var (s0 _) (w_var (s2 _) (w_getX j2 tb2 (v := .int v) (by rw [tk_look, hv]; rfl) (w_anil (w_new j2 (by show 2 ≤ sizeLine; decide) fun u G3 H3 j3 e3 hu nu => ?_)))))))))
      refine StepL.go (P := fun L i acc M2 G2 => Ex G1 G2 ∧ Ag L M M2 ∧ M L = none ∧ ∃ as, acc = as.map V.ref ∧ RowsAt G2 as (rowsOf kv (ys.take i) lo hi)) ⟨M2, G3, j3, hL, sz_lt (by rw [List.length_map, hr.1]; have := rows_len (kv := kv) (ys := ys.take i) (lo := lo) (hi := hi); rw [List.length_take] at this; omega), e2.trans e3, a2.trans Ag.upd, mL, as ++ [u], ref_snoc as u, ?_⟩
      rw [hro, if_pos ⟨h1, h2⟩, hv]
      exact (hr.ex e3).snoc (p := (y, v)) hu
    · refine w_bl (hR _ _ (w_F (skip fun z => h1 z.1)))
  · rintro L acc M2 G2 H2 j2 hL ⟨e2, a2, mL, as, rfl, hr⟩
    rw [List.length_map, List.take_length, rows_eq ok (fun _ => rfl) hp hs] at hr
    have js := j2.seal hL
    rw [a2.del_eq mL] at js
    exact k L as _ _ js ((e1.trans e2).trans (Ex.new (j2.out hL))) upd_same (hr.ex (Ex.new (j2.out hL)))
/-! ### result_of -/
abbrev s_result_of : Stmt := top 8
abbrev n_result_of : List Str := ["table", "op", "key"]
theorem sc_result_of : FnScope n_result_of ["table", "op"] (defScope s_result_of) := ⟨rfl, rfl, rfl, by decide +kernel, rfl, by decide +kernel, by decide +kernel⟩
def sp_result_of (K : PySem.W.Frag) : Sp := Sg (α := Addr × Addr × List (Int × Int) × Op) (fun x vs M G => vs = [.ref x.1, .ref x.2.1] ∧ TbOp M G x.1 x.2.1 x.2.2.1 x.2.2.2 ∧ TabOk x.2.2.1 63)
  (fun x M _ v M' G' => ResAt G' v (resM (look x.2.2.1) x.2.2.2) ∧ M' = M)
theorem ok_result_of {P : Program} {w : World} {K : PySem.W.Frag} {mg : Str → Option Value} {base : Heap}
    {f : Addr} {fd : FuncData} (D : Dn K mg "result_of" s_result_of ["table", "op"] f fd)
    (b_sorted : mg "sorted" = none)
    (c_new_value : Cal P w K mg base CX0 1 "new_value" (sp_new_value K)) : Cal P w K mg base CX0 2 "result_of" (sp_result_of K) := by
  refine D.ok sc_result_of (fun vs H Q E h => ?_) fun cdv A outer s H vs Q E hr h => ?_
  · obtain ⟨x, M, G, j, ⟨rfl, _⟩, _⟩ := h; rfl
  obtain ⟨⟨d, a, kv, op⟩, M, G, j, ⟨rfl, ⟨tb, ho, hk⟩, ok⟩, k⟩ := h
  dsimp only at tb ho hk k ok
  refine ⟨_, (pss_cons (ps_if (pt_cmpR (op_uEqK (K := K) rfl hr) (pe_ix (ix_uK (K := K) rfl) (pv 1) pe_int (fun _ _ => rfl)) pe_str (nomark _))
(pss_one (ps_ret (pe_dget1 (hu_of hr) (pv 0) (pe_ix (ix_uK (K := K) rfl) (pv 1) pe_int (fun _ _ => rfl)) ⟨by rfl, by rfl, by rfl, by rfl⟩)))
pss_nil)
(pss_cons (ps_if (pt_cmpR (op_uEqK (K := K) rfl hr) (pe_ix (ix_uK (K := K) rfl) (pv 1) pe_int (fun _ _ => rfl)) pe_str (nomark _))
(pss_one (ps_ret (pe_cal c_new_value hr (by first | decide | omega) (by rfl) (pa_cons (pv 0) (pa_cons (pv 1) pa_nil)))))
pss_nil)
(pss_cons (ps_if (pt_cmpR (op_uEqK (K := K) rfl hr) (pe_ix (ix_uK (K := K) rfl) (pv 1) pe_int (fun _ _ => rfl)) pe_str (nomark _))
(pss_one (ps_ret (pe_lc (own := [("key", 2)]) (by rfl) sc_result_of.nd (pi_list (pe_callB (call_sortDC rfl) (by rfl) b_sorted bt_sorted (pa_cons (pv 0) pa_nil))) (blkOk_by (own := [("key", 2)]) (N := n_result_of) (sc := defScope s_result_of) (by decide +kernel)) (fun _ _ _ _ _ => pg_name (i := 2) sc_result_of.nd rfl (Or.inl rfl)) (fun _ _ _ _ _ => pts_one (pt_chain op_le op_lt (pe_ix (ix_uK (K := K) rfl) (pv 1) pe_int (fun _ _ => rfl)) (pv 2) (pe_ix (ix_uK (K := K) rfl) (pv 1) pe_int (fun _ _ => rfl)))) (fun _ _ _ _ _ => (pe_tup (pa_cons (pv 2) (pa_cons (pe_dget (hu_of hr) (pv 0) (pv 2) (fun _ _ => rfl)) pa_nil)))))))
pss_nil)
(pss_one (ps_ret pe_non))))), ?_⟩
  walk_at "start"
  cases op with
  | get ky =>
    walk_at "gx"
    refine w_getA j tb ?_
    walk_at "gx"
    refine w_getE j tb ?_
    rw [tk_look, ov_get]
    exact k _ _ _ _ j (Same.refl G) ⟨ResAt.o _, rfl⟩
  | put ky v => walk_at "gx"; exact k _ _ _ _ j (Same.refl G) ⟨rfl, rfl⟩
  | need ky v => walk_at "gx"; exact k _ _ _ _ j (Same.refl G) ⟨rfl, rfl⟩
  | add ky v =>
    walk_at "gx"
    refine w_sg (d, a, kv, .add ky v) j ⟨rfl, ⟨tb, ho, hk⟩, rfl⟩ fun v1 M1 G1 H1 j1 e1 ⟨ev, em⟩ => ?_
    subst ev em
    exact k _ _ _ _ j1 e1 ⟨rfl, rfl⟩
  | scan lo hi =>
    walk_at "gx"
    refine scan_lc j tb ho ok (fun _ => rfl) (fun _ => rfl) (fun _ => rfl) (fun _ => rfl) fun t as G1 H1 j1 e1 ht hr => ?_
    exact k _ _ _ _ j1 e1 ⟨⟨t, as, rfl, ht, hr⟩, rfl⟩
theorem own2 {M M1 : Hp} {R D : Addr} {x y : HO} (hR : M1 R = some x) (hD : M1 D = some y) (h : ∀ b, b ≠ R → b ≠ D → M1 b = M b) : M1 = upd (upd M R x) D y := by
  funext b
  by_cases q : b = D
  · subst q; rw [upd_same, hD]
  · rw [upd_ne q]
    by_cases q2 : b = R
    · subst q2; rw [upd_same, hR]
    · rw [upd_ne q2]; exact h b q2 q
/-- a deal's end: the outcome, the list of the results at R, the dictionary at D -/
structure ExEnd (M G M' G' : Hp) (R D : Addr) (kv : List (Int × Int)) (ops : List Op) (n : Nat) : Prop where
  own : ∃ ws kv', M' = upd (upd M R (.lst ws)) D (.dK (tk kv')) ∧ RessAt G' ws (ressM (look kv) ops) ∧ TabOk kv' (n + 6) ∧ Rep kv' (endM (look kv) ops)
  nR : M R = none
  nD : M D = none
  ne : R ≠ D
  gR : G R = none
  gD : G D = none
structure ExPre (M G : Hp) (d a : Addr) (kv : List (Int × Int)) (as : List Addr) (ops : List Op) (n : Nat) : Prop where
  tb : Hd M G d (tk kv)
  ok : TabOk kv n
  nn : n ≤ 57
  dl : IsDeal G a as ops
/-- between the operations -/
def ExI (M G : Hp) (d a D R : Addr) (kv : List (Int × Int)) (ops : List Op) (n : Nat) (i : Nat) (σ : L2.St) (H : Hp) : Prop := ∃ (ws : List V) (kv1 : List (Int × Int)) (M1 G1 : Hp) (x y : Option V), J M1 G1 H ∧ M1 D = some (.dK (tk kv1)) ∧ M1 R = some (.lst ws) ∧
  (∀ b, b ≠ R → b ≠ D → M1 b = M b) ∧ Ex G G1 ∧ RessAt G1 ws (resL (look kv) (ops.take i)) ∧ TabOk kv1 (n + i) ∧ Rep kv1 (mAt (look kv) (ops.take i)) ∧ i ≤ cutM (look kv) ops ∧ σ = [some (.ref d), some (.ref a), some (.ref D), some (.ref R), x, y]
/-! ### execute -/
abbrev s_execute : Stmt := top 9
abbrev n_execute : List Str := ["table", "ops", "after", "results", "op", "value"]
theorem sc_execute : FnScope n_execute ["table", "ops"] (defScope s_execute) := ⟨rfl, rfl, rfl, by decide +kernel, rfl, by decide +kernel, by decide +kernel⟩
def sp_execute (K : PySem.W.Frag) : Sp := Sg (α := Addr × Addr × List (Int × Int) × List Addr × List Op × Nat) (fun x vs M G => vs = [.ref x.1, .ref x.2.1] ∧ ExPre M G x.1 x.2.1 x.2.2.1 x.2.2.2.1 x.2.2.2.2.1 x.2.2.2.2.2)
  (fun x M G v M' G' => ∃ t R D, v = .ref t ∧ G' t = some (.tup [.str (outM (look x.2.2.1) x.2.2.2.2.1), .ref R, .ref D]) ∧ ExEnd M G M' G' R D x.2.2.1 x.2.2.2.2.1 x.2.2.2.2.2)
theorem use_execute {K : PySem.W.Frag} {M G H : Hp} {d a : Addr} {kv : List (Int × Int)} {as : List Addr} {ops : List Op} {n : Nat} {Q : VK} {E : XK} (j : J M G H) (p : ExPre M G d a kv as ops n)
    (k : ∀ (t R D : Addr) (M' G' H' : Hp), J M' G' H' → Ex G G' → G' t = some (.tup [.str (outM (look kv) ops), .ref R, .ref D]) → ExEnd M G M' G' R D kv ops n → Q (.ref t) H') : sp_execute K ([.ref d, .ref a] ++ []) H Q E :=
  w_sg (d, a, kv, as, ops, n) j ⟨rfl, p⟩ fun v M' G' H' j' e ⟨t, R, D, ev, ht, x⟩ => by subst ev; exact k t R D M' G' H' j' e ht x
theorem set_in (w : Str) : inV (.str w) [V.str "put", V.str "add"] = (decide (("put" : Str) = w) || decide (("add" : Str) = w)) := by
  show ((("put" : Str) == w) || ((("add" : Str) == w) || false)) = _
  rw [Bool.or_false, Bool.beq_eq_decide_eq, Bool.beq_eq_decide_eq]
theorem ok_execute {P : Program} {w : World} {K : PySem.W.Frag} {mg : Str → Option Value} {base : Heap}
    {f : Addr} {fd : FuncData} (D : Dn K mg "execute" s_execute ["table", "ops"] f fd)
    (b_dict : mg "dict" = none)
    {a_SETTING : Addr} (g_SETTING : ∃ u, mg "SETTING" = some u ∧ RelV (.ref a_SETTING) u) (k_SETTING : ∀ H, SqT K H a_SETTING [V.str "put", V.str "add"])
    (c_new_value : Cal P w K mg base CX0 1 "new_value" (sp_new_value K))
    (c_result_of : Cal P w K mg base CX0 2 "result_of" (sp_result_of K))
    (c_is_failing : Cal P w K mg base CX0 3 "is_failing" (sp_is_failing K)) : Cal P w K mg base CX0 4 "execute" (sp_execute K) := by
  refine D.ok sc_execute (fun vs H Q E h => ?_) fun cdv A outer s H vs Q E hr h => ?_
  · obtain ⟨x, M, G, j, ⟨rfl, _⟩, _⟩ := h; rfl
  obtain ⟨⟨d, a, kv, as, ops, n⟩, M, G, j, ⟨rfl, p⟩, k⟩ := h
  dsimp only at p k
  obtain ⟨tb, ok, hn, ha, hops, h1, h6⟩ := p
  refine ⟨_, (pss_cons (ps_set (i := 2) sc_execute.nd rfl (Or.inl rfl) (pe_callTy call_dictC (by rfl) b_dict bt_dict (pa_cons (pv 0) pa_nil)))
(pss_cons (ps_set (i := 3) sc_execute.nd rfl (Or.inl rfl) (pe_lst pa_nil))
(pss_cons (ps_for PassesOwn.never rfl (pi_list (pv 1)) (pg_name (i := 4) sc_execute.nd rfl (Or.inl rfl))
(pss_cons (ps_if (pt_val (pe_cal c_is_failing hr (by first | decide | omega) (by rfl) (pa_cons (pv 2) (pa_cons (pv 4) pa_nil))))
(pss_one (ps_ret (pe_tup (pa_cons pe_str (pa_cons (pv 3) (pa_cons (pe_callTy call_dictC (by rfl) b_dict bt_dict (pa_cons (pv 0) pa_nil)) pa_nil))))))
pss_nil)
(pss_cons (ps_expr (pe_bm PySem.F.plainAttrs_list PySem.F.slot_list_append PySem.F.type_list_append mt_append (pv 3) (pa_cons (pe_cal c_result_of hr (by first | decide | omega) (by rfl) (pa_cons (pv 2) (pa_cons (pv 4) pa_nil))) pa_nil)))
(pss_one (ps_if (pt_cmpR (op_inK (K := K) rfl) (pe_ix (ix_uK (K := K) rfl) (pv 4) pe_int (fun _ _ => rfl)) (pe_gk (by rfl) g_SETTING) (by with_unfolding_all rfl))
(pss_cons (ps_set (i := 5) sc_execute.nd rfl (Or.inl rfl) (pe_cal c_new_value hr (by first | decide | omega) (by rfl) (pa_cons (pv 2) (pa_cons (pv 4) pa_nil))))
(pss_one (ps_if (pt_cmp (pc_isN (pv 5)))
(pss_one (ps_expr (pe_dpop2 (pv 2) (pe_ix (ix_uK (K := K) rfl) (pv 4) pe_int (fun _ _ => rfl)) pe_non ⟨by rfl, by rfl, by rfl, by rfl⟩)))
(pss_one (ps_dput (hu_of hr) (pv 2) (pe_ix (ix_uK (K := K) rfl) (pv 4) pe_int (fun _ _ => rfl)) (pv 5) rfl)))))
pss_nil)))))
(pss_one (ps_ret (pe_tup (pa_cons pe_str (pa_cons (pv 3) (pa_cons (pv 2) pa_nil))))))))), ?_⟩
  walk_at "start"
  refine w_dictC j tb (w_newM j (Nat.zero_le _) fun L H1 j1 nM nG => ?_)
  walk_at "go"
  refine w_newM j1 (Nat.zero_le _) fun R H2 j2 nM2 nG2 => ?_
  walk_at "go"
  have nRL : R ≠ L := fun z => by subst z; rw [upd_same] at nM2; cases nM2
  have nMR : M R = none := by rw [upd_ne nRL] at nM2; exact nM2
  refine w_forLV rfl (ExI M G d a L R kv ops n) (xs := as.map V.ref) (sl_of (j2.g _ _ ha)) ?_ ?_ ?_ ?_
  · refine ⟨[], kv, _, G, none, none, j2, ?_, upd_same, ?_, Same.refl G, .nil, ok, fun _ => rfl, Nat.zero_le _, rfl⟩
    · rw [upd_ne nRL.symm]; exact upd_same
    · intro b q1 q2; rw [upd_ne q1, upd_ne q2]
  · rintro i σ H _ ⟨ws, kv1, M1, G1, x, y, j, hD, hR, hM, e, _⟩
    exact sl_of (j.g _ _ (e _ _ ha))
  · rintro i x σ H hi ⟨ws, kv1, M1, G1, x0, y0, j, hD, hR, hM, e, hres, ok1, rep, hc, rfl⟩
    obtain ⟨u, op, rfl, hu, ho, hat⟩ := (hops.ex e).get hi
    have hil : i < 6 := by have := (List.getElem?_eq_some_iff.mp ho).1; omega
    have em : look kv1 = mAt (look kv) (ops.take i) := funext rep
    have hcut := cut_at hc ho
    rw [← em] at hcut
    have hlen := resL_len (look kv) (ops.take i)
    have hresn : resL (look kv) (ops.take (i + 1)) = resL (look kv) (ops.take i) ++ [resM (look kv1) op] := by rw [take_snoc ho, resL_snoc, em]
    have hmn : mAt (look kv) (ops.take (i + 1)) = postM (look kv1) op := by rw [take_snoc ho, mAt_snoc, em]
    walk_at "go"
    refine w_sg (L, u, kv1, op) j ⟨rfl, .inl hD, hat⟩ fun v M2 G2 H2 j2 e2 ⟨ev, em2⟩ => ?_
    subst ev em2
    walk_at "go"
    refine w_two (fun hf => ?_) (fun hf => ?_)
    · walk_at "go"
      have hcut := hcut.1 hf
      have tb1 : Hd M2 G2 d (tk kv) := by
        rcases tb with tb | tb
        · refine .inl ?_
          rw [hM d (ne_of_none tb nMR) (ne_of_none tb nM)]; exact tb
        · exact .inr (rd_same (e.trans e2) tb)
      refine w_dictC j2 tb1 (w_newM j2 (Nat.zero_le _) fun D2 H3 j3 nM3 nG3 => ?_)
      walk_at "go"
      have n1 : D2 ≠ L := fun z => by subst z; rw [hD] at nM3; cases nM3
      have n2 : D2 ≠ R := fun z => by subst z; rw [hR] at nM3; cases nM3
      have j4 := j3.drop L
      refine w_new j4 (by show 3 ≤ sizeLine; decide) fun t G5 H5 j5 e5 ht nt => ?_
      have ho : outM (look kv) ops = "failed" := by unfold outM; rw [if_neg (by rw [hcut]; have := (List.getElem?_eq_some_iff.mp ho).1; omega)]
      refine k _ _ _ _ j5 ((e.trans e2).trans e5) ⟨t, R, D2, rfl, by rw [ho]; exact ht, ⟨ws, kv, ?_, ?_, ok.mono (by omega), ?_⟩, nMR, ?_, n2.symm, nG2, (e.trans e2).free nG3⟩
      · refine own2 ?_ ?_ fun b q1 q2 => ?_
        · rw [del_ne nRL, upd_ne n2.symm]; exact hR
        · rw [del_ne n1]; exact upd_same
        · by_cases q3 : b = L
          · subst q3; rw [del_same, nM]
          · rw [del_ne q3, upd_ne q2]; exact hM b q1 q3
      · unfold ressM; rw [hcut]; exact hres.ex (e2.trans e5)
      · unfold endM; rw [if_neg (by rw [hcut]; have := (List.getElem?_eq_some_iff.mp (by assumption)).1; omega)]; exact fun _ => rfl
      · rw [← hM D2 n2 n1]; exact nM3
    · have hcut2 := hcut.2 hf
      walk_at "go"
      refine ⟨ty_listM j2 hR, ?_⟩
      walk_at "go"
      refine w_sg (L, u, kv1, op) j2 ⟨rfl, ⟨.inl hD, hat.ex e2⟩, ok1.mono (by omega)⟩ fun v M3 G3 H3 j3 e3 ⟨hv, em2⟩ => ?_
      subst em2
      walk_at "go"
      refine w_appendA j3 hR (by rw [hres.1, hlen, List.length_take]; omega) fun H4 j4 => ?_
      walk_at "go"
      have hat3 : OpAt G3 u op := (hat.ex e2).ex e3
      have hat4 := hat3.1
      have hres4 : RessAt G3 (ws ++ [v]) (resL (look kv) (ops.take (i + 1))) := by rw [hresn]; exact (hres.ex (e2.trans e3)).snoc hv
      have hD4 : upd M3 R (.lst (ws ++ [v])) L = some (.dK (tk kv1)) := upd_ne' hD nRL.symm
      have hM4 : ∀ b, b ≠ R → b ≠ L → upd M3 R (.lst (ws ++ [v])) b = M b := fun b q1 q2 => by rw [upd_ne q1]; exact hM b q1 q2
      have same : isSet op = false → ∀ H x y, J (upd M3 R (.lst (ws ++ [v]))) G3 H → ExI M G d a L R kv ops n (i + 1) [some (.ref d), some (.ref a), some (.ref L), some (.ref R), x, y] H := fun hs H x y j =>
        ⟨ws ++ [v], kv1, _, G3, x, y, j, hD4, upd_same, hM4, (e.trans e2).trans e3, hres4, ok1.mono (by omega), (by rw [hmn]; intro q; cases op <;> first | rfl | (cases hs)), hcut2, rfl⟩
      cases op with
      | get ky =>
        walk_at "gx"
        refine w_inT j4 (k_SETTING G3) (by rfl) (by rfl) ?_
        exact w_bl (w_F (same rfl _ _ _ j4))
      | need ky v =>
        walk_at "gx"
        refine w_inT j4 (k_SETTING G3) (by rfl) (by rfl) ?_
        exact w_bl (w_F (same rfl _ _ _ j4))
      | scan lo hi =>
        walk_at "gx"
        refine w_inT j4 (k_SETTING G3) (by rfl) (by rfl) ?_
        exact w_bl (w_F (same rfl _ _ _ j4))
      | put ky x =>
        walk_at "gx"
        refine w_inT j4 (k_SETTING G3) (by rfl) (by rfl) ?_
        refine w_bl (w_T ?_)
        walk_at "go"
        refine w_sg (L, u, kv1, .put ky x) j4 ⟨rfl, ⟨.inl hD4, hat3⟩, rfl⟩ fun v5 M5 G5 H5 j5 e5 ⟨ev, em5⟩ => ?_
        subst ev em5
        walk_at "go"
        have hat5 := (hat3.ex e5).1
        cases x with
        | none =>
          walk_at "go"
          refine w_T ?_
          walk_at "go"
          refine w_popB j5 hD4 ?_
          walk_at "gx"
          refine w_popE j5 hD4 fun v6 H6 j6 => ?_
          rw [tk_drop] at j6
          exact ⟨ws ++ [v], dropI kv1 ky, _, G5, _, _, j6, upd_same, upd_ne' upd_same nRL, fun b q1 q2 => by rw [upd_ne q2]; exact hM4 b q1 q2, ((e.trans e2).trans e3).trans e5, hres4.ex e5, ok1.drop.mono (by omega), by rw [hmn]; exact Rep.drop fun _ => rfl, hcut2, rfl⟩
        | some x =>
          walk_at "go"
          refine w_F ?_
          walk_at "gx"
          refine w_putX j5 hD4 (by rw [tk_len]; have := ok1.len; omega) fun H6 j6 => ?_
          dsimp only [newM, ov] at j6
          rw [tk_put] at j6
          exact ⟨ws ++ [v], putI kv1 ky x, _, G5, _, _, j6, upd_same, upd_ne' upd_same nRL, fun b q1 q2 => by rw [upd_ne q2]; exact hM4 b q1 q2, ((e.trans e2).trans e3).trans e5, hres4.ex e5, (ok1.put hat.2.1 hat.2.2).mono (by omega), by rw [hmn]; exact Rep.put fun _ => rfl, hcut2, rfl⟩
      | add ky x =>
        walk_at "gx"
        refine w_inT j4 (k_SETTING G3) (by rfl) (by rfl) ?_
        refine w_bl (w_T ?_)
        walk_at "go"
        refine w_sg (L, u, kv1, .add ky x) j4 ⟨rfl, ⟨.inl hD4, hat3⟩, rfl⟩ fun v5 M5 G5 H5 j5 e5 ⟨ev, em5⟩ => ?_
        subst ev em5
        walk_at "go"
        have hat5 := (hat3.ex e5).1
        refine w_F ?_
        walk_at "gx"
        refine w_putX j5 hD4 (by rw [tk_len]; have := ok1.len; omega) fun H6 j6 => ?_
        dsimp only [newM, ov] at j6
        rw [tk_put] at j6
        have hval : IsVal ((look kv1 ky).getD 0 + x) := by
          have : (!decide (IsVal ((look kv1 ky).getD 0 + x))) = false := hf
          simpa using this
        exact ⟨ws ++ [v], putI kv1 ky _, _, G5, _, _, j6, upd_same, upd_ne' upd_same nRL, fun b q1 q2 => by rw [upd_ne q2]; exact hM4 b q1 q2, ((e.trans e2).trans e3).trans e5, hres4.ex e5, (ok1.put hat.2.1 hval).mono (by omega), by rw [hmn]; exact Rep.put fun _ => rfl, hcut2, rfl⟩
  · rintro σ H ⟨ws, kv1, M1, G1, x0, y0, j, hD, hR, hM, e, hres, ok1, rep, hc, rfl⟩
    rw [List.length_map, hops.1] at hc
    rw [List.length_map, hops.1, List.take_length] at hres rep
    have hcl : cutM (look kv) ops = ops.length := Nat.le_antisymm (cut_le _ _) hc
    walk_at "go"
    refine w_new j (by show 3 ≤ sizeLine; decide) fun t G5 H5 j5 e5 ht nt => ?_
    have ho : outM (look kv) ops = "done" := by unfold outM; rw [if_pos hcl]
    refine k _ _ _ _ j5 (e.trans e5) ⟨t, R, L, rfl, by rw [ho]; exact ht, ⟨ws, kv1, own2 hR hD hM, ?_, ?_, ?_⟩, nMR, nM, nRL, nG2, nG⟩
    · unfold ressM; rw [hcl, List.take_length]; exact hres.ex e5
    · exact ok1.mono (by rw [List.length_map, hops.1]; omega)
    · unfold endM; rw [if_pos hcl]; exact rep
/-! ### walking a dict's keys -/
theorem J.lock {M G H : Hp} {b : Addr} {u o : HO} (j : J M G H) (_ : M b = some u ∨ G b = some u) : J (del M b) (upd G b o) (upd H b o) where
  m := fun a x e => by
    by_cases q : a = b
    · subst q; rw [del_same] at e; cases e
    · rw [del_ne q] at e; rw [upd_ne q]; exact j.m a x e
  g := fun a x e => by
    by_cases q : a = b
    · subst q; rw [upd_same] at e ⊢; exact e
    · rw [upd_ne q] at e ⊢; exact j.g a x e
  d := fun a x e => by
    by_cases q : a = b
    · subst q; rw [del_same] at e; cases e
    · rw [del_ne q] at e; rw [upd_ne q]; exact j.d a x e
theorem J.unlock {M G H G2 H2 : Hp} {b : Addr} {u o : HO} (j : J M G H) (hb : M b = some u ∨ G b = some u) (j2 : J (del M b) G2 H2) (e : Ex (upd G b o) G2) : H2 b = some o ∧ ∃ G', J M G' (upd H2 b u) ∧ Ex G G' := by
  refine ⟨j2.g b o (e b o upd_same), ?_⟩
  rcases hb with hb | hb
  · refine ⟨del G2 b, ⟨fun a x h => ?_, fun a x h => ?_, fun a x h => ?_⟩, fun a x h => ?_⟩
    · by_cases q : a = b
      · subst q; rw [upd_same]; rw [hb] at h; exact h
      · rw [upd_ne q]; exact j2.m a x (by rw [del_ne q]; exact h)
    · by_cases q : a = b
      · subst q; rw [del_same] at h; cases h
      · rw [del_ne q] at h; rw [upd_ne q]; exact j2.g a x h
    · by_cases q : a = b
      · subst q; exact del_same
      · rw [del_ne q]; exact j2.d a x (by rw [del_ne q]; exact h)
    · have q : a ≠ b := fun z => by subst z; rw [j.d a u hb] at h; cases h
      rw [del_ne q]; exact e a x (by rw [upd_ne q]; exact h)
  · refine ⟨upd G2 b u, ⟨fun a x h => ?_, fun a x h => ?_, fun a x h => ?_⟩, fun a x h => ?_⟩
    · have q : a ≠ b := fun z => by subst z; rw [j.d a x h] at hb; cases hb
      rw [upd_ne q]; exact j2.m a x (by rw [del_ne q]; exact h)
    · by_cases q : a = b
      · subst q; rw [upd_same] at h ⊢; exact h
      · rw [upd_ne q] at h ⊢; exact j2.g a x h
    · have q : a ≠ b := fun z => by subst z; rw [j.d a x h] at hb; cases hb
      rw [upd_ne q]; exact j2.d a x (by rw [del_ne q]; exact h)
    · by_cases q : a = b
      · subst q; rw [upd_same]; rw [hb] at h; exact h
      · rw [upd_ne q]; exact e a x (by rw [upd_ne q]; exact h)
/-- for key in d (d a name, M as it is throughout) -/
theorem w_forKeys {M G H : Hp} {σ : L2.St} {s : Nat} {b : Addr} {kvs : List (Key × V)} {g : TG} {t : TS} {D : Ends} (j : J M G H) (hb : M b = some (.dK kvs) ∨ G b = some (.dK kvs)) (e : σ[s]? = some (some (.ref b))) (Pv : Nat → L2.St → Prop) (h0 : Pv 0 σ)
    (hs : ∀ od i k v σ1 G1 H1, kvs[i]? = some (k, v) → J (del M b) G1 H1 → Ex (upd G b (.frz od (.dK kvs))) G1 → Pv i σ1 → g (kV k) σ1 H1 fun σ2 H2 =>
      t ⟨fun σ' H' => ∃ G', J (del M b) G' H' ∧ Ex (upd G b (.frz od (.dK kvs))) G' ∧ Pv (i + 1) σ', fun v H' => H' b = some (.frz od (.dK kvs)) ∧ D.rt v (upd H' b (.dK kvs)), fun σ' H' => H' b = some (.frz od (.dK kvs)) ∧ D.nx σ' (upd H' b (.dK kvs)),
        fun σ' H' => ∃ G', J (del M b) G' H' ∧ Ex (upd G b (.frz od (.dK kvs))) G' ∧ Pv (i + 1) σ'⟩ σ2 H2)
    (hd : ∀ σ' G' H', J M G' H' → Ex G G' → Pv kvs.length σ' → D.nx σ' H') : tLock (tFor (iKeys (tVar s)) g t) D σ H := by
  refine ⟨b, .dK kvs, hb.elim (j.m _ _) (j.g _ _), trivial, fun od => ?_⟩
  have j1 := j.lock (o := .frz od (.dK kvs)) hb
  refine ⟨.ref b, e, b, od, rfl, .inl ⟨kvs, upd_same, fun i m σ' H' => m = kvs.length - i ∧ i ≤ kvs.length ∧ ∃ G', J (del M b) G' H' ∧ Ex (upd G b (.frz od (.dK kvs))) G' ∧ Pv i σ', ⟨_, rfl, Nat.zero_le _, _, j1, Same.refl _, h0⟩, ?_⟩⟩
  rintro i m σ' H' ⟨rfl, hi, G', j2, e2, p⟩
  have hf : H' b = some (.frz od (.dK kvs)) := j2.g _ _ (e2 _ _ upd_same)
  by_cases hlt : i < kvs.length
  · refine .inr ⟨⟨hf, hlt⟩, fun σ' H' => ∃ G', J (del M b) G' H' ∧ Ex (upd G b (.frz od (.dK kvs))) G' ∧ Pv (i + 1) σ', fun σ3 H3 q => ⟨_, by omega, rfl, hlt, q⟩, fun x H3 y => ?_⟩
    obtain ⟨rfl, k, v, hkv, rfl⟩ := y
    exact hs od i k v σ' G' _ hkv j2 e2 p
  · have ei : i = kvs.length := by omega
    subst ei
    obtain ⟨_, G3, j3, e3⟩ := j.unlock hb j2 e2
    exact .inl ⟨⟨hf, Nat.le_refl _⟩, hf, hd σ' G3 _ j3 e3 p⟩
theorem J.ne {M G H : Hp} {a b : Addr} {u o : HO} (j : J M G H) (h1 : M a = some u) (h2 : G b = some o) : a ≠ b := fun z => by subst z; rw [j.d a u h1] at h2; cases h2
/-! ### results and operations as data -/
def resD : Res → PyData
  | .non => .none
  | .int n => .int n
  | .rows ps => .list (ps.map fun p => .tuple [.int p.1, .int p.2])
def oD : Option Int → PyData
  | none => .none
  | some n => .int n
def opD : Op → PyData
  | .get k => .tuple [.str "get", .int k]
  | .put k v => .tuple [.str "put", .int k, oD v]
  | .add k a => .tuple [.str "add", .int k, .int a]
  | .need k v => .tuple [.str "need", .int k, oD v]
  | .scan lo hi => .tuple [.str "scan", .int lo, .int hi]
section
variable {K : PySem.W.Frag} {G : Hp}
theorem dp_ov (o : Option Int) : Dp K G (ov o) (oD o) := by cases o with | none => exact .non | some n => exact .int n
theorem dp_op {a : Addr} {op : Op} (h : OpAt G a op) : Dp K G (.ref a) (opD op) := by
  have h := h.1
  cases op with
  | get k => exact .tup (st_of h) (.cons (.str _) (.cons (.int _) .nil))
  | put k v => exact .tup (st_of h) (.cons (.str _) (.cons (.int _) (.cons (dp_ov v) .nil)))
  | add k v => exact .tup (st_of h) (.cons (.str _) (.cons (.int _) (.cons (.int _) .nil)))
  | need k v => exact .tup (st_of h) (.cons (.str _) (.cons (.int _) (.cons (dp_ov v) .nil)))
  | scan k v => exact .tup (st_of h) (.cons (.str _) (.cons (.int _) (.cons (.int _) .nil)))
theorem dp_res {v : V} {r : Res} (h : ResAt G v r) : Dp K G v (resD r) := by
  cases r with
  | non => cases (show v = .non from h); exact .non
  | int n => cases (show v = .int n from h); exact .int n
  | rows ps =>
    obtain ⟨t, as, rfl, ht, hr⟩ := h
    refine .lst (sl_of ht) (dpAll_of (by rw [List.length_map, List.length_map, hr.1]) fun i x d h1 h2 => ?_)
    rw [List.getElem?_map] at h1 h2
    cases e1 : as[i]? with
    | none => rw [e1] at h1; cases h1
    | some a =>
      cases e2 : ps[i]? with
      | none => rw [e2] at h2; cases h2
      | some p =>
        rw [e1] at h1; rw [e2] at h2; cases h1; cases h2
        exact .tup (st_of (hr.2 i a p e1 e2)) (.cons (.int _) (.cons (.int _) .nil))
theorem dp_ress {t : Addr} {ws : List V} {rs : List Res} (ht : G t = some (.lst ws)) (h : RessAt G ws rs) : Dp K G (.ref t) (.list (rs.map resD)) := by
  refine .lst (sl_of ht) (dpAll_of (by rw [List.length_map, h.1]) fun i x d h1 h2 => ?_)
  rw [List.getElem?_map] at h2
  cases e2 : rs[i]? with
  | none => rw [e2] at h2; cases h2
  | some r => rw [e2] at h2; cases h2; exact dp_res (h.2 i x r h1 e2)
theorem dp_ops {t : Addr} {as : List Addr} {ops : List Op} (ht : G t = some (.lst (as.map V.ref))) (h : OpsAt G as ops) : Dp K G (.ref t) (.list (ops.map opD)) := by
  refine .lst (sl_of ht) (dpAll_of (by rw [List.length_map, List.length_map, h.1]) fun i x d h1 h2 => ?_)
  rw [List.getElem?_map] at h1 h2
  cases e1 : as[i]? with
  | none => rw [e1] at h1; cases h1
  | some a =>
    cases e2 : ops[i]? with
    | none => rw [e2] at h2; cases h2
    | some op => rw [e1] at h1; rw [e2] at h2; cases h1; cases h2; exact dp_op (h.2 i a op e1 e2)
end
def flatD : PyData → Bool
  | .none => true
  | .bool _ => true
  | .int _ => true
  | .str _ => true
  | _ => false
theorem okD_flat (n : Nat) {d : PyData} (h : flatD d = true) : okD n d := by
  cases n <;> cases d <;> first | trivial | cases h
theorem okD_tup (n : Nat) {xs : List PyData} (h : xs.all flatD = true) (l : xs.length ≤ 100000) : okD (n + 1) (.tuple xs) := ⟨l, fun x hx => okD_flat n (List.all_eq_true.mp h x hx)⟩
theorem flat_oD (o : Option Int) : flatD (oD o) = true := by cases o <;> rfl
theorem okD_op (n : Nat) (op : Op) : okD (n + 1) (opD op) := by
  cases op with
  | get k => exact okD_tup n rfl (by show 2 ≤ 100000; decide)
  | add k v => exact okD_tup n rfl (by show 3 ≤ 100000; decide)
  | scan k v => exact okD_tup n rfl (by show 3 ≤ 100000; decide)
  | put k v => exact okD_tup n (by cases v <;> rfl) (by show 3 ≤ 100000; decide)
  | need k v => exact okD_tup n (by cases v <;> rfl) (by show 3 ≤ 100000; decide)
theorem scan_len (m : Fn) (lo hi : Int) : (scanM m lo hi).length ≤ 1000 := by
  unfold scanM
  have := List.length_filterMap_le (fun (i : Nat) => if lo ≤ (i : Int) ∧ (i : Int) < hi then (m i).map fun v => ((i : Int), v) else none) (List.range 1000)
  rw [List.length_range] at this; exact this
theorem okD_res (n : Nat) (m : Fn) (op : Op) : okD (n + 2) (resD (resM m op)) := by
  cases op with
  | get k => exact okD_flat _ (by show flatD (resD (rO (m k))) = true; cases m k <;> rfl)
  | put k v => exact okD_flat _ rfl
  | add k v => exact okD_flat _ rfl
  | need k v => exact okD_flat _ rfl
  | scan lo hi =>
    refine ⟨by rw [List.length_map]; have := scan_len m lo hi; omega, fun x h => ?_⟩
    obtain ⟨p, _, rfl⟩ := List.mem_map.mp h
    exact okD_tup n rfl (by show 2 ≤ 100000; decide)
theorem resL_mem : ∀ {m : Fn} {ops : List Op} {r : Res}, r ∈ resL m ops → ∃ m' op, r = resM m' op
  | m, [], r, h => by cases h
  | m, o :: ops, r, h => by
    rcases List.mem_cons.mp h with rfl | h
    · exact ⟨m, o, rfl⟩
    · exact resL_mem h
theorem okD_ress (n : Nat) (m : Fn) {ops : List Op} (h : ops.length ≤ 6) : okD (n + 3) (.list ((ressM m ops).map resD)) := by
  refine ⟨by rw [List.length_map]; unfold ressM; rw [resL_len, List.length_take]; omega, fun x hx => ?_⟩
  obtain ⟨r, hr, rfl⟩ := List.mem_map.mp hx
  obtain ⟨m', op, rfl⟩ := resL_mem hr
  exact okD_res n m' op
theorem okD_ops (n : Nat) {ops : List Op} (h : ops.length ≤ 6) : okD (n + 2) (.list (ops.map opD)) := by
  refine ⟨by rw [List.length_map]; omega, fun x hx => ?_⟩
  obtain ⟨op, _, rfl⟩ := List.mem_map.mp hx
  exact okD_op n op
/-- what execute made, left to stand for good -/
theorem ExEnd.seal {M G M' G' H : Hp} {R D : Addr} {kv : List (Int × Int)} {ops : List Op} {n : Nat} (x : ExEnd M G M' G' R D kv ops n) (j : J M' G' H) : ∃ ws kv' G'', J M G'' H ∧ Ex G' G'' ∧ G'' R = some (.lst ws) ∧ G'' D = some (.dK (tk kv')) ∧
    RessAt G'' ws (ressM (look kv) ops) ∧ TabOk kv' (n + 6) ∧ Rep kv' (endM (look kv) ops) := by
  obtain ⟨⟨ws, kv', rfl, hr, ok, rep⟩, nR, nD, ne, _, _⟩ := x
  have j1 := j.freeze (by rw [upd_ne ne.symm]; exact nD)
  have j2 := j1.freeze nR
  have e1 : Ex G' (upd G' D (.dK (tk kv'))) := Ex.new j.freezeG
  have e2 : Ex (upd G' D (.dK (tk kv'))) (upd (upd G' D (.dK (tk kv'))) R (.lst ws)) := Ex.new j1.freezeG
  exact ⟨ws, kv', _, j2, e1.trans e2, upd_same, by rw [upd_ne ne.symm]; exact upd_same, hr.ex (e1.trans e2), ok, rep⟩
def sp_law (K : PySem.W.Frag) : Sp := fun vs H Q _ => ∃ (a : Addr) (ns : List Int), vs = [.ref a] ∧ SqL K H a (ns.map V.int) ∧ ns.length ≤ 63 ∧ ∀ H', Q (.bl true) H'
/-! ### {e for x in xs if t}, e whole numbers -/
section
variable {X : Cx}
theorem add_int {pq : List (Addr × Obj)} {σ : L2.St} {H : Hp} {s : Shared} {E : Value → Shared → Prop} {a : Addr} {S : Int → Bool} {n : Nat} {c : Int} {tk : Tok} {Q : Value → Shared → Prop} (I : Inv X pq σ H s) (ha : H a = some (SetO X.w a S n)) (hz : n + 1 < scanBound)
    (k : ∀ t, Inv X pq σ (upd H a (SetO X.w a (fun j => S j || decide (j = c)) (if S c = true then n else n + 1))) t → Q .none t) : wpAny (model X.prog X.w) X.A (call (.builtin "set.add") [.ref a, .int c tk]) Q E s :=
  setR_add (setO_get I ha) hz fun hp keep new => k _ (I.write (e := a) (t' := s.toks + 1) (by rw [ha]; trivial) (.inl rfl) (fun b u hb hu => (keep.2 b hb).trans hu) (by obtain ⟨o, _, _, _, ho, _⟩ := new; exact ⟨o, ho⟩) (setO_new new))
def tSci (w : World) (wi : TI) (g : TG) (tt : TT) (te : TE) (vs : List Nat) : TE := fun σ H Q => wi σ H fun U H1 => ∀ D, H1 D = none → ∃ W : Nat → Nat → Hp → Prop, (∃ m, W 0 m (upd H1 D (SetO w D (fun _ => false) 0))) ∧ ∀ i m H, W i m H →
  (U.stop i H ∧ Q (.ref D) H) ∨ (U.go i H ∧ ∃ Nx : Hp → Prop, (∀ H', Nx H' → ∃ m', m' < m ∧ W (i + 1) m' H') ∧ ∀ x H', U.yld i H x H' → g x (wipe σ vs) H' fun σ2 H2 => wipe σ2 vs = wipe σ vs ∧ tt σ2 H2 fun b H3 =>
    if b = true then te σ2 H3 fun y H4 => ∃ (c : Int) (S : Int → Bool) (n : Nat), y = .int c ∧ H4 D = some (SetO w D S n) ∧ n + 1 < scanBound ∧ Nx (upd H4 D (SetO w D (fun j => S j || decide (j = c)) (if S c = true then n else n + 1))) else Nx H3)
theorem pe_sci {elt tg iter : Expr} {ifs : List Expr} {scope : Scope} {own : List (PySem.Str × Nat)} {pos : Pos} {wi : TI} {g : TG} {tt : TT} {te : TE} (hc : X.calm = true) (hN : X.N.Nodup) (hi : PI X tg iter wi) (ok : BlkOk X.N X.env.scope scope own)
    (hg : ∀ (s : Shared) (H : Hp) (C : Addr) (cl : List (PySem.Str × Addr)) (fp : List Addr), PG (X.blk s H scope (compEnvC scope cl C X.env) fp) tg g) (ht : ∀ (s : Shared) (H : Hp) (C : Addr) (cl : List (PySem.Str × Addr)) (fp : List Addr), PTs (X.blk s H scope (compEnvC scope cl C X.env) fp) ifs tt)
    (he : ∀ (s : Shared) (H : Hp) (C : Addr) (cl : List (PySem.Str × Addr)) (fp : List Addr), PE (X.blk s H scope (compEnvC scope cl C X.env) fp) elt te) (hs : ∀ x, foldedSetIterable iter X.env x = pure x := by intro _; rfl) :
    PE X (.SetComp elt [⟨tg, iter, ifs, 0⟩] scope pos) (tSci X.w wi g tt te (own.map (·.2))) := ⟨fun pq s σ H Q I hyp => by
  rw [PpSet.eval_SetComp]
  have cells : ∀ y ∈ scope.names, y.2 = .free → ∃ c, X.env.cells.lookup y.1 = some c := fun y hy e => (ok.free y hy e).elim (fun k => I.ok.has _ (.inl k)) fun k => I.ok.has _ (.inr k)
  refine wpAny_comprehension_free rfl hs (closure_ok cells) ok.kind (fun y hy e => by rw [ok.uniq y hy, e]) (thn (hi.run pq s σ H _ I hyp) fun xv sa hx => thn hx fun itv sb hb => ?_)
  obtain ⟨it, fp, tn, U, Hb, rfl, Ib, T, stb, fb, q⟩ := hb
  refine PpSet.newSet_ok (newEnv_comp ?_)
  obtain ⟨D, hD⟩ : ∃ D, sb.heap.objs.size = D := ⟨_, rfl⟩
  rw [hD]
  obtain ⟨W, ⟨m0, w0⟩, turn⟩ := q D (Ib.hok.fresh (Nat.le_of_eq hD))
  obtain ⟨sc, hsc⟩ : ∃ sc : Shared, ({ sb with heap := sb.heap.push { cls := .type "set", dict := none, data := .set #[] 0 (.fresh 0 0 (!X.w.params.followText "set-order")) } } : Shared) = sc := ⟨_, rfl⟩
  rw [hsc]
  have hpc : sc.heap = sb.heap.push { cls := .type "set", dict := none, data := .set #[] 0 (.fresh 0 0 (!X.w.params.followText "set-order")) } := by rw [← hsc]
  have Ic : Inv X pq σ (upd Hb D (SetO X.w D (fun _ => false) 0)) sc := by
    rw [← hsc]
    exact Ib.laid (t' := sb.toks) (fun b o e => Heap.get?_push_of_some _ e) (Nat.le_of_eq hD) (by rw [← hD]; exact setO_new (setR_fresh X.w))
  have small : ∀ b ∈ fp, b < sb.heap.objs.size := fun b hb => (T.obj _ _ stb b hb).elim fun o z => Heap.lt_size z.1
  have fc : ∀ b ∈ fp, FpOk X pq (upd Hb D (SetO X.w D (fun _ => false) 0)) b ∧ b < sc.heap.objs.size := fun b hb =>
    ⟨⟨by rw [upd_ne (by rw [← hD]; exact Nat.ne_of_lt (small b hb))]; exact (fb b hb).1, (fb b hb).2⟩, by rw [hpc, Heap.size_push]; exact Nat.lt_succ_of_lt (small b hb)⟩
  have stc : tn 0 sc.heap := T.keep _ _ _ stb fun b _ o z => by rw [hpc]; exact Heap.get?_push_of_some _ z
  have Id := block_start Ic ok hN fc
  obtain ⟨CL, hCL⟩ : ∃ CL, cellsFrom (sc.heap.objs.size + 1) scope.names (cloFrom X.env.cells scope.names []) = CL := ⟨_, rfl⟩
  have rg := hg sc (upd Hb D (SetO X.w D (fun _ => false) 0)) sc.heap.objs.size CL fp
  have rt := ht sc (upd Hb D (SetO X.w D (fun _ => false) 0)) sc.heap.objs.size CL fp
  have re := he sc (upd Hb D (SetO X.w D (fun _ => false) 0)) sc.heap.objs.size CL fp
  have nofp : ∀ b ∈ fp, (upd Hb D (SetO X.w D (fun _ => false) 0)) b = none := fun b hb => (fc b hb).1.1
  show codeAny _ _ (.compStart _ 0 (.ref it) (.ref D) (compEnvC scope (cellsFrom (sc.heap.objs.size + 1) scope.names (cloFrom X.env.cells scope.names [])) sc.heap.objs.size X.env)) (compPost (model X.prog X.w) X.A X.xe _ _ (.ref D) sc.heap.objs.size) { sc with heap := pushCells (sc.heap.push { cls := .type "dict", data := .dict #[] }) scope.names }
  rw [hCL] at Id ⊢
  obtain ⟨ce, hce⟩ : ∃ ce, compEnvC scope CL sc.heap.objs.size X.env = ce := ⟨_, rfl⟩
  rw [hce] at Id rg rt re ⊢
  have loc0 : ce.locals = sc.heap.objs.size := by rw [← hce]; rfl
  obtain ⟨Hc, hHc⟩ : ∃ Hc, upd Hb D (SetO X.w D (fun _ => false) 0) = Hc := ⟨_, rfl⟩
  rw [hHc] at Ic Id rg rt re w0 nofp fc
  obtain ⟨sd, hsd⟩ : ∃ sd : Shared, ({ sc with heap := pushCells (sc.heap.push { cls := .type "dict", data := .dict #[] }) scope.names } : Shared) = sd := ⟨_, rfl⟩
  rw [hsd]
  replace Id : Inv (X.blk sc Hc scope ce fp) [] (wipe σ (own.map (·.2))) Hc sd := hsd ▸ Id
  have std : tn 0 sd.heap := T.keep _ _ _ stc fun b _ o z => by rw [← hsd]; exact pushCells_keeps _ _ _ _ (Heap.get?_push_of_some _ z)
  have still : ∀ {σ' : L2.St} {H' : Hp} {s' : Shared}, Inv (X.blk sc Hc scope ce fp) [] σ' H' s' → (∀ b ∈ fp, H' b = none) → ∀ b ∈ fp, FpOk (X.blk sc Hc scope ce fp) [] H' b := fun I' hn b hb =>
    ⟨hn b hb, (I'.ok.exf b hb).1, I'.ok.exfs b hb, .inl hb, fun x c e => (I'.ok.exf b hb).2 x c e, fun p hp => absurd (show p ∈ ([] : List (Addr × Obj)) ++ [] from hp) (by simp)⟩
  have run : codeAny (model X.prog X.w) X.A (.compLoop (.SetComp elt [⟨tg, iter, ifs, 0⟩] scope pos) 0 (.ref it) (.ref D) ce) (compPost (model X.prog X.w) X.A X.xe none (EP X pq σ Q) (.ref D) sc.heap.objs.size) sd := by
    refine PpSet.compLoopS_any (fun m t => ∃ i Hi, Inv (X.blk sc Hc scope ce fp) [] (wipe σ (own.map (·.2))) Hi t ∧ tn i t.heap ∧ (∀ b ∈ fp, Hi b = none) ∧ W i m Hi) (fun m t z => ?_) m0 ⟨0, Hc, Id, std, nofp, w0⟩
    obtain ⟨i, Hi, Ii, sti, ni, wi'⟩ := z
    rcases turn i m Hi wi' with ⟨halt, qq⟩ | ⟨go, Nx, less, step⟩
    · refine thnF (T.done (X.blk sc Hc scope ce fp) rfl rfl rfl hc i [] t _ Hi (fun _ _ => False) Ii (still Ii ni) sti halt) fun r t6 z6 => ?_
      obtain ⟨rfl, I6⟩ := z6
      have I7 : Inv X pq σ Hi t6 := Ic.call' (ch := fp) I6.os I6.base I6.hok I6.bare fun b hb => ⟨(fc b hb).1.2.2.2.1, (fc b hb).1.2.1, (fc b hb).1.2.2.2.2.1, (fc b hb).1.2.2.2.2.2⟩
      have noC : Hi sc.heap.objs.size = none := by rw [← loc0]; exact I6.free
      obtain ⟨mm, hmm, _⟩ := I6.loc
      replace hmm : t6.heap.Ns sc.heap.objs.size mm := by rw [← loc0]; exact hmm
      obtain ⟨z0, z1, z2, z3, z4, z5⟩ := Ic.fpOk (Nat.le_refl _) noC
      exact ⟨mm, hmm, fun h'' keep => ⟨.ref D, Hi, I7.turned (t' := t6.toks) (fun b o hb e => (keep.2 b hb).trans e) z0 z1 z3 z4 z5, rfl, qq⟩⟩
    · refine thnF (T.item (X.blk sc Hc scope ce fp) rfl rfl rfl hc i [] t _ Hi (fun _ _ => False) Ii (still Ii ni) sti go) fun r t6 z6 => ?_
      obtain ⟨u, rfl, z6⟩ := z6
      refine thnF z6 fun _ t7 z7 => ?_
      obtain ⟨x, H7, I7, r7, y7, st7, n7⟩ := z7
      refine thnF (rg.run _ t7 _ H7 x u _ (I7.pinned (still I7 n7) (T.obj _ _ st7)) r7 (step x H7 y7)) fun _ t8 z8 => ?_
      obtain ⟨σ8, H8, I8, hw8, q8⟩ := z8
      refine thnF (rt.run _ t8 σ8 H8 _ I8 q8) fun b t9 z9 => ?_
      obtain ⟨H9, I9, q9⟩ := z9
      have turned : ∀ {t' : Shared} {H' : Hp}, Inv (X.blk sc Hc scope ce fp) ([] ++ pinsAt fp t7.heap) σ8 H' t' → Nx H' → ∃ m', m' < m ∧ ∃ i Hi, Inv (X.blk sc Hc scope ce fp) [] (wipe σ (own.map (·.2))) Hi t' ∧ tn i t'.heap ∧ (∀ b ∈ fp, Hi b = none) ∧ W i m' Hi := fun {t' H'} I' nx => by
        obtain ⟨m', hm', w'⟩ := less H' nx
        have kept : ∀ b ∈ fp, ∀ o, t7.heap.get? b = some o → t'.heap.get? b = some o ∧ H' b = none := fun b hb o e => ⟨(I'.pin (b, o) (List.mem_append_right _ (List.mem_append_right _ (mem_pinsAt hb e)))).1, (I'.pin (b, o) (List.mem_append_right _ (List.mem_append_right _ (mem_pinsAt hb e)))).2.1⟩
        exact ⟨m', hm', i + 1, H', (I'.unpinned (pins := [])).weak (by rw [← hw8, wipe_length]) (fun jj v e => by rw [← hw8] at e; exact (wipe_some e).1), T.keep _ _ _ st7 fun b hb o e => (kept b hb o e).1, fun b hb => (T.obj _ _ st7 b hb).elim fun o z => (kept b hb o z.1).2, w'⟩
      cases b with
      | false => exact turned I9 q9
      | true =>
        refine thnF (re.run _ t9 σ8 H9 _ I9 q9) fun zv t10 z10 => ?_
        obtain ⟨yv, H10, I10, r10, cb, S0, n0, rfl, hD10, hz10, nx⟩ := z10
        obtain ⟨tk0, rfl⟩ : ∃ tk0, zv = .int cb tk0 := r10
        exact add_int (X := X.blk sc Hc scope ce fp) I10 hD10 hz10 fun t11 I11 => turned I11 nx
  exact PpSet.codeAny_compStart_set run (T.self X.A 0 _ _ _ std run)⟩
end
/-! ### set(xs), xs a list of whole numbers, so that it can be walked -/
def SetI (w : World) (h : Heap) (a : Addr) (ns : List Int) : Prop := ∃ S m, SetR w h a S m ∧ (∀ k, S k = true ↔ k ∈ ns) ∧ m ≤ ns.length
theorem SetI.keep {w : World} {h h' : Heap} {a : Addr} {ns : List Int} (x : SetI w h a ns) (k : ∀ o, h.get? a = some o → h'.get? a = some o) : SetI w h' a ns := by
  obtain ⟨S, m, r, e, l⟩ := x; exact ⟨S, m, r.at k, e, l⟩
section
variable {P : Program} {w : World} {A : Around} {E : Value → Shared → Prop}
theorem set_loop {R : Result → Shared → Prop} {it : Addr} {fp wr : List Addr} {G : Array GenState → Array GenState → Prop} {n : Nat} {Pv : Nat → Value → Prop} {St : Nat → Shared → Prop} (W : WalksS P w A.in1 it fp wr G n Pv St) (a : Addr) (na : a ∉ fp) (ns : List Int) (hn : n = ns.length) (hb : ns.length + 1 < scanBound)
    (hv : ∀ i v, Pv i v → ∃ c t, ns[i]? = some c ∧ v = .int c t) : ∀ (rest i : Nat) (s : Shared), n - i = rest → i ≤ n → St i s → SetI w s.heap a (ns.take i) → (∀ t, Moved (a :: wr) G s t → SetI w t.heap a ns → R (.ok (.ret .none)) t) →
      codeAny (model P w) A (.builtin "set.update.loop" ⟨[.ref a, .ref it], []⟩) R s := by
  have nw : a ∉ wr := fun h => na (W.sub _ h)
  have wider : ∀ b ∈ wr, b ∈ a :: wr := fun b h => List.mem_cons_of_mem _ h
  intro rest
  induction rest with
  | zero =>
    intro i s e1 e2 st x k
    obtain rfl : i = n := by omega
    refine codeAny_builtin F.entry_set_update_loop ?_
    rw [Around.under_plainId F.plain_set_update_loop _]
    show wpAny _ A.in1 (pyNext (.ref it) >>= _) _ _ s
    exact wpAny_bind (W.done s _ _ st fun t mv => by
      show wpAny _ A.in1 (ret Value.none) _ _ t
      exact wpAny_pure (k t (mv.mono wider) ((by rw [hn, List.take_length] at x; exact x : SetI w s.heap a ns).keep fun o z => mv.heap a o nw z)))
  | succ rest ih =>
    intro i s e1 e2 st x k
    have lt : i < n := by omega
    refine codeAny_builtin F.entry_set_update_loop ?_
    rw [Around.under_plainId F.plain_set_update_loop _]
    show wpAny _ A.in1 (pyNext (.ref it) >>= _) _ _ s
    refine wpAny_bind (W.item i s _ _ lt st fun v t hP st' mv => ?_)
    obtain ⟨c, tk, hc, rfl⟩ := hv i v hP
    obtain ⟨S, m, r, e, l⟩ := x.keep fun o z => mv.heap a o nw z
    have lm : m ≤ i := by rw [List.length_take] at l; omega
    show wpAny _ A.in1 (holding [Value.int c tk] (setAdd a (.int c tk)) >>= _) _ _ t
    refine wpAny_bind (wpAny_holding ?_)
    unfold setAdd
    refine wpAny_holding (wpAny_bind ((intKind P w).pyHash (k := c) (intKind_is _ _ _ _) ?_))
    refine setR_add_hashed (P := P) (s := { t with toks := t.toks + 1 }) r (by omega) fun h' same r' => ?_
    have hl : i < ns.length := by omega
    have tk1 : ns.take (i + 1) = ns.take i ++ [c] := by rw [List.take_add_one, hc]; rfl
    have x' : SetI w h' a (ns.take (i + 1)) := ⟨_, _, r', fun j => by
      rw [tk1, List.mem_append, List.mem_singleton, Bool.or_eq_true, decide_eq_true_eq, e], by rw [tk1, List.length_append, List.length_singleton]; split <;> omega⟩
    refine wpAny_pure ⟨plainId_quiet F.plain_set_update_loop _, ih (i + 1) _ (by omega) lt (W.frame _ t _ _ st' (Nat.le_succ _) fun b hb o z => ?_) x' fun t2 mv2 x2 => ?_⟩
    · rw [same.2 b (fun h : b = a => na (h ▸ hb))]; exact z
    · refine k t2 (Moved.trans W.gtrans ((mv.mono wider).then_heap (Nat.le_succ _) fun b o hb z => ?_) mv2) x2
      rw [same.2 b (fun h : b = a => hb (h ▸ List.mem_cons_self))]; exact z
end
section
variable {P : Program} {w : World} {A : Around} {E : Value → Shared → Prop} {s : Shared}
set_option maxHeartbeats 4000000 in
theorem call_set_ints {l : Addr} {items : Array Value} {ns : List Int} {Q : Value → Shared → Prop} (hh : A.handled = none) (hl : s.heap.IsList l items) (hi : ∀ (i : Nat) (v : Value), items[i]? = some v → ∃ c t, ns[i]? = some c ∧ v = .int c t) (hz : items.size = ns.length) (hb : ns.length + 1 < scanBound)
    (k : ∀ (h' : Heap) (tk : Nat), SetI w h' s.heap.objs.size ns → (∀ b o, s.heap.get? b = some o → h'.get? b = some o) → Q (.ref s.heap.objs.size) { s with heap := h', toks := tk }) : wpAny (model P w) A (call (.type "set") [.ref l]) Q E s := by
  obtain ⟨c, tl, hmro⟩ := F.called_set.mro; have hmade := F.called_set.made; have hsub := F.called_set.sub
  obtain ⟨fresh, hfresh⟩ : ∃ u : Obj, ({ cls := .type "set", dict := none, data := .set #[] 0 (.fresh 0 0 (!w.params.followText "set-order")) } : Obj) = u := ⟨_, rfl⟩
  refine wpAny_call (codeAny_of_tree ?_)
  show wpAny _ _ (callAny (.type "set") _) _ _ _
  refine wpAny_pure ⟨Code.quiet_builtin _ (by decide +kernel), codeAny_builtin F.entry_type_call ?_⟩
  rw [Around.under_plain (weight_type_call_type "set" [.ref l] []) rfl]
  have h1 := F.called_set.notType; have h2 := F.called_set.canCreate; have hct := F.typeCall_set_1 (.ref l)
  repeat (any_goals (first | assumption | wp_step))
  refine codeAny_mono (code_set_led1 (.ref l) (E := E) (Q₁ := fun obj t => obj = .ref s.heap.objs.size ∧ t = { s with heap := s.heap.push fresh }) ⟨rfl, by rw [← hfresh]⟩) fun r t hr => ?_
  cases r with
  | error e => exact hr
  | ok fl =>
    cases fl with
    | ret obj =>
      obtain ⟨rfl, rfl⟩ := hr
      have hS : (s.heap.push fresh).get? s.heap.objs.size = some fresh := Heap.get?_push_size _ (by rw [← hfresh]; rfl)
      have hT : Shared.TypeIs { s with heap := s.heap.push fresh } (.ref s.heap.objs.size) "set" := ⟨_, hS, by rw [← hfresh]⟩
      have hli := F.called_set.init.lookup; have hbi := F.called_set.init.bind (.ref s.heap.objs.size)
      repeat (any_goals (first | assumption | wp_step))
      refine codeAny_mono (codeAny_call_builtin (R := wants (fun r t => r = .none ∧ ∃ h' tk, t = { s with heap := h', toks := tk } ∧ SetI w h' s.heap.objs.size ns ∧ ∀ b o, s.heap.get? b = some o → h'.get? b = some o) E) F.called_set.init.plain F.entry_set_init (check_set_init_1 hT ?_)) fun r2 t2 hr2 => ?_
      · obtain ⟨ol, hol, hcl, nl, hdl⟩ := hl
        obtain ⟨ocls, odict, odata, oslots⟩ := ol
        simp only at hcl hdl
        subst hcl hdl
        have hol' : (s.heap.push fresh).get? l = some { cls := .type "list", dict := odict, data := .seq items nl, slots := oslots } := Heap.get?_push_of_some _ hol
        have hsls := F.sub_list_set; have hslf := F.sub_list_frozenset
        have hne : (Value.type "list" == Value.type "dict") = false := by decide
        have hl1 : (s.heap.push fresh).IsList l items := ⟨_, hol', rfl, nl, rfl⟩
        have sz : ∀ o : Obj, (s.heap.push o).objs.size = s.heap.objs.size + 1 := fun o => Heap.size_push ..
        have ll : l < s.heap.objs.size := Heap.lt_size hol
        have deep : A.in1.in1.in1.handled = none := by simp [hh]
        subst hfresh
        unfold Builtin.«set.__init__» noKeywords Builtin.Frozenset.updateFrom
        generalize hPI : pyIter = PI
        wp_walk
        subst hPI
        refine wpAny_pyIter_list hl1 ?_; refine wpAny_bind (wpAny_runValue ?_)
        refine set_loop ((Walks.list deep _ l ?far items).toS) s.heap.objs.size ?out ns hz hb hi (items.size - 0) 0 _ (by omega) (Nat.zero_le _) ⟨⟨_, Heap.get?_push_size _ rfl, rfl, rfl⟩, hl1.push _⟩ ?start fun t mv x => ?_
        case far => rw [sz]; exact Nat.ne_of_lt (Nat.lt_succ_of_lt ll)
        case out => rw [sz]; simp only [List.mem_cons, List.not_mem_nil, or_false, not_or]; exact ⟨Nat.ne_of_lt (Nat.lt_succ_self _), Nat.ne_of_gt ll⟩
        case start => exact ⟨_, 0, (setR_fresh w : SetR w (s.heap.push _) s.heap.objs.size (fun _ => false) 0).at fun o z => Heap.get?_push_of_some _ z, fun j => by simp, Nat.zero_le _⟩
        obtain ⟨h', g2, d', tk', os'⟩ := t
        obtain rfl : g2 = s.gens := mv.gens
        obtain rfl : d' = s.drawn := mv.drawn
        obtain rfl : os' = s.os := mv.os
        refine wpAny_pure ?_; show wpAny _ _ (ret Value.none) _ _ _
        refine wpAny_pure ⟨rfl, h', tk', rfl, x, fun b o z => ?_⟩
        have hb0 := Heap.lt_size z
        exact mv.heap b o (by rw [sz]; simp only [List.mem_cons, List.not_mem_nil, or_false, not_or]; exact ⟨Nat.ne_of_lt hb0, Nat.ne_of_lt (Nat.lt_succ_of_lt hb0)⟩) (Heap.get?_push_of_some _ (Heap.get?_push_of_some _ z))
      · cases r2 with
        | error e => exact hr2
        | ok fl2 =>
          cases fl2 with
          | ret r =>
            obtain ⟨rfl, h', tk, rfl, hI, kp⟩ := hr2
            repeat (any_goals (first | assumption | wp_step))
            exact k _ _ hI kp
          | _ => exact hr2.elim
    | _ => exact hr.elim
end
/-! ### sets in the walk -/
def SciD (w : World) (U : It) (g : TG) (tt : TT) (te : TE) (vs : List Nat) (σ : L2.St) (H1 : Hp) (Q : VK) : Prop := ∀ D, H1 D = none → ∃ W : Nat → Nat → Hp → Prop, (∃ m, W 0 m (upd H1 D (SetO w D (fun _ => false) 0))) ∧ ∀ i m H, W i m H →
  (U.stop i H ∧ Q (.ref D) H) ∨ (U.go i H ∧ ∃ Nx : Hp → Prop, (∀ H', Nx H' → ∃ m', m' < m ∧ W (i + 1) m' H') ∧ ∀ x H', U.yld i H x H' → g x (wipe σ vs) H' fun σ2 H2 => wipe σ2 vs = wipe σ vs ∧ tt σ2 H2 fun b H3 =>
    if b = true then te σ2 H3 fun y H4 => ∃ (c : Int) (S : Int → Bool) (n : Nat), y = .int c ∧ H4 D = some (SetO w D S n) ∧ n + 1 < scanBound ∧ Nx (upd H4 D (SetO w D (fun j => S j || decide (j = c)) (if S c = true then n else n + 1))) else Nx H3)
def SciL (K : PySem.W.Frag) (w : World) (g : TG) (tt : TT) (te : TE) (vs : List Nat) (σ : L2.St) (x : V) (H1 : Hp) (Q : VK) : Prop := ∃ a, x = .ref a ∧ (∃ xs, SqL K H1 a xs) ∧ SciD w (Itl K a) g tt te vs σ H1 Q
section
variable {K : PySem.W.Frag} {w : World} {g : TG} {tt : TT} {te tl : TE} {vs : List Nat} {σ : L2.St} {H : Hp} {Q : VK} {M G : Hp} {a : Addr} {xs : List V} {s : Nat}
theorem w_scL (h : tl σ H fun x H1 => SciL K w g tt te vs σ x H1 Q) : tSci w (iList K tl) g tt te vs σ H Q := h
def SciI (w : World) (P : Addr → Nat → (Int → Bool) → Nat → Hp → Hp → Prop) (L : Addr) (i : Nat) (H : Hp) : Prop := ∃ S n M1 G1, J M1 G1 H ∧ M1 L = some (SetO w L S n) ∧ P L i S n M1 G1
theorem w_scl (j : J M G H) (P : Addr → Nat → (Int → Bool) → Nat → Hp → Hp → Prop) (hx : SqL K G a xs) (h0 : ∀ L, M L = none → G L = none → P L 0 (fun _ => false) 0 (upd M L (SetO w L (fun _ => false) 0)) G) (hG : ∀ L i S n M1 G1, P L i S n M1 G1 → Ex G G1) (hw : ∀ x, wipe ((wipe σ vs).set s (some x)) vs = wipe σ vs)
    (hs : ∀ L i x S n M1 G1 H1 (R : Bool → Hp → Prop), xs[i]? = some x → J M1 G1 H1 → M1 L = some (SetO w L S n) → P L i S n M1 G1 →
      (∀ b H3, (if b = true then te ((wipe σ vs).set s (some x)) H3 (fun y H4 => ∃ (c : Int) (S : Int → Bool) (n : Nat), y = .int c ∧ H4 L = some (SetO w L S n) ∧ n + 1 < scanBound ∧ SciI w P L (i + 1) (upd H4 L (SetO w L (fun j => S j || decide (j = c)) (if S c = true then n else n + 1)))) else SciI w P L (i + 1) H3) → R b H3) → tt ((wipe σ vs).set s (some x)) H1 R)
    (hd : ∀ L S n M1 G1 H1, J M1 G1 H1 → M1 L = some (SetO w L S n) → P L xs.length S n M1 G1 → Q (.ref L) H1) : SciL K w (gName s) tt te vs σ (.ref a) H Q := by
  refine ⟨a, rfl, ⟨xs, sl_mono j.g hx⟩, fun L hL => ⟨fun i m H => m = xs.length - i ∧ i ≤ xs.length ∧ SciI w P L i H, ⟨xs.length, by simp, Nat.zero_le _, _, _, _, _, j.newM hL, upd_same, h0 L (j.freeM hL) (j.freeG hL)⟩, fun i m H1 z => ?_⟩⟩
  obtain ⟨rfl, hi, S, n, M1, G1, j1, e, p⟩ := z
  have q := sl_mono ((hG _ _ _ _ _ _ p).trans j1.g) hx
  by_cases lt : i < xs.length
  · refine .inr ⟨⟨xs, xs[i], q, by simp [lt]⟩, SciI w P L (i + 1), fun H' p' => ⟨xs.length - (i + 1), by omega, rfl, lt, p'⟩, fun x H' y => ?_⟩
    obtain ⟨rfl, y⟩ := y
    refine ⟨hw _, hs L i x S n M1 G1 _ _ (y xs q) j1 e p fun b H3 r => ?_⟩
    exact r
  · obtain rfl : i = xs.length := by omega
    exact .inl ⟨⟨xs, q, Nat.le_refl _⟩, hd L S n M1 G1 H1 j1 e p⟩
/-- sorted(a set) -/
theorem w_sortS {n : Nat} {S : Int → Bool} (j : J M G H) (h : M a = some (SetO w a S n) ∨ G a = some (SetO w a S n)) (z : n < 64)
    (k : ∀ (ns : List Int), ns.Pairwise (· < ·) → (∀ k : Int, k ∈ ns ↔ S k = true) → ns.length = n → NewO (.lst (ns.map V.int)) n H Q) : rSortedSet w [.ref a] H Q :=
  ⟨a, S, n, rfl, h.elim (fun h => j.m _ _ h) (fun h => j.g _ _ h), z, fun ns p h1 h2 h3 hp => (k ns h1 h2 h3).2 p hp⟩
end
/-- set(xs) -/
def SetC (K : PySem.W.Frag) (w : World) (xs : List V) (H : Hp) (Q : VK) : Prop := ∃ (l : Addr) (ns : List Int), xs = [V.ref l] ∧ SqL K H l (ns.map V.int) ∧ ns.length < 64 ∧ ∀ a S n, H a = none → (∀ k, S k = true ↔ k ∈ ns) → n ≤ ns.length → Q (.ref a) (upd H a (SetO w a S n))
theorem vals_int : ∀ {ns : List Int} {us : List Value} {i : Nat} {v : Value}, Vals (ns.map V.int) us → us[i]? = some v → ∃ c t, ns[i]? = some c ∧ v = .int c t
  | [], _, _, _, .nil, h => by simp at h
  | c :: _, _, 0, _, .cons r _, h => by
    obtain ⟨t, rfl⟩ := r
    exact ⟨c, t, rfl, (Option.some.inj h).symm⟩
  | _ :: _, _, i + 1, _, .cons _ t, h => by
    obtain ⟨c, k, e1, e2⟩ := vals_int (i := i) t (by simpa using h)
    exact ⟨c, k, by simpa using e1, e2⟩
theorem call_setC {X : Cx} (hc : X.calm = true) : CallR X (.type "set") (SetC X.K X.w) := by
  intro pq s σ H xs us Q I r h
  obtain ⟨l, ns, rfl, hl, hf, q⟩ := h
  rw [Vals.ref1 r]
  obtain ⟨its, rv, pl, hz⟩ := I.list hl
  have len : its.length = ns.length := by rw [← rv.length, List.length_map]
  refine call_set_ints (P := X.prog) (w := X.w) (ns := ns) (I.ok.hd hc) pl.isList (fun i v hv => vals_int rv (by simpa using hv)) (by simpa using len) (by unfold scanBound; omega) fun h' tk x keep => ?_
  obtain ⟨S, m, R, e, lm⟩ := x
  exact ⟨.ref s.heap.objs.size, upd H s.heap.objs.size (SetO X.w s.heap.objs.size S m), I.laid (t' := tk) keep (Nat.le_refl _) (setO_new R), rfl, q _ S m (I.hok.fresh (Nat.le_refl _)) e lm⟩
theorem w_setC {K : PySem.W.Frag} {w : World} {M G H : Hp} {l : Addr} {ns : List Int} {Q : VK} (j : J M G H) (h : SqL K G l (ns.map V.int)) (z : ns.length < 64) (k : ∀ a S n G' H', (∀ k, S k = true ↔ k ∈ ns) → n ≤ ns.length → J M G' H' → Ex G G' → G' a = some (SetO w a S n) → Q (.ref a) H') : SetC K w [.ref l] H Q :=
  ⟨l, ns, rfl, sl_mono j.g h, z, fun a S n ha e ln => k a S n _ _ e ln (j.newG ha) (Ex.new (j.freeG ha)) upd_same⟩
/-! ### changes -/
def setK : Op → Option Int
  | .put k _ => some k
  | .add k _ => some k
  | _ => none
def chD (m : Int → Option Int) (k : Int) : PyData := .tuple [.int k, match m k with | some v => .int v | none => .none]
theorem strict_eq : ∀ {xs ys : List Int}, xs.Pairwise (· < ·) → ys.Pairwise (· < ·) → (∀ k, k ∈ xs ↔ k ∈ ys) → xs = ys
  | [], [], _, _, _ => rfl
  | [], y :: _, _, _, h => by have := (h y).mpr List.mem_cons_self; cases this
  | x :: _, [], _, _, h => by have := (h x).mp List.mem_cons_self; cases this
  | x :: xs, y :: ys, hx, hy, h => by
    rw [List.pairwise_cons] at hx hy
    have e : x = y := by
      rcases List.mem_cons.mp ((h x).mp List.mem_cons_self) with z | z
      · exact z
      · rcases List.mem_cons.mp ((h y).mpr List.mem_cons_self) with w | w
        · exact w.symm
        · have := hx.1 y w; have := hy.1 x z; omega
    subst e
    refine congrArg _ (strict_eq hx.2 hy.2 fun k => ⟨fun m => ?_, fun m => ?_⟩)
    · rcases List.mem_cons.mp ((h k).mp (List.mem_cons_of_mem _ m)) with z | z
      · subst z; have := hx.1 k m; omega
      · exact z
    · rcases List.mem_cons.mp ((h k).mpr (List.mem_cons_of_mem _ m)) with z | z
      · subst z; have := hy.1 k m; omega
      · exact z
def ChEnd (K : PySem.W.Frag) (kv : List (Int × Int)) (ops : List Op) (v : V) (G' : Hp) : Prop :=
  (outM (look kv) ops = "failed" ∧ Dp K G' v (.list [])) ∨ (outM (look kv) ops = "done" ∧ ∃ ks : List Int, ks.Pairwise (· < ·) ∧ (∀ k, k ∈ ks ↔ k ∈ ops.filterMap setK) ∧ ks.length ≤ 6 ∧ Dp K G' v (.list (ks.map (chD (endM (look kv) ops)))))
theorem out_two (m : Int → Option Int) (ops : List Op) : outM m ops = "failed" ∨ outM m ops = "done" := by unfold outM; split; exact .inr rfl; exact .inl rfl
theorem fm_snoc (ops : List Op) (op : Op) : (ops ++ [op]).filterMap setK = ops.filterMap setK ++ (match setK op with | some k => [k] | none => []) := by
  rw [List.filterMap_append]
  refine congrArg _ ?_
  cases h : setK op <;> simp [List.filterMap_cons, h]
theorem take_p {α : Type} {l : List α} {i : Nat} {x : α} (h : l[i]? = some x) : l.take (i + 1) = l.take i ++ [x] := by rw [List.take_add_one, h]; rfl
theorem dp_ch {K : PySem.W.Frag} {G : Hp} {t : Addr} {m : Int → Option Int} {k : Int} (h : G t = some (.tup [.int k, ov (m k)])) : Dp K G (.ref t) (chD m k) := by
  refine .tup (st_of h) (.cons (.int _) (.cons ?_ .nil))
  cases m k with
  | none => exact .non
  | some v => exact .int v
theorem okD_ch {ks : List Int} {m : Int → Option Int} (h : ks.length ≤ 6) : okD 2 (.list (ks.map (chD m))) := by
  refine ⟨by rw [List.length_map]; omega, fun x hx => ?_⟩
  obtain ⟨k, _, rfl⟩ := List.mem_map.mp hx
  refine ⟨by show 2 ≤ 100000; decide, fun y hy => ?_⟩
  rcases List.mem_cons.mp hy with rfl | hy
  · trivial
  · rw [List.mem_singleton.mp hy]; cases m k <;> trivial
/-! ### changes -/
abbrev s_changes : Stmt := top 12
abbrev n_changes : List Str := ["table", "ops", "outcome", "_", "after", "keys", "key", "op"]
theorem sc_changes : FnScope n_changes ["table", "ops"] (defScope s_changes) := ⟨rfl, rfl, rfl, by decide +kernel, rfl, by decide +kernel, by decide +kernel⟩
def sp_changes (K : PySem.W.Frag) : Sp := Sg (α := Addr × Addr × List (Int × Int) × List Addr × List Op × Nat) (fun x vs M G => vs = [.ref x.1, .ref x.2.1] ∧ ExPre M G x.1 x.2.1 x.2.2.1 x.2.2.2.1 x.2.2.2.2.1 x.2.2.2.2.2)
  (fun x M G v M' G' => ChEnd K x.2.2.1 x.2.2.2.2.1 v G' ∧ M' = M)
theorem ok_changes {P : Program} {w : World} {K : PySem.W.Frag} {mg : Str → Option Value} {base : Heap}
    {f : Addr} {fd : FuncData} (D : Dn K mg "changes" s_changes ["table", "ops"] f fd)
    (b_sorted : mg "sorted" = none)
    {a_SETTING : Addr} (g_SETTING : ∃ u, mg "SETTING" = some u ∧ RelV (.ref a_SETTING) u) (k_SETTING : ∀ H, SqT K H a_SETTING [V.str "put", V.str "add"])
    (c_execute : Cal P w K mg base CX0 4 "execute" (sp_execute K)) : Cal P w K mg base CX0 5 "changes" (sp_changes K) := by
  refine D.ok sc_changes (fun vs H Q E h => ?_) fun cdv A outer s H vs Q E hr h => ?_
  · obtain ⟨x, M, G, j, ⟨rfl, _⟩, _⟩ := h; rfl
  obtain ⟨⟨d, a, kv, as, ops, n⟩, M, G, j, ⟨rfl, p⟩, k⟩ := h
  dsimp only at p k
  have dl := p.dl
  obtain ⟨ha, hops, h1, h6⟩ := dl
  refine ⟨_, (pss_cons (ps_asg (pe_cal c_execute hr (by first | decide | omega) (by rfl) (pa_cons (pv 0) (pa_cons (pv 1) pa_nil))) (pg_tup rfl (pgs_cons (pg_name (i := 2) sc_changes.nd rfl (Or.inl rfl)) (pgs_cons (pg_name (i := 3) sc_changes.nd rfl (Or.inl rfl)) (pgs_cons (pg_name (i := 4) sc_changes.nd rfl (Or.inr rfl)) pgs_nil)))))
(pss_cons (ps_if (pt_cmpR (op_uEqK (K := K) rfl hr) (pv 2) pe_str (nomark _))
(pss_one (ps_ret (pe_lst pa_nil)))
pss_nil)
(pss_cons (ps_set (i := 5) sc_changes.nd rfl (Or.inl rfl) (pe_callB (cr_sortedSet rfl) (by rfl) b_sorted bt_sorted (pa_cons (pe_sci (own := [("op", 7)]) (by rfl) sc_changes.nd (pi_list (pv 1)) (blkOk_by (own := [("op", 7)]) (N := n_changes) (sc := defScope s_changes) (by decide +kernel)) (fun _ _ _ _ _ => pg_name (i := 7) sc_changes.nd rfl (Or.inl rfl)) (fun _ _ _ _ _ => pts_one (pt_cmpR (op_inK (K := K) rfl) (pe_ix (ix_uK (K := K) rfl) (pv 7) pe_int (fun _ _ => rfl)) (pe_gk (by rfl) g_SETTING) (by with_unfolding_all rfl))) (fun _ _ _ _ _ => (pe_ix (ix_uK (K := K) rfl) (pv 7) pe_int (fun _ _ => rfl)))) pa_nil)))
(pss_one (ps_ret (pe_lc (own := [("key", 6)]) (by rfl) sc_changes.nd (pi_list (pv 5)) (blkOk_by (own := [("key", 6)]) (N := n_changes) (sc := defScope s_changes) (by decide +kernel)) (fun _ _ _ _ _ => pg_name (i := 6) sc_changes.nd rfl (Or.inl rfl)) (fun _ _ _ _ _ => pts_nil) (fun _ _ _ _ _ => (pe_tup (pa_cons (pv 6) (pa_cons (pe_dget1 (hu_of hr) (pv 4) (pv 6) ⟨by rfl, by rfl, by rfl, by rfl⟩) pa_nil)))))))))), ?_⟩
  walk_at "start"
  refine use_execute j p fun t R D1 M1 G1 H1 j1 e1 ht x1 => ?_
  obtain ⟨ws, kv', G2, j2, e2, hR, hD, hres, ok, rep⟩ := x1.seal j1
  walk_at "go"
  refine w_gTup j2 (st_of (e2 _ _ ht)) rfl (w_gCons (w_gName (w_gCons (w_gName (w_gCons (w_gName (w_gNil ?_)))))))
  have E2 := e1.trans e2
  walk_at "go"
  rcases out_two (look kv) ops with ho | ho
  · rw [ho]
    refine w_eqS rfl ?_
    refine w_bl (w_dT rfl ?_)
    walk_at "go"
    refine w_new j2 (Nat.zero_le _) fun u G3 H3 j3 e3 hu _ => ?_
    exact k _ _ _ _ j3 (E2.trans e3) ⟨.inl ⟨ho, .lst (sl_of hu) .nil⟩, rfl⟩
  · rw [ho]
    refine w_eqS rfl ?_
    refine w_bl (w_dF (by decide +kernel) ?_)
    walk_at "go"
    refine w_scL ?_
    walk_at "go"
    refine w_scl j2 (fun L i S n M4 G4 => Ex G2 G4 ∧ Ag L M M4 ∧ M L = none ∧ (∀ k, S k = true ↔ k ∈ (ops.take i).filterMap setK) ∧ n ≤ i) (sl_of (E2 _ _ ha)) ?_ (fun _ _ _ _ _ _ h => h.1) (fun _ => rfl) ?_ ?_
    · exact fun L nM nG => ⟨Same.refl _, Ag.upd, nM, fun k => by simp, Nat.le_refl _⟩
    · rintro L i x S m M4 G4 H4 R hi j4 hL ⟨e4, ag, nM, hS, hm⟩ hR
      obtain ⟨u, op, rfl, hu, hop, hat⟩ := (hops.ex (E2.trans e4)).get hi
      have hat0 := hat.1
      have hil : i < 6 := by have := (List.getElem?_eq_some_iff.mp hop).1; omega
      have tk1 := take_p hop
      have skip : setK op = none → SciI w (fun L i S n M4 G4 => Ex G2 G4 ∧ Ag L M M4 ∧ M L = none ∧ (∀ k, S k = true ↔ k ∈ (ops.take i).filterMap setK) ∧ n ≤ i) L (i + 1) H4 := fun h =>
        ⟨S, m, M4, G4, j4, hL, e4, ag, nM, fun k => by rw [hS, tk1, fm_snoc, h, List.append_nil], by omega⟩
      have take : ∀ ky, setK op = some ky → ∃ (c : Int) (S : Int → Bool) (n : Nat), V.int ky = .int c ∧ H4 L = some (SetO w L S n) ∧ n + 1 < scanBound ∧ SciI w (fun L i S n M4 G4 => Ex G2 G4 ∧ Ag L M M4 ∧ M L = none ∧ (∀ k, S k = true ↔ k ∈ (ops.take i).filterMap setK) ∧ n ≤ i) L (i + 1) (upd H4 L (SetO w L (fun j => S j || decide (j = c)) (if S c = true then n else n + 1))) := fun ky h =>
        ⟨ky, S, m, rfl, j4.m _ _ hL, by unfold scanBound; omega, _, _, _, G4, j4.put hL, upd_same, e4, ag.trans Ag.upd, nM, fun k => by rw [tk1, fm_snoc, h, List.mem_append, List.mem_singleton, Bool.or_eq_true, decide_eq_true_eq, hS], by split <;> omega⟩
      walk_at "gx"
      cases op with
      | get ky =>
        walk_at "gx"
        refine w_inT j4 (k_SETTING G4) (by rfl) (by rfl) ?_
        exact w_bl (hR _ _ (w_F (skip rfl)))
      | need ky v =>
        walk_at "gx"
        refine w_inT j4 (k_SETTING G4) (by rfl) (by rfl) ?_
        exact w_bl (hR _ _ (w_F (skip rfl)))
      | scan lo hi =>
        walk_at "gx"
        refine w_inT j4 (k_SETTING G4) (by rfl) (by rfl) ?_
        exact w_bl (hR _ _ (w_F (skip rfl)))
      | put ky v =>
        walk_at "gx"
        refine w_inT j4 (k_SETTING G4) (by rfl) (by rfl) ?_
        refine w_bl (hR _ _ (w_T ?_))
        walk_at "gx"
        exact take ky rfl
      | add ky v =>
        walk_at "gx"
        refine w_inT j4 (k_SETTING G4) (by rfl) (by rfl) ?_
        refine w_bl (hR _ _ (w_T ?_))
        walk_at "gx"
        exact take ky rfl
    · rintro L S m M4 G4 H4 j4 hL ⟨e4, ag, nM, hS, hm⟩
      rw [List.length_map, hops.1] at hm
      rw [List.length_map, hops.1, List.take_length] at hS
      walk_at "go"
      refine w_sortS j4 (.inl hL) (by omega) fun ks hk1 hk2 hk3 => ?_
      have j5 := j4.drop L
      rw [ag.del_eq nM] at j5
      refine w_new j5 (by have := sz_le (n := m) (by omega); exact this) fun ka G6 H6 j6 e6 hka _ => ?_
      walk_at "go"
      have hD6 : G6 D1 = some (.dK (tk kv')) := e6 _ _ (e4 _ _ hD)
      have hem : look kv' = endM (look kv) ops := funext rep
      have E6 := (E2.trans e4).trans e6
      refine w_lcl j6 (fun L i acc M7 G7 => Ex G6 G7 ∧ Ag L M M7 ∧ M L = none ∧ ∃ ts : List Addr, acc = ts.map V.ref ∧ ts.length = i ∧ DpAll K G7 (ts.map V.ref) ((ks.take i).map (chD (endM (look kv) ops)))) (sl_of hka) ?_ (fun _ _ _ _ _ h => h.1) (fun _ => rfl) ?_ ?_
      · exact fun L nM nG => ⟨Same.refl _, Ag.upd, nM, [], rfl, rfl, .nil⟩
      · rintro L i x acc M7 G7 H7 R hi j7 hL ⟨e7, ag7, nM7, ts, rfl, hts, hdp⟩ hR
        rw [List.getElem?_map] at hi
        cases hc : ks[i]? with
        | none => rw [hc] at hi; cases hi
        | some c =>
          rw [hc] at hi
          cases hi
          have hil : i < 6 := by have := (List.getElem?_eq_some_iff.mp hc).1; omega
          refine w_yes (hR true _ (w_T ?_))
          walk_at "gx"
          refine w_getA j7 (.inr (.inl (e7 _ _ hD6))) ?_
          walk_at "gx"
          refine w_getE j7 (.inr (.inl (e7 _ _ hD6))) ?_
          rw [tk_look, ov_get, hem]
          walk_at "gx"
          refine w_new j7 (by show 2 ≤ sizeLine; decide) fun t8 G8 H8 j8 e8 ht8 _ => ?_
          refine StepL.go ⟨M7, G8, j8, hL, by rw [List.length_map, hts]; exact sz_lt (by omega), e7.trans e8, ag7.trans Ag.upd, nM7, ts ++ [t8], ref_snoc ts t8, by rw [List.length_append, hts]; rfl, ?_⟩
          rw [take_p hc, List.map_append, List.map_append]
          exact dpAll_snoc (dpAll_mono e8 hdp) (dp_ch ht8)
      · rintro L acc M7 G7 H7 j7 hL ⟨e7, ag7, nM7, ts, rfl, hts, hdp⟩
        rw [List.length_map, List.take_length] at hdp
        have e8 := Ex.new (o := .lst (ts.map V.ref)) (j7.out hL)
        exact k _ _ _ _ (j7.seal hL) ((E6.trans e7).trans e8) ⟨.inr ⟨ho, ks, hk1, fun k => (hk2 k).trans (hS k), by omega, .lst (sl_of upd_same) (dpAll_mono e8 hdp)⟩, ag7.del_eq nM7⟩
/-! ### _law_step -/
abbrev s_law_step : Stmt := top 20
abbrev n_law_step : List Str := ["after", "op", "total", "key"]
theorem sc_law_step : FnScope n_law_step ["after", "op"] (defScope s_law_step) := ⟨rfl, rfl, rfl, by decide +kernel, rfl, by decide +kernel, by decide +kernel⟩
structure StEnd (M M' : Hp) (D : Addr) (kv : List (Int × Int)) (op : Op) (n : Nat) : Prop where
  ex : ∃ kv', M' D = some (.dK (tk kv')) ∧ TabOk kv' (n + 1) ∧ (failM (look kv) op = true → kv' = kv) ∧ (failM (look kv) op = false → Rep kv' (postM (look kv) op))
  ag : Ag D M M'
def sp_law_step (K : PySem.W.Frag) : Sp := Sg (α := Addr × Addr × List (Int × Int) × Op × Nat) (fun x vs M G => vs = [.ref x.1, .ref x.2.1] ∧ M x.1 = some (.dK (tk x.2.2.1)) ∧ OpAt G x.2.1 x.2.2.2.1 ∧ TabOk x.2.2.1 x.2.2.2.2 ∧ x.2.2.2.2 ≤ 63)
  (fun x M G v M' G' => ∃ t w, v = .ref t ∧ G' t = some (.lst [.bl (!failM (look x.2.2.1) x.2.2.2.1), w]) ∧ (failM (look x.2.2.1) x.2.2.2.1 = false → ResAt G' w (resM (look x.2.2.1) x.2.2.2.1)) ∧ StEnd M M' x.1 x.2.2.1 x.2.2.2.1 x.2.2.2.2)
theorem ok_law_step {P : Program} {w : World} {K : PySem.W.Frag} {mg : Str → Option Value} {base : Heap}
    {f : Addr} {fd : FuncData} (D : Dn K mg "_law_step" s_law_step ["after", "op"] f fd)
    (b_sorted : mg "sorted" = none) : Cal P w K mg base CX0 1 "_law_step" (sp_law_step K) := by
  refine D.ok sc_law_step (fun vs H Q E h => ?_) fun cdv A outer s H vs Q E hr h => ?_
  · obtain ⟨x, M, G, j, ⟨rfl, _⟩, _⟩ := h; rfl
  obtain ⟨⟨d, a, kv, op, n⟩, M, G, j, ⟨rfl, hD, ⟨ho, hk⟩, ok, hn⟩, k⟩ := h
  dsimp only at hD ho hk ok hn k
  refine ⟨_, (pss_cons (ps_if (pt_cmpR (op_uEqK (K := K) rfl hr) (pe_ix (ix_uK (K := K) rfl) (pv 1) pe_int (fun _ _ => rfl)) pe_str (nomark _))
(pss_one (ps_ret (pe_lst (pa_cons pe_bl (pa_cons (pe_dget1 (hu_of hr) (pv 0) (pe_ix (ix_uK (K := K) rfl) (pv 1) pe_int (fun _ _ => rfl)) ⟨by rfl, by rfl, by rfl, by rfl⟩) pa_nil)))))
pss_nil)
(pss_cons (ps_if (pt_cmpR (op_uEqK (K := K) rfl hr) (pe_ix (ix_uK (K := K) rfl) (pv 1) pe_int (fun _ _ => rfl)) pe_str (nomark _))
(pss_cons (ps_expr (pe_dpop2 (pv 0) (pe_ix (ix_uK (K := K) rfl) (pv 1) pe_int (fun _ _ => rfl)) pe_non ⟨by rfl, by rfl, by rfl, by rfl⟩))
(pss_cons (ps_if (pt_cmp (pc_notN (pe_ix (ix_uK (K := K) rfl) (pv 1) pe_int (fun _ _ => rfl))))
(pss_one (ps_dput (hu_of hr) (pv 0) (pe_ix (ix_uK (K := K) rfl) (pv 1) pe_int (fun _ _ => rfl)) (pe_ix (ix_uK (K := K) rfl) (pv 1) pe_int (fun _ _ => rfl)) rfl))
pss_nil)
(pss_one (ps_ret (pe_lst (pa_cons pe_bl (pa_cons pe_non pa_nil)))))))
pss_nil)
(pss_cons (ps_if (pt_cmpR (op_uEqK (K := K) rfl hr) (pe_ix (ix_uK (K := K) rfl) (pv 1) pe_int (fun _ _ => rfl)) pe_str (nomark _))
(pss_cons (ps_set (i := 2) sc_law_step.nd rfl (Or.inl rfl) (pe_op (op_uAddK (K := K) rfl) (pe_dget2 (hu_of hr) (pv 0) (pe_ix (ix_uK (K := K) rfl) (pv 1) pe_int (fun _ _ => rfl)) pe_int ⟨by rfl, by rfl, by rfl, by rfl⟩) (pe_ix (ix_uK (K := K) rfl) (pv 1) pe_int (fun _ _ => rfl))))
(pss_cons (ps_if (PW.pt (pw_or (pt_cmpR op_gt (pv 2) (pe_op op_pow pe_int pe_int) (nomark _)) (pw_or1 (pt_cmpR op_lt (pv 2) (pe_un un_neg (pe_op op_pow pe_int pe_int)) (nomark _)))))
(pss_one (ps_ret (pe_lst (pa_cons pe_bl (pa_cons pe_non pa_nil)))))
pss_nil)
(pss_cons (ps_dput (hu_of hr) (pv 0) (pe_ix (ix_uK (K := K) rfl) (pv 1) pe_int (fun _ _ => rfl)) (pv 2) rfl)
(pss_one (ps_ret (pe_lst (pa_cons pe_bl (pa_cons (pv 2) pa_nil))))))))
pss_nil)
(pss_cons (ps_if (pt_cmpR (op_uEqK (K := K) rfl hr) (pe_ix (ix_uK (K := K) rfl) (pv 1) pe_int (fun _ _ => rfl)) pe_str (nomark _))
(pss_one (ps_ret (pe_lst (pa_cons (pe_cmpR (op_uEqK (K := K) rfl hr) (pe_dget1 (hu_of hr) (pv 0) (pe_ix (ix_uK (K := K) rfl) (pv 1) pe_int (fun _ _ => rfl)) ⟨by rfl, by rfl, by rfl, by rfl⟩) (pe_ix (ix_uK (K := K) rfl) (pv 1) pe_int (fun _ _ => rfl)) (nomark _)) (pa_cons pe_non pa_nil)))))
pss_nil)
(pss_one (ps_ret (pe_lst (pa_cons pe_bl (pa_cons (pe_lc (own := [("key", 3)]) (by rfl) sc_law_step.nd (pi_list (pe_callB (call_sortDC rfl) (by rfl) b_sorted bt_sorted (pa_cons (pv 0) pa_nil))) (blkOk_by (own := [("key", 3)]) (N := n_law_step) (sc := defScope s_law_step) (by decide +kernel)) (fun _ _ _ _ _ => pg_name (i := 3) sc_law_step.nd rfl (Or.inl rfl)) (fun _ _ _ _ _ => pts_one (pt_chain op_le op_lt (pe_ix (ix_uK (K := K) rfl) (pv 1) pe_int (fun _ _ => rfl)) (pv 3) (pe_ix (ix_uK (K := K) rfl) (pv 1) pe_int (fun _ _ => rfl)))) (fun _ _ _ _ _ => (pe_tup (pa_cons (pv 3) (pa_cons (pe_dget (hu_of hr) (pv 0) (pv 3) (fun _ _ => rfl)) pa_nil))))) pa_nil))))))))), ?_⟩
  walk_at "start"
  have idn : StEnd M M d kv op n ∨ True := .inr trivial
  have fin : ∀ (b : Bool) (w : V) (kv' : List (Int × Int)) (M1 G1 H1 : Hp), J M1 G1 H1 → Ex G G1 → b = (!failM (look kv) op) → (failM (look kv) op = false → ResAt G1 w (resM (look kv) op)) → M1 d = some (.dK (tk kv')) → TabOk kv' (n + 1) →
      (failM (look kv) op = true → kv' = kv) → (failM (look kv) op = false → Rep kv' (postM (look kv) op)) → Ag d M M1 → NewO (.lst [.bl b, w]) [V.bl b, w].length H1 Q := fun b w kv' M1 G1 H1 j1 e1 hb hw h1 h2 h3 h4 h5 =>
    w_new j1 (by show 2 ≤ sizeLine; decide) fun t G2 H2 j2 e2 ht _ => k _ _ _ _ j2 (e1.trans e2) ⟨t, w, rfl, by rw [← hb]; exact ht, fun z => (hw z).ex e2, ⟨kv', h1, h2, h3, h4⟩, h5⟩
  cases op with
  | get ky =>
    walk_at "gx"
    refine w_getA j (.inl hD) ?_
    walk_at "gx"
    refine w_getE j (.inl hD) ?_
    rw [tk_look, ov_get]
    walk_at "gx"
    exact fin true _ kv M G H j (Same.refl G) rfl (fun _ => ResAt.o _) hD (ok.mono (by omega)) (fun z => by cases z) (fun _ _ => rfl) (Ag.refl _ _)
  | put ky x =>
    walk_at "gx"
    refine w_popB j hD ?_
    walk_at "gx"
    refine w_popE j hD fun v6 H6 j6 => ?_
    rw [tk_drop] at j6
    walk_at "gx"
    cases x with
    | none =>
      walk_at "gx"
      refine w_F ?_
      walk_at "gx"
      exact fin true _ _ _ G _ j6 (Same.refl G) rfl (fun _ => rfl) upd_same (ok.drop.mono (by omega)) (fun z => by cases z) (fun _ => Rep.drop fun _ => rfl) Ag.upd
    | some x =>
      walk_at "gx"
      refine w_T ?_
      walk_at "gx"
      refine w_putX j6 upd_same (by rw [tk_len]; have := ok.drop (k := ky); have := this.len; omega) fun H7 j7 => ?_
      dsimp only [ov] at j7
      rw [tk_put, upd_upd] at j7
      walk_at "gx"
      refine fin true _ _ _ G _ j7 (Same.refl G) rfl (fun _ => rfl) upd_same (ok.drop.put hk.1 hk.2) (fun z => by cases z) (fun _ q => ?_) Ag.upd
      rw [look_put, look_drop]
      show _ = setM (look kv) ky (some x) q
      unfold setM
      by_cases e : q = ky
      · rw [if_pos e, if_pos e]
      · rw [if_neg e, if_neg e, if_neg e]
  | add ky x =>
    walk_at "gx"
    refine w_getB j (.inl hD) ?_
    walk_at "gx"
    refine w_getE j (.inl hD) ?_
    rw [tk_look, Option.getD_map]
    walk_at "gx"
    have bad : ¬ IsVal ((look kv ky).getD 0 + x) → NewO (.lst [.bl false, .non]) [V.bl false, .non].length H Q := fun hn => by
      have hf : failM (look kv) (.add ky x) = true := by show (!decide _) = true; rw [decide_eq_false hn]; rfl
      exact fin false _ kv M G H j (Same.refl G) (by rw [hf]; rfl) (fun z => by rw [hf] at z; cases z) hD (ok.mono (by omega)) (fun _ => rfl) (fun z => by rw [hf] at z; cases z) (Ag.refl _ _)
    refine w_dec (fun h1 => ?_) (fun h1 => ?_)
    · walk_at "gx"
      exact bad (fun z => by have := z.2; omega)
    · walk_at "gx"
      refine w_dec (fun h2 => ?_) (fun h2 => ?_)
      · walk_at "gx"
        exact bad (fun z => by have := z.1; omega)
      · have hv : IsVal ((look kv ky).getD 0 + x) := ⟨by omega, by omega⟩
        walk_at "gx"
        refine w_putX j hD (by rw [tk_len]; have := ok.len; omega) fun H7 j7 => ?_
        rw [tk_put] at j7
        walk_at "gx"
        have hf : failM (look kv) (.add ky x) = false := by show (!decide _) = false; rw [decide_eq_true hv]; rfl
        exact fin true _ _ _ G _ j7 (Same.refl G) (by rw [hf]; rfl) (fun _ => rfl) upd_same (ok.put hk.1 hv) (fun z => by rw [hf] at z; cases z) (fun _ => Rep.put fun _ => rfl) Ag.upd
  | need ky x =>
    walk_at "gx"
    refine w_getA j (.inl hD) ?_
    walk_at "gx"
    refine w_getE j (.inl hD) ?_
    rw [tk_look, ov_get]
    walk_at "gx"
    refine w_eqV (scal_ov _ _) (dec_ov _ _) ?_
    walk_at "gx"
    refine fin _ _ kv M G H j (Same.refl G) ?_ (fun _ => rfl) hD (ok.mono (by omega)) (fun _ => rfl) (fun _ _ => rfl) (Ag.refl _ _)
    show _ = !(!decide (look kv ky = x))
    rw [Bool.not_not]
  | scan lo hi =>
    walk_at "gx"
    refine scan_lc j (.inl hD) ho (ok.mono (by omega)) (fun _ => rfl) (fun _ => rfl) (fun _ => rfl) (fun _ => rfl) fun t as G1 H1 j1 e1 ht hr => ?_
    walk_at "gx"
    exact fin true _ kv _ _ _ j1 e1 rfl (fun _ => ⟨t, as, rfl, ht, hr⟩) hD (ok.mono (by omega)) (fun z => by cases z) (fun _ _ => rfl) (Ag.refl _ _)
/-! ### _law_execute -/
abbrev s_law_execute : Stmt := top 21
abbrev n_law_execute : List Str := ["table", "ops", "after", "results", "op", "step"]
theorem sc_law_execute : FnScope n_law_execute ["table", "ops"] (defScope s_law_execute) := ⟨rfl, rfl, rfl, by decide +kernel, rfl, by decide +kernel, by decide +kernel⟩
def sp_law_execute (K : PySem.W.Frag) : Sp := Sg (α := Addr × Addr × List (Int × Int) × List Addr × List Op × Nat) (fun x vs M G => vs = [.ref x.1, .ref x.2.1] ∧ ExPre M G x.1 x.2.1 x.2.2.1 x.2.2.2.1 x.2.2.2.2.1 x.2.2.2.2.2)
  (fun x M G v M' G' => ∃ t R D, v = .ref t ∧ G' t = some (.lst [.str (outM (look x.2.2.1) x.2.2.2.2.1), .ref R, .ref D]) ∧ ExEnd M G M' G' R D x.2.2.1 x.2.2.2.2.1 x.2.2.2.2.2)
theorem use_law_execute {K : PySem.W.Frag} {M G H : Hp} {d a : Addr} {kv : List (Int × Int)} {as : List Addr} {ops : List Op} {n : Nat} {Q : VK} {E : XK} (j : J M G H) (p : ExPre M G d a kv as ops n)
    (k : ∀ (t R D : Addr) (M' G' H' : Hp), J M' G' H' → Ex G G' → G' t = some (.lst [.str (outM (look kv) ops), .ref R, .ref D]) → ExEnd M G M' G' R D kv ops n → Q (.ref t) H') : sp_law_execute K ([.ref d, .ref a] ++ []) H Q E :=
  w_sg (d, a, kv, as, ops, n) j ⟨rfl, p⟩ fun v M' G' H' j' e ⟨t, R, D, ev, ht, x⟩ => by subst ev; exact k t R D M' G' H' j' e ht x
theorem ok_law_execute {P : Program} {w : World} {K : PySem.W.Frag} {mg : Str → Option Value} {base : Heap}
    {f : Addr} {fd : FuncData} (D : Dn K mg "_law_execute" s_law_execute ["table", "ops"] f fd)
    (b_dict : mg "dict" = none)
    (c_law_step : Cal P w K mg base CX0 1 "_law_step" (sp_law_step K)) : Cal P w K mg base CX0 2 "_law_execute" (sp_law_execute K) := by
  refine D.ok sc_law_execute (fun vs H Q E h => ?_) fun cdv A outer s H vs Q E hr h => ?_
  · obtain ⟨x, M, G, j, ⟨rfl, _⟩, _⟩ := h; rfl
  obtain ⟨⟨d, a, kv, as, ops, n⟩, M, G, j, ⟨rfl, p⟩, k⟩ := h
  dsimp only at p k
  obtain ⟨tb, ok, hn, ha, hops, h1, h6⟩ := p
  refine ⟨_, (pss_cons (ps_set (i := 2) sc_law_execute.nd rfl (Or.inl rfl) (pe_callTy call_dictC (by rfl) b_dict bt_dict (pa_cons (pv 0) pa_nil)))
(pss_cons (ps_set (i := 3) sc_law_execute.nd rfl (Or.inl rfl) (pe_lst pa_nil))
(pss_cons (ps_for PassesOwn.never rfl (pi_list (pv 1)) (pg_name (i := 4) sc_law_execute.nd rfl (Or.inl rfl))
(pss_cons (ps_set (i := 5) sc_law_execute.nd rfl (Or.inl rfl) (pe_cal c_law_step hr (by first | decide | omega) (by rfl) (pa_cons (pv 2) (pa_cons (pv 4) pa_nil))))
(pss_cons (ps_if (pt_not (pt_val (pe_ix (ix_uK (K := K) rfl) (pv 5) pe_int (fun _ _ => rfl))))
(pss_one (ps_ret (pe_lst (pa_cons pe_str (pa_cons (pv 3) (pa_cons (pe_callTy call_dictC (by rfl) b_dict bt_dict (pa_cons (pv 0) pa_nil)) pa_nil))))))
pss_nil)
(pss_one (ps_expr (pe_bm PySem.F.plainAttrs_list PySem.F.slot_list_append PySem.F.type_list_append mt_append (pv 3) (pa_cons (pe_ix (ix_uK (K := K) rfl) (pv 5) pe_int (fun _ _ => rfl)) pa_nil)))))))
(pss_one (ps_ret (pe_lst (pa_cons pe_str (pa_cons (pv 3) (pa_cons (pv 2) pa_nil))))))))), ?_⟩
  walk_at "start"
  refine w_dictC j tb (w_newM j (Nat.zero_le _) fun L H1 j1 nM nG => ?_)
  walk_at "go"
  refine w_newM j1 (Nat.zero_le _) fun R H2 j2 nM2 nG2 => ?_
  walk_at "go"
  have nRL : R ≠ L := fun z => by subst z; rw [upd_same] at nM2; cases nM2
  have nMR : M R = none := by rw [upd_ne nRL] at nM2; exact nM2
  refine w_forLV rfl (ExI M G d a L R kv ops n) (xs := as.map V.ref) (sl_of (j2.g _ _ ha)) ?_ ?_ ?_ ?_
  · refine ⟨[], kv, _, G, none, none, j2, ?_, upd_same, ?_, Same.refl G, .nil, ok, fun _ => rfl, Nat.zero_le _, rfl⟩
    · rw [upd_ne nRL.symm]; exact upd_same
    · intro b q1 q2; rw [upd_ne q1, upd_ne q2]
  · rintro i σ H _ ⟨ws, kv1, M1, G1, x, y, j, hD, hR, hM, e, _⟩
    exact sl_of (j.g _ _ (e _ _ ha))
  · rintro i x σ H hi ⟨ws, kv1, M1, G1, x0, y0, j, hD, hR, hM, e, hres, ok1, rep, hc, rfl⟩
    obtain ⟨u, op, rfl, hu, ho, hat⟩ := (hops.ex e).get hi
    have hil : i < 6 := by have := (List.getElem?_eq_some_iff.mp ho).1; omega
    have em : look kv1 = mAt (look kv) (ops.take i) := funext rep
    have hcut := cut_at hc ho
    rw [← em] at hcut
    have hlen := resL_len (look kv) (ops.take i)
    have hresn : resL (look kv) (ops.take (i + 1)) = resL (look kv) (ops.take i) ++ [resM (look kv1) op] := by rw [take_snoc ho, resL_snoc, em]
    have hmn : mAt (look kv) (ops.take (i + 1)) = postM (look kv1) op := by rw [take_snoc ho, mAt_snoc, em]
    walk_at "go"
    refine w_sg (L, u, kv1, op, n + i) j ⟨rfl, hD, hat, ok1, by show n + i ≤ 63; omega⟩ fun v M2 G2 H2 j2 e2 ⟨t2, w2, ev, ht2, hw2, ⟨kv2, hD2, ok2, rep2, rep3⟩, a2⟩ => ?_
    subst ev
    dsimp only at ht2 hw2 hD2 ok2 rep2 rep3 a2
    have hR2 : M2 R = some (.lst ws) := a2.at hR nRL
    have hM2 : ∀ b, b ≠ R → b ≠ L → M2 b = M b := fun b q1 q2 => (a2 b q2).trans (hM b q1 q2)
    walk_at "gx"
    refine w_two (fun hf => ?_) (fun hf => ?_)
    · have hf : failM (look kv1) op = true := by simpa using hf
      walk_at "go"
      have hcut := hcut.1 hf
      have tb1 : Hd M2 G2 d (tk kv) := by
        rcases tb with tb | tb
        · refine .inl ?_
          rw [hM2 d (ne_of_none tb nMR) (ne_of_none tb nM)]; exact tb
        · exact .inr (rd_same (e.trans e2) tb)
      refine w_dictC j2 tb1 (w_newM j2 (Nat.zero_le _) fun D2 H3 j3 nM3 nG3 => ?_)
      walk_at "go"
      have n1 : D2 ≠ L := fun z => by subst z; rw [hD2] at nM3; cases nM3
      have n2 : D2 ≠ R := fun z => by subst z; rw [hR2] at nM3; cases nM3
      have j4 := j3.drop L
      refine w_new j4 (by show 3 ≤ sizeLine; decide) fun t G5 H5 j5 e5 ht nt => ?_
      have hoo : outM (look kv) ops = "failed" := by unfold outM; rw [if_neg (by rw [hcut]; have := (List.getElem?_eq_some_iff.mp ho).1; omega)]
      refine k _ _ _ _ j5 ((e.trans e2).trans e5) ⟨t, R, D2, rfl, by rw [hoo]; exact ht, ⟨ws, kv, ?_, ?_, ok.mono (by omega), ?_⟩, nMR, ?_, n2.symm, nG2, (e.trans e2).free nG3⟩
      · refine own2 ?_ ?_ fun b q1 q2 => ?_
        · rw [del_ne nRL, upd_ne n2.symm]; exact hR2
        · rw [del_ne n1]; exact upd_same
        · by_cases q3 : b = L
          · subst q3; rw [del_same, nM]
          · rw [del_ne q3, upd_ne q2]; exact hM2 b q1 q3
      · unfold ressM; rw [hcut]; exact hres.ex (e2.trans e5)
      · unfold endM; rw [if_neg (by rw [hcut]; have := (List.getElem?_eq_some_iff.mp ho).1; omega)]; exact fun _ => rfl
      · rw [← hM2 D2 n2 n1]; exact nM3
    · have hf : failM (look kv1) op = false := by simpa using hf
      have hcut2 := hcut.2 hf
      walk_at "go"
      refine ⟨ty_listM j2 hR2, ?_⟩
      walk_at "gx"
      refine w_appendA j2 hR2 (by rw [hres.1, hlen, List.length_take]; omega) fun H4 j4 => ?_
      walk_at "go"
      refine ⟨ws ++ [w2], kv2, _, G2, _, _, j4, upd_ne' hD2 nRL.symm, upd_same, fun b q1 q2 => by rw [upd_ne q1]; exact hM2 b q1 q2, e.trans e2, ?_, ok2.mono (by omega), by rw [hmn]; exact rep3 hf, hcut2, rfl⟩
      rw [hresn]; exact (hres.ex e2).snoc (hw2 hf)
  · rintro σ H ⟨ws, kv1, M1, G1, x0, y0, j, hD, hR, hM, e, hres, ok1, rep, hc, rfl⟩
    rw [List.length_map, hops.1] at hc
    rw [List.length_map, hops.1, List.take_length] at hres rep
    have hcl : cutM (look kv) ops = ops.length := Nat.le_antisymm (cut_le _ _) hc
    walk_at "go"
    refine w_new j (by show 3 ≤ sizeLine; decide) fun t G5 H5 j5 e5 ht nt => ?_
    have ho : outM (look kv) ops = "done" := by unfold outM; rw [if_pos hcl]
    refine k _ _ _ _ j5 (e.trans e5) ⟨t, R, L, rfl, by rw [ho]; exact ht, ⟨ws, kv1, own2 hR hD hM, ?_, ?_, ?_⟩, nMR, nM, nRL, nG2, nG⟩
    · unfold ressM; rw [hcl, List.take_length]; exact hres.ex e5
    · exact ok1.mono (by rw [List.length_map, hops.1]; omega)
    · unfold endM; rw [if_pos hcl]; exact rep
/-! ### _law_changes -/
abbrev s_law_changes : Stmt := top 30
abbrev n_law_changes : List Str := ["table", "ops", "after", "touched", "key", "op"]
theorem sc_law_changes : FnScope n_law_changes ["table", "ops"] (defScope s_law_changes) := ⟨rfl, rfl, rfl, by decide +kernel, rfl, by decide +kernel, by decide +kernel⟩
def sp_law_changes (K : PySem.W.Frag) : Sp := Sg (α := Addr × Addr × List (Int × Int) × List Addr × List Op × Nat) (fun x vs M G => vs = [.ref x.1, .ref x.2.1] ∧ ExPre M G x.1 x.2.1 x.2.2.1 x.2.2.2.1 x.2.2.2.2.1 x.2.2.2.2.2)
  (fun x M G v M' G' => ChEnd K x.2.2.1 x.2.2.2.2.1 v G' ∧ M' = M)
theorem ok_law_changes {P : Program} {w : World} {K : PySem.W.Frag} {mg : Str → Option Value} {base : Heap}
    {f : Addr} {fd : FuncData} (D : Dn K mg "_law_changes" s_law_changes ["table", "ops"] f fd)
    (b_sorted : mg "sorted" = none)
    (b_set : mg "set" = none)
    (c_law_execute : Cal P w K mg base CX0 2 "_law_execute" (sp_law_execute K)) : Cal P w K mg base CX0 3 "_law_changes" (sp_law_changes K) := by
  refine D.ok sc_law_changes (fun vs H Q E h => ?_) fun cdv A outer s H vs Q E hr h => ?_
  · obtain ⟨x, M, G, j, ⟨rfl, _⟩, _⟩ := h; rfl
  obtain ⟨⟨d, a, kv, as, ops, n⟩, M, G, j, ⟨rfl, p⟩, k⟩ := h
  dsimp only at p k
  have dl := p.dl
  obtain ⟨ha, hops, h1, h6⟩ := dl
  refine ⟨_, (pss_cons (ps_set (i := 2) sc_law_changes.nd rfl (Or.inr rfl) (pe_cal c_law_execute hr (by first | decide | omega) (by rfl) (pa_cons (pv 0) (pa_cons (pv 1) pa_nil))))
(pss_cons (ps_if (pt_cmpR (op_uEqK (K := K) rfl hr) (pe_ix (ix_uK (K := K) rfl) (pv 2) pe_int (fun _ _ => rfl)) pe_str (nomark _))
(pss_one (ps_ret (pe_lst pa_nil)))
pss_nil)
(pss_cons (ps_set (i := 3) sc_law_changes.nd rfl (Or.inl rfl) (pe_callB (cr_sortedSet rfl) (by rfl) b_sorted bt_sorted (pa_cons (pe_callTy (call_setC rfl) (by rfl) b_set bt_set (pa_cons (pe_lc (own := [("op", 5)]) (by rfl) sc_law_changes.nd (pi_list (pv 1)) (blkOk_by (own := [("op", 5)]) (N := n_law_changes) (sc := defScope s_law_changes) (by decide +kernel)) (fun _ _ _ _ _ => pg_name (i := 5) sc_law_changes.nd rfl (Or.inl rfl)) (fun _ _ _ _ _ => pts_one (PW.pt (pw_or (pt_cmpR (op_uEqK (K := K) rfl hr) (pe_ix (ix_uK (K := K) rfl) (pv 5) pe_int (fun _ _ => rfl)) pe_str (nomark _)) (pw_or1 (pt_cmpR (op_uEqK (K := K) rfl hr) (pe_ix (ix_uK (K := K) rfl) (pv 5) pe_int (fun _ _ => rfl)) pe_str (nomark _)))))) (fun _ _ _ _ _ => (pe_ix (ix_uK (K := K) rfl) (pv 5) pe_int (fun _ _ => rfl)))) pa_nil)) pa_nil)))
(pss_one (ps_ret (pe_lc (own := [("key", 4)]) (by rfl) sc_law_changes.nd (pi_list (pv 3)) (blkOk_by (own := [("key", 4)]) (N := n_law_changes) (sc := defScope s_law_changes) (by decide +kernel)) (fun _ _ _ _ _ => pg_name (i := 4) sc_law_changes.nd rfl (Or.inl rfl)) (fun _ _ _ _ _ => pts_nil) (fun _ _ _ _ _ => (pe_tup (pa_cons (pv 4) (pa_cons (pe_dget1 (hu_of hr) (pe_ix (ix_uK (K := K) rfl) (pv 2) pe_int (fun _ _ => rfl)) (pv 4) ⟨by rfl, by rfl, by rfl, by rfl⟩) pa_nil)))))))))), ?_⟩
  walk_at "start"
  refine use_law_execute j p fun t R D1 M1 G1 H1 j1 e1 ht x1 => ?_
  obtain ⟨ws, kv', G2, j2, e2, hR, hD, hres, ok, rep⟩ := x1.seal j1
  have E2 := e1.trans e2
  have ht2 := e2 _ _ ht
  walk_at "go"
  refine w_ixL j2 (sl_of ht2) (by rfl) ?_
  walk_at "go"
  rcases out_two (look kv) ops with ho | ho
  · rw [ho]
    refine w_eqS rfl ?_
    refine w_bl (w_dT rfl ?_)
    walk_at "go"
    refine w_new j2 (Nat.zero_le _) fun u G3 H3 j3 e3 hu _ => ?_
    exact k _ _ _ _ j3 (E2.trans e3) ⟨.inl ⟨ho, .lst (sl_of hu) .nil⟩, rfl⟩
  · rw [ho]
    refine w_eqS rfl ?_
    refine w_bl (w_dF (by decide +kernel) ?_)
    walk_at "go"
    have fml : (ops.filterMap setK).length ≤ 6 := Nat.le_trans (List.length_filterMap_le _ _) h6
    refine w_lcl j2 (fun L i acc M4 G4 => Ex G2 G4 ∧ Ag L M M4 ∧ M L = none ∧ acc = ((ops.take i).filterMap setK).map V.int) (sl_of (E2 _ _ ha)) ?_ (fun _ _ _ _ _ h => h.1) (fun _ => rfl) ?_ ?_
    · exact fun L nM nG => ⟨Same.refl _, Ag.upd, nM, rfl⟩
    · rintro L i x acc M4 G4 H4 R hi j4 hL ⟨e4, ag, nM, rfl⟩ hR
      obtain ⟨u, op, rfl, hu, hop, hat⟩ := (hops.ex (E2.trans e4)).get hi
      have hat0 := hat.1
      have hil : i < 6 := by have := (List.getElem?_eq_some_iff.mp hop).1; omega
      have tk1 := take_p hop
      have flen : ((ops.take i).filterMap setK).length ≤ 6 := Nat.le_trans (List.length_filterMap_le _ _) (by rw [List.length_take]; omega)
      have skip : setK op = none → SkipL L (((ops.take i).filterMap setK).map V.int) (fun acc M4 G4 => Ex G2 G4 ∧ Ag L M M4 ∧ M L = none ∧ acc = ((ops.take (i + 1)).filterMap setK).map V.int) H4 := fun h =>
        ⟨M4, G4, j4, hL, e4, ag, nM, by rw [tk1, fm_snoc, h, List.append_nil]⟩
      have take : ∀ ky, setK op = some ky → ∃ acc, H4 L = some (.lst acc) ∧ acc.length < sizeLine ∧ LcI (fun L i acc M4 G4 => Ex G2 G4 ∧ Ag L M M4 ∧ M L = none ∧ acc = ((ops.take i).filterMap setK).map V.int) L (i + 1) (upd H4 L (.lst (acc ++ [V.int ky]))) := fun ky h =>
        StepL.go ⟨M4, G4, j4, hL, by rw [List.length_map]; exact sz_lt (by omega), e4, ag.trans Ag.upd, nM, by rw [tk1, fm_snoc, h, List.map_append]; rfl⟩
      walk_at "gx"
      cases op with
      | get ky => walk_at "gx"; exact hR _ _ (w_F (skip rfl))
      | need ky v => walk_at "gx"; exact hR _ _ (w_F (skip rfl))
      | scan lo hi => walk_at "gx"; exact hR _ _ (w_F (skip rfl))
      | put ky v =>
        walk_at "gx"
        refine hR _ _ (w_T ?_)
        walk_at "gx"
        exact take ky rfl
      | add ky v =>
        walk_at "gx"
        refine hR _ _ (w_T ?_)
        walk_at "gx"
        exact take ky rfl
    · rintro L acc M4 G4 H4 j4 hL ⟨e4, ag, nM, rfl⟩
      rw [List.length_map, hops.1, List.take_length] at hL
      have j4s := j4.seal hL
      rw [ag.del_eq nM] at j4s
      have e4s := Ex.new (o := .lst ((ops.filterMap setK).map V.int)) (j4.out hL)
      walk_at "go"
      refine w_setC j4s (sl_of upd_same) (by omega) fun sa S m G5 H5 hS hm j5 e5 hsa => ?_
      replace e4 := (e4.trans e4s).trans e5
      clear e5 e4s j4s j4 hL ag nM
      walk_at "go"
      refine w_sortS j5 (.inr hsa) (by omega) fun ks hk1 hk2 hk3 => ?_
      refine w_new j5 (by have := sz_le (n := m) (by omega); exact this) fun ka G6 H6 j6 e6 hka _ => ?_
      walk_at "go"
      have hD6 : G6 D1 = some (.dK (tk kv')) := e6 _ _ (e4 _ _ hD)
      have hem : look kv' = endM (look kv) ops := funext rep
      have E6 := (E2.trans e4).trans e6
      refine w_lcl j6 (fun L i acc M7 G7 => Ex G6 G7 ∧ Ag L M M7 ∧ M L = none ∧ ∃ ts : List Addr, acc = ts.map V.ref ∧ ts.length = i ∧ DpAll K G7 (ts.map V.ref) ((ks.take i).map (chD (endM (look kv) ops)))) (sl_of hka) ?_ (fun _ _ _ _ _ h => h.1) (fun _ => rfl) ?_ ?_
      · exact fun L nM nG => ⟨Same.refl _, Ag.upd, nM, [], rfl, rfl, .nil⟩
      · rintro L i x acc M7 G7 H7 R hi j7 hL ⟨e7, ag7, nM7, ts, rfl, hts, hdp⟩ hR
        rw [List.getElem?_map] at hi
        cases hc : ks[i]? with
        | none => rw [hc] at hi; cases hi
        | some c =>
          rw [hc] at hi
          cases hi
          have hil : i < 6 := by have := (List.getElem?_eq_some_iff.mp hc).1; omega
          refine w_yes (hR true _ (w_T ?_))
          walk_at "gx"
          refine w_ixL j7 (sl_of (e7 _ _ (e6 _ _ (e4 _ _ ht2)))) (by rfl) ?_
          refine w_getA j7 (.inr (.inl (e7 _ _ hD6))) ?_
          walk_at "gx"
          refine w_getE j7 (.inr (.inl (e7 _ _ hD6))) ?_
          rw [tk_look, ov_get, hem]
          walk_at "gx"
          refine w_new j7 (by show 2 ≤ sizeLine; decide) fun t8 G8 H8 j8 e8 ht8 _ => ?_
          refine StepL.go ⟨M7, G8, j8, hL, by rw [List.length_map, hts]; exact sz_lt (by omega), e7.trans e8, ag7.trans Ag.upd, nM7, ts ++ [t8], ref_snoc ts t8, by rw [List.length_append, hts]; rfl, ?_⟩
          rw [take_p hc, List.map_append, List.map_append]
          exact dpAll_snoc (dpAll_mono e8 hdp) (dp_ch ht8)
      · rintro L acc M7 G7 H7 j7 hL ⟨e7, ag7, nM7, ts, rfl, hts, hdp⟩
        rw [List.length_map, List.take_length] at hdp
        have e8 := Ex.new (o := .lst (ts.map V.ref)) (j7.out hL)
        exact k _ _ _ _ (j7.seal hL) ((E6.trans e7).trans e8) ⟨.inr ⟨ho, ks, hk1, fun k => (hk2 k).trans (hS k), by omega, .lst (sl_of upd_same) (dpAll_mono e8 hdp)⟩, ag7.del_eq nM7⟩
/-! ### _law_same_table -/
abbrev s_law_same_table : Stmt := top 19
abbrev n_law_same_table : List Str := ["actual", "due", "key"]
theorem sc_law_same_table : FnScope n_law_same_table ["actual", "due"] (defScope s_law_same_table) := ⟨rfl, rfl, rfl, by decide +kernel, rfl, by decide +kernel, by decide +kernel⟩
def sp_law_same_table (K : PySem.W.Frag) : Sp := Sg (α := Addr × Addr × List (Int × Int) × List (Int × Int)) (fun x vs M G => vs = [.ref x.1, .ref x.2.1] ∧ (M x.1 = some (.dK (tk x.2.2.1)) ∨ G x.1 = some (.dK (tk x.2.2.1))) ∧ (M x.2.1 = some (.dK (tk x.2.2.2)) ∨ G x.2.1 = some (.dK (tk x.2.2.2))) ∧
    x.1 ≠ x.2.1 ∧ TabOk x.2.2.1 63 ∧ TabOk x.2.2.2 63 ∧ look x.2.2.1 = look x.2.2.2) (fun x M _ v M' _ => v = .bl true ∧ M' = M)
theorem same_len {x y : List (Int × Int)} {n m : Nat} (hx : TabOk x n) (hy : TabOk y m) (h : look x = look y) : x.length = y.length := by
  have go : ∀ {x y : List (Int × Int)}, (x.map (·.1)).Nodup → look x = look y → x.length ≤ y.length := fun {x y} hn h => by
    have hs : ∀ k ∈ x.map (·.1), k ∈ y.map (·.1) := fun k hk => by
      cases e : look y k with
      | none => exact absurd hk (look_none.mp (by rw [h]; exact e))
      | some v => exact List.mem_map_of_mem (f := (·.1)) (look_mem e)
    have := List.Nodup.length_le_of_subset hn hs
    rwa [List.length_map, List.length_map] at this
  exact Nat.le_antisymm (go hx.nd h) (go hy.nd h.symm)
theorem use_same {K : PySem.W.Frag} {M G H : Hp} {a b : Addr} {x y : List (Int × Int)} {Q : VK} {E : XK} (j : J M G H) (h1 : M a = some (.dK (tk x)) ∨ G a = some (.dK (tk x))) (h2 : M b = some (.dK (tk y)) ∨ G b = some (.dK (tk y))) (hne : a ≠ b) (hx : TabOk x 63) (hy : TabOk y 63) (h : look x = look y)
    (k : ∀ G' H', J M G' H' → Ex G G' → Q (.bl true) H') : sp_law_same_table K ([.ref a, .ref b] ++ []) H Q E :=
  w_sg (a, b, x, y) j ⟨rfl, h1, h2, hne, hx, hy, h⟩ fun v M' G' H' j' e ⟨ev, em⟩ => by subst ev em; exact k G' H' j' e
theorem ok_law_same_table {P : Program} {w : World} {K : PySem.W.Frag} {mg : Str → Option Value} {base : Heap} {f : Addr} {fd : FuncData} (D : Dn K mg "_law_same_table" s_law_same_table ["actual", "due"] f fd)
    (b_isinstance : mg "isinstance" = none) (b_dict : mg "dict" = none) (b_len : mg "len" = none) (c_law_equal : Cal P w K mg base CX0 1 "_law_equal" (spEq K 0)) : Cal P w K mg base CX0 2 "_law_same_table" (sp_law_same_table K) := by
  refine D.ok sc_law_same_table (fun vs H Q E h => ?_) fun cdv A outer s H vs Q E hr h => ?_
  · obtain ⟨x, M, G, j, ⟨rfl, _⟩, _⟩ := h; rfl
  obtain ⟨⟨a, b, x, y⟩, M, G, j, ⟨rfl, ha, hb, hne, hx, hy, hl⟩, k⟩ := h
  dsimp only at ha hb hne hx hy hl k
  refine ⟨_, (pss_cons (ps_if (PW.pt (pw_or (pt_not (pt_val (pe_callB (call_isiK' (K := K) rfl) (by rfl) b_isinstance bt_isinstance (pa_cons (pv 0) (pa_cons (pe_bltn (v := .ty "dict") (by rfl) b_dict bt_dict rfl) pa_nil))))) (pw_or1 (pt_cmpR (op_uNeK (K := K) rfl hr) (pe_callB (call_uLenK (K := K) rfl) (by rfl) b_len PySem.boot_len (pa_cons (pv 0) pa_nil)) (pe_callB (call_uLenK (K := K) rfl) (by rfl) b_len PySem.boot_len (pa_cons (pv 1) pa_nil)) (nomark _)))))
(pss_one (ps_ret pe_bl))
pss_nil)
(pss_cons (ps_lock (ps_for PassesOwn.never rfl (pi_keys (pv 1)) (pg_name (i := 2) sc_law_same_table.nd rfl (Or.inl rfl))
(pss_one (ps_if (PW.pt (pw_or (pt_cmp (pc_dnotin (hu_of hr) (pv 2) (pv 0))) (pw_or1 (pt_not (pt_val (pe_cal c_law_equal hr (by first | decide | omega) (by rfl) (pa_cons (pe_dget (hu_of hr) (pv 0) (pv 2) (fun _ _ => rfl)) (pa_cons (pe_dget (hu_of hr) (pv 1) (pv 2) (fun _ _ => rfl)) pa_nil))))))))
(pss_one (ps_ret pe_bl))
pss_nil))))
(pss_one (ps_ret pe_bl)))), ?_⟩
  walk_at "start"
  have rda : Rd H a (.dK (tk x)) := .inl (ha.elim (j.m _ _) (j.g _ _))
  refine w_isi true (ty_D rda) (by rfl) ?_
  walk_at "go"
  refine w_lenD j ha ?_
  walk_at "go"
  refine w_lenD j hb ?_
  walk_at "go"
  rw [tk_len, tk_len, same_len hx hy hl, decide_eq_true rfl]
  walk_at "go"
  refine w_forKeys j hb rfl (fun i σ => ∃ z, σ = [some (.ref a), some (.ref b), z]) ⟨_, rfl⟩ ?_ ?_
  · rintro od i k v σ1 G1 H1 hi j1 e1 ⟨z, rfl⟩
    obtain ⟨⟨ky, val⟩, hky, ek⟩ : ∃ p : Int × Int, y[i]? = some p ∧ (k, v) = ((Sum.inl p.1 : Key), V.int p.2) := by
      unfold tk at hi
      rw [List.getElem?_map] at hi
      cases h : y[i]? with
      | none => rw [h] at hi; cases hi
      | some p => rw [h] at hi; exact ⟨p, rfl, (Option.some.inj hi).symm⟩
    cases ek
    have hd : Hd (del M b) G1 a (tk x) := by
      rcases ha with ha | ha
      · exact .inl (by rw [del_ne hne]; exact ha)
      · exact .inr (.inl (e1 _ _ (by rw [upd_ne hne]; exact ha)))
    have hdb : Hd (del M b) G1 b (tk y) := .inr (.inr ⟨od, e1 _ _ upd_same⟩)
    have hly : look y ky = some val := mem_look hy.nd (List.mem_of_getElem? hky)
    have hlx : look x ky = some val := by rw [hl]; exact hly
    refine w_gName ?_
    walk_at "go"
    refine w_notinX j1 hd ?_
    rw [tk_look, hlx]
    walk_at "go"
    refine w_nt ?_
    walk_at "go"
    refine w_getX j1 hd (v := .int val) (by rw [tk_look, hlx]; rfl) ?_
    walk_at "go"
    refine w_getX j1 hdb (v := .int val) (by rw [tk_look, hly]; rfl) ?_
    walk_at "go"
    refine use_eq j1 (.int val) (.int val) trivial fun G2 H2 j2 e2 => ?_
    walk_at "go"
    exact ⟨G2, j2, e1.trans e2, _, rfl⟩
  · rintro σ' G' H' j' e' ⟨z, rfl⟩
    walk_at "go"
    exact k _ _ _ _ j' e' ⟨rfl, rfl⟩
/-! ### law -/
abbrev s_law : Stmt := top 31
abbrev n_law : List Str := ["script", "draws", "turn", "keys", "table", "ops", "given", "handed"]
theorem sc_law : FnScope n_law ["script"] (defScope s_law) := ⟨rfl, rfl, rfl, by decide +kernel, rfl, by decide +kernel, by decide +kernel⟩
theorem ch_both {K : PySem.W.Frag} {G : Hp} {kv : List (Int × Int)} {ops : List Op} {v1 v2 : V} (h1 : ChEnd K kv ops v1 G) (h2 : ChEnd K kv ops v2 G) : ∃ d, Dp K G v1 d ∧ Dp K G v2 d ∧ okD 2 d := by
  rcases h1 with ⟨o1, d1⟩ | ⟨o1, ks1, p1, m1, l1, d1⟩
  · rcases h2 with ⟨o2, d2⟩ | ⟨o2, _⟩
    · exact ⟨_, d1, d2, Nat.zero_le _, fun x h => nomatch h⟩
    · rw [o1] at o2; exact absurd o2 (by decide +kernel)
  · rcases h2 with ⟨o2, d2⟩ | ⟨o2, ks2, p2, m2, l2, d2⟩
    · rw [o1] at o2; exact absurd o2 (by decide +kernel)
    · have e := strict_eq p1 p2 fun k => (m1 k).trans (m2 k).symm
      subst e
      exact ⟨_, d1, d2, okD_ch l1⟩
theorem ChEnd.ex {K : PySem.W.Frag} {G G' : Hp} {kv : List (Int × Int)} {ops : List Op} {v : V} (h : ChEnd K kv ops v G) (e : Ex G G') : ChEnd K kv ops v G' := by
  rcases h with ⟨o1, d1⟩ | ⟨o1, ks1, p1, m1, l1, d1⟩
  · exact .inl ⟨o1, dp_mono e d1⟩
  · exact .inr ⟨o1, ks1, p1, m1, l1, dp_mono e d1⟩
theorem ok_law {P : Program} {w : World} {K : PySem.W.Frag} {mg : Str → Option Value} {base : Heap} {f : Addr} {fd : FuncData} (D : Dn K mg "law" s_law ["script"] f fd)
    (b_range : mg "range" = none) (b_dict : mg "dict" = none) (b_list : mg "list" = none)
    (c_law_numbers : Cal P w K mg base CX0 2 "_law_numbers" (sp_law_numbers K)) (c_law_keys : Cal P w K mg base CX0 3 "_law_keys" (sp_law_keys K)) (c_law_table : Cal P w K mg base CX0 4 "_law_table" (sp_law_table K))
    (c_law_deal : Cal P w K mg base CX0 6 "_law_deal" (sp_law_deal K)) (c_spans : Cal P w K mg base CX0 2 "spans" (sp_spans K)) (c_law_spans : Cal P w K mg base CX0 1 "_law_spans" (sp_law_spans K))
    (c_changes : Cal P w K mg base CX0 5 "changes" (sp_changes K)) (c_law_changes : Cal P w K mg base CX0 3 "_law_changes" (sp_law_changes K))
    (c_law_equal : Cal P w K mg base CX0 5 "_law_equal" (spEq K 2)) (c_law_same_table : Cal P w K mg base CX0 2 "_law_same_table" (sp_law_same_table K)) : FnOk P w K mg base CX0 8 f fd ["script"] (sp_law K) := by
  refine D.fn.ok sc_law (fun vs H Q E h => ?_) fun cdv A outer s H vs Q E hr h => ?_
  · obtain ⟨a, ns, rfl, _⟩ := h; rfl
  obtain ⟨a, ns, rfl, ha, hl, k⟩ := h
  have j := J.start H
  refine ⟨_, (pss_cons (ps_set (i := 1) sc_law.nd rfl (Or.inl rfl) (pe_lst (pa_cons (pe_cal c_law_numbers hr (by first | decide | omega) (by rfl) (pa_cons (pv 0) pa_nil)) (pa_cons pe_int pa_nil))))
(pss_cons (ps_for PassesOwn.never rfl (pi_range1 (by rfl) b_range (pa_cons pe_int pa_nil)) (pg_name (i := 2) sc_law.nd rfl (Or.inl rfl))
(pss_cons (ps_set (i := 3) sc_law.nd rfl (Or.inl rfl) (pe_cal c_law_keys hr (by first | decide | omega) (by rfl) (pa_cons (pv 1) pa_nil)))
(pss_cons (ps_set (i := 4) sc_law.nd rfl (Or.inl rfl) (pe_cal c_law_table hr (by first | decide | omega) (by rfl) (pa_cons (pv 1) (pa_cons (pv 3) pa_nil))))
(pss_cons (ps_set (i := 5) sc_law.nd rfl (Or.inl rfl) (pe_cal c_law_deal hr (by first | decide | omega) (by rfl) (pa_cons (pv 1) (pa_cons (pv 3) pa_nil))))
(pss_cons (ps_set (i := 6) sc_law.nd rfl (Or.inl rfl) (pe_callTy call_dictC (by rfl) b_dict bt_dict (pa_cons (pv 4) pa_nil)))
(pss_cons (ps_set (i := 7) sc_law.nd rfl (Or.inl rfl) (pe_callTy (call_listC (K := K) rfl) (by rfl) b_list bt_list (pa_cons (pv 5) pa_nil)))
(pss_cons (ps_if (pt_not (pt_val (pe_cal c_law_equal hr (by first | decide | omega) (by rfl) (pa_cons (pe_cal c_spans hr (by first | decide | omega) (by rfl) (pa_cons (pv 7) pa_nil)) (pa_cons (pe_cal c_law_spans hr (by first | decide | omega) (by rfl) (pa_cons (pv 5) pa_nil)) pa_nil)))))
(pss_one (ps_ret pe_bl))
pss_nil)
(pss_cons (ps_if (pt_not (pt_val (pe_cal c_law_equal hr (by first | decide | omega) (by rfl) (pa_cons (pe_cal c_changes hr (by first | decide | omega) (by rfl) (pa_cons (pv 6) (pa_cons (pv 7) pa_nil))) (pa_cons (pe_cal c_law_changes hr (by first | decide | omega) (by rfl) (pa_cons (pv 4) (pa_cons (pv 5) pa_nil))) pa_nil)))))
(pss_one (ps_ret pe_bl))
pss_nil)
(pss_one (ps_if (PW.pt (pw_or (pt_not (pt_val (pe_cal c_law_same_table hr (by first | decide | omega) (by rfl) (pa_cons (pv 6) (pa_cons (pv 4) pa_nil))))) (pw_or1 (pt_not (pt_val (pe_cal c_law_equal hr (by first | decide | omega) (by rfl) (pa_cons (pv 7) (pa_cons (pv 5) pa_nil))))))))
(pss_one (ps_ret pe_bl))
pss_nil))))))))))
(pss_one (ps_ret pe_bl)))), ?_⟩
  walk_at "start"
  refine w_sg (a, ns) j ⟨rfl, ha, hl⟩ fun v M1 G1 H1 j1 e1 ⟨q, nums, ev, hq, hn, em⟩ => ?_
  subst ev em
  walk_at "go"
  refine w_newM j1 (by show 2 ≤ sizeLine; decide) fun p H2 j2 nM nG => ?_
  walk_at "go"
  have d2 : Dr K (upd (fun _ => none) p (.lst [.ref q, .int 0])) G1 p := ⟨q, nums, 0, upd_same, sl_of hq, hn, Int.le_refl _⟩
  refine w_rng (fun i σ H => ∃ M G x1 x2 x3 x4 x5 x6, J M G H ∧ Dr K M G p ∧ σ = [some (.ref a), some (.ref p), x1, x2, x3, x4, x5, x6]) ⟨_, G1, _, _, _, _, _, _, j2, d2, rfl⟩ ?_ ?_
  · rintro i σ H _ ⟨M, G, x1, x2, x3, x4, x5, x6, j, d, rfl⟩
    walk_at "go"
    refine use_dg j d fun v M1 G1 H1 ⟨t, ks, ev, hk⟩ j1 e1 d1 a1 => ?_
    subst ev
    walk_at "go"
    refine use_dk j1 d1 hk fun v M2 G2 H2 ⟨tb, kv, ev, htb, ok⟩ j2 e2 d2 a2 => ?_
    subst ev
    walk_at "go"
    refine use_dk j2 d2 (hk.ex e2) fun v M3 G3 H3 ⟨ol, as, ops, ev, dl⟩ j3 e3 d3 a3 => ?_
    subst ev
    walk_at "go"
    have tb3 := e3 _ _ htb
    refine w_dictC j3 (.inr (.inl tb3)) (w_new j3 (Nat.zero_le _) fun gv G4 H4 j4 e4 hgv ngv => ?_)
    walk_at "go"
    have dl4 := dl.ex e4
    refine w_listC (.inl (sl_of (j4.g _ _ dl4.1))) (w_new j4 (Nat.zero_le _) fun hd G5 H5 j5 e5 hhd _ => ?_)
    walk_at "go"
    have dl5 := dl4.ex e5
    have dh5 : IsDeal G5 hd as ops := ⟨hhd, dl5.2⟩
    have tb5 := e5 _ _ (e4 _ _ tb3)
    have gv5 := e5 _ _ hgv
    have ngt : gv ≠ tb := fun z => by subst z; rw [tb3] at ngv; cases ngv
    have l6 := dl.2.2.2
    refine w_sg (hd, as, ops) j5 ⟨rfl, dh5⟩ fun v M6 G6 H6 j6 e6 ⟨F1, us1, ev, hF1, hp1, em⟩ => ?_
    subst ev em
    walk_at "go"
    refine w_sg (ol, as, ops) j6 ⟨rfl, dl5.ex e6⟩ fun v M7 G7 H7 j7 e7 ⟨F2, us2, ev, hF2, hp2, em⟩ => ?_
    subst ev em
    walk_at "go"
    have s6 : (spansM ops).length ≤ 6 := Nat.le_trans (spansM_len ops) l6
    refine use_eq (n := 2) j7 (.lst (sl_of (e7 _ _ hF1)) (hp1.ex e7).dp) (.lst (sl_of hF2) hp2.dp) (okD_pairs s6) fun G8 H8 j8 e8 => ?_
    have E8 : Ex G5 G8 := (e6.trans e7).trans e8
    walk_at "go"
    refine w_sg (gv, hd, kv, as, ops, _) j8 ⟨rfl, .inr (.inl (E8 _ _ gv5)), ok, by show (17 : Nat) ≤ 57; decide, dh5.ex E8⟩ fun v1 M9 G9 H9 j9 e9 ⟨c1, em⟩ => ?_
    subst em
    walk_at "go"
    have E9 := E8.trans e9
    refine w_sg (tb, ol, kv, as, ops, _) j9 ⟨rfl, .inr (.inl (E9 _ _ tb5)), ok, by show (17 : Nat) ≤ 57; decide, dl5.ex E9⟩ fun v2 M10 G10 H10 j10 e10 ⟨c2, em⟩ => ?_
    subst em
    walk_at "go"
    have E10 := E9.trans e10
    obtain ⟨dd, q1, q2, q3⟩ := ch_both (c1.ex e10) c2
    refine use_eq (n := 2) j10 q1 q2 q3 fun G11 H11 j11 e11 => ?_
    have E11 := E10.trans e11
    walk_at "go"
    refine use_same j11 (.inr (E11 _ _ gv5)) (.inr (E11 _ _ tb5)) ngt (ok.mono (by decide)) (ok.mono (by decide)) rfl fun G12 H12 j12 e12 => ?_
    have E12 := E11.trans e12
    walk_at "go"
    refine use_eq (n := 2) j12 (dp_ops (E12 _ _ hhd) ((dl5.ex E12).2.1)) (dp_ops ((dl5.ex E12).1) ((dl5.ex E12).2.1)) (okD_ops 0 l6) fun G13 H13 j13 e13 => ?_
    walk_at "go"
    exact ⟨_, G13, _, _, _, _, _, _, j13, d3.ex (((e4.trans e5).trans E12).trans e13), rfl⟩
  · rintro σ H ⟨M, G, x1, x2, x3, x4, x5, x6, j, d, rfl⟩
    walk_at "go"
    exact k H
/-! ### the end -/
set_option maxHeartbeats 16000000 in
theorem all_mk {l : PySem.W.OpenLaw} {w : World} {K : PySem.W.Frag} {h : Heap} {mg : Str → Option Value} {fa : Addr} (X : K.In h) (G : h.Ns mainGlobals mg) (hfa : mg "law" = some (.ref fa))
    {f0 : Addr} {od0 an0 : Option Addr} {sl0 : Array (Option Value)} {oc0 kV0 dc0 pm0 cd0 ct0 : Value}
    {f1 : Addr} {od1 an1 : Option Addr} {sl1 : Array (Option Value)} {oc1 kV1 dc1 pm1 cd1 ct1 : Value}
    {f2 : Addr} {od2 an2 : Option Addr} {sl2 : Array (Option Value)} {oc2 kV2 dc2 pm2 cd2 ct2 : Value}
    {f3 : Addr} {od3 an3 : Option Addr} {sl3 : Array (Option Value)} {oc3 kV3 dc3 pm3 cd3 ct3 : Value}
    {f4 : Addr} {od4 an4 : Option Addr} {sl4 : Array (Option Value)} {oc4 kV4 dc4 pm4 cd4 ct4 : Value}
    {f5 : Addr} {od5 an5 : Option Addr} {sl5 : Array (Option Value)} {oc5 kV5 dc5 pm5 cd5 ct5 : Value}
    {f6 : Addr} {od6 an6 : Option Addr} {sl6 : Array (Option Value)} {oc6 kV6 dc6 pm6 cd6 ct6 : Value}
    {f7 : Addr} {od7 an7 : Option Addr} {sl7 : Array (Option Value)} {oc7 kV7 dc7 pm7 cd7 ct7 : Value}
    {f8 : Addr} {od8 an8 : Option Addr} {sl8 : Array (Option Value)} {oc8 kV8 dc8 pm8 cd8 ct8 : Value}
    {f9 : Addr} {od9 an9 : Option Addr} {sl9 : Array (Option Value)} {oc9 kV9 dc9 pm9 cd9 ct9 : Value}
    {f10 : Addr} {od10 an10 : Option Addr} {sl10 : Array (Option Value)} {oc10 kV10 dc10 pm10 cd10 ct10 : Value}
    {f11 : Addr} {od11 an11 : Option Addr} {sl11 : Array (Option Value)} {oc11 kV11 dc11 pm11 cd11 ct11 : Value}
    {f12 : Addr} {od12 an12 : Option Addr} {sl12 : Array (Option Value)} {oc12 kV12 dc12 pm12 cd12 ct12 : Value}
    {f13 : Addr} {od13 an13 : Option Addr} {sl13 : Array (Option Value)} {oc13 kV13 dc13 pm13 cd13 ct13 : Value}
    {f14 : Addr} {od14 an14 : Option Addr} {sl14 : Array (Option Value)} {oc14 kV14 dc14 pm14 cd14 ct14 : Value}
    {f15 : Addr} {od15 an15 : Option Addr} {sl15 : Array (Option Value)} {oc15 kV15 dc15 pm15 cd15 ct15 : Value}
    {f16 : Addr} {od16 an16 : Option Addr} {sl16 : Array (Option Value)} {oc16 kV16 dc16 pm16 cd16 ct16 : Value}
    {f17 : Addr} {od17 an17 : Option Addr} {sl17 : Array (Option Value)} {oc17 kV17 dc17 pm17 cd17 ct17 : Value}
    {f18 : Addr} {od18 an18 : Option Addr} {sl18 : Array (Option Value)} {oc18 kV18 dc18 pm18 cd18 ct18 : Value}
    {f19 : Addr} {od19 an19 : Option Addr} {sl19 : Array (Option Value)} {oc19 kV19 dc19 pm19 cd19 ct19 : Value}
    {f20 : Addr} {od20 an20 : Option Addr} {sl20 : Array (Option Value)} {oc20 kV20 dc20 pm20 cd20 ct20 : Value}
    {f21 : Addr} {od21 an21 : Option Addr} {sl21 : Array (Option Value)} {oc21 kV21 dc21 pm21 cd21 ct21 : Value}
    {f22 : Addr} {od22 an22 : Option Addr} {sl22 : Array (Option Value)} {oc22 kV22 dc22 pm22 cd22 ct22 : Value}
    {f23 : Addr} {od23 an23 : Option Addr} {sl23 : Array (Option Value)} {oc23 kV23 dc23 pm23 cd23 ct23 : Value}
    {f24 : Addr} {od24 an24 : Option Addr} {sl24 : Array (Option Value)} {oc24 kV24 dc24 pm24 cd24 ct24 : Value}
    {f25 : Addr} {od25 an25 : Option Addr} {sl25 : Array (Option Value)} {oc25 kV25 dc25 pm25 cd25 ct25 : Value}
    {f26 : Addr} {od26 an26 : Option Addr} {sl26 : Array (Option Value)} {oc26 kV26 dc26 pm26 cd26 ct26 : Value}
    {t1 : Tok}
    {t2 : Tok}
    {t3 : Tok}
    {e_SETTING : Addr} {en_SETTING : Nat} {es_SETTING : Array (Option Value)}
    (a0 : PySem.W.nsIn K mainGlobals "_law_mixed" = some (some (.ref f0)))
    (l0 : K.lookup f0 = some ⟨oc0, od0, .func (PySem.W.fnOf "_law_mixed" "_law_mixed" (defArgs s_law_mixed) (defBody s_law_mixed) (defScope s_law_mixed) .none kV0 dc0 pm0 an0 cd0 ct0), sl0⟩)
    (c0 : PySem.W.codeIn K cd0 "_law_mixed" = true) (k0 : PySem.W.keepIn K (.ref f0) = true)
    (a1 : PySem.W.nsIn K mainGlobals "_law_numbers" = some (some (.ref f1)))
    (l1 : K.lookup f1 = some ⟨oc1, od1, .func (PySem.W.fnOf "_law_numbers" "_law_numbers" (defArgs s_law_numbers) (defBody s_law_numbers) (defScope s_law_numbers) .none kV1 dc1 pm1 an1 cd1 ct1), sl1⟩)
    (c1 : PySem.W.codeIn K cd1 "_law_numbers" = true) (k1 : PySem.W.keepIn K (.ref f1) = true)
    (a2 : PySem.W.nsIn K mainGlobals "_law_draw" = some (some (.ref f2)))
    (l2 : K.lookup f2 = some ⟨oc2, od2, .func (PySem.W.fnOf "_law_draw" "_law_draw" (defArgs s_law_draw) (defBody s_law_draw) (defScope s_law_draw) .none kV2 dc2 pm2 an2 cd2 ct2), sl2⟩)
    (c2 : PySem.W.codeIn K cd2 "_law_draw" = true) (k2 : PySem.W.keepIn K (.ref f2) = true)
    (a3 : PySem.W.nsIn K mainGlobals "_law_keys" = some (some (.ref f3)))
    (l3 : K.lookup f3 = some ⟨oc3, od3, .func (PySem.W.fnOf "_law_keys" "_law_keys" (defArgs s_law_keys) (defBody s_law_keys) (defScope s_law_keys) .none kV3 dc3 pm3 an3 cd3 ct3), sl3⟩)
    (c3 : PySem.W.codeIn K cd3 "_law_keys" = true) (k3 : PySem.W.keepIn K (.ref f3) = true)
    (a4 : PySem.W.nsIn K mainGlobals "_law_value" = some (some (.ref f4)))
    (l4 : K.lookup f4 = some ⟨oc4, od4, .func (PySem.W.fnOf "_law_value" "_law_value" (defArgs s_law_value) (defBody s_law_value) (defScope s_law_value) .none kV4 dc4 pm4 an4 cd4 ct4), sl4⟩)
    (c4 : PySem.W.codeIn K cd4 "_law_value" = true) (k4 : PySem.W.keepIn K (.ref f4) = true)
    (a5 : PySem.W.nsIn K mainGlobals "_law_key" = some (some (.ref f5)))
    (l5 : K.lookup f5 = some ⟨oc5, od5, .func (PySem.W.fnOf "_law_key" "_law_key" (defArgs s_law_key) (defBody s_law_key) (defScope s_law_key) .none kV5 dc5 pm5 an5 cd5 ct5), sl5⟩)
    (c5 : PySem.W.codeIn K cd5 "_law_key" = true) (k5 : PySem.W.keepIn K (.ref f5) = true)
    (a6 : PySem.W.nsIn K mainGlobals "_law_table" = some (some (.ref f6)))
    (l6 : K.lookup f6 = some ⟨oc6, od6, .func (PySem.W.fnOf "_law_table" "_law_table" (defArgs s_law_table) (defBody s_law_table) (defScope s_law_table) .none kV6 dc6 pm6 an6 cd6 ct6), sl6⟩)
    (c6 : PySem.W.codeIn K cd6 "_law_table" = true) (k6 : PySem.W.keepIn K (.ref f6) = true)
    (a7 : PySem.W.nsIn K mainGlobals "_law_worth" = some (some (.ref f7)))
    (l7 : K.lookup f7 = some ⟨oc7, od7, .func (PySem.W.fnOf "_law_worth" "_law_worth" (defArgs s_law_worth) (defBody s_law_worth) (defScope s_law_worth) .none kV7 dc7 pm7 an7 cd7 ct7), sl7⟩)
    (c7 : PySem.W.codeIn K cd7 "_law_worth" = true) (k7 : PySem.W.keepIn K (.ref f7) = true)
    (a8 : PySem.W.nsIn K mainGlobals "_law_op" = some (some (.ref f8)))
    (l8 : K.lookup f8 = some ⟨oc8, od8, .func (PySem.W.fnOf "_law_op" "_law_op" (defArgs s_law_op) (defBody s_law_op) (defScope s_law_op) .none kV8 dc8 pm8 an8 cd8 ct8), sl8⟩)
    (c8 : PySem.W.codeIn K cd8 "_law_op" = true) (k8 : PySem.W.keepIn K (.ref f8) = true)
    (a9 : PySem.W.nsIn K mainGlobals "_law_deal" = some (some (.ref f9)))
    (l9 : K.lookup f9 = some ⟨oc9, od9, .func (PySem.W.fnOf "_law_deal" "_law_deal" (defArgs s_law_deal) (defBody s_law_deal) (defScope s_law_deal) .none kV9 dc9 pm9 an9 cd9 ct9), sl9⟩)
    (c9 : PySem.W.codeIn K cd9 "_law_deal" = true) (k9 : PySem.W.keepIn K (.ref f9) = true)
    (a10 : PySem.W.nsIn K mainGlobals "_law_all_equal" = some (some (.ref f10)))
    (l10 : K.lookup f10 = some ⟨oc10, od10, .func (PySem.W.fnOf "_law_all_equal" "_law_all_equal" (defArgs s_law_all_equal) (defBody s_law_all_equal) (defScope s_law_all_equal) .none kV10 dc10 pm10 an10 cd10 ct10), sl10⟩)
    (c10 : PySem.W.codeIn K cd10 "_law_all_equal" = true) (k10 : PySem.W.keepIn K (.ref f10) = true)
    (a11 : PySem.W.nsIn K mainGlobals "_law_equal" = some (some (.ref f11)))
    (l11 : K.lookup f11 = some ⟨oc11, od11, .func (PySem.W.fnOf "_law_equal" "_law_equal" (defArgs s_law_equal) (defBody s_law_equal) (defScope s_law_equal) .none kV11 dc11 pm11 an11 cd11 ct11), sl11⟩)
    (c11 : PySem.W.codeIn K cd11 "_law_equal" = true) (k11 : PySem.W.keepIn K (.ref f11) = true)
    (a12 : PySem.W.nsIn K mainGlobals "span_of" = some (some (.ref f12)))
    (l12 : K.lookup f12 = some ⟨oc12, od12, .func (PySem.W.fnOf "span_of" "span_of" (defArgs s_span_of) (defBody s_span_of) (defScope s_span_of) .none kV12 dc12 pm12 an12 cd12 ct12), sl12⟩)
    (c12 : PySem.W.codeIn K cd12 "span_of" = true) (k12 : PySem.W.keepIn K (.ref f12) = true)
    (a13 : PySem.W.nsIn K mainGlobals "spans" = some (some (.ref f13)))
    (l13 : K.lookup f13 = some ⟨oc13, od13, .func (PySem.W.fnOf "spans" "spans" (defArgs s_spans) (defBody s_spans) (defScope s_spans) .none kV13 dc13 pm13 an13 cd13 ct13), sl13⟩)
    (c13 : PySem.W.codeIn K cd13 "spans" = true) (k13 : PySem.W.keepIn K (.ref f13) = true)
    (a14 : PySem.W.nsIn K mainGlobals "_law_spans" = some (some (.ref f14)))
    (l14 : K.lookup f14 = some ⟨oc14, od14, .func (PySem.W.fnOf "_law_spans" "_law_spans" (defArgs s_law_spans) (defBody s_law_spans) (defScope s_law_spans) .none kV14 dc14 pm14 an14 cd14 ct14), sl14⟩)
    (c14 : PySem.W.codeIn K cd14 "_law_spans" = true) (k14 : PySem.W.keepIn K (.ref f14) = true)
    (a15 : PySem.W.nsIn K mainGlobals "is_plain_integer" = some (some (.ref f15)))
    (l15 : K.lookup f15 = some ⟨oc15, od15, .func (PySem.W.fnOf "is_plain_integer" "is_plain_integer" (defArgs s_is_plain_integer) (defBody s_is_plain_integer) (defScope s_is_plain_integer) .none kV15 dc15 pm15 an15 cd15 ct15), sl15⟩)
    (c15 : PySem.W.codeIn K cd15 "is_plain_integer" = true) (k15 : PySem.W.keepIn K (.ref f15) = true)
    (a16 : PySem.W.nsIn K mainGlobals "is_value" = some (some (.ref f16)))
    (l16 : K.lookup f16 = some ⟨oc16, od16, .func (PySem.W.fnOf "is_value" "is_value" (defArgs s_is_value) (defBody s_is_value) (defScope s_is_value) .none kV16 dc16 pm16 an16 cd16 ct16), sl16⟩)
    (c16 : PySem.W.codeIn K cd16 "is_value" = true) (k16 : PySem.W.keepIn K (.ref f16) = true)
    (a17 : PySem.W.nsIn K mainGlobals "new_value" = some (some (.ref f17)))
    (l17 : K.lookup f17 = some ⟨oc17, od17, .func (PySem.W.fnOf "new_value" "new_value" (defArgs s_new_value) (defBody s_new_value) (defScope s_new_value) .none kV17 dc17 pm17 an17 cd17 ct17), sl17⟩)
    (c17 : PySem.W.codeIn K cd17 "new_value" = true) (k17 : PySem.W.keepIn K (.ref f17) = true)
    (a18 : PySem.W.nsIn K mainGlobals "is_failing" = some (some (.ref f18)))
    (l18 : K.lookup f18 = some ⟨oc18, od18, .func (PySem.W.fnOf "is_failing" "is_failing" (defArgs s_is_failing) (defBody s_is_failing) (defScope s_is_failing) .none kV18 dc18 pm18 an18 cd18 ct18), sl18⟩)
    (c18 : PySem.W.codeIn K cd18 "is_failing" = true) (k18 : PySem.W.keepIn K (.ref f18) = true)
    (a19 : PySem.W.nsIn K mainGlobals "result_of" = some (some (.ref f19)))
    (l19 : K.lookup f19 = some ⟨oc19, od19, .func (PySem.W.fnOf "result_of" "result_of" (defArgs s_result_of) (defBody s_result_of) (defScope s_result_of) .none kV19 dc19 pm19 an19 cd19 ct19), sl19⟩)
    (c19 : PySem.W.codeIn K cd19 "result_of" = true) (k19 : PySem.W.keepIn K (.ref f19) = true)
    (a20 : PySem.W.nsIn K mainGlobals "execute" = some (some (.ref f20)))
    (l20 : K.lookup f20 = some ⟨oc20, od20, .func (PySem.W.fnOf "execute" "execute" (defArgs s_execute) (defBody s_execute) (defScope s_execute) .none kV20 dc20 pm20 an20 cd20 ct20), sl20⟩)
    (c20 : PySem.W.codeIn K cd20 "execute" = true) (k20 : PySem.W.keepIn K (.ref f20) = true)
    (a21 : PySem.W.nsIn K mainGlobals "changes" = some (some (.ref f21)))
    (l21 : K.lookup f21 = some ⟨oc21, od21, .func (PySem.W.fnOf "changes" "changes" (defArgs s_changes) (defBody s_changes) (defScope s_changes) .none kV21 dc21 pm21 an21 cd21 ct21), sl21⟩)
    (c21 : PySem.W.codeIn K cd21 "changes" = true) (k21 : PySem.W.keepIn K (.ref f21) = true)
    (a22 : PySem.W.nsIn K mainGlobals "_law_step" = some (some (.ref f22)))
    (l22 : K.lookup f22 = some ⟨oc22, od22, .func (PySem.W.fnOf "_law_step" "_law_step" (defArgs s_law_step) (defBody s_law_step) (defScope s_law_step) .none kV22 dc22 pm22 an22 cd22 ct22), sl22⟩)
    (c22 : PySem.W.codeIn K cd22 "_law_step" = true) (k22 : PySem.W.keepIn K (.ref f22) = true)
    (a23 : PySem.W.nsIn K mainGlobals "_law_execute" = some (some (.ref f23)))
    (l23 : K.lookup f23 = some ⟨oc23, od23, .func (PySem.W.fnOf "_law_execute" "_law_execute" (defArgs s_law_execute) (defBody s_law_execute) (defScope s_law_execute) .none kV23 dc23 pm23 an23 cd23 ct23), sl23⟩)
    (c23 : PySem.W.codeIn K cd23 "_law_execute" = true) (k23 : PySem.W.keepIn K (.ref f23) = true)
    (a24 : PySem.W.nsIn K mainGlobals "_law_changes" = some (some (.ref f24)))
    (l24 : K.lookup f24 = some ⟨oc24, od24, .func (PySem.W.fnOf "_law_changes" "_law_changes" (defArgs s_law_changes) (defBody s_law_changes) (defScope s_law_changes) .none kV24 dc24 pm24 an24 cd24 ct24), sl24⟩)
    (c24 : PySem.W.codeIn K cd24 "_law_changes" = true) (k24 : PySem.W.keepIn K (.ref f24) = true)
    (a25 : PySem.W.nsIn K mainGlobals "_law_same_table" = some (some (.ref f25)))
    (l25 : K.lookup f25 = some ⟨oc25, od25, .func (PySem.W.fnOf "_law_same_table" "_law_same_table" (defArgs s_law_same_table) (defBody s_law_same_table) (defScope s_law_same_table) .none kV25 dc25 pm25 an25 cd25 ct25), sl25⟩)
    (c25 : PySem.W.codeIn K cd25 "_law_same_table" = true) (k25 : PySem.W.keepIn K (.ref f25) = true)
    (a26 : PySem.W.nsIn K mainGlobals "law" = some (some (.ref f26)))
    (l26 : K.lookup f26 = some ⟨oc26, od26, .func (PySem.W.fnOf "law" "law" (defArgs s_law) (defBody s_law) (defScope s_law) .none kV26 dc26 pm26 an26 cd26 ct26), sl26⟩)
    (c26 : PySem.W.codeIn K cd26 "law" = true) (k26 : PySem.W.keepIn K (.ref f26) = true)
    (z_range : PySem.W.nsIn K mainGlobals "range" = some none)
    (z_len : PySem.W.nsIn K mainGlobals "len" = some none)
    (z_max : PySem.W.nsIn K mainGlobals "max" = some none)
    (z_min : PySem.W.nsIn K mainGlobals "min" = some none)
    (z_isinstance : PySem.W.nsIn K mainGlobals "isinstance" = some none)
    (z_str : PySem.W.nsIn K mainGlobals "str" = some none)
    (z_int : PySem.W.nsIn K mainGlobals "int" = some none)
    (z_bool : PySem.W.nsIn K mainGlobals "bool" = some none)
    (z_tuple : PySem.W.nsIn K mainGlobals "tuple" = some none)
    (z_list : PySem.W.nsIn K mainGlobals "list" = some none)
    (z_sorted : PySem.W.nsIn K mainGlobals "sorted" = some none)
    (z_dict : PySem.W.nsIn K mainGlobals "dict" = some none)
    (z_set : PySem.W.nsIn K mainGlobals "set" = some none)
    (q_LIMIT : PySem.W.nsIn K mainGlobals "LIMIT" = some (some (.int 1000000000000000000 t1)))
    (q_SETTING : PySem.W.nsIn K mainGlobals "SETTING" = some (some (.ref e_SETTING)))
    (w_SETTING : K.lookup e_SETTING = some ⟨.type "tuple", none, .seq #[Value.str "put" t2, Value.str "add" t3] en_SETTING, es_SETTING⟩) :
    ∃ fd : FuncData, (∀ (s : Shared) (v : Value), BindsTo s fd ⟨[v], []⟩ [("script", v)]) ∧ ∀ base : Heap, K.In base → base.Ns mainGlobals mg → FnOk l.prog w K mg base CX0 8 fa fd ["script"] (sp_law K) := by
  have e := hfa.symm.trans (PySem.W.mg_of X G a26)
  cases e
  have F0 := fun_mk (st := s_law_mixed) l0 c0 k0
  have B0 := F0.binds (ps := ["number", "k"]) fun _ _ _ _ _ _ us hl => match us, hl with | [_, _], _ => rfl
  have D_law_mixed : Dn K mg "_law_mixed" s_law_mixed ["number", "k"] f0 _ := ⟨F0, PySem.W.mg_of X G a0, k0, B0⟩
  have F1 := fun_mk (st := s_law_numbers) l1 c1 k1
  have B1 := F1.binds (ps := ["script"]) fun _ _ _ _ _ _ us hl => match us, hl with | [_], _ => rfl
  have D_law_numbers : Dn K mg "_law_numbers" s_law_numbers ["script"] f1 _ := ⟨F1, PySem.W.mg_of X G a1, k1, B1⟩
  have F2 := fun_mk (st := s_law_draw) l2 c2 k2
  have B2 := F2.binds (ps := ["draws"]) fun _ _ _ _ _ _ us hl => match us, hl with | [_], _ => rfl
  have D_law_draw : Dn K mg "_law_draw" s_law_draw ["draws"] f2 _ := ⟨F2, PySem.W.mg_of X G a2, k2, B2⟩
  have F3 := fun_mk (st := s_law_keys) l3 c3 k3
  have B3 := F3.binds (ps := ["draws"]) fun _ _ _ _ _ _ us hl => match us, hl with | [_], _ => rfl
  have D_law_keys : Dn K mg "_law_keys" s_law_keys ["draws"] f3 _ := ⟨F3, PySem.W.mg_of X G a3, k3, B3⟩
  have F4 := fun_mk (st := s_law_value) l4 c4 k4
  have B4 := F4.binds (ps := ["draws"]) fun _ _ _ _ _ _ us hl => match us, hl with | [_], _ => rfl
  have D_law_value : Dn K mg "_law_value" s_law_value ["draws"] f4 _ := ⟨F4, PySem.W.mg_of X G a4, k4, B4⟩
  have F5 := fun_mk (st := s_law_key) l5 c5 k5
  have B5 := F5.binds (ps := ["draws", "keys"]) fun _ _ _ _ _ _ us hl => match us, hl with | [_, _], _ => rfl
  have D_law_key : Dn K mg "_law_key" s_law_key ["draws", "keys"] f5 _ := ⟨F5, PySem.W.mg_of X G a5, k5, B5⟩
  have F6 := fun_mk (st := s_law_table) l6 c6 k6
  have B6 := F6.binds (ps := ["draws", "keys"]) fun _ _ _ _ _ _ us hl => match us, hl with | [_, _], _ => rfl
  have D_law_table : Dn K mg "_law_table" s_law_table ["draws", "keys"] f6 _ := ⟨F6, PySem.W.mg_of X G a6, k6, B6⟩
  have F7 := fun_mk (st := s_law_worth) l7 c7 k7
  have B7 := F7.binds (ps := ["draws"]) fun _ _ _ _ _ _ us hl => match us, hl with | [_], _ => rfl
  have D_law_worth : Dn K mg "_law_worth" s_law_worth ["draws"] f7 _ := ⟨F7, PySem.W.mg_of X G a7, k7, B7⟩
  have F8 := fun_mk (st := s_law_op) l8 c8 k8
  have B8 := F8.binds (ps := ["draws", "keys"]) fun _ _ _ _ _ _ us hl => match us, hl with | [_, _], _ => rfl
  have D_law_op : Dn K mg "_law_op" s_law_op ["draws", "keys"] f8 _ := ⟨F8, PySem.W.mg_of X G a8, k8, B8⟩
  have F9 := fun_mk (st := s_law_deal) l9 c9 k9
  have B9 := F9.binds (ps := ["draws", "keys"]) fun _ _ _ _ _ _ us hl => match us, hl with | [_, _], _ => rfl
  have D_law_deal : Dn K mg "_law_deal" s_law_deal ["draws", "keys"] f9 _ := ⟨F9, PySem.W.mg_of X G a9, k9, B9⟩
  have F10 := fun_mk (st := s_law_all_equal) l10 c10 k10
  have B10 := F10.binds (ps := ["actual", "due"]) fun _ _ _ _ _ _ us hl => match us, hl with | [_, _], _ => rfl
  have D_law_all_equal : Dn K mg "_law_all_equal" s_law_all_equal ["actual", "due"] f10 _ := ⟨F10, PySem.W.mg_of X G a10, k10, B10⟩
  have F11 := fun_mk (st := s_law_equal) l11 c11 k11
  have B11 := F11.binds (ps := ["actual", "due"]) fun _ _ _ _ _ _ us hl => match us, hl with | [_, _], _ => rfl
  have D_law_equal : Dn K mg "_law_equal" s_law_equal ["actual", "due"] f11 _ := ⟨F11, PySem.W.mg_of X G a11, k11, B11⟩
  have F12 := fun_mk (st := s_span_of) l12 c12 k12
  have B12 := F12.binds (ps := ["op"]) fun _ _ _ _ _ _ us hl => match us, hl with | [_], _ => rfl
  have D_span_of : Dn K mg "span_of" s_span_of ["op"] f12 _ := ⟨F12, PySem.W.mg_of X G a12, k12, B12⟩
  have F13 := fun_mk (st := s_spans) l13 c13 k13
  have B13 := F13.binds (ps := ["ops"]) fun _ _ _ _ _ _ us hl => match us, hl with | [_], _ => rfl
  have D_spans : Dn K mg "spans" s_spans ["ops"] f13 _ := ⟨F13, PySem.W.mg_of X G a13, k13, B13⟩
  have F14 := fun_mk (st := s_law_spans) l14 c14 k14
  have B14 := F14.binds (ps := ["ops"]) fun _ _ _ _ _ _ us hl => match us, hl with | [_], _ => rfl
  have D_law_spans : Dn K mg "_law_spans" s_law_spans ["ops"] f14 _ := ⟨F14, PySem.W.mg_of X G a14, k14, B14⟩
  have F15 := fun_mk (st := s_is_plain_integer) l15 c15 k15
  have B15 := F15.binds (ps := ["thing"]) fun _ _ _ _ _ _ us hl => match us, hl with | [_], _ => rfl
  have D_is_plain_integer : Dn K mg "is_plain_integer" s_is_plain_integer ["thing"] f15 _ := ⟨F15, PySem.W.mg_of X G a15, k15, B15⟩
  have F16 := fun_mk (st := s_is_value) l16 c16 k16
  have B16 := F16.binds (ps := ["thing"]) fun _ _ _ _ _ _ us hl => match us, hl with | [_], _ => rfl
  have D_is_value : Dn K mg "is_value" s_is_value ["thing"] f16 _ := ⟨F16, PySem.W.mg_of X G a16, k16, B16⟩
  have F17 := fun_mk (st := s_new_value) l17 c17 k17
  have B17 := F17.binds (ps := ["table", "op"]) fun _ _ _ _ _ _ us hl => match us, hl with | [_, _], _ => rfl
  have D_new_value : Dn K mg "new_value" s_new_value ["table", "op"] f17 _ := ⟨F17, PySem.W.mg_of X G a17, k17, B17⟩
  have F18 := fun_mk (st := s_is_failing) l18 c18 k18
  have B18 := F18.binds (ps := ["table", "op"]) fun _ _ _ _ _ _ us hl => match us, hl with | [_, _], _ => rfl
  have D_is_failing : Dn K mg "is_failing" s_is_failing ["table", "op"] f18 _ := ⟨F18, PySem.W.mg_of X G a18, k18, B18⟩
  have F19 := fun_mk (st := s_result_of) l19 c19 k19
  have B19 := F19.binds (ps := ["table", "op"]) fun _ _ _ _ _ _ us hl => match us, hl with | [_, _], _ => rfl
  have D_result_of : Dn K mg "result_of" s_result_of ["table", "op"] f19 _ := ⟨F19, PySem.W.mg_of X G a19, k19, B19⟩
  have F20 := fun_mk (st := s_execute) l20 c20 k20
  have B20 := F20.binds (ps := ["table", "ops"]) fun _ _ _ _ _ _ us hl => match us, hl with | [_, _], _ => rfl
  have D_execute : Dn K mg "execute" s_execute ["table", "ops"] f20 _ := ⟨F20, PySem.W.mg_of X G a20, k20, B20⟩
  have F21 := fun_mk (st := s_changes) l21 c21 k21
  have B21 := F21.binds (ps := ["table", "ops"]) fun _ _ _ _ _ _ us hl => match us, hl with | [_, _], _ => rfl
  have D_changes : Dn K mg "changes" s_changes ["table", "ops"] f21 _ := ⟨F21, PySem.W.mg_of X G a21, k21, B21⟩
  have F22 := fun_mk (st := s_law_step) l22 c22 k22
  have B22 := F22.binds (ps := ["after", "op"]) fun _ _ _ _ _ _ us hl => match us, hl with | [_, _], _ => rfl
  have D_law_step : Dn K mg "_law_step" s_law_step ["after", "op"] f22 _ := ⟨F22, PySem.W.mg_of X G a22, k22, B22⟩
  have F23 := fun_mk (st := s_law_execute) l23 c23 k23
  have B23 := F23.binds (ps := ["table", "ops"]) fun _ _ _ _ _ _ us hl => match us, hl with | [_, _], _ => rfl
  have D_law_execute : Dn K mg "_law_execute" s_law_execute ["table", "ops"] f23 _ := ⟨F23, PySem.W.mg_of X G a23, k23, B23⟩
  have F24 := fun_mk (st := s_law_changes) l24 c24 k24
  have B24 := F24.binds (ps := ["table", "ops"]) fun _ _ _ _ _ _ us hl => match us, hl with | [_, _], _ => rfl
  have D_law_changes : Dn K mg "_law_changes" s_law_changes ["table", "ops"] f24 _ := ⟨F24, PySem.W.mg_of X G a24, k24, B24⟩
  have F25 := fun_mk (st := s_law_same_table) l25 c25 k25
  have B25 := F25.binds (ps := ["actual", "due"]) fun _ _ _ _ _ _ us hl => match us, hl with | [_, _], _ => rfl
  have D_law_same_table : Dn K mg "_law_same_table" s_law_same_table ["actual", "due"] f25 _ := ⟨F25, PySem.W.mg_of X G a25, k25, B25⟩
  have F26 := fun_mk (st := s_law) l26 c26 k26
  have B26 := F26.binds (ps := ["script"]) fun _ _ _ _ _ _ us hl => match us, hl with | [_], _ => rfl
  have D_law : Dn K mg "law" s_law ["script"] fa _ := ⟨F26, PySem.W.mg_of X G a26, k26, B26⟩
  have b_range := PySem.W.mg_none_of X G z_range
  have b_len := PySem.W.mg_none_of X G z_len
  have b_max := PySem.W.mg_none_of X G z_max
  have b_min := PySem.W.mg_none_of X G z_min
  have b_isinstance := PySem.W.mg_none_of X G z_isinstance
  have b_str := PySem.W.mg_none_of X G z_str
  have b_int := PySem.W.mg_none_of X G z_int
  have b_bool := PySem.W.mg_none_of X G z_bool
  have b_tuple := PySem.W.mg_none_of X G z_tuple
  have b_list := PySem.W.mg_none_of X G z_list
  have b_sorted := PySem.W.mg_none_of X G z_sorted
  have b_dict := PySem.W.mg_none_of X G z_dict
  have b_set := PySem.W.mg_none_of X G z_set
  have g_LIMIT : ∃ u, mg "LIMIT" = some u ∧ RelV (.int 1000000000000000000) u := ⟨_, PySem.W.mg_of X G q_LIMIT, _, rfl⟩
  have g_SETTING : ∃ u, mg "SETTING" = some u ∧ RelV (.ref e_SETTING) u := ⟨_, PySem.W.mg_of X G q_SETTING, rfl⟩
  have t_SETTING : ∃ o, K.lookup e_SETTING = some o ∧ o.cls = .type "tuple" ∧ o.dict = none := ⟨_, w_SETTING, rfl, rfl⟩
  have k_SETTING : ∀ H, SqT K H e_SETTING [V.str "put", V.str "add"] := fun H => .inr ⟨_, _, _, w_SETTING, rfl, rfl, by show 2 ≤ sizeLine; decide, (.cons ⟨_, rfl⟩ (.cons ⟨_, rfl⟩ .nil))⟩
  refine ⟨PySem.W.fnOf "law" "law" (defArgs s_law) (defBody s_law) (defScope s_law) .none kV26 dc26 pm26 an26 cd26 ct26, fun s v => .of_eq rfl, fun base hb1 hb2 => ?_⟩
  have c_law_mixed := ok_law_mixed (P := l.prog) (w := w) (base := base) D_law_mixed
  have c_law_numbers := ok_law_numbers (P := l.prog) (w := w) (base := base) D_law_numbers b_range c_law_mixed
  have c_law_draw := ok_law_draw (P := l.prog) (w := w) (base := base) D_law_draw b_len c_law_mixed
  have c_law_keys := ok_law_keys (P := l.prog) (w := w) (base := base) D_law_keys b_range c_law_draw
  have c_law_value := ok_law_value (P := l.prog) (w := w) (base := base) D_law_value c_law_draw
  have c_law_key := ok_law_key (P := l.prog) (w := w) (base := base) D_law_key b_len c_law_draw
  have c_law_table := ok_law_table (P := l.prog) (w := w) (base := base) D_law_table b_range b_len c_law_draw c_law_key c_law_value
  have c_law_worth := ok_law_worth (P := l.prog) (w := w) (base := base) D_law_worth c_law_value c_law_draw
  have c_law_op := ok_law_op (P := l.prog) (w := w) (base := base) D_law_op b_max b_min c_law_worth c_law_key c_law_draw c_law_value
  have c_law_deal := ok_law_deal (P := l.prog) (w := w) (base := base) D_law_deal b_range c_law_draw c_law_op
  have c_law_equal := fun n => ok_equal (P := l.prog) (w := w) (base := base) D_law_equal D_law_all_equal b_isinstance b_list b_tuple b_bool b_int b_str b_len b_range n
  have c_span_of := ok_span_of (P := l.prog) (w := w) (base := base) D_span_of
  have c_spans := ok_spans (P := l.prog) (w := w) (base := base) D_spans c_span_of
  have c_law_spans := ok_law_spans (P := l.prog) (w := w) (base := base) D_law_spans
  have c_is_plain_integer := ok_is_plain_integer (P := l.prog) (w := w) (base := base) D_is_plain_integer b_isinstance b_bool b_int
  have c_is_value := ok_is_value (P := l.prog) (w := w) (base := base) D_is_value g_LIMIT c_is_plain_integer
  have c_new_value := ok_new_value (P := l.prog) (w := w) (base := base) D_new_value
  have c_is_failing := ok_is_failing (P := l.prog) (w := w) (base := base) D_is_failing c_is_value c_new_value
  have c_result_of := ok_result_of (P := l.prog) (w := w) (base := base) D_result_of b_sorted c_new_value
  have c_execute := ok_execute (P := l.prog) (w := w) (base := base) D_execute b_dict g_SETTING k_SETTING c_new_value c_result_of c_is_failing
  have c_changes := ok_changes (P := l.prog) (w := w) (base := base) D_changes b_sorted g_SETTING k_SETTING c_execute
  have c_law_step := ok_law_step (P := l.prog) (w := w) (base := base) D_law_step b_sorted
  have c_law_execute := ok_law_execute (P := l.prog) (w := w) (base := base) D_law_execute b_dict c_law_step
  have c_law_changes := ok_law_changes (P := l.prog) (w := w) (base := base) D_law_changes b_sorted b_set c_law_execute
  have c_law_same_table := ok_law_same_table (P := l.prog) (w := w) (base := base) D_law_same_table b_isinstance b_dict b_len (c_law_equal 0)
  exact ok_law D_law b_range b_dict b_list c_law_numbers c_law_keys c_law_table c_law_deal c_spans c_law_spans c_changes c_law_changes (c_law_equal 2) c_law_same_table
theorem walk {l : PySem.W.OpenLaw} {q : Program} {loose : List Str} {XP : (Str → Option Value) → Heap → Prop} {YP : World → Heap → Prop} {d : DefRec} {K : Params → PySem.W.Frag} (hn : l.most = some 63) (hdf : d.params.defaults = [])
    (hY : ∀ (w : World) (h : Heap), YP w h → (K w.params).In h)
    (F : ∀ (w : World) (mg : Str → Option Value) (fa : Addr) (h : Heap), (K w.params).In h → h.Ns mainGlobals mg → mg d.name = some (.ref fa) →
      ∃ fd : FuncData, (∀ (s : Shared) (u : Value), BindsTo s fd ⟨[u], []⟩ [("script", u)]) ∧ ∀ base : Heap, (K w.params).In base → base.Ns mainGlobals mg → FnOk l.prog w (K w.params) mg base CX0 8 fa fd ["script"] (sp_law (K w.params))) :
    PySem.W.WalkO q loose XP YP l.row.toRowW d [] (fun f vs => PySem.call f vs) :=
  L2.walk_of (n := 63) (k := 8) (x := "script") (CX := fun _ => CX0) (sp := fun w => sp_law (K w.params)) hn (by decide) hdf ⟨rfl, by decide, by decide⟩ hY F (fun _ _ a ns hl _ hS => ⟨a, ns, rfl, hS, hl, fun _ => rfl⟩) fun _ _ _ _ _ z => z
end Nz
open PySem PySem.W PyProof.Rows
set_option maxRecDepth 100000 in
set_option maxHeartbeats 0 in
theorem PySem.Challenge.cw_wholecloth_k04_spans_and_changes_holds : PySem.Challenge.rw_wholecloth_k04_spans_and_changes.Holds := by
  w_on; o_law; k_head; (case hw => w_witness2)
  k_fill
  refine Nz.walk (l := PySem.Challenge.rw_wholecloth_k04_spans_and_changes) rfl rfl (fun w h Y => PySem.W.kIn_of Y) ?F
  case F =>
    intro w mg fa h KX G hmg
    refine' Nz.all_mk KX G hmg ?a0 ?l0 ?c0 ?k0 ?a1 ?l1 ?c1 ?k1 ?a2 ?l2 ?c2 ?k2 ?a3 ?l3 ?c3 ?k3 ?a4 ?l4 ?c4 ?k4 ?a5 ?l5 ?c5 ?k5 ?a6 ?l6 ?c6 ?k6 ?a7 ?l7 ?c7 ?k7 ?a8 ?l8 ?c8 ?k8 ?a9 ?l9 ?c9 ?k9 ?a10 ?l10 ?c10 ?k10 ?a11 ?l11 ?c11 ?k11 ?a12 ?l12 ?c12 ?k12 ?a13 ?l13 ?c13 ?k13 ?a14 ?l14 ?c14 ?k14 ?a15 ?l15 ?c15 ?k15 ?a16 ?l16 ?c16 ?k16 ?a17 ?l17 ?c17 ?k17 ?a18 ?l18 ?c18 ?k18 ?a19 ?l19 ?c19 ?k19 ?a20 ?l20 ?c20 ?k20 ?a21 ?l21 ?c21 ?k21 ?a22 ?l22 ?c22 ?k22 ?a23 ?l23 ?c23 ?k23 ?a24 ?l24 ?c24 ?k24 ?a25 ?l25 ?c25 ?k25 ?a26 ?l26 ?c26 ?k26 ?z_range ?z_len ?z_max ?z_min ?z_isinstance ?z_str ?z_int ?z_bool ?z_tuple ?z_list ?z_sorted ?z_dict ?z_set ?q_LIMIT ?q_SETTING ?w_SETTING
    (case a0 => k_is)
    (case l0 => k_is)
    (case c0 => k_is)
    (case k0 => k_is)
    (case a1 => k_is)
    (case l1 => k_is)
    (case c1 => k_is)
    (case k1 => k_is)
    (case a2 => k_is)
    (case l2 => k_is)
    (case c2 => k_is)
    (case k2 => k_is)
    (case a3 => k_is)
    (case l3 => k_is)
    (case c3 => k_is)
    (case k3 => k_is)
    (case a4 => k_is)
    (case l4 => k_is)
    (case c4 => k_is)
    (case k4 => k_is)
    (case a5 => k_is)
    (case l5 => k_is)
    (case c5 => k_is)
    (case k5 => k_is)
    (case a6 => k_is)
    (case l6 => k_is)
    (case c6 => k_is)
    (case k6 => k_is)
    (case a7 => k_is)
    (case l7 => k_is)
    (case c7 => k_is)
    (case k7 => k_is)
    (case a8 => k_is)
    (case l8 => k_is)
    (case c8 => k_is)
    (case k8 => k_is)
    (case a9 => k_is)
    (case l9 => k_is)
    (case c9 => k_is)
    (case k9 => k_is)
    (case a10 => k_is)
    (case l10 => k_is)
    (case c10 => k_is)
    (case k10 => k_is)
    (case a11 => k_is)
    (case l11 => k_is)
    (case c11 => k_is)
    (case k11 => k_is)
    (case a12 => k_is)
    (case l12 => k_is)
    (case c12 => k_is)
    (case k12 => k_is)
    (case a13 => k_is)
    (case l13 => k_is)
    (case c13 => k_is)
    (case k13 => k_is)
    (case a14 => k_is)
    (case l14 => k_is)
    (case c14 => k_is)
    (case k14 => k_is)
    (case a15 => k_is)
    (case l15 => k_is)
    (case c15 => k_is)
    (case k15 => k_is)
    (case a16 => k_is)
    (case l16 => k_is)
    (case c16 => k_is)
    (case k16 => k_is)
    (case a17 => k_is)
    (case l17 => k_is)
    (case c17 => k_is)
    (case k17 => k_is)
    (case a18 => k_is)
    (case l18 => k_is)
    (case c18 => k_is)
    (case k18 => k_is)
    (case a19 => k_is)
    (case l19 => k_is)
    (case c19 => k_is)
    (case k19 => k_is)
    (case a20 => k_is)
    (case l20 => k_is)
    (case c20 => k_is)
    (case k20 => k_is)
    (case a21 => k_is)
    (case l21 => k_is)
    (case c21 => k_is)
    (case k21 => k_is)
    (case a22 => k_is)
    (case l22 => k_is)
    (case c22 => k_is)
    (case k22 => k_is)
    (case a23 => k_is)
    (case l23 => k_is)
    (case c23 => k_is)
    (case k23 => k_is)
    (case a24 => k_is)
    (case l24 => k_is)
    (case c24 => k_is)
    (case k24 => k_is)
    (case a25 => k_is)
    (case l25 => k_is)
    (case c25 => k_is)
    (case k25 => k_is)
    (case a26 => k_is)
    (case l26 => k_is)
    (case c26 => k_is)
    (case k26 => k_is)
    (case z_range => k_is)
    (case z_len => k_is)
    (case z_max => k_is)
    (case z_min => k_is)
    (case z_isinstance => k_is)
    (case z_str => k_is)
    (case z_int => k_is)
    (case z_bool => k_is)
    (case z_tuple => k_is)
    (case z_list => k_is)
    (case z_sorted => k_is)
    (case z_dict => k_is)
    (case z_set => k_is)
    (case q_LIMIT => k_is)
    (case q_SETTING => k_is)
    (case w_SETTING => k_is)
