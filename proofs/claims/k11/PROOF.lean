import PyProof.Rows.All
import Wide.All
import OpenK.AllK
import Wide.FinOn
import HandS.ForMost
import HandS.IsInst
import HandS.TupAny
import HandS.Flow
import HandS.SortInts
import HandS.More
import HandS.Exc
import HandS.TryOnly
import HandS.ExcOwn
import HandS.WordsExc
import HandS.ExcIs
import HandS.Strs
import HandS.SetBool
import HandS.TupSets
import HandS.SetFor
import HandS.Deep
import HandS.Property
import HandS.Zip
import HandS.SortKw
import HandS.Defaults
import KE.DataMinMax
import KE.SortData
import KE.DatumOrd
import PySem.Challenge.RW_wholecloth_k11_journal_is_read
set_option Elab.async false
set_option linter.all false
set_option maxRecDepth 100000
set_option maxHeartbeats 4000000
/-! The walk's own layer: M (what is owned and may change), G (what stands for good), H (both). -/
namespace Nz
open PySem L2 PySem.Spec PyProof.Rows

/-! ### heaps -/
abbrev Ex (G G' : Hp) : Prop := Same G G'
structure J (M G H : Hp) : Prop where
  m : Same M H
  g : Same G H
  d : ∀ a o, M a = some o → G a = none
theorem upd_ne' {H : Hp} {a b : Addr} {o u : HO} (e : H b = some u) (h : b ≠ a) : upd H a o b = some u := by rw [upd_ne h]; exact e
theorem Ex.new {G : Hp} {t : Addr} {o : HO} (h : G t = none) : Ex G (upd G t o) := fun a u e => by
  rw [upd_ne (ne_of_none e h)]; exact e
section
variable {M G H : Hp} {t d : Addr} {o o' : HO}
theorem J.freeM (j : J M G H) (h : H t = none) : M t = none := j.m.free h
theorem J.freeG (j : J M G H) (h : H t = none) : G t = none := j.g.free h
theorem J.newG (j : J M G H) (h : H t = none) : J M (upd G t o) (upd H t o) where
  m := fun a u e => by rw [upd_ne (ne_of_none (j.m a u e) h)]; exact j.m a u e
  g := fun a u e => by
    by_cases q : a = t
    · subst q; rw [upd_same] at e ⊢; exact e
    · rw [upd_ne q] at e ⊢; exact j.g a u e
  d := fun a u e => by rw [upd_ne (ne_of_none (j.m a u e) h)]; exact j.d a u e
theorem J.newM (j : J M G H) (h : H t = none) : J (upd M t o) G (upd H t o) where
  g := fun a u e => by rw [upd_ne (ne_of_none (j.g a u e) h)]; exact j.g a u e
  m := fun a u e => by
    by_cases q : a = t
    · subst q; rw [upd_same] at e ⊢; exact e
    · rw [upd_ne q] at e ⊢; exact j.m a u e
  d := fun a u e => by
    by_cases q : a = t
    · subst q; exact j.freeG h
    · rw [upd_ne q] at e; exact j.d a u e
theorem J.put (j : J M G H) (h : M t = some o) : J (upd M t o') G (upd H t o') where
  g := fun a u e => by
    have q : a ≠ t := fun z => by subst z; rw [j.d a o h] at e; cases e
    rw [upd_ne q]; exact j.g a u e
  m := fun a u e => by
    by_cases q : a = t
    · subst q; rw [upd_same] at e ⊢; exact e
    · rw [upd_ne q] at e ⊢; exact j.m a u e
  d := fun a u e => by
    by_cases q : a = t
    · subst q; exact j.d a o h
    · rw [upd_ne q] at e; exact j.d a u e
theorem J.freeze (j : J (upd M t o) G H) (h : M t = none) : J M (upd G t o) H where
  m := fun a u e => j.m a u (by rw [upd_ne (ne_of_none e h)]; exact e)
  g := fun a u e => by
    by_cases q : a = t
    · subst q; rw [upd_same] at e; cases e; exact j.m a _ upd_same
    · rw [upd_ne q] at e; exact j.g a u e
  d := fun a u e => by
    have q : a ≠ t := ne_of_none e h
    rw [upd_ne q]; exact j.d a u (by rw [upd_ne q]; exact e)
theorem J.freezeG (j : J (upd M t o) G H) : G t = none := j.d t o upd_same
theorem J.ex (j : J M G H) {H' : Hp} (e : Same H H') : J M G H' := ⟨j.m.trans e, j.g.trans e, j.d⟩
theorem J.start (H : Hp) : J (fun _ => none) H H := ⟨fun _ _ e => (nomatch e), Same.refl H, fun _ _ e => (nomatch e)⟩
end

/-! ### reading along -/
theorem rd_same {G G' : Hp} {a : Addr} {u : HO} (e : Same G G') (h : Rd G a u) : Rd G' a u := by
  rcases h with h | ⟨o, h⟩
  · exact .inl (e a _ h)
  · exact .inr ⟨o, e a _ h⟩
section
variable {K : PySem.W.Frag} {G G' : Hp} {a : Addr} {xs : List V}
theorem sl_of (h : G a = some (.lst xs)) : SqL K G a xs := .inl (.inl h)
theorem st_of (h : G a = some (.tup xs)) : SqT K G a xs := .inl (.inl h)
theorem sl_mono (e : Same G G') (h : SqL K G a xs) : SqL K G' a xs := h.elim (fun h => .inl (rd_same e h)) .inr
theorem st_mono (e : Same G G') (h : SqT K G a xs) : SqT K G' a xs := h.elim (fun h => .inl (rd_same e h)) .inr
end

/-! ### M but for one cell -/
def Ag (p : Addr) (M M' : Hp) : Prop := ∀ b, b ≠ p → M' b = M b
theorem Ag.refl (p : Addr) (M : Hp) : Ag p M M := fun _ _ => rfl
theorem Ag.trans {p : Addr} {M M1 M2 : Hp} (a : Ag p M M1) (b : Ag p M1 M2) : Ag p M M2 := fun c h => (b c h).trans (a c h)
theorem Ag.upd {p : Addr} {M : Hp} {o : HO} : Ag p M (upd M p o) := fun _ h => upd_ne h

/-- M without a cell -/
def del (M : Hp) (L : Addr) : Hp := fun b => if b = L then none else M b
theorem del_same {M : Hp} {L : Addr} : del M L L = none := by unfold del; rw [if_pos rfl]
theorem del_ne {M : Hp} {L b : Addr} (h : b ≠ L) : del M L b = M b := by unfold del; rw [if_neg h]
theorem J.seal {M G H : Hp} {L : Addr} {o : HO} (j : J M G H) (h : M L = some o) : J (del M L) (upd G L o) H where
  m := fun a u e => by
    by_cases q : a = L
    · subst q; rw [del_same] at e; cases e
    · rw [del_ne q] at e; exact j.m a u e
  g := fun a u e => by
    by_cases q : a = L
    · subst q; rw [upd_same] at e; cases e; exact j.m _ _ h
    · rw [upd_ne q] at e; exact j.g a u e
  d := fun a u e => by
    by_cases q : a = L
    · subst q; rw [del_same] at e; cases e
    · rw [del_ne q] at e; rw [upd_ne q]; exact j.d a u e
theorem J.out {M G H : Hp} {L : Addr} {o : HO} (j : J M G H) (h : M L = some o) : G L = none := j.d L o h
theorem J.drop {M G H : Hp} (L : Addr) (j : J M G H) : J (del M L) G H where
  m := fun a u e => by
    by_cases q : a = L
    · subst q; rw [del_same] at e; cases e
    · rw [del_ne q] at e; exact j.m a u e
  g := j.g
  d := fun a u e => by
    by_cases q : a = L
    · subst q; rw [del_same] at e; cases e
    · rw [del_ne q] at e; exact j.d a u e
/-- what stood for good is owned again, where G0 knew nothing of it -/
theorem J.thaw {M G G0 H : Hp} {b : Addr} {u : HO} (j : J M G H) (e : Ex G0 G) (h : G b = some u) (hb : G0 b = none) : J (upd M b u) G0 H where
  m := fun a x q => by
    by_cases z : a = b
    · subst z; rw [upd_same] at q; cases q; exact j.g _ _ h
    · rw [upd_ne z] at q; exact j.m a x q
  g := fun a x q => j.g a x (e a x q)
  d := fun a x q => by
    by_cases z : a = b
    · subst z; exact hb
    · rw [upd_ne z] at q
      cases r : G0 a with
      | none => rfl
      | some y => have := j.d a x q; rw [e a y r] at this; cases this
theorem J.less {M G G0 H : Hp} (j : J M G H) (e : Ex G0 G) : J M G0 H where
  m := j.m
  g := fun a x q => j.g a x (e a x q)
  d := fun a x q => by
    cases r : G0 a with
    | none => rfl
    | some y => have := j.d a x q; rw [e a y r] at this; cases this
theorem J.own {M G H : Hp} {b : Addr} {u : HO} (j : J M G H) (h : H b = some u) (hb : G b = none) : J (upd M b u) G H where
  m := fun a x q => by
    by_cases z : a = b
    · subst z; rw [upd_same] at q; cases q; exact h
    · rw [upd_ne z] at q; exact j.m a x q
  g := j.g
  d := fun a x q => by
    by_cases z : a = b
    · subst z; exact hb
    · rw [upd_ne z] at q; exact j.d a x q
/-- M but for two cells -/
def Ag2 (p L : Addr) (M M' : Hp) : Prop := ∀ b, b ≠ p → b ≠ L → M' b = M b
theorem Ag2.refl (p L : Addr) (M : Hp) : Ag2 p L M M := fun _ _ _ => rfl
theorem Ag2.upd {p L : Addr} {M M' : Hp} {o : HO} (h : Ag2 p L M M') : Ag2 p L M (upd M' L o) := fun b h1 h2 => (upd_ne h2).trans (h b h1 h2)
theorem Ag2.ag {p L : Addr} {M M1 M2 : Hp} (h : Ag2 p L M M1) (a : Ag p M1 M2) : Ag2 p L M M2 := fun b h1 h2 => (a b h1).trans (h b h1 h2)
theorem Ag2.del {p L : Addr} {M M' : Hp} (h : Ag2 p L M M') (n : M L = none) : Ag p M (del M' L) := fun b h1 => by
  by_cases q : b = L
  · subst q; rw [del_same, n]
  · rw [del_ne q]; exact h b h1 q
theorem Ag.del_eq {L : Addr} {M M2 : Hp} (a : Ag L M M2) (n : M L = none) : del M2 L = M := by
  funext b
  by_cases q : b = L
  · subst q; rw [del_same, n]
  · rw [del_ne q]; exact a b q
theorem Ag.at {p b : Addr} {M M' : Hp} {o : HO} (a : Ag p M M') (e : M b = some o) (h : b ≠ p) : M' b = some o := (a b h).trans e

/-! ### promises: al: what is known of the arguments, then J; the end likewise -/
def Sg {α : Type} (pre : α → List V → Hp → Hp → Prop) (post : α → Hp → Hp → V → Hp → Hp → Prop) : Sp := fun vs H Q _ =>
  ∃ a M G, J M G H ∧ pre a vs M G ∧ ∀ v M' G' H', J M' G' H' → Ex G G' → post a M G v M' G' → Q v H'
theorem w_sg {α : Type} {pre : α → List V → Hp → Hp → Prop} {post : α → Hp → Hp → V → Hp → Hp → Prop} {vs : List V} {M G H : Hp} {Q : VK} {E : XK} (a : α) (j : J M G H) (hp : pre a vs M G)
    (k : ∀ v M' G' H', J M' G' H' → Ex G G' → post a M G v M' G' → Q v H') : Sg pre post vs H Q E := ⟨a, M, G, j, hp, k⟩

/-! ### a def under its name -/
structure Dn (K : PySem.W.Frag) (mg : Str → Option Value) (x : Str) (st : Stmt) (ps : List Str) (f : Addr) (fd : FuncData) : Prop where
  fn : Fun K x x st f fd
  mgf : mg x = some (.ref f)
  kp : PySem.W.keepIn K (.ref f) = true
  bn : Binds K fd ps []
structure Cal (P : Program) (w : World) (K : PySem.W.Frag) (mg : Str → Option Value) (base : Heap) (CX : CXT) (k : Nat) (x : Str) (sp : Sp) : Prop where
  ex : ∃ (f : Addr) (fd : FuncData) (ps : List Str), FnOk P w K mg base CX k f fd ps sp ∧ mg x = some (.ref f) ∧ PySem.W.keepIn K (.ref f) = true ∧ Binds K fd ps []
section
variable {P : Program} {w : World} {K : PySem.W.Frag} {mg : Str → Option Value} {base : Heap} {CX : CXT}
theorem Dn.cal {x : Str} {st : Stmt} {ps : List Str} {f : Addr} {fd : FuncData} {k : Nat} {sp : Sp} (D : Dn K mg x st ps f fd) (F : FnOk P w K mg base CX k f fd ps sp) : Cal P w K mg base CX k x sp := ⟨f, fd, ps, F, D.mgf, D.kp, D.bn⟩
theorem Cal.mono {x : Str} {j k : Nat} {sp : Sp} (c : Cal P w K mg base CX j x sp) (h : j ≤ k) : Cal P w K mg base CX k x sp := by
  obtain ⟨f, fd, ps, F, a, b, d⟩ := c.ex
  exact ⟨f, fd, ps, F.mono h, a, b, d⟩
/-- a def that lets nothing out: its body -/
theorem Dn.ok {x : Str} {st : Stmt} {ps : List Str} {f : Addr} {fd : FuncData} {N : List Str} {k : Nat} {sp : Sp} (D : Dn K mg x st ps f fd) (S : FnScope N ps (defScope st)) (len : ∀ vs H Q E, sp vs H Q E → vs.length = ps.length)
    (hbody : ∀ (cdv : Value) (A : Around) (outer : List Env) (s : Shared) (H : Hp) (vs : List V) (Q : VK) (E : XK), Room k (A.deeper (envOfC x (defScope st) s.heap.objs.size f cdv)) → sp vs H Q E →
      ∃ t, PSs (cxOf CX0 P w K mg base N x (defScope st) f cdv A outer s H E).nox (defBody st) t ∧ t { nx := fun _ H' => Q .non H', rt := Q } (start N vs) H) : Cal P w K mg base CX0 (k + 1) x sp :=
  D.cal (D.fn.ok S len hbody)
end
section
variable {X : Cx} {CX : CXT} {k j : Nat} {x : Str} {sp : Sp} {p pos : Pos} {e : Expr} {es : List Expr} {t : TA} {E : XK}
theorem pe_cal (c : Cal X.prog X.w X.K X.mg X.base CX0 k x sp) (hr : Room j X.A) (hk : k ≤ j) (hg : Gl X x) (ha : PA X (e :: es) t)
    (hdb : (x == ("__debug__" : Str)) = false := by decide) (he : starEach (e :: es) X.env = (false, eval e X.env) :: starEach es X.env := by rfl) (hpl : (backTo pos (starEach es X.env)).any (·.1) = false := by rfl) :
    PE X (.Call (.Name x p) (e :: es) [] pos) (tCall sp [] E0 t) := by
  obtain ⟨f, fd, ps, F, hm, kp, b⟩ := c.ex
  exact pe_call F (hr.mono hk) hg hm kp b .nil pass0 ha hdb he hpl
theorem pe_cal0 (c : Cal X.prog X.w X.K X.mg X.base CX0 k x sp) (hr : Room j X.A) (hk : k ≤ j) (hg : Gl X x)
    (hdb : (x == ("__debug__" : Str)) = false := by decide) : PE X (.Call (.Name x p) [] [] pos) (tCall sp [] E0 tNil) := by
  obtain ⟨f, fd, ps, F, hm, kp, b⟩ := c.ex
  exact pe_call0 F (hr.mono hk) hg hm kp b .nil pass0 hdb
/-! ### operators whatever their operands are -/
def uAdd (K : PySem.W.Frag) : R2 := fun x y H Q => rI0 (fun i j => .int (i + j)) x y H Q ∨ (rCat x y H Q ∨ rCatA K x y H Q)
theorem op_uAdd : OpR X (binaryOp .Add) (uAdd X.K) := op_add.or (op_cat.or op_catA)
def uEq (K : PySem.W.Frag) : R2 := fun x y H Q => rEq x y H Q ∨ rEqD K x y H Q
theorem op_uEq (hr : Room j X.A) : OpR X (compareOp .Eq) (uEq X.K) := op_eq.or (op_eqD hr.units)
def uNe (K : PySem.W.Frag) : R2 := fun x y H Q => rNe x y H Q ∨ rNeD K x y H Q
theorem op_uNe (hr : Room j X.A) : OpR X (compareOp .NotEq) (uNe X.K) := op_ne.or (op_neD hr.units)
def uIx (K : PySem.W.Frag) : R2 := fun x y H Q => rIxL K x y H Q ∨ rIxT K x y H Q
theorem ix_u : IxR X (uIx X.K) := ix_list.or ix_tup
def uSl (K : PySem.W.Frag) : V → Option Int → Option Int → Hp → VK → Prop := fun x lo hi H Q => rSlL K x lo hi H Q ∨ rSlA K x lo hi H Q
theorem sl_u : SlR X (uSl X.K) := sl_list.or sl_tupA
def uMul : R2 := fun x y H Q => rI CMul (fun i j => .int (i * j)) x y H Q ∨ rRep x y H Q
theorem op_uMul : OpR X (binaryOp .Mult) uMul := op_mul.or op_rep
def uLen (K : PySem.W.Frag) : List V → Hp → VK → Prop := fun xs H Q => (∃ p ys, xs = [.ref p] ∧ (SqL K H p ys ∨ SqT K H p ys) ∧ Q (.int ys.length) H) ∨ (∃ a kvs, xs = [V.ref a] ∧ H a = some (.dK kvs) ∧ Q (.int kvs.length) H)
theorem call_uLen : CallR X (.builtin "len") (uLen X.K) := call_len_seq.or call_lenD
end

theorem bt_int : bootBuiltins "int" = some (.type "int") := by decide +kernel
theorem bt_str : bootBuiltins "str" = some (.type "str") := by decide +kernel
theorem bt_bool : bootBuiltins "bool" = some (.type "bool") := by decide +kernel
theorem bt_list : bootBuiltins "list" = some (.type "list") := by decide +kernel
theorem bt_tuple : bootBuiltins "tuple" = some (.type "tuple") := by decide +kernel
theorem bt_dict : bootBuiltins "dict" = some (.type "dict") := by decide +kernel
theorem bt_set : bootBuiltins "set" = some (.type "set") := by decide +kernel
theorem bt_isinstance : bootBuiltins "isinstance" = some (.builtin "isinstance") := by decide +kernel
theorem bt_min : bootBuiltins "min" = some (.builtin "min") := by decide +kernel
theorem bt_max : bootBuiltins "max" = some (.builtin "max") := by decide +kernel
theorem bt_sorted : bootBuiltins "sorted" = some (.builtin "sorted") := by decide +kernel
theorem bt_sum : bootBuiltins "sum" = some (.builtin "sum") := by decide +kernel
theorem bt_abs : bootBuiltins "abs" = some (.builtin "abs") := by decide +kernel
theorem pe_gk {X : Cx} {x : Str} {pos : Pos} {v : V} (hg : Gl X x) (h : ∃ u, X.mg x = some u ∧ RelV v u) (hd : (x == ("__debug__" : Str)) = false := by decide) : PE X (.Name x pos) (tC v) := by
  obtain ⟨u, hm, r⟩ := h
  exact pe_glob hg hm r hd

section
variable {X : Cx} {j : Nat} {K : PySem.W.Frag}
theorem op_uAddK (h : X.K = K) : OpR X (binaryOp .Add) (uAdd K) := h ▸ op_uAdd
theorem op_uEqK (h : X.K = K) (hr : Room j X.A) : OpR X (compareOp .Eq) (uEq K) := h ▸ op_uEq hr
theorem op_uNeK (h : X.K = K) (hr : Room j X.A) : OpR X (compareOp .NotEq) (uNe K) := h ▸ op_uNe hr
theorem ix_uK (h : X.K = K) : IxR X (uIx K) := h ▸ ix_u
theorem sl_uK (h : X.K = K) : SlR X (uSl K) := h ▸ sl_u
theorem call_uLenK (h : X.K = K) : CallR X (.builtin "len") (uLen K) := h ▸ call_uLen
theorem call_isiK' (h : X.K = K) : CallR X (.builtin "isinstance") (rIsi K) := h ▸ call_isi
theorem op_inK (h : X.K = K) : OpR X (compareOp .In) (rIn K false) := h ▸ op_in_seq
theorem op_notInK (h : X.K = K) : OpR X (compareOp .NotIn) (rIn K true) := h ▸ op_notIn_seq
end

/-! ### the steps -/
section
variable {K : PySem.W.Frag} {M G H : Hp} {σ : L2.St} {i : Nat} {v x y : V} {ta tb tc te : TE} {r r' : R2} {Q : VK} {D : Ends} {t u : TS} {c c' : TT} {QB : Bool → Hp → Prop} {g : TG} {a b p : Addr} {xs ys : List V} {m n : Int} {QL : List V → Hp → Prop}
theorem w_var (h : σ[i]? = some (some v)) (q : Q v H) : tVar i σ H Q := ⟨v, h, q⟩
theorem w_c (q : Q v H) : tC v σ H Q := q
theorem w_op (h : ta σ H fun x H1 => tb σ H1 fun y H2 => r x y H2 Q) : tOp r ta tb σ H Q := h
theorem w_un {r : V → Hp → VK → Prop} (h : ta σ H fun x H1 => r x H1 Q) : tUn r ta σ H Q := h
theorem w_chain (h : ta σ H fun x H1 => tb σ H1 fun y H2 => r x y H2 fun z H3 => ∃ k, z = .bl k ∧ (if k = true then tc σ H3 fun w' H4 => r' y w' H4 Q else Q (.bl false) H3)) : tChain r r' ta tb tc σ H Q := h
theorem w_test (h : ta σ H fun x H' => ∃ k, x = .bl k ∧ QB k H') : tTest ta σ H QB := h
theorem w_tB (h : ta σ H fun x H' => ∃ k, x = .bl k ∧ QB k H') : tB ta σ H QB := h
theorem w_bl {P : Bool → Prop} {b : Bool} (q : P b) : ∃ k, V.bl b = .bl k ∧ P k := ⟨b, rfl, q⟩
theorem w_and (h : c σ H fun k H1 => if k = true then c' σ H1 QB else QB false H1) : tAnd c c' σ H QB := h
theorem w_or (h : c σ H fun k H1 => if k = true then QB true H1 else c' σ H1 QB) : tOr c c' σ H QB := h
theorem w_not (h : c σ H fun k H1 => QB (!k) H1) : tNot c σ H QB := h
theorem w_andV (h : ta σ H fun x H1 => ∃ k, x = .bl k ∧ if k = true then tb σ H1 Q else Q (.bl false) H1) : tAndV ta tb σ H Q := h
theorem w_orV (h : ta σ H fun x H1 => ∃ k, x = .bl k ∧ if k = true then Q (.bl true) H1 else tb σ H1 Q) : tOrV ta tb σ H Q := h
theorem w_notV (h : ta σ H fun x H1 => ∃ k, x = .bl k ∧ Q (.bl (!k)) H1) : tNotV ta σ H Q := h
theorem w_ifE (h : c σ H fun k H1 => if k = true then ta σ H1 Q else tb σ H1 Q) : tIf c ta tb σ H Q := h
theorem w_isN (h : ta σ H fun x H1 => Q (.bl (decide (x = .non))) H1) : tIsN ta σ H Q := h
theorem w_notN (h : ta σ H fun x H1 => Q (.bl (!decide (x = .non))) H1) : tNotN ta σ H Q := h
/- statements -/
theorem w_seq (h : t { D with nx := u D } σ H) : tSeq t u D σ H := h
theorem w_next (h : D.nx σ H) : tNext D σ H := h
theorem w_ret (h : te σ H D.rt) : tRet te D σ H := h
theorem w_retN (h : D.rt .non H) : tRetN D σ H := h
theorem w_if (h : c σ H fun b H1 => if b = true then t D σ H1 else u D σ H1) : tIfS c t u D σ H := h
theorem w_asg (h : te σ H fun x H1 => g x σ H1 D.nx) : tAsg te g D σ H := h
theorem w_drop (h : te σ H fun _ H1 => D.nx σ H1) : tDrop te D σ H := h
theorem w_gName {R : L2.St → Hp → Prop} (h : R (σ.set i (some v)) H) : gName i v σ H R := h
theorem w_gSub {s : TSet} {to ti : TE} {R : L2.St → Hp → Prop} (h : to σ H fun o H1 => ti σ H1 fun i H2 => s o i v H2 fun H3 => R σ H3) : gSub to ti s v σ H R := h
theorem w_gTup {gs : TGs} {R : L2.St → Hp → Prop} (j : J M G H) (h : SqT K G a xs) (l : xs.length = i) (q : gs xs σ H R) : gTup K i gs (.ref a) σ H R := ⟨a, xs, rfl, st_mono j.g h, l, q⟩
theorem w_gCons {g : TG} {gs : TGs} {R : L2.St → Hp → Prop} (q : g v σ H fun σ' H' => gs xs σ' H' R) : gCons g gs (v :: xs) σ H R := ⟨v, xs, rfl, q⟩
theorem w_gNil {R : L2.St → Hp → Prop} (q : R σ H) : gNil [] σ H R := ⟨rfl, q⟩
/- arguments, calls -/
theorem w_anil (q : QL [] H) : tNil σ H QL := q
theorem w_acons {tr : TA} (h : ta σ H fun x H1 => tr σ H1 fun xs H2 => QL (x :: xs) H2) : tCons ta tr σ H QL := h
theorem w_call {sp : Sp} {dvs : List V} {E : XK} {tr : TA} (h : tr σ H fun vs H1 => sp (vs ++ dvs) H1 Q E) : tCall sp dvs E tr σ H Q := h
theorem w_cb {r : List V → Hp → VK → Prop} {tr : TA} (h : tr σ H fun vs H1 => r vs H1 Q) : tCB r tr σ H Q := h
def NewO (o : HO) (n : Nat) (H : Hp) (Q : VK) : Prop := n ≤ sizeLine ∧ ∀ p, H p = none → Q (.ref p) (upd H p o)
theorem w_tup {tr : TA} (h : tr σ H fun xs H1 => NewO (.tup xs) xs.length H1 Q) : tTup tr σ H Q := h
theorem w_lst {tr : TA} (h : tr σ H fun xs H1 => NewO (.lst xs) xs.length H1 Q) : tLst tr σ H Q := h
theorem sz_le {n : Nat} (h : n ≤ 1000000) : n ≤ sizeLine := Nat.le_trans h (by decide)
theorem sz_lt {n : Nat} (h : n < 1000000) : n < sizeLine := Nat.lt_of_lt_of_le h (by decide)
/-- a new object that stands for good -/
theorem w_new {o : HO} {n : Nat} (j : J M G H) (z : n ≤ sizeLine) (k : ∀ p G' H', J M G' H' → Ex G G' → G' p = some o → G p = none → Q (.ref p) H') : NewO o n H Q :=
  ⟨z, fun p h => k p _ _ (j.newG h) (Ex.new (j.freeG h)) upd_same (j.freeG h)⟩
/-- .. that may change -/
theorem w_newM {o : HO} {n : Nat} (j : J M G H) (z : n ≤ sizeLine) (k : ∀ p H', J (upd M p o) G H' → M p = none → G p = none → Q (.ref p) H') : NewO o n H Q :=
  ⟨z, fun p h => k p _ (j.newM h) (j.freeM h) (j.freeG h)⟩
/- operators -/
theorem w_I0 {f : Int → Int → V} (q : Q (f m n) H) : rI0 f (.int m) (.int n) H Q := ⟨m, n, rfl, rfl, q⟩
theorem w_I {C : Int → Int → Prop} {f : Int → Int → V} (hc : C m n) (q : Q (f m n) H) : rI C f (.int m) (.int n) H Q := ⟨m, n, rfl, rfl, hc, q⟩
theorem w_U {f : Int → V} (q : Q (f m) H) : rU f (.int m) H Q := ⟨m, rfl, q⟩
theorem w_addI (q : Q (.int (m + n)) H) : uAdd K (.int m) (.int n) H Q := .inl (w_I0 q)
theorem w_mulI (hc : CMul m n) (q : Q (.int (m * n)) H) : uMul (.int m) (.int n) H Q := .inl (w_I hc q)
theorem w_eqI (q : Q (.bl (decide (m = n))) H) : uEq K (.int m) (.int n) H Q := .inl ⟨rfl, by
  have e : decide (V.int m = V.int n) = decide (m = n) := decide_eq_decide.mpr ⟨fun h => V.int.inj h, fun h => h ▸ rfl⟩
  rw [e]; exact q⟩
theorem w_neI (q : Q (.bl (!decide (m = n))) H) : uNe K (.int m) (.int n) H Q := .inl ⟨rfl, by
  have e : decide (V.int m = V.int n) = decide (m = n) := decide_eq_decide.mpr ⟨fun h => V.int.inj h, fun h => h ▸ rfl⟩
  rw [e]; exact q⟩
theorem w_eqV {k : Bool} (hs : scal x y = true) (e : decide (x = y) = k) (q : Q (.bl k) H) : uEq K x y H Q := .inl ⟨hs, by rw [e]; exact q⟩
theorem w_eqS {k : Bool} {s1 s2 : Str} (e : decide (s1 = s2) = k) (q : Q (.bl k) H) : uEq K (.str s1) (.str s2) H Q := .inl ⟨rfl, by
  have e' : decide (V.str s1 = V.str s2) = decide (s1 = s2) := decide_eq_decide.mpr ⟨fun h => V.str.inj h, fun h => h ▸ rfl⟩
  rw [e', e]; exact q⟩
theorem w_neV {k : Bool} (hs : scal x y = true) (e : (!decide (x = y)) = k) (q : Q (.bl k) H) : uNe K x y H Q := .inl ⟨hs, by rw [e]; exact q⟩
theorem w_ixL (j : J M G H) (h : SqL K G a xs) (e : atI xs m = some v) (q : Q v H) : uIx K (.ref a) (.int m) H Q := .inl ⟨a, xs, m, v, rfl, rfl, sl_mono j.g h, e, q⟩
theorem w_ixT (j : J M G H) (h : SqT K G a xs) (e : atI xs m = some v) (q : Q v H) : uIx K (.ref a) (.int m) H Q := .inr ⟨a, xs, m, v, rfl, rfl, st_mono j.g h, e, q⟩
theorem w_ixM (j : J M G H) (h : M a = some (.lst xs)) (e : atI xs m = some v) (q : Q v H) : uIx K (.ref a) (.int m) H Q := .inl ⟨a, xs, m, v, rfl, rfl, .inl (.inl (j.m a _ h)), e, q⟩
theorem w_lenL (j : J M G H) (h : SqL K G a xs) (q : Q (.int xs.length) H) : uLen K [.ref a] H Q := .inl ⟨a, xs, rfl, .inl (sl_mono j.g h), q⟩
theorem w_lenT (j : J M G H) (h : SqT K G a xs) (q : Q (.int xs.length) H) : uLen K [.ref a] H Q := .inl ⟨a, xs, rfl, .inr (st_mono j.g h), q⟩
theorem w_lenM (j : J M G H) (h : M a = some (.lst xs)) (q : Q (.int xs.length) H) : uLen K [.ref a] H Q := .inl ⟨a, xs, rfl, .inl (.inl (.inl (j.m a _ h))), q⟩
theorem w_setM {QH : Hp → Prop} {jx : Nat} (j : J M G H) (h : M a = some (.lst xs)) (e : ixN xs.length m = some jx) (q : ∀ H', J (upd M a (.lst (xs.set jx v))) G H' → QH H') : rSetL (.ref a) (.int m) v H QH :=
  ⟨a, xs, m, jx, rfl, rfl, j.m a _ h, e, q _ (j.put h)⟩
/- methods -/
theorem w_bm {T : String} {r : V → List V → Hp → VK → Prop} {tr : TA} (h : ta σ H fun x H1 => tyV K T x H1 ∧ tr σ H1 fun xs H2 => r x xs H2 Q) : tBM K T r ta tr σ H Q := h
theorem w_appendM (j : J M G H) (h : M a = some (.lst xs)) (z : xs.length < sizeLine) (q : ∀ H', J (upd M a (.lst (xs ++ [v]))) G H' → Q .non H') : rAppend (.ref a) [v] H Q :=
  ⟨a, xs, v, rfl, rfl, j.m a _ h, z, q _ (j.put h)⟩
theorem ty_listM (j : J M G H) (h : M a = some (.lst xs)) : tyV K "list" (.ref a) H := .inl ⟨rfl, xs, .inl (.inl (j.m a _ h))⟩
theorem ty_listG (j : J M G H) (h : SqL K G a xs) : tyV K "list" (.ref a) H := .inl ⟨rfl, xs, sl_mono j.g h⟩
/- two ways -/
theorem w_two {k : Bool} {A B : Prop} (h1 : k = true → A) (h2 : k = false → B) : if k = true then A else B := by
  cases k with
  | true => rw [if_pos rfl]; exact h1 rfl
  | false => rw [if_neg Bool.false_ne_true]; exact h2 rfl
theorem w_dec {p : Prop} [Decidable p] {A B : Prop} (h1 : p → A) (h2 : ¬ p → B) : if decide p = true then A else B := w_two (fun h => h1 (of_decide_eq_true h)) fun h => h2 (of_decide_eq_false h)
theorem w_decN {p : Prop} [Decidable p] {A B : Prop} (h1 : ¬ p → A) (h2 : p → B) : if (!decide p) = true then A else B := w_two (fun h => h1 (of_decide_eq_false (by simpa using h))) fun h => h2 (of_decide_eq_true (by simpa using h))
theorem w_T {A B : Prop} (h : A) : if true = true then A else B := by rw [if_pos rfl]; exact h
theorem w_F {A B : Prop} (h : B) : if false = true then A else B := by rw [if_neg Bool.false_ne_true]; exact h
theorem w_nt {A B : Prop} (h : B) : if (!true) = true then A else B := w_F h
theorem w_nf {A B : Prop} (h : A) : if (!false) = true then A else B := w_T h
theorem w_dT {p : Prop} [Decidable p] {A B : Prop} (h : p) (q : A) : if decide p = true then A else B := by rw [decide_eq_true h]; exact w_T q
theorem w_dF {p : Prop} [Decidable p] {A B : Prop} (h : ¬ p) (q : B) : if decide p = true then A else B := by rw [decide_eq_false h]; exact w_F q
theorem w_nT {p : Prop} [Decidable p] {A B : Prop} (h : p) (q : B) : if (!decide p) = true then A else B := by rw [decide_eq_true h]; exact w_F q
theorem w_nF {p : Prop} [Decidable p] {A B : Prop} (h : ¬ p) (q : A) : if (!decide p) = true then A else B := by rw [decide_eq_false h]; exact w_T q
/- loops -/
theorem w_forL {tl : TE} {a : Addr} (h : tl σ H fun v H1 => v = .ref a ∧ SqL K H1 a xs ∧ ∃ Pv : Nat → L2.St → Hp → Prop, Pv 0 σ H1 ∧ (∀ i σ H, i ≤ xs.length → Pv i σ H → SqL K H a xs) ∧
    (∀ i x σ H, xs[i]? = some x → Pv i σ H → g x σ H fun σ2 H2 => t { D with nx := Pv (i + 1), ct := Pv (i + 1), bk := D.nx } σ2 H2) ∧ ∀ σ H, Pv xs.length σ H → D.nx σ H)
    (mono : ∀ Q Q' : VK, (∀ v H, Q v H → Q' v H) → tl σ H Q → tl σ H Q') : tFor (iList K tl) g t D σ H := by
  refine mono _ _ (fun v H1 q => ?_) h
  obtain ⟨rfl, hs, Pv, h0, hl, hs', hd⟩ := q
  exact ⟨a, rfl, ⟨xs, hs⟩, for_list Pv h0 hl hs' hd⟩
theorem mono_var (Q Q' : VK) (h : ∀ v H, Q v H → Q' v H) (q : tVar i σ H Q) : tVar i σ H Q' := by
  obtain ⟨v, e, q⟩ := q
  exact ⟨v, e, h v H q⟩
/-- for x in xs, xs a local name -/
theorem w_forLV {s : Nat} {a : Addr} (e : σ[s]? = some (some (.ref a))) (Pv : Nat → L2.St → Hp → Prop) (hS : SqL K H a xs) (h0 : Pv 0 σ H) (hl : ∀ i σ H, i ≤ xs.length → Pv i σ H → SqL K H a xs)
    (hs : ∀ i x σ H, xs[i]? = some x → Pv i σ H → g x σ H fun σ2 H2 => t { D with nx := Pv (i + 1), ct := Pv (i + 1), bk := D.nx } σ2 H2) (hd : ∀ σ H, Pv xs.length σ H → D.nx σ H) : tFor (iList K (tVar s)) g t D σ H :=
  ⟨.ref a, e, a, rfl, ⟨xs, hS⟩, for_list Pv h0 hl hs hd⟩
theorem w_forTV {s : Nat} {a : Addr} (e : σ[s]? = some (some (.ref a))) (Pv : Nat → L2.St → Hp → Prop) (hS : SqT K H a xs) (h0 : Pv 0 σ H) (hl : ∀ i σ H, i ≤ xs.length → Pv i σ H → SqT K H a xs)
    (hs : ∀ i x σ H, xs[i]? = some x → Pv i σ H → g x σ H fun σ2 H2 => t { D with nx := Pv (i + 1), ct := Pv (i + 1), bk := D.nx } σ2 H2) (hd : ∀ σ H, Pv xs.length σ H → D.nx σ H) : tFor (iTup K (tVar s)) g t D σ H :=
  ⟨.ref a, e, a, rfl, ⟨xs, hS⟩, for_tup Pv h0 hl hs hd⟩
/-- for k in range(e) -/
def RngR (g : TG) (t : TS) (D : Ends) (σ : L2.St) : List V → Hp → Prop := fun vs H1 => ∃ j : Int, vs = [.int j] ∧ -(2 ^ 62) ≤ j ∧ j < 2 ^ 62 ∧ ∃ Pv : Nat → L2.St → Hp → Prop, Pv 0 σ H1 ∧
  (∀ i σ H, i < j.toNat → Pv i σ H → g (.int i) σ H fun σ2 H2 => t { D with nx := Pv (i + 1), ct := Pv (i + 1), bk := D.nx } σ2 H2) ∧ ∀ σ H, Pv j.toNat σ H → D.nx σ H
theorem RngR.go {vs : List V} (h : RngR g t D σ vs H) : ∃ j : Int, vs = [.int j] ∧ -(2 ^ 62) ≤ j ∧ j < 2 ^ 62 ∧ ∃ W : Nat → Nat → L2.St → Hp → Prop, (∃ m, W 0 m σ H) ∧ ∀ i m σ H, W i m σ H →
      ((Itr 0 j.toNat).stop i H ∧ D.nx σ H) ∨ ((Itr 0 j.toNat).go i H ∧ ∃ N : L2.St → Hp → Prop, (∀ σ' H', N σ' H' → ∃ m', m' < m ∧ W (i + 1) m' σ' H') ∧ ∀ x H', (Itr 0 j.toNat).yld i H x H' → g x σ H' fun σ2 H2 => t { D with nx := N, ct := N, bk := D.nx } σ2 H2) := by
  obtain ⟨jj, e, h1, h2, Pv, h0, hs, hd⟩ := h
  refine ⟨jj, e, h1, h2, for_range Pv h0 (fun i σ H hi p => ?_) hd⟩
  have q := hs i σ H hi p
  rw [Int.zero_add]; exact q
def RngD (g : TG) (t : TS) (D : Ends) (σ : L2.St) (vs : List V) (H : Hp) : Prop := ∃ j : Int, vs = [.int j] ∧ -(2 ^ 62) ≤ j ∧ j < 2 ^ 62 ∧ ∃ W : Nat → Nat → L2.St → Hp → Prop, (∃ m, W 0 m σ H) ∧ ∀ i m σ H, W i m σ H →
      ((Itr 0 j.toNat).stop i H ∧ D.nx σ H) ∨ ((Itr 0 j.toNat).go i H ∧ ∃ N : L2.St → Hp → Prop, (∀ σ' H', N σ' H' → ∃ m', m' < m ∧ W (i + 1) m' σ' H') ∧ ∀ x H', (Itr 0 j.toNat).yld i H x H' → g x σ H' fun σ2 H2 => t { D with nx := N, ct := N, bk := D.nx } σ2 H2)
theorem w_forR {ta : TA} (h : ta σ H fun vs H1 => RngD g t D σ vs H1) : tFor (iRng1 ta) g t D σ H := h
theorem w_rng (Pv : Nat → L2.St → Hp → Prop) (h0 : Pv 0 σ H)
    (hs : ∀ i σ H, i < m.toNat → Pv i σ H → g (.int i) σ H fun σ2 H2 => t { D with nx := Pv (i + 1), ct := Pv (i + 1), bk := D.nx } σ2 H2) (hd : ∀ σ H, Pv m.toNat σ H → D.nx σ H) (h1 : -(2 ^ 62) ≤ m := by first | decide | omega) (h2 : m < 2 ^ 62 := by first | decide | omega) :
    RngD g t D σ [.int m] H := RngR.go ⟨m, rfl, h1, h2, Pv, h0, hs, hd⟩
theorem w_appendU (j : J (upd M a (.lst xs)) G H) (z : xs.length < 1000000) (q : ∀ H', J (upd M a (.lst (xs ++ [v]))) G H' → Q .non H') : rAppend (.ref a) [v] H Q :=
  w_appendM j upd_same (sz_lt z) fun H' j' => q H' (by rw [upd_upd] at j'; exact j')
theorem w_appendA (j : J M G H) (h : M a = some (.lst xs)) (z : xs.length < 1000000) (q : ∀ H', J (upd M a (.lst (xs ++ [v]))) G H' → Q .non H') : rAppend (.ref a) [v] H Q := w_appendM j h (sz_lt z) q
theorem ty_listU (j : J (upd M a (.lst xs)) G H) : tyV K "list" (.ref a) H := ty_listM j upd_same
theorem map_snoc (ns : List Int) (n : Int) : ns.map V.int ++ [V.int n] = (ns ++ [n]).map V.int := by rw [List.map_append]; rfl
/-- list(xs), xs[a:b] of lists, xs + ys -/
theorem w_catL (h1 : H a = some (.lst xs)) (h2 : H b = some (.lst ys)) (k : NewO (.lst (xs ++ ys)) (xs.length + ys.length) H Q) : uAdd K (.ref a) (.ref b) H Q :=
  .inr (.inl ⟨a, b, xs, ys, rfl, rfl, h1, h2, k.1, k.2⟩)
theorem w_slL {lo hi : Option Int} (j : J M G H) (h : SqL K G a xs) (k : NewO (.lst (cutV xs lo hi)) 0 H Q) : uSl K (.ref a) lo hi H Q := .inl ⟨a, xs, rfl, sl_mono j.g h, k.2⟩
theorem w_slT {lo hi : Option Int} (j : J M G H) (h : SqT K G a xs) (k1 : HT.sIx xs.length 0 lo = 0 ∧ HT.sIx xs.length xs.length hi = xs.length → Q (.ref a) H)
    (k : ¬ (HT.sIx xs.length 0 lo = 0 ∧ HT.sIx xs.length xs.length hi = xs.length) → NewO (.tup (cutV xs lo hi)) 0 H Q) : uSl K (.ref a) lo hi H Q := .inr ⟨a, xs, rfl, st_mono j.g h, k1, fun h => (k h).2⟩
def PartX (x : V) (H : Hp) (Q : Option Int → Hp → Prop) : Prop := ∃ i, x = .int i ∧ Q (some i) H
theorem w_part {QO : Option Int → Hp → Prop} (h : te σ H fun x H1 => PartX x H1 QO) : tPart te σ H QO := h
theorem w_partX {QO : Option Int → Hp → Prop} (h : QO (some m) H) : PartX (.int m) H QO := ⟨m, rfl, h⟩
theorem w_nopart {QO : Option Int → Hp → Prop} (h : QO none H) : tNoPart σ H QO := h
theorem atI_0 {α : Type} {y : α} {ys : List α} : atI (y :: ys) 0 = some y := atI_nat (j := 0) rfl
theorem w_sl {r : V → Option Int → Option Int → Hp → VK → Prop} {tl th : TO} (h : te σ H fun x H1 => tl σ H1 fun l H2 => th σ H2 fun u H3 => r x l u H3 Q) : tSl r te tl th σ H Q := h
/-! comprehensions -/
variable {tt : TT} {vs : List Nat} {s : Nat}
/-- the block's end at one element: the new list stands at L as before, it gets y -/
def StepL (L : Addr) (acc : List V) (R : List V → Hp → Hp → Prop) (y : V) (H4 : Hp) : Prop := ∃ M4 G4, J M4 G4 H4 ∧ M4 L = some (.lst acc) ∧ acc.length < sizeLine ∧ R (acc ++ [y]) (upd M4 L (.lst (acc ++ [y]))) G4
def SkipL (L : Addr) (acc : List V) (R : List V → Hp → Hp → Prop) (H3 : Hp) : Prop := ∃ M3 G3, J M3 G3 H3 ∧ M3 L = some (.lst acc) ∧ R acc M3 G3
def LcI (P : Addr → Nat → List V → Hp → Hp → Prop) (L : Addr) (i : Nat) (H : Hp) : Prop := ∃ acc M1 G1, J M1 G1 H ∧ M1 L = some (.lst acc) ∧ P L i acc M1 G1
theorem StepL.go {P : Addr → Nat → List V → Hp → Hp → Prop} {L : Addr} {acc : List V} {k : Nat} (h : StepL L acc (P L k) y H) : ∃ acc', H L = some (.lst acc') ∧ acc'.length < sizeLine ∧ LcI P L k (upd H L (.lst (acc' ++ [y]))) := by
  obtain ⟨M4, G4, j, e, z, r⟩ := h
  exact ⟨acc, j.m _ _ e, z, acc ++ [y], _, _, j.put e, upd_same, r⟩
def LcD (J' : It) (g : TG) (tt : TT) (te : TE) (vs : List Nat) (σ : L2.St) (H1 : Hp) (Q : VK) : Prop := ∀ D, H1 D = none → ∃ W : Nat → Nat → Hp → Prop, (∃ m, W 0 m (upd H1 D (.lst []))) ∧ ∀ i m H, W i m H →
  (J'.stop i H ∧ Q (.ref D) H) ∨ (J'.go i H ∧ ∃ Nx : Hp → Prop, (∀ H', Nx H' → ∃ m', m' < m ∧ W (i + 1) m' H') ∧ ∀ x H', J'.yld i H x H' → g x (wipe σ vs) H' fun σ2 H2 => wipe σ2 vs = wipe σ vs ∧ tt σ2 H2 fun b H3 =>
    if b = true then te σ2 H3 fun y H4 => ∃ acc, H4 D = some (.lst acc) ∧ acc.length < sizeLine ∧ Nx (upd H4 D (.lst (acc ++ [y]))) else Nx H3)
def LcR (g : TG) (tt : TT) (te : TE) (vs : List Nat) (σ : L2.St) (vs' : List V) (H1 : Hp) (Q : VK) : Prop := ∃ j : Int, vs' = [.int j] ∧ -(2 ^ 62) ≤ j ∧ j < 2 ^ 62 ∧ LcD (Itr 0 j.toNat) g tt te vs σ H1 Q
def LcL (K : PySem.W.Frag) (g : TG) (tt : TT) (te : TE) (vs : List Nat) (σ : L2.St) (x : V) (H1 : Hp) (Q : VK) : Prop := ∃ a, x = .ref a ∧ (∃ xs, SqL K H1 a xs) ∧ LcD (Itl K a) g tt te vs σ H1 Q
theorem w_lcR {ta : TA} (h : ta σ H fun vs' H1 => LcR g tt te vs σ vs' H1 Q) : tLc (iRng1 ta) g tt te vs σ H Q := h
theorem w_lcL {tl : TE} (h : tl σ H fun x H1 => LcL K g tt te vs σ x H1 Q) : tLc (iList K tl) g tt te vs σ H Q := h
/-- [e for k in range(m)]; the element's reading must be monotone in what is wanted: it is given by its steps, so the law of the turn is asked for any wish that is weaker -/
theorem w_lcr (j : J M G H) (P : Addr → Nat → List V → Hp → Hp → Prop) (h0 : ∀ L, M L = none → G L = none → P L 0 [] (upd M L (.lst [])) G) (hw : ∀ x, wipe ((wipe σ vs).set s (some x)) vs = wipe σ vs)
    (hs : ∀ L i acc M1 G1 H1 (R : V → Hp → Prop), i < m.toNat → J M1 G1 H1 → M1 L = some (.lst acc) → P L i acc M1 G1 → (∀ y H4, StepL L acc (P L (i + 1)) y H4 → R y H4) → te ((wipe σ vs).set s (some (.int i))) H1 R)
    (hd : ∀ L acc M1 G1 H1, J M1 G1 H1 → M1 L = some (.lst acc) → P L m.toNat acc M1 G1 → Q (.ref L) H1) (h1 : -(2 ^ 62) ≤ m := by first | decide | omega) (h2 : m < 2 ^ 62 := by first | decide | omega) : LcR (gName s) tYes te vs σ [.int m] H Q := by
  refine ⟨m, rfl, h1, h2, fun L hL => lc_range (LcI P L) ⟨[], _, _, j.newM hL, upd_same, h0 L (j.freeM hL) (j.freeG hL)⟩ (fun i H1 hi p => ?_) fun H1 p => ?_⟩
  · obtain ⟨acc, M1, G1, j1, e, p⟩ := p
    rw [Int.zero_add]
    refine ⟨hw (.int i), ?_⟩
    refine w_T (B := LcI P L (i + 1) H1) ?_
    refine hs L i acc M1 G1 H1 _ hi j1 e p ?_
    intro y H4 q
    exact q.go
  · obtain ⟨acc, M1, G1, j1, e, p⟩ := p
    exact hd L acc M1 G1 H1 j1 e p
/-- [e for x in xs if t] -/
theorem w_lcl (j : J M G H) (P : Addr → Nat → List V → Hp → Hp → Prop) (hx : SqL K G a xs) (h0 : ∀ L, M L = none → G L = none → P L 0 [] (upd M L (.lst [])) G) (hG : ∀ L i acc M1 G1, P L i acc M1 G1 → Ex G G1) (hw : ∀ x, wipe ((wipe σ vs).set s (some x)) vs = wipe σ vs)
    (hs : ∀ L i x acc M1 G1 H1 (R : Bool → Hp → Prop), xs[i]? = some x → J M1 G1 H1 → M1 L = some (.lst acc) → P L i acc M1 G1 →
      (∀ b H3, (if b = true then te ((wipe σ vs).set s (some x)) H3 (fun y H4 => ∃ acc, H4 L = some (.lst acc) ∧ acc.length < sizeLine ∧ LcI P L (i + 1) (upd H4 L (.lst (acc ++ [y])))) else SkipL L acc (P L (i + 1)) H3) → R b H3) → tt ((wipe σ vs).set s (some x)) H1 R)
    (hd : ∀ L acc M1 G1 H1, J M1 G1 H1 → M1 L = some (.lst acc) → P L xs.length acc M1 G1 → Q (.ref L) H1) : LcL K (gName s) tt te vs σ (.ref a) H Q := by
  refine ⟨a, rfl, ⟨xs, sl_mono j.g hx⟩, fun L hL => lc_list (xs := xs) (LcI P L) ⟨[], _, _, j.newM hL, upd_same, h0 L (j.freeM hL) (j.freeG hL)⟩ (fun i H1 _ p => ?_) (fun i x H1 hi p => ?_) fun H1 p => ?_⟩
  · obtain ⟨acc, M1, G1, j1, e, p⟩ := p
    exact sl_mono ((hG _ _ _ _ _ p).trans j1.g) hx
  · obtain ⟨acc, M1, G1, j1, e, p⟩ := p
    refine ⟨hw _, ?_⟩
    refine hs L i x acc M1 G1 H1 _ hi j1 e p fun b H3 q => ?_
    cases b with
    | true => rw [if_pos rfl] at q ⊢; exact q
    | false =>
      rw [if_neg Bool.false_ne_true] at q ⊢
      obtain ⟨M3, G3, j3, e3, r⟩ := q
      exact ⟨acc, M3, G3, j3, e3, r⟩
  · obtain ⟨acc, M1, G1, j1, e, p⟩ := p
    exact hd L acc M1 G1 H1 j1 e p
theorem w_yes {R : Bool → Hp → Prop} (h : R true H) : tYes σ H R := h
/-! dicts -/
variable {kvs : List (Key × V)} {td ty tx tv : TE}
def Hd (M G : Hp) (a : Addr) (kvs : List (Key × V)) : Prop := M a = some (.dK kvs) ∨ Rd G a (.dK kvs)
theorem Hd.rd (j : J M G H) (h : Hd M G a kvs) : Rd H a (.dK kvs) := h.elim (fun h => .inl (j.m _ _ h)) (rd_same j.g)
theorem Hd.ofM (h : M a = some (.dK kvs)) : Hd M G a kvs := .inl h
theorem Hd.ofG (h : G a = some (.dK kvs)) : Hd M G a kvs := .inr (.inl h)
def GetA (x : V) (ty : TE) (σ : L2.St) (H1 : Hp) (Q : VK) : Prop := ∃ a, x = .ref a ∧ IsD H1 a ∧ ty σ H1 fun y H2 => ∃ o, DGet H2 a y o ∧ Q (o.getD .non) H2
def GetB (x : V) (ty tx : TE) (σ : L2.St) (H1 : Hp) (Q : VK) : Prop := ∃ a, x = .ref a ∧ IsD H1 a ∧ ty σ H1 fun y H2 => tx σ H2 fun z H3 => ∃ o, DGet H3 a y o ∧ Q (o.getD z) H3
def GetE (a : Addr) (y z : V) (H3 : Hp) (Q : VK) : Prop := ∃ o, DGet H3 a y o ∧ Q (o.getD z) H3
theorem w_dget1 (h : td σ H fun x H1 => GetA x ty σ H1 Q) : tDGet1 td ty σ H Q := h
theorem w_dget2 (h : td σ H fun x H1 => GetB x ty tx σ H1 Q) : tDGet2 td ty tx σ H Q := h
theorem w_getA (j : J M G H) (h : Hd M G a kvs) (q : ty σ H fun y H2 => GetE a y .non H2 Q) : GetA (.ref a) ty σ H Q := ⟨a, rfl, .inl ⟨kvs, h.rd j⟩, q⟩
theorem w_getB (j : J M G H) (h : Hd M G a kvs) (q : ty σ H fun y H2 => tx σ H2 fun z H3 => GetE a y z H3 Q) : GetB (.ref a) ty tx σ H Q := ⟨a, rfl, .inl ⟨kvs, h.rd j⟩, q⟩
theorem w_getE (j : J M G H) (h : Hd M G a kvs) (q : Q ((valV kvs (.inl m)).getD y) H) : GetE a (.int m) y H Q := ⟨_, .inl ⟨kvs, .inl m, h.rd j, rfl, rfl⟩, q⟩
def GetX (x y : V) (H2 : Hp) (Q : VK) : Prop := ∃ a v, x = .ref a ∧ DGet H2 a y (some v) ∧ Q v H2
theorem w_dget (h : td σ H fun x H1 => ty σ H1 fun y H2 => GetX x y H2 Q) : tDGet td ty σ H Q := h
theorem w_getX (j : J M G H) (h : Hd M G a kvs) (e : valV kvs (.inl m) = some v) (q : Q v H) : GetX (.ref a) (.int m) H Q := ⟨a, v, rfl, .inl ⟨kvs, .inl m, h.rd j, rfl, e.symm⟩, q⟩
def InX (neg : Bool) (x y : V) (H2 : Hp) (Q : VK) : Prop := ∃ a o, x = .ref a ∧ DGet H2 a y o ∧ Q (.bl (if neg then !o.isSome else o.isSome)) H2
theorem w_din (h : ty σ H fun y H1 => td σ H1 fun x H2 => InX false x y H2 Q) : tDIn ty td σ H Q := h
theorem w_dnotin (h : ty σ H fun y H1 => td σ H1 fun x H2 => InX true x y H2 Q) : tDNotIn ty td σ H Q := h
theorem w_inX (j : J M G H) (h : Hd M G a kvs) (q : Q (.bl (valV kvs (.inl m)).isSome) H) : InX false (.ref a) (.int m) H Q := ⟨a, _, rfl, .inl ⟨kvs, .inl m, h.rd j, rfl, rfl⟩, q⟩
theorem w_notinX (j : J M G H) (h : Hd M G a kvs) (q : Q (.bl (!(valV kvs (.inl m)).isSome)) H) : InX true (.ref a) (.int m) H Q := ⟨a, _, rfl, .inl ⟨kvs, .inl m, h.rd j, rfl, rfl⟩, q⟩
def PutX (x y v : V) (H3 : Hp) (R : Hp → Prop) : Prop := ∃ a H4, x = .ref a ∧ DPut H3 a y v H4 ∧ R H4
theorem w_dput (h : tv σ H fun v H1 => td σ H1 fun x H2 => ty σ H2 fun y H3 => PutX x y v H3 (D.nx σ)) : sDPut td ty tv D σ H := h
theorem w_putX {R : Hp → Prop} (j : J M G H) (h : M a = some (.dK kvs)) (z : kvs.length < 1000000) (q : ∀ H', J (upd M a (.dK (putK kvs (.inl m) v))) G H' → R H') : PutX (.ref a) (.int m) v H R :=
  ⟨a, _, rfl, .inl ⟨kvs, .inl m, j.m _ _ h, rfl, sz_lt z, rfl⟩, q _ (j.put h)⟩
def PopB (x : V) (ty tx : TE) (σ : L2.St) (H1 : Hp) (Q : VK) : Prop := ∃ a, x = .ref a ∧ IsD H1 a ∧ ty σ H1 fun y H2 => tx σ H2 fun z H3 => ∃ kvs k, H3 a = some (.dK kvs) ∧ y = kV k ∧
  (∀ v, valV kvs k = some v → Q v (upd H3 a (.dK (dropK kvs k)))) ∧ (valV kvs k = none → Q z H3)
def PopE (a : Addr) (y z : V) (H3 : Hp) (Q : VK) : Prop := ∃ kvs k, H3 a = some (.dK kvs) ∧ y = kV k ∧ (∀ v, valV kvs k = some v → Q v (upd H3 a (.dK (dropK kvs k)))) ∧ (valV kvs k = none → Q z H3)
theorem w_dpop2 (h : td σ H fun x H1 => PopB x ty tx σ H1 Q) : tDPop2 td ty tx σ H Q := h
theorem w_popB (j : J M G H) (h : M a = some (.dK kvs)) (q : ty σ H fun y H2 => tx σ H2 fun z H3 => PopE a y z H3 Q) : PopB (.ref a) ty tx σ H Q := ⟨a, rfl, .inl ⟨kvs, .inl (j.m _ _ h)⟩, q⟩
theorem dropK_none (h : valV kvs (.inl m : Key) = none) : dropK kvs (.inl m) = kvs := dropK_no (valV_not h)
theorem w_popE (j : J M G H) (h : M a = some (.dK kvs)) (q : ∀ v H', J (upd M a (.dK (dropK kvs (.inl m)))) G H' → Q v H') : PopE a (.int m) y H Q := by
  refine ⟨kvs, .inl m, j.m _ _ h, rfl, fun v _ => q v _ (j.put h), fun e => q y H ?_⟩
  rw [dropK_none e]
  have e2 : upd M a (.dK kvs) = M := by
    funext b; unfold upd; split
    · rename_i hb; rw [hb, h]
    · rfl
  rw [e2]; exact j
theorem w_lenD (j : J M G H) (h : M a = some (.dK kvs) ∨ G a = some (.dK kvs)) (q : Q (.int kvs.length) H) : uLen K [.ref a] H Q := .inr ⟨a, kvs, rfl, h.elim (j.m _ _) (j.g _ _), q⟩
/-- {} -/
theorem w_dnew (h : NewO (.dK []) 0 H Q) : tDNewK σ H Q := h.2
/-- isinstance -/
theorem w_isi (bb : Bool) {n cc : String} (h : TyX K H x (.type n)) (e : kitB n cc = some bb) (q : Q (.bl bb) H) : rIsi K [x, .ty cc] H Q := ⟨x, .ty cc, .type n, .type cc, bb, rfl, .ty cc, h, kit_ty e, q⟩
theorem ty_int : TyX K H (.int m) (.type "int") := .base (.int m)
theorem ty_bl {b : Bool} : TyX K H (.bl b) (.type "bool") := .base (.bl b)
theorem ty_str {z : Str} : TyX K H (.str z) (.type "str") := .base (.str z)
theorem ty_non : TyX K H .non (.type "NoneType") := .base .non
theorem ty_L (h : SqL K H a xs) : TyX K H (.ref a) (.type "list") := by
  rcases h with (h | ⟨o, h⟩) | ⟨o, _, _, h, c, _⟩
  · exact .base (.lst h)
  · exact .base (.frz h)
  · exact .kList h c
theorem ty_T (h : SqT K H a xs) : TyX K H (.ref a) (.type "tuple") := by
  rcases h with (h | ⟨o, h⟩) | ⟨o, _, _, h, c, _⟩
  · exact .base (.tup h)
  · exact .fTuple h
  · exact .kTuple h c
theorem ty_D (h : Rd H a (.dK kvs)) : TyX K H (.ref a) (.type "dict") := by
  rcases h with h | ⟨o, h⟩
  · exact .base (.dK h)
  · exact .fDict h
/-- dict(d), sorted(d), list(xs), tuple(xs) -/
def DictC (xs : List V) (H : Hp) (Q : VK) : Prop := ∃ (a : Addr) (kvs : List (Key × V)), xs = [.ref a] ∧ Rd H a (.dK kvs) ∧ ∀ p, H p = none → Q (.ref p) (upd H p (.dK kvs))
theorem w_dictC (j : J M G H) (h : Hd M G a kvs) (q : NewO (.dK kvs) 0 H Q) : DictC [.ref a] H Q := ⟨a, kvs, rfl, h.rd j, q.2⟩
def ListC (K : PySem.W.Frag) (xs : List V) (H : Hp) (Q : VK) : Prop := ∃ p ys, xs = [.ref p] ∧ (SqL K H p ys ∨ SqT K H p ys) ∧ ∀ l, H l = none → Q (.ref l) (upd H l (.lst ys))
theorem w_listC (h : SqL K H a xs ∨ SqT K H a xs) (q : NewO (.lst xs) 0 H Q) : ListC K [.ref a] H Q := ⟨a, xs, rfl, h, q.2⟩
def TupC (K : PySem.W.Frag) (xs : List V) (H : Hp) (Q : VK) : Prop := ∃ p ys, xs = [.ref p] ∧ ((SqL K H p ys ∧ ∀ l, H l = none → Q (.ref l) (upd H l (.tup ys))) ∨ (SqT K H p ys ∧ Q (.ref p) H))
theorem w_tupC (h : SqL K H a xs) (q : NewO (.tup xs) 0 H Q) : TupC K [.ref a] H Q := ⟨a, xs, rfl, .inl ⟨h, q.2⟩⟩
def SortD (xs : List V) (H : Hp) (Q : VK) : Prop := ∃ (a : Addr) (kvs : List (Key × V)) (ks : List Int), xs = [.ref a] ∧ Rd H a (.dK kvs) ∧ kvs.map (·.1) = ks.map Sum.inl ∧ ks.length < 64 ∧
    ∀ (ys : List Int) (p : Addr), ys.Perm ks → ys.Pairwise (· ≤ ·) → H p = none → Q (.ref p) (upd H p (.lst (ys.map V.int)))
theorem w_sortD {ks : List Int} (j : J M G H) (h : Hd M G a kvs) (e : kvs.map (·.1) = ks.map Sum.inl) (z : ks.length < 64) (q : ∀ ys : List Int, ys.Perm ks → ys.Pairwise (· ≤ ·) → NewO (.lst (ys.map V.int)) 0 H Q) : SortD [.ref a] H Q :=
  ⟨a, kvs, ks, rfl, h.rd j, e, z, fun ys p h1 h2 => (q ys h1 h2).2 p⟩
theorem w_cDict {tr : TA} (h : tr σ H fun vs H1 => DictC vs H1 Q) : tCB (fun xs H Q => ∃ (a : Addr) (kvs : List (Key × V)), xs = [.ref a] ∧ Rd H a (.dK kvs) ∧ ∀ p, H p = none → Q (.ref p) (upd H p (.dK kvs))) tr σ H Q := h
theorem w_cList {tr : TA} (h : tr σ H fun vs H1 => ListC K vs H1 Q) : tCB (fun xs H Q => ∃ p ys, xs = [.ref p] ∧ (SqL K H p ys ∨ SqT K H p ys) ∧ ∀ l, H l = none → Q (.ref l) (upd H l (.lst ys))) tr σ H Q := h
theorem w_cTup {tr : TA} (h : tr σ H fun vs H1 => TupC K vs H1 Q) : tCB (fun xs H Q => ∃ p ys, xs = [.ref p] ∧ ((SqL K H p ys ∧ ∀ l, H l = none → Q (.ref l) (upd H l (.tup ys))) ∨ (SqT K H p ys ∧ Q (.ref p) H))) tr σ H Q := h
theorem w_cSortD {tr : TA} (h : tr σ H fun vs H1 => SortD vs H1 Q) : tCB (fun xs H Q => ∃ (a : Addr) (kvs : List (Key × V)) (ks : List Int), xs = [.ref a] ∧ Rd H a (.dK kvs) ∧ kvs.map (·.1) = ks.map Sum.inl ∧ ks.length < 64 ∧
    ∀ (ys : List Int) (p : Addr), ys.Perm ks → ys.Pairwise (· ≤ ·) → H p = none → Q (.ref p) (upd H p (.lst (ys.map V.int)))) tr σ H Q := h
/-- x in xs, flat items -/
theorem w_inT {neg : Bool} (j : J M G H) (h : SqT K G a xs) (hx : flatV x = true) (hf : xs.all flatV = true) (q : Q (.bl (if neg then !inV x xs else inV x xs)) H) : rIn K neg x (.ref a) H Q := ⟨a, xs, rfl, .inr (st_mono j.g h), hx, hf, q⟩
theorem w_inL {neg : Bool} (j : J M G H) (h : SqL K G a xs) (hx : flatV x = true) (hf : xs.all flatV = true) (q : Q (.bl (if neg then !inV x xs else inV x xs)) H) : rIn K neg x (.ref a) H Q := ⟨a, xs, rfl, .inl (sl_mono j.g h), hx, hf, q⟩
end
section
variable {X : Cx} {K : PySem.W.Frag}
theorem call_listC (h : X.K = K) : CallR X (.type "list") (ListC K) := h ▸ call_list_of
theorem call_tupC (h : X.K = K) : CallR X (.type "tuple") (TupC K) := h ▸ call_tuple_of
theorem call_dictC : CallR X (.type "dict") DictC := call_dictD
theorem call_sortDC (hc : X.calm = true) : CallR X (.builtin "sorted") SortD := call_sortedDI hc
end
/-! ### errors of the program: raised, let through, caught -/
structure Xc (K : PySem.W.Frag) (mg : Str → Option Value) (x : Str) (C : Addr) : Prop where
  gP : mg x = some (.ref C)
  xP : PySem.W.excIn K C [.type "ValueError", .type "Exception", .type "BaseException", .type "object"] "ValueError.__new__" = true
  kP : PySem.W.keepIn K (.ref C) = true
  bP : PySem.W.subIn K (.ref C) (.type "BaseException") = some true
  tP : PySem.W.typeIn K (.ref C) = some (.type "type")
  hD : PySem.W.hasDictIn K C = true
  sP : PySem.W.subIn K (.ref C) (.ref C) = some true
  hg : PySem.W.findIn K (.ref C) "__getattribute__" = some (some (.builtin "BaseException.__getattribute__"))
  hk : PySem.W.findIn K (.ref C) "__getattr__" = some none
  ha : PySem.W.findIn K (.ref C) "__class__" = some (some (.builtin "object.__class__"))
  hn : PySem.W.specialIn K (.builtin "object.__class__") "__get__" = some (some (.builtin "getset_descriptor.__get__"))
  ht : PySem.W.takesIn K (.builtin "object.__class__") = some true
  hm : PySem.W.mroIn K C (.type "object") = some true
theorem Xc.excC {K : PySem.W.Frag} {mg : Str → Option Value} {x : Str} {C : Addr} (X : Xc K mg x C) : ExcC K C := ⟨X.hg, X.hk, X.bP, X.hD, X.ha, X.hn, X.ht, X.hm⟩
theorem Xc.exm {K : PySem.W.Frag} {mg : Str → Option Value} {x : Str} {C : Addr} (X : Xc K mg x C) : PySem.W.exmOne K (.ref C) (.ref C) = some true := PySem.W.exm_ref X.bP X.hD X.tP X.sP
theorem Xc.g {K : PySem.W.Frag} {mg : Str → Option Value} {x : Str} {C : Addr} (X : Xc K mg x C) : ∃ u, mg x = some u ∧ RelV (.ref C) u := ⟨_, X.gP, rfl⟩
/-- a promise that tells how it may raise -/
def Sx {α : Type} (pre : α → List V → Hp → Hp → Prop) (post : α → Hp → Hp → V → Hp → Hp → Prop) (exc : α → Hp → Hp → Addr → Hp → Hp → Prop) : Sp := fun vs H Q E =>
  ∃ a M G, J M G H ∧ pre a vs M G ∧ (∀ v M' G' H', J M' G' H' → Ex G G' → post a M G v M' G' → Q v H') ∧ ∀ C M' G' H', J M' G' H' → Ex G G' → exc a M G C M' G' → E (.ref C) none H'
theorem w_sx {α : Type} {pre : α → List V → Hp → Hp → Prop} {post : α → Hp → Hp → V → Hp → Hp → Prop} {exc : α → Hp → Hp → Addr → Hp → Hp → Prop} {vs : List V} {M G H : Hp} {Q : VK} {E : XK} (a : α) (j : J M G H) (hp : pre a vs M G)
    (k : ∀ v M' G' H', J M' G' H' → Ex G G' → post a M G v M' G' → Q v H') (kx : ∀ C M' G' H', J M' G' H' → Ex G G' → exc a M G C M' G' → E (.ref C) none H') : Sx pre post exc vs H Q E := ⟨a, M, G, j, hp, k, kx⟩
theorem Dn.okX {P : Program} {w : World} {K : PySem.W.Frag} {mg : Str → Option Value} {base : Heap} {x : Str} {st : Stmt} {ps : List Str} {f : Addr} {fd : FuncData} {N : List Str} {k : Nat} {sp : Sp} (D : Dn K mg x st ps f fd) (S : FnScope N ps (defScope st)) (len : ∀ vs H Q E, sp vs H Q E → vs.length = ps.length)
    (hbody : ∀ (cdv : Value) (A : Around) (outer : List Env) (s : Shared) (H : Hp) (vs : List V) (Q : VK) (E : XK), Room k (A.deeper (envOfC x (defScope st) s.heap.objs.size f cdv)) → sp vs H Q E →
      ∃ t, PSs (cxOf (L2.CX P w) P w K mg base N x (defScope st) f cdv A outer s H E) (defBody st) t ∧ t { nx := fun _ H' => Q .non H', rt := Q } (start N vs) H) : Cal P w K mg base (L2.CX P w) (k + 1) x sp :=
  D.cal (D.fn.okX S len hbody)
/-- a call of what may raise, where an error is wished for -/
theorem pe_calX {X : Cx} {k j : Nat} {x : Str} {sp : Sp} {p pos : Pos} {e : Expr} {es : List Expr} {t : TA} {W : WX} (c : Cal X.prog X.w X.K X.mg X.base (L2.CX X.prog X.w) k x sp) (hr : Room j X.A) (hk : k ≤ j) (hg : Gl X x) (tk : Takes X W) (ha : PA X (e :: es) t)
    (hdb : (x == ("__debug__" : Str)) = false := by decide) (he : starEach (e :: es) X.env = (false, eval e X.env) :: starEach es X.env := by rfl) (hpl : (backTo pos (starEach es X.env)).any (·.1) = false := by rfl) :
    PE X (.Call (.Name x p) (e :: es) [] pos) (tCallS sp (WE W) t) := by
  obtain ⟨f, fd, ps, F, hm, kp, b⟩ := c.ex
  exact pe_callS F (hr.mono hk) hg hm kp b (fun σ => passAt tk σ) ha hdb he hpl
theorem w_callS {sp : Sp} {E : L2.St → XK} {t : TA} {σ : L2.St} {H : Hp} {Q : VK} (h : t σ H fun vs H1 => sp vs H1 Q (E σ)) : tCallS sp E t σ H Q := h
def tRaiseA (C : Addr) (W : WX) : TS := fun _ σ H => W (.ref C) none σ H
theorem ps_raiseA {X : Cx} {W : WX} {x m : Str} {C : Addr} {j : Nat} {p p2 pos pos2 : Pos} (hc : X.calm = true) (tk : Takes X W) (h : Xc X.K X.mg x C) (hg : Gl X x) (hdb : (x == ("__debug__" : Str)) = false := by decide) :
    PS X (.Raise (some (.Call (.Name x p) [.Constant (.str m) j p2] [] pos)) none pos2) (tRaiseA C W) := ps_raise hc tk (pmk_own PySem.F.excBase_ValueError h.xP h.gP h.kP (raises_own h.bP h.tP) hg hdb)
theorem w_raise {C : Addr} {W : WX} {D : Ends} {σ : L2.St} {H : Hp} (h : W (.ref C) none σ H) : tRaiseA C W D σ H := h
def tTryA (K : PySem.W.Frag) (c : Value) (i : Nat) (tb : WX → TS) (ts : Addr → Value → Option Addr → TS) (Wout : WX) : TS := fun D σ H => tb (wAs K c i ts Wout D) D σ H
theorem w_tryA {K : PySem.W.Frag} {c : Value} {i : Nat} {tb : WX → TS} {ts : Addr → Value → Option Addr → TS} {Wout : WX} {D : Ends} {σ : L2.St} {H : Hp} (h : tb (wAs K c i ts Wout D) D σ H) : tTryA K c i tb ts Wout D σ H := h
theorem ps_tryA {X : Cx} {x n : Str} {c : Value} {i : Nat} {body suite : List Stmt} {b₀ : Stmt} {np pos pos' : Pos} {tb : WX → TS} {ts : Addr → Value → Option Addr → TS} {Wout : WX} (hs : X.stack = X.env :: X.outer) (hf : X.env.frame = some X.env.locals) (hN : X.N.Nodup) (hi : X.N[i]? = some n) (hln : X.env.kindOf n = some .local) (hc : Names X x c) (tk : Takes X Wout)
    (hb : ∀ (W : WX) (pn : List (Addr × Obj)) (xe : Value → Shared → Prop), Takes (X.tr pn xe) W → PassesOwn (model X.prog X.w) X.A X.env xe → PSs (X.tr pn xe) body (tb W))
    (hsu : ∀ (a : Addr) (oe : Obj) (cls : Value) (d : Option Addr) (pn : List (Addr × Obj)), Zc cls d oe → (∃ vs, oe.data = .fields vs) → PSs (X.suite a ((a, oe) :: pn)) (b₀ :: suite) (ts a cls d)) :
    PS X (.Try body [.ExceptHandler (some (.Name x np)) (some n) (b₀ :: suite) pos'] [] [] pos) (tTryA X.K c i tb ts Wout) := ps_try_as hs hf hN hi hln hc tk hb hsu
/-- a fact that the suite's rules want is asked of its reading -/
theorem pss_given {X : Cx} {b : List Stmt} {t : TS} {p : Prop} (h : p → PSs X b t) : PSs X b (fun D σ H => p ∧ t D σ H) := ⟨fun pins s σ H D I z => (h z.1).run pins s σ H D I z.2⟩
/-- what a caught error of the class C asks -/
theorem w_caught {K : PySem.W.Frag} {c : Value} {C : Addr} {i : Nat} {ts : Addr → Value → Option Addr → TS} {Wout : WX} {D : Ends} {σ : L2.St} {H : Hp} (e : PySem.W.exmOne K (.ref C) c = some true)
    (h : ∀ a, H a = none → ts a (.ref C) none { nx := fun σ' H' => D.nx (σ'.set i none) H', rt := D.rt, bk := fun σ' H' => D.bk (σ'.set i none) H', ct := fun σ' H' => D.ct (σ'.set i none) H' } (σ.set i (some (.ref a))) H) : wAs K c i ts Wout D (.ref C) none σ H :=
  ⟨true, e, fun _ => h, fun q => Bool.noConfusion q⟩
theorem w_isE {K : PySem.W.Frag} {D a C : Addr} {b : Bool} {H : Hp} {Q : VK} (e : PySem.W.kitOne K (.ref D) (.ref C) = some b) (q : Q (.bl b) H) : rIsE K D a [.ref a, .ref C] H Q := ⟨.ref C, .ref C, b, rfl, fun _ r => r, e, q⟩
theorem w_seqP {t : TS} {u : TS} {D : Ends} {σ : L2.St} {H : Hp} (Pm : L2.St → Hp → Prop) (rest : ∀ σ H, Pm σ H → u D σ H) (first : (∀ σ H, Pm σ H → u D σ H) → t { D with nx := u D } σ H) : tSeq t u D σ H := first rest
/-- a op1 b op2 c op3 d -/
def tChain3 (r1 r2 r3 : R2) (ta tb tc td : TE) : TE := fun σ H Q => ta σ H fun x H1 => tb σ H1 fun y H2 => r1 x y H2 fun z H3 => ∃ k, z = .bl k ∧
  (if k = true then tc σ H3 fun u H4 => r2 y u H4 fun z2 H5 => ∃ k2, z2 = .bl k2 ∧ (if k2 = true then td σ H5 fun v H6 => r3 u v H6 Q else Q (.bl false) H5) else Q (.bl false) H3)
theorem pe_chain3 {X : Cx} {o1 o2 o3 : CmpOp} {r1 r2 r3 : R2} {a b c d : Expr} {ta tb tc td : TE} {pos : Pos} (h1 : OpR X (compareOp o1) r1) (h2 : OpR X (compareOp o2) r2) (h3 : OpR X (compareOp o3) r3) (ha : PE X a ta) (hb : PE X b tb) (hc : PE X c tc) (hd : PE X d td)
    (hm : lastMarks [o1, o2, o3] [b, c, d] = false := by with_unfolding_all rfl) : PE X (.Compare a [o1, o2, o3] [b, c, d] pos) (tChain3 r1 r2 r3 ta tb tc td) := by
  refine ⟨fun pins s σ H Q I h => Compare_chain (thn (ha.run pins s σ H _ I h) fun v0 s1 ⟨x, H1, I1, q1, w1⟩ => chain_link (thn (hb.run pins s1 σ H1 _ I1 w1) fun u0 s2 ⟨y, H2, I2, q2, w2⟩ => thn (h1 pins s2 σ H2 x y v0 u0 _ I2 q1 q2 w2) fun e0 s3 ⟨z, H3, I3, q3, k, ez, w3⟩ => ?_)) hm⟩
  subst ez; cases q3
  refine wpAny_truthy_bool ?_
  cases k with
  | false => exact ite_ff ⟨.bl false, H3, I3, rfl, w3⟩
  | true =>
    refine ite_tt (chain_link (thn (hc.run pins s3 σ H3 _ I3 w3) fun u1 s4 ⟨y1, H4, I4, q4, w4⟩ => thn (h2 pins s4 σ H4 y y1 u0 u1 _ I4 q2 q4 w4) fun e1 s5 ⟨z1, H5, I5, q5, k1, ez1, w5⟩ => ?_))
    subst ez1; cases q5
    refine wpAny_truthy_bool ?_
    cases k1 with
    | false => exact ite_ff ⟨.bl false, H5, I5, rfl, w5⟩
    | true => exact ite_tt (chain_last (thn (hd.run pins s5 σ H5 _ I5 w5) fun u2 s6 ⟨y2, H6, I6, q6, w6⟩ => h3 pins s6 σ H6 y1 y2 u1 u2 Q I6 q4 q6 w6))
theorem w_chain3 {r1 r2 r3 : R2} {ta tb tc td : TE} {σ : L2.St} {H : Hp} {Q : VK} (h : ta σ H fun x H1 => tb σ H1 fun y H2 => r1 x y H2 fun z H3 => ∃ k, z = .bl k ∧
  (if k = true then tc σ H3 fun u H4 => r2 y u H4 fun z2 H5 => ∃ k2, z2 = .bl k2 ∧ (if k2 = true then td σ H5 fun v H6 => r3 u v H6 Q else Q (.bl false) H5) else Q (.bl false) H3)) : tChain3 r1 r2 r3 ta tb tc td σ H Q := h
/-- tuples that stand: what is behind + and a slice stands too -/
theorem w_catT {K : PySem.W.Frag} {M G H : Hp} {a b : Addr} {xs ys : List V} {Q : VK} (j : J M G H) (h1 : SqT K G a xs) (h2 : SqT K G b ys) (z : xs.length + ys.length ≤ 1000000)
    (k : ∀ p G' H', J M G' H' → Ex G G' → SqT K G' p (xs ++ ys) → Q (.ref p) H') : uAdd K (.ref a) (.ref b) H Q :=
  .inr (.inr ⟨a, b, xs, ys, rfl, rfl, st_mono j.g h1, st_mono j.g h2, sz_le z, fun e => k b G H j (Same.refl G) (by subst e; exact h2), fun _ e => k a G H j (Same.refl G) (by subst e; rw [List.append_nil]; exact h1),
    fun _ _ p hp => k p _ _ (j.newG hp) (Ex.new (j.freeG hp)) (st_of upd_same)⟩)
theorem cut_all {xs : List V} {lo hi : Option Int} (h : HT.sIx xs.length 0 lo = 0 ∧ HT.sIx xs.length xs.length hi = xs.length) : cutV xs lo hi = xs := by
  unfold cutV
  rw [h.1, h.2]
  simp
theorem w_slTG {K : PySem.W.Frag} {M G H : Hp} {a : Addr} {xs : List V} {lo hi : Option Int} {Q : VK} (j : J M G H) (h : SqT K G a xs)
    (k : ∀ p G' H', J M G' H' → Ex G G' → SqT K G' p (cutV xs lo hi) → Q (.ref p) H') : uSl K (.ref a) lo hi H Q :=
  w_slT j h (fun e => k a G H j (Same.refl G) (by rw [cut_all e]; exact h)) fun _ => ⟨Nat.zero_le _, fun p hp => k p _ _ (j.newG hp) (Ex.new (j.freeG hp)) (st_of upd_same)⟩
theorem cut_sub {xs : List V} {lo hi : Option Int} {v : V} (h : v ∈ cutV xs lo hi) : v ∈ xs := by
  unfold cutV at h
  first
    | exact List.mem_of_mem_drop (List.mem_of_mem_take h)
    | exact List.mem_of_mem_take (List.mem_of_mem_drop h)
theorem cut_len {xs : List V} {lo hi : Option Int} : (cutV xs lo hi).length ≤ xs.length := by
  unfold cutV
  simp only [List.length_take, List.length_drop]
  omega
theorem kit_no {K : PySem.W.Frag} {A B : Addr} (h0 : (Value.ref A == Value.ref B) = false) (h1 : PySem.W.isClsIn K B = true) (h2 : PySem.W.typeIn K (.ref B) = some (.type "type")) (h3 : PySem.W.subIn K (.ref A) (.ref B) = some false) : PySem.W.kitOne K (.ref A) (.ref B) = some false := by
  have e : ((PySem.W.clsIn K B).isSome && PySem.W.typeIn K (.ref B) == some (.type "type")) = true := by rw [show (PySem.W.clsIn K B).isSome = true from h1, h2]; rfl
  unfold PySem.W.kitOne
  rw [h0, if_neg Bool.false_ne_true]
  exact (if_pos e).trans h3
end Nz

namespace Nz
open PySem L2 PySem.Spec PyProof.Rows
local macro_rules
  | `(tactic| walk_at "v") => `(tactic| first
    | with_reducible refine w_asg ?_
    | ((with_reducible refine' w_var ?h ?_); (case h => rfl))
    | with_reducible refine w_c ?_
    | with_reducible refine w_op ?_
    | with_reducible refine w_if ?_
    | with_reducible refine w_test ?_
    | with_reducible refine w_bl ?_
    | with_reducible refine w_ret ?_
    | with_reducible refine w_gName ?_
    | with_reducible refine w_call ?_
    | with_reducible refine w_acons ?_
    | with_reducible refine w_anil ?_
    | with_reducible refine w_cDict ?_
    | with_reducible refine w_cList ?_
    | with_reducible refine w_cTup ?_
    | with_reducible refine w_cSortD ?_
    | with_reducible refine w_cb ?_
    | with_reducible refine w_next ?_
    | with_reducible refine w_drop ?_
    | with_reducible refine w_gSub ?_
    | with_reducible refine w_addI ?_
    | with_reducible refine w_I0 ?_
    | ((with_reducible refine' w_I ?hc ?_); (case hc => first | decide | exact ⟨by decide, by decide⟩ | exact ⟨by decide, by decide, by decide⟩))
    | ((with_reducible refine' w_mulI ?hc ?_); (case hc => first | exact .inr (by decide) | exact .inl (by decide)))
    | with_reducible refine w_eqI ?_
    | with_reducible refine w_neI ?_
    | with_reducible refine w_U ?_
    | with_reducible refine w_un ?_
    | with_reducible refine w_and ?_
    | with_reducible refine w_or ?_
    | with_reducible refine w_not ?_
    | with_reducible refine w_andV ?_
    | with_reducible refine w_orV ?_
    | with_reducible refine w_notV ?_
    | with_reducible refine w_ifE ?_
    | with_reducible refine w_isN ?_
    | with_reducible refine w_notN ?_
    | with_reducible refine w_tB ?_
    | with_reducible refine w_chain ?_
    | with_reducible refine w_chain3 ?_
    | with_reducible refine w_callS ?_
    | with_reducible refine w_raise ?_
    | with_reducible refine w_tryA ?_
    | with_reducible refine w_tup ?_
    | with_reducible refine w_lst ?_
    | with_reducible refine w_bm ?_
    | with_reducible refine w_sl ?_
    | with_reducible refine w_retN ?_
    | with_reducible refine w_forR ?_
    | ((with_reducible refine' w_eqS ?he ?_); (case he => first | exact decide_eq_true rfl | exact decide_eq_false (by decide +kernel)))
    | with_reducible refine w_T ?_
    | with_reducible refine w_nt ?_
    | with_reducible refine w_nf ?_
    | with_reducible refine w_F ?_
    | with_reducible refine w_part ?_
    | with_reducible refine w_partX ?_
    | with_reducible refine w_nopart ?_
    | with_reducible refine w_dget1 ?_
    | with_reducible refine w_dget2 ?_
    | with_reducible refine w_dget ?_
    | with_reducible refine w_din ?_
    | with_reducible refine w_dnotin ?_
    | with_reducible refine w_dput ?_
    | with_reducible refine w_dpop2 ?_
    | with_reducible refine w_dnew ?_
    | ((with_reducible refine' w_isi true ?hh ?e ?_); (case hh => first | exact ty_int | exact ty_bl | exact ty_str | exact ty_non); (case e => rfl))
    | ((with_reducible refine' w_isi false ?hh ?e ?_); (case hh => first | exact ty_int | exact ty_bl | exact ty_str | exact ty_non); (case e => rfl))
    | with_reducible refine w_lcR ?_
    | with_reducible refine w_lcL ?_)
local macro_rules
  | `(tactic| walk_at "w") => `(tactic| first | with_reducible refine w_seq ?_ | walk_at "v")
local macro_rules
  | `(tactic| walk_at "to") => `(tactic| ((repeat walk_at "v"); (try dsimp only [Int.reduceToNat, Int.reducePow, Int.reduceNeg, Int.reduceMul]); (with_reducible show tSeq _ _ _ _ _)))
local macro_rules
  | `(tactic| walk_at "go") => `(tactic| ((repeat walk_at "w"); (try dsimp only [Int.reduceToNat, Int.reducePow, Int.reduceNeg, Int.reduceMul])))
local macro_rules
  | `(tactic| walk_at "start") => `(tactic| ((try dsimp only [cxOf]); (repeat walk_at "w"); (try dsimp only [Int.reduceToNat, Int.reducePow, Int.reduceNeg, Int.reduceMul])))
local macro_rules
  | `(tactic| walk_at "ix") => `(tactic| first
    | refine w_ixT (by assumption) (st_of (by assumption)) (by rfl) ?_
    | refine w_ixL (by assumption) (sl_of (by assumption)) (by rfl) ?_
    | refine w_ixT (by assumption) (by assumption) (by rfl) ?_
    | refine w_ixL (by assumption) (by assumption) (by rfl) ?_
    | refine w_ixM (by assumption) (by assumption) (by rfl) ?_)
local macro_rules
  | `(tactic| walk_at "gx") => `(tactic| (repeat (first | walk_at "w" | walk_at "ix")); (try dsimp only [Int.reduceToNat, Int.reducePow, Int.reduceNeg, Int.reduceMul]))

def top (i : Nat) : Stmt := PySem.Challenge.pw_wholecloth_k11_journal_is_read.main.body.getD i (.Pass ⟨0, 0, 0, 0⟩)
/-! ### classes: their facts, methods, makings, properties -/
theorem lk_ne {a k : Str} {b : V} {es : List (Str × V)} (h : ¬ a = k) : ((k, b) :: es).lookup a = es.lookup a := by
  have hb : (a == k) = false := beq_eq_false_iff_ne.mpr h
  simp only [List.lookup, hb]
theorem lk_eq {k : Str} {b : V} {es : List (Str × V)} : ((k, b) :: es).lookup k = some b := by
  have hb : (k == k) = true := beq_iff_eq.mpr rfl
  simp only [List.lookup, hb]
theorem pf_ne {f g : Str} {v x : V} {r r' : List (Str × V)} (h : ¬ g = f) (e : putF f v r = r') : putF f v ((g, x) :: r) = (g, x) :: r' := by
  show (if g = f then _ else _) = _
  rw [if_neg h, e]
theorem pf_eq {f : Str} {v x : V} {r : List (Str × V)} : putF f v ((f, x) :: r) = (f, v) :: r := if_pos rfl
theorem upd_self {M : Hp} {a : Addr} {o : HO} (h : M a = some o) : upd M a o = M := by
  funext b
  by_cases q : b = a
  · subst q; rw [upd_same, h]
  · rw [upd_ne q]
structure Dm (K : PySem.W.Frag) (C : Addr) (m q : Str) (st : Stmt) (ps : List Str) (f : Addr) (fd : FuncData) : Prop where
  fn : Fun K m q st f fd
  me : Meth K C m f
  bn : Binds K fd ps []
structure Di (K : PySem.W.Frag) (C : Addr) (q : Str) (st : Stmt) (ps : List Str) (f : Addr) (fd : FuncData) : Prop where
  fn : Fun K "__init__" q st f fd
  mke : Mk K C f
  bn : Binds K fd ps []
structure Dpr (K : PySem.W.Frag) (C : Addr) (m q : Str) (st : Stmt) (ps : List Str) (pf f : Addr) (fd : FuncData) : Prop where
  fn : Fun K m q st f fd
  pr : PropOf K C m pf f
  bn : Binds K fd ps []
structure CalM (P : Program) (w : World) (K : PySem.W.Frag) (mg : Str → Option Value) (base : Heap) (CX : CXT) (k : Nat) (C : Addr) (m : Str) (sp : Sp) : Prop where
  ex : ∃ (f : Addr) (fd : FuncData) (ps : List Str), FnOk P w K mg base CX k f fd ps sp ∧ Meth K C m f ∧ Binds K fd ps []
structure CalI (P : Program) (w : World) (K : PySem.W.Frag) (mg : Str → Option Value) (base : Heap) (CX : CXT) (k : Nat) (C : Addr) (sp : Sp) : Prop where
  ex : ∃ (f : Addr) (fd : FuncData) (ps : List Str), FnOk P w K mg base CX k f fd ps sp ∧ Mk K C f ∧ Binds K fd ps []
structure CalP (P : Program) (w : World) (K : PySem.W.Frag) (mg : Str → Option Value) (base : Heap) (CX : CXT) (k : Nat) (C : Addr) (m : Str) (sp : Sp) : Prop where
  ex : ∃ (p f : Addr) (fd : FuncData) (ps : List Str), FnOk P w K mg base CX k f fd ps sp ∧ PropOf K C m p f ∧ Binds K fd ps []
section
variable {P : Program} {w : World} {K : PySem.W.Frag} {mg : Str → Option Value} {base : Heap} {C : Addr} {m q : Str} {st : Stmt} {ps : List Str} {f pf : Addr} {fd : FuncData} {N : List Str} {k : Nat} {sp : Sp}
theorem Dm.ok (D : Dm K C m q st ps f fd) (S : FnScope N ps (defScope st)) (len : ∀ vs H Q E, sp vs H Q E → vs.length = ps.length)
    (hbody : ∀ (cdv : Value) (A : Around) (outer : List Env) (s : Shared) (H : Hp) (vs : List V) (Q : VK) (E : XK), Room k (A.deeper (envOfC q (defScope st) s.heap.objs.size f cdv)) → sp vs H Q E →
      ∃ t, PSs (cxOf CX0 P w K mg base N q (defScope st) f cdv A outer s H E).nox (defBody st) t ∧ t { nx := fun _ H' => Q .non H', rt := Q } (start N vs) H) : CalM P w K mg base CX0 (k + 1) C m sp :=
  ⟨f, fd, ps, D.fn.ok S len hbody, D.me, D.bn⟩
theorem Dm.okX (D : Dm K C m q st ps f fd) (S : FnScope N ps (defScope st)) (len : ∀ vs H Q E, sp vs H Q E → vs.length = ps.length)
    (hbody : ∀ (cdv : Value) (A : Around) (outer : List Env) (s : Shared) (H : Hp) (vs : List V) (Q : VK) (E : XK), Room k (A.deeper (envOfC q (defScope st) s.heap.objs.size f cdv)) → sp vs H Q E →
      ∃ t, PSs (cxOf (L2.CX P w) P w K mg base N q (defScope st) f cdv A outer s H E) (defBody st) t ∧ t { nx := fun _ H' => Q .non H', rt := Q } (start N vs) H) : CalM P w K mg base (L2.CX P w) (k + 1) C m sp :=
  ⟨f, fd, ps, D.fn.okX S len hbody, D.me, D.bn⟩
theorem Di.ok (D : Di K C q st ps f fd) (S : FnScope N ps (defScope st)) (len : ∀ vs H Q E, sp vs H Q E → vs.length = ps.length)
    (hbody : ∀ (cdv : Value) (A : Around) (outer : List Env) (s : Shared) (H : Hp) (vs : List V) (Q : VK) (E : XK), Room k (A.deeper (envOfC q (defScope st) s.heap.objs.size f cdv)) → sp vs H Q E →
      ∃ t, PSs (cxOf CX0 P w K mg base N q (defScope st) f cdv A outer s H E).nox (defBody st) t ∧ t { nx := fun _ H' => Q .non H', rt := Q } (start N vs) H) : CalI P w K mg base CX0 (k + 1) C sp :=
  ⟨f, fd, ps, D.fn.ok S len hbody, D.mke, D.bn⟩
theorem Dpr.ok (D : Dpr K C m q st ps pf f fd) (S : FnScope N ps (defScope st)) (len : ∀ vs H Q E, sp vs H Q E → vs.length = ps.length)
    (hbody : ∀ (cdv : Value) (A : Around) (outer : List Env) (s : Shared) (H : Hp) (vs : List V) (Q : VK) (E : XK), Room k (A.deeper (envOfC q (defScope st) s.heap.objs.size f cdv)) → sp vs H Q E →
      ∃ t, PSs (cxOf CX0 P w K mg base N q (defScope st) f cdv A outer s H E).nox (defBody st) t ∧ t { nx := fun _ H' => Q .non H', rt := Q } (start N vs) H) : CalP P w K mg base CX0 (k + 1) C m sp :=
  ⟨pf, f, fd, ps, D.fn.ok S len hbody, D.pr, D.bn⟩
end
section
variable {X : Cx} {k j : Nat} {C : Addr} {m x : Str} {sp : Sp} {p pos apos : Pos} {o e : Expr} {es : List Expr} {ta : TE} {t : TA}
theorem pe_calM (c : CalM X.prog X.w X.K X.mg X.base CX0 k C m sp) (cl : Cls X.K C) (hr : Room j X.A) (hk : k ≤ j) (ho : PE X o ta) (ha : PA X (e :: es) t) {pl : Sem Bool}
    (hst : starEach (e :: es) X.env = (false, eval e X.env) :: starEach es X.env := by rfl) (hpl : (backTo pos (starEach es X.env)).any (·.1) = false := by rfl)
    (ht : eval (.Call (.Attribute o m apos) (e :: es) [] pos) X.env = (do
      let ov ← eval o X.env
      standAt apos.atName
      let (f, first) ← holding [ov] (getMethod ov m pl)
      callWith pos f first (backTo pos (starEach (e :: es) X.env)) (backToKw pos (keywordEach [] X.env))) := by rfl) :
    PE X (.Call (.Attribute o m apos) (e :: es) [] pos) (tMeth C m sp [] E0 ta t) := by
  obtain ⟨f, fd, ps, F, me, b⟩ := c.ex
  exact pe_meth ho cl me F (hr.mono hk) b .nil pass0 ha hst hpl ht
theorem pe_calM0 (c : CalM X.prog X.w X.K X.mg X.base CX0 k C m sp) (cl : Cls X.K C) (hr : Room j X.A) (hk : k ≤ j) (ho : PE X o ta) {pl : Sem Bool}
    (ht : eval (.Call (.Attribute o m apos) [] [] pos) X.env = (do
      let ov ← eval o X.env
      standAt apos.atName
      let (f, first) ← holding [ov] (getMethod ov m pl)
      callWith pos f first (backTo pos (starEach [] X.env)) (backToKw pos (keywordEach [] X.env))) := by rfl) :
    PE X (.Call (.Attribute o m apos) [] [] pos) (tMeth C m sp [] E0 ta tNil) := by
  obtain ⟨f, fd, ps, F, me, b⟩ := c.ex
  exact pe_meth0 ho cl me F (hr.mono hk) b .nil pass0 ht
theorem pe_calI (c : CalI X.prog X.w X.K X.mg X.base CX0 k C sp) (gC : X.mg x = some (.ref C)) (hr : Room j X.A) (hk : k + 1 ≤ j) (hg : Gl X x) (ha : PA X (e :: es) t)
    (hdb : (x == ("__debug__" : Str)) = false := by decide) (he : starEach (e :: es) X.env = (false, eval e X.env) :: starEach es X.env := by rfl) (hpl : (backTo pos (starEach es X.env)).any (·.1) = false := by rfl) :
    PE X (.Call (.Name x p) (e :: es) [] pos) (tMake C sp [] E0 t) := by
  obtain ⟨f, fd, ps, F, mk, b⟩ := c.ex
  exact pe_make mk F (hr.mono hk) hg gC b .nil pass0 ha hdb he hpl
theorem pe_calI0 (c : CalI X.prog X.w X.K X.mg X.base CX0 k C sp) (gC : X.mg x = some (.ref C)) (hr : Room j X.A) (hk : k + 1 ≤ j) (hg : Gl X x)
    (hdb : (x == ("__debug__" : Str)) = false := by decide) : PE X (.Call (.Name x p) [] [] pos) (tMake C sp [] E0 tNil) := by
  obtain ⟨f, fd, ps, F, mk, b⟩ := c.ex
  exact pe_make0 mk F (hr.mono hk) hg gC b .nil pass0 hdb
theorem pe_calP (c : CalP X.prog X.w X.K X.mg X.base CX0 k C m sp) (cl : Cls X.K C) (hr : Room j X.A) (hk : k + 1 ≤ j) (ho : PE X o ta)
    (hab : attributeBase o m X.env (eval o X.env) = eval o X.env) : PE X (.Attribute o m pos) (tProp C sp [] E0 ta) := by
  obtain ⟨q, f, fd, ps, F, pr, b⟩ := c.ex
  exact pe_prop ho cl pr F (hr.mono hk) b .nil pass0 hab
end
/-! the steps -/
section
variable {K : PySem.W.Frag} {M G H : Hp} {σ : L2.St} {x y v : V} {ta tv : TE} {tr : TA} {Q : VK} {D : Ends} {a C dx : Addr} {fs : List (Str × V)} {f m : Str} {sp : Sp} {dvs : List V} {E : XK}
def FldX (K : PySem.W.Frag) (f : Str) (x : V) (H1 : Hp) (Q : VK) : Prop := ∃ a C dx fs v, x = .ref a ∧ H1 a = some (.ins C dx fs) ∧ Cls K C ∧ NoAttr K C f ∧ fs.lookup f = some v ∧ Q v H1
theorem w_fld (h : ta σ H fun x H1 => FldX K f x H1 Q) : tFld K ta f σ H Q := h
theorem w_fldM (j : J M G H) (h : M a = some (.ins C dx fs)) (c : Cls K C) (n : NoAttr K C f) (l : fs.lookup f = some v) (q : Q v H) : FldX K f (.ref a) H Q := ⟨a, C, dx, fs, v, rfl, j.m _ _ h, c, n, l, q⟩
theorem w_fldG (j : J M G H) (h : G a = some (.ins C dx fs)) (c : Cls K C) (n : NoAttr K C f) (l : fs.lookup f = some v) (q : Q v H) : FldX K f (.ref a) H Q := ⟨a, C, dx, fs, v, rfl, j.g _ _ h, c, n, l, q⟩
def SetX (K : PySem.W.Frag) (f : Str) (x y : V) (H2 : Hp) (R : Hp → Prop) : Prop := ∃ a C dx fs, x = .ref a ∧ H2 a = some (.ins C dx fs) ∧ Cls K C ∧ NoAttr K C f ∧ fs.length < 1000 ∧ R (upd H2 a (.ins C dx (putF f y fs)))
theorem w_sfld (h : tv σ H fun y H1 => ta σ H1 fun x H2 => SetX K f x y H2 (D.nx σ)) : sFld K ta tv f D σ H := h
theorem w_setX {R : Hp → Prop} (j : J M G H) (h : M a = some (.ins C dx fs)) (c : Cls K C) (n : NoAttr K C f) (l : fs.length < 1000) (q : ∀ H', J (upd M a (.ins C dx (putF f y fs))) G H' → R H') : SetX K f (.ref a) y H R :=
  ⟨a, C, dx, fs, rfl, j.m _ _ h, c, n, l, q _ (j.put h)⟩
def MethX (C : Addr) (m : Str) (sp : Sp) (dvs : List V) (E : XK) (t : TA) (σ : L2.St) (x : V) (H1 : Hp) (Q : VK) : Prop := ∃ a dx fs, x = .ref a ∧ H1 a = some (.ins C dx fs) ∧ fs.lookup m = none ∧ t σ H1 fun vs H2 => sp (x :: (vs ++ dvs)) H2 Q E
theorem w_meth (h : ta σ H fun x H1 => MethX C m sp dvs E tr σ x H1 Q) : tMeth C m sp dvs E ta tr σ H Q := h
theorem w_methM (j : J M G H) (h : M a = some (.ins C dx fs)) (l : fs.lookup m = none) (q : tr σ H fun vs H2 => sp (.ref a :: (vs ++ dvs)) H2 Q E) : MethX C m sp dvs E tr σ (.ref a) H Q := ⟨a, dx, fs, rfl, j.m _ _ h, l, q⟩
theorem w_methG (j : J M G H) (h : G a = some (.ins C dx fs)) (l : fs.lookup m = none) (q : tr σ H fun vs H2 => sp (.ref a :: (vs ++ dvs)) H2 Q E) : MethX C m sp dvs E tr σ (.ref a) H Q := ⟨a, dx, fs, rfl, j.g _ _ h, l, q⟩
def PropX (C : Addr) (sp : Sp) (dvs : List V) (E : XK) (x : V) (H1 : Hp) (Q : VK) : Prop := ∃ a dx fs, x = .ref a ∧ H1 a = some (.ins C dx fs) ∧ sp (.ref a :: dvs) H1 Q E
theorem w_prop (h : ta σ H fun x H1 => PropX C sp dvs E x H1 Q) : tProp C sp dvs E ta σ H Q := h
theorem w_propM (j : J M G H) (h : M a = some (.ins C dx fs)) (q : sp (.ref a :: dvs) H Q E) : PropX C sp dvs E (.ref a) H Q := ⟨a, dx, fs, rfl, j.m _ _ h, q⟩
theorem w_propG (j : J M G H) (h : G a = some (.ins C dx fs)) (q : sp (.ref a :: dvs) H Q E) : PropX C sp dvs E (.ref a) H Q := ⟨a, dx, fs, rfl, j.g _ _ h, q⟩
/-- C(..): what is asked behind the arguments -/
def MakeX (C : Addr) (sp : Sp) (dvs : List V) (E : XK) (vs : List V) (H1 : Hp) (Q : VK) : Prop := ∀ x dx, H1 x = none → H1 dx = none → dx ≠ x →
  sp (.ref x :: (vs ++ dvs)) (upd (upd H1 dx (.own x)) x (.ins C dx [])) (fun v H2 => v = .non ∧ Q (.ref x) H2) E
theorem w_make (h : tr σ H fun vs H1 => MakeX C sp dvs E vs H1 Q) : tMake C sp dvs E tr σ H Q := h
/-- a new instance, owned; its dict stands nowhere in M, G -/
theorem w_makeX {vs : List V} (j : J M G H) (q : ∀ x dx H', J (upd M x (.ins C dx [])) G H' → M x = none → G x = none → sp (.ref x :: (vs ++ dvs)) H' (fun v H2 => v = .non ∧ Q (.ref x) H2) E) : MakeX C sp dvs E vs H Q := by
  intro x dx hx hd ne
  have j1 : J M G (upd H dx (.own x)) := ⟨fun a o e => by rw [upd_ne (ne_of_none (j.m a o e) hd)]; exact j.m a o e, fun a o e => by rw [upd_ne (ne_of_none (j.g a o e) hd)]; exact j.g a o e, j.d⟩
  exact q x dx _ (j1.newM (by rw [upd_ne ne.symm]; exact hx)) (j.freeM hx) (j.freeG hx)
end
/-! zip of two lists, as far as both go -/
def ZipX (K : PySem.W.Frag) (g : TG) (t : TS) (D : Ends) (σ : L2.St) (vs : List V) (H1 : Hp) : Prop := ∃ a b xs ys, vs = [.ref a, .ref b] ∧ SqL K H1 a xs ∧ SqL K H1 b ys ∧ ∃ W : Nat → Nat → L2.St → Hp → Prop, (∃ m, W 0 m σ H1) ∧ ∀ i m σ H, W i m σ H →
      ((Itz K a b).stop i H ∧ D.nx σ H) ∨ ((Itz K a b).go i H ∧ ∃ N : L2.St → Hp → Prop, (∀ σ' H', N σ' H' → ∃ m', m' < m ∧ W (i + 1) m' σ' H') ∧ ∀ v H', (Itz K a b).yld i H v H' → g v σ H' fun σ2 H2 => t { D with nx := N, ct := N, bk := D.nx } σ2 H2)
theorem w_forZ {K : PySem.W.Frag} {ta : TA} {g : TG} {t : TS} {D : Ends} {σ : L2.St} {H : Hp} (h : ta σ H fun vs H1 => ZipX K g t D σ vs H1) : tFor (iZip K ta) g t D σ H := h
theorem w_zip {K : PySem.W.Frag} {a b : Addr} {xs ys : List V} {g : TG} {tb : TS} {D : Ends} {σ : L2.St} {H : Hp} (Pv : Nat → L2.St → Hp → Prop) (h0 : Pv 0 σ H) (hq : ∀ i σ H, Pv i σ H → SqL K H a xs ∧ SqL K H b ys)
    (hs : ∀ (i : Nat) (x y : V) (T : Addr) (σ : L2.St) (H : Hp), xs[i]? = some x → ys[i]? = some y → Pv i σ H → H T = none → g (.ref T) σ (upd H T (.tup [x, y])) fun σ2 H2 => tb { D with nx := Pv (i + 1), ct := Pv (i + 1), bk := D.nx } σ2 H2) (hd : ∀ σ H, Pv (min xs.length ys.length) σ H → D.nx σ H) :
    ZipX K g tb D σ [.ref a, .ref b] H := by
  obtain ⟨q1, q2⟩ := hq 0 σ H h0
  refine ⟨a, b, xs, ys, rfl, q1, q2, fun i m σ H => m = min xs.length ys.length - i ∧ i ≤ min xs.length ys.length ∧ Pv i σ H, ⟨_, rfl, Nat.zero_le _, h0⟩, ?_⟩
  rintro i m σ H ⟨rfl, hi, p⟩
  obtain ⟨qx, qy⟩ := hq i σ H p
  by_cases hlt : i < min xs.length ys.length
  · have hx : xs[i]? = some xs[i] := List.getElem?_eq_getElem (by omega)
    have hy : ys[i]? = some ys[i] := List.getElem?_eq_getElem (by omega)
    refine .inr ⟨⟨xs, ys, _, _, qx, qy, hx, hy⟩, Pv (i + 1), fun σ' H' p' => ⟨min xs.length ys.length - (i + 1), by omega, rfl, hlt, p'⟩, fun v H' y => ?_⟩
    obtain ⟨T, x', y', rfl, hT, rfl, f1, f2⟩ := y
    exact hs i x' y' T σ H (f1 xs qx) (f2 ys qy) p hT
  · have e : i = min xs.length ys.length := by omega
    subst e
    exact .inl ⟨⟨xs, ys, qx, qy, by omega⟩, hd σ H p⟩
/-! for x in e, e a list -/
def ForX (K : PySem.W.Frag) (g : TG) (t : TS) (D : Ends) (σ : L2.St) (x : V) (H1 : Hp) : Prop := ∃ a, x = .ref a ∧ (∃ xs, SqL K H1 a xs) ∧ ∃ W : Nat → Nat → L2.St → Hp → Prop, (∃ m, W 0 m σ H1) ∧ ∀ i m σ H, W i m σ H →
      ((Itl K a).stop i H ∧ D.nx σ H) ∨ ((Itl K a).go i H ∧ ∃ N : L2.St → Hp → Prop, (∀ σ' H', N σ' H' → ∃ m', m' < m ∧ W (i + 1) m' σ' H') ∧ ∀ x H', (Itl K a).yld i H x H' → g x σ H' fun σ2 H2 => t { D with nx := N, ct := N, bk := D.nx } σ2 H2)
theorem w_forE {K : PySem.W.Frag} {tl : TE} {g : TG} {t : TS} {D : Ends} {σ : L2.St} {H : Hp} (h : tl σ H fun x H1 => ForX K g t D σ x H1) : tFor (iList K tl) g t D σ H := h
theorem w_forX {K : PySem.W.Frag} {a : Addr} {xs : List V} {g : TG} {t : TS} {D : Ends} {σ : L2.St} {H : Hp} (Pv : Nat → L2.St → Hp → Prop) (h0 : Pv 0 σ H) (hl : ∀ i σ H, i ≤ xs.length → Pv i σ H → SqL K H a xs)
    (hs : ∀ i x σ H, xs[i]? = some x → Pv i σ H → g x σ H fun σ2 H2 => t { D with nx := Pv (i + 1), ct := Pv (i + 1), bk := D.nx } σ2 H2) (hd : ∀ σ H, Pv xs.length σ H → D.nx σ H) : ForX K g t D σ (.ref a) H :=
  ⟨a, rfl, ⟨xs, hl 0 σ H (Nat.zero_le _) h0⟩, for_list Pv h0 hl hs hd⟩
local macro_rules
  | `(tactic| walk_at "v") => `(tactic| first
    | with_reducible refine w_fld ?_
    | with_reducible refine w_sfld ?_
    | with_reducible refine w_meth ?_
    | with_reducible refine w_prop ?_
    | with_reducible refine w_make ?_
    | with_reducible refine w_forZ ?_
    | with_reducible refine w_forE (tl := tFld _ _ _) ?_
    | with_reducible refine w_forE (tl := tOp _ _ _) ?_
    | with_reducible refine w_forE (tl := tCB _ _) ?_
    | with_reducible refine w_forE (tl := tLst _) ?_)
def ForTX (K : PySem.W.Frag) (g : TG) (t : TS) (D : Ends) (σ : L2.St) (x : V) (H1 : Hp) : Prop := ∃ a, x = .ref a ∧ (∃ xs, SqT K H1 a xs) ∧ ∃ W : Nat → Nat → L2.St → Hp → Prop, (∃ m, W 0 m σ H1) ∧ ∀ i m σ H, W i m σ H →
      ((Itt K a).stop i H ∧ D.nx σ H) ∨ ((Itt K a).go i H ∧ ∃ N : L2.St → Hp → Prop, (∀ σ' H', N σ' H' → ∃ m', m' < m ∧ W (i + 1) m' σ' H') ∧ ∀ x H', (Itt K a).yld i H x H' → g x σ H' fun σ2 H2 => t { D with nx := N, ct := N, bk := D.nx } σ2 H2)
theorem w_forTE {K : PySem.W.Frag} {tl : TE} {g : TG} {t : TS} {D : Ends} {σ : L2.St} {H : Hp} (h : tl σ H fun x H1 => ForTX K g t D σ x H1) : tFor (iTup K tl) g t D σ H := h
theorem w_forTX {K : PySem.W.Frag} {a : Addr} {xs : List V} {g : TG} {t : TS} {D : Ends} {σ : L2.St} {H : Hp} (Pv : Nat → L2.St → Hp → Prop) (h0 : Pv 0 σ H) (hl : ∀ i σ H, i ≤ xs.length → Pv i σ H → SqT K H a xs)
    (hs : ∀ i x σ H, xs[i]? = some x → Pv i σ H → g x σ H fun σ2 H2 => t { D with nx := Pv (i + 1), ct := Pv (i + 1), bk := D.nx } σ2 H2) (hd : ∀ σ H, Pv xs.length σ H → D.nx σ H) : ForTX K g t D σ (.ref a) H :=
  ⟨a, rfl, ⟨xs, hl 0 σ H (Nat.zero_le _) h0⟩, for_tup Pv h0 hl hs hd⟩
local macro_rules
  | `(tactic| walk_at "v") => `(tactic| first
    | with_reducible refine w_forTE (tl := tFld _ _ _) ?_
    | with_reducible refine w_forTE (tl := tOp _ _ _) ?_
    | with_reducible refine w_forTE (tl := tC _) ?_
    | with_reducible refine w_forE (tl := tC _) ?_
    | with_reducible refine w_forTE (tl := tCall _ _ _ _) ?_
    | with_reducible refine w_forE (tl := tCall _ _ _ _) ?_)
/-! ### class Disk -/
structure Tx_Disk (K : PySem.W.Frag) (mg : Str → Option Value) (C : Addr) : Prop where
  cl : Cls K C
  gC : mg "Disk" = some (.ref C)
  n_blocks : NoAttr K C "blocks"
  n_cache : NoAttr K C "cache"
  n_fresh : NoAttr K C "fresh"
  n_reach : NoAttr K C "reach"
def fl_Disk (x0 x1 x2 x3 : V) : List (Str × V) := [("blocks", x0), ("cache", x1), ("fresh", x2), ("reach", x3)]
theorem fl_Disk_blocks {x0 x1 x2 x3 : V} : (fl_Disk x0 x1 x2 x3).lookup ("blocks" : Str) = some x0 := lk_eq
theorem sf_Disk_blocks {x0 x1 x2 x3 y : V} : putF "blocks" y (fl_Disk x0 x1 x2 x3) = fl_Disk y x1 x2 x3 := pf_eq
theorem fl_Disk_cache {x0 x1 x2 x3 : V} : (fl_Disk x0 x1 x2 x3).lookup ("cache" : Str) = some x1 := (lk_ne (by decide +kernel : ¬ (("cache" : Str) = "blocks"))).trans (lk_eq)
theorem sf_Disk_cache {x0 x1 x2 x3 y : V} : putF "cache" y (fl_Disk x0 x1 x2 x3) = fl_Disk x0 y x2 x3 := pf_ne (by decide +kernel : ¬ (("blocks" : Str) = "cache")) (pf_eq)
theorem fl_Disk_fresh {x0 x1 x2 x3 : V} : (fl_Disk x0 x1 x2 x3).lookup ("fresh" : Str) = some x2 := (lk_ne (by decide +kernel : ¬ (("fresh" : Str) = "blocks"))).trans ((lk_ne (by decide +kernel : ¬ (("fresh" : Str) = "cache"))).trans (lk_eq))
theorem sf_Disk_fresh {x0 x1 x2 x3 y : V} : putF "fresh" y (fl_Disk x0 x1 x2 x3) = fl_Disk x0 x1 y x3 := pf_ne (by decide +kernel : ¬ (("blocks" : Str) = "fresh")) (pf_ne (by decide +kernel : ¬ (("cache" : Str) = "fresh")) (pf_eq))
theorem fl_Disk_reach {x0 x1 x2 x3 : V} : (fl_Disk x0 x1 x2 x3).lookup ("reach" : Str) = some x3 := (lk_ne (by decide +kernel : ¬ (("reach" : Str) = "blocks"))).trans ((lk_ne (by decide +kernel : ¬ (("reach" : Str) = "cache"))).trans ((lk_ne (by decide +kernel : ¬ (("reach" : Str) = "fresh"))).trans (lk_eq)))
theorem sf_Disk_reach {x0 x1 x2 x3 y : V} : putF "reach" y (fl_Disk x0 x1 x2 x3) = fl_Disk x0 x1 x2 y := pf_ne (by decide +kernel : ¬ (("blocks" : Str) = "reach")) (pf_ne (by decide +kernel : ¬ (("cache" : Str) = "reach")) (pf_ne (by decide +kernel : ¬ (("fresh" : Str) = "reach")) (pf_eq)))
theorem no_Disk {x0 x1 x2 x3 : V} {m : Str} (h_blocks : ¬ m = "blocks") (h_cache : ¬ m = "cache") (h_fresh : ¬ m = "fresh") (h_reach : ¬ m = "reach") : (fl_Disk x0 x1 x2 x3).lookup m = none := (lk_ne h_blocks).trans ((lk_ne h_cache).trans ((lk_ne h_fresh).trans ((lk_ne h_reach).trans (rfl))))
theorem nf_Disk_blocks {x0 : V} : putF "blocks" x0 ([] : List (Str × V)) = ([("blocks", x0)] : List (Str × V)) := rfl
theorem nf_Disk_cache {x0 x1 : V} : putF "cache" x1 ([("blocks", x0)] : List (Str × V)) = ([("blocks", x0), ("cache", x1)] : List (Str × V)) := pf_ne (by decide +kernel : ¬ (("blocks" : Str) = "cache")) (rfl)
theorem nf_Disk_fresh {x0 x1 x2 : V} : putF "fresh" x2 ([("blocks", x0), ("cache", x1)] : List (Str × V)) = ([("blocks", x0), ("cache", x1), ("fresh", x2)] : List (Str × V)) := pf_ne (by decide +kernel : ¬ (("blocks" : Str) = "fresh")) (pf_ne (by decide +kernel : ¬ (("cache" : Str) = "fresh")) (rfl))
theorem nf_Disk_reach {x0 x1 x2 x3 : V} : putF "reach" x3 ([("blocks", x0), ("cache", x1), ("fresh", x2)] : List (Str × V)) = ([("blocks", x0), ("cache", x1), ("fresh", x2), ("reach", x3)] : List (Str × V)) := pf_ne (by decide +kernel : ¬ (("blocks" : Str) = "reach")) (pf_ne (by decide +kernel : ¬ (("cache" : Str) = "reach")) (pf_ne (by decide +kernel : ¬ (("fresh" : Str) = "reach")) (rfl)))
/-! ### class Journal -/
structure Tx_Journal (K : PySem.W.Frag) (mg : Str → Option Value) (C : Addr) : Prop where
  cl : Cls K C
  gC : mg "Journal" = some (.ref C)
  n_disk : NoAttr K C "disk"
  n_records : NoAttr K C "records"
  n_generation : NoAttr K C "generation"
  n_place : NoAttr K C "place"
def fl_Journal (x0 x1 x2 x3 : V) : List (Str × V) := [("disk", x0), ("records", x1), ("generation", x2), ("place", x3)]
theorem fl_Journal_disk {x0 x1 x2 x3 : V} : (fl_Journal x0 x1 x2 x3).lookup ("disk" : Str) = some x0 := lk_eq
theorem sf_Journal_disk {x0 x1 x2 x3 y : V} : putF "disk" y (fl_Journal x0 x1 x2 x3) = fl_Journal y x1 x2 x3 := pf_eq
theorem fl_Journal_records {x0 x1 x2 x3 : V} : (fl_Journal x0 x1 x2 x3).lookup ("records" : Str) = some x1 := (lk_ne (by decide +kernel : ¬ (("records" : Str) = "disk"))).trans (lk_eq)
theorem sf_Journal_records {x0 x1 x2 x3 y : V} : putF "records" y (fl_Journal x0 x1 x2 x3) = fl_Journal x0 y x2 x3 := pf_ne (by decide +kernel : ¬ (("disk" : Str) = "records")) (pf_eq)
theorem fl_Journal_generation {x0 x1 x2 x3 : V} : (fl_Journal x0 x1 x2 x3).lookup ("generation" : Str) = some x2 := (lk_ne (by decide +kernel : ¬ (("generation" : Str) = "disk"))).trans ((lk_ne (by decide +kernel : ¬ (("generation" : Str) = "records"))).trans (lk_eq))
theorem sf_Journal_generation {x0 x1 x2 x3 y : V} : putF "generation" y (fl_Journal x0 x1 x2 x3) = fl_Journal x0 x1 y x3 := pf_ne (by decide +kernel : ¬ (("disk" : Str) = "generation")) (pf_ne (by decide +kernel : ¬ (("records" : Str) = "generation")) (pf_eq))
theorem fl_Journal_place {x0 x1 x2 x3 : V} : (fl_Journal x0 x1 x2 x3).lookup ("place" : Str) = some x3 := (lk_ne (by decide +kernel : ¬ (("place" : Str) = "disk"))).trans ((lk_ne (by decide +kernel : ¬ (("place" : Str) = "records"))).trans ((lk_ne (by decide +kernel : ¬ (("place" : Str) = "generation"))).trans (lk_eq)))
theorem sf_Journal_place {x0 x1 x2 x3 y : V} : putF "place" y (fl_Journal x0 x1 x2 x3) = fl_Journal x0 x1 x2 y := pf_ne (by decide +kernel : ¬ (("disk" : Str) = "place")) (pf_ne (by decide +kernel : ¬ (("records" : Str) = "place")) (pf_ne (by decide +kernel : ¬ (("generation" : Str) = "place")) (pf_eq)))
theorem no_Journal {x0 x1 x2 x3 : V} {m : Str} (h_disk : ¬ m = "disk") (h_records : ¬ m = "records") (h_generation : ¬ m = "generation") (h_place : ¬ m = "place") : (fl_Journal x0 x1 x2 x3).lookup m = none := (lk_ne h_disk).trans ((lk_ne h_records).trans ((lk_ne h_generation).trans ((lk_ne h_place).trans (rfl))))
theorem nf_Journal_disk {x0 : V} : putF "disk" x0 ([] : List (Str × V)) = ([("disk", x0)] : List (Str × V)) := rfl
theorem nf_Journal_records {x0 x1 : V} : putF "records" x1 ([("disk", x0)] : List (Str × V)) = ([("disk", x0), ("records", x1)] : List (Str × V)) := pf_ne (by decide +kernel : ¬ (("disk" : Str) = "records")) (rfl)
theorem nf_Journal_generation {x0 x1 x2 : V} : putF "generation" x2 ([("disk", x0), ("records", x1)] : List (Str × V)) = ([("disk", x0), ("records", x1), ("generation", x2)] : List (Str × V)) := pf_ne (by decide +kernel : ¬ (("disk" : Str) = "generation")) (pf_ne (by decide +kernel : ¬ (("records" : Str) = "generation")) (rfl))
theorem nf_Journal_place {x0 x1 x2 x3 : V} : putF "place" x3 ([("disk", x0), ("records", x1), ("generation", x2)] : List (Str × V)) = ([("disk", x0), ("records", x1), ("generation", x2), ("place", x3)] : List (Str × V)) := pf_ne (by decide +kernel : ¬ (("disk" : Str) = "place")) (pf_ne (by decide +kernel : ¬ (("records" : Str) = "place")) (pf_ne (by decide +kernel : ¬ (("generation" : Str) = "place")) (rfl)))
/-! ### disks -/
structure DS where
  kb : List (Key × V)
  ca : List (Int × V)
  kf : List (Key × V)
  r : Int
structure DA where
  p : Addr
  b : Addr
  c : Addr
  f : Addr
  dx : Addr
inductive PrsAt (G : Hp) : List V → List (Int × V) → Prop
  | nil : PrsAt G [] []
  | cons {t : Addr} {n : Int} {v : V} {xs : List V} {qs : List (Int × V)} : G t = some (.tup [.int n, v]) → PrsAt G xs qs → PrsAt G (.ref t :: xs) ((n, v) :: qs)
theorem PrsAt.ex {G G' : Hp} (e : Ex G G') : ∀ {xs : List V} {qs : List (Int × V)}, PrsAt G xs qs → PrsAt G' xs qs
  | _, _, .nil => .nil
  | _, _, .cons h t => .cons (e _ _ h) (t.ex e)
theorem PrsAt.len {G : Hp} : ∀ {xs : List V} {qs : List (Int × V)}, PrsAt G xs qs → xs.length = qs.length
  | _, _, .nil => rfl
  | _, _, .cons _ t => by rw [List.length_cons, List.length_cons, t.len]
theorem PrsAt.snoc {G : Hp} {t : Addr} {n : Int} {v : V} (h : G t = some (.tup [.int n, v])) : ∀ {xs : List V} {qs : List (Int × V)}, PrsAt G xs qs → PrsAt G (xs ++ [.ref t]) (qs ++ [(n, v)])
  | _, _, .nil => .cons h .nil
  | _, _, .cons h' t => .cons h' (t.snoc h)
theorem PrsAt.get {G : Hp} : ∀ {xs : List V} {qs : List (Int × V)} {i : Nat} {x : V}, PrsAt G xs qs → xs[i]? = some x → ∃ t n v, x = .ref t ∧ G t = some (.tup [.int n, v]) ∧ qs[i]? = some (n, v)
  | _, _, _, _, .nil, e => by simp at e
  | _, _, 0, _, .cons h _, e => by
    have e := Option.some.inj e
    exact ⟨_, _, _, e.symm, h, rfl⟩
  | _, _, i + 1, _, .cons _ t, e => by
    obtain ⟨a, n, v, h1, h2, h3⟩ := t.get (i := i) (by simpa using e)
    exact ⟨a, n, v, h1, h2, by simpa using h3⟩
theorem PrsAt.at {G : Hp} {xs : List V} {qs : List (Int × V)} {i : Nat} (h : PrsAt G xs qs) (hi : i < qs.length) : ∃ t, xs[i]? = some (.ref t) ∧ G t = some (.tup [.int qs[i].1, qs[i].2]) := by
  have hx : i < xs.length := by rw [h.len]; exact hi
  obtain ⟨t, n, v, h1, h2, h3⟩ := h.get (List.getElem?_eq_getElem hx)
  have e := List.getElem?_eq_getElem hi
  rw [h3] at e
  have e := Option.some.inj e
  refine ⟨t, by rw [List.getElem?_eq_getElem hx, h1], ?_⟩
  rw [← e]; exact h2
def putC (kv : List (Key × V)) (q : Int × V) : List (Key × V) := putK kv (.inl q.1) q.2
def fateC (kb : List (Key × V)) (z : (Int × V) × Int) : List (Key × V) := if z.2 = 1 then putC kb z.1 else if z.2 = 2 then putK kb (.inl z.1.1) .non else kb
def selC (n : Int) (b : V) (q : Int × V) : V := if q.1 = n then q.2 else b
def lookM (s : DS) (n : Int) : V := (valV s.kf (.inl n)).getD ((valV s.kb (.inl n)).getD .non)
def seenM (kb : List (Key × V)) (ca : List (Int × V)) (n : Int) : V := ca.foldl (selC n) ((valV kb (.inl n)).getD .non)
theorem sel_put (n : Int) (b : V) : ∀ (ca : List (Int × V)) (kf : List (Key × V)), ca.foldl (selC n) ((valV kf (.inl n)).getD b) = (valV (ca.foldl putC kf) (.inl n)).getD b
  | [], kf => rfl
  | q :: r, kf => by
    rw [List.foldl_cons, List.foldl_cons, ← sel_put n b r (putC kf q)]
    congr 1
    unfold selC putC
    rw [valV_put]
    by_cases h : q.1 = n
    · rw [if_pos h, if_pos (by rw [h])]; rfl
    · rw [if_neg h, if_neg (fun z => h (Sum.inl.inj z).symm)]
theorem seen_look {s : DS} (h : s.kf = s.ca.foldl putC []) (n : Int) : lookM s n = seenM s.kb s.ca n := by
  unfold lookM seenM
  rw [h, ← sel_put n _ s.ca []]
  rfl
def AllB (P : V → Prop) (kv : List (Key × V)) : Prop := ∀ k v, valV kv k = some v → P v
theorem AllB.nil {P : V → Prop} : AllB P [] := fun k v h => by cases h
theorem AllB.put {P : V → Prop} {kv : List (Key × V)} (h : AllB P kv) (k : Key) {v : V} (hv : P v) : AllB P (putK kv k v) := fun j u e => by
  rw [valV_put] at e
  split at e
  · exact Option.some.inj e ▸ hv
  · exact h _ _ e
theorem AllB.puts {P : V → Prop} : ∀ {ca : List (Int × V)} {kv : List (Key × V)}, AllB P kv → (∀ q ∈ ca, P q.2) → AllB P (ca.foldl putC kv)
  | [], _, h, _ => h
  | q :: r, kv, h, hq => AllB.puts (ca := r) (h.put _ (hq q List.mem_cons_self)) fun x m => hq x (List.mem_cons_of_mem _ m)
theorem AllB.fate {P : V → Prop} {kv : List (Key × V)} {z : (Int × V) × Int} (h : AllB P kv) (hv : P z.1.2) (h0 : P .non) : AllB P (fateC kv z) := by
  unfold fateC
  split
  · exact h.put _ hv
  · split
    · exact h.put _ h0
    · exact h
theorem AllB.fates {P : V → Prop} (h0 : P .non) : ∀ {zs : List ((Int × V) × Int)} {kv : List (Key × V)}, AllB P kv → (∀ z ∈ zs, P z.1.2) → AllB P (zs.foldl fateC kv)
  | [], _, h, _ => h
  | q :: r, kv, h, hq => AllB.fates h0 (zs := r) (h.fate (hq q List.mem_cons_self) h0) fun x m => hq x (List.mem_cons_of_mem _ m)
theorem putK_len' (c : List (Key × V)) (k : Key) (x : V) : (putK c k x).length ≤ c.length + 1 := by
  unfold putK
  split
  · rw [List.length_map]; omega
  · rw [List.length_append]; exact Nat.le_refl _
theorem puts_len : ∀ (ca : List (Int × V)) (kv : List (Key × V)), (ca.foldl putC kv).length ≤ kv.length + ca.length
  | [], _ => Nat.le_refl _
  | q :: r, kv => by
    have h := puts_len r (putC kv q)
    have h2 : (putC kv q).length ≤ kv.length + 1 := putK_len' _ _ _
    rw [List.foldl_cons, List.length_cons]; omega
theorem fate_len (kv : List (Key × V)) (z : (Int × V) × Int) : (fateC kv z).length ≤ kv.length + 1 := by
  unfold fateC
  split
  · exact putK_len' _ _ _
  · split
    · exact putK_len' _ _ _
    · exact Nat.le_succ _
theorem fates_len : ∀ (zs : List ((Int × V) × Int)) (kv : List (Key × V)), (zs.foldl fateC kv).length ≤ kv.length + zs.length
  | [], _ => Nat.le_refl _
  | q :: r, kv => by
    have h := fates_len r (fateC kv q)
    have h2 := fate_len kv q
    rw [List.foldl_cons, List.length_cons]; omega
/-- the disk stands in a heap N, its tuples in G -/
structure DkAt (C : Addr) (N G : Hp) (d : DA) (s : DS) : Prop where
  op : N d.p = some (.ins C d.dx (fl_Disk (.ref d.b) (.ref d.c) (.ref d.f) (.int s.r)))
  ob : N d.b = some (.dK s.kb)
  oc : ∃ xs, N d.c = some (.lst xs) ∧ PrsAt G xs s.ca
  of : N d.f = some (.dK s.kf)
  bf : d.b ≠ d.f
def Fr (d : DA) (M M' : Hp) : Prop := ∀ a o, M a = some o → a ≠ d.p → a ≠ d.b → a ≠ d.c → a ≠ d.f → M' a = some o
theorem Fr.refl {d : DA} {M : Hp} : Fr d M M := fun _ _ e _ _ _ _ => e
def Sub (N M G : Hp) : Prop := ∀ a o, N a = some o → M a = some o ∨ G a = some o
theorem Sub.m {M G : Hp} : Sub M M G := fun _ _ e => .inl e
theorem Sub.g {M G : Hp} : Sub G M G := fun _ _ e => .inr e
theorem Sub.hp {N M G H : Hp} (s : Sub N M G) (j : J M G H) : Same N H := fun a o e => (s a o e).elim (j.m a o) (j.g a o)
theorem Sub.hd {N M G : Hp} {a : Addr} {kvs : List (Key × V)} (s : Sub N M G) (h : N a = some (.dK kvs)) : Hd M G a kvs := (s _ _ h).elim .inl fun h => .inr (.inl h)
theorem DkAt.ex {C : Addr} {N G G' : Hp} {d : DA} {s : DS} (h : DkAt C N G d s) (e : Ex G G') : DkAt C N G' d s := by
  obtain ⟨xs, h1, h2⟩ := h.oc
  exact ⟨h.op, h.ob, ⟨xs, h1, h2.ex e⟩, h.of, h.bf⟩
theorem DkAt.mv {C : Addr} {N N' G : Hp} {d : DA} {s : DS} (h : DkAt C N G d s) (h1 : N' d.p = N d.p) (h2 : N' d.b = N d.b) (h3 : N' d.c = N d.c) (h4 : N' d.f = N d.f) : DkAt C N' G d s := by
  obtain ⟨xs, hc, hx⟩ := h.oc
  exact ⟨h1.trans h.op, h2.trans h.ob, ⟨xs, h3.trans hc, hx⟩, h4.trans h.of, h.bf⟩
/-- kinds that differ -/
theorem ne_k {H : Hp} {a b : Addr} {o u : HO} (h1 : H a = some o) (h2 : H b = some u) (h : o ≠ u) : a ≠ b := fun z => by subst z; rw [h1] at h2; exact h (Option.some.inj h2)
theorem w_fldS {K : PySem.W.Frag} {N M G H : Hp} {a C dx : Addr} {fs : List (Str × V)} {f : Str} {v : V} {Q : VK} (j : J M G H) (s : Sub N M G) (h : N a = some (.ins C dx fs)) (c : Cls K C) (n : NoAttr K C f) (l : fs.lookup f = some v) (q : Q v H) : FldX K f (.ref a) H Q :=
  ⟨a, C, dx, fs, v, rfl, s.hp j _ _ h, c, n, l, q⟩
theorem w_lenS {K : PySem.W.Frag} {N M G H : Hp} {a : Addr} {xs : List V} {Q : VK} (j : J M G H) (s : Sub N M G) (h : N a = some (.lst xs)) (q : Q (.int xs.length) H) : uLen K [.ref a] H Q := .inl ⟨a, xs, rfl, .inl (.inl (.inl (s.hp j _ _ h))), q⟩
theorem w_ixS {K : PySem.W.Frag} {N M G H : Hp} {a : Addr} {xs : List V} {m : Int} {v : V} {Q : VK} (j : J M G H) (s : Sub N M G) (h : N a = some (.lst xs)) (e : atI xs m = some v) (q : Q v H) : uIx K (.ref a) (.int m) H Q :=
  .inl ⟨a, xs, m, v, rfl, rfl, .inl (.inl (s.hp j _ _ h)), e, q⟩
theorem w_methS {C dx : Addr} {N M G H : Hp} {a : Addr} {fs : List (Str × V)} {m : Str} {sp : Sp} {dvs : List V} {E : XK} {tr : TA} {σ : L2.St} {Q : VK} (j : J M G H) (s : Sub N M G) (h : N a = some (.ins C dx fs)) (l : fs.lookup m = none) (q : tr σ H fun vs H2 => sp (.ref a :: (vs ++ dvs)) H2 Q E) :
    MethX C m sp dvs E tr σ (.ref a) H Q := ⟨a, dx, fs, rfl, s.hp j _ _ h, l, q⟩
theorem w_propS {C dx : Addr} {N M G H : Hp} {a : Addr} {fs : List (Str × V)} {sp : Sp} {dvs : List V} {E : XK} {Q : VK} (j : J M G H) (s : Sub N M G) (h : N a = some (.ins C dx fs)) (q : sp (.ref a :: dvs) H Q E) : PropX C sp dvs E (.ref a) H Q := ⟨a, dx, fs, rfl, s.hp j _ _ h, q⟩
theorem take_one' {α : Type} {l : List α} {i : Nat} {x : α} (h : l[i]? = some x) : l.take (i + 1) = l.take i ++ [x] := by rw [List.take_add_one, h]; rfl
theorem putF_len (f : Str) (v : V) : ∀ fs : List (Str × V), (putF f v fs).length ≤ fs.length + 1
  | [] => Nat.le_refl _
  | (g, x) :: r => by
    show (if g = f then (g, v) :: r else (g, x) :: putF f v r).length ≤ _
    split
    · simp
    · have := putF_len f v r; simp; omega
/-! ### Disk.wipe -/
abbrev s_Disk_wipe : Stmt := inClass (top 31) 1
abbrev n_Disk_wipe : List Str := ["self"]
theorem sc_Disk_wipe : FnScope n_Disk_wipe ["self"] (defScope s_Disk_wipe) := ⟨rfl, rfl, rfl, by decide +kernel, rfl, by decide +kernel, by decide +kernel⟩
def DkNew (C : Addr) (x : Addr × Addr) (M : Hp) (v : V) (M' G' : Hp) : Prop := v = .non ∧ ∃ b c f, DkAt C M' G' ⟨x.1, b, c, f, x.2⟩ ⟨[], [], [], 0⟩ ∧ (∀ a o, M a = some o → a ≠ x.1 → M' a = some o) ∧ M b = none ∧ M c = none ∧ M f = none
def sp_Disk_wipe (K : PySem.W.Frag) (C : Addr) : Sp := Sg (α := Addr × Addr) (fun x vs M _ => vs = [.ref x.1] ∧ ∃ fs, M x.1 = some (.ins C x.2 fs) ∧ (fs = [] ∨ ∃ x0 x1 x2 x3, fs = fl_Disk x0 x1 x2 x3)) (fun x M _ v M' G' => DkNew C x M v M' G')
theorem ok_Disk_wipe {P : Program} {w : World} {K : PySem.W.Frag} {mg : Str → Option Value} {base : Heap}
    {C_Disk : Addr} (T_Disk : Tx_Disk K mg C_Disk)
    {f : Addr} {fd : FuncData} (D : Dm K C_Disk "wipe" "Disk.wipe" s_Disk_wipe ["self"] f fd) : CalM P w K mg base CX0 1 C_Disk "wipe" (sp_Disk_wipe K C_Disk) := by
  refine D.ok sc_Disk_wipe (fun vs H Q E h => ?_) fun cdv A outer s H vs Q E hr h => ?_
  · obtain ⟨x, M, G, j, ⟨rfl, _⟩, _⟩ := h; rfl
  obtain ⟨⟨p, dx⟩, M, G, j, ⟨rfl, fs, hp, hfs⟩, k⟩ := h
  dsimp only at hp k
  refine ⟨_, (pss_cons (ps_fld (pv 0) pe_dnewK rfl)
(pss_cons (ps_fld (pv 0) (pe_lst pa_nil) rfl)
(pss_cons (ps_fld (pv 0) pe_dnewK rfl)
(pss_one (ps_fld (pv 0) pe_int rfl))))), ?_⟩
  have hl : fs.length ≤ 4 := by rcases hfs with rfl | ⟨_, _, _, _, rfl⟩ <;> first | exact Nat.zero_le _ | exact Nat.le_refl _
  walk_at "start"
  refine w_newM j (Nat.zero_le _) fun b H1 j1 nb gb => ?_
  walk_at "go"
  have pb : p ≠ b := ne_of_none hp nb
  refine w_setX j1 (upd_ne' hp pb) T_Disk.cl T_Disk.n_blocks (by omega) fun H2 j2 => ?_
  walk_at "go"
  refine w_newM j2 (Nat.zero_le _) fun c H3 j3 nc gc => ?_
  walk_at "go"
  have pc : p ≠ c := fun z => by subst z; rw [upd_same] at nc; cases nc
  have l1 := putF_len "blocks" (.ref b) fs
  refine w_setX j3 (upd_ne' upd_same pc) T_Disk.cl T_Disk.n_cache (by omega) fun H4 j4 => ?_
  walk_at "go"
  refine w_newM j4 (Nat.zero_le _) fun f H5 j5 nf gf => ?_
  walk_at "go"
  have pf : p ≠ f := fun z => by subst z; rw [upd_same] at nf; cases nf
  have l2 := putF_len "cache" (.ref c) (putF "blocks" (.ref b) fs)
  refine w_setX j5 (upd_ne' upd_same pf) T_Disk.cl T_Disk.n_fresh (by omega) fun H6 j6 => ?_
  walk_at "go"
  have l3 := putF_len "fresh" (.ref f) (putF "cache" (.ref c) (putF "blocks" (.ref b) fs))
  refine w_setX j6 upd_same T_Disk.cl T_Disk.n_reach (by omega) fun H7 j7 => ?_
  walk_at "go"
  have nc' : M c = none := by
    have h := nc
    rw [upd_ne pc.symm] at h
    by_cases q : c = b
    · subst q; rw [upd_same] at h; cases h
    · rwa [upd_ne q] at h
  have cb : c ≠ b := fun q => by subst q; rw [upd_ne pc.symm, upd_same] at nc; cases nc
  have fc : f ≠ c := fun q => by subst q; rw [upd_ne pf.symm, upd_same] at nf; cases nf
  have fb : f ≠ b := fun q => by subst q; rw [upd_ne pf.symm, upd_ne fc, upd_ne pf.symm, upd_same] at nf; cases nf
  have nf' : M f = none := by
    have h := nf
    rwa [upd_ne pf.symm, upd_ne fc, upd_ne pf.symm, upd_ne fb] at h
  have ef : putF "reach" (.int 0) (putF "fresh" (.ref f) (putF "cache" (.ref c) (putF "blocks" (.ref b) fs))) = fl_Disk (.ref b) (.ref c) (.ref f) (.int 0) := by
    rcases hfs with rfl | ⟨_, _, _, _, rfl⟩
    · rw [nf_Disk_blocks, nf_Disk_cache, nf_Disk_fresh, nf_Disk_reach]; rfl
    · rw [sf_Disk_blocks, sf_Disk_cache, sf_Disk_fresh, sf_Disk_reach]
  refine k _ _ _ _ j7 (Same.refl G) ⟨rfl, b, c, f, ⟨?_, ?_, ⟨[], ?_, .nil⟩, ?_, fb.symm⟩, fun a o e n => ?_, nb, nc', nf'⟩
  · rw [← ef]; exact upd_same
  · rw [upd_ne pb.symm, upd_ne pb.symm, upd_ne fb.symm, upd_ne pb.symm, upd_ne cb.symm, upd_ne pb.symm, upd_same]
  · rw [upd_ne pc.symm, upd_ne pc.symm, upd_ne fc.symm, upd_ne pc.symm, upd_same]
  · rw [upd_ne pf.symm, upd_ne pf.symm, upd_same]
  · have na := ne_of_none e nb
    have nc2 := ne_of_none e nc'
    have nf2 := ne_of_none e nf'
    rw [upd_ne n, upd_ne n, upd_ne nf2, upd_ne n, upd_ne nc2, upd_ne n, upd_ne na]; exact e
/-! ### Disk.__init__ -/
abbrev s_Disk___init__ : Stmt := inClass (top 31) 0
abbrev n_Disk___init__ : List Str := ["self"]
theorem sc_Disk___init__ : FnScope n_Disk___init__ ["self"] (defScope s_Disk___init__) := ⟨rfl, rfl, rfl, by decide +kernel, rfl, by decide +kernel, by decide +kernel⟩
def sp_Disk___init__ (K : PySem.W.Frag) (C : Addr) : Sp := Sg (α := Addr × Addr) (fun x vs M _ => vs = [.ref x.1] ∧ M x.1 = some (.ins C x.2 [])) (fun x M _ v M' G' => DkNew C x M v M' G')
theorem ok_Disk___init__ {P : Program} {w : World} {K : PySem.W.Frag} {mg : Str → Option Value} {base : Heap}
    {C_Disk : Addr} (T_Disk : Tx_Disk K mg C_Disk)
    {f : Addr} {fd : FuncData} (D : Di K C_Disk "Disk.__init__" s_Disk___init__ ["self"] f fd)
    (c_Disk_wipe : CalM P w K mg base CX0 1 C_Disk "wipe" (sp_Disk_wipe K C_Disk)) : CalI P w K mg base CX0 2 C_Disk (sp_Disk___init__ K C_Disk) := by
  refine D.ok sc_Disk___init__ (fun vs H Q E h => ?_) fun cdv A outer s H vs Q E hr h => ?_
  · obtain ⟨x, M, G, j, ⟨rfl, _⟩, _⟩ := h; rfl
  obtain ⟨⟨p, dx⟩, M, G, j, ⟨rfl, hp⟩, k⟩ := h
  dsimp only at hp k
  refine ⟨_, (pss_one (ps_expr (pe_calM0 c_Disk_wipe T_Disk.cl hr (by first | decide | omega) (pv 0)))), ?_⟩
  walk_at "start"
  refine w_methM j hp rfl ?_
  walk_at "go"
  refine w_sg (p, dx) j ⟨rfl, [], hp, .inl rfl⟩ fun v M1 G1 H1 j1 e1 h1 => ?_
  walk_at "go"
  exact k _ _ _ _ j1 e1 ⟨rfl, h1.2⟩
/-! ### records -/
/-- x is True, x is False, whatever x is -/
def rIsB : R2 := fun x y H Q => ∃ b, y = .bl b ∧ Q (.bl (decide (x = .bl b))) H
theorem op_isB {X : Cx} : OpR X (compareOp .Is) rIsB := by
  intro pins s σ H x y v u Q I rx ry h
  obtain ⟨b, rfl, q⟩ := h
  cases (show u = Value.bool b from ry)
  have ne : ∀ {v : Value}, plainIs v (.bool b) = true → v ≠ .bool b → x ≠ .bl b → wpAny (model X.prog X.w) X.A (compareOp .Is v (.bool b)) (EP X pins σ Q) X.xe s := fun hp hv hx =>
    wpAny_is_other hp hv ⟨.bl false, H, I, rfl, by rw [decide_eq_false hx] at q; exact q⟩
  cases x with
  | bl a =>
    cases (show v = Value.bool a from rx)
    by_cases e : a = b
    · subst e
      exact wpAny_is_self rfl ⟨.bl true, H, I, rfl, by simpa using q⟩
    · exact ne rfl (fun z => e (Value.bool.inj z)) fun z => e (V.bl.inj z)
  | non => cases (show v = Value.none from rx); exact ne rfl (fun z => nomatch z) fun z => nomatch z
  | int i => obtain ⟨t, rfl⟩ := (show ∃ t, v = Value.int i t from rx); exact ne rfl (fun z => nomatch z) fun z => nomatch z
  | str i => obtain ⟨t, rfl⟩ := (show ∃ t, v = Value.str i t from rx); exact ne rfl (fun z => nomatch z) fun z => nomatch z
  | byt i => obtain ⟨t, rfl⟩ := (show ∃ t, v = Value.bytes i t from rx); exact ne rfl (fun z => nomatch z) fun z => nomatch z
  | flt i => obtain ⟨t, rfl⟩ := (show ∃ t, v = Value.float i t from rx); exact ne rfl (fun z => nomatch z) fun z => nomatch z
  | ref i => cases (show v = Value.ref i from rx); exact ne rfl (fun z => nomatch z) fun z => nomatch z
  | ty i => cases (show v = Value.type i from rx); exact ne rfl (fun z => nomatch z) fun z => nomatch z
theorem w_isB {x : V} {b : Bool} {H : Hp} {Q : VK} (q : Q (.bl (decide (x = .bl b))) H) : rIsB x (.bl b) H Q := ⟨b, rfl, q⟩
inductive Rc where
  | non
  | bl (b : Bool)
  | int (i : Int)
  | str (s : Str)
  | tup (xs : List Rc)
  | oth
def WD : List Str := ["decided", "read", "away", "busy", "rows", "prepare", "prepared", "stale", "decide", "missing", "drop", "finish", "split", "none", "unknown", "next", "time", "counter", "table", "members", "follower", "candidate", "leader", "ask", "vote", "copy", "base", "got", "make", "term", "entry"]
def idxW (s : Str) : List Str → Nat
  | [] => 0
  | x :: r => if x = s then 0 else idxW s r + 1
theorem idxW_at {s : Str} : ∀ {l : List Str}, s ∈ l → l[idxW s l]? = some s ∧ ∀ m, m < idxW s l → l[m]? ≠ some s
  | [], h => by cases h
  | x :: r, h => by
    by_cases e : x = s
    · subst e
      rw [show idxW x (x :: r) = 0 from if_pos rfl]
      exact ⟨rfl, fun m hm => absurd hm (Nat.not_lt_zero m)⟩
    · rw [show idxW s (x :: r) = idxW s r + 1 from if_neg e]
      have hr : s ∈ r := by
        rcases List.mem_cons.mp h with h | h
        · exact absurd h.symm e
        · exact h
      obtain ⟨h1, h2⟩ := idxW_at hr
      refine ⟨by simpa using h1, fun m hm => ?_⟩
      cases m with
      | zero => intro z; exact e (Option.some.inj z)
      | succ m => simpa using h2 m (by omega)
def idx (s : Str) : Nat := idxW s WD
mutual
def cellsM : Rc → List Int
  | .non => [1]
  | .bl b => [2 + if b = true then 1 else 0]
  | .int i => [0, i]
  | .str s => [4, (idx s : Int)]
  | .tup xs => 5 :: (xs.length : Int) :: cellsL xs
  | .oth => []
def cellsL : List Rc → List Int
  | [] => []
  | x :: r => cellsM x ++ cellsL r
end
mutual
def goodM (n : Nat) : Rc → Bool
  | .non => true
  | .bl _ => true
  | .int _ => true
  | .str s => decide (s ∈ WD)
  | .tup xs => match n with
    | 0 => false
    | n + 1 => goodL n xs
  | .oth => false
def goodL (n : Nat) : List Rc → Bool
  | [] => true
  | x :: r => goodM n x && goodL n r
end
mutual
/-- nothing strange within -/
def pureM : Rc → Bool
  | .str s => decide (s ∈ WD)
  | .tup xs => pureL xs
  | .oth => false
  | .non => true
  | .bl _ => true
  | .int _ => true
def pureL : List Rc → Bool
  | [] => true
  | x :: r => pureM x && pureL r
end
mutual
def depthM : Rc → Nat
  | .tup xs => 1 + depthL xs
  | .str _ => 0
  | .oth => 0
  | .non => 0
  | .bl _ => 0
  | .int _ => 0
def depthL : List Rc → Nat
  | [] => 0
  | x :: r => max (depthM x) (depthL r)
end
mutual
theorem good_iff : ∀ (n : Nat) (r : Rc), goodM n r = (pureM r && decide (depthM r ≤ n))
  | n, .non => by simp [goodM, pureM, depthM]
  | n, .bl _ => by simp [goodM, pureM, depthM]
  | n, .int _ => by simp [goodM, pureM, depthM]
  | n, .str s => by simp [goodM, pureM, depthM]
  | n, .oth => by simp [goodM, pureM]
  | 0, .tup xs => by
    have h : ¬ (depthM (.tup xs) ≤ 0) := by simp only [depthM]; omega
    rw [decide_eq_false h, Bool.and_false]
    simp only [goodM]
  | n + 1, .tup xs => by
    simp only [goodM, pureM, depthM]
    rw [goods_iff n xs]
    congr 1
    exact decide_eq_decide.mpr (by omega)
theorem goods_iff : ∀ (n : Nat) (xs : List Rc), goodL n xs = (pureL xs && decide (depthL xs ≤ n))
  | n, [] => by simp [goodL, pureL, depthL]
  | n, x :: r => by
    have e : decide (depthL (x :: r) ≤ n) = (decide (depthM x ≤ n) && decide (depthL r ≤ n)) := by
      rw [← Bool.decide_and]; exact decide_eq_decide.mpr (by rw [depthL]; omega)
    rw [e, goodL, pureL, good_iff n x, goods_iff n r]
    cases pureM x <;> cases pureL r <;> cases decide (depthM x ≤ n) <;> cases decide (depthL r ≤ n) <;> rfl
end
mutual
inductive RcAt (K : PySem.W.Frag) (G : Hp) : V → Rc → Prop
  | non : RcAt K G .non .non
  | bl (b : Bool) : RcAt K G (.bl b) (.bl b)
  | int (i : Int) : RcAt K G (.int i) (.int i)
  | str (s : Str) : RcAt K G (.str s) (.str s)
  | tup {a : Addr} {xs : List V} {rs : List Rc} : SqT K G a xs → RcsAt K G xs rs → RcAt K G (.ref a) (.tup rs)
  | lst {a : Addr} {xs : List V} : SqL K G a xs → RcAt K G (.ref a) .oth
  | dic {a : Addr} {kvs : List (Key × V)} : Rd G a (.dK kvs) → RcAt K G (.ref a) .oth
inductive RcsAt (K : PySem.W.Frag) (G : Hp) : List V → List Rc → Prop
  | nil : RcsAt K G [] []
  | cons {v : V} {vs : List V} {r : Rc} {rs : List Rc} : RcAt K G v r → RcsAt K G vs rs → RcsAt K G (v :: vs) (r :: rs)
end
mutual
theorem RcAt.ex {K : PySem.W.Frag} {G G' : Hp} (e : Ex G G') : ∀ {v : V} {r : Rc}, RcAt K G v r → RcAt K G' v r
  | _, _, .non => .non
  | _, _, .bl b => .bl b
  | _, _, .int i => .int i
  | _, _, .str x => .str x
  | _, _, .tup h t => .tup (st_mono e h) (RcsAt.ex e t)
  | _, _, .lst h => .lst (sl_mono e h)
  | _, _, .dic h => .dic (rd_same e h)
theorem RcsAt.ex {K : PySem.W.Frag} {G G' : Hp} (e : Ex G G') : ∀ {vs : List V} {rs : List Rc}, RcsAt K G vs rs → RcsAt K G' vs rs
  | _, _, .nil => .nil
  | _, _, .cons h t => .cons (RcAt.ex e h) (RcsAt.ex e t)
end
theorem RcsAt.len {K : PySem.W.Frag} {G : Hp} : ∀ {vs : List V} {rs : List Rc}, RcsAt K G vs rs → vs.length = rs.length
  | _, _, .nil => rfl
  | _, _, .cons _ t => by rw [List.length_cons, List.length_cons, t.len]
theorem RcsAt.get {K : PySem.W.Frag} {G : Hp} : ∀ {vs : List V} {rs : List Rc} {i : Nat} {v : V}, RcsAt K G vs rs → vs[i]? = some v → ∃ r, rs[i]? = some r ∧ RcAt K G v r
  | _, _, _, _, .nil, e => by simp at e
  | _, _, 0, _, .cons h t, e => ⟨_, rfl, by have e := Option.some.inj e; subst e; exact h⟩
  | _, _, i + 1, _, .cons h t, e => by
    obtain ⟨x, h1, h2⟩ := t.get (i := i) (by simpa using e)
    exact ⟨x, by simpa using h1, h2⟩
theorem RcsAt.snoc {K : PySem.W.Frag} {G : Hp} {v : V} {r : Rc} (h : RcAt K G v r) : ∀ {vs : List V} {rs : List Rc}, RcsAt K G vs rs → RcsAt K G (vs ++ [v]) (rs ++ [r])
  | _, _, .nil => .cons h .nil
  | _, _, .cons a t => .cons a (t.snoc h)
theorem cellsL_append : ∀ (xs ys : List Rc), cellsL (xs ++ ys) = cellsL xs ++ cellsL ys
  | [], ys => rfl
  | x :: r, ys => by rw [List.cons_append, cellsL, cellsL, cellsL_append r ys, List.append_assoc]
theorem goodL_append (n : Nat) : ∀ (xs ys : List Rc), goodL n (xs ++ ys) = (goodL n xs && goodL n ys)
  | [], ys => by rw [List.nil_append, goodL, Bool.true_and]
  | x :: r, ys => by rw [List.cons_append, goodL, goodL, goodL_append n r ys, Bool.and_assoc]
theorem pureL_append : ∀ (xs ys : List Rc), pureL (xs ++ ys) = (pureL xs && pureL ys)
  | [], ys => by rw [List.nil_append, pureL, Bool.true_and]
  | x :: r, ys => by rw [List.cons_append, pureL, pureL, pureL_append r ys, Bool.and_assoc]
theorem depthL_append : ∀ (xs ys : List Rc), depthL (xs ++ ys) = max (depthL xs) (depthL ys)
  | [], ys => by rw [List.nil_append, depthL]; omega
  | x :: r, ys => by rw [List.cons_append, depthL, depthL, depthL_append r ys]; omega
theorem cells_get {xs : List Rc} {i : Nat} {r : Rc} (h : xs[i]? = some r) : xs.take (i + 1) = xs.take i ++ [r] ∧ (cellsL (xs.take i)).length + (cellsM r).length ≤ (cellsL xs).length := by
  have e : xs.take (i + 1) = xs.take i ++ [r] := by rw [List.take_add_one, h]; rfl
  refine ⟨e, ?_⟩
  have e2 : xs = xs.take (i + 1) ++ xs.drop (i + 1) := (List.take_append_drop _ _).symm
  have e3 : cellsL xs = cellsL (xs.take i) ++ cellsM r ++ cellsL (xs.drop (i + 1)) := by
    conv => lhs; rw [e2, e]
    rw [cellsL_append, cellsL_append]
    simp only [cellsL, List.append_nil]
  rw [e3, List.length_append, List.length_append]; omega
theorem in_WD {s : Str} : inV (.str s) (WD.map V.str) = decide (s ∈ WD) := by
  have h : ∀ l : List Str, inV (.str s) (l.map V.str) = decide (s ∈ l) := fun l => by
    induction l with
    | nil => rfl
    | cons x r ih =>
      show (eqV (.str x) (.str s) || inV (.str s) (r.map V.str)) = _
      rw [ih]
      show ((x == s) || decide (s ∈ r)) = _
      by_cases e : x = s
      · subst e; simp
      · rw [beq_eq_false_iff_ne.mpr e, Bool.false_or]
        exact decide_eq_decide.mpr ⟨fun h => List.mem_cons_of_mem _ h, fun h => (List.mem_cons.mp h).elim (fun z => absurd z.symm e) id⟩
  exact h WD
theorem flat_WD : (WD.map V.str).all flatV = true := by
  rw [List.all_map]; exact List.all_eq_true.mpr fun x _ => rfl
def spNone : Sp := fun _ _ _ _ => False
/-! ### _law_cells -/
abbrev s_law_cells : Stmt := top 39
abbrev n_law_cells : List Str := ["record", "cells", "part"]
theorem sc_law_cells : FnScope n_law_cells ["record"] (defScope s_law_cells) := ⟨rfl, rfl, rfl, by decide +kernel, rfl, by decide +kernel, by decide +kernel⟩
def spCl (K : PySem.W.Frag) (n : Nat) : Sp := Sg (α := V × Rc) (fun x vs _ G => vs = [x.1] ∧ RcAt K G x.1 x.2 ∧ pureM x.2 = true ∧ depthM x.2 ≤ n ∧ (cellsM x.2).length ≤ 100000)
  (fun x M _ v M' G' => M' = M ∧ ∃ p, v = .ref p ∧ G' p = some (.lst ((cellsM x.2).map V.int)))
def spClP (K : PySem.W.Frag) : Nat → Sp
  | 0 => spNone
  | n + 1 => spCl K n
def sp_law_cells (K : PySem.W.Frag) : Sp := spCl K 30
theorem pureL_at : ∀ {xs : List Rc} {i : Nat} {r : Rc}, xs[i]? = some r → pureL xs = true → pureM r = true
  | [], i, r, h, _ => by simp at h
  | x :: xs, 0, r, h, g => by
    have h := Option.some.inj h
    subst h
    rw [pureL, Bool.and_eq_true] at g; exact g.1
  | x :: xs, i + 1, r, h, g => by
    rw [pureL, Bool.and_eq_true] at g
    exact pureL_at (i := i) (by simpa using h) g.2
theorem depthL_at : ∀ {xs : List Rc} {i : Nat} {r : Rc}, xs[i]? = some r → depthM r ≤ depthL xs
  | [], i, r, h => by simp at h
  | x :: xs, 0, r, h => by
    have h := Option.some.inj h
    subst h
    rw [depthL]; omega
  | x :: xs, i + 1, r, h => by
    have := depthL_at (xs := xs) (i := i) (r := r) (by simpa using h)
    rw [depthL]; omega
theorem aux_cells {P : Program} {w : World} {K : PySem.W.Frag} {mg : Str → Option Value} {base : Heap}
    {f : Addr} {fd : FuncData} (D : Dn K mg "_law_cells" s_law_cells ["record"] f fd)
    (b_len : mg "len" = none)
    (b_isinstance : mg "isinstance" = none)
    (b_str : mg "str" = none)
    (b_int : mg "int" = none)
    (b_bool : mg "bool" = none)
    {a_WORDS : Addr} (g_WORDS : ∃ u, mg "WORDS" = some u ∧ RelV (.ref a_WORDS) u) (k_WORDS : ∀ H, SqT K H a_WORDS [V.str "decided", V.str "read", V.str "away", V.str "busy", V.str "rows", V.str "prepare", V.str "prepared", V.str "stale", V.str "decide", V.str "missing", V.str "drop", V.str "finish", V.str "split", V.str "none", V.str "unknown", V.str "next", V.str "time", V.str "counter", V.str "table", V.str "members", V.str "follower", V.str "candidate", V.str "leader", V.str "ask", V.str "vote", V.str "copy", V.str "base", V.str "got", V.str "make", V.str "term", V.str "entry"])
    (t_WORDS : ∃ o, K.lookup a_WORDS = some o ∧ o.cls = .type "tuple" ∧ o.dict = none)
    (n : Nat) (c_law_cells : Cal P w K mg base CX0 (n + 1) "_law_cells" (spClP K n)) : Cal P w K mg base CX0 (n + 2) "_law_cells" (spCl K n) := by
  refine D.ok sc_law_cells (fun vs H Q E h => ?_) fun cdv A outer s H vs Q E hr h => ?_
  · obtain ⟨x, M, G, j, ⟨rfl, _⟩, _⟩ := h; rfl
  obtain ⟨⟨v, r⟩, M, G, j, ⟨rfl, hv, hp, hd, hs⟩, k⟩ := h
  dsimp only at hv hp hd hs k
  refine ⟨_, (pss_cons (ps_if (pt_cmp (pc_isN (pv 0)))
(pss_one (ps_ret (pe_lst (pa_cons pe_int pa_nil))))
pss_nil)
(pss_cons (ps_if (pt_val (pe_callB (call_isiK' (K := K) rfl) (by rfl) b_isinstance bt_isinstance (pa_cons (pv 0) (pa_cons (pe_bltn (v := .ty "bool") (by rfl) b_bool bt_bool rfl) pa_nil))))
(pss_one (ps_ret (pe_lst (pa_cons (pe_op (op_uAddK (K := K) rfl) pe_int (pe_callTy call_int1 (by rfl) b_int bt_int (pa_cons (pv 0) pa_nil))) pa_nil))))
pss_nil)
(pss_cons (ps_if (pt_val (pe_callB (call_isiK' (K := K) rfl) (by rfl) b_isinstance bt_isinstance (pa_cons (pv 0) (pa_cons (pe_bltn (v := .ty "int") (by rfl) b_int bt_int rfl) pa_nil))))
(pss_one (ps_ret (pe_lst (pa_cons pe_int (pa_cons (pv 0) pa_nil)))))
pss_nil)
(pss_cons (ps_if (pt_val (pe_callB (call_isiK' (K := K) rfl) (by rfl) b_isinstance bt_isinstance (pa_cons (pv 0) (pa_cons (pe_bltn (v := .ty "str") (by rfl) b_str bt_str rfl) pa_nil))))
(pss_one (ps_ret (pe_lst (pa_cons pe_int (pa_cons (pe_bm PySem.F.plainAttrs_tuple PySem.F.slot_tuple_index PySem.F.type_tuple_index mt_tup_index (pe_gk (by rfl) g_WORDS) (pa_cons (pv 0) pa_nil)) pa_nil)))))
pss_nil)
(pss_cons (ps_set (i := 1) sc_law_cells.nd rfl (Or.inl rfl) (pe_lst (pa_cons pe_int (pa_cons (pe_callB (call_uLenK (K := K) rfl) (by rfl) b_len PySem.boot_len (pa_cons (pv 0) pa_nil)) pa_nil))))
(pss_cons (ps_for PassesOwn.never rfl (pi_tup (pv 0)) (pg_name (i := 2) sc_law_cells.nd rfl (Or.inl rfl))
(pss_one (ps_set (i := 1) sc_law_cells.nd rfl (Or.inl rfl) (pe_op (op_uAddK (K := K) rfl) (pv 1) (pe_cal c_law_cells hr (by first | decide | omega) (by rfl) (pa_cons (pv 2) pa_nil))))))
(pss_one (ps_ret (pv 1))))))))), ?_⟩
  walk_at "start"
  cases hv with
  | non =>
    refine w_dT rfl ?_
    walk_at "go"
    exact w_new j (by show 1 ≤ sizeLine; decide) fun t G2 H2 j2 e2 ht _ => k _ _ _ _ j2 e2 ⟨rfl, t, rfl, ht⟩
  | bl b =>
    refine w_dF (fun z => nomatch z) ?_
    walk_at "go"
    refine .inr ⟨b, rfl, ?_⟩
    walk_at "go"
    exact w_new j (by show 1 ≤ sizeLine; decide) fun t G2 H2 j2 e2 ht _ => k _ _ _ _ j2 e2 ⟨rfl, t, rfl, ht⟩
  | int i =>
    refine w_dF (fun z => nomatch z) ?_
    walk_at "go"
    exact w_new j (by show 2 ≤ sizeLine; decide) fun t G2 H2 j2 e2 ht _ => k _ _ _ _ j2 e2 ⟨rfl, t, rfl, ht⟩
  | str x =>
    refine w_dF (fun z => nomatch z) ?_
    walk_at "go"
    refine ⟨.inr (.inl ⟨rfl, t_WORDS⟩), ?_⟩
    walk_at "go"
    obtain ⟨h1, h2⟩ := idxW_at (of_decide_eq_true (show decide (x ∈ WD) = true from hp))
    refine ⟨_, WD, x, idx x, rfl, rfl, k_WORDS _, h1, h2, ?_⟩
    walk_at "go"
    exact w_new j (by show 2 ≤ sizeLine; decide) fun t G2 H2 j2 e2 ht _ => k _ _ _ _ j2 e2 ⟨rfl, t, rfl, ht⟩
  | lst h1 => cases hp
  | dic h1 => cases hp
  | @tup a xs rs h1 h2 =>
    refine w_dF (fun z => nomatch z) ?_
    walk_at "go"
    refine w_isi false (ty_T (st_mono j.g h1)) (by rfl) ?_
    walk_at "go"
    refine w_isi false (ty_T (st_mono j.g h1)) (by rfl) ?_
    walk_at "go"
    refine w_isi false (ty_T (st_mono j.g h1)) (by rfl) ?_
    walk_at "go"
    refine w_lenT j h1 ?_
    walk_at "go"
    refine w_new j (by show 2 ≤ sizeLine; decide) fun L G1 H1 j1 e1 hL _ => ?_
    walk_at "go"
    cases n with
    | zero => rw [depthM] at hd; omega
    | succ n =>
      have hs : 2 + (cellsL rs).length ≤ 100000 := by
        have e : (cellsM (.tup rs)).length = 2 + (cellsL rs).length := by rw [cellsM, List.length_cons, List.length_cons]; omega
        rw [← e]; exact hs
      rw [depthM] at hd
      rw [pureM] at hp
      have zl := h2.len
      refine w_forTV rfl (xs := xs) (fun i σ H => ∃ G1 c x4, J M G1 H ∧ Ex G G1 ∧ G1 c = some (.lst ((5 :: (rs.length : Int) :: cellsL (rs.take i)).map V.int)) ∧ σ = [some (.ref a), some (.ref c), x4]) (st_mono j1.g (st_mono e1 h1)) ?_ ?_ ?_ ?_
      · exact ⟨G1, L, _, j1, e1, by rw [List.take_zero, ← zl]; exact hL, rfl⟩
      · rintro i σ H _ ⟨G1, c, x4, j, e, hc, rfl⟩
        exact st_mono j.g (st_mono e h1)
      · rintro i x σ H hi ⟨G1, c, x4, j, e, hc, rfl⟩
        obtain ⟨r, hr1, hr2⟩ := h2.get hi
        obtain ⟨t1, t2⟩ := cells_get hr1
        walk_at "go"
        show spCl K n _ _ _ _
        refine w_sg (x, r) j ⟨rfl, hr2.ex e, pureL_at hr1 hp, by have := depthL_at hr1; dsimp only; omega, by dsimp only; omega⟩ fun v' M1 G2 H2 j2 e2 ⟨em, p, ev, hp2⟩ => ?_
        subst ev em
        refine w_catL (j2.g _ _ (e2 _ _ hc)) (j2.g _ _ hp2) (w_new j2 ?_ fun c2 G3 H3 j3 e3 hc2 _ => ?_)
        · rw [List.length_map, List.length_map, List.length_cons, List.length_cons]
          dsimp only
          exact sz_le (by omega)
        · refine ⟨G3, c2, _, j3, e.trans (e2.trans e3), ?_, rfl⟩
          rw [hc2, ← List.map_append, t1, cellsL_append]
          simp only [cellsL, List.append_nil, List.cons_append]
      · rintro σ H ⟨G1, c, x4, j, e, hc, rfl⟩
        rw [zl, List.take_length] at hc
        walk_at "go"
        exact k _ _ _ _ j e ⟨rfl, c, rfl, by rw [hc, cellsM]⟩
theorem ok_law_cells {P : Program} {w : World} {K : PySem.W.Frag} {mg : Str → Option Value} {base : Heap}
    {f : Addr} {fd : FuncData} (D : Dn K mg "_law_cells" s_law_cells ["record"] f fd)
    (b_len : mg "len" = none)
    (b_isinstance : mg "isinstance" = none)
    (b_str : mg "str" = none)
    (b_int : mg "int" = none)
    (b_bool : mg "bool" = none)
    {a_WORDS : Addr} (g_WORDS : ∃ u, mg "WORDS" = some u ∧ RelV (.ref a_WORDS) u) (k_WORDS : ∀ H, SqT K H a_WORDS [V.str "decided", V.str "read", V.str "away", V.str "busy", V.str "rows", V.str "prepare", V.str "prepared", V.str "stale", V.str "decide", V.str "missing", V.str "drop", V.str "finish", V.str "split", V.str "none", V.str "unknown", V.str "next", V.str "time", V.str "counter", V.str "table", V.str "members", V.str "follower", V.str "candidate", V.str "leader", V.str "ask", V.str "vote", V.str "copy", V.str "base", V.str "got", V.str "make", V.str "term", V.str "entry"])
    (t_WORDS : ∃ o, K.lookup a_WORDS = some o ∧ o.cls = .type "tuple" ∧ o.dict = none) : Cal P w K mg base CX0 32 "_law_cells" (sp_law_cells K) := by
  have all : ∀ n, Cal P w K mg base CX0 (n + 2) "_law_cells" (spCl K n) := fun n => by
    induction n with
    | zero => exact aux_cells D b_len b_isinstance b_str b_int b_bool g_WORDS k_WORDS t_WORDS 0 (D.cal ⟨fun _ _ _ _ h => h.elim, fun _ _ _ _ _ _ _ _ _ _ _ _ _ h => h.elim⟩)
    | succ n ih => exact aux_cells D b_len b_isinstance b_str b_int b_bool g_WORDS k_WORDS t_WORDS (n + 1) ih
  exact all 30
/-! ### _law_mixed -/
abbrev s_law_mixed : Stmt := top 33
abbrev n_law_mixed : List Str := ["number", "k", "step"]
theorem sc_law_mixed : FnScope n_law_mixed ["number", "k"] (defScope s_law_mixed) := ⟨rfl, rfl, rfl, by decide +kernel, rfl, by decide +kernel, by decide +kernel⟩
def mixed (n k : Int) : Int :=
  ((n * 48271 + k * 69621 + 12345) % 2147483647 * ((n * 48271 + k * 69621 + 12345) % 2147483647 / 65536 + 3) + k) % 2147483647
theorem mixed_b (n k : Int) : 0 ≤ mixed n k ∧ mixed n k < 2147483647 := by
  unfold mixed
  exact ⟨Int.emod_nonneg _ (by decide), Int.emod_lt_of_pos _ (by decide)⟩
def sp_law_mixed (K : PySem.W.Frag) : Sp := Sg (α := Int × Int) (fun a vs _ _ => vs = [.int a.1, .int a.2]) (fun a M _ v M' _ => v = .int (mixed a.1 a.2) ∧ M' = M)
theorem ok_law_mixed {P : Program} {w : World} {K : PySem.W.Frag} {mg : Str → Option Value} {base : Heap}
    {f : Addr} {fd : FuncData} (D : Dn K mg "_law_mixed" s_law_mixed ["number", "k"] f fd) : Cal P w K mg base CX0 1 "_law_mixed" (sp_law_mixed K) := by
  refine D.ok sc_law_mixed (fun vs H Q E h => ?_) fun cdv A outer s H vs Q E hr h => ?_
  · obtain ⟨a, M, G, j, rfl, _⟩ := h; rfl
  obtain ⟨⟨n, k⟩, M, G, j, rfl, q⟩ := h
  refine ⟨_, (pss_cons (ps_set (i := 2) sc_law_mixed.nd rfl (Or.inl rfl) (pe_op op_mod (pe_op (op_uAddK (K := K) rfl) (pe_op (op_uAddK (K := K) rfl) (pe_op op_uMul (pv 0) pe_int) (pe_op op_uMul (pv 1) pe_int)) pe_int) pe_int))
(pss_one (ps_ret (pe_op op_mod (pe_op (op_uAddK (K := K) rfl) (pe_op op_uMul (pv 2) (pe_op (op_uAddK (K := K) rfl) (pe_op op_fdiv (pv 2) pe_int) pe_int)) (pv 1)) pe_int)))), ?_⟩
  walk_at "start"
  refine w_mulI (.inl ?_) ?_
  · have h1 := Int.emod_nonneg (n * 48271 + k * 69621 + 12345) (b := 2147483647) (by decide)
    have h2 := Int.emod_lt_of_pos (n * 48271 + k * 69621 + 12345) (b := 2147483647) (by decide)
    omega
  walk_at "go"
  exact q _ _ _ _ j (Same.refl G) ⟨rfl, rfl⟩
/-! ### _law_draw -/
abbrev s_law_draw : Stmt := top 35
abbrev n_law_draw : List Str := ["draws", "at", "first"]
theorem sc_law_draw : FnScope n_law_draw ["draws"] (defScope s_law_draw) := ⟨rfl, rfl, rfl, by decide +kernel, rfl, by decide +kernel, by decide +kernel⟩
/-- the law's draws: a list of the numbers and of the place -/
def Dr (K : PySem.W.Frag) (M G : Hp) (p : Addr) : Prop :=
  ∃ (q : Addr) (ns : List Int) (at_ : Int), M p = some (.lst [.ref q, .int at_]) ∧ SqL K G q (ns.map V.int) ∧ (∀ n ∈ ns, 0 ≤ n ∧ n < 1000000) ∧ 0 ≤ at_
theorem Dr.ex {K : PySem.W.Frag} {M G G' : Hp} {p : Addr} (d : Dr K M G p) (e : Ex G G') : Dr K M G' p := by
  obtain ⟨q, ns, at_, h1, h2, h3⟩ := d
  exact ⟨q, ns, at_, h1, sl_mono e h2, h3⟩
theorem Dr.upd {K : PySem.W.Frag} {M G : Hp} {p d : Addr} {o : HO} (h : Dr K M G p) (e : d ≠ p) : Dr K (upd M d o) G p := by
  obtain ⟨q, ns, at_, h1, h2, h3⟩ := h
  exact ⟨q, ns, at_, upd_ne' h1 e.symm, h2, h3⟩
theorem Dr.del {K : PySem.W.Frag} {M G : Hp} {p d : Addr} (h : Dr K M G p) (e : d ≠ p) : Dr K (del M d) G p := by
  obtain ⟨q, ns, at_, h1, h2, h3⟩ := h
  exact ⟨q, ns, at_, (del_ne e.symm).trans h1, h2, h3⟩
theorem Dr.ne {K : PySem.W.Frag} {M G : Hp} {p d : Addr} (h : Dr K M G p) (e : M d = none) : d ≠ p := by
  obtain ⟨q, ns, at_, h1, h2, h3⟩ := h
  exact (ne_of_none h1 e).symm
theorem Dr.at9 {K : PySem.W.Frag} {M G : Hp} {p : Addr} (h : Dr K M G p) : ∃ xs, M p = some (.lst xs) := by
  obtain ⟨q, ns, at_, h1, _⟩ := h
  exact ⟨_, h1⟩
theorem Dr.mv9 {K : PySem.W.Frag} {M M' G : Hp} {p : Addr} (h : Dr K M G p) (e : M' p = M p) : Dr K M' G p := by
  obtain ⟨q, ns, at_, h1, h2⟩ := h
  exact ⟨q, ns, at_, e.trans h1, h2⟩
def sp_law_draw (K : PySem.W.Frag) : Sp := Sg (α := Addr) (fun p vs M G => vs = [.ref p] ∧ Dr K M G p)
  (fun p M _ v M' G' => ∃ n : Int, v = .int n ∧ 0 ≤ n ∧ n < 1000000 ∧ Dr K M' G' p ∧ Ag p M M')
theorem atI_map {ns : List Int} {i : Int} (h0 : 0 ≤ i) (h1 : i < ns.length) : ∃ n, n ∈ ns ∧ atI (ns.map V.int) i = some (.int n) := by
  obtain ⟨k, rfl⟩ : ∃ k : Nat, i = k := ⟨i.toNat, by omega⟩
  have hk : k < ns.length := by omega
  refine ⟨ns[k], List.getElem_mem hk, atI_nat ?_⟩
  rw [List.getElem?_map, List.getElem?_eq_getElem hk]; rfl
theorem use_draw {K : PySem.W.Frag} {M G H : Hp} {p : Addr} {Q : VK} {E : XK} (j : J M G H) (d : Dr K M G p)
    (k : ∀ (n : Int) (M' G' H' : Hp), 0 ≤ n → n < 1000000 → J M' G' H' → Ex G G' → Dr K M' G' p → Ag p M M' → Q (.int n) H') : sp_law_draw K ([.ref p] ++ []) H Q E :=
  w_sg p j ⟨rfl, d⟩ fun v M' G' H' j' e ⟨n, ev, h0, h1, d', ag⟩ => by subst ev; exact k n M' G' H' h0 h1 j' e d' ag
/-- what a def that draws promises: a value of which Pv holds -/
def Dg (K : PySem.W.Frag) (Pv : V → Hp → Prop) : Sp := Sg (α := Addr) (fun p vs M G => vs = [.ref p] ∧ Dr K M G p) (fun p M _ v M' G' => Pv v G' ∧ Dr K M' G' p ∧ Ag p M M')
theorem use_dg {K : PySem.W.Frag} {M G H : Hp} {p : Addr} {Q : VK} {E : XK} {Pv : V → Hp → Prop} (j : J M G H) (d : Dr K M G p)
    (k : ∀ (v : V) (M' G' H' : Hp), Pv v G' → J M' G' H' → Ex G G' → Dr K M' G' p → Ag p M M' → Q v H') : Dg K Pv ([.ref p] ++ []) H Q E :=
  w_sg p j ⟨rfl, d⟩ fun v M' G' H' j' e ⟨h, d', ag⟩ => k v M' G' H' h j' e d' ag
/-- .. with the law's keys -/
def KeysAt (K : PySem.W.Frag) (G : Hp) (t : Addr) (ks : List Int) : Prop := SqL K G t (ks.map V.int) ∧ (∀ k ∈ ks, 0 ≤ k ∧ k < 1000) ∧ 3 ≤ ks.length ∧ ks.length ≤ 15
theorem KeysAt.ex {K : PySem.W.Frag} {G G' : Hp} {t : Addr} {ks : List Int} (h : KeysAt K G t ks) (e : Ex G G') : KeysAt K G' t ks := ⟨sl_mono e h.1, h.2⟩
def Dk (K : PySem.W.Frag) (Pv : V → Hp → Prop) : Sp := Sg (α := Addr × Addr × List Int) (fun a vs M G => vs = [.ref a.1, .ref a.2.1] ∧ Dr K M G a.1 ∧ KeysAt K G a.2.1 a.2.2) (fun a M _ v M' G' => Pv v G' ∧ Dr K M' G' a.1 ∧ Ag a.1 M M')
theorem use_dk {K : PySem.W.Frag} {M G H : Hp} {p t : Addr} {ks : List Int} {Q : VK} {E : XK} {Pv : V → Hp → Prop} (j : J M G H) (d : Dr K M G p) (hk : KeysAt K G t ks)
    (k : ∀ (v : V) (M' G' H' : Hp), Pv v G' → J M' G' H' → Ex G G' → Dr K M' G' p → Ag p M M' → Q v H') : Dk K Pv ([.ref p, .ref t] ++ []) H Q E :=
  w_sg (p, t, ks) j ⟨rfl, d, hk⟩ fun v M' G' H' j' e ⟨h, d', ag⟩ => k v M' G' H' h j' e d' ag
theorem ok_law_draw {P : Program} {w : World} {K : PySem.W.Frag} {mg : Str → Option Value} {base : Heap}
    {f : Addr} {fd : FuncData} (D : Dn K mg "_law_draw" s_law_draw ["draws"] f fd)
    (b_len : mg "len" = none)
    (c_law_mixed : Cal P w K mg base CX0 1 "_law_mixed" (sp_law_mixed K)) : Cal P w K mg base CX0 2 "_law_draw" (sp_law_draw K) := by
  refine D.ok sc_law_draw (fun vs H Q E h => ?_) fun cdv A outer s H vs Q E hr h => ?_
  · obtain ⟨p, M, G, j, ⟨rfl, _⟩, _⟩ := h; rfl
  obtain ⟨p, M, G, j, ⟨rfl, q, ns, at_, hp, hq, hn, h0⟩, k⟩ := h
  refine ⟨_, (pss_cons (ps_set (i := 1) sc_law_draw.nd rfl (Or.inl rfl) (pe_ix (ix_uK (K := K) rfl) (pv 0) pe_int (fun _ _ => rfl)))
(pss_cons (ps_asg (pe_op (op_uAddK (K := K) rfl) (pv 1) pe_int) (pg_sub (pv 0) pe_int set_list))
(pss_cons (ps_if (pt_cmpR op_lt (pv 1) (pe_callB (call_uLenK (K := K) rfl) (by rfl) b_len PySem.boot_len (pa_cons (pe_ix (ix_uK (K := K) rfl) (pv 0) pe_int (fun _ _ => rfl)) pa_nil)) (nomark _))
(pss_one (ps_ret (pe_ix (ix_uK (K := K) rfl) (pe_ix (ix_uK (K := K) rfl) (pv 0) pe_int (fun _ _ => rfl)) (pv 1) (fun _ _ => rfl))))
pss_nil)
(pss_cons (ps_set (i := 2) sc_law_draw.nd rfl (Or.inl rfl) (pe_op (op_uAddK (K := K) rfl) pe_int (pv 1)))
(pss_cons (ps_if (pt_cmpR op_gt (pe_callB (call_uLenK (K := K) rfl) (by rfl) b_len PySem.boot_len (pa_cons (pe_ix (ix_uK (K := K) rfl) (pv 0) pe_int (fun _ _ => rfl)) pa_nil)) pe_int (nomark _))
(pss_one (ps_set (i := 2) sc_law_draw.nd rfl (Or.inl rfl) (pe_op (op_uAddK (K := K) rfl) (pv 2) (pe_op op_uMul pe_int (pe_ix (ix_uK (K := K) rfl) (pe_ix (ix_uK (K := K) rfl) (pv 0) pe_int (fun _ _ => rfl)) pe_int (fun _ _ => rfl))))))
pss_nil)
(pss_one (ps_ret (pe_op op_mod (pe_cal c_law_mixed hr (by first | decide | omega) (by rfl) (pa_cons (pe_cal c_law_mixed hr (by first | decide | omega) (by rfl) (pa_cons (pv 2) (pa_cons (pv 1) pa_nil))) (pa_cons pe_int pa_nil))) pe_int)))))))), ?_⟩
  walk_at "start"
  refine w_ixM j hp (by rfl) ?_
  walk_at "go"
  refine w_setM j hp (by rfl) fun H1 j1 => ?_
  walk_at "go"
  refine w_ixM j1 upd_same (by rfl) ?_
  walk_at "go"
  refine w_lenL j1 hq ?_
  walk_at "go"
  have dr : Dr K (upd M p (.lst [.ref q, .int (at_ + 1)])) G p := ⟨q, ns, _, upd_same, hq, hn, by omega⟩
  refine w_dec (fun hlt => ?_) (fun hlt => ?_)
  · walk_at "go"
    refine w_ixM j1 upd_same (by rfl) ?_
    walk_at "go"
    rw [List.length_map] at hlt
    obtain ⟨n, hm, e⟩ := atI_map h0 hlt
    refine w_ixL j1 hq e ?_
    exact k _ _ _ _ j1 (Same.refl G) ⟨n, rfl, (hn n hm).1, (hn n hm).2, dr, Ag.upd⟩
  · walk_at "go"
    refine w_ixM j1 upd_same (by rfl) ?_
    walk_at "go"
    refine w_lenL j1 hq ?_
    walk_at "go"
    refine w_dec (fun hl => ?_) (fun hl => ?_)
    · walk_at "go"
      refine w_ixM j1 upd_same (by rfl) ?_
      walk_at "go"
      rw [List.length_map] at hl
      obtain ⟨n, hm, e⟩ := atI_map (ns := ns) (i := 0) (by omega) hl
      refine w_ixL j1 hq e ?_
      walk_at "go"
      refine w_sg (_, _) j1 rfl fun v M' G' H' j2 e2 ⟨ev, em⟩ => ?_
      subst ev em
      walk_at "go"
      refine w_sg (_, _) j2 rfl fun v M' G' H' j3 e3 ⟨ev, em⟩ => ?_
      subst ev em
      walk_at "go"
      exact k _ _ _ _ j3 (e2.trans e3) ⟨_, rfl, Int.emod_nonneg _ (by decide), Int.emod_lt_of_pos _ (by decide), dr.ex (e2.trans e3), Ag.upd⟩
    · walk_at "go"
      refine w_sg (_, _) j1 rfl fun v M' G' H' j2 e2 ⟨ev, em⟩ => ?_
      subst ev em
      walk_at "go"
      refine w_sg (_, _) j2 rfl fun v M' G' H' j3 e3 ⟨ev, em⟩ => ?_
      subst ev em
      walk_at "go"
      exact k _ _ _ _ j3 (e2.trans e3) ⟨_, rfl, Int.emod_nonneg _ (by decide), Int.emod_lt_of_pos _ (by decide), dr.ex (e2.trans e3), Ag.upd⟩
/-! ### _law_words -/
abbrev s_law_words : Stmt := top 38
abbrev n_law_words : List Str := ["first", "second", "third"]
theorem sc_law_words : FnScope n_law_words [] (defScope s_law_words) := ⟨rfl, rfl, rfl, by decide +kernel, rfl, by decide +kernel, by decide +kernel⟩
def LW : List Str := ["read", "away", "busy", "rows", "prepare", "prepared", "stale", "decide", "decided", "missing", "drop", "finish", "split", "none", "unknown", "next", "time", "counter", "table", "members", "follower", "candidate", "leader", "ask", "vote", "copy", "base", "got", "make", "term", "entry"]
theorem LW_in : ∀ s ∈ LW, s ∈ WD := by decide +kernel
def sp_law_words (K : PySem.W.Frag) : Sp := Sg (α := Unit) (fun _ vs _ _ => vs = []) (fun _ M _ v M' G' => M' = M ∧ ∃ t, v = .ref t ∧ G' t = some (.lst (LW.map V.str)))
theorem ok_law_words {P : Program} {w : World} {K : PySem.W.Frag} {mg : Str → Option Value} {base : Heap}
    {f : Addr} {fd : FuncData} (D : Dn K mg "_law_words" s_law_words [] f fd) : Cal P w K mg base CX0 1 "_law_words" (sp_law_words K) := by
  refine D.ok sc_law_words (fun vs H Q E h => ?_) fun cdv A outer s H vs Q E hr h => ?_
  · obtain ⟨x, M, G, j, rfl, _⟩ := h; rfl
  obtain ⟨_, M, G, j, rfl, k⟩ := h
  refine ⟨_, (pss_cons (ps_set (i := 0) sc_law_words.nd rfl (Or.inl rfl) (pe_lst (pa_cons pe_str (pa_cons pe_str (pa_cons pe_str (pa_cons pe_str (pa_cons pe_str (pa_cons pe_str (pa_cons pe_str (pa_cons pe_str (pa_cons pe_str (pa_cons pe_str (pa_cons pe_str pa_nil)))))))))))))
(pss_cons (ps_set (i := 1) sc_law_words.nd rfl (Or.inl rfl) (pe_lst (pa_cons pe_str (pa_cons pe_str (pa_cons pe_str (pa_cons pe_str (pa_cons pe_str (pa_cons pe_str (pa_cons pe_str (pa_cons pe_str (pa_cons pe_str (pa_cons pe_str pa_nil))))))))))))
(pss_cons (ps_set (i := 2) sc_law_words.nd rfl (Or.inl rfl) (pe_lst (pa_cons pe_str (pa_cons pe_str (pa_cons pe_str (pa_cons pe_str (pa_cons pe_str (pa_cons pe_str (pa_cons pe_str (pa_cons pe_str (pa_cons pe_str (pa_cons pe_str pa_nil))))))))))))
(pss_one (ps_ret (pe_op (op_uAddK (K := K) rfl) (pe_op (op_uAddK (K := K) rfl) (pv 0) (pv 1)) (pv 2))))))), ?_⟩
  walk_at "start"
  refine w_new j (by show 11 ≤ sizeLine; decide) fun a G1 H1 j1 e1 ha _ => ?_
  walk_at "go"
  refine w_new j1 (by show 10 ≤ sizeLine; decide) fun b G2 H2 j2 e2 hb _ => ?_
  walk_at "go"
  refine w_new j2 (by show 10 ≤ sizeLine; decide) fun c G3 H3 j3 e3 hc _ => ?_
  walk_at "go"
  refine w_catL (j3.g _ _ (e3 _ _ (e2 _ _ ha))) (j3.g _ _ (e3 _ _ hb)) (w_new j3 (by show 21 ≤ sizeLine; decide) fun d G4 H4 j4 e4 hd _ => ?_)
  walk_at "go"
  refine w_catL (j4.g _ _ hd) (j4.g _ _ (e4 _ _ hc)) (w_new j4 (by show 31 ≤ sizeLine; decide) fun e G5 H5 j5 e5 he _ => ?_)
  exact k _ _ _ _ j5 ((e1.trans e2).trans ((e3.trans e4).trans e5)) ⟨rfl, e, rfl, he⟩
/-! ### _law_leaf -/
abbrev s_law_leaf : Stmt := top 40
abbrev n_law_leaf : List Str := ["draws", "pick", "words", "number"]
theorem sc_law_leaf : FnScope n_law_leaf ["draws"] (defScope s_law_leaf) := ⟨rfl, rfl, rfl, by decide +kernel, rfl, by decide +kernel, by decide +kernel⟩
def szB : Nat → Nat
  | 0 => 2
  | d + 1 => 2 + 4 * szB d
/-- a record of a depth, with all that the law draws -/
def RecD (K : PySem.W.Frag) (d : Nat) (v : V) (G : Hp) : Prop := ∃ r, RcAt K G v r ∧ pureM r = true ∧ depthM r ≤ d ∧ (cellsM r).length ≤ szB d
def sp_law_leaf (K : PySem.W.Frag) : Sp := Dg K (RecD K 0)
theorem ok_law_leaf {P : Program} {w : World} {K : PySem.W.Frag} {mg : Str → Option Value} {base : Heap}
    {f : Addr} {fd : FuncData} (D : Dn K mg "_law_leaf" s_law_leaf ["draws"] f fd)
    (b_len : mg "len" = none)
    (c_law_draw : Cal P w K mg base CX0 2 "_law_draw" (sp_law_draw K))
    (c_law_words : Cal P w K mg base CX0 1 "_law_words" (sp_law_words K)) : Cal P w K mg base CX0 3 "_law_leaf" (sp_law_leaf K) := by
  refine D.ok sc_law_leaf (fun vs H Q E h => ?_) fun cdv A outer s H vs Q E hr h => ?_
  · obtain ⟨p, M, G, j, ⟨rfl, _⟩, _⟩ := h; rfl
  obtain ⟨p, M, G, j, ⟨rfl, d⟩, k⟩ := h
  refine ⟨_, (pss_cons (ps_set (i := 1) sc_law_leaf.nd rfl (Or.inl rfl) (pe_op op_mod (pe_cal c_law_draw hr (by first | decide | omega) (by rfl) (pa_cons (pv 0) pa_nil)) pe_int))
(pss_cons (ps_if (pt_cmpR op_lt (pv 1) pe_int (nomark _))
(pss_one (ps_ret (pe_ix (ix_uK (K := K) rfl) (pe_lst (pa_cons pe_non (pa_cons pe_bl (pa_cons pe_bl pa_nil)))) (pv 1) (fun _ _ => rfl))))
pss_nil)
(pss_cons (ps_if (pt_cmpR op_lt (pv 1) pe_int (nomark _))
(pss_cons (ps_set (i := 2) sc_law_leaf.nd rfl (Or.inl rfl) (pe_cal0 c_law_words hr (by first | decide | omega) (by rfl)))
(pss_one (ps_ret (pe_ix (ix_uK (K := K) rfl) (pv 2) (pe_op op_mod (pe_cal c_law_draw hr (by first | decide | omega) (by rfl) (pa_cons (pv 0) pa_nil)) (pe_callB (call_uLenK (K := K) rfl) (by rfl) b_len PySem.boot_len (pa_cons (pv 2) pa_nil))) (fun _ _ => rfl)))))
pss_nil)
(pss_cons (ps_set (i := 3) sc_law_leaf.nd rfl (Or.inl rfl) (pe_cal c_law_draw hr (by first | decide | omega) (by rfl) (pa_cons (pv 0) pa_nil)))
(pss_cons (ps_if (pt_cmpR (op_uEqK (K := K) rfl hr) (pv 1) pe_int (nomark _))
(pss_one (ps_ret (pe_op op_sub (pv 3) pe_int)))
pss_nil)
(pss_cons (ps_if (pt_cmpR (op_uEqK (K := K) rfl hr) (pv 1) pe_int (nomark _))
(pss_one (ps_ret (pe_op op_uMul (pe_op op_sub (pv 3) pe_int) (pe_op op_pow pe_int pe_int))))
pss_nil)
(pss_one (ps_ret (pe_op op_mod (pv 3) pe_int))))))))), ?_⟩
  walk_at "start"
  refine use_draw j d fun n M1 G1 H1 n0 n1 j1 e1 d1 a1 => ?_
  walk_at "go"
  have hp : 0 ≤ n % 8 ∧ n % 8 < 8 := ⟨Int.emod_nonneg _ (by decide), Int.emod_lt_of_pos _ (by decide)⟩
  generalize n % 8 = pick at hp ⊢
  have fin : ∀ (M' G' H' : Hp) (v : V) (r : Rc), J M' G' H' → Ex G1 G' → Dr K M' G' p → Ag p M1 M' → RcAt K G' v r → pureM r = true → depthM r = 0 → (cellsM r).length ≤ 2 → Q v H' := fun M' G' H' v r j e d a h1 h2 h3 h4 => k _ _ _ _ j (e1.trans e) ⟨⟨r, h1, h2, Nat.le_of_eq h3, h4⟩, d, a1.trans a⟩
  refine w_dec (fun h => ?_) (fun h => ?_)
  · walk_at "go"
    refine w_new j1 (by show 3 ≤ sizeLine; decide) fun L G2 H2 j2 e2 hL _ => ?_
    walk_at "go"
    have : pick = 0 ∨ pick = 1 ∨ pick = 2 := by omega
    rcases this with rfl | rfl | rfl
    · exact w_ixL j2 (sl_of hL) (by rfl) (fin _ _ _ _ .non j2 e2 (d1.ex e2) (Ag.refl _ _) .non rfl rfl (by decide))
    · exact w_ixL j2 (sl_of hL) (by rfl) (fin _ _ _ _ (.bl false) j2 e2 (d1.ex e2) (Ag.refl _ _) (.bl _) rfl rfl (by decide))
    · exact w_ixL j2 (sl_of hL) (by rfl) (fin _ _ _ _ (.bl true) j2 e2 (d1.ex e2) (Ag.refl _ _) (.bl _) rfl rfl (by decide))
  · walk_at "go"
    refine w_dec (fun h2 => ?_) (fun h2 => ?_)
    · walk_at "go"
      refine w_sg () j1 rfl fun v M2 G2 H2 j2 e2 ⟨em, t, ev, ht⟩ => ?_
      subst ev em
      walk_at "go"
      refine use_draw j2 (d1.ex e2) fun m M3 G3 H3 _ _ j3 e3 d3 a3 => ?_
      walk_at "go"
      refine w_lenL j3 (sl_of (e3 _ _ ht)) ?_
      walk_at "go"
      rw [List.length_map]
      walk_at "go"
      have hl : LW.length = 31 := rfl
      have m1 : 0 ≤ m % (31 : Int) := Int.emod_nonneg _ (by decide)
      have m2 : m % (31 : Int) < 31 := Int.emod_lt_of_pos _ (by decide)
      obtain ⟨q, hq⟩ : ∃ q : Nat, m % (LW.length : Int) = q ∧ q < LW.length := ⟨(m % (31 : Int)).toNat, by rw [hl]; omega, by rw [hl]; omega⟩
      refine w_ixL j3 (sl_of (e3 _ _ ht)) (v := .str LW[q]) (by rw [hq.1]; exact atI_nat (by rw [List.getElem?_map, List.getElem?_eq_getElem hq.2]; rfl)) ?_
      exact fin _ _ _ _ (.str LW[q]) j3 (e2.trans e3) d3 a3 (.str _) (decide_eq_true (LW_in _ (List.getElem_mem hq.2))) rfl (Nat.le_refl _)
    · walk_at "go"
      refine use_draw j1 d1 fun m M3 G3 H3 _ _ j3 e3 d3 a3 => ?_
      walk_at "go"
      have fi : ∀ i, Q (.int i) H3 := fun i => fin _ _ _ _ (.int i) j3 e3 d3 a3 (.int i) rfl rfl (Nat.le_refl _)
      refine w_dec (fun h3 => ?_) (fun h3 => ?_)
      · walk_at "go"
        exact fi _
      · walk_at "go"
        refine w_dec (fun h4 => ?_) (fun h4 => ?_)
        · walk_at "go"
          exact fi _
        · walk_at "go"
          exact fi _
/-! ### _law_record -/
abbrev s_law_record : Stmt := top 41
abbrev n_law_record : List Str := ["draws", "depth", "pick", "k"]
theorem sc_law_record : FnScope n_law_record ["draws", "depth"] (defScope s_law_record) := ⟨rfl, rfl, rfl, by decide +kernel, rfl, by decide +kernel, by decide +kernel⟩
def spRecd (K : PySem.W.Frag) (n : Nat) : Sp := Sg (α := Addr) (fun p vs M G => vs = [.ref p, .int n] ∧ Dr K M G p) (fun p M _ v M' G' => RecD K n v G' ∧ Dr K M' G' p ∧ Ag p M M')
def spRecdP (K : PySem.W.Frag) : Nat → Sp
  | 0 => spNone
  | n + 1 => spRecd K n
def sp_law_record (K : PySem.W.Frag) : Sp := spRecd K 2
theorem szB_le : ∀ d, szB 0 ≤ szB d
  | 0 => Nat.le_refl _
  | d + 1 => by have := szB_le d; show _ ≤ 2 + 4 * szB d; omega
theorem RecD.up {K : PySem.W.Frag} {d : Nat} {v : V} {G : Hp} (h : RecD K 0 v G) : RecD K d v G := by
  obtain ⟨r, h1, h2, h3, h4⟩ := h
  exact ⟨r, h1, h2, by omega, Nat.le_trans h4 (szB_le d)⟩
theorem aux_record {P : Program} {w : World} {K : PySem.W.Frag} {mg : Str → Option Value} {base : Heap}
    {f : Addr} {fd : FuncData} (D : Dn K mg "_law_record" s_law_record ["draws", "depth"] f fd)
    (b_tuple : mg "tuple" = none)
    (b_range : mg "range" = none)
    (c_law_leaf : Cal P w K mg base CX0 3 "_law_leaf" (sp_law_leaf K))
    (c_law_draw : Cal P w K mg base CX0 2 "_law_draw" (sp_law_draw K))
    (n : Nat) (c_law_record : Cal P w K mg base CX0 (n + 3) "_law_record" (spRecdP K n)) : Cal P w K mg base CX0 (n + 4) "_law_record" (spRecd K n) := by
  refine D.ok sc_law_record (fun vs H Q E h => ?_) fun cdv A outer s H vs Q E hr h => ?_
  · obtain ⟨p, M, G, j, ⟨rfl, _⟩, _⟩ := h; rfl
  obtain ⟨p, M, G, j, ⟨rfl, d⟩, k⟩ := h
  refine ⟨_, (pss_cons (ps_set (i := 2) sc_law_record.nd rfl (Or.inl rfl) (pe_op op_mod (pe_cal c_law_draw hr (by first | decide | omega) (by rfl) (pa_cons (pv 0) pa_nil)) pe_int))
(pss_cons (ps_if (PW.pt (pw_or (pt_cmpR (op_uEqK (K := K) rfl hr) (pv 1) pe_int (nomark _)) (pw_or1 (pt_cmpR op_lt (pv 2) pe_int (nomark _)))))
(pss_one (ps_ret (pe_cal c_law_leaf hr (by first | decide | omega) (by rfl) (pa_cons (pv 0) pa_nil))))
pss_nil)
(pss_one (ps_ret (pe_callTy (call_tupC (K := K) rfl) (by rfl) b_tuple bt_tuple (pa_cons (pe_lc (own := [("k", 3)]) (by rfl) sc_law_record.nd (pi_range1 (by rfl) b_range (pa_cons (pe_op op_sub (pv 2) pe_int) pa_nil)) (blkOk_by (own := [("k", 3)]) (N := n_law_record) (sc := defScope s_law_record) (by decide +kernel)) (fun _ _ _ _ _ => pg_name (i := 3) sc_law_record.nd rfl (Or.inl rfl)) (fun _ _ _ _ _ => pts_nil) (fun _ _ _ _ _ => (pe_cal c_law_record hr (by first | decide | omega) (by rfl) (pa_cons (pv 0) (pa_cons (pe_op op_sub (pv 1) pe_int) pa_nil))))) pa_nil)))))), ?_⟩
  walk_at "start"
  refine use_draw j d fun m M1 G1 H1 _ _ j1 e1 d1 a1 => ?_
  walk_at "go"
  have hp : 0 ≤ m % 8 ∧ m % 8 < 8 := ⟨Int.emod_nonneg _ (by decide), Int.emod_lt_of_pos _ (by decide)⟩
  generalize m % 8 = pick at hp ⊢
  have leaf : sp_law_leaf K ([.ref p] ++ []) H1 Q E0 := use_dg j1 d1 fun v M2 G2 H2 h j2 e2 d2 a2 => k _ _ _ _ j2 (e1.trans e2) ⟨h.up, d2, a1.trans a2⟩
  cases n with
  | zero =>
    refine w_dT rfl ?_
    refine w_T ?_
    walk_at "go"
    exact leaf
  | succ n =>
    refine w_dF (by omega) ?_
    walk_at "go"
    refine w_dec (fun h => ?_) (fun h => ?_)
    · walk_at "go"
      exact leaf
    · walk_at "go"
      refine w_lcr j1 (fun L i acc M2 G2 => M1 L = none ∧ L ≠ p ∧ Ex G1 G2 ∧ Dr K M2 G2 p ∧ Ag2 p L M1 M2 ∧ ∃ rs, RcsAt K G2 acc rs ∧ rs.length = i ∧ pureL rs = true ∧ depthL rs ≤ n ∧ (cellsL rs).length ≤ i * szB n) ?_ (fun _ => rfl) ?_ ?_ (by omega) (by omega)
      · intro L h1 h2
        exact ⟨h1, d1.ne h1, Same.refl _, d1.upd (d1.ne h1), (Ag2.refl p L M1).upd, [], .nil, rfl, rfl, Nat.zero_le _, Nat.zero_le _⟩
      · rintro L i acc M2 G2 H2 R hi j2 hL ⟨nL, nLp, e2, d2, a2, rs, hrs, hl, h1, h2, h3⟩ hR
        walk_at "go"
        show spRecd K n _ _ _ _
        refine w_sg p j2 ⟨by show [V.ref p, V.int (((n + 1 : Nat) : Int) - 1)] ++ [] = [V.ref p, .int n]; rw [show ((n + 1 : Nat) : Int) - 1 = n by omega]; rfl, d2⟩ fun v M3 G3 H3 j3 e3 ⟨⟨r, g1, g2, g3, g4⟩, d3, a3⟩ => ?_
        refine hR _ _ ⟨M3, G3, j3, (a3 _ nLp).trans hL, sz_lt (by rw [hrs.len]; omega), nL, nLp, e2.trans e3, d3.upd nLp, (a2.ag a3).upd, rs ++ [r], (hrs.ex e3).snoc g1, by rw [List.length_append, hl]; rfl, ?_, ?_, ?_⟩
        · rw [pureL_append, h1, pureL, g2]; rfl
        · rw [depthL_append, depthL, depthL]; omega
        · rw [cellsL_append, List.length_append, cellsL, cellsL, List.append_nil, Nat.succ_mul]; omega
      · rintro L acc M2 G2 H2 j2 hL ⟨nL, nLp, e2, d2, a2, rs, hrs, hl, h1, h2, h3⟩
        walk_at "go"
        refine w_tupC (xs := acc) (.inl (.inl (j2.m _ _ hL))) (w_new j2 (Nat.zero_le _) fun T G3 H3 j3 e3 hT _ => ?_)
        refine k _ _ _ _ (j3.drop L) (e1.trans (e2.trans e3)) ⟨⟨.tup rs, .tup (st_of hT) (hrs.ex e3), by rw [pureM]; exact h1, by rw [depthM]; omega, ?_⟩, (d2.del nLp).ex e3, a1.trans (a2.del nL)⟩
        rw [cellsM, List.length_cons, List.length_cons]
        have h4 : (pick - 3).toNat ≤ 4 := by omega
        have h5 : (pick - 3).toNat * szB n ≤ 4 * szB n := Nat.mul_le_mul_right _ h4
        show _ ≤ 2 + 4 * szB n
        omega
theorem ok_law_record {P : Program} {w : World} {K : PySem.W.Frag} {mg : Str → Option Value} {base : Heap}
    {f : Addr} {fd : FuncData} (D : Dn K mg "_law_record" s_law_record ["draws", "depth"] f fd)
    (b_tuple : mg "tuple" = none)
    (b_range : mg "range" = none)
    (c_law_leaf : Cal P w K mg base CX0 3 "_law_leaf" (sp_law_leaf K))
    (c_law_draw : Cal P w K mg base CX0 2 "_law_draw" (sp_law_draw K)) : Cal P w K mg base CX0 6 "_law_record" (sp_law_record K) := by
  have all : ∀ n, Cal P w K mg base CX0 (n + 4) "_law_record" (spRecd K n) := fun n => by
    induction n with
    | zero => exact aux_record D b_tuple b_range c_law_leaf c_law_draw 0 (D.cal ⟨fun _ _ _ _ h => h.elim, fun _ _ _ _ _ _ _ _ _ _ _ _ _ h => h.elim⟩)
    | succ n ih => exact aux_record D b_tuple b_range c_law_leaf c_law_draw (n + 1) ih
  exact all 2
/-! ### Disk.write -/
abbrev s_Disk_write : Stmt := inClass (top 31) 2
abbrev n_Disk_write : List Str := ["self", "position", "block"]
theorem sc_Disk_write : FnScope n_Disk_write ["self", "position", "block"] (defScope s_Disk_write) := ⟨rfl, rfl, rfl, by decide +kernel, rfl, by decide +kernel, by decide +kernel⟩
def wrS (s : DS) (n : Int) (v : V) : DS := ⟨s.kb, s.ca ++ [(n, v)], putK s.kf (.inl n) v, if n + 1 > s.r then n + 1 else s.r⟩
def sp_Disk_write (K : PySem.W.Frag) (C : Addr) : Sp := Sg (α := DA × DS × Int × V) (fun x vs M G => vs = [.ref x.1.p, .int x.2.2.1, x.2.2.2] ∧ DkAt C M G x.1 x.2.1 ∧ x.2.1.kf.length < 1000000 ∧ x.2.1.ca.length < 1000000)
  (fun x M _ v M' G' => v = .non ∧ DkAt C M' G' x.1 (wrS x.2.1 x.2.2.1 x.2.2.2) ∧ Fr x.1 M M')
theorem ok_Disk_write {P : Program} {w : World} {K : PySem.W.Frag} {mg : Str → Option Value} {base : Heap}
    {C_Disk : Addr} (T_Disk : Tx_Disk K mg C_Disk)
    {f : Addr} {fd : FuncData} (D : Dm K C_Disk "write" "Disk.write" s_Disk_write ["self", "position", "block"] f fd)
    (b_max : mg "max" = none) : CalM P w K mg base CX0 1 C_Disk "write" (sp_Disk_write K C_Disk) := by
  refine D.ok sc_Disk_write (fun vs H Q E h => ?_) fun cdv A outer s H vs Q E hr h => ?_
  · obtain ⟨x, M, G, j, ⟨rfl, _⟩, _⟩ := h; rfl
  obtain ⟨⟨d, s, n, v⟩, M, G, j, ⟨rfl, hd, z1, z2⟩, k⟩ := h
  dsimp only at hd z1 z2 k
  refine ⟨_, (pss_cons (ps_expr (pe_bm PySem.F.plainAttrs_list PySem.F.slot_list_append PySem.F.type_list_append mt_append (pe_fld (pv 0) rfl) (pa_cons (pe_tup (pa_cons (pv 1) (pa_cons (pv 2) pa_nil))) pa_nil)))
(pss_cons (ps_dput (hu_of hr) (pe_fld (pv 0) rfl) (pv 1) (pv 2) rfl)
(pss_one (ps_fld (pv 0) (pe_callB (call_max2 rfl) (by rfl) b_max bt_max (pa_cons (pe_fld (pv 0) rfl) (pa_cons (pe_op (op_uAddK (K := K) rfl) (pv 1) pe_int) pa_nil))) rfl)))), ?_⟩
  obtain ⟨xs, hc, hx⟩ := hd.oc
  have pb : d.p ≠ d.b := ne_k hd.op hd.ob (fun z => nomatch z)
  have pc : d.p ≠ d.c := ne_k hd.op hc (fun z => nomatch z)
  have pf : d.p ≠ d.f := ne_k hd.op hd.of (fun z => nomatch z)
  have bc : d.b ≠ d.c := ne_k hd.ob hc (fun z => nomatch z)
  have fc : d.f ≠ d.c := ne_k hd.of hc (fun z => nomatch z)
  have bf := hd.bf
  walk_at "start"
  refine w_fldM j hd.op T_Disk.cl T_Disk.n_cache fl_Disk_cache ?_
  refine ⟨ty_listM j hc, ?_⟩
  walk_at "go"
  refine w_new j (by show 2 ≤ sizeLine; decide) fun t G1 H1 j1 e1 ht _ => ?_
  walk_at "go"
  refine w_appendM j1 hc (sz_lt (by rw [hx.len]; exact z2)) fun H2 j2 => ?_
  walk_at "go"
  refine w_fldM j2 (upd_ne' hd.op pc) T_Disk.cl T_Disk.n_fresh fl_Disk_fresh ?_
  walk_at "go"
  refine w_putX j2 (upd_ne' hd.of fc) z1 fun H3 j3 => ?_
  walk_at "go"
  refine w_fldM j3 (upd_ne' (upd_ne' hd.op pc) pf) T_Disk.cl T_Disk.n_reach fl_Disk_reach ?_
  walk_at "go"
  refine ⟨_, _, rfl, ?_⟩
  walk_at "go"
  refine w_setX j3 (upd_ne' (upd_ne' hd.op pc) pf) T_Disk.cl T_Disk.n_reach (by show 4 < 1000; decide) fun H4 j4 => ?_
  walk_at "go"
  refine k _ _ _ _ j4 e1 ⟨rfl, ⟨?_, ?_, ⟨xs ++ [.ref t], ?_, (hx.ex e1).snoc ht⟩, ?_, bf⟩, fun a o e n1 n2 n3 n4 => ?_⟩
  · rw [sf_Disk_reach]; exact upd_same
  · rw [upd_ne pb.symm, upd_ne bf, upd_ne bc]; exact hd.ob
  · rw [upd_ne pc.symm, upd_ne fc.symm, upd_same]
  · rw [upd_ne pf.symm, upd_same]; rfl
  · rw [upd_ne n1, upd_ne n4, upd_ne n3]; exact e
/-! ### {e for x in xs if t}, e whole numbers -/
section
variable {X : Cx}
theorem add_int {pq : List (Addr × Obj)} {σ : L2.St} {H : Hp} {s : Shared} {E : Value → Shared → Prop} {a : Addr} {S : Int → Bool} {n : Nat} {c : Int} {tk : Tok} {Q : Value → Shared → Prop} (I : Inv X pq σ H s) (ha : H a = some (SetO X.w a S n)) (hz : n + 1 < scanBound)
    (k : ∀ t, Inv X pq σ (upd H a (SetO X.w a (fun j => S j || decide (j = c)) (if S c = true then n else n + 1))) t → Q .none t) : wpAny (model X.prog X.w) X.A (call (.builtin "set.add") [.ref a, .int c tk]) Q E s :=
  setR_add (setO_get I ha) hz fun hp keep new => k _ (I.write (e := a) (t' := s.toks + 1) (by rw [ha]; trivial) (.inl rfl) (fun b u hb hu => (keep.2 b hb).trans hu) (by obtain ⟨o, _, _, _, ho, _⟩ := new; exact ⟨o, ho⟩) (setO_new new))
def tSci (w : World) (wi : TI) (g : TG) (tt : TT) (te : TE) (vs : List Nat) : TE := fun σ H Q => wi σ H fun U H1 => ∀ D, H1 D = none → ∃ W : Nat → Nat → Hp → Prop, (∃ m, W 0 m (upd H1 D (SetO w D (fun _ => false) 0))) ∧ ∀ i m H, W i m H →
  (U.stop i H ∧ Q (.ref D) H) ∨ (U.go i H ∧ ∃ Nx : Hp → Prop, (∀ H', Nx H' → ∃ m', m' < m ∧ W (i + 1) m' H') ∧ ∀ x H', U.yld i H x H' → g x (wipe σ vs) H' fun σ2 H2 => wipe σ2 vs = wipe σ vs ∧ tt σ2 H2 fun b H3 =>
    if b = true then te σ2 H3 fun y H4 => ∃ (c : Int) (S : Int → Bool) (n : Nat), y = .int c ∧ H4 D = some (SetO w D S n) ∧ n + 1 < scanBound ∧ Nx (upd H4 D (SetO w D (fun j => S j || decide (j = c)) (if S c = true then n else n + 1))) else Nx H3)
theorem pe_sci {elt tg iter : Expr} {ifs : List Expr} {scope : Scope} {own : List (PySem.Str × Nat)} {pos : Pos} {wi : TI} {g : TG} {tt : TT} {te : TE} (hc : X.calm = true) (hN : X.N.Nodup) (hi : PI X tg iter wi) (ok : BlkOk X.N X.env.scope scope own)
    (hg : ∀ (s : Shared) (H : Hp) (C : Addr) (cl : List (PySem.Str × Addr)) (fp : List Addr), PG (X.blk s H scope (compEnvC scope cl C X.env) fp) tg g) (ht : ∀ (s : Shared) (H : Hp) (C : Addr) (cl : List (PySem.Str × Addr)) (fp : List Addr), PTs (X.blk s H scope (compEnvC scope cl C X.env) fp) ifs tt)
    (he : ∀ (s : Shared) (H : Hp) (C : Addr) (cl : List (PySem.Str × Addr)) (fp : List Addr), PE (X.blk s H scope (compEnvC scope cl C X.env) fp) elt te) (hs : ∀ x, foldedSetIterable iter X.env x = pure x := by intro _; rfl) :
    PE X (.SetComp elt [⟨tg, iter, ifs, 0⟩] scope pos) (tSci X.w wi g tt te (own.map (·.2))) := ⟨fun pq s σ H Q I hyp => by
  rw [PpSet.eval_SetComp]
  have cells : ∀ y ∈ scope.names, y.2 = .free → ∃ c, X.env.cells.lookup y.1 = some c := fun y hy e => (ok.free y hy e).elim (fun k => I.ok.has _ (.inl k)) fun k => I.ok.has _ (.inr k)
  refine wpAny_comprehension_free rfl hs (closure_ok cells) ok.kind (fun y hy e => by rw [ok.uniq y hy, e]) (thn (hi.run pq s σ H _ I hyp) fun xv sa hx => thn hx fun itv sb hb => ?_)
  obtain ⟨it, fp, tn, U, Hb, rfl, Ib, T, stb, fb, q⟩ := hb
  refine PpSet.newSet_ok (newEnv_comp ?_)
  obtain ⟨D, hD⟩ : ∃ D, sb.heap.objs.size = D := ⟨_, rfl⟩
  rw [hD]
  obtain ⟨W, ⟨m0, w0⟩, turn⟩ := q D (Ib.hok.fresh (Nat.le_of_eq hD))
  obtain ⟨sc, hsc⟩ : ∃ sc : Shared, ({ sb with heap := sb.heap.push { cls := .type "set", dict := none, data := .set #[] 0 (.fresh 0 0 (!X.w.params.followText "set-order")) } } : Shared) = sc := ⟨_, rfl⟩
  rw [hsc]
  have hpc : sc.heap = sb.heap.push { cls := .type "set", dict := none, data := .set #[] 0 (.fresh 0 0 (!X.w.params.followText "set-order")) } := by rw [← hsc]
  have Ic : Inv X pq σ (upd Hb D (SetO X.w D (fun _ => false) 0)) sc := by
    rw [← hsc]
    exact Ib.laid (t' := sb.toks) (fun b o e => Heap.get?_push_of_some _ e) (Nat.le_of_eq hD) (by rw [← hD]; exact setO_new (setR_fresh X.w))
  have small : ∀ b ∈ fp, b < sb.heap.objs.size := fun b hb => (T.obj _ _ stb b hb).elim fun o z => Heap.lt_size z.1
  have fc : ∀ b ∈ fp, FpOk X pq (upd Hb D (SetO X.w D (fun _ => false) 0)) b ∧ b < sc.heap.objs.size := fun b hb =>
    ⟨⟨by rw [upd_ne (by rw [← hD]; exact Nat.ne_of_lt (small b hb))]; exact (fb b hb).1, (fb b hb).2⟩, by rw [hpc, Heap.size_push]; exact Nat.lt_succ_of_lt (small b hb)⟩
  have stc : tn 0 sc.heap := T.keep _ _ _ stb fun b _ o z => by rw [hpc]; exact Heap.get?_push_of_some _ z
  have Id := block_start Ic ok hN fc
  obtain ⟨CL, hCL⟩ : ∃ CL, cellsFrom (sc.heap.objs.size + 1) scope.names (cloFrom X.env.cells scope.names []) = CL := ⟨_, rfl⟩
  have rg := hg sc (upd Hb D (SetO X.w D (fun _ => false) 0)) sc.heap.objs.size CL fp
  have rt := ht sc (upd Hb D (SetO X.w D (fun _ => false) 0)) sc.heap.objs.size CL fp
  have re := he sc (upd Hb D (SetO X.w D (fun _ => false) 0)) sc.heap.objs.size CL fp
  have nofp : ∀ b ∈ fp, (upd Hb D (SetO X.w D (fun _ => false) 0)) b = none := fun b hb => (fc b hb).1.1
  show codeAny _ _ (.compStart _ 0 (.ref it) (.ref D) (compEnvC scope (cellsFrom (sc.heap.objs.size + 1) scope.names (cloFrom X.env.cells scope.names [])) sc.heap.objs.size X.env)) (compPost (model X.prog X.w) X.A X.xe _ _ (.ref D) sc.heap.objs.size) { sc with heap := pushCells (sc.heap.push { cls := .type "dict", data := .dict #[] }) scope.names }
  rw [hCL] at Id ⊢
  obtain ⟨ce, hce⟩ : ∃ ce, compEnvC scope CL sc.heap.objs.size X.env = ce := ⟨_, rfl⟩
  rw [hce] at Id rg rt re ⊢
  have loc0 : ce.locals = sc.heap.objs.size := by rw [← hce]; rfl
  obtain ⟨Hc, hHc⟩ : ∃ Hc, upd Hb D (SetO X.w D (fun _ => false) 0) = Hc := ⟨_, rfl⟩
  rw [hHc] at Ic Id rg rt re w0 nofp fc
  obtain ⟨sd, hsd⟩ : ∃ sd : Shared, ({ sc with heap := pushCells (sc.heap.push { cls := .type "dict", data := .dict #[] }) scope.names } : Shared) = sd := ⟨_, rfl⟩
  rw [hsd]
  replace Id : Inv (X.blk sc Hc scope ce fp) [] (wipe σ (own.map (·.2))) Hc sd := hsd ▸ Id
  have std : tn 0 sd.heap := T.keep _ _ _ stc fun b _ o z => by rw [← hsd]; exact pushCells_keeps _ _ _ _ (Heap.get?_push_of_some _ z)
  have still : ∀ {σ' : L2.St} {H' : Hp} {s' : Shared}, Inv (X.blk sc Hc scope ce fp) [] σ' H' s' → (∀ b ∈ fp, H' b = none) → ∀ b ∈ fp, FpOk (X.blk sc Hc scope ce fp) [] H' b := fun I' hn b hb =>
    ⟨hn b hb, (I'.ok.exf b hb).1, I'.ok.exfs b hb, .inl hb, fun x c e => (I'.ok.exf b hb).2 x c e, fun p hp => absurd (show p ∈ ([] : List (Addr × Obj)) ++ [] from hp) (by simp)⟩
  have run : codeAny (model X.prog X.w) X.A (.compLoop (.SetComp elt [⟨tg, iter, ifs, 0⟩] scope pos) 0 (.ref it) (.ref D) ce) (compPost (model X.prog X.w) X.A X.xe none (EP X pq σ Q) (.ref D) sc.heap.objs.size) sd := by
    refine PpSet.compLoopS_any (fun m t => ∃ i Hi, Inv (X.blk sc Hc scope ce fp) [] (wipe σ (own.map (·.2))) Hi t ∧ tn i t.heap ∧ (∀ b ∈ fp, Hi b = none) ∧ W i m Hi) (fun m t z => ?_) m0 ⟨0, Hc, Id, std, nofp, w0⟩
    obtain ⟨i, Hi, Ii, sti, ni, wi'⟩ := z
    rcases turn i m Hi wi' with ⟨halt, qq⟩ | ⟨go, Nx, less, step⟩
    · refine thnF (T.done (X.blk sc Hc scope ce fp) rfl rfl rfl hc i [] t _ Hi (fun _ _ => False) Ii (still Ii ni) sti halt) fun r t6 z6 => ?_
      obtain ⟨rfl, I6⟩ := z6
      have I7 : Inv X pq σ Hi t6 := Ic.call' (ch := fp) I6.os I6.base I6.hok I6.bare fun b hb => ⟨(fc b hb).1.2.2.2.1, (fc b hb).1.2.1, (fc b hb).1.2.2.2.2.1, (fc b hb).1.2.2.2.2.2⟩
      have noC : Hi sc.heap.objs.size = none := by rw [← loc0]; exact I6.free
      obtain ⟨mm, hmm, _⟩ := I6.loc
      replace hmm : t6.heap.Ns sc.heap.objs.size mm := by rw [← loc0]; exact hmm
      obtain ⟨z0, z1, z2, z3, z4, z5⟩ := Ic.fpOk (Nat.le_refl _) noC
      exact ⟨mm, hmm, fun h'' keep => ⟨.ref D, Hi, I7.turned (t' := t6.toks) (fun b o hb e => (keep.2 b hb).trans e) z0 z1 z3 z4 z5, rfl, qq⟩⟩
    · refine thnF (T.item (X.blk sc Hc scope ce fp) rfl rfl rfl hc i [] t _ Hi (fun _ _ => False) Ii (still Ii ni) sti go) fun r t6 z6 => ?_
      obtain ⟨u, rfl, z6⟩ := z6
      refine thnF z6 fun _ t7 z7 => ?_
      obtain ⟨x, H7, I7, r7, y7, st7, n7⟩ := z7
      refine thnF (rg.run _ t7 _ H7 x u _ (I7.pinned (still I7 n7) (T.obj _ _ st7)) r7 (step x H7 y7)) fun _ t8 z8 => ?_
      obtain ⟨σ8, H8, I8, hw8, q8⟩ := z8
      refine thnF (rt.run _ t8 σ8 H8 _ I8 q8) fun b t9 z9 => ?_
      obtain ⟨H9, I9, q9⟩ := z9
      have turned : ∀ {t' : Shared} {H' : Hp}, Inv (X.blk sc Hc scope ce fp) ([] ++ pinsAt fp t7.heap) σ8 H' t' → Nx H' → ∃ m', m' < m ∧ ∃ i Hi, Inv (X.blk sc Hc scope ce fp) [] (wipe σ (own.map (·.2))) Hi t' ∧ tn i t'.heap ∧ (∀ b ∈ fp, Hi b = none) ∧ W i m' Hi := fun {t' H'} I' nx => by
        obtain ⟨m', hm', w'⟩ := less H' nx
        have kept : ∀ b ∈ fp, ∀ o, t7.heap.get? b = some o → t'.heap.get? b = some o ∧ H' b = none := fun b hb o e => ⟨(I'.pin (b, o) (List.mem_append_right _ (List.mem_append_right _ (mem_pinsAt hb e)))).1, (I'.pin (b, o) (List.mem_append_right _ (List.mem_append_right _ (mem_pinsAt hb e)))).2.1⟩
        exact ⟨m', hm', i + 1, H', (I'.unpinned (pins := [])).weak (by rw [← hw8, wipe_length]) (fun jj v e => by rw [← hw8] at e; exact (wipe_some e).1), T.keep _ _ _ st7 fun b hb o e => (kept b hb o e).1, fun b hb => (T.obj _ _ st7 b hb).elim fun o z => (kept b hb o z.1).2, w'⟩
      cases b with
      | false => exact turned I9 q9
      | true =>
        refine thnF (re.run _ t9 σ8 H9 _ I9 q9) fun zv t10 z10 => ?_
        obtain ⟨yv, H10, I10, r10, cb, S0, n0, rfl, hD10, hz10, nx⟩ := z10
        obtain ⟨tk0, rfl⟩ : ∃ tk0, zv = .int cb tk0 := r10
        exact add_int (X := X.blk sc Hc scope ce fp) I10 hD10 hz10 fun t11 I11 => turned I11 nx
  exact PpSet.codeAny_compStart_set run (T.self X.A 0 _ _ _ std run)⟩
end
/-! ### set(xs), xs a list of whole numbers, so that it can be walked -/
def SetI (w : World) (h : Heap) (a : Addr) (ns : List Int) : Prop := ∃ S m, SetR w h a S m ∧ (∀ k, S k = true ↔ k ∈ ns) ∧ m ≤ ns.length
theorem SetI.keep {w : World} {h h' : Heap} {a : Addr} {ns : List Int} (x : SetI w h a ns) (k : ∀ o, h.get? a = some o → h'.get? a = some o) : SetI w h' a ns := by
  obtain ⟨S, m, r, e, l⟩ := x; exact ⟨S, m, r.at k, e, l⟩
section
variable {P : Program} {w : World} {A : Around} {E : Value → Shared → Prop}
theorem set_loop {R : Result → Shared → Prop} {it : Addr} {fp wr : List Addr} {G : Array GenState → Array GenState → Prop} {n : Nat} {Pv : Nat → Value → Prop} {St : Nat → Shared → Prop} (W : WalksS P w A.in1 it fp wr G n Pv St) (a : Addr) (na : a ∉ fp) (ns : List Int) (hn : n = ns.length) (hb : ns.length + 1 < scanBound)
    (hv : ∀ i v, Pv i v → ∃ c t, ns[i]? = some c ∧ v = .int c t) : ∀ (rest i : Nat) (s : Shared), n - i = rest → i ≤ n → St i s → SetI w s.heap a (ns.take i) → (∀ t, Moved (a :: wr) G s t → SetI w t.heap a ns → R (.ok (.ret .none)) t) →
      codeAny (model P w) A (.builtin "set.update.loop" ⟨[.ref a, .ref it], []⟩) R s := by
  have nw : a ∉ wr := fun h => na (W.sub _ h)
  have wider : ∀ b ∈ wr, b ∈ a :: wr := fun b h => List.mem_cons_of_mem _ h
  intro rest
  induction rest with
  | zero =>
    intro i s e1 e2 st x k
    obtain rfl : i = n := by omega
    refine codeAny_builtin F.entry_set_update_loop ?_
    rw [Around.under_plainId F.plain_set_update_loop _]
    show wpAny _ A.in1 (pyNext (.ref it) >>= _) _ _ s
    exact wpAny_bind (W.done s _ _ st fun t mv => by
      show wpAny _ A.in1 (ret Value.none) _ _ t
      exact wpAny_pure (k t (mv.mono wider) ((by rw [hn, List.take_length] at x; exact x : SetI w s.heap a ns).keep fun o z => mv.heap a o nw z)))
  | succ rest ih =>
    intro i s e1 e2 st x k
    have lt : i < n := by omega
    refine codeAny_builtin F.entry_set_update_loop ?_
    rw [Around.under_plainId F.plain_set_update_loop _]
    show wpAny _ A.in1 (pyNext (.ref it) >>= _) _ _ s
    refine wpAny_bind (W.item i s _ _ lt st fun v t hP st' mv => ?_)
    obtain ⟨c, tk, hc, rfl⟩ := hv i v hP
    obtain ⟨S, m, r, e, l⟩ := x.keep fun o z => mv.heap a o nw z
    have lm : m ≤ i := by rw [List.length_take] at l; omega
    show wpAny _ A.in1 (holding [Value.int c tk] (setAdd a (.int c tk)) >>= _) _ _ t
    refine wpAny_bind (wpAny_holding ?_)
    unfold setAdd
    refine wpAny_holding (wpAny_bind ((intKind P w).pyHash (k := c) (intKind_is _ _ _ _) ?_))
    refine setR_add_hashed (P := P) (s := { t with toks := t.toks + 1 }) r (by omega) fun h' same r' => ?_
    have hl : i < ns.length := by omega
    have tk1 : ns.take (i + 1) = ns.take i ++ [c] := by rw [List.take_add_one, hc]; rfl
    have x' : SetI w h' a (ns.take (i + 1)) := ⟨_, _, r', fun j => by
      rw [tk1, List.mem_append, List.mem_singleton, Bool.or_eq_true, decide_eq_true_eq, e], by rw [tk1, List.length_append, List.length_singleton]; split <;> omega⟩
    refine wpAny_pure ⟨plainId_quiet F.plain_set_update_loop _, ih (i + 1) _ (by omega) lt (W.frame _ t _ _ st' (Nat.le_succ _) fun b hb o z => ?_) x' fun t2 mv2 x2 => ?_⟩
    · rw [same.2 b (fun h : b = a => na (h ▸ hb))]; exact z
    · refine k t2 (Moved.trans W.gtrans ((mv.mono wider).then_heap (Nat.le_succ _) fun b o hb z => ?_) mv2) x2
      rw [same.2 b (fun h : b = a => hb (h ▸ List.mem_cons_self))]; exact z
end
section
variable {P : Program} {w : World} {A : Around} {E : Value → Shared → Prop} {s : Shared}
set_option maxHeartbeats 4000000 in
theorem call_set_ints {l : Addr} {items : Array Value} {ns : List Int} {Q : Value → Shared → Prop} (hh : A.handled = none) (hl : s.heap.IsList l items) (hi : ∀ (i : Nat) (v : Value), items[i]? = some v → ∃ c t, ns[i]? = some c ∧ v = .int c t) (hz : items.size = ns.length) (hb : ns.length + 1 < scanBound)
    (k : ∀ (h' : Heap) (tk : Nat), SetI w h' s.heap.objs.size ns → (∀ b o, s.heap.get? b = some o → h'.get? b = some o) → Q (.ref s.heap.objs.size) { s with heap := h', toks := tk }) : wpAny (model P w) A (call (.type "set") [.ref l]) Q E s := by
  obtain ⟨c, tl, hmro⟩ := F.called_set.mro; have hmade := F.called_set.made; have hsub := F.called_set.sub
  obtain ⟨fresh, hfresh⟩ : ∃ u : Obj, ({ cls := .type "set", dict := none, data := .set #[] 0 (.fresh 0 0 (!w.params.followText "set-order")) } : Obj) = u := ⟨_, rfl⟩
  refine wpAny_call (codeAny_of_tree ?_)
  show wpAny _ _ (callAny (.type "set") _) _ _ _
  refine wpAny_pure ⟨Code.quiet_builtin _ (by decide +kernel), codeAny_builtin F.entry_type_call ?_⟩
  rw [Around.under_plain (weight_type_call_type "set" [.ref l] []) rfl]
  have h1 := F.called_set.notType; have h2 := F.called_set.canCreate; have hct := F.typeCall_set_1 (.ref l)
  repeat (any_goals (first | assumption | wp_step))
  refine codeAny_mono (code_set_led1 (.ref l) (E := E) (Q₁ := fun obj t => obj = .ref s.heap.objs.size ∧ t = { s with heap := s.heap.push fresh }) ⟨rfl, by rw [← hfresh]⟩) fun r t hr => ?_
  cases r with
  | error e => exact hr
  | ok fl =>
    cases fl with
    | ret obj =>
      obtain ⟨rfl, rfl⟩ := hr
      have hS : (s.heap.push fresh).get? s.heap.objs.size = some fresh := Heap.get?_push_size _ (by rw [← hfresh]; rfl)
      have hT : Shared.TypeIs { s with heap := s.heap.push fresh } (.ref s.heap.objs.size) "set" := ⟨_, hS, by rw [← hfresh]⟩
      have hli := F.called_set.init.lookup; have hbi := F.called_set.init.bind (.ref s.heap.objs.size)
      repeat (any_goals (first | assumption | wp_step))
      refine codeAny_mono (codeAny_call_builtin (R := wants (fun r t => r = .none ∧ ∃ h' tk, t = { s with heap := h', toks := tk } ∧ SetI w h' s.heap.objs.size ns ∧ ∀ b o, s.heap.get? b = some o → h'.get? b = some o) E) F.called_set.init.plain F.entry_set_init (check_set_init_1 hT ?_)) fun r2 t2 hr2 => ?_
      · obtain ⟨ol, hol, hcl, nl, hdl⟩ := hl
        obtain ⟨ocls, odict, odata, oslots⟩ := ol
        simp only at hcl hdl
        subst hcl hdl
        have hol' : (s.heap.push fresh).get? l = some { cls := .type "list", dict := odict, data := .seq items nl, slots := oslots } := Heap.get?_push_of_some _ hol
        have hsls := F.sub_list_set; have hslf := F.sub_list_frozenset
        have hne : (Value.type "list" == Value.type "dict") = false := by decide
        have hl1 : (s.heap.push fresh).IsList l items := ⟨_, hol', rfl, nl, rfl⟩
        have sz : ∀ o : Obj, (s.heap.push o).objs.size = s.heap.objs.size + 1 := fun o => Heap.size_push ..
        have ll : l < s.heap.objs.size := Heap.lt_size hol
        have deep : A.in1.in1.in1.handled = none := by simp [hh]
        subst hfresh
        unfold Builtin.«set.__init__» noKeywords Builtin.Frozenset.updateFrom
        generalize hPI : pyIter = PI
        wp_walk
        subst hPI
        refine wpAny_pyIter_list hl1 ?_; refine wpAny_bind (wpAny_runValue ?_)
        refine set_loop ((Walks.list deep _ l ?far items).toS) s.heap.objs.size ?out ns hz hb hi (items.size - 0) 0 _ (by omega) (Nat.zero_le _) ⟨⟨_, Heap.get?_push_size _ rfl, rfl, rfl⟩, hl1.push _⟩ ?start fun t mv x => ?_
        case far => rw [sz]; exact Nat.ne_of_lt (Nat.lt_succ_of_lt ll)
        case out => rw [sz]; simp only [List.mem_cons, List.not_mem_nil, or_false, not_or]; exact ⟨Nat.ne_of_lt (Nat.lt_succ_self _), Nat.ne_of_gt ll⟩
        case start => exact ⟨_, 0, (setR_fresh w : SetR w (s.heap.push _) s.heap.objs.size (fun _ => false) 0).at fun o z => Heap.get?_push_of_some _ z, fun j => by simp, Nat.zero_le _⟩
        obtain ⟨h', g2, d', tk', os'⟩ := t
        obtain rfl : g2 = s.gens := mv.gens
        obtain rfl : d' = s.drawn := mv.drawn
        obtain rfl : os' = s.os := mv.os
        refine wpAny_pure ?_; show wpAny _ _ (ret Value.none) _ _ _
        refine wpAny_pure ⟨rfl, h', tk', rfl, x, fun b o z => ?_⟩
        have hb0 := Heap.lt_size z
        exact mv.heap b o (by rw [sz]; simp only [List.mem_cons, List.not_mem_nil, or_false, not_or]; exact ⟨Nat.ne_of_lt hb0, Nat.ne_of_lt (Nat.lt_succ_of_lt hb0)⟩) (Heap.get?_push_of_some _ (Heap.get?_push_of_some _ z))
      · cases r2 with
        | error e => exact hr2
        | ok fl2 =>
          cases fl2 with
          | ret r =>
            obtain ⟨rfl, h', tk, rfl, hI, kp⟩ := hr2
            repeat (any_goals (first | assumption | wp_step))
            exact k _ _ hI kp
          | _ => exact hr2.elim
    | _ => exact hr.elim
end
/-! ### sets in the walk -/
def SciD (w : World) (U : It) (g : TG) (tt : TT) (te : TE) (vs : List Nat) (σ : L2.St) (H1 : Hp) (Q : VK) : Prop := ∀ D, H1 D = none → ∃ W : Nat → Nat → Hp → Prop, (∃ m, W 0 m (upd H1 D (SetO w D (fun _ => false) 0))) ∧ ∀ i m H, W i m H →
  (U.stop i H ∧ Q (.ref D) H) ∨ (U.go i H ∧ ∃ Nx : Hp → Prop, (∀ H', Nx H' → ∃ m', m' < m ∧ W (i + 1) m' H') ∧ ∀ x H', U.yld i H x H' → g x (wipe σ vs) H' fun σ2 H2 => wipe σ2 vs = wipe σ vs ∧ tt σ2 H2 fun b H3 =>
    if b = true then te σ2 H3 fun y H4 => ∃ (c : Int) (S : Int → Bool) (n : Nat), y = .int c ∧ H4 D = some (SetO w D S n) ∧ n + 1 < scanBound ∧ Nx (upd H4 D (SetO w D (fun j => S j || decide (j = c)) (if S c = true then n else n + 1))) else Nx H3)
def SciL (K : PySem.W.Frag) (w : World) (g : TG) (tt : TT) (te : TE) (vs : List Nat) (σ : L2.St) (x : V) (H1 : Hp) (Q : VK) : Prop := ∃ a, x = .ref a ∧ (∃ xs, SqL K H1 a xs) ∧ SciD w (Itl K a) g tt te vs σ H1 Q
section
variable {K : PySem.W.Frag} {w : World} {g : TG} {tt : TT} {te tl : TE} {vs : List Nat} {σ : L2.St} {H : Hp} {Q : VK} {M G : Hp} {a : Addr} {xs : List V} {s : Nat}
theorem w_scL (h : tl σ H fun x H1 => SciL K w g tt te vs σ x H1 Q) : tSci w (iList K tl) g tt te vs σ H Q := h
def SciI (w : World) (P : Addr → Nat → (Int → Bool) → Nat → Hp → Hp → Prop) (L : Addr) (i : Nat) (H : Hp) : Prop := ∃ S n M1 G1, J M1 G1 H ∧ M1 L = some (SetO w L S n) ∧ P L i S n M1 G1
theorem w_scl (j : J M G H) (P : Addr → Nat → (Int → Bool) → Nat → Hp → Hp → Prop) (hx : SqL K G a xs) (h0 : ∀ L, M L = none → G L = none → P L 0 (fun _ => false) 0 (upd M L (SetO w L (fun _ => false) 0)) G) (hG : ∀ L i S n M1 G1, P L i S n M1 G1 → Ex G G1) (hw : ∀ x, wipe ((wipe σ vs).set s (some x)) vs = wipe σ vs)
    (hs : ∀ L i x S n M1 G1 H1 (R : Bool → Hp → Prop), xs[i]? = some x → J M1 G1 H1 → M1 L = some (SetO w L S n) → P L i S n M1 G1 →
      (∀ b H3, (if b = true then te ((wipe σ vs).set s (some x)) H3 (fun y H4 => ∃ (c : Int) (S : Int → Bool) (n : Nat), y = .int c ∧ H4 L = some (SetO w L S n) ∧ n + 1 < scanBound ∧ SciI w P L (i + 1) (upd H4 L (SetO w L (fun j => S j || decide (j = c)) (if S c = true then n else n + 1)))) else SciI w P L (i + 1) H3) → R b H3) → tt ((wipe σ vs).set s (some x)) H1 R)
    (hd : ∀ L S n M1 G1 H1, J M1 G1 H1 → M1 L = some (SetO w L S n) → P L xs.length S n M1 G1 → Q (.ref L) H1) : SciL K w (gName s) tt te vs σ (.ref a) H Q := by
  refine ⟨a, rfl, ⟨xs, sl_mono j.g hx⟩, fun L hL => ⟨fun i m H => m = xs.length - i ∧ i ≤ xs.length ∧ SciI w P L i H, ⟨xs.length, by simp, Nat.zero_le _, _, _, _, _, j.newM hL, upd_same, h0 L (j.freeM hL) (j.freeG hL)⟩, fun i m H1 z => ?_⟩⟩
  obtain ⟨rfl, hi, S, n, M1, G1, j1, e, p⟩ := z
  have q := sl_mono ((hG _ _ _ _ _ _ p).trans j1.g) hx
  by_cases lt : i < xs.length
  · refine .inr ⟨⟨xs, xs[i], q, by simp [lt]⟩, SciI w P L (i + 1), fun H' p' => ⟨xs.length - (i + 1), by omega, rfl, lt, p'⟩, fun x H' y => ?_⟩
    obtain ⟨rfl, y⟩ := y
    refine ⟨hw _, hs L i x S n M1 G1 _ _ (y xs q) j1 e p fun b H3 r => ?_⟩
    exact r
  · obtain rfl : i = xs.length := by omega
    exact .inl ⟨⟨xs, q, Nat.le_refl _⟩, hd L S n M1 G1 H1 j1 e p⟩
/-- sorted(a set) -/
theorem w_sortS {n : Nat} {S : Int → Bool} (j : J M G H) (h : M a = some (SetO w a S n) ∨ G a = some (SetO w a S n)) (z : n < 64)
    (k : ∀ (ns : List Int), ns.Pairwise (· < ·) → (∀ k : Int, k ∈ ns ↔ S k = true) → ns.length = n → NewO (.lst (ns.map V.int)) n H Q) : rSortedSet w [.ref a] H Q :=
  ⟨a, S, n, rfl, h.elim (fun h => j.m _ _ h) (fun h => j.g _ _ h), z, fun ns p h1 h2 h3 hp => (k ns h1 h2 h3).2 p hp⟩
end
/-- set(xs) -/
def SetC (K : PySem.W.Frag) (w : World) (xs : List V) (H : Hp) (Q : VK) : Prop := ∃ (l : Addr) (ns : List Int), xs = [V.ref l] ∧ SqL K H l (ns.map V.int) ∧ ns.length < 64 ∧ ∀ a S n, H a = none → (∀ k, S k = true ↔ k ∈ ns) → n ≤ ns.length → Q (.ref a) (upd H a (SetO w a S n))
theorem vals_int : ∀ {ns : List Int} {us : List Value} {i : Nat} {v : Value}, Vals (ns.map V.int) us → us[i]? = some v → ∃ c t, ns[i]? = some c ∧ v = .int c t
  | [], _, _, _, .nil, h => by simp at h
  | c :: _, _, 0, _, .cons r _, h => by
    obtain ⟨t, rfl⟩ := r
    exact ⟨c, t, rfl, (Option.some.inj h).symm⟩
  | _ :: _, _, i + 1, _, .cons _ t, h => by
    obtain ⟨c, k, e1, e2⟩ := vals_int (i := i) t (by simpa using h)
    exact ⟨c, k, by simpa using e1, e2⟩
theorem call_setC {X : Cx} (hc : X.calm = true) : CallR X (.type "set") (SetC X.K X.w) := by
  intro pq s σ H xs us Q I r h
  obtain ⟨l, ns, rfl, hl, hf, q⟩ := h
  rw [Vals.ref1 r]
  obtain ⟨its, rv, pl, hz⟩ := I.list hl
  have len : its.length = ns.length := by rw [← rv.length, List.length_map]
  refine call_set_ints (P := X.prog) (w := X.w) (ns := ns) (I.ok.hd hc) pl.isList (fun i v hv => vals_int rv (by simpa using hv)) (by simpa using len) (by unfold scanBound; omega) fun h' tk x keep => ?_
  obtain ⟨S, m, R, e, lm⟩ := x
  exact ⟨.ref s.heap.objs.size, upd H s.heap.objs.size (SetO X.w s.heap.objs.size S m), I.laid (t' := tk) keep (Nat.le_refl _) (setO_new R), rfl, q _ S m (I.hok.fresh (Nat.le_refl _)) e lm⟩
theorem w_setC {K : PySem.W.Frag} {w : World} {M G H : Hp} {l : Addr} {ns : List Int} {Q : VK} (j : J M G H) (h : SqL K G l (ns.map V.int)) (z : ns.length < 64) (k : ∀ a S n G' H', (∀ k, S k = true ↔ k ∈ ns) → n ≤ ns.length → J M G' H' → Ex G G' → G' a = some (SetO w a S n) → Q (.ref a) H') : SetC K w [.ref l] H Q :=
  ⟨l, ns, rfl, sl_mono j.g h, z, fun a S n ha e ln => k a S n _ _ e ln (j.newG ha) (Ex.new (j.freeG ha)) upd_same⟩
/-! ### sorted(a set) of whole numbers, of any size -/
section
open PyProof.Rows
variable {P : Program} {w : World} {A : Around} {E : Value → Shared → Prop} {s : Shared} {a : Addr}
theorem big_set {S : Int → Bool} {n : Nat} {Q : Value → Shared → Prop} (R : SetR w s.heap a S n) (hh : A.handled = none)
    (fin : ∀ (z : Shared) (p : Addr) (out : Array Value) (c : Nat) (ns : List Int), (∀ b o, s.heap.get? b = some o → z.heap.get? b = some o) → z.gens = s.gens → z.os = s.os → s.heap.objs.size ≤ p →
      z.heap.get? p = some (seqObj "list" out c) → IntsAre out.toList ns → ns.Pairwise (· < ·) → (∀ k, k ∈ ns ↔ S k = true) → ns.length = n → n < scanBound → Q (.ref p) z) :
    wpAny (model P w) A (call (.builtin "sorted") [Value.ref a]) Q E s := by
  obtain ⟨ob, xs, _, tr, e1, e2, e3, e4, e5, e6, e7, e8, e9, e10, e11⟩ := R
  refine Calls.call_function_entry kind_sorted plain_sorted
    entry_sorted (args_sorted1 _) ?_
  unfold Builtin.«sorted»
  refine wpAny_bind (m := checkCount "sorted" 1 1 _)
    (wpAny_pure ?_)
  refine wpAny_bind (collect_set (A := A.in1) hh ⟨ob, e1, e2.1, e3⟩ e8 e7 e10 e11 fun s1 vs kp hz gg oo pm => ?_)
  have lv : vs.length = n := by
    have := pm.length_eq
    rw [List.length_map, Array.length_toList] at this
    exact this.trans e9
  have iv : IntsAre vs (vs.map Builtin.Re.reRawOf) := ints_of vs fun v hv => by
    obtain ⟨x, hx, q⟩ := List.mem_map.mp (pm.mem_iff.mp hv)
    obtain ⟨k, tk, h, _⟩ := e4 x hx
    exact ⟨k, tk, q ▸ h⟩
  have pk : (vs.map Builtin.Re.reRawOf).Perm (xs.toList.map keyOf) := by
    have := pm.map Builtin.Re.reRawOf
    rwa [List.map_map] at this
  have nb : n < scanBound := by omega
  have small : vs.length ≤ sizeLine := by
    have n4 : n < 4096 := nb
    exact sz_le (by omega)
  refine wpAny_bind (wpAny_newList ?_ small)
  have ho : (s1.heap.push (seqObj "list" vs.toArray 0)).get?
      s1.heap.objs.size = some (seqObj "list" vs.toArray 0) := Heap.get?_push_size _ rfl
  refine wpAny_bind (wpAny_holding (wpAny_call_entry slot_list_sort ⟨_, ho, rfl⟩ entry_list_sort
    (SrtO.list_sort_ord SrtO.swo_int ho small (fun h2 => SrtO.ints_sortable iv h2) fun out b1 b2 => ⟨_, rfl, ?_⟩) (args_list_sort _)))
  obtain ⟨k1, k2, k3⟩ := SrtO.ints_out iv b1 b2
  obtain ⟨c, hc⟩ := sortedHeap_at (vs := vs) (out := out.toArray) ho
  have pn := k2.trans pk
  refine wpAny_pure ⟨_, rfl, fin _ s1.heap.objs.size out.toArray c (out.map SrtO.iv) (fun b u e => ?_) gg oo hz hc (by simpa using k1) (lt_of_le_nodup _ k3 (pn.nodup_iff.mpr e5)) (fun k => by rw [pn.mem_iff, ← e6 k]) ?_ nb⟩
  · have lt := Heap.lt_size (kp b u e)
    show (sortedHeap (s1.heap.push _) s1.heap.objs.size vs out.toArray).get? b = some u
    rw [sortedHeap_old (Nat.ne_of_lt lt) (by rw [size_push']; exact Nat.lt_succ_of_lt lt)]
    exact Heap.get?_push_of_some _ (kp b u e)
  · rw [pn.length_eq, List.length_map, Array.length_toList]
    exact e9
end
def SortB (w : World) (vs : List V) (H : Hp) (Q : VK) : Prop := ∃ (a : Addr) (S : Int → Bool) (n : Nat), vs = [V.ref a] ∧ H a = some (SetO w a S n) ∧
  ∀ (ns : List Int) (q : Addr), ns.Pairwise (· < ·) → (∀ k : Int, k ∈ ns ↔ S k = true) → ns.length = n → H q = none → Q (.ref q) (upd H q (.lst (ns.map V.int)))
theorem call_sortB {X : Cx} (hc : X.calm = true) : CallR X (.builtin "sorted") (SortB X.w) := by
  intro pq s σ H vs us Q I r ⟨a, S, n, ev, ha, q⟩
  subst ev
  have R := setO_get I ha
  rw [Vals.ref1 r]
  refine big_set R (I.ok.hd hc) fun z p out c ns kp g o hp hg hi hs hm hl nb => ?_
  have len : (ns.map V.int).length ≤ sizeLine := by
    have n4 : n < 4096 := nb
    rw [List.length_map, hl]
    exact sz_le (by omega)
  have free : H p = none := I.hok.fresh hp
  have J' : Inv X pq σ (upd H p (.lst (ns.map V.int))) { s with heap := z.heap, gens := z.gens, drawn := z.drawn, toks := z.toks } :=
    I.call (ch := []) (Un.laid kp hp free) (I.hok.laid kp hp ⟨len, out.toList, c, vals_of_ints hi, hg⟩) (by rw [g]; exact I.bare) (fun _ u => nomatch u)
  have e : z = { s with heap := z.heap, gens := z.gens, drawn := z.drawn, toks := z.toks } := by
    cases z; cases s; cases o; rfl
  rw [e]
  exact ⟨.ref p, _, J', rfl, q ns p hs hm hl free⟩
theorem w_sortB {w : World} {M G H : Hp} {a : Addr} {n : Nat} {S : Int → Bool} {Q : VK} (j : J M G H) (h : M a = some (SetO w a S n) ∨ G a = some (SetO w a S n))
    (k : ∀ (ns : List Int), ns.Pairwise (· < ·) → (∀ k : Int, k ∈ ns ↔ S k = true) → ns.length = n → NewO (.lst (ns.map V.int)) 0 H Q) : SortB w [.ref a] H Q :=
  ⟨a, S, n, rfl, h.elim (fun h => j.m _ _ h) (fun h => j.g _ _ h), fun ns p h1 h2 h3 hp => (k ns h1 h2 h3).2 p hp⟩
/-- set(xs), of fewer than four thousand whole numbers -/
def SetCB (K : PySem.W.Frag) (w : World) (xs : List V) (H : Hp) (Q : VK) : Prop := ∃ (l : Addr) (ns : List Int), xs = [V.ref l] ∧ SqL K H l (ns.map V.int) ∧ ns.length < 4000 ∧ ∀ a S n, H a = none → (∀ k, S k = true ↔ k ∈ ns) → n ≤ ns.length → Q (.ref a) (upd H a (SetO w a S n))
theorem call_setCB {X : Cx} (hc : X.calm = true) : CallR X (.type "set") (SetCB X.K X.w) := by
  intro pq s σ H xs us Q I r h
  obtain ⟨l, ns, rfl, hl, hf, q⟩ := h
  rw [Vals.ref1 r]
  obtain ⟨its, rv, pl, z0⟩ := I.list hl
  have len : its.length = ns.length := by rw [← rv.length, List.length_map]
  refine call_set_ints (P := X.prog) (w := X.w) (ns := ns) (I.ok.hd hc) pl.isList (fun i v hv => vals_int rv (by simpa using hv)) (by simpa using len) (by unfold scanBound; omega) fun h' tk x keep => ?_
  obtain ⟨S, m, R, e, lm⟩ := x
  exact ⟨.ref s.heap.objs.size, upd H s.heap.objs.size (SetO X.w s.heap.objs.size S m), I.laid (t' := tk) keep (Nat.le_refl _) (setO_new R), rfl, q _ S m (I.hok.fresh (Nat.le_refl _)) e lm⟩
theorem w_setCB {K : PySem.W.Frag} {w : World} {M G H : Hp} {l : Addr} {ns : List Int} {Q : VK} (j : J M G H) (h : SqL K G l (ns.map V.int)) (z : ns.length < 4000) (k : ∀ a S n G' H', (∀ k, S k = true ↔ k ∈ ns) → n ≤ ns.length → J M G' H' → Ex G G' → G' a = some (SetO w a S n) → Q (.ref a) H') : SetCB K w [.ref l] H Q :=
  ⟨l, ns, rfl, sl_mono j.g h, z, fun a S n ha e ln => k a S n _ _ e ln (j.newG ha) (Ex.new (j.freeG ha)) upd_same⟩
/-! ### an __init__ with a default; a method with one keyword-only parameter -/
structure Did (K : PySem.W.Frag) (C : Addr) (q : Str) (st : Stmt) (ps : List Str) (dvs : List V) (f : Addr) (fd : FuncData) : Prop where
  fn : FunD K "__init__" q (defArgs st) (defBody st) (defScope st) dvs [] f fd
  mke : Mk K C f
  bn : Binds K fd ps []
  bd : ∃ ds, Vals dvs ds ∧ Binds K fd ps ds
structure CalID (P : Program) (w : World) (K : PySem.W.Frag) (mg : Str → Option Value) (base : Heap) (CX : CXT) (k : Nat) (C : Addr) (dvs : List V) (sp : Sp) : Prop where
  ex : ∃ (f : Addr) (fd : FuncData) (ps : List Str) (ds : List Value), FnOk P w K mg base CX k f fd ps sp ∧ Mk K C f ∧ Binds K fd ps [] ∧ Vals dvs ds ∧ Binds K fd ps ds
structure Dmk (K : PySem.W.Frag) (C : Addr) (m q : Str) (st : Stmt) (ps : List Str) (n : Nat) (kw : Str) (kv : V) (f : Addr) (fd : FuncData) : Prop where
  fn : Fun K m q st f fd
  me : Meth K C m f
  bd : ∃ ds, Vals [kv] ds ∧ Binds K fd ps ds
  bk : KBn K fd ps n [kw] (fun us ws => us ++ ws) (fun vs zs => vs ++ zs)
structure CalMK (P : Program) (w : World) (K : PySem.W.Frag) (mg : Str → Option Value) (base : Heap) (CX : CXT) (k : Nat) (C : Addr) (m : Str) (n : Nat) (kw : Str) (kv : V) (sp : Sp) : Prop where
  ex : ∃ (f : Addr) (fd : FuncData) (ps : List Str) (ds : List Value), FnOk P w K mg base CX k f fd ps sp ∧ Meth K C m f ∧ Vals [kv] ds ∧ Binds K fd ps ds ∧ KBn K fd ps n [kw] (fun us ws => us ++ ws) (fun vs zs => vs ++ zs)
section
variable {P : Program} {w : World} {K : PySem.W.Frag} {mg : Str → Option Value} {base : Heap} {C : Addr} {m q : Str} {st : Stmt} {ps : List Str} {f pf : Addr} {fd : FuncData} {N : List Str} {k n : Nat} {sp : Sp} {dvs : List V} {kw : Str} {kv : V}
theorem Did.ok (D : Did K C q st ps dvs f fd) (S : FnScope N ps (defScope st)) (len : ∀ vs H Q E, sp vs H Q E → vs.length = ps.length)
    (hbody : ∀ (cdv : Value) (A : Around) (outer : List Env) (s : Shared) (H : Hp) (vs : List V) (Q : VK) (E : XK), Room k (A.deeper (envOfC q (defScope st) s.heap.objs.size f cdv)) → sp vs H Q E →
      ∃ t, PSs (cxOf CX0 P w K mg base N q (defScope st) f cdv A outer s H E).nox (defBody st) t ∧ t { nx := fun _ H' => Q .non H', rt := Q } (start N vs) H) : CalID P w K mg base CX0 (k + 1) C dvs sp := by
  obtain ⟨ds, v, b⟩ := D.bd
  refine ⟨f, fd, ps, ds, D.fn.ok S len fun cdv A outer s H vs Q E hr h => ?_, D.mke, D.bn, v, b⟩
  obtain ⟨t, h1, h2⟩ := hbody cdv A outer s H vs Q E hr h
  exact ⟨t, h1.nox, h2⟩
theorem Dmk.ok (D : Dmk K C m q st ps n kw kv f fd) (S : FnScope N ps (defScope st)) (len : ∀ vs H Q E, sp vs H Q E → vs.length = ps.length)
    (hbody : ∀ (cdv : Value) (A : Around) (outer : List Env) (s : Shared) (H : Hp) (vs : List V) (Q : VK) (E : XK), Room k (A.deeper (envOfC q (defScope st) s.heap.objs.size f cdv)) → sp vs H Q E →
      ∃ t, PSs (cxOf CX0 P w K mg base N q (defScope st) f cdv A outer s H E).nox (defBody st) t ∧ t { nx := fun _ H' => Q .non H', rt := Q } (start N vs) H) : CalMK P w K mg base CX0 (k + 1) C m n kw kv sp := by
  obtain ⟨ds, v, b⟩ := D.bd
  exact ⟨f, fd, ps, ds, D.fn.ok S len hbody, D.me, v, b, D.bk⟩
theorem Dmk.okX (D : Dmk K C m q st ps n kw kv f fd) (S : FnScope N ps (defScope st)) (len : ∀ vs H Q E, sp vs H Q E → vs.length = ps.length)
    (hbody : ∀ (cdv : Value) (A : Around) (outer : List Env) (s : Shared) (H : Hp) (vs : List V) (Q : VK) (E : XK), Room k (A.deeper (envOfC q (defScope st) s.heap.objs.size f cdv)) → sp vs H Q E →
      ∃ t, PSs (cxOf (L2.CX P w) P w K mg base N q (defScope st) f cdv A outer s H E) (defBody st) t ∧ t { nx := fun _ H' => Q .non H', rt := Q } (start N vs) H) : CalMK P w K mg base (L2.CX P w) (k + 1) C m n kw kv sp := by
  obtain ⟨ds, v, b⟩ := D.bd
  exact ⟨f, fd, ps, ds, D.fn.okX S len hbody, D.me, v, b, D.bk⟩
/-- the two ways to bind an __init__ whose last parameter has a default -/
theorem did_mk {oc : Value} {od an : Option Addr} {osl : Array (Option Value)} {kV doc pm cdv ct : Value} {T : Addr} {o : Obj} {its : List Value} {nn : Nat} (l : K.lookup f = some ⟨oc, od, .func (PySem.W.fnOf "__init__" q (defArgs st) (defBody st) (defScope st) (.ref T) kV doc pm an cdv ct), osl⟩)
    (c : PySem.W.codeIn K cdv q = true) (k : PySem.W.keepIn K (.ref f) = true) (lT : K.lookup T = some o) (hd : o.data = .seq its.toArray nn) (ne : dvs ≠ []) (hv : Vals dvs its) (mke : Mk K C f)
    (hn : n + dvs.length = ps.length)
    (h1 : ∀ (T : Addr) (kV doc pm : Value) (an : Option Addr) (cdv ct : Value) (us its : List Value), us.length = ps.length → its.length = dvs.length →
      ∃ k, bindArgs (PySem.W.fnOf "__init__" q (defArgs st) (defBody st) (defScope st) (.ref T) kV doc pm an cdv ct) ⟨us, []⟩ = seqItems? (.ref T) >>= k ∧ k (some its.toArray) = pure (ps.zip (us ++ its.drop dvs.length)))
    (h0 : ∀ (T : Addr) (kV doc pm : Value) (an : Option Addr) (cdv ct : Value) (us its : List Value), us.length = n → its.length = dvs.length →
      ∃ k, bindArgs (PySem.W.fnOf "__init__" q (defArgs st) (defBody st) (defScope st) (.ref T) kV doc pm an cdv ct) ⟨us, []⟩ = seqItems? (.ref T) >>= k ∧ k (some its.toArray) = pure (ps.zip (us ++ its.drop 0))) :
    Did K C q st ps dvs f (PySem.W.fnOf "__init__" q (defArgs st) (defBody st) (defScope st) (.ref T) kV doc pm an cdv ct) := by
  have F : FunD K "__init__" q (defArgs st) (defBody st) (defScope st) dvs [] f (PySem.W.fnOf "__init__" q (defArgs st) (defBody st) (defScope st) (.ref T) kV doc pm an cdv ct) :=
    ⟨⟨oc, od, .ref T, kV, doc, pm, an, cdv, ct, osl, rfl, l, c, .inr ⟨ne, T, o, its, nn, rfl, lT, hd, hv⟩, .inl rfl⟩, k⟩
  refine ⟨F, mke, ?_, ?_⟩
  · obtain ⟨ds, v, b⟩ := F.binds1 (ps := ps) ps.length dvs.length ne (by omega) h1
    rw [List.drop_length] at v
    cases v
    exact b
  · obtain ⟨ds, v, b⟩ := F.binds1 (ps := ps) n 0 ne (by omega) h0
    exact ⟨ds, v, b⟩
/-- .. of a method whose only default is that of its keyword-only parameter -/
theorem dmk_mk {oc : Value} {od an : Option Addr} {osl : Array (Option Value)} {doc pm cdv ct : Value} {D : Addr} {u : Value} (l : K.lookup f = some ⟨oc, od, .func (PySem.W.fnOf m q (defArgs st) (defBody st) (defScope st) .none (.ref D) doc pm an cdv ct), osl⟩)
    (c : PySem.W.codeIn K cdv q = true) (k : PySem.W.keepIn K (.ref f) = true) (hD : PySem.W.nsIn K D kw = some (some u)) (hu : RelV kv u) (me : Meth K C m f) (hps : n + 1 = ps.length)
    (h : ∀ (D : Addr) (doc pm : Value) (an : Option Addr) (cdv ct : Value) (us : List Value) (x : Value), us.length = n → KwChain D [(kw, x)] (bindArgs (PySem.W.fnOf m q (defArgs st) (defBody st) (defScope st) .none (.ref D) doc pm an cdv ct) ⟨us, []⟩) (ps.zip (us ++ [x])))
    (h2 : ∀ (D : Addr) (doc pm : Value) (an : Option Addr) (cdv ct : Value) (us : List Value) (x : Value), us.length = n → bindArgs (PySem.W.fnOf m q (defArgs st) (defBody st) (defScope st) .none (.ref D) doc pm an cdv ct) ⟨us, [(kw, x)]⟩ = pure (ps.zip (us ++ [x]))) :
    Dmk K C m q st ps n kw kv f (PySem.W.fnOf m q (defArgs st) (defBody st) (defScope st) .none (.ref D) doc pm an cdv ct) := by
  have F : FunD K m q (defArgs st) (defBody st) (defScope st) [] [(kw, kv)] f (PySem.W.fnOf m q (defArgs st) (defBody st) (defScope st) .none (.ref D) doc pm an cdv ct) :=
    ⟨⟨oc, od, .none, .ref D, doc, pm, an, cdv, ct, osl, rfl, l, c, .inl ⟨rfl, rfl⟩, .inr ⟨D, rfl, fun p hp => by cases List.mem_singleton.mp hp; exact ⟨u, hD, hu⟩⟩⟩, k⟩
  refine ⟨⟨⟨oc, od, .ref D, doc, pm, an, cdv, ct, osl, rfl, l, c⟩, k⟩, me, ?_, ?_⟩
  · exact F.binds0 (ps := ps) n (fun z => by cases z) hps fun D doc pm an cdv ct us ks h1 h2 => match ks, h2 with
      | [x], _ => h D doc pm an cdv ct us x h1
  · refine ⟨fun s us ws X l1 l2 => ?_, fun r1 r2 => r1.append r2⟩
    match ws, l2 with
    | [x], _ => exact BindsTo.of_eq (h2 D doc pm an cdv ct us x l1)
end
/-- o.m(e, .., k = v) -/
def tMethK (C : Addr) (m : Str) (n : Nat) (sp : Sp) (E : XK) (ta : TE) (t tk : TA) : TE := fun σ H Q => ta σ H fun x H1 => ∃ a dx fs, x = .ref a ∧ H1 a = some (.ins C dx fs) ∧ fs.lookup m = none ∧
  t σ H1 fun vs H2 => tk σ H2 fun zs H3 => vs.length + 1 = n ∧ zs.length = 1 ∧ sp ((x :: vs) ++ zs) H3 Q E
section
variable {X : Cx} {k j n : Nat} {C : Addr} {m x kw : Str} {kv : V} {dvs : List V} {sp : Sp} {p pos apos : Pos} {o e : Expr} {es : List Expr} {kws : List Keyword} {ta : TE} {t tk : TA}
theorem pe_calID (c : CalID X.prog X.w X.K X.mg X.base CX0 k C dvs sp) (gC : X.mg x = some (.ref C)) (hr : Room j X.A) (hk : k + 1 ≤ j) (hg : Gl X x) (ha : PA X (e :: es) t)
    (hdb : (x == ("__debug__" : Str)) = false := by decide) (he : starEach (e :: es) X.env = (false, eval e X.env) :: starEach es X.env := by rfl) (hpl : (backTo pos (starEach es X.env)).any (·.1) = false := by rfl) :
    PE X (.Call (.Name x p) (e :: es) [] pos) (tMake C sp [] E0 t) := by
  obtain ⟨f, fd, ps, ds, F, mk, b, _, _⟩ := c.ex
  exact pe_make mk F (hr.mono hk) hg gC b .nil pass0 ha hdb he hpl
theorem pe_calID0 (c : CalID X.prog X.w X.K X.mg X.base CX0 k C dvs sp) (gC : X.mg x = some (.ref C)) (hr : Room j X.A) (hk : k + 1 ≤ j) (hg : Gl X x)
    (hdb : (x == ("__debug__" : Str)) = false := by decide) : PE X (.Call (.Name x p) [] [] pos) (tMake C sp dvs E0 tNil) := by
  obtain ⟨f, fd, ps, ds, F, mk, _, v, b⟩ := c.ex
  exact pe_make0 mk F (hr.mono hk) hg gC b v pass0 hdb
theorem pe_calMKd (c : CalMK X.prog X.w X.K X.mg X.base CX0 k C m n kw kv sp) (cl : Cls X.K C) (hr : Room j X.A) (hk : k ≤ j) (ho : PE X o ta) (ha : PA X (e :: es) t) {pl : Sem Bool}
    (hst : starEach (e :: es) X.env = (false, eval e X.env) :: starEach es X.env := by rfl) (hpl : (backTo pos (starEach es X.env)).any (·.1) = false := by rfl)
    (ht : eval (.Call (.Attribute o m apos) (e :: es) [] pos) X.env = (do
      let ov ← eval o X.env
      standAt apos.atName
      let (f, first) ← holding [ov] (getMethod ov m pl)
      callWith pos f first (backTo pos (starEach (e :: es) X.env)) (backToKw pos (keywordEach [] X.env))) := by rfl) :
    PE X (.Call (.Attribute o m apos) (e :: es) [] pos) (tMeth C m sp [kv] E0 ta t) := by
  obtain ⟨f, fd, ps, ds, F, me, v, b, _⟩ := c.ex
  exact pe_meth ho cl me F (hr.mono hk) b v pass0 ha hst hpl ht
theorem pe_calMK (c : CalMK X.prog X.w X.K X.mg X.base CX0 k C m n kw kv sp) (cl : Cls X.K C) (hr : Room j X.A) (hk : k ≤ j) (ho : PE X o ta) (ha : PA X (e :: es) t) (hkw : PK X kws tk) {pl : Sem Bool}
    (hall : (backToKw pos (keywordEach kws X.env)).all (·.1.isSome) = true := by rfl) (hks : (backToKw pos (keywordEach kws X.env)).filterMap (·.1) = [kw] := by rfl)
    (he : starEach (e :: es) X.env = (false, eval e X.env) :: starEach es X.env := by rfl) (hpl : ((backTo pos (starEach (e :: es) X.env)).any (·.1) || (backToKw pos (keywordEach kws X.env)).any (·.1.isNone)) = false := by rfl)
    (ht : eval (.Call (.Attribute o m apos) (e :: es) kws pos) X.env = (do
      let ov ← eval o X.env
      standAt apos.atName
      let (f, first) ← holding [ov] (getMethod ov m pl)
      callWith pos f first (backTo pos (starEach (e :: es) X.env)) (backToKw pos (keywordEach kws X.env))) := by rfl) :
    PE X (.Call (.Attribute o m apos) (e :: es) kws pos) (tMethK C m n sp E0 ta t tk) := by
  obtain ⟨f, fd, ps, ds, F, me, _, _, b⟩ := c.ex
  refine ⟨fun pins s σ H Q I h => ?_⟩
  refine PySem.W.methodCall_KW (pl := pl) (thn (ho.run pins s σ H _ I h) fun u s1 ⟨x, H1, I1, rx, a, dx, fs, ex, ea, l, q⟩ => ?_) ht
  subst ex
  obtain rfl : u = Value.ref a := rx
  refine getmeth_ok I1 ea cl me l ?_
  refine PySem.W.callWith_KW (first := [.ref a]) (h₀ := X.base) I.ok.mod.kin me.kp hall (thn (ha.run pos pins s1 σ H1 _ I1 q) fun us s2 ⟨vs, H2, I2, r, q2⟩ => ?_) hpl he
  refine thn (hkw.run pos pins s2 σ H2 _ I2 q2) fun ws s3 ⟨zs, H3, I3, rz, l1, l2, q3⟩ => ⟨I3.kIn, ?_⟩
  rw [hks]
  exact run_fnN (us := .ref a :: us) (vs := .ref a :: vs) F (hr.mono hk) b pass0 I3 (.cons rfl r) rz l1 l2 q3
end
def MkEnd (n : Nat) (sp : Sp) (E : XK) (x : V) (vs zs : List V) (H3 : Hp) (Q : VK) : Prop := vs.length + 1 = n ∧ zs.length = 1 ∧ sp ((x :: vs) ++ zs) H3 Q E
def MethXK (C : Addr) (m : Str) (n : Nat) (sp : Sp) (E : XK) (t tk : TA) (σ : L2.St) (x : V) (H1 : Hp) (Q : VK) : Prop := ∃ a dx fs, x = .ref a ∧ H1 a = some (.ins C dx fs) ∧ fs.lookup m = none ∧
  t σ H1 fun vs H2 => tk σ H2 fun zs H3 => MkEnd n sp E x vs zs H3 Q
section
variable {K : PySem.W.Frag} {M G H : Hp} {σ : L2.St} {x : V} {ta : TE} {t tk : TA} {Q : VK} {a C dx : Addr} {fs : List (Str × V)} {m : Str} {sp : Sp} {E : XK} {n : Nat}
theorem w_methK (h : ta σ H fun x H1 => MethXK C m n sp E t tk σ x H1 Q) : tMethK C m n sp E ta t tk σ H Q := h
theorem w_methKM (j : J M G H) (h : M a = some (.ins C dx fs)) (l : fs.lookup m = none) (q : t σ H fun vs H2 => tk σ H2 fun zs H3 => MkEnd n sp E (.ref a) vs zs H3 Q) : MethXK C m n sp E t tk σ (.ref a) H Q := ⟨a, dx, fs, rfl, j.m _ _ h, l, q⟩
theorem w_mkEnd {vs zs : List V} (l1 : vs.length + 1 = n) (l2 : zs.length = 1) (q : sp ((x :: vs) ++ zs) H Q E) : MkEnd n sp E x vs zs H Q := ⟨l1, l2, q⟩
end
local macro_rules
  | `(tactic| walk_at "v") => `(tactic| with_reducible refine w_methK ?_)
/-! ### what may raise, called where it cannot -/
def calmS (sp : Sp) : Sp := fun vs H Q _ => sp vs H Q E0
section
variable {P : Program} {w : World} {K : PySem.W.Frag} {mg : Str → Option Value} {base : Heap} {k n : Nat} {f C : Addr} {fd : FuncData} {ps : List Str} {sp : Sp} {x m kw : Str} {kv : V}
theorem fn_calm (F : FnOk P w K mg base (L2.CX P w) k f fd ps sp) : FnOk P w K mg base CX0 k f fd ps (calmS sp) :=
  ⟨fun vs H Q E h => F.len vs H Q E0 h, fun A outer s H args us vs Q E hr he hb hv hs => codeAny_mono (F.run A outer s H args us vs Q E0 hr he hb hv hs) fun r s' q => by
    cases r with
    | error e =>
      obtain ⟨_, _, _, _, _, _, _, _, _, _, _, _, z⟩ := (show L2.CX P w outer H s E0 e s' from q)
      exact z.elim
    | ok fl => cases fl <;> exact q⟩
theorem Cal.calm (c : Cal P w K mg base (L2.CX P w) k x sp) : Cal P w K mg base CX0 k x (calmS sp) := by
  obtain ⟨f, fd, ps, F, a, b, d⟩ := c.ex
  exact ⟨f, fd, ps, fn_calm F, a, b, d⟩
theorem CalM.calm (c : CalM P w K mg base (L2.CX P w) k C m sp) : CalM P w K mg base CX0 k C m (calmS sp) := by
  obtain ⟨f, fd, ps, F, a, b⟩ := c.ex
  exact ⟨f, fd, ps, fn_calm F, a, b⟩
theorem w_sxc {α : Type} {pre : α → List V → Hp → Hp → Prop} {post : α → Hp → Hp → V → Hp → Hp → Prop} {exc : α → Hp → Hp → Addr → Hp → Hp → Prop} {vs : List V} {M G H : Hp} {Q : VK} {E : XK} (a : α) (j : J M G H) (hp : pre a vs M G)
    (k : ∀ v M' G' H', J M' G' H' → Ex G G' → post a M G v M' G' → Q v H') (kx : ∀ C M' G' H', J M' G' H' → Ex G G' → exc a M G C M' G' → False) : calmS (Sx pre post exc) vs H Q E := ⟨a, M, G, j, hp, k, kx⟩
end
/-! ### cells read -/
def partsM (f : Nat → Option (Rc × Nat)) : Nat → Nat → Option (List Rc × Nat)
  | 0, at_ => some ([], at_)
  | k + 1, at_ => (f at_).bind fun x => (partsM f k x.2).map fun y => (x.1 :: y.1, y.2)
/-- the tuple whose length stands at a place -/
def tupQ (cs : List Int) (at_ : Nat) (f : Option (Nat → Option (Rc × Nat))) : Option (Rc × Nat) :=
  (cs[at_]?).bind fun len => if 0 ≤ len ∧ len ≤ (cs.length : Int) - (at_ + 1) then (f.bind fun f => (partsM f len.toNat (at_ + 1)).map fun y => (.tup y.1, y.2)) else none
def wordQ (cs : List Int) (at_ : Nat) : Option Str := (cs[at_]?).bind fun i => if 0 ≤ i ∧ i < 31 then WD[i.toNat]? else none
def leafQ (cs : List Int) (at_ : Nat) (f : Option (Nat → Option (Rc × Nat))) : Option (Rc × Nat) :=
  (cs[at_]?).bind fun t => if t = 0 then (cs[at_ + 1]?).map fun i => (.int i, at_ + 2) else if t = 1 then some (.non, at_ + 1) else if t = 2 then some (.bl false, at_ + 1) else if t = 3 then some (.bl true, at_ + 1)
    else if t = 4 then (wordQ cs (at_ + 1)).map fun s => (.str s, at_ + 2) else if t = 5 then tupQ cs (at_ + 1) f else none
def qM (cs : List Int) : Nat → Nat → Option (Rc × Nat)
  | 0, at_ => leafQ cs at_ none
  | n + 1, at_ => leafQ cs at_ (some fun a => qM cs n a)
def recQ (cs : List Int) : Nat → Option (Nat → Option (Rc × Nat))
  | 0 => none
  | n + 1 => some fun a => qM cs n a
theorem qM_eq (cs : List Int) (n at_ : Nat) : qM cs n at_ = leafQ cs at_ (recQ cs n) := by cases n <;> rfl
theorem partsM_snoc (f : Nat → Option (Rc × Nat)) : ∀ (k at_ : Nat), partsM f (k + 1) at_ = (partsM f k at_).bind fun y => (f y.2).map fun x => (y.1 ++ [x.1], x.2)
  | 0, at_ => by
    show ((f at_).bind fun x => (some ([], x.2)).map fun y => (x.1 :: y.1, y.2)) = (some ([], at_)).bind fun y => (f y.2).map fun x => (y.1 ++ [x.1], x.2)
    show _ = (f at_).map fun x => ([] ++ [x.1], x.2)
    cases f at_ <;> rfl
  | k + 1, at_ => by
    rw [partsM]
    rw [show partsM f (k + 1) at_ = (f at_).bind fun x => (partsM f k x.2).map fun y => (x.1 :: y.1, y.2) from rfl]
    cases h : f at_ with
    | none => rfl
    | some x =>
      show (partsM f (k + 1) x.2).map (fun y => (x.1 :: y.1, y.2)) = ((partsM f k x.2).map fun y => (x.1 :: y.1, y.2)).bind fun y => (f y.2).map fun x => (y.1 ++ [x.1], x.2)
      rw [partsM_snoc f k x.2]
      cases partsM f k x.2 with
      | none => rfl
      | some y => 
        show ((f y.2).map fun x => (y.1 ++ [x.1], x.2)).map _ = (f y.2).map _
        cases f y.2 <;> rfl
theorem partsM_bad {f : Nat → Option (Rc × Nat)} {k i at_ : Nat} {y : List Rc × Nat} (h1 : partsM f i at_ = some y) (h2 : f y.2 = none) (h3 : i < k) : partsM f k at_ = none := by
  induction k with
  | zero => omega
  | succ k ih =>
    rw [partsM_snoc]
    by_cases e : i = k
    · subst e; rw [h1]; show (f y.2).map _ = none; rw [h2]; rfl
    · rw [ih (by omega)]; rfl
/-- a cell as it may be spoilt -/
def CellV (K : PySem.W.Frag) (G : Hp) (v : V) : Prop := flatV v = true ∨ ∃ a, v = .ref a ∧ SqT K G a [.int 1]
theorem CellV.ex {K : PySem.W.Frag} {G G' : Hp} {v : V} (h : CellV K G v) (e : Ex G G') : CellV K G' v := h.imp id fun ⟨a, h1, h2⟩ => ⟨a, h1, st_mono e h2⟩
theorem ints_ix {cs : List Int} {at_ : Nat} {i : Int} (h : cs[at_]? = some i) : atI (cs.map V.int) at_ = some (.int i) := atI_nat (by rw [List.getElem?_map, h]; rfl)
/-- the record of cells, if they are those of exactly one -/
def rebM (cs : List Int) : Option Rc := (qM cs 30 0).bind fun x => if x.2 = cs.length then some x.1 else none
def CellsAt (K : PySem.W.Frag) (G : Hp) (t : Addr) (xs : List V) : Prop := G t = some (.lst xs) ∧ ∀ v ∈ xs, CellV K G v
theorem CellsAt.ex {K : PySem.W.Frag} {G G' : Hp} {t : Addr} {xs : List V} (h : CellsAt K G t xs) (e : Ex G G') : CellsAt K G' t xs := ⟨e _ _ h.1, fun v m => (h.2 v m).ex e⟩
/-! ### data of any depth, both sides alike -/
def okD : Nat → PyData → Prop
  | _, .none => True
  | _, .bool _ => True
  | _, .int _ => True
  | _, .str _ => True
  | 0, .list _ => False
  | 0, .tuple _ => False
  | n + 1, .list xs => xs.length ≤ 100000 ∧ ∀ x ∈ xs, okD n x
  | n + 1, .tuple xs => xs.length ≤ 100000 ∧ ∀ x ∈ xs, okD n x
  | _, .dict _ => False
theorem dpAll_len {K : PySem.W.Frag} {G : Hp} : ∀ {xs : List V} {ds : List PyData}, DpAll K G xs ds → xs.length = ds.length
  | _, _, .nil => rfl
  | _, _, .cons _ t => by rw [List.length_cons, List.length_cons, dpAll_len t]
theorem dpAll_get {K : PySem.W.Frag} {G : Hp} : ∀ {xs : List V} {ds : List PyData} {i : Nat} {d : PyData}, DpAll K G xs ds → ds[i]? = some d → ∃ x, xs[i]? = some x ∧ Dp K G x d
  | _, _, _, _, .nil, e => by simp at e
  | _, _, 0, d, .cons h t, e => ⟨_, rfl, by have e := Option.some.inj e; subst e; exact h⟩
  | _, _, i + 1, d, .cons h t, e => by
    obtain ⟨x, h1, h2⟩ := dpAll_get (i := i) t (by simpa using e)
    exact ⟨x, by simpa using h1, h2⟩
mutual
theorem dp_mono {K : PySem.W.Frag} {G G' : Hp} (e : Same G G') : ∀ {v : V} {d : PyData}, Dp K G v d → Dp K G' v d
  | _, _, .non => .non
  | _, _, .bl b => .bl b
  | _, _, .int i => .int i
  | _, _, .str x => .str x
  | _, _, .lst h t => .lst (sl_mono e h) (dpAll_mono e t)
  | _, _, .tup h t => .tup (st_mono e h) (dpAll_mono e t)
theorem dpAll_mono {K : PySem.W.Frag} {G G' : Hp} (e : Same G G') : ∀ {vs : List V} {ds : List PyData}, DpAll K G vs ds → DpAll K G' vs ds
  | _, _, .nil => .nil
  | _, _, .cons h t => .cons (dp_mono e h) (dpAll_mono e t)
end
theorem dpAll_snoc {K : PySem.W.Frag} {G : Hp} : ∀ {xs : List V} {ds : List PyData} {x : V} {d : PyData}, DpAll K G xs ds → Dp K G x d → DpAll K G (xs ++ [x]) (ds ++ [d])
  | _, _, _, _, .nil, h => .cons h .nil
  | _, _, _, _, .cons a t, h => .cons a (dpAll_snoc t h)
theorem dpAll_of {K : PySem.W.Frag} {G : Hp} : ∀ {xs : List V} {ds : List PyData}, xs.length = ds.length → (∀ (i : Nat) (x : V) (d : PyData), xs[i]? = some x → ds[i]? = some d → Dp K G x d) → DpAll K G xs ds
  | [], [], _, _ => .nil
  | x :: xs, d :: ds, h, f => .cons (f 0 x d rfl rfl) (dpAll_of (by simpa using h) fun i y e h1 h2 => f (i + 1) y e (by simpa using h1) (by simpa using h2))
  | [], _ :: _, h, _ => by simp at h
  | _ :: _, [], h, _ => by simp at h
/-- a sequence of either kind -/
def SqB (K : PySem.W.Frag) (G : Hp) (a : Addr) (xs : List V) : Prop := SqL K G a xs ∨ SqT K G a xs
theorem w_ixB {K : PySem.W.Frag} {M G H : Hp} {a : Addr} {xs : List V} {m : Int} {v : V} {Q : VK} (j : J M G H) (h : SqB K G a xs) (e : atI xs m = some v) (q : Q v H) : uIx K (.ref a) (.int m) H Q :=
  h.elim (fun h => w_ixL j h e q) fun h => w_ixT j h e q
theorem w_lenB {K : PySem.W.Frag} {M G H : Hp} {a : Addr} {xs : List V} {Q : VK} (j : J M G H) (h : SqB K G a xs) (q : Q (.int xs.length) H) : uLen K [.ref a] H Q := h.elim (fun h => w_lenL j h q) fun h => w_lenT j h q
def spNo : Sp := fun _ _ _ _ => False
def spAll1 (K : PySem.W.Frag) (n : Nat) : Sp := Sg (α := Addr × Addr × List V × List V × List PyData) (fun x vs M G => vs = [.ref x.1, .ref x.2.1] ∧ SqB K G x.1 x.2.2.1 ∧ SqB K G x.2.1 x.2.2.2.1 ∧ DpAll K G x.2.2.1 x.2.2.2.2 ∧ DpAll K G x.2.2.2.1 x.2.2.2.2 ∧ x.2.2.2.2.length ≤ 100000 ∧ ∀ d ∈ x.2.2.2.2, okD n d)
      (fun x M _ v M' _ => v = .bl true ∧ M' = M)
def spAll (K : PySem.W.Frag) : Nat → Sp
  | 0 => spNo
  | n + 1 => spAll1 K n
def spEq (K : PySem.W.Frag) (n : Nat) : Sp := Sg (α := V × V × PyData) (fun x vs M G => vs = [x.1, x.2.1] ∧ Dp K G x.1 x.2.2 ∧ Dp K G x.2.1 x.2.2 ∧ okD n x.2.2) (fun x M _ v M' _ => v = .bl true ∧ M' = M)
theorem use_eq {K : PySem.W.Frag} {n : Nat} {M G H : Hp} {x y : V} {d : PyData} {Q : VK} {E : XK} (j : J M G H) (h1 : Dp K G x d) (h2 : Dp K G y d) (h3 : okD n d) (k : ∀ G' H', J M G' H' → Ex G G' → Q (.bl true) H') : spEq K n ([x, y] ++ []) H Q E :=
  w_sg (x, y, d) j ⟨rfl, h1, h2, h3⟩ fun v M' G' H' j' e ⟨ev, em⟩ => by subst ev em; exact k G' H' j' e
theorem use_all {K : PySem.W.Frag} {n : Nat} {M G H : Hp} {a b : Addr} {xs ys : List V} {ds : List PyData} {Q : VK} {E : XK} (j : J M G H) (h1 : SqB K G a xs) (h2 : SqB K G b ys) (h3 : DpAll K G xs ds) (h4 : DpAll K G ys ds) (h5 : ds.length ≤ 100000) (h6 : ∀ d ∈ ds, okD n d)
    (k : ∀ G' H', J M G' H' → Ex G G' → Q (.bl true) H') : spAll K (n + 1) ([.ref a, .ref b] ++ []) H Q E := by
  show spAll1 K n _ H Q E
  exact w_sg (a, b, xs, ys, ds) j ⟨rfl, h1, h2, h3, h4, h5, h6⟩ fun v M' G' H' j' e ⟨ev, em⟩ => by subst ev em; exact k G' H' j' e
/-! ### lists of whole numbers, blocks, as data -/
theorem dp_ints {K : PySem.W.Frag} {G : Hp} : ∀ ns : List Int, DpAll K G (ns.map V.int) (ns.map PyData.int)
  | [] => .nil
  | n :: r => .cons (.int n) (dp_ints r)
theorem okD_ints {n : Nat} (ns : List Int) (h : ns.length ≤ 100000) : okD (n + 1) (.tuple (ns.map PyData.int)) :=
  ⟨by rw [List.length_map]; exact h, fun x hx => by obtain ⟨i, _, rfl⟩ := List.mem_map.mp hx; cases n <;> trivial⟩
theorem okD_blk {a b c e : Int} {ns : List Int} (h : ns.length ≤ 6) : okD 2 (.tuple [.int a, .int b, .int c, .int e, .tuple (ns.map PyData.int)]) := by
  refine ⟨by show 5 ≤ 100000; decide, fun x hx => ?_⟩
  simp only [List.mem_cons, List.not_mem_nil, or_false] at hx
  rcases hx with rfl | rfl | rfl | rfl | rfl
  · trivial
  · trivial
  · trivial
  · trivial
  · exact okD_ints ns (by omega)
theorem okD_intsL {n : Nat} (ns : List Int) (h : ns.length ≤ 100000) : okD (n + 1) (.list (ns.map PyData.int)) :=
  ⟨by rw [List.length_map]; exact h, fun x hx => by obtain ⟨i, _, rfl⟩ := List.mem_map.mp hx; cases n <;> trivial⟩
theorem cut_ints (fs : List Int) (lo hi : Option Int) : ∃ fs2 : List Int, cutV (fs.map V.int) lo hi = fs2.map V.int ∧ fs2.length ≤ fs.length := by
  unfold cutV
  rw [← List.map_drop, ← List.map_take]
  exact ⟨_, rfl, by rw [List.length_take, List.length_drop]; omega⟩
/-! ### max(xs, default=d), whole numbers -/
def topI (d : Int) : List Int → Int
  | [] => d
  | n :: ns => ns.foldl max n
theorem topI_spec (d : Int) : ∀ ns : List Int, (ns = [] ∧ topI d ns = d) ∨ (topI d ns ∈ ns ∧ ∀ y ∈ ns, y ≤ topI d ns)
  | [] => .inl ⟨rfl, rfl⟩
  | n :: ns => by
    refine .inr ?_
    show ns.foldl max n ∈ n :: ns ∧ ∀ y ∈ n :: ns, y ≤ ns.foldl max n
    induction ns generalizing n with
    | nil => simp
    | cons k r ih =>
      obtain ⟨h1, h2⟩ := ih (max n k)
      simp only [List.foldl_cons]
      refine ⟨?_, fun y hy => ?_⟩
      · rcases List.mem_cons.mp h1 with e | e
        · rw [e]; rcases Int.le_total n k with q | q
          · rw [Int.max_eq_right q]; simp
          · rw [Int.max_eq_left q]; simp
        · exact List.mem_cons_of_mem _ (List.mem_cons_of_mem _ e)
      · have h0 := h2 _ (List.mem_cons_self)
        rcases List.mem_cons.mp hy with e | e
        · rw [e]; exact Int.le_trans (Int.le_max_left _ _) h0
        · rcases List.mem_cons.mp e with e | e
          · rw [e]; exact Int.le_trans (Int.le_max_right _ _) h0
          · exact h2 _ (List.mem_cons_of_mem _ e)
theorem reads_nums {h : Heap} : ∀ {vs : List Value} {ns : List Int}, IntsAre vs ns → ReadsAll h vs (ns.map .int) []
  | _, _, .nil => .nil
  | _, _, .cons _ _ r => .cons (.int _ _) (reads_nums r)
def MaxD (K : PySem.W.Frag) : List V → List V → Hp → VK → Prop := fun vs zs H Q => ∃ (l : Addr) (ns : List Int) (d : Int), vs = [V.ref l] ∧ zs = [V.int d] ∧ SqL K H l (ns.map V.int) ∧ Q (.int (topI d ns)) H
theorem call_maxD {X : Cx} (hc : X.calm = true) (hu : X.A.units + 64 < cLine) : CallRK X (.builtin "max") [Str.ofString "default"] (MaxD X.K) := by
  intro pins s σ H vs zs us ws Q I r rz h
  obtain ⟨l, ns, d, rfl, rfl, hs, q⟩ := h
  obtain ⟨its, rv, pl, hz⟩ := I.list hs
  obtain rfl := Vals.ref1 r
  obtain ⟨w1, rfl, t1, rfl⟩ := vals1 rz
  refine PySem.W.max_list_default (I.ok.hd hc) pl.isList (xs := ns.map PyData.int) (as := []) (by simpa using reads_nums rv.ints) ⟨fun x hx y hy => ?_, fun x hx => ?_⟩ ?_ (fun e h' tk keep => ?_) (fun y ys i v h' tk bs e hv rd keep => ?_)
  · obtain ⟨i, _, rfl⟩ := List.mem_map.mp hx; obtain ⟨k, _, rfl⟩ := List.mem_map.mp hy; simp [PySem.W.alike]
  · obtain ⟨i, _, rfl⟩ := List.mem_map.mp hx; exact fun z => nomatch z
  · rw [PySem.W.depth_ints]; omega
  · obtain rfl : ns = [] := List.map_eq_nil_iff.mp e
    exact ⟨.int d, H, I.kept keep, ⟨_, rfl⟩, q⟩
  · cases ns with
    | nil => cases e
    | cons n ns =>
      obtain ⟨rfl, rfl⟩ := List.cons.inj e
      rw [PySem.W.maxD_ints] at rd
      cases rd
      exact ⟨.int (topI d (n :: ns)), H, I.kept keep, ⟨_, rfl⟩, q⟩
theorem w_maxD {K : PySem.W.Frag} {M G H : Hp} {l : Addr} {ns : List Int} {d : Int} {Q : VK} (j : J M G H) (h : SqL K G l (ns.map V.int)) (k : Q (.int (topI d ns)) H) : MaxD K [.ref l] [.int d] H Q :=
  ⟨l, ns, d, rfl, rfl, sl_mono j.g h, k⟩
theorem w_ckw {r : List V → List V → Hp → VK → Prop} {t tk : TA} {σ : L2.St} {H : Hp} {Q : VK} (h : t σ H fun vs H1 => tk σ H1 fun zs H2 => r vs zs H2 Q) : tCKw r t tk σ H Q := h
local macro_rules
  | `(tactic| walk_at "v") => `(tactic| with_reducible refine w_ckw ?_)
/-! ### journals -/
def IntKs (kv : List (Key × V)) : Prop := ∀ p ∈ kv, ∃ n : Int, p.1 = .inl n
def posKs (kv : List (Key × V)) : List Int := kv.filterMap fun p => p.1.getLeft?
theorem IntKs.tl {p : Key × V} {kv : List (Key × V)} (h : IntKs (p :: kv)) : IntKs kv := fun q m => h q (List.mem_cons_of_mem _ m)
theorem IntKs.eq : ∀ {kv : List (Key × V)}, IntKs kv → (kv.map fun p => kV p.1) = (posKs kv).map V.int
  | [], _ => rfl
  | p :: kv, h => by
    obtain ⟨k, v⟩ := p
    obtain ⟨n, rfl⟩ := h _ List.mem_cons_self
    show V.int n :: _ = V.int n :: _
    rw [h.tl.eq]; rfl
theorem posKs_mem {n : Int} : ∀ {kv : List (Key × V)}, n ∈ posKs kv ↔ (valV kv (.inl n)).isSome = true
  | [] => by simp [posKs, valV]
  | (k, v) :: kv => by
    have ih := posKs_mem (n := n) (kv := kv)
    cases k with
    | inl m =>
      show n ∈ m :: posKs kv ↔ _
      by_cases e : m = n
      · subst e; rw [valV_pos rfl]; simp
      · rw [valV_neg (fun z => e (Sum.inl.inj z)), List.mem_cons]
        exact ⟨fun z => z.elim (fun z => absurd z.symm e) ih.mp, fun z => .inr (ih.mpr z)⟩
    | inr t =>
      show n ∈ posKs kv ↔ _
      rw [valV_neg (p := ((Sum.inr t : Key), v)) (fun z => by cases z)]
      exact ih
theorem posKs_len (kv : List (Key × V)) : (posKs kv).length ≤ kv.length := List.length_filterMap_le _ _
theorem IntKs.put {kv : List (Key × V)} (h : IntKs kv) (n : Int) (v : V) : IntKs (putK kv (.inl n) v) := by
  intro p m
  unfold putK at m
  split at m
  · obtain ⟨q, hq, rfl⟩ := List.mem_map.mp m
    split
    · exact h q hq
    · exact h q hq
  · rcases List.mem_append.mp m with e | e
    · exact h p e
    · rw [List.mem_singleton.mp e]; exact ⟨n, rfl⟩
theorem IntKs.nil : IntKs [] := fun p m => nomatch m
theorem IntKs.puts : ∀ {ca : List (Int × V)} {kv : List (Key × V)}, IntKs kv → IntKs (ca.foldl putC kv)
  | [], _, h => h
  | q :: ca, _, h => IntKs.puts (ca := ca) (h.put _ _)
/-- a place that was ever written -/
def hasM (s : DS) (n : Int) : Prop := (valV s.kb (.inl n)).isSome = true ∨ (valV s.kf (.inl n)).isSome = true
/-- what readable gives -/
def foundM (s : DS) (ns : List Int) : List V := (ns.map (lookM s)).filter fun v => !decide (v = .non)
/-- list(a dict) -/
def ListDX (xs : List V) (H : Hp) (Q : VK) : Prop := ∃ (a : Addr) (kvs : List (Key × V)), xs = [.ref a] ∧ Rd H a (.dK kvs) ∧ ∀ p, H p = none → Q (.ref p) (upd H p (.lst (kvs.map fun kv => kV kv.1)))
theorem call_listDX {X : Cx} (hc : X.calm = true) : CallR X (.type "list") ListDX := call_listD hc
theorem w_listD {M G H : Hp} {a : Addr} {kvs : List (Key × V)} {Q : VK} (j : J M G H) (h : Hd M G a kvs) (k : ∀ p G' H', J M G' H' → Ex G G' → G' p = some (.lst (kvs.map fun kv => kV kv.1)) → Q (.ref p) H') : ListDX [.ref a] H Q :=
  ⟨a, kvs, rfl, h.rd j, fun p hp => k p _ _ (j.newG hp) (Ex.new (j.freeG hp)) upd_same⟩
theorem found_snoc {s : DS} {ns : List Int} {i : Nat} {n : Int} (e : ns[i]? = some n) : foundM s (ns.take (i + 1)) = foundM s (ns.take i) ++ if lookM s n = .non then [] else [lookM s n] := by
  unfold foundM
  rw [take_one' e, List.map_append, List.filter_append]
  congr 1
  by_cases h : lookM s n = .non
  · rw [if_pos h]; simp [h]
  · rw [if_neg h]; simp [h]
/-! ### blocks of journals -/
structure Bk where
  g : Int
  n : Int
  p : Int
  q : Int
  cs : List Int
def BkAt (K : PySem.W.Frag) (G : Hp) (v : V) (b : Bk) : Prop := ∃ t u, v = .ref t ∧ G t = some (.tup [.int b.g, .int b.n, .int b.p, .int b.q, .ref u]) ∧ SqT K G u (b.cs.map V.int)
theorem BkAt.ex {K : PySem.W.Frag} {G G' : Hp} {v : V} {b : Bk} (h : BkAt K G v b) (e : Ex G G') : BkAt K G' v b := by
  obtain ⟨t, u, rfl, h1, h2⟩ := h
  exact ⟨t, u, rfl, e _ _ h1, st_mono e h2⟩
inductive BksAt (K : PySem.W.Frag) (G : Hp) : List V → List Bk → Prop
  | nil : BksAt K G [] []
  | cons {v : V} {b : Bk} {vs : List V} {bs : List Bk} : BkAt K G v b → BksAt K G vs bs → BksAt K G (v :: vs) (b :: bs)
theorem BksAt.ex {K : PySem.W.Frag} {G G' : Hp} (e : Ex G G') : ∀ {vs : List V} {bs : List Bk}, BksAt K G vs bs → BksAt K G' vs bs
  | _, _, .nil => .nil
  | _, _, .cons h t => .cons (h.ex e) (t.ex e)
theorem BksAt.len {K : PySem.W.Frag} {G : Hp} : ∀ {vs : List V} {bs : List Bk}, BksAt K G vs bs → vs.length = bs.length
  | _, _, .nil => rfl
  | _, _, .cons _ t => by rw [List.length_cons, List.length_cons, t.len]
theorem BksAt.snoc {K : PySem.W.Frag} {G : Hp} {v : V} {b : Bk} (h : BkAt K G v b) : ∀ {vs : List V} {bs : List Bk}, BksAt K G vs bs → BksAt K G (vs ++ [v]) (bs ++ [b])
  | _, _, .nil => .cons h .nil
  | _, _, .cons h' t => .cons h' (t.snoc h)
theorem BksAt.get {K : PySem.W.Frag} {G : Hp} : ∀ {vs : List V} {bs : List Bk} {i : Nat} {v : V}, BksAt K G vs bs → vs[i]? = some v → ∃ b, bs[i]? = some b ∧ BkAt K G v b
  | _, _, _, _, .nil, e => by simp at e
  | _, _, 0, _, .cons h _, e => ⟨_, rfl, Option.some.inj e ▸ h⟩
  | _, _, i + 1, _, .cons _ t, e => by
    obtain ⟨b, h1, h2⟩ := t.get (i := i) (by simpa using e)
    exact ⟨b, by simpa using h1, h2⟩
theorem BksAt.append {K : PySem.W.Frag} {G : Hp} : ∀ {vs ws : List V} {bs cs : List Bk}, BksAt K G vs bs → BksAt K G ws cs → BksAt K G (vs ++ ws) (bs ++ cs)
  | _, _, _, _, .nil, h => h
  | _, _, _, _, .cons a t, h => .cons a (t.append h)
/-- the blocks of cells -/
def nparts (cs : List Int) : Nat := (cs.length + 5) / 6
def bkM (g n : Int) (cs : List Int) (p : Nat) : Bk := ⟨g, n, p, nparts cs, (cs.drop (6 * p)).take 6⟩
def bksM (g n : Int) (cs : List Int) : List Bk := (List.range (nparts cs)).map (bkM g n cs)
theorem cut_six {cs : List Int} {i : Nat} (h : 6 * i ≤ cs.length) : cutV (cs.map V.int) (some ((i : Int) * 6)) (some (((i : Int) + 1) * 6)) = ((cs.drop (6 * i)).take 6).map V.int := by
  have e1 : (i : Int) * 6 = ((6 * i : Nat) : Int) := by omega
  have e2 : ((i : Int) + 1) * 6 = ((6 * i + 6 : Nat) : Int) := by omega
  unfold cutV
  rw [e1, e2, HT.sIx_nat, HT.sIx_nat, List.length_map, Nat.min_eq_left h, List.map_take, List.map_drop]
  by_cases q : 6 * i + 6 ≤ cs.length
  · rw [Nat.min_eq_left q]
    congr 1; omega
  · have l1 : (List.drop (6 * i) (cs.map V.int)).length = cs.length - 6 * i := by rw [List.length_drop, List.length_map]
    rw [Nat.min_eq_right (by omega), List.take_of_length_le (by omega), List.take_of_length_le (by omega)]
theorem bks_snoc (g n : Int) (cs : List Int) (i : Nat) : ((List.range (i + 1)).map (bkM g n cs)) = (List.range i).map (bkM g n cs) ++ [bkM g n cs i] := by
  rw [List.range_succ, List.map_append]; rfl
def catM (bs : List Bk) : List Int := (bs.map (·.cs)).flatten
theorem cat_snoc {bs : List Bk} {i : Nat} {b : Bk} (h : bs[i]? = some b) : catM (bs.take (i + 1)) = catM (bs.take i) ++ b.cs := by
  unfold catM
  rw [List.take_add_one, h, List.map_append, List.flatten_append]
  simp
theorem cat_len {bs : List Bk} {i : Nat} {b : Bk} (h : bs[i]? = some b) : (catM (bs.take i)).length + b.cs.length ≤ (catM bs).length := by
  have e := cat_snoc h
  have e2 : catM bs = catM (bs.take (i + 1)) ++ catM (bs.drop (i + 1)) := by
    unfold catM
    rw [← List.flatten_append, ← List.map_append, List.take_append_drop]
  rw [e2, e, List.length_append, List.length_append]; omega
/-! ### xs.extend(a tuple) -/
def ExtT (K : PySem.W.Frag) (x : V) (vs : List V) (H : Hp) (Q : VK) : Prop := ∃ l b xs zs, x = .ref l ∧ vs = [.ref b] ∧ H l = some (.lst xs) ∧ SqT K H b zs ∧ xs.length + zs.length ≤ 1000000 ∧ Q .non (upd H l (.lst (xs ++ zs)))
theorem mt_extendT {X : Cx} : MtR X "list.extend" (ExtT X.K) := by
  intro pq s σ H x vs v us Q I rx rv h
  obtain ⟨l, b, xs, zs, rfl, rfl, hl, hb, z, q⟩ := h
  cases rx
  obtain rfl := Vals.ref1 rv
  obtain ⟨z1, its, n, r, ln, e⟩ := I.lstM hl
  obtain ⟨its2, r2, ⟨o2, e2, c2, n2, d2⟩, z2⟩ := I.tuple hb
  have ln2 : zs.length = its2.length := r2.length
  have big := sz_le (n := xs.length + zs.length) (by omega)
  refine wpAny_call_entry F.slot_list_extend ⟨_, e, rfl⟩ F.entry_list_extend ?_ (F.args_list_extend_2 _ _)
  show wpAny _ X.A.in1 (Builtin.List.listExtendWith (.ref l) (.ref b) .none) _ _ s
  unfold Builtin.List.listExtendWith
  refine wpAny_bind (wpAny_typeOf ⟨o2, e2, c2⟩ ?_)
  have h1 : (Builtin.List.listSameRef (.ref l) (.ref b) || Value.type "tuple" == Value.type "list" || Value.type "tuple" == Value.type "tuple") = true := by simp
  simp only [h1, if_true]
  refine wpAny_bind ?_
  unfold Builtin.List.listItems
  refine wpAny_bind (wpAny_seqItems e2 d2 (wpAny_pure ?_))
  refine wpAny_bind ?_
  refine wpAny_bind (wpAny_seqItems e rfl (wpAny_pure ?_))
  have nl : (!its.toArray.isEmpty && Builtin.List.listTooLong (its.toArray.size + its2.toArray.size)) = false := by
    rw [notLongL (by rw [List.size_toArray, List.size_toArray]; omega), Bool.and_false]
  simp only [nl, Bool.false_eq_true, if_false]
  show wpAny _ X.A.in1 (updateSeq l (· ++ its2.toArray) >>= fun _ => ret Value.none) _ _ s
  refine wpAny_bind (wpAny_updateSeq e rfl (wpAny_pure ⟨.none, rfl, ?_⟩) (by rw [List.size_toArray]; omega) (by rw [Array.size_append, List.size_toArray, List.size_toArray]; omega))
  refine ⟨.non, _, I.lset (its' := its ++ its2) hl e (by simp) (r.append r2) ?_, rfl, q⟩
  rw [List.length_append]
  omega
theorem mt_extendTK {X : Cx} {K : PySem.W.Frag} (h : X.K = K) : MtR X "list.extend" (ExtT K) := h ▸ mt_extendT
theorem w_extT {K : PySem.W.Frag} {M G H : Hp} {a b : Addr} {xs zs : List V} {Q : VK} (j : J M G H) (h : M a = some (.lst xs)) (hb : SqT K G b zs) (z : xs.length + zs.length ≤ 1000000) (q : ∀ H', J (upd M a (.lst (xs ++ zs))) G H' → Q .non H') : ExtT K (.ref a) [.ref b] H Q :=
  ⟨a, b, xs, zs, rfl, rfl, j.m _ _ h, st_mono j.g hb, z, q _ (j.put h)⟩
/-! ### while -/
def Below (W : Nat → L2.St → Hp → Prop) (m : Nat) (σ : L2.St) (H : Hp) : Prop := ∃ m', m' < m ∧ W m' σ H
theorem w_while {c : TT} {tb : TS} {D : Ends} {σ : L2.St} {H : Hp} (W : Nat → L2.St → Hp → Prop) (m : Nat) (h0 : W m σ H)
    (hs : ∀ m σ H (R : Bool → Hp → Prop), W m σ H → (∀ b H1, (if b = true then tb { D with nx := Below W m, ct := Below W m, bk := D.nx } σ H1 else D.nx σ H1) → R b H1) → c σ H R) : tWhile c tb D σ H :=
  ⟨W, ⟨m, h0⟩, fun m σ H w => hs m σ H _ w fun b H1 q => by
    cases b with
    | true => rw [if_pos rfl] at q ⊢; exact ⟨_, fun σ' H' x => x, q⟩
    | false => rw [if_neg Bool.false_ne_true] at q ⊢; exact q⟩
/-! ### records on a disk -/
def BvAt (K : PySem.W.Frag) (G : Hp) (v : V) : Option Bk → Prop
  | none => v = .non
  | some b => BkAt K G v b
theorem BvAt.ex {K : PySem.W.Frag} {G G' : Hp} {v : V} {o : Option Bk} (h : BvAt K G v o) (e : Ex G G') : BvAt K G' v o := by
  cases o with
  | none => exact h
  | some b => exact BkAt.ex h e
/-- the block with that number of a record of blocks like b0 -/
def okB (b0 : Bk) (m : Int) (k : Nat) : Option Bk → Bool
  | none => false
  | some b => decide (b.g = b0.g ∧ b.n = m ∧ b.p = k ∧ b.q = b0.q)
def runF (f : Int → Option Bk) (place m : Int) : List Bk :=
  match f place with
  | none => []
  | some b0 => if ∀ k, k < b0.q.toNat → okB b0 m k (f (place + k)) = true then (List.range b0.q.toNat).map fun k : Nat => (f (place + (k : Int))).getD b0 else []
theorem run_none {f : Int → Option Bk} {place m : Int} (h : f place = none) : runF f place m = [] := by unfold runF; rw [h]
theorem run_bad {f : Int → Option Bk} {place m : Int} {b0 : Bk} {k : Nat} (h : f place = some b0) (l : k < b0.q.toNat) (e : okB b0 m k (f (place + k)) = false) : runF f place m = [] := by
  unfold runF; rw [h]
  exact if_neg fun z => by rw [z k l] at e; cases e
theorem run_good {f : Int → Option Bk} {place m : Int} {b0 : Bk} (h : f place = some b0) (e : ∀ k, k < b0.q.toNat → okB b0 m k (f (place + k)) = true) : runF f place m = (List.range b0.q.toNat).map fun k : Nat => (f (place + (k : Int))).getD b0 := by
  unfold runF; rw [h]
  exact if_pos e
theorem nodup_sub {α : Type} [DecidableEq α] : ∀ {xs ys : List α}, xs.Nodup → (∀ x ∈ xs, x ∈ ys) → xs.length ≤ ys.length
  | [], _, _, _ => Nat.zero_le _
  | x :: xs, ys, hn, hs => by
    rw [List.nodup_cons] at hn
    have m := hs x List.mem_cons_self
    have ih := nodup_sub (xs := xs) (ys := ys.erase x) hn.2 fun y hy => by
      have ne : y ≠ x := fun e => hn.1 (e ▸ hy)
      exact (List.mem_erase_of_ne ne).mpr (hs y (List.mem_cons_of_mem _ hy))
    rw [List.length_erase_of_mem m] at ih
    have p : 0 < ys.length := List.length_pos_of_mem m
    rw [List.length_cons]; omega
theorem range_nodup (place : Int) (i : Nat) : ((List.range i).map fun k : Nat => place + (k : Int)).Nodup := by
  induction i with
  | zero => exact List.nodup_nil
  | succ i ih =>
    rw [List.range_succ, List.map_append, List.nodup_append]
    refine ⟨ih, by simp, fun a ha b hb => ?_⟩
    obtain ⟨k, hk, rfl⟩ := List.mem_map.mp ha
    rw [List.mem_range] at hk
    have hb : b = place + (i : Int) := by simpa using hb
    omega
theorem seen_pos {s : DS} {n : Int} (h : lookM s n ≠ .non) : n ∈ posKs s.kb ++ posKs s.kf := by
  rw [List.mem_append, posKs_mem, posKs_mem]
  unfold lookM at h
  cases e1 : valV s.kf (.inl n : Key) with
  | some v => exact .inr rfl
  | none =>
    cases e2 : valV s.kb (.inl n : Key) with
    | some v => exact .inl rfl
    | none => rw [e1, e2] at h; exact absurd rfl h
theorem run_bound {K : PySem.W.Frag} {G : Hp} {s : DS} {f : Int → Option Bk} {place : Int} {i : Nat} (hf : ∀ n, BvAt K G (lookM s n) (f n)) (h : ∀ k : Nat, k < i → (f (place + k)).isSome = true) : i ≤ s.kb.length + s.kf.length := by
  have e := nodup_sub (ys := posKs s.kb ++ posKs s.kf) (range_nodup place i) fun x hx => by
    obtain ⟨k, hk, rfl⟩ := List.mem_map.mp hx
    have q := h k (List.mem_range.mp hk)
    refine seen_pos fun z => ?_
    have y := hf (place + k)
    rw [z] at y
    cases e : f (place + k) with
    | none => rw [e] at q; cases q
    | some b =>
      rw [e] at y
      obtain ⟨t, u, e, _⟩ := y
      cases e
  rw [List.length_map, List.length_range, List.length_append] at e
  have l1 := posKs_len s.kb
  have l2 := posKs_len s.kf
  omega
/-- the first four parts of a block, and four numbers -/
theorem w_ne4 {K : PySem.W.Frag} {M G H : Hp} {a b : Addr} {x1 x2 x3 x4 y1 y2 y3 y4 : Int} {Q : VK} (j : J M G H) (h1 : SqT K G a [.int x1, .int x2, .int x3, .int x4]) (h2 : SqT K G b [.int y1, .int y2, .int y3, .int y4])
    (q : Q (.bl (!decide (x1 = y1 ∧ x2 = y2 ∧ x3 = y3 ∧ x4 = y4))) H) : uNe K (.ref a) (.ref b) H Q := by
  refine .inr ⟨_, _, .tup (st_mono j.g h1) (.cons (.int _) (.cons (.int _) (.cons (.int _) (.cons (.int _) .nil)))), .tup (st_mono j.g h2) (.cons (.int _) (.cons (.int _) (.cons (.int _) (.cons (.int _) .nil)))), rfl, rfl, ?_⟩
  have e : PyData.eqv (.tuple [.int x1, .int x2, .int x3, .int x4]) (.tuple [.int y1, .int y2, .int y3, .int y4]) = decide (x1 = y1 ∧ x2 = y2 ∧ x3 = y3 ∧ x4 = y4) := by
    simp only [PyData.eqv, PyData.eqvAll, Bool.decide_and, Bool.and_true]
    rfl
  rw [e]; exact q
/-! ### try .. except X: without a name, truth of a list, o.f += n -/
def tTryO (K : PySem.W.Frag) (c : Value) (tb : WX → TS) (ts : Addr → Value → Option Addr → TS) (Wout : WX) : TS := fun D σ H => tb (wOnly K c ts Wout D) D σ H
theorem w_tryO {K : PySem.W.Frag} {c : Value} {tb : WX → TS} {ts : Addr → Value → Option Addr → TS} {Wout : WX} {D : Ends} {σ : L2.St} {H : Hp} (h : tb (wOnly K c ts Wout D) D σ H) : tTryO K c tb ts Wout D σ H := h
theorem ps_tryO {X : Cx} {x : Str} {c : Value} {body suite : List Stmt} {b₀ : Stmt} {np pos pos' : Pos} {tb : WX → TS} {ts : Addr → Value → Option Addr → TS} {Wout : WX} (hs : X.stack = X.env :: X.outer) (hf : X.env.frame = some X.env.locals) (hc : Names X x c) (tk : Takes X Wout)
    (hb : ∀ (W : WX) (pn : List (Addr × Obj)) (xe : Value → Shared → Prop), Takes (X.tr pn xe) W → PassesOwn (model X.prog X.w) X.A X.env xe → PSs (X.tr pn xe) body (tb W))
    (hsu : ∀ (a : Addr) (oe : Obj) (cls : Value) (d : Option Addr) (pn : List (Addr × Obj)), Zc cls d oe → (∃ vs, oe.data = .fields vs) → PSs (X.suite a ((a, oe) :: pn)) (b₀ :: suite) (ts a cls d)) :
    PS X (.Try body [.ExceptHandler (some (.Name x np)) none (b₀ :: suite) pos'] [] [] pos) (tTryO X.K c tb ts Wout) := ps_try_only hs hf hc tk hb hsu
theorem w_caughtO {K : PySem.W.Frag} {c : Value} {C : Addr} {ts : Addr → Value → Option Addr → TS} {Wout : WX} {D : Ends} {σ : L2.St} {H : Hp} (e : PySem.W.exmOne K (.ref C) c = some true) (h : ∀ a, H a = none → ts a (.ref C) none D σ H) : wOnly K c ts Wout D (.ref C) none σ H :=
  ⟨true, e, fun _ => h, fun q => Bool.noConfusion q⟩
/-- truth -/
def TruX (K : PySem.W.Frag) (x : V) (H : Hp) (Q : Bool → Hp → Prop) : Prop := ∃ k, TruV K x H k ∧ Q k H
def tTruV (K : PySem.W.Frag) (ta : TE) : TT := fun σ H Q => ta σ H fun x H' => TruX K x H' Q
theorem pt_truV {X : Cx} {K : PySem.W.Frag} {a : Expr} {ta : TE} (hK : X.K = K) (ha : PE X a ta) (he : ∀ whole, isTrue a X.env whole = (do let v ← whole; standAt a.pos; holding [v] (truthy v)) := by intro _; rfl) : PT X a (tTruV K ta) := by
  subst hK; exact pt_truth ha he
theorem w_tru {K : PySem.W.Frag} {ta : TE} {σ : L2.St} {H : Hp} {Q : Bool → Hp → Prop} (h : ta σ H fun x H' => TruX K x H' Q) : tTruV K ta σ H Q := h
theorem w_truL {K : PySem.W.Frag} {M G H : Hp} {a : Addr} {xs : List V} {Q : Bool → Hp → Prop} (j : J M G H) (h : SqL K G a xs) (q : Q (!xs.isEmpty) H) : TruX K (.ref a) H Q := ⟨_, .inl ⟨xs, sl_mono j.g h, rfl⟩, q⟩
theorem w_truB {K : PySem.W.Frag} {H : Hp} {b : Bool} {Q : Bool → Hp → Prop} (q : Q b H) : TruX K (.bl b) H Q := ⟨_, rfl, q⟩
/-- o.f += n -/
def AugX (K : PySem.W.Frag) (f : Str) (tv : TE) (D : Ends) (σ : L2.St) (x : V) (H1 : Hp) : Prop := ∃ a C dx fs v, x = .ref a ∧ H1 a = some (.ins C dx fs) ∧ Cls K C ∧ NoAttr K C f ∧ fs.lookup f = some v ∧
  tv σ H1 fun y H2 => rAdd v y H2 fun z H3 => ∃ dx' fs', H3 a = some (.ins C dx' fs') ∧ fs'.length < 1000 ∧ D.nx σ (upd H3 a (.ins C dx' (putF f z fs')))
theorem w_sfa {K : PySem.W.Frag} {ta tv : TE} {f : Str} {D : Ends} {σ : L2.St} {H : Hp} (h : ta σ H fun x H1 => AugX K f tv D σ x H1) : sFldAug K ta tv rAdd f D σ H := h
/-- the object and its field stand as they were when the number is added -/
def AugE (D : Ends) (σ : L2.St) (a C dx : Addr) (fs : List (Str × V)) (f : Str) (i : Int) (y : V) (H2 : Hp) : Prop := ∃ k M2 G2, y = .int k ∧ J M2 G2 H2 ∧ M2 a = some (.ins C dx fs) ∧ ∀ H', J (upd M2 a (.ins C dx (putF f (.int (i + k)) fs))) G2 H' → D.nx σ H'
theorem w_augX {K : PySem.W.Frag} {M G H : Hp} {a C dx : Addr} {fs : List (Str × V)} {f : Str} {i : Int} {tv : TE} {D : Ends} {σ : L2.St} (j : J M G H) (h : M a = some (.ins C dx fs)) (c : Cls K C) (n : NoAttr K C f) (l : fs.lookup f = some (.int i)) (z : fs.length < 1000)
    (hm : ∀ Q Q' : VK, (∀ v H, Q v H → Q' v H) → tv σ H Q → tv σ H Q') (q : tv σ H (AugE D σ a C dx fs f i)) : AugX K f tv D σ (.ref a) H :=
  ⟨a, C, dx, fs, .int i, rfl, j.m _ _ h, c, n, l, hm _ _ (fun y H2 ⟨k, M2, G2, e, j2, h2, q2⟩ => ⟨i, k, rfl, e, dx, fs, j2.m _ _ h2, z, q2 _ (j2.put h2)⟩) q⟩
/-- .. by steps: the continuation is a letter -/
theorem w_augK {K : PySem.W.Frag} {M G H : Hp} {a C dx : Addr} {fs : List (Str × V)} {f : Str} {i : Int} {tv : TE} {D : Ends} {σ : L2.St} (j : J M G H) (h : M a = some (.ins C dx fs)) (c : Cls K C) (n : NoAttr K C f) (l : fs.lookup f = some (.int i)) (z : fs.length < 1000)
    (q : ∀ R : VK, (∀ y H2, AugE D σ a C dx fs f i y H2 → R y H2) → tv σ H R) : AugX K f tv D σ (.ref a) H :=
  ⟨a, C, dx, fs, .int i, rfl, j.m _ _ h, c, n, l, q _ fun y H2 ⟨k, M2, G2, e, j2, h2, q2⟩ => ⟨i, k, rfl, e, dx, fs, j2.m _ _ h2, z, q2 _ (j2.put h2)⟩⟩
local macro_rules
  | `(tactic| walk_at "v") => `(tactic| first
    | with_reducible refine w_tryO ?_
    | with_reducible refine w_tru ?_
    | with_reducible refine w_sfa ?_)
/-! ### journals: states, what is read -/
structure JA where
  p : Addr
  r : Addr
  dx : Addr
def oi : Option Int → V
  | none => .non
  | some n => .int n
def okL : Option Int → Int → Bool
  | none, _ => true
  | some l, g => decide (l ≤ g)
def readF (f : Int → Option Bk) : Nat → Nat → Nat → Option Int → List Rc × Nat
  | 0, pl, _, _ => ([], pl)
  | n + 1, pl, m, least => match runF f pl m with
    | [] => ([], pl)
    | b :: bs => if okL least b.g = true then (match rebM (catM (b :: bs)) with
      | none => ([], pl)
      | some r => (r :: (readF f n (pl + (b :: bs).length) (m + 1) (some b.g)).1, (readF f n (pl + (b :: bs).length) (m + 1) (some b.g)).2)) else ([], pl)
theorem read_nil {f : Int → Option Bk} {n pl m : Nat} {least : Option Int} (h : runF f pl m = []) : readF f (n + 1) pl m least = ([], pl) := by unfold readF; rw [h]
theorem read_stop {f : Int → Option Bk} {n pl m : Nat} {least : Option Int} {b : Bk} {bs : List Bk} (h : runF f pl m = b :: bs) (e : okL least b.g = false) : readF f (n + 1) pl m least = ([], pl) := by
  unfold readF; rw [h]; simp only [e]; rfl
theorem read_bad {f : Int → Option Bk} {n pl m : Nat} {least : Option Int} {b : Bk} {bs : List Bk} (h : runF f pl m = b :: bs) (e : rebM (catM (b :: bs)) = none) : readF f (n + 1) pl m least = ([], pl) := by
  unfold readF; rw [h]; simp only [e]; split <;> rfl
theorem read_go {f : Int → Option Bk} {n pl m : Nat} {least : Option Int} {b : Bk} {bs : List Bk} {r : Rc} (h : runF f pl m = b :: bs) (e : okL least b.g = true) (e2 : rebM (catM (b :: bs)) = some r) :
    readF f (n + 1) pl m least = (r :: (readF f n (pl + (b :: bs).length) (m + 1) (some b.g)).1, (readF f n (pl + (b :: bs).length) (m + 1) (some b.g)).2) := by
  conv => lhs; unfold readF
  rw [h]; simp only [e, e2, if_true]
/-- a run: its blocks stand one behind the other -/
theorem run_ne {f : Int → Option Bk} {place m : Int} {b : Bk} {bs : List Bk} (h : runF f place m = b :: bs) : ∀ k : Nat, k < (b :: bs).length → (f (place + k)).isSome = true := by
  intro k hk
  rw [← h] at hk
  cases h0 : f place with
  | none => rw [run_none h0] at h; cases h
  | some b0 =>
    by_cases q : ∀ k, k < b0.q.toNat → okB b0 m k (f (place + k)) = true
    · rw [run_good h0 q, List.length_map, List.length_range] at hk
      have := q k hk
      cases e : f (place + (k : Int)) with
      | none => rw [e] at this; cases this
      | some b => rfl
    · have : runF f place m = [] := by unfold runF; rw [h0]; exact if_neg q
      rw [this] at h; cases h
theorem run_cells {f : Int → Option Bk} {place m : Int} (h6 : ∀ n b, f n = some b → b.cs.length ≤ 6) {c : Nat} (hc : (runF f place m).length ≤ c) : (catM (runF f place m)).length ≤ 6 * c := by
  have all : ∀ b ∈ runF f place m, b.cs.length ≤ 6 := fun b hb => by
    cases h0 : f place with
    | none => rw [run_none h0] at hb; cases hb
    | some b0 =>
      by_cases q : ∀ k, k < b0.q.toNat → okB b0 m k (f (place + k)) = true
      · rw [run_good h0 q] at hb
        obtain ⟨k, hk, rfl⟩ := List.mem_map.mp hb
        cases e : f (place + (k : Int)) with
        | none => exact h6 _ _ h0
        | some b => exact h6 _ _ e
      · have : runF f place m = [] := by unfold runF; rw [h0]; exact if_neg q
        rw [this] at hb; cases hb
  have g : ∀ bs : List Bk, (∀ b ∈ bs, b.cs.length ≤ 6) → (catM bs).length ≤ 6 * bs.length := by
    intro bs
    induction bs with
    | nil => intro _; simp [catM]
    | cons b bs ih =>
      intro h
      have h1 := h b List.mem_cons_self
      have h2 := ih fun x m => h x (List.mem_cons_of_mem _ m)
      have e : catM (b :: bs) = b.cs ++ catM bs := rfl
      rw [e, List.length_append, List.length_cons]; omega
  have := g _ all
  omega
def MJ (C : Addr) (M : Hp) (ja : JA) (dp : Addr) (g : Int) (rs : List V) (pl : Nat) : Hp := upd (upd M ja.r (.lst rs)) ja.p (.ins C ja.dx (fl_Journal (.ref dp) (.ref ja.r) (.int g) (.int pl)))
section
variable {C : Addr} {M : Hp} {ja : JA} {dp : Addr} {g : Int} {rs rs' : List V} {pl n : Nat}
theorem mj_p : MJ C M ja dp g rs pl ja.p = some (.ins C ja.dx (fl_Journal (.ref dp) (.ref ja.r) (.int g) (.int pl))) := upd_same
theorem mj_r (h : ja.p ≠ ja.r) : MJ C M ja dp g rs pl ja.r = some (.lst rs) := upd_ne' upd_same h.symm
theorem mj_o {a : Addr} {o : HO} (e : M a = some o) (h1 : a ≠ ja.p) (h2 : a ≠ ja.r) : MJ C M ja dp g rs pl a = some o := upd_ne' (upd_ne' e h2) h1
theorem mj_app (h : ja.p ≠ ja.r) : upd (MJ C M ja dp g rs pl) ja.r (.lst rs') = MJ C M ja dp g rs' pl := by
  funext a
  unfold MJ
  by_cases q : a = ja.r
  · rw [q, upd_same, upd_ne h.symm, upd_same]
  · rw [upd_ne q]
    by_cases q2 : a = ja.p
    · rw [q2, upd_same, upd_same]
    · rw [upd_ne q2, upd_ne q2, upd_ne q, upd_ne q]
theorem mj_pl : upd (MJ C M ja dp g rs pl) ja.p (.ins C ja.dx (fl_Journal (.ref dp) (.ref ja.r) (.int g) (.int ((pl : Int) + (n : Int))))) = MJ C M ja dp g rs (pl + n) := by
  unfold MJ
  rw [upd_upd, Int.natCast_add]
theorem mj_0 (h1 : M ja.p = some (.ins C ja.dx (fl_Journal (.ref dp) (.ref ja.r) (.int g) (.int 0)))) (h2 : M ja.r = some (.lst [])) : MJ C M ja dp g [] 0 = M := by
  unfold MJ
  rw [upd_self h2]
  exact upd_self h1
end
theorem mj_pre {M : Hp} {p r : Addr} {o1 o2 o3 : HO} (h : p ≠ r) : upd (upd (upd M p o1) r o2) p o3 = upd (upd M r o2) p o3 := by
  funext a
  by_cases q : a = p
  · rw [q, upd_same, upd_same]
  · rw [upd_ne q, upd_ne q]
    by_cases q2 : a = r
    · rw [q2, upd_same, upd_same]
    · rw [upd_ne q2, upd_ne q2, upd_ne q]
theorem mj_over {C : Addr} {M : Hp} {ja : JA} {dp : Addr} {g : Int} {rs : List V} {pl : Nat} {o1 o2 : HO} (h : ja.p ≠ ja.r) : MJ C (upd (upd M ja.r o1) ja.p o2) ja dp g rs pl = MJ C M ja dp g rs pl := by
  funext a
  unfold MJ
  by_cases q : a = ja.p
  · rw [q, upd_same, upd_same]
  · rw [upd_ne q, upd_ne q]
    by_cases q2 : a = ja.r
    · rw [q2, upd_same, upd_same]
    · rw [upd_ne q2, upd_ne q2, upd_ne q, upd_ne q2]
theorem founds {K : PySem.W.Frag} {G : Hp} {s : DS} {f : Int → Option Bk} (hf : ∀ n, BvAt K G (lookM s n) (f n)) : ∀ ns : List Int, BksAt K G (foundM s ns) (ns.filterMap f)
  | [] => .nil
  | n :: ns => by
    have ih := founds hf ns
    have h := hf n
    unfold foundM at ih ⊢
    rw [List.map_cons, List.filterMap_cons]
    cases e : f n with
    | none =>
      rw [e] at h
      have h : lookM s n = .non := h
      rw [h, List.filter_cons]
      exact ih
    | some b =>
      rw [e] at h
      have h2 := h
      obtain ⟨t, u, ev, _, _⟩ := h2
      rw [List.filter_cons, ev]
      rw [ev] at h
      exact .cons h ih
/-! ### _law_changed -/
abbrev s_law_changed : Stmt := top 49
abbrev n_law_changed : List Str := ["draws", "block", "pick", "by"]
theorem sc_law_changed : FnScope n_law_changed ["draws", "block"] (defScope s_law_changed) := ⟨rfl, rfl, rfl, by decide +kernel, rfl, by decide +kernel, by decide +kernel⟩
def okBk (b : Bk) : Prop := b.cs.length ≤ 6 ∧ 1 ≤ b.g ∧ 1 ≤ b.q ∧ b.q ≤ 1000
theorem cut_from1 (xs : List V) : cutV xs (some 1) none = xs.drop 1 := by
  have e : HT.sIx xs.length 0 (some ((1 : Nat) : Int)) = min 1 xs.length := HT.sIx_nat _ _ _
  have e2 : HT.sIx xs.length xs.length none = xs.length := rfl
  unfold cutV
  rw [show (some (1 : Int)) = some ((1 : Nat) : Int) from rfl, e, e2]
  cases xs with
  | nil => rfl
  | cons x r =>
    have : min 1 (x :: r).length = 1 := by rw [List.length_cons]; omega
    rw [this]
    simp
def sp_law_changed (K : PySem.W.Frag) : Sp := Sg (α := Addr × V × Bk) (fun x vs M G => vs = [.ref x.1, x.2.1] ∧ Dr K M G x.1 ∧ BkAt K G x.2.1 x.2.2 ∧ x.2.2.cs.length ≤ 6 ∧ 1 ≤ x.2.2.g ∧ 1 ≤ x.2.2.q ∧ x.2.2.q ≤ 900)
  (fun x M _ v M' G' => (∃ b, BkAt K G' v b ∧ okBk b) ∧ Dr K M' G' x.1 ∧ Ag x.1 M M')
theorem ok_law_changed {P : Program} {w : World} {K : PySem.W.Frag} {mg : Str → Option Value} {base : Heap}
    {f : Addr} {fd : FuncData} (D : Dn K mg "_law_changed" s_law_changed ["draws", "block"] f fd)
    (c_law_draw : Cal P w K mg base CX0 2 "_law_draw" (sp_law_draw K)) : Cal P w K mg base CX0 3 "_law_changed" (sp_law_changed K) := by
  refine D.ok sc_law_changed (fun vs H Q E h => ?_) fun cdv A outer s H vs Q E hr h => ?_
  · obtain ⟨x, M, G, j, ⟨rfl, _⟩, _⟩ := h; rfl
  obtain ⟨⟨p, bv, b⟩, M, G, j, ⟨rfl, hd, hb, h6, hg, q1, q2⟩, k⟩ := h
  dsimp only at hd hb h6 hg q1 q2 k
  refine ⟨_, (pss_cons (ps_set (i := 2) sc_law_changed.nd rfl (Or.inl rfl) (pe_op op_mod (pe_cal c_law_draw hr (by first | decide | omega) (by rfl) (pa_cons (pv 0) pa_nil)) pe_int))
(pss_cons (ps_set (i := 3) sc_law_changed.nd rfl (Or.inl rfl) (pe_op (op_uAddK (K := K) rfl) pe_int (pe_op op_mod (pe_cal c_law_draw hr (by first | decide | omega) (by rfl) (pa_cons (pv 0) pa_nil)) pe_int)))
(pss_cons (ps_if (pt_cmpR (op_uEqK (K := K) rfl hr) (pv 2) pe_int (nomark _))
(pss_one (ps_ret (pe_tup (pa_cons (pe_op (op_uAddK (K := K) rfl) (pe_ix (ix_uK (K := K) rfl) (pv 1) pe_int (fun _ _ => rfl)) (pv 3)) (pa_cons (pe_ix (ix_uK (K := K) rfl) (pv 1) pe_int (fun _ _ => rfl)) (pa_cons (pe_ix (ix_uK (K := K) rfl) (pv 1) pe_int (fun _ _ => rfl)) (pa_cons (pe_ix (ix_uK (K := K) rfl) (pv 1) pe_int (fun _ _ => rfl)) (pa_cons (pe_ix (ix_uK (K := K) rfl) (pv 1) pe_int (fun _ _ => rfl)) pa_nil))))))))
pss_nil)
(pss_cons (ps_if (pt_cmpR (op_uEqK (K := K) rfl hr) (pv 2) pe_int (nomark _))
(pss_one (ps_ret (pe_tup (pa_cons (pe_ix (ix_uK (K := K) rfl) (pv 1) pe_int (fun _ _ => rfl)) (pa_cons (pe_op (op_uAddK (K := K) rfl) (pe_ix (ix_uK (K := K) rfl) (pv 1) pe_int (fun _ _ => rfl)) (pv 3)) (pa_cons (pe_ix (ix_uK (K := K) rfl) (pv 1) pe_int (fun _ _ => rfl)) (pa_cons (pe_ix (ix_uK (K := K) rfl) (pv 1) pe_int (fun _ _ => rfl)) (pa_cons (pe_ix (ix_uK (K := K) rfl) (pv 1) pe_int (fun _ _ => rfl)) pa_nil))))))))
pss_nil)
(pss_cons (ps_if (PW.pt (pw_and (pt_cmpR (op_uEqK (K := K) rfl hr) (pv 2) pe_int (nomark _)) (pw_and1 (pt_cmpR op_lt (pe_op (op_uAddK (K := K) rfl) (pe_ix (ix_uK (K := K) rfl) (pv 1) pe_int (fun _ _ => rfl)) (pv 3)) (pe_ix (ix_uK (K := K) rfl) (pv 1) pe_int (fun _ _ => rfl)) (nomark _)))))
(pss_one (ps_ret (pe_tup (pa_cons (pe_ix (ix_uK (K := K) rfl) (pv 1) pe_int (fun _ _ => rfl)) (pa_cons (pe_ix (ix_uK (K := K) rfl) (pv 1) pe_int (fun _ _ => rfl)) (pa_cons (pe_op (op_uAddK (K := K) rfl) (pe_ix (ix_uK (K := K) rfl) (pv 1) pe_int (fun _ _ => rfl)) (pv 3)) (pa_cons (pe_ix (ix_uK (K := K) rfl) (pv 1) pe_int (fun _ _ => rfl)) (pa_cons (pe_ix (ix_uK (K := K) rfl) (pv 1) pe_int (fun _ _ => rfl)) pa_nil))))))))
pss_nil)
(pss_cons (ps_if (pt_cmpR (op_uEqK (K := K) rfl hr) (pv 2) pe_int (nomark _))
(pss_one (ps_ret (pe_tup (pa_cons (pe_ix (ix_uK (K := K) rfl) (pv 1) pe_int (fun _ _ => rfl)) (pa_cons (pe_ix (ix_uK (K := K) rfl) (pv 1) pe_int (fun _ _ => rfl)) (pa_cons (pe_ix (ix_uK (K := K) rfl) (pv 1) pe_int (fun _ _ => rfl)) (pa_cons (pe_op (op_uAddK (K := K) rfl) (pe_ix (ix_uK (K := K) rfl) (pv 1) pe_int (fun _ _ => rfl)) (pv 3)) (pa_cons (pe_ix (ix_uK (K := K) rfl) (pv 1) pe_int (fun _ _ => rfl)) pa_nil))))))))
pss_nil)
(pss_cons (ps_if (pt_cmpR (op_uEqK (K := K) rfl hr) (pv 2) pe_int (nomark _))
(pss_one (ps_ret (pe_tup (pa_cons (pe_ix (ix_uK (K := K) rfl) (pv 1) pe_int (fun _ _ => rfl)) (pa_cons (pe_ix (ix_uK (K := K) rfl) (pv 1) pe_int (fun _ _ => rfl)) (pa_cons (pe_ix (ix_uK (K := K) rfl) (pv 1) pe_int (fun _ _ => rfl)) (pa_cons (pe_ix (ix_uK (K := K) rfl) (pv 1) pe_int (fun _ _ => rfl)) (pa_cons (pe_op (op_uAddK (K := K) rfl) (pe_tup (pa_cons pe_int pa_nil)) (pe_slice (sl_uK (K := K) rfl) (pe_ix (ix_uK (K := K) rfl) (pv 1) pe_int (fun _ _ => rfl)) (po_some pe_int) po_none)) pa_nil))))))))
pss_nil)
(pss_one (ps_ret (pv 1)))))))))), ?_⟩
  walk_at "start"
  refine use_draw j hd fun n1 M1 G1 H1 _ _ j1 e1 d1 a1 => ?_
  walk_at "go"
  refine use_draw j1 d1 fun n2 M2 G2 H2 _ _ j2 e2 d2 a2 => ?_
  walk_at "go"
  have z1 := Int.emod_nonneg n2 (show (2 : Int) ≠ 0 by decide)
  have z2 := Int.emod_lt_of_pos n2 (show (0 : Int) < 2 by decide)
  generalize n1 % 9 = pk
  generalize n2 % 2 = by1 at z1 z2
  have a3 := a1.trans a2
  have e3 := e1.trans e2
  obtain ⟨t, u, rfl, ht, hu⟩ := hb.ex e3
  have fin : ∀ {x1 x2 x3 x4 : Int} {u' : Addr} {cs : List Int} {G3 H3 : Hp}, J M2 G3 H3 → Ex G2 G3 → SqT K G3 u' (cs.map V.int) → cs.length ≤ 6 → 1 ≤ x1 → 1 ≤ x4 → x4 ≤ 1000 → NewO (.tup [.int x1, .int x2, .int x3, .int x4, .ref u']) 5 H3 Q := fun {x1 x2 x3 x4 u' cs G3 H3} j3 e hu h1 h2 h3 h4 =>
    w_new j3 (by decide) fun t G4 H4 j4 e4 ht _ => k _ _ _ _ j4 ((e3.trans e).trans e4) ⟨⟨⟨x1, x2, x3, x4, cs⟩, ⟨t, u', rfl, ht, st_mono e4 hu⟩, h1, h2, h3, h4⟩, d2.ex (e.trans e4), a3⟩
  have last : Q (.ref t) H2 := k _ _ _ _ j2 e3 ⟨⟨b, ⟨t, u, rfl, ht, hu⟩, h6, hg, q1, by omega⟩, d2, a3⟩
  refine w_dec (fun c0 => ?_) (fun c0 => ?_)
  · walk_at "gx"
    exact fin j2 (Same.refl _) hu h6 (by omega) q1 (by omega)
  walk_at "go"
  refine w_dec (fun c1 => ?_) (fun c1 => ?_)
  · walk_at "gx"
    exact fin j2 (Same.refl _) hu h6 hg q1 (by omega)
  with_reducible refine w_next ?_
  with_reducible show tSeq _ _ _ _ _
  refine w_seqP (fun σ H => σ = [some (.ref p), some (.ref t), some (.int pk), some (.int (1 + by1))] ∧ H = H2) ?_ fun rest => ?_
  · rintro σ H ⟨rfl, rfl⟩
    walk_at "go"
    refine w_dec (fun c3 => ?_) (fun c3 => ?_)
    · walk_at "gx"
      exact fin j2 (Same.refl _) hu h6 hg (by omega) (by omega)
    walk_at "go"
    refine w_dec (fun c4 => ?_) (fun c4 => ?_)
    · walk_at "gx"
      refine w_new j2 (by show 1 ≤ sizeLine; decide) fun t6 G3 H3 j3 e4 ht6 _ => ?_
      walk_at "go"
      refine w_ixT j3 (st_of (e4 _ _ ht)) (by rfl) ?_
      walk_at "go"
      refine w_slTG j3 (st_mono e4 hu) fun t7 G4 H4 j4 e5 ht7 => ?_
      rw [cut_from1, ← List.map_drop] at ht7
      have l5 : (b.cs.drop 1).length ≤ 5 := by rw [List.length_drop]; omega
      refine w_catT j4 (st_of (e5 _ _ ht6)) ht7 (by rw [List.length_map]; show 1 + _ ≤ _; omega) fun t8 G5 H5 j5 e6 ht8 => ?_
      walk_at "go"
      exact fin (cs := 6 :: b.cs.drop 1) j5 ((e4.trans e5).trans e6) ht8 (by rw [List.length_cons]; omega) hg q1 (by omega)
    · walk_at "go"
      exact last
  · walk_at "go"
    have nx : ∀ {A B : Prop}, A → (if false = true then B else A) := fun a => w_F a
    refine w_dec (fun c2 => ?_) (fun c2 => ?_)
    · walk_at "gx"
      refine w_dec (fun c3 => ?_) (fun c3 => ?_)
      · walk_at "gx"
        exact fin j2 (Same.refl _) hu h6 hg q1 (by omega)
      · with_reducible refine w_next ?_
        exact rest _ _ ⟨rfl, rfl⟩
    · with_reducible refine w_F ?_
      with_reducible refine w_next ?_
      exact rest _ _ ⟨rfl, rfl⟩
/-! ### what is written is read again -/
theorem cells_pos : ∀ {r : Rc} {m : Nat}, goodM m r = true → 1 ≤ (cellsM r).length
  | .non, _, _ => by simp [cellsM]
  | .bl _, _, _ => by simp [cellsM]
  | .int _, _, _ => by simp [cellsM]
  | .str _, _, _ => by simp [cellsM]
  | .tup xs, _, _ => by simp [cellsM]
  | .oth, _, h => by simp [goodM] at h
theorem cellsL_pos : ∀ {rs : List Rc} {m : Nat}, goodL m rs = true → rs.length ≤ (cellsL rs).length
  | [], _, _ => Nat.zero_le _
  | r :: rs, m, h => by
    rw [goodL, Bool.and_eq_true] at h
    have h1 := cells_pos h.1
    have h2 := cellsL_pos h.2
    rw [cellsL, List.length_append, List.length_cons]; omega
theorem at_pre {pre post : List Int} {x : Int} : (pre ++ x :: post)[pre.length]? = some x := by simp
theorem at_pre1 {pre post : List Int} {x y : Int} : (pre ++ x :: y :: post)[pre.length + 1]? = some y := by
  rw [List.getElem?_append_right (by omega)]; simp
theorem leaf_tag {cs : List Int} {at_ : Nat} {t : Int} {f : Option (Nat → Option (Rc × Nat))} (h : cs[at_]? = some t) : leafQ cs at_ f = (if t = 0 then (cs[at_ + 1]?).map fun i => (.int i, at_ + 2) else if t = 1 then some (.non, at_ + 1) else if t = 2 then some (.bl false, at_ + 1) else if t = 3 then some (.bl true, at_ + 1)
    else if t = 4 then (wordQ cs (at_ + 1)).map fun s => (.str s, at_ + 2) else if t = 5 then tupQ cs (at_ + 1) f else none) := by
  unfold leafQ; rw [h]; rfl
mutual
theorem q_of : ∀ (r : Rc) (m : Nat) (pre post : List Int), goodM m r = true → qM (pre ++ (cellsM r ++ post)) m pre.length = some (r, pre.length + (cellsM r).length)
  | .non, m, pre, post, _ => by
    rw [qM_eq, cellsM]
    show leafQ (pre ++ (1 :: post)) _ _ = _
    rw [leaf_tag at_pre]; rfl
  | .bl b, m, pre, post, _ => by
    rw [qM_eq, cellsM]
    cases b with
    | false =>
      show leafQ (pre ++ (2 :: post)) _ _ = _
      rw [leaf_tag at_pre]; rfl
    | true =>
      show leafQ (pre ++ (3 :: post)) _ _ = _
      rw [leaf_tag at_pre]; rfl
  | .int i, m, pre, post, _ => by
    rw [qM_eq, cellsM]
    show leafQ (pre ++ (0 :: i :: post)) _ _ = _
    rw [leaf_tag at_pre, if_pos rfl, at_pre1]; rfl
  | .str s, m, pre, post, h => by
    rw [qM_eq, cellsM]
    have hs : s ∈ WD := of_decide_eq_true (by simpa [goodM] using h)
    obtain ⟨h1, _⟩ := idxW_at hs
    have hl : idxW s WD < 31 := (List.getElem?_eq_some_iff.mp h1).1
    have hw : wordQ (pre ++ (4 :: (idx s : Int) :: post)) (pre.length + 1) = some s := by
      unfold wordQ
      rw [at_pre1]
      show (if 0 ≤ (idx s : Int) ∧ (idx s : Int) < 31 then WD[((idx s : Nat) : Int).toNat]? else none) = _
      rw [if_pos ⟨Int.natCast_nonneg _, by unfold idx; omega⟩, Int.toNat_natCast]
      exact h1
    show leafQ (pre ++ (4 :: (idx s : Int) :: post)) _ _ = _
    rw [leaf_tag at_pre, if_neg (by decide), if_neg (by decide), if_neg (by decide), if_neg (by decide), if_pos rfl, hw]; rfl
  | .oth, m, pre, post, h => by simp [goodM] at h
  | .tup xs, 0, pre, post, h => by simp [goodM] at h
  | .tup xs, m + 1, pre, post, h => by
    rw [goodM] at h
    have hp := qs_of xs m (pre ++ [5, (xs.length : Int)]) post h
    have hc := cellsL_pos h
    rw [qM_eq, cellsM]
    have ec : pre ++ (5 :: (xs.length : Int) :: cellsL xs ++ post) = (pre ++ [5, (xs.length : Int)]) ++ (cellsL xs ++ post) := by simp
    have e0 : (pre ++ [5, (xs.length : Int)]).length = pre.length + 2 := by simp
    have hl : (pre ++ (5 :: (xs.length : Int) :: cellsL xs ++ post)).length = pre.length + 2 + (cellsL xs).length + post.length := by simp; omega
    have ht : tupQ (pre ++ (5 :: (xs.length : Int) :: cellsL xs ++ post)) (pre.length + 1) (recQ (pre ++ (5 :: (xs.length : Int) :: cellsL xs ++ post)) (m + 1)) = some (.tup xs, pre.length + 2 + (cellsL xs).length) := by
      unfold tupQ
      rw [show (pre ++ (5 :: (xs.length : Int) :: cellsL xs ++ post))[pre.length + 1]? = some (xs.length : Int) from at_pre1]
      show (if 0 ≤ (xs.length : Int) ∧ (xs.length : Int) ≤ _ then _ else none) = _
      rw [if_pos ⟨Int.natCast_nonneg _, by rw [hl]; omega⟩, Int.toNat_natCast]
      show ((partsM (fun a => qM _ m a) xs.length (pre.length + 2)).map _) = _
      rw [ec, ← e0, hp]; rfl
    show leafQ (pre ++ (5 :: (xs.length : Int) :: cellsL xs ++ post)) _ _ = _
    rw [leaf_tag (t := 5) (show (pre ++ (5 :: (xs.length : Int) :: cellsL xs ++ post))[pre.length]? = some (5 : Int) from at_pre), if_neg (by decide), if_neg (by decide), if_neg (by decide), if_neg (by decide), if_neg (by decide), if_pos rfl, ht]
    simp only [List.length_cons]
    congr 2
    omega
theorem qs_of : ∀ (rs : List Rc) (m : Nat) (pre post : List Int), goodL m rs = true → partsM (fun a => qM (pre ++ (cellsL rs ++ post)) m a) rs.length pre.length = some (rs, pre.length + (cellsL rs).length)
  | [], m, pre, post, _ => rfl
  | r :: rs, m, pre, post, h => by
    rw [goodL, Bool.and_eq_true] at h
    have h1 := q_of r m pre (cellsL rs ++ post) h.1
    have h2 := qs_of rs m (pre ++ cellsM r) post h.2
    have e : pre ++ (cellsL (r :: rs) ++ post) = pre ++ (cellsM r ++ (cellsL rs ++ post)) := by rw [cellsL, List.append_assoc]
    have e2 : pre ++ (cellsM r ++ (cellsL rs ++ post)) = (pre ++ cellsM r) ++ (cellsL rs ++ post) := by rw [List.append_assoc]
    rw [e]
    show ((qM _ m pre.length).bind fun x => (partsM _ rs.length x.2).map fun y => (x.1 :: y.1, y.2)) = _
    rw [h1]
    show (partsM _ rs.length (pre.length + (cellsM r).length)).map _ = _
    rw [e2, ← List.length_append, h2]
    show some (_, _) = some (_, _)
    rw [cellsL, List.length_append, List.length_append, Nat.add_assoc]
end
theorem reb_of {r : Rc} (h : goodM 30 r = true) : rebM (cellsM r) = some r := by
  have q := q_of r 30 [] [] h
  rw [List.nil_append, List.append_nil] at q
  unfold rebM
  rw [show (0 : Nat) = ([] : List Int).length from rfl, q]
  show (if 0 + _ = _ then _ else _) = _
  rw [if_pos (Nat.zero_add _)]
/-! blocks -/
theorem cat_bks (g n : Int) (cs : List Int) : catM (bksM g n cs) = cs := by
  have h : ∀ k, catM ((List.range k).map (bkM g n cs)) = cs.take (6 * k) := fun k => by
    induction k with
    | zero => rfl
    | succ k ih =>
      have e : catM ((List.range (k + 1)).map (bkM g n cs)) = catM ((List.range k).map (bkM g n cs)) ++ (bkM g n cs k).cs := by
        rw [bks_snoc]; unfold catM; rw [List.map_append, List.flatten_append]; simp
      rw [e, ih, show 6 * (k + 1) = 6 * k + 6 by omega, List.take_add]; rfl
  unfold bksM
  rw [h, List.take_of_length_le]
  unfold nparts; omega
def fB (bs : List Bk) (n : Int) : Option Bk := if 0 ≤ n then bs[n.toNat]? else none
theorem fB_nat (bs : List Bk) (n : Nat) : fB bs (n : Int) = bs[n]? := by unfold fB; rw [if_pos (Int.natCast_nonneg _), Int.toNat_natCast]
theorem bks_len (g n : Int) (cs : List Int) : (bksM g n cs).length = nparts cs := by unfold bksM; rw [List.length_map, List.length_range]
theorem bks_at {g n : Int} {cs : List Int} {k : Nat} (h : k < nparts cs) : (bksM g n cs)[k]? = some (bkM g n cs k) := by
  unfold bksM
  rw [List.getElem?_map, List.getElem?_range h]; rfl
theorem run_of {bs pre post : List Bk} {g : Int} {m : Int} {cs : List Int} (e : bs = pre ++ (bksM g m cs ++ post)) (h : 1 ≤ cs.length) : runF (fB bs) (pre.length : Int) m = bksM g m cs := by
  have np : 1 ≤ nparts cs := by unfold nparts; omega
  have hf : ∀ k : Nat, k < nparts cs → fB bs ((pre.length : Int) + (k : Int)) = some (bkM g m cs k) := fun k hk => by
    rw [← Int.natCast_add, fB_nat, e, List.getElem?_append_right (by omega), Nat.add_sub_cancel_left, List.getElem?_append_left (by rw [bks_len]; exact hk), bks_at hk]
  have h0 : fB bs (pre.length : Int) = some (bkM g m cs 0) := by have := hf 0 np; simpa using this
  have hq : (bkM g m cs 0).q.toNat = nparts cs := Int.toNat_natCast _
  rw [run_good h0 (fun k hk => by
    rw [hq] at hk
    rw [hf k hk]
    exact decide_eq_true ⟨rfl, rfl, rfl, rfl⟩), hq]
  unfold bksM
  refine List.map_congr_left fun k hk => ?_
  rw [hf k (List.mem_range.mp hk)]; rfl
theorem bks6 (g n : Int) (cs : List Int) : ∀ b ∈ bksM g n cs, b.cs.length ≤ 6 ∧ b.g = g := fun b hb => by
  unfold bksM at hb
  obtain ⟨k, _, rfl⟩ := List.mem_map.mp hb
  exact ⟨by show ((cs.drop _).take 6).length ≤ 6; rw [List.length_take]; omega, rfl⟩
/-- the blocks of records with their generations -/
def hbl : Nat → List (Int × Rc) → List Bk
  | _, [] => []
  | n, p :: t => bksM p.1 n (cellsM p.2) ++ hbl (n + 1) t
theorem hbl_snoc (p : Int × Rc) : ∀ (t : List (Int × Rc)) (n : Nat), hbl n (t ++ [p]) = hbl n t ++ bksM p.1 ((n + t.length : Nat) : Int) (cellsM p.2)
  | [], n => by show bksM _ _ _ ++ [] = [] ++ _; rw [List.append_nil]; rfl
  | q :: t, n => by
    show bksM _ _ _ ++ hbl (n + 1) (t ++ [p]) = _
    rw [hbl_snoc p t (n + 1)]
    show _ = (bksM q.1 n (cellsM q.2) ++ hbl (n + 1) t) ++ _
    rw [List.append_assoc, List.length_cons, show n + 1 + t.length = n + (t.length + 1) by omega]
/-- the generations do not fall -/
def gchain : Option Int → List (Int × Rc) → Prop
  | _, [] => True
  | l, p :: t => okL l p.1 = true ∧ gchain (some p.1) t
theorem read_of : ∀ (t : List (Int × Rc)) (pre : List Bk) (m fuel : Nat) (least : Option Int), (∀ p ∈ t, goodM 30 p.2 = true) → gchain least t → t.length < fuel →
    readF (fB (pre ++ hbl m t)) fuel pre.length m least = (t.map (·.2), pre.length + (hbl m t).length)
  | [], pre, m, 0, least, _, _, hf => by simp at hf
  | [], pre, m, fuel + 1, least, _, _, _ => by
    have e : fB (pre ++ hbl m []) (pre.length : Int) = none := by rw [fB_nat]; show (pre ++ [])[_]? = none; simp
    rw [read_nil (run_none e)]; rfl
  | p :: t, pre, m, 0, least, _, _, hf => by simp at hf
  | p :: t, pre, m, fuel + 1, least, hg, hc, hf => by
    have hp := hg p List.mem_cons_self
    have hr := run_of (bs := pre ++ hbl m (p :: t)) (pre := pre) (post := hbl (m + 1) t) (g := p.1) (m := (m : Int)) (cs := cellsM p.2) rfl (cells_pos hp)
    have hcat := cat_bks p.1 m (cellsM p.2)
    have lb := bks_len p.1 m (cellsM p.2)
    have hn : 1 ≤ nparts (cellsM p.2) := by have := cells_pos hp; unfold nparts; omega
    cases eb : bksM p.1 m (cellsM p.2) with
    | nil => rw [eb] at lb; simp at lb; omega
    | cons b bs =>
      have hbg : b.g = p.1 := by
        have h0 := bks_at (g := p.1) (n := (m : Int)) (cs := cellsM p.2) (k := 0) (by omega)
        rw [eb] at h0
        have h0 := Option.some.inj h0
        rw [h0]; rfl
      rw [eb] at hr hcat lb
      have hre : rebM (catM (b :: bs)) = some p.2 := by rw [hcat]; exact reb_of hp
      have ih := read_of t (pre ++ bksM p.1 m (cellsM p.2)) (m + 1) fuel (some p.1) (fun q hq => hg q (List.mem_cons_of_mem _ hq)) hc.2 (by simpa using hf)
      rw [List.append_assoc] at ih
      have ep : pre ++ (bksM p.1 (m : Int) (cellsM p.2) ++ hbl (m + 1) t) = pre ++ hbl m (p :: t) := rfl
      rw [ep] at ih
      have el : (pre ++ bksM p.1 (m : Int) (cellsM p.2)).length = pre.length + (b :: bs).length := by rw [List.length_append, eb]
      rw [el] at ih
      rw [read_go hr (by rw [hbg]; exact hc.1) hre, hbg, ih]
      show (_, _) = (_, _)
      congr 1
      show _ = pre.length + (bksM p.1 (m : Int) (cellsM p.2) ++ hbl (m + 1) t).length
      rw [List.length_append, eb]; omega
/-- the greatest of lists with the same members -/
theorem topI_eq {d e : Int} {xs ys : List Int} (hx : xs ≠ []) (h : ∀ z, z ∈ xs ↔ z ∈ ys) : topI d xs = topI e ys := by
  have hy : ys ≠ [] := fun z => by
    cases xs with
    | nil => exact hx rfl
    | cons a t => have := (h a).mp List.mem_cons_self; rw [z] at this; cases this
  rcases topI_spec d xs with ⟨q, _⟩ | ⟨m1, u1⟩
  · exact (hx q).elim
  rcases topI_spec e ys with ⟨q, _⟩ | ⟨m2, u2⟩
  · exact (hy q).elim
  exact Int.le_antisymm (u2 _ ((h _).mp m1)) (u1 _ ((h _).mpr m2))
/-! ### what a crash leaves is read as a beginning -/
def Stop (f : Int → Option Bk) (pl m : Nat) (l : Option Int) : Prop := ∀ b bs, runF f pl m = b :: bs → okL l b.g = true → rebM (catM (b :: bs)) = none
inductive RdJ (f : Int → Option Bk) : Nat → Nat → Option Int → List Rc → Nat → Prop
  | stop {pl m : Nat} {l : Option Int} : Stop f pl m l → RdJ f pl m l [] pl
  | go {pl m P : Nat} {l : Option Int} {b : Bk} {bs : List Bk} {r : Rc} {R : List Rc} : runF f pl m = b :: bs → okL l b.g = true → rebM (catM (b :: bs)) = some r → RdJ f (pl + (b :: bs).length) (m + 1) (some b.g) R P → RdJ f pl m l (r :: R) P
theorem rd_of {f : Int → Option Bk} : ∀ (n pl m : Nat) (l : Option Int), (readF f n pl m l).1.length < n → RdJ f pl m l (readF f n pl m l).1 (readF f n pl m l).2
  | 0, pl, m, l, h => by simp at h
  | n + 1, pl, m, l, h => by
    cases e : runF f pl m with
    | nil =>
      rw [read_nil e]
      exact .stop fun b bs q => by rw [e] at q; cases q
    | cons b bs =>
      cases e2 : okL l b.g with
      | false =>
        rw [read_stop e e2]
        exact .stop fun b' bs' q ok => by rw [e] at q; cases q; rw [e2] at ok; cases ok
      | true =>
        cases e3 : rebM (catM (b :: bs)) with
        | none =>
          rw [read_bad e e3]
          exact .stop fun b' bs' q ok => by rw [e] at q; cases q; exact e3
        | some r =>
          rw [read_go e e2 e3] at h ⊢
          exact .go e e2 e3 (rd_of n _ _ _ (by simpa using h))
theorem read_len {f : Int → Option Bk} : ∀ (n pl m : Nat) (l : Option Int), pl + (readF f n pl m l).1.length ≤ (readF f n pl m l).2 ∧ ∀ k : Nat, pl + k < (readF f n pl m l).2 → (f ((pl : Int) + (k : Int))).isSome = true
  | 0, pl, m, l => ⟨Nat.le_refl _, fun k h => by have h : pl + k < pl := h; omega⟩
  | n + 1, pl, m, l => by
    cases e : runF f pl m with
    | nil => rw [read_nil e]; exact ⟨Nat.le_refl _, fun k h => by dsimp only at h; omega⟩
    | cons b bs =>
      cases e2 : okL l b.g with
      | false => rw [read_stop e e2]; exact ⟨Nat.le_refl _, fun k h => by dsimp only at h; omega⟩
      | true =>
        cases e3 : rebM (catM (b :: bs)) with
        | none => rw [read_bad e e3]; exact ⟨Nat.le_refl _, fun k h => by dsimp only at h; omega⟩
        | some r =>
          rw [read_go e e2 e3]
          obtain ⟨h1, h2⟩ := read_len (f := f) n (pl + (b :: bs).length) (m + 1) (some b.g)
          dsimp only at h1 h2 ⊢
          have lp : 1 ≤ (b :: bs).length := by simp
          refine ⟨by rw [List.length_cons (a := r)]; omega, fun k hk => ?_⟩
          by_cases q : k < (b :: bs).length
          · exact run_ne e k q
          · have := h2 (k - (b :: bs).length) (by omega)
            rw [show ((pl + (b :: bs).length : Nat) : Int) + ((k - (b :: bs).length : Nat) : Int) = (pl : Int) + (k : Int) by omega] at this
            exact this
theorem read_rd {K : PySem.W.Frag} {G : Hp} {s : DS} {f : Int → Option Bk} (hf : ∀ n, BvAt K G (lookM s n) (f n)) : RdJ f 0 0 none (readF f (s.kb.length + s.kf.length + 1) 0 0 none).1 (readF f (s.kb.length + s.kf.length + 1) 0 0 none).2 ∧
    (readF f (s.kb.length + s.kf.length + 1) 0 0 none).1.length ≤ (readF f (s.kb.length + s.kf.length + 1) 0 0 none).2 ∧ (readF f (s.kb.length + s.kf.length + 1) 0 0 none).2 ≤ s.kb.length + s.kf.length := by
  obtain ⟨h1, h2⟩ := read_len (f := f) (s.kb.length + s.kf.length + 1) 0 0 none
  have h3 := run_bound (place := ((0 : Nat) : Int)) (i := (readF f (s.kb.length + s.kf.length + 1) 0 0 none).2) hf (fun k hk => h2 k (by omega))
  exact ⟨rd_of _ _ _ _ (by omega), by omega, h3⟩
theorem run_inv {f : Int → Option Bk} {pl : Int} {m : Int} {b : Bk} {bs : List Bk} (h : runF f pl m = b :: bs) : f pl = some b ∧ (b :: bs).length = b.q.toNat ∧ ∀ k, k < b.q.toNat → okB b m k (f (pl + k)) = true := by
  cases h0 : f pl with
  | none => rw [run_none h0] at h; cases h
  | some b0 =>
    by_cases q : ∀ k, k < b0.q.toNat → okB b0 m k (f (pl + k)) = true
    · have e := run_good h0 q
      rw [h] at e
      have hl : (b :: bs).length = b0.q.toNat := by rw [e, List.length_map, List.length_range]
      have hb : b = b0 := by
        have z : (b :: bs)[0]? = some b := rfl
        have lt : 0 < b0.q.toNat := by rw [← hl]; simp
        rw [e, List.getElem?_map, List.getElem?_range lt] at z
        have z : (f (pl + ((0 : Nat) : Int))).getD b0 = b := Option.some.inj z
        rw [Int.natCast_zero, Int.add_zero, h0] at z
        exact z.symm
      subst hb
      exact ⟨rfl, hl, q⟩
    · have e : runF f pl m = [] := by unfold runF; rw [h0]; exact if_neg q
      rw [e] at h; cases h
theorem run_congr {f f' : Int → Option Bk} {pl : Int} {m : Int} {b : Bk} {bs : List Bk} (h : runF f pl m = b :: bs) (e : ∀ k : Nat, k < (b :: bs).length → f' (pl + k) = f (pl + k)) : runF f' pl m = b :: bs := by
  obtain ⟨h1, h2, h3⟩ := run_inv h
  have e0 : f' pl = some b := by
    have := e 0 (by simp)
    rw [Int.natCast_zero, Int.add_zero, h1] at this
    exact this
  rw [← h, run_good h1 h3, run_good e0 fun k hk => by rw [e k (by omega)]; exact h3 k hk]
  refine List.map_congr_left fun k hk => ?_
  rw [e k (by rw [h2]; exact List.mem_range.mp hk)]
theorem run_bks {f : Int → Option Bk} {pl : Int} {g m : Int} {cs : List Int} (h : 1 ≤ cs.length) (hf : ∀ k : Nat, k < nparts cs → f (pl + (k : Int)) = some (bkM g m cs k)) : runF f pl m = bksM g m cs := by
  have np : 1 ≤ nparts cs := by unfold nparts; omega
  have h0 : f pl = some (bkM g m cs 0) := by have := hf 0 np; simpa using this
  have hq : (bkM g m cs 0).q.toNat = nparts cs := Int.toNat_natCast _
  rw [run_good h0 (fun k hk => by
    rw [hq] at hk
    rw [hf k hk]
    exact decide_eq_true ⟨rfl, rfl, rfl, rfl⟩), hq]
  unfold bksM
  refine List.map_congr_left fun k hk => ?_
  rw [hf k (List.mem_range.mp hk)]; rfl
theorem rd_agree {f0 f1 : Int → Option Bk} : ∀ {pl m P0 : Nat} {l : Option Int} {R0 : List Rc}, RdJ f0 pl m l R0 P0 → (∀ n : Int, (pl : Int) ≤ n → n < P0 → f1 n = f0 n) → pl ≤ P0 ∧ ∃ l', Stop f0 P0 (m + R0.length) l' ∧ (l' = l ∨ ∃ n b, f0 n = some b ∧ l' = some b.g) ∧
    ∀ R1 P1, RdJ f1 pl m l R1 P1 → ∃ R', R1 = R0 ++ R' ∧ RdJ f1 P0 (m + R0.length) l' R' P1
  | pl, m, _, l, _, .stop hs, _ => ⟨Nat.le_refl _, l, hs, .inl rfl, fun R1 P1 h => ⟨R1, rfl, h⟩⟩
  | pl, m, P0, l, _, .go (b := b) (bs := bs) (r := r) (R := R) hr ok hreb h, e => by
    obtain ⟨h1, h2, h3⟩ := run_inv hr
    have ih1 := fun hh => rd_agree (f1 := f1) h hh
    have le : pl + (b :: bs).length ≤ P0 := (rd_agree (f1 := f0) h fun _ _ _ => rfl).1
    obtain ⟨_, l', hs, hl, hk⟩ := ih1 fun n q1 q2 => e n (by omega) q2
    have er : m + 1 + R.length = m + (r :: R).length := by rw [List.length_cons]; omega
    rw [er] at hs hk
    refine ⟨by omega, l', hs, ?_, fun R1 P1 h' => ?_⟩
    · rcases hl with q | q
      · exact .inr ⟨_, b, h1, q⟩
      · exact .inr q
    have run1 : runF f1 pl m = b :: bs := run_congr hr fun k hk => e _ (by omega) (by omega)
    cases h' with
    | stop hs' =>
      have := hs' b bs run1 ok
      rw [hreb] at this; cases this
    | go hr' ok' hreb' h'' =>
      rw [run1] at hr'
      cases hr'
      rw [hreb] at hreb'
      cases hreb'
      obtain ⟨R', e1, e2⟩ := hk _ _ h''
      exact ⟨R', by rw [e1]; rfl, e2⟩
def gts (g : Int) (t : List Rc) : List (Int × Rc) := t.map fun r => (g, r)
theorem hbl_all {g : Int} : ∀ {t : List Rc} {n : Nat} {b : Bk}, b ∈ hbl n (gts g t) → b.g = g
  | r :: t, n, b, h => by
    rcases List.mem_append.mp (show b ∈ bksM g n (cellsM r) ++ hbl (n + 1) (gts g t) from h) with m | m
    · exact (bks6 _ _ _ b m).2
    · exact hbl_all m
theorem rd_new {f0 f1 : Int → Option Bk} {g : Int} {P0 n0 kk : Nat} {l' : Option Int} {cs : List Bk} (hg : ∀ n b, f0 n = some b → b.g < g) (hs : Stop f0 P0 n0 l') (hl' : okL l' g = true)
    (h1 : ∀ n : Int, f1 n = f0 n ∨ f1 n = none ∨ ∃ (i : Nat) (b : Bk), n = (P0 : Int) + i ∧ cs[i]? = some b ∧ f1 n = some b) (h2 : ∀ i : Nat, i < kk → f1 ((P0 : Int) + i) = cs[i]?) (hc : ∀ b ∈ cs, b.g = g) :
    ∀ (t : List Rc) (pre : List Bk) (j : Nat) (l : Option Int) (R : List Rc) (P : Nat), cs = pre ++ hbl (n0 + j) (gts g t) → (l = l' ∧ pre = [] ∧ j = 0 ∨ l = some g) → (∀ r ∈ t, goodM 30 r = true) → RdJ f1 (P0 + pre.length) (n0 + j) l R P →
      R <+: t ∧ ∀ u, u <+: t → (pre ++ hbl (n0 + j) (gts g u)).length ≤ kk → u.length ≤ R.length := by
  intro t
  induction t with
  | nil => ?_
  | cons r t ih => ?_
  all_goals
    intro pre j l R P hcs hl hgd hrd
    have okg : okL l g = true := by
      rcases hl with ⟨q, _⟩ | q
      · rw [q]; exact hl'
      · rw [q]; exact decide_eq_true (Int.le_refl _)
    have old : ∀ b bs, runF f1 ((P0 + pre.length : Nat) : Int) ((n0 + j : Nat) : Int) = b :: bs → okL l b.g = true → f1 ((P0 + pre.length : Nat) : Int) = f0 ((P0 + pre.length : Nat) : Int) → rebM (catM (b :: bs)) = none := fun b bs hr ok hf => by
      obtain ⟨i1, i2, i3⟩ := run_inv hr
      have bg : b.g < g := hg _ b (by rw [← hf]; exact i1)
      rcases hl with ⟨q, q2, q3⟩ | q
      · subst q q2 q3
        have same : ∀ k : Nat, k < (b :: bs).length → f0 (((P0 + [].length : Nat) : Int) + k) = f1 (((P0 + [].length : Nat) : Int) + k) := fun k hk => by
          have o := i3 k (by omega)
          rcases h1 (((P0 + [].length : Nat) : Int) + k) with z | z | ⟨i, b', _, z2, z3⟩
          · exact z.symm
          · rw [z] at o; cases o
          · rw [z3] at o
            have o := (of_decide_eq_true o).1
            rw [hc b' (List.mem_of_getElem? z2)] at o
            omega
        have r0 := run_congr hr same
        exact hs b bs r0 ok
      · rw [q] at ok
        have ok : g ≤ b.g := of_decide_eq_true ok
        omega
  · cases hrd with
    | stop _ => exact ⟨List.prefix_refl _, fun u hu _ => hu.length_le⟩
    | @go _ _ _ _ b bs r R hr ok hreb h =>
      obtain ⟨i1, i2, i3⟩ := run_inv hr
      rcases h1 ((P0 + pre.length : Nat) : Int) with z | z | ⟨i, b', z1, z2, z3⟩
      · rw [old b bs hr ok z] at hreb; cases hreb
      · rw [z] at i1; cases i1
      · have ei : i = pre.length := by omega
        subst ei
        rw [hcs] at z2
        have : (pre ++ ([] : List Bk))[pre.length]? = none := by simp
        rw [show hbl (n0 + j) (gts g []) = [] from rfl, this] at z2; cases z2
  · have gr := hgd r List.mem_cons_self
    have cp := cells_pos gr
    have hcat := cat_bks g ((n0 + j : Nat) : Int) (cellsM r)
    have eh : hbl (n0 + j) (gts g (r :: t)) = bksM g ((n0 + j : Nat) : Int) (cellsM r) ++ hbl (n0 + (j + 1)) (gts g t) := rfl
    have lb := bks_len g ((n0 + j : Nat) : Int) (cellsM r)
    have csat : ∀ k, k < nparts (cellsM r) → cs[pre.length + k]? = some (bkM g ((n0 + j : Nat) : Int) (cellsM r) k) := fun k hk => by
      rw [hcs, List.getElem?_append_right (by omega), Nat.add_sub_cancel_left, eh, List.getElem?_append_left (by omega), bks_at hk]
    have ecs : cs = (pre ++ bksM g ((n0 + j : Nat) : Int) (cellsM r)) ++ hbl (n0 + (j + 1)) (gts g t) := by rw [hcs, eh, List.append_assoc]
    have epl : (pre ++ bksM g ((n0 + j : Nat) : Int) (cellsM r)).length = pre.length + nparts (cellsM r) := by rw [List.length_append, lb]
    -- whatever is read here is r
    cases hrd with
    | stop hst =>
      refine ⟨List.nil_prefix, fun u hu hk => ?_⟩
      cases u with
      | nil => exact Nat.le_refl _
      | cons r' u =>
        obtain ⟨v, hv⟩ := hu
        cases hv
        have hk : (pre ++ (bksM g ((n0 + j : Nat) : Int) (cellsM r) ++ hbl (n0 + (j + 1)) (gts g u))).length ≤ kk := hk
        rw [List.length_append, List.length_append, lb] at hk
        have run1 : runF f1 ((P0 + pre.length : Nat) : Int) ((n0 + j : Nat) : Int) = bksM g ((n0 + j : Nat) : Int) (cellsM r) := run_bks cp fun k hk2 => by
          have := h2 (pre.length + k) (by omega)
          rw [csat k hk2] at this
          rw [← this]; congr 1; omega
        cases eb : bksM g ((n0 + j : Nat) : Int) (cellsM r) with
        | nil => rw [eb] at lb; unfold nparts at lb; simp at lb; omega
        | cons b bs =>
          rw [eb] at run1 hcat
          have bg : b.g = g := (bks6 g ((n0 + j : Nat) : Int) (cellsM r) b (by rw [eb]; exact List.mem_cons_self)).2
          have := hst b bs run1 (by rw [bg]; exact okg)
          rw [hcat, reb_of gr] at this; cases this
    | @go _ _ _ _ b bs r1 R hr ok hreb h =>
      obtain ⟨i1, i2, i3⟩ := run_inv hr
      rcases h1 ((P0 + pre.length : Nat) : Int) with z | z | ⟨i, b', z1, z2, z3⟩
      · rw [old b bs hr ok z] at hreb; cases hreb
      · rw [z] at i1; cases i1
      · have ei : i = pre.length := by omega
        subst ei
        have np : 0 < nparts (cellsM r) := by unfold nparts; omega
        have c0 := csat 0 np
        rw [Nat.add_zero, z2] at c0
        have c0 := Option.some.inj c0
        rw [z3] at i1
        have i1 := Option.some.inj i1
        have eb : b = bkM g ((n0 + j : Nat) : Int) (cellsM r) 0 := i1.symm.trans c0
        have eq : b.q.toNat = nparts (cellsM r) := by rw [eb]; exact Int.toNat_natCast _
        have bg : b.g = g := by rw [eb]; rfl
        have run1 : runF f1 ((P0 + pre.length : Nat) : Int) ((n0 + j : Nat) : Int) = bksM g ((n0 + j : Nat) : Int) (cellsM r) := run_bks cp fun k hk2 => by
          have o := i3 k (by omega)
          rcases h1 (((P0 + pre.length : Nat) : Int) + k) with y | y | ⟨i', b2, y1, y2, y3⟩
          · rw [y] at o
            cases e0 : f0 (((P0 + pre.length : Nat) : Int) + k) with
            | none => rw [e0] at o; cases o
            | some b3 =>
              rw [e0] at o
              have o := (of_decide_eq_true o).1
              have := hg _ _ e0
              omega
          · rw [y] at o; cases o
          · have : i' = pre.length + k := by omega
            subst this
            rw [csat k hk2] at y2
            rw [y3, ← y2]
        rw [run1] at hr
        rw [← hr, hcat, reb_of gr] at hreb
        cases hreb
        have el : (b :: bs).length = nparts (cellsM r) := by rw [← hr, lb]
        rw [el, bg, show P0 + pre.length + nparts (cellsM r) = P0 + (pre ++ bksM g ((n0 + j : Nat) : Int) (cellsM r)).length by rw [epl]; omega] at h
        obtain ⟨a1, a2⟩ := ih (pre ++ bksM g ((n0 + j : Nat) : Int) (cellsM r)) (j + 1) (some g) R P ecs (.inr rfl) (fun x m => hgd x (List.mem_cons_of_mem _ m)) h
        refine ⟨by obtain ⟨v, hv⟩ := a1; exact ⟨v, by rw [← hv]; rfl⟩, fun u hu hk => ?_⟩
        cases u with
        | nil => exact Nat.zero_le _
        | cons r' u =>
          obtain ⟨v, hv⟩ := hu
          cases hv
          have := a2 u ⟨v, rfl⟩ (by
            have hk : (pre ++ (bksM g ((n0 + j : Nat) : Int) (cellsM r) ++ hbl (n0 + (j + 1)) (gts g u))).length ≤ kk := hk
            rw [← List.append_assoc] at hk; exact hk)
          simpa using this
/-- THE crash: what is read behind it is a beginning of what was read before and entered since, and has all whose blocks stand -/
theorem crash_read {f0 f1 : Int → Option Bk} {g : Int} {P0 kk : Nat} {R0 t : List Rc} (hrd : RdJ f0 0 0 none R0 P0) (hg : ∀ n b, f0 n = some b → b.g < g) (hgd : ∀ r ∈ t, goodM 30 r = true) (h0 : ∀ n : Int, n < P0 → f1 n = f0 n)
    (h1 : ∀ n : Int, f1 n = f0 n ∨ f1 n = none ∨ ∃ (i : Nat) (b : Bk), n = (P0 : Int) + i ∧ (hbl R0.length (gts g t))[i]? = some b ∧ f1 n = some b) (h2 : ∀ i : Nat, i < kk → f1 ((P0 : Int) + i) = (hbl R0.length (gts g t))[i]?)
    {R1 : List Rc} {P1 : Nat} (h : RdJ f1 0 0 none R1 P1) : R1 <+: R0 ++ t ∧ ∀ u, u <+: t → (hbl R0.length (gts g u)).length ≤ kk → R0.length + u.length ≤ R1.length := by
  obtain ⟨_, l', hs, hl, hk⟩ := rd_agree (f1 := f1) hrd fun n _ q => h0 n q
  rw [Nat.zero_add] at hs hk
  obtain ⟨R', e, h'⟩ := hk _ _ h
  have hl' : okL l' g = true := by
    rcases hl with q | ⟨n, b, q1, q2⟩
    · rw [q]; rfl
    · rw [q2]; exact decide_eq_true (Int.le_of_lt (hg _ _ q1))
  obtain ⟨a1, a2⟩ := rd_new hg hs hl' h1 h2 (fun b m => hbl_all m) t [] 0 l' R' P1 rfl (.inl ⟨rfl, rfl, rfl⟩) hgd h'
  subst e
  refine ⟨by obtain ⟨v, hv⟩ := a1; exact ⟨v, by rw [List.append_assoc, hv]⟩, fun u hu hk => ?_⟩
  have := a2 u hu hk
  rw [List.length_append]; omega
/-! ### k11: a disk with blocks of any kind -/
def OkV (K : PySem.W.Frag) (G : Hp) (v : V) : Prop := ∃ o : Option Bk, BvAt K G v o ∧ ∀ b, o = some b → okBk b
theorem OkV.ex {K : PySem.W.Frag} {G G' : Hp} {v : V} (h : OkV K G v) (e : Ex G G') : OkV K G' v := by
  obtain ⟨o, h1, h2⟩ := h
  exact ⟨o, h1.ex e, h2⟩
def Ik48 (kv : List (Key × V)) : Prop := ∀ p ∈ kv, ∃ n : Int, p.1 = .inl n ∧ 0 ≤ n ∧ n < 48
theorem Ik48.put {kv : List (Key × V)} (h : Ik48 kv) {n : Int} (v : V) (h0 : 0 ≤ n) (h1 : n < 48) : Ik48 (putK kv (.inl n) v) := by
  intro p m
  unfold putK at m
  split at m
  · obtain ⟨q, hq, rfl⟩ := List.mem_map.mp m
    split
    · exact h q hq
    · exact h q hq
  · rcases List.mem_append.mp m with e | e
    · exact h p e
    · rw [List.mem_singleton.mp e]; exact ⟨n, rfl, h0, h1⟩
theorem Ik48.puts : ∀ {ca : List (Int × V)} {kv : List (Key × V)}, Ik48 kv → (∀ q ∈ ca, 0 ≤ q.1 ∧ q.1 < 48) → Ik48 (ca.foldl putC kv)
  | [], _, h, _ => h
  | q :: ca, _, h, hq => Ik48.puts (ca := ca) (h.put _ (hq q List.mem_cons_self).1 (hq q List.mem_cons_self).2) fun x m => hq x (List.mem_cons_of_mem _ m)
theorem Ik48.fates : ∀ {zs : List ((Int × V) × Int)} {kv : List (Key × V)}, Ik48 kv → (∀ z ∈ zs, 0 ≤ z.1.1 ∧ z.1.1 < 48) → Ik48 (zs.foldl fateC kv)
  | [], _, h, _ => h
  | z :: zs, kv, h, hq => by
    have h0 := hq z List.mem_cons_self
    refine Ik48.fates (zs := zs) (kv := fateC kv z) ?_ fun x m => hq x (List.mem_cons_of_mem _ m)
    unfold fateC
    split
    · exact h.put _ h0.1 h0.2
    · split
      · exact h.put _ h0.1 h0.2
      · exact h
theorem Ik48.ik {kv : List (Key × V)} (h : Ik48 kv) : IntKs kv := fun p m => by
  obtain ⟨n, e, _⟩ := h p m
  exact ⟨n, e⟩
theorem Ik48.at {kv : List (Key × V)} (h : Ik48 kv) {n : Int} {v : V} (e : valV kv (.inl n) = some v) : 0 ≤ n ∧ n < 48 := by
  have m : n ∈ posKs kv := posKs_mem.mpr (by rw [e]; rfl)
  unfold posKs at m
  obtain ⟨q, hq, e2⟩ := List.mem_filterMap.mp m
  obtain ⟨n', e3, h1, h2⟩ := h q hq
  rw [e3] at e2
  cases e2
  exact ⟨h1, h2⟩
structure Q11 (K : PySem.W.Frag) (D : Addr) (M G : Hp) (p : Addr) (d : DA) (s : DS) : Prop where
  dr : Dr K M G p
  dk : DkAt D M G d s
  pc : p ≠ d.c
  b1 : AllB (OkV K G) s.kb
  b2 : ∀ q ∈ s.ca, OkV K G q.2 ∧ 0 ≤ q.1 ∧ q.1 < 48
  kf : s.kf = s.ca.foldl putC []
  kk : Ik48 s.kb
section
variable {K : PySem.W.Frag} {D : Addr} {M M' G G' : Hp} {p : Addr} {d : DA} {s : DS}
theorem Q11.ex (S : Q11 K D M G p d s) (e : Ex G G') : Q11 K D M G' p d s := ⟨S.dr.ex e, S.dk.ex e, S.pc, fun k v h => (S.b1 k v h).ex e, fun q m => ⟨(S.b2 q m).1.ex e, (S.b2 q m).2⟩, S.kf, S.kk⟩
theorem Q11.nes (S : Q11 K D M G p d s) : d.p ≠ p ∧ d.b ≠ p ∧ d.f ≠ p := by
  obtain ⟨xs, hp⟩ := S.dr.at9
  exact ⟨ne_k S.dk.op hp (fun z => nomatch z), ne_k S.dk.ob hp (fun z => nomatch z), ne_k S.dk.of hp (fun z => nomatch z)⟩
theorem Q11.ag (S : Q11 K D M G p d s) (e : Ex G G') (a : Ag p M M') (dr : Dr K M' G' p) : Q11 K D M' G' p d s := by
  obtain ⟨n1, n2, n3⟩ := S.nes
  have S2 := S.ex e
  exact ⟨dr, S2.dk.mv (a _ n1) (a _ n2) (a _ S.pc.symm) (a _ n3), S.pc, S2.b1, S2.b2, S.kf, S.kk⟩
theorem Q11.write (S : Q11 K D M G p d s) (e : Ex G G') {n : Int} {v : V} (h0 : 0 ≤ n) (h1 : n < 48) (hv : OkV K G' v) (dk : DkAt D M' G' d (wrS s n v)) (fr : Fr d M M') : Q11 K D M' G' p d (wrS s n v) := by
  obtain ⟨n1, n2, n3⟩ := S.nes
  obtain ⟨xs, hp⟩ := S.dr.at9
  have S2 := S.ex e
  refine ⟨S2.dr.mv9 ((fr p _ hp n1.symm n2.symm S.pc n3.symm).trans hp.symm), dk, S.pc, S2.b1, fun q m => ?_, ?_, S.kk⟩
  · rcases List.mem_append.mp m with m | m
    · exact S2.b2 q m
    · rw [List.mem_singleton.mp m]; exact ⟨hv, h0, h1⟩
  · show putK s.kf _ _ = (s.ca ++ [(n, v)]).foldl putC []
    rw [List.foldl_append, S.kf]; rfl
end
/-! ### _law_lay -/
abbrev s_law_lay : Stmt := top 50
abbrev n_law_lay : List Str := ["draws", "disk", "position", "number", "generation", "cells", "parts", "k", "block"]
theorem sc_law_lay : FnScope n_law_lay ["draws", "disk", "position", "number", "generation"] (defScope s_law_lay) := ⟨rfl, rfl, rfl, by decide +kernel, rfl, by decide +kernel, by decide +kernel⟩
structure LyP where
  p : Addr
  d : DA
  s : DS
  pos : Int
  num : Int
  gen : Int
def sp_law_lay (K : PySem.W.Frag) (D : Addr) : Sp := Sg (α := LyP) (fun x vs M G => vs = [.ref x.p, .ref x.d.p, .int x.pos, .int x.num, .int x.gen] ∧ Q11 K D M G x.p x.d x.s ∧ 0 ≤ x.pos ∧ 1 ≤ x.gen ∧ x.s.ca.length + x.s.kb.length ≤ 2000)
  (fun x M _ v M' G' => ∃ (s' : DS) (n : Nat), v = .int n ∧ n ≤ 8 ∧ Q11 K D M' G' x.p x.d s' ∧ s'.ca.length + s'.kb.length ≤ x.s.ca.length + x.s.kb.length + 8)
theorem ok_law_lay {P : Program} {w : World} {K : PySem.W.Frag} {mg : Str → Option Value} {base : Heap}
    {C_Disk : Addr} (T_Disk : Tx_Disk K mg C_Disk)
    {f : Addr} {fd : FuncData} (D : Dn K mg "_law_lay" s_law_lay ["draws", "disk", "position", "number", "generation"] f fd)
    (b_range : mg "range" = none)
    (b_tuple : mg "tuple" = none)
    (b_len : mg "len" = none)
    (c_Disk_write : CalM P w K mg base CX0 1 C_Disk "write" (sp_Disk_write K C_Disk))
    (c_law_changed : Cal P w K mg base CX0 3 "_law_changed" (sp_law_changed K))
    (c_law_cells : Cal P w K mg base CX0 32 "_law_cells" (sp_law_cells K))
    (c_law_record : Cal P w K mg base CX0 6 "_law_record" (sp_law_record K)) : Cal P w K mg base CX0 33 "_law_lay" (sp_law_lay K C_Disk) := by
  refine D.ok sc_law_lay (fun vs H Q E h => ?_) fun cdv A outer s H vs Q E hr h => ?_
  · obtain ⟨x, M, G, j, ⟨rfl, _⟩, _⟩ := h; rfl
  obtain ⟨⟨p, d, s, pos, num, gen⟩, M, G, j, ⟨rfl, S, h0, hg, hz⟩, k⟩ := h
  dsimp only at S h0 hg hz k
  refine ⟨_, (pss_cons (ps_set (i := 5) sc_law_lay.nd rfl (Or.inl rfl) (pe_cal c_law_cells hr (by first | decide | omega) (by rfl) (pa_cons (pe_cal c_law_record hr (by first | decide | omega) (by rfl) (pa_cons (pv 0) (pa_cons pe_int pa_nil))) pa_nil)))
(pss_cons (ps_set (i := 6) sc_law_lay.nd rfl (Or.inl rfl) (pe_op op_fdiv (pe_op (op_uAddK (K := K) rfl) (pe_callB (call_uLenK (K := K) rfl) (by rfl) b_len PySem.boot_len (pa_cons (pv 5) pa_nil)) pe_int) pe_int))
(pss_cons (ps_for PassesOwn.never rfl (pi_range1 (by rfl) b_range (pa_cons (pv 6) pa_nil)) (pg_name (i := 7) sc_law_lay.nd rfl (Or.inl rfl))
(pss_cons (ps_set (i := 8) sc_law_lay.nd rfl (Or.inl rfl) (pe_tup (pa_cons (pv 4) (pa_cons (pv 3) (pa_cons (pv 7) (pa_cons (pv 6) (pa_cons (pe_callTy (call_tupC (K := K) rfl) (by rfl) b_tuple bt_tuple (pa_cons (pe_slice (sl_uK (K := K) rfl) (pv 5) (po_some (pe_op op_uMul pe_int (pv 7))) (po_some (pe_op (op_uAddK (K := K) rfl) (pe_op op_uMul pe_int (pv 7)) pe_int))) pa_nil)) pa_nil)))))))
(pss_one (ps_if (pt_cmpR op_lt (pe_op (op_uAddK (K := K) rfl) (pv 2) (pv 7)) pe_int (nomark _))
(pss_one (ps_expr (pe_calM c_Disk_write T_Disk.cl hr (by first | decide | omega) (pv 1) (pa_cons (pe_op (op_uAddK (K := K) rfl) (pv 2) (pv 7)) (pa_cons (pe_cal c_law_changed hr (by first | decide | omega) (by rfl) (pa_cons (pv 0) (pa_cons (pv 8) pa_nil))) pa_nil)))))
pss_nil))))
(pss_one (ps_ret (pv 6)))))), ?_⟩
  walk_at "start"
  show spRecd K 2 _ _ _ _
  refine w_sg p j ⟨rfl, S.dr⟩ fun v M1 G1 H1 j1 e1 ⟨⟨rc, hv, r1, r2, r3⟩, d1, a1⟩ => ?_
  have r3 : (cellsM rc).length ≤ 42 := r3
  have S1 := S.ag e1 a1 d1
  walk_at "go"
  show spCl K 30 _ _ _ _
  refine w_sg (v, rc) j1 ⟨rfl, hv, r1, by dsimp only; omega, by dsimp only; omega⟩ fun v2 M2 G2 H2 j2 e2 ⟨em, c, ev, hc⟩ => ?_
  dsimp only at em hc
  subst em ev
  have S2 := S1.ex e2
  walk_at "go"
  refine w_lenL j2 (sl_of hc) ?_
  walk_at "go"
  have hpn : ((((cellsM rc).map V.int).length : Int) + 5) / 6 = (nparts (cellsM rc) : Int) := by rw [List.length_map]; unfold nparts; omega
  have pb : nparts (cellsM rc) ≤ 7 := by unfold nparts; omega
  rw [hpn]
  generalize hcs : cellsM rc = cs at *
  refine w_rng (fun i σ H => ∃ M3 G3 s3 x7 x8, J M3 G3 H ∧ Ex G2 G3 ∧ Q11 K C_Disk M3 G3 p d s3 ∧ s3.ca.length + s3.kb.length ≤ s.ca.length + s.kb.length + i ∧
    σ = [some (.ref p), some (.ref d.p), some (.int pos), some (.int num), some (.int gen), some (.ref c), some (.int (nparts cs)), x7, x8]) ⟨_, G2, s, _, _, j2, Same.refl _, S2, Nat.le_refl _, rfl⟩ ?_ ?_ (by omega) (by omega)
  · rintro i σ H hi ⟨M3, G3, s3, x7, x8, j3, e3, S3, z3, rfl⟩
    have hi' : i < nparts cs := by omega
    have il : 6 * i ≤ cs.length := by unfold nparts at hi'; omega
    walk_at "go"
    refine w_slL j3 (sl_of (e3 _ _ hc)) ?_
    rw [show (6 : Int) * (i : Int) = (i : Int) * 6 by omega, show (i : Int) * 6 + 6 = ((i : Int) + 1) * 6 by omega, cut_six il]
    refine w_new j3 (Nat.zero_le _) fun u G4 H4 j4 e4 hu _ => ?_
    walk_at "go"
    refine w_tupC (sl_mono j4.g (sl_of hu)) ?_
    refine w_new j4 (Nat.zero_le _) fun u2 G5 H5 j5 e5 hu2 _ => ?_
    walk_at "go"
    refine w_new j5 (by show 5 ≤ sizeLine; decide) fun t G6 H6 j6 e6 ht _ => ?_
    have S6 := S3.ex ((e4.trans e5).trans e6)
    have hb : BkAt K G6 (.ref t) ⟨gen, num, i, nparts cs, (cs.drop (6 * i)).take 6⟩ := ⟨t, u2, rfl, ht, st_of (e6 _ _ hu2)⟩
    walk_at "go"
    refine w_dec (fun c48 => ?_) (fun c48 => ?_)
    · walk_at "go"
      refine w_methM j6 S6.dk.op (no_Disk (by decide +kernel) (by decide +kernel) (by decide +kernel) (by decide +kernel)) ?_
      walk_at "go"
      refine w_sg (p, .ref t, ⟨gen, num, i, nparts cs, (cs.drop (6 * i)).take 6⟩) j6 ⟨rfl, S6.dr, hb, by dsimp only; rw [List.length_take]; omega, hg, by dsimp only; omega, by dsimp only; omega⟩ fun v7 M7 G7 H7 j7 e7 ⟨⟨b7, hb7, ok7⟩, d7, a7⟩ => ?_
      have S7 := S6.ag e7 a7 d7
      walk_at "go"
      have kfl : s3.kf.length ≤ s3.ca.length := by
        have := puts_len s3.ca []
        rw [S3.kf]; simpa using this
      refine w_sg (d, s3, pos + (i : Int), v7) j7 ⟨rfl, S7.dk, by dsimp only; omega, by dsimp only; omega⟩ fun v8 M8 G8 H8 j8 e8 ⟨_, dk8, fr8⟩ => ?_
      have S8 := S7.write e8 (by omega) c48 ⟨some b7, hb7.ex e8, fun b e => by cases e; exact ok7⟩ dk8 fr8
      walk_at "go"
      refine ⟨M8, G8, wrS s3 (pos + (i : Int)) v7, _, _, j8, (((e3.trans e4).trans e5).trans e6).trans (e7.trans e8), S8, ?_, rfl⟩
      show (s3.ca ++ [_]).length + s3.kb.length ≤ _
      rw [List.length_append]; simp only [List.length_cons, List.length_nil]; omega
    · walk_at "go"
      exact ⟨M3, G6, s3, _, _, j6, ((e3.trans e4).trans e5).trans e6, S6, by omega, rfl⟩
  · rintro σ H ⟨M3, G3, s3, x7, x8, j3, e3, S3, z3, rfl⟩
    walk_at "go"
    exact k _ _ _ _ j3 ((e1.trans e2).trans e3) ⟨s3, nparts cs, rfl, by omega, S3, by omega⟩
/-! ### _law_fill -/
abbrev s_law_fill : Stmt := top 51
abbrev n_law_fill : List Str := ["draws", "disk", "position", "number", "generation", "k", "parts"]
theorem sc_law_fill : FnScope n_law_fill ["draws", "disk"] (defScope s_law_fill) := ⟨rfl, rfl, rfl, by decide +kernel, rfl, by decide +kernel, by decide +kernel⟩
def sp_law_fill (K : PySem.W.Frag) (D : Addr) : Sp := Sg (α := Addr × DA × DS) (fun x vs M G => vs = [.ref x.1, .ref x.2.1.p] ∧ Q11 K D M G x.1 x.2.1 x.2.2 ∧ x.2.2.ca.length + x.2.2.kb.length ≤ 1000)
  (fun x M _ v M' G' => ∃ s' : DS, v = .non ∧ Q11 K D M' G' x.1 x.2.1 s' ∧ s'.ca.length + s'.kb.length ≤ x.2.2.ca.length + x.2.2.kb.length + 96)
theorem ok_law_fill {P : Program} {w : World} {K : PySem.W.Frag} {mg : Str → Option Value} {base : Heap}
    {C_Disk : Addr} (T_Disk : Tx_Disk K mg C_Disk)
    {f : Addr} {fd : FuncData} (D : Dn K mg "_law_fill" s_law_fill ["draws", "disk"] f fd)
    (b_range : mg "range" = none)
    (c_law_draw : Cal P w K mg base CX0 2 "_law_draw" (sp_law_draw K))
    (c_law_lay : Cal P w K mg base CX0 33 "_law_lay" (sp_law_lay K C_Disk)) : Cal P w K mg base CX0 34 "_law_fill" (sp_law_fill K C_Disk) := by
  refine D.ok sc_law_fill (fun vs H Q E h => ?_) fun cdv A outer s H vs Q E hr h => ?_
  · obtain ⟨x, M, G, j, ⟨rfl, _⟩, _⟩ := h; rfl
  obtain ⟨⟨p, d, s⟩, M, G, j, ⟨rfl, S, hz⟩, k⟩ := h
  dsimp only at S hz k
  refine ⟨_, (pss_cons (ps_set (i := 2) sc_law_fill.nd rfl (Or.inl rfl) pe_int)
(pss_cons (ps_set (i := 3) sc_law_fill.nd rfl (Or.inl rfl) pe_int)
(pss_cons (ps_set (i := 4) sc_law_fill.nd rfl (Or.inl rfl) (pe_op (op_uAddK (K := K) rfl) pe_int (pe_op op_mod (pe_cal c_law_draw hr (by first | decide | omega) (by rfl) (pa_cons (pv 0) pa_nil)) pe_int)))
(pss_one (ps_for PassesOwn.never rfl (pi_range1 (by rfl) b_range (pa_cons (pe_op (op_uAddK (K := K) rfl) pe_int (pe_op op_mod (pe_cal c_law_draw hr (by first | decide | omega) (by rfl) (pa_cons (pv 0) pa_nil)) pe_int)) pa_nil)) (pg_name (i := 5) sc_law_fill.nd rfl (Or.inl rfl))
(pss_cons (ps_set (i := 6) sc_law_fill.nd rfl (Or.inl rfl) (pe_cal c_law_lay hr (by first | decide | omega) (by rfl) (pa_cons (pv 0) (pa_cons (pv 1) (pa_cons (pv 2) (pa_cons (pv 3) (pa_cons (pv 4) pa_nil)))))))
(pss_cons (ps_set (i := 2) sc_law_fill.nd rfl (Or.inl rfl) (pe_op (op_uAddK (K := K) rfl) (pv 2) (pv 6)))
(pss_cons (ps_set (i := 3) sc_law_fill.nd rfl (Or.inl rfl) (pe_op (op_uAddK (K := K) rfl) (pv 3) pe_int))
(pss_cons (ps_if (pt_cmpR (op_uEqK (K := K) rfl hr) (pe_op op_mod (pe_cal c_law_draw hr (by first | decide | omega) (by rfl) (pa_cons (pv 0) pa_nil)) pe_int) pe_int (nomark _))
(pss_cons (ps_set (i := 2) sc_law_fill.nd rfl (Or.inl rfl) (pe_op op_mod (pe_cal c_law_draw hr (by first | decide | omega) (by rfl) (pa_cons (pv 0) pa_nil)) pe_int))
(pss_one (ps_set (i := 3) sc_law_fill.nd rfl (Or.inl rfl) (pe_op op_mod (pe_cal c_law_draw hr (by first | decide | omega) (by rfl) (pa_cons (pv 0) pa_nil)) pe_int))))
pss_nil)
(pss_one (ps_if (pt_cmpR (op_uEqK (K := K) rfl hr) (pe_op op_mod (pe_cal c_law_draw hr (by first | decide | omega) (by rfl) (pa_cons (pv 0) pa_nil)) pe_int) pe_int (nomark _))
(pss_one (ps_set (i := 4) sc_law_fill.nd rfl (Or.inl rfl) (pe_ix (ix_uK (K := K) rfl) (pe_lst (pa_cons pe_int (pa_cons pe_int (pa_cons pe_int (pa_cons pe_int (pa_cons pe_int (pa_cons pe_int pa_nil))))))) (pe_op op_mod (pe_cal c_law_draw hr (by first | decide | omega) (by rfl) (pa_cons (pv 0) pa_nil)) pe_int) (fun _ _ => rfl))))
pss_nil))))))))))), ?_⟩
  walk_at "start"
  refine use_draw j S.dr fun n1 M1 G1 H1 _ _ j1 e1 d1 a1 => ?_
  have S1 := S.ag e1 a1 d1
  walk_at "go"
  refine use_draw j1 S1.dr fun n2 M2 G2 H2 _ _ j2 e2 d2 a2 => ?_
  have S2 := S1.ag e2 a2 d2
  walk_at "go"
  have z1 := Int.emod_nonneg n1 (show (2 : Int) ≠ 0 by decide)
  have z2 := Int.emod_nonneg n2 (show (11 : Int) ≠ 0 by decide)
  have y2 := Int.emod_lt_of_pos n2 (show (0 : Int) < 11 by decide)
  refine w_rng (fun i σ H => ∃ M3 G3 s3 pos num gen x5 x6, J M3 G3 H ∧ Ex G G3 ∧ Q11 K C_Disk M3 G3 p d s3 ∧ s3.ca.length + s3.kb.length ≤ s.ca.length + s.kb.length + 8 * i ∧ 0 ≤ pos ∧ 1 ≤ gen ∧ σ = [some (.ref p), some (.ref d.p), some (.int pos), some (.int num), some (.int gen), x5, x6])
    ⟨_, G2, s, 0, 0, _, _, _, j2, e1.trans e2, S2, Nat.le_refl _, Int.le_refl _, (by show 1 ≤ 1 + n1 % 2; omega), rfl⟩ ?_ ?_ (by omega) (by omega)
  · rintro i σ H hi ⟨M3, G3, s3, pos, num, gen, x5, x6, j3, e3, S3, z3, hp, hg, rfl⟩
    walk_at "go"
    refine w_sg ⟨p, d, s3, pos, num, gen⟩ j3 ⟨rfl, S3, hp, hg, by dsimp only; omega⟩ fun v4 M4 G4 H4 j4 e4 ⟨s4, n4, ev, l4, S4, z4⟩ => ?_
    dsimp only at S4 z4
    subst ev
    walk_at "to"
    with_reducible refine w_seq ?_
    walk_at "to"
    with_reducible refine w_seq ?_
    walk_at "to"
    refine w_seqP (fun σ H => ∃ M5 G5 pos num, J M5 G5 H ∧ Ex G4 G5 ∧ Q11 K C_Disk M5 G5 p d s4 ∧ 0 ≤ pos ∧ σ = [some (.ref p), some (.ref d.p), some (.int pos), some (.int num), some (.int gen), some (.int i), some (.int n4)]) ?_ fun rest => ?_
    · rintro σ H ⟨M5, G5, pos5, num5, j5, e5, S5, hp5, rfl⟩
      walk_at "go"
      refine use_draw j5 S5.dr fun n6 M6 G6 H6 _ _ j6 e6 d6 a6 => ?_
      have S6 := S5.ag e6 a6 d6
      walk_at "go"
      refine w_dec (fun c => ?_) (fun c => ?_)
      · walk_at "go"
        refine w_new j6 (by show 6 ≤ sizeLine; decide) fun l7 G7 H7 j7 e7 hl7 _ => ?_
        walk_at "go"
        refine use_draw j7 (S6.dr.ex e7) fun n8 M8 G8 H8 _ _ j8 e8 d8 a8 => ?_
        have S8 := (S6.ex e7).ag e8 a8 d8
        walk_at "go"
        obtain ⟨g, hg8, hgl⟩ : ∃ g : Int, atI [V.int 1, V.int 2, V.int 3, V.int 4, V.int 30, V.int 31] (n8 % 6) = some (.int g) ∧ 1 ≤ g := by
          have := Int.emod_nonneg n8 (show (6 : Int) ≠ 0 by decide); have := Int.emod_lt_of_pos n8 (show (0 : Int) < 6 by decide)
          have q : n8 % 6 = 0 ∨ n8 % 6 = 1 ∨ n8 % 6 = 2 ∨ n8 % 6 = 3 ∨ n8 % 6 = 4 ∨ n8 % 6 = 5 := by omega
          rcases q with q | q | q | q | q | q <;> rw [q]
          · exact ⟨1, rfl, by decide⟩
          · exact ⟨2, rfl, by decide⟩
          · exact ⟨3, rfl, by decide⟩
          · exact ⟨4, rfl, by decide⟩
          · exact ⟨30, rfl, by decide⟩
          · exact ⟨31, rfl, by decide⟩
        refine w_ixL j8 (sl_of (e8 _ _ hl7)) hg8 ?_
        exact ⟨M8, G8, s4, pos5, num5, g, _, _, j8, (e3.trans e4).trans ((e5.trans e6).trans (e7.trans e8)), S8, by omega, hp5, hgl, rfl⟩
      · with_reducible refine w_next ?_
        exact ⟨M6, G6, s4, pos5, num5, gen, _, _, j6, (e3.trans e4).trans (e5.trans e6), S6, by omega, hp5, hg, rfl⟩
    · walk_at "go"
      refine use_draw j4 S4.dr fun n5 M5 G5 H5 _ _ j5 e5 d5 a5 => ?_
      have S5 := S4.ag e5 a5 d5
      walk_at "go"
      refine w_dec (fun c => ?_) (fun c => ?_)
      · walk_at "go"
        refine use_draw j5 S5.dr fun n6 M6 G6 H6 _ _ j6 e6 d6 a6 => ?_
        have S6 := S5.ag e6 a6 d6
        walk_at "go"
        refine use_draw j6 S6.dr fun n7 M7 G7 H7 _ _ j7 e7 d7 a7 => ?_
        have S7 := S6.ag e7 a7 d7
        have z6 := Int.emod_nonneg n6 (show (36 : Int) ≠ 0 by decide)
        with_reducible refine w_c ?_
        refine w_I (by decide) ?_
        with_reducible refine w_gName ?_
        exact rest _ _ ⟨M7, G7, n6 % 36, n7 % 9, j7, (e5.trans e6).trans e7, S7, z6, rfl⟩
      · with_reducible refine w_next ?_
        exact rest _ _ ⟨M5, G5, pos + n4, num + 1, j5, e5, S5, by omega, rfl⟩
  · rintro σ H ⟨M3, G3, s3, pos, num, gen, x5, x6, j3, e3, S3, z3, hp, hg, rfl⟩
    walk_at "go"
    exact k _ _ _ _ j3 e3 ⟨s3, rfl, S3, by omega⟩
/-! ### Disk.empty_cache -/
abbrev s_Disk_empty_cache : Stmt := inClass (top 31) 5
abbrev n_Disk_empty_cache : List Str := ["self"]
theorem sc_Disk_empty_cache : FnScope n_Disk_empty_cache ["self"] (defScope s_Disk_empty_cache) := ⟨rfl, rfl, rfl, by decide +kernel, rfl, by decide +kernel, by decide +kernel⟩
def sp_Disk_empty_cache (K : PySem.W.Frag) (C : Addr) : Sp := Sg (α := DA × DS) (fun x vs M G => vs = [.ref x.1.p] ∧ DkAt C M G x.1 x.2)
  (fun x M _ v M' G' => v = .non ∧ ∃ c f, DkAt C M' G' { x.1 with c := c, f := f } { x.2 with ca := [], kf := [] } ∧ Fr x.1 M M' ∧ M c = none ∧ M f = none)
theorem ok_Disk_empty_cache {P : Program} {w : World} {K : PySem.W.Frag} {mg : Str → Option Value} {base : Heap}
    {C_Disk : Addr} (T_Disk : Tx_Disk K mg C_Disk)
    {f : Addr} {fd : FuncData} (D : Dm K C_Disk "empty_cache" "Disk.empty_cache" s_Disk_empty_cache ["self"] f fd) : CalM P w K mg base CX0 1 C_Disk "empty_cache" (sp_Disk_empty_cache K C_Disk) := by
  refine D.ok sc_Disk_empty_cache (fun vs H Q E h => ?_) fun cdv A outer s H vs Q E hr h => ?_
  · obtain ⟨x, M, G, j, ⟨rfl, _⟩, _⟩ := h; rfl
  obtain ⟨⟨d, s⟩, M, G, j, ⟨rfl, hd⟩, k⟩ := h
  dsimp only at hd k
  refine ⟨_, (pss_cons (ps_fld (pv 0) (pe_lst pa_nil) rfl)
(pss_one (ps_fld (pv 0) pe_dnewK rfl))), ?_⟩
  walk_at "start"
  refine w_newM j (Nat.zero_le _) fun c H1 j1 nc gc => ?_
  walk_at "go"
  have pc : d.p ≠ c := ne_of_none hd.op nc
  refine w_setX j1 (upd_ne' hd.op pc) T_Disk.cl T_Disk.n_cache (by show 4 < 1000; decide) fun H2 j2 => ?_
  walk_at "go"
  refine w_newM j2 (Nat.zero_le _) fun f H3 j3 nf gf => ?_
  walk_at "go"
  have pf : d.p ≠ f := fun z => by subst z; rw [upd_same] at nf; cases nf
  refine w_setX j3 (upd_ne' upd_same pf) T_Disk.cl T_Disk.n_fresh (by rw [sf_Disk_cache]; show 4 < 1000; decide) fun H4 j4 => ?_
  walk_at "go"
  have fc : f ≠ c := fun q => by subst q; rw [upd_ne pf.symm, upd_same] at nf; cases nf
  have nf' : M f = none := by
    have h := nf
    rwa [upd_ne pf.symm, upd_ne fc] at h
  have pb : d.p ≠ d.b := ne_k hd.op hd.ob (fun z => nomatch z)
  have bc : d.b ≠ c := ne_of_none hd.ob nc
  have bf : d.b ≠ f := ne_of_none hd.ob nf'
  refine k _ _ _ _ j4 (Same.refl G) ⟨rfl, c, f, ⟨?_, ?_, ⟨[], ?_, .nil⟩, ?_, bf⟩, fun a o e n1 n2 n3 n4 => ?_, nc, nf'⟩
  · rw [sf_Disk_cache, sf_Disk_fresh]; exact upd_same
  · rw [upd_ne pb.symm, upd_ne bf, upd_ne pb.symm, upd_ne bc]; exact hd.ob
  · rw [upd_ne pc.symm, upd_ne fc.symm, upd_ne pc.symm, upd_same]
  · rw [upd_ne pf.symm, upd_same]
  · rw [upd_ne n1, upd_ne (ne_of_none e nf'), upd_ne n1, upd_ne (ne_of_none e nc)]; exact e
/-! ### Disk.sync -/
abbrev s_Disk_sync : Stmt := inClass (top 31) 3
abbrev n_Disk_sync : List Str := ["self", "position", "block"]
theorem sc_Disk_sync : FnScope n_Disk_sync ["self"] (defScope s_Disk_sync) := ⟨rfl, rfl, rfl, by decide +kernel, rfl, by decide +kernel, by decide +kernel⟩
def DkEnd (C : Addr) (d : DA) (s' : DS) (M : Hp) (v : V) (M' G' : Hp) : Prop := v = .non ∧ ∃ c f, DkAt C M' G' { d with c := c, f := f } s' ∧ Fr d M M' ∧ M c = none ∧ M f = none
def sp_Disk_sync (K : PySem.W.Frag) (C : Addr) : Sp := Sg (α := DA × DS) (fun x vs M G => vs = [.ref x.1.p] ∧ DkAt C M G x.1 x.2 ∧ x.2.kb.length + x.2.ca.length < 1000000)
  (fun x M _ v M' G' => DkEnd C x.1 ⟨x.2.ca.foldl putC x.2.kb, [], [], x.2.r⟩ M v M' G')
theorem ok_Disk_sync {P : Program} {w : World} {K : PySem.W.Frag} {mg : Str → Option Value} {base : Heap}
    {C_Disk : Addr} (T_Disk : Tx_Disk K mg C_Disk)
    {f : Addr} {fd : FuncData} (D : Dm K C_Disk "sync" "Disk.sync" s_Disk_sync ["self"] f fd)
    (c_Disk_empty_cache : CalM P w K mg base CX0 1 C_Disk "empty_cache" (sp_Disk_empty_cache K C_Disk)) : CalM P w K mg base CX0 2 C_Disk "sync" (sp_Disk_sync K C_Disk) := by
  refine D.ok sc_Disk_sync (fun vs H Q E h => ?_) fun cdv A outer s H vs Q E hr h => ?_
  · obtain ⟨x, M, G, j, ⟨rfl, _⟩, _⟩ := h; rfl
  obtain ⟨⟨d, s⟩, M, G, j, ⟨rfl, hd, z⟩, k⟩ := h
  dsimp only at hd z k
  refine ⟨_, (pss_cons (ps_for PassesOwn.never rfl (pi_list (pe_fld (pv 0) rfl)) (pg_tup rfl (pgs_cons (pg_name (i := 1) sc_Disk_sync.nd rfl (Or.inl rfl)) (pgs_cons (pg_name (i := 2) sc_Disk_sync.nd rfl (Or.inl rfl)) pgs_nil)))
(pss_one (ps_dput (hu_of hr) (pe_fld (pv 0) rfl) (pv 1) (pv 2) rfl)))
(pss_one (ps_expr (pe_calM0 c_Disk_empty_cache T_Disk.cl hr (by first | decide | omega) (pv 0))))), ?_⟩
  obtain ⟨xs, hc, hx⟩ := hd.oc
  have pb : d.p ≠ d.b := ne_k hd.op hd.ob (fun z => nomatch z)
  have bc : d.b ≠ d.c := ne_k hd.ob hc (fun z => nomatch z)
  have bf := hd.bf
  walk_at "start"
  refine w_fldM j hd.op T_Disk.cl T_Disk.n_cache fl_Disk_cache ?_
  refine w_forX (xs := xs) (fun i σ H => ∃ x1 x2, J (upd M d.b (.dK ((s.ca.take i).foldl putC s.kb))) G H ∧ σ = [some (.ref d.p), x1, x2]) ⟨_, _, by rw [List.take_zero, List.foldl_nil, upd_self hd.ob]; exact j, rfl⟩ ?_ ?_ ?_
  · rintro i σ H hi ⟨x1, x2, j, rfl⟩
    exact .inl (.inl (j.m _ _ (upd_ne' hc bc.symm)))
  · rintro i x σ H hi ⟨x1, x2, j, rfl⟩
    obtain ⟨t, n, v, rfl, ht, hq⟩ := hx.get hi
    refine w_gTup j (st_of ht) rfl ?_
    refine w_gCons (w_gName (w_gCons (w_gName (w_gNil ?_))))
    walk_at "go"
    refine w_fldM j (upd_ne' hd.op pb) T_Disk.cl T_Disk.n_blocks fl_Disk_blocks ?_
    walk_at "go"
    have l1 := puts_len (s.ca.take i) s.kb
    have l2 : (s.ca.take i).length ≤ s.ca.length := by rw [List.length_take]; omega
    refine w_putX j upd_same (by omega) fun H3 j3 => ?_
    refine ⟨_, _, ?_, rfl⟩
    rw [upd_upd] at j3
    rw [take_one' hq, List.foldl_append]
    exact j3
  · rintro σ H ⟨x1, x2, j, rfl⟩
    rw [hx.len, List.take_length] at j
    walk_at "go"
    have hd2 : DkAt C_Disk (upd M d.b (.dK (s.ca.foldl putC s.kb))) G d ⟨s.ca.foldl putC s.kb, s.ca, s.kf, s.r⟩ := ⟨upd_ne' hd.op pb, upd_same, ⟨xs, upd_ne' hc bc.symm, hx⟩, upd_ne' hd.of bf.symm, bf⟩
    refine w_methM j hd2.op (no_Disk (by decide +kernel) (by decide +kernel) (by decide +kernel) (by decide +kernel)) ?_
    walk_at "go"
    refine w_sg (d, _) j ⟨rfl, hd2⟩ fun v M1 G1 H1 j1 e1 ⟨_, c, f, h1, h2, h3, h4⟩ => ?_
    walk_at "go"
    refine k _ _ _ _ j1 e1 ⟨rfl, c, f, h1, fun a o e n1 n2 n3 n4 => h2 a o (upd_ne' e n2) n1 n2 n3 n4, ?_, ?_⟩
    · by_cases q : c = d.b
      · subst q; rw [upd_same] at h3; cases h3
      · rwa [upd_ne q] at h3
    · by_cases q : f = d.b
      · subst q; rw [upd_same] at h4; cases h4
      · rwa [upd_ne q] at h4
/-! ### Disk.look -/
abbrev s_Disk_look : Stmt := inClass (top 31) 6
abbrev n_Disk_look : List Str := ["self", "position"]
theorem sc_Disk_look : FnScope n_Disk_look ["self", "position"] (defScope s_Disk_look) := ⟨rfl, rfl, rfl, by decide +kernel, rfl, by decide +kernel, by decide +kernel⟩
def sp_Disk_look (K : PySem.W.Frag) (C : Addr) : Sp := Sg (α := Hp × DA × DS × Int) (fun x vs M G => vs = [.ref x.2.1.p, .int x.2.2.2] ∧ DkAt C x.1 G x.2.1 x.2.2.1 ∧ Sub x.1 M G)
  (fun x M _ v M' _ => v = lookM x.2.2.1 x.2.2.2 ∧ M' = M)
theorem ok_Disk_look {P : Program} {w : World} {K : PySem.W.Frag} {mg : Str → Option Value} {base : Heap}
    {C_Disk : Addr} (T_Disk : Tx_Disk K mg C_Disk)
    {f : Addr} {fd : FuncData} (D : Dm K C_Disk "look" "Disk.look" s_Disk_look ["self", "position"] f fd) : CalM P w K mg base CX0 1 C_Disk "look" (sp_Disk_look K C_Disk) := by
  refine D.ok sc_Disk_look (fun vs H Q E h => ?_) fun cdv A outer s H vs Q E hr h => ?_
  · obtain ⟨x, M, G, j, ⟨rfl, _⟩, _⟩ := h; rfl
  obtain ⟨⟨N, d, s, n⟩, M, G, j, ⟨rfl, hd, sb⟩, k⟩ := h
  dsimp only at hd sb k
  refine ⟨_, (pss_cons (ps_if (pt_cmp (pc_din (hu_of hr) (pv 1) (pe_fld (pv 0) rfl)))
(pss_one (ps_ret (pe_dget (hu_of hr) (pe_fld (pv 0) rfl) (pv 1) (fun _ _ => rfl))))
pss_nil)
(pss_one (ps_ret (pe_dget1 (hu_of hr) (pe_fld (pv 0) rfl) (pv 1) ⟨by rfl, by rfl, by rfl, by rfl⟩)))), ?_⟩
  walk_at "start"
  refine w_fldS j sb hd.op T_Disk.cl T_Disk.n_fresh fl_Disk_fresh ?_
  refine w_inX j (sb.hd hd.of) ?_
  refine w_bl ?_
  cases e : valV s.kf (.inl n : Key) with
  | some v =>
    refine w_T ?_
    walk_at "go"
    refine w_fldS j sb hd.op T_Disk.cl T_Disk.n_fresh fl_Disk_fresh ?_
    walk_at "go"
    refine w_getX j (sb.hd hd.of) e ?_
    exact k _ _ _ _ j (Same.refl G) ⟨by unfold lookM; rw [e]; rfl, rfl⟩
  | none =>
    refine w_F ?_
    walk_at "go"
    refine w_fldS j sb hd.op T_Disk.cl T_Disk.n_blocks fl_Disk_blocks ?_
    refine w_getA j (sb.hd hd.ob) ?_
    walk_at "go"
    refine w_getE j (sb.hd hd.ob) ?_
    exact k _ _ _ _ j (Same.refl G) ⟨by unfold lookM; rw [e]; rfl, rfl⟩
/-! ### operators between truth values and whole numbers -/
namespace BI
open PySem
theorem lt_bool_int (a : Bool) (b : Int) (u : Tok) : Gives (Builtin.«int.__lt__» ⟨[.bool a, .int b u], []⟩) (.val (Value.bool (decide ((if a = true then (1 : Int) else 0) < b)))) :=
  .of_wp fun M A E s Q h => by obtain ⟨hp, g, d, tk, os⟩ := s; wp_walk; exact ⟨_, rfl, h⟩
theorem gt_bool_int (a : Bool) (b : Int) (u : Tok) : Gives (Builtin.«int.__gt__» ⟨[.bool a, .int b u], []⟩) (.val (Value.bool (decide ((if a = true then (1 : Int) else 0) > b)))) :=
  .of_wp fun M A E s Q h => by obtain ⟨hp, g, d, tk, os⟩ := s; wp_walk; exact ⟨_, rfl, h⟩
theorem ge_bool_int (a : Bool) (b : Int) (u : Tok) : Gives (Builtin.«int.__ge__» ⟨[.bool a, .int b u], []⟩) (.val (Value.bool (decide ((if a = true then (1 : Int) else 0) ≥ b)))) :=
  .of_wp fun M A E s Q h => by obtain ⟨hp, g, d, tk, os⟩ := s; wp_walk; exact ⟨_, rfl, h⟩
theorem range_new_bool (b : Bool) (hsub : isSubtype (.type "range") (.type "range") = pure true) :
    Meets (Builtin.«range.__new__» ⟨[.type "range", .bool b], []⟩) (fun _ R s => R (.ok (.ret (Value.ref s.heap.objs.size))) { s with heap := s.heap.push { cls := Value.type "range", data := Data.fields #[Value.int 0 s.toks, Value.int (if b = true then 1 else 0) (s.toks + 1), Value.int 1 (s.toks + 1 + 1)] }, toks := s.toks + 1 + 1 + 1 }) :=
  .of_wp fun prog w A R s h => by obtain ⟨hp, g, d, tk, os⟩ := s; wp_walk; exact ⟨_, rfl, h⟩
section
variable {prog : Program} {w : World} {A : Around} {E : Value → Shared → Prop} {s : Shared} {Q : Value → Shared → Prop}
theorem c_lt {a : Bool} {b : Int} {u : Tok} (h : Q (.bool (decide ((if a = true then (1 : Int) else 0) < b))) s) : wpAny (model prog w) A (compareOp .Lt (.bool a) (.int b u)) Q E s :=
  SeqAt.rc_left_or (op := .Lt) rfl (typeIs_int s b u) (by decide) F.sub_int_bool F.slot_bool_lt (call_gives F.slot_bool_lt rfl F.entry_int_lt (F.args_int_lt_2 _ _) (lt_bool_int a b u) ⟨nofun, h⟩) (.inl rfl)
theorem c_gt {a : Bool} {b : Int} {u : Tok} (h : Q (.bool (decide ((if a = true then (1 : Int) else 0) > b))) s) : wpAny (model prog w) A (compareOp .Gt (.bool a) (.int b u)) Q E s :=
  SeqAt.rc_left_or (op := .Gt) rfl (typeIs_int s b u) (by decide) F.sub_int_bool F.slot_bool_gt (call_gives F.slot_bool_gt rfl F.entry_int_gt (F.args_int_gt_2 _ _) (gt_bool_int a b u) ⟨nofun, h⟩) (.inl rfl)
theorem c_le {a : Bool} {b : Int} {u : Tok} (h : Q (.bool (decide (b ≤ if a = true then (1 : Int) else 0))) s) : wpAny (model prog w) A (compareOp .LtE (.int b u) (.bool a)) Q E s :=
  SeqAt.rc_sub_first_or (op := .LtE) (typeIs_int s b u) rfl (by decide) F.sub_bool_int F.slot_bool_ge_refl (call_gives F.slot_bool_ge_refl rfl F.entry_int_ge (F.args_int_ge_2 _ _) (ge_bool_int a b u) ⟨nofun, h⟩) (.inl rfl)
theorem call_range_b {b : Bool} (h : Q (.ref s.heap.objs.size) { s with heap := s.heap.push { cls := .type "range", data := .fields #[.int 0 s.toks, .int (if b = true then 1 else 0) (s.toks + 1), .int 1 (s.toks + 1 + 1)] }, toks := s.toks + 1 + 1 + 1 }) :
    wpAny (model prog w) A (call (.type "range") [.bool b]) Q E s :=
  callType_new F.called_range (by decide) (F.typeCall_range_1 _) (F.newCall_range_1 _) (fun obj => F.initArgs_range_1 obj _) F.entry_range_new (range_new_bool b F.called_range.sub) ⟨⟨_, Heap.get?_push_size _ rfl, rfl⟩, h⟩
theorem getItem_b {t : Addr} {items : Array Value} {b : Bool} {j : Nat} {x : Value} (ht : IsTup s.heap t items)
    (hj : seqIndex? (if b = true then 1 else 0) items.size = some j) (hx : items[j]? = some x) (h : Q x s) : wpAny (model prog w) A (getItem (.ref t) (.bool b)) Q E s := by
  unfold getItem
  try with_reducible refine wpAny_holding ?_
  first | refine wpAny_bind (wpAny_pure ?_) | skip
  refine wpAny_bind (wpAny_sequenceKey ht.typeIs (by decide) ?_)
  refine wpAny_bind (wpAny_callSpecial?_slot (name := Str.ofString "__getitem__") ht.typeIs slot_tuple_getitem
    (wpAny_call_entry slot_tuple_getitem ht.typeIs entry_tuple_getitem ?_ (args_tuple_getitem _ _)))
  show wpAny _ _ (Builtin.Tuple.tupleItemsOf (.ref t) >>= _) _ _ s
  refine wpAny_bind (tupleItemsOf_ ht ?_)
  refine wpAny_bind (wpAny_typeOf (v := .bool b) (T := "bool") rfl ?_)
  rw [if_neg (by decide)]
  refine wpAny_bind (wpAny_specialOf (v := .bool b) (T := "bool") rfl F.slot_bool_index.lookup ?_)
  rw [if_neg (by simp)]
  refine wpAny_bind (wpAny_of_eq (a := if b = true then 1 else 0) rfl ?_)
  rw [if_neg (by cases b <;> simp)]
  simp only [hj, Option.bind_some, hx]
  exact wpAny_pure ⟨_, rfl, wpAny_pure h⟩
end
end BI
/-- a number, True and False counted as 1 and 0 -/
def iv : V → Option Int
  | .int i => some i
  | .bl b => some (if b = true then 1 else 0)
  | _ => none
section
variable {X : Cx}
/-- as by whole numbers, the left one, the right one perhaps True or False -/
def rIvL (f : Int → Int → V) : R2 := fun x y H Q => ∃ i j, iv x = some i ∧ y = .int j ∧ Q (f i j) H
def rIvR (f : Int → Int → V) : R2 := fun x y H Q => ∃ i j, x = .int i ∧ iv y = some j ∧ Q (f i j) H
theorem iv_cases {x : V} {i : Int} (h : iv x = some i) : x = .int i ∨ ∃ b, x = .bl b ∧ i = if b = true then 1 else 0 := by
  cases x with
  | int j => exact .inl (by rw [Option.some.inj h])
  | bl b => exact .inr ⟨b, rfl, (Option.some.inj h).symm⟩
  | non => cases h
  | str b => cases h
  | byt b => cases h
  | flt b => cases h
  | ref b => cases h
  | ty b => cases h
theorem op_ltB : OpR X (compareOp .Lt) (rIvL fun i j => .bl (decide (i < j))) := by
  intro pins s σ H x y v u Q I rx ry ⟨i, j, hx, ey, q⟩
  rcases iv_cases hx with rfl | ⟨b, rfl, rfl⟩
  · exact op_lt pins s σ H _ _ v u Q I rx ry ⟨i, j, rfl, ey, q⟩
  · subst ey
    cases (show v = Value.bool b from rx)
    obtain ⟨t, rfl⟩ := (show ∃ t, u = Value.int j t from ry)
    exact BI.c_lt ⟨.bl _, H, I, rfl, q⟩
theorem op_gtB : OpR X (compareOp .Gt) (rIvL fun i j => .bl (decide (i > j))) := by
  intro pins s σ H x y v u Q I rx ry ⟨i, j, hx, ey, q⟩
  rcases iv_cases hx with rfl | ⟨b, rfl, rfl⟩
  · exact op_gt pins s σ H _ _ v u Q I rx ry ⟨i, j, rfl, ey, q⟩
  · subst ey
    cases (show v = Value.bool b from rx)
    obtain ⟨t, rfl⟩ := (show ∃ t, u = Value.int j t from ry)
    exact BI.c_gt ⟨.bl _, H, I, rfl, q⟩
theorem op_leB : OpR X (compareOp .LtE) (rIvR fun i j => .bl (decide (i ≤ j))) := by
  intro pins s σ H x y v u Q I rx ry ⟨i, j, ex, hy, q⟩
  rcases iv_cases hy with rfl | ⟨b, rfl, rfl⟩
  · exact op_le pins s σ H _ _ v u Q I rx ry ⟨i, j, ex, rfl, q⟩
  · subst ex
    cases (show u = Value.bool b from ry)
    obtain ⟨t, rfl⟩ := (show ∃ t, v = Value.int i t from rx)
    exact BI.c_le ⟨.bl _, H, I, rfl, q⟩
theorem op_subB : OpR X (binaryOp .Sub) (rIvL fun i j => .int (i - j)) := by
  intro pins s σ H x y v u Q I rx ry ⟨i, j, hx, ey, q⟩
  rcases iv_cases hx with rfl | ⟨b, rfl, rfl⟩
  · exact op_sub pins s σ H _ _ v u Q I rx ry ⟨i, j, rfl, ey, q⟩
  · subst ey
    cases (show v = Value.bool b from rx)
    obtain ⟨t, rfl⟩ := (show ∃ t, u = Value.int j t from ry)
    exact PySem.IntBool.sub_bool_int ⟨.int _, H, I.tok _, ⟨_, rfl⟩, q⟩
def rIxTB (K : PySem.W.Frag) : R2 := fun x y H Q => ∃ a xs m v, x = .ref a ∧ iv y = some m ∧ SqT K H a xs ∧ atI xs m = some v ∧ Q v H
theorem ix_tupB {K : PySem.W.Frag} (hK : X.K = K) : IxR X (rIxTB K) := by
  subst hK
  intro value slice pins s σ H x y v u Q I rx ry h hs
  obtain ⟨p, xs, i, z, rfl, hy, hq, he, q⟩ := h
  rcases iv_cases hy with rfl | ⟨b, rfl, rfl⟩
  · exact ix_tup value slice pins s σ H _ _ v u Q I rx ry ⟨p, xs, i, z, rfl, rfl, hq, he, q⟩ hs
  · cases rx
    cases (show u = Value.bool b from ry)
    obtain ⟨its, r, pl, hz⟩ := I.tuple hq
    obtain ⟨j, h1, h2, h3, h4, h5⟩ := atI_get he
    obtain ⟨w, ew, rw'⟩ := r.get h2
    have hl := r.length
    have fin : EP X pins σ Q w s := ⟨z, H, I, rw', q⟩
    exact subscriptTail_builtinR (x := w) pl.typeIs slot_tuple_getitem.lookup
      (BI.getItem_b (j := j) (Q := fun r s' => r = w ∧ EP X pins σ Q r s') pl (by rw [List.size_toArray, ← hl]; exact h1) (by simpa using ew) ⟨rfl, fin⟩) hs
def iRngB (ta : TA) : TI := fun σ H R => ta σ H fun vs H1 => ∃ x j, vs = [x] ∧ iv x = some j ∧ -(2 ^ 62) ≤ j ∧ j < 2 ^ 62 ∧ R (Itr 0 j.toNat) H1
theorem pi_rangeB {tg : Expr} {a : Expr} {ta : TA} {p pos : Pos} (hg : Gl X "range") (hm : X.mg "range" = none) (ha : PA X [a] ta) (hs : starEach [a] X.env = [(false, eval a X.env)] := by rfl) : PI X tg (.Call (.Name "range" p) [a] [] pos) (iRngB ta) := by
  refine ⟨fun pins s σ H R I h => ?_⟩
  refine Call_ (ld_blt I hg hm boot_range (PyProof.Rows.callWith_type1 (thn (ha.run pos pins s σ H _ I h) fun us s1 ⟨vs, H1, I1, r1, q1⟩ => ?_) hs rfl))
  obtain ⟨x, j, e, hx, q1, q2, q⟩ := q1
  subst e
  cases r1 with
  | cons r rr =>
    cases rr
    rcases iv_cases hx with rfl | ⟨b, rfl, rfl⟩
    · obtain ⟨t, rfl⟩ := r
      exact call_range_1 (range_it I1 (by omega) (by omega) q1 q2 (by simpa using q))
    · cases r
      exact BI.call_range_b (range_it I1 (by omega) (by omega) q1 q2 (by simpa using q))
end
/-! ### the law's own reading of cells -/
def rcOf : V → Rc
  | .int i => .int i
  | .bl b => .bl b
  | _ => .non
def lwV (vs : List V) : Nat → Nat → Option (Rc × Nat)
  | 0, _ => none
  | n + 1, at_ => (vs[at_]?).bind fun t => (iv t).bind fun tag => if tag = 1 then some (.non, at_ + 1) else if tag = 2 then some (.bl false, at_ + 1) else if tag = 3 then some (.bl true, at_ + 1) else
    (vs[at_ + 1]?).bind fun nv => (iv nv).bind fun num => if tag = 0 then some (rcOf nv, at_ + 2) else if tag = 4 ∧ 0 ≤ num ∧ num < 31 then (WD[num.toNat]?).map fun s => (.str s, at_ + 2) else
      if tag ≠ 5 ∨ num < 0 ∨ num > (vs.length : Int) then none else (partsM (fun a => lwV vs n a) num.toNat (at_ + 2)).map fun y => (.tup y.1, y.2)
theorem parts_mono {f g : Nat → Option (Rc × Nat)} {D : Nat} (h : ∀ a r p, f a = some (r, p) → depthM r ≤ D → g a = some (r, p)) : ∀ (k a : Nat) (ps : List Rc) (p : Nat), partsM f k a = some (ps, p) → depthL ps ≤ D → partsM g k a = some (ps, p)
  | 0, a, ps, p, e, _ => e
  | k + 1, a, ps, p, e, hd => by
    rw [partsM] at e ⊢
    cases q : f a with
    | none => rw [q] at e; cases e
    | some x =>
      obtain ⟨r, p1⟩ := x
      rw [q] at e
      replace e : (partsM f k p1).map (fun y => (r :: y.1, y.2)) = some (ps, p) := e
      cases q2 : partsM f k p1 with
      | none => rw [q2] at e; cases e
      | some y =>
        obtain ⟨ps1, p2⟩ := y
        rw [q2] at e
        have e := Option.some.inj e
        cases e
        replace hd : max (depthM r) (depthL ps1) ≤ D := hd
        rw [h a r p1 q (by omega)]
        show (partsM g k p1).map (fun y => (r :: y.1, y.2)) = _
        rw [parts_mono h k p1 ps1 p2 q2 (by omega)]; rfl
theorem parts_all {f : Nat → Option (Rc × Nat)} {N : Nat} {P : Rc → Prop} (h : ∀ a r p, f a = some (r, p) → a < p ∧ p ≤ N ∧ P r) : ∀ (k a : Nat) (ps : List Rc) (p : Nat), partsM f k a = some (ps, p) → a ≤ N → a + k ≤ p ∧ p ≤ N ∧ ps.length = k ∧ ∀ r ∈ ps, P r
  | 0, a, ps, p, e, ha => by
    have e := Option.some.inj e
    cases e
    exact ⟨Nat.le_refl _, ha, rfl, fun r h => nomatch h⟩
  | k + 1, a, ps, p, e, ha => by
    rw [partsM] at e
    cases q : f a with
    | none => rw [q] at e; cases e
    | some x =>
      obtain ⟨r, p1⟩ := x
      rw [q] at e
      replace e : (partsM f k p1).map (fun y => (r :: y.1, y.2)) = some (ps, p) := e
      cases q2 : partsM f k p1 with
      | none => rw [q2] at e; cases e
      | some y =>
        obtain ⟨ps1, p2⟩ := y
        rw [q2] at e
        have e := Option.some.inj e
        cases e
        obtain ⟨h1, h2, h3⟩ := h a r p1 q
        obtain ⟨g1, g2, g3, g4⟩ := parts_all h k p1 ps1 p2 q2 h2
        refine ⟨by omega, g2, by rw [List.length_cons, g3], fun x hx => ?_⟩
        rcases List.mem_cons.mp hx with rfl | hx
        · exact h3
        · exact g4 x hx
theorem depthL_le {D : Nat} : ∀ {ps : List Rc}, (∀ r ∈ ps, depthM r ≤ D) → depthL ps ≤ D
  | [], _ => Nat.zero_le _
  | r :: ps, h => by
    have h1 := h r List.mem_cons_self
    have h2 := depthL_le (ps := ps) fun x m => h x (List.mem_cons_of_mem _ m)
    rw [depthL]; omega
/-- what a tag means, whatever the parts are read by -/
theorem lw_cases {vs : List V} {n at_ : Nat} {r : Rc} {p : Nat} (h : lwV vs (n + 1) at_ = some (r, p)) : ∃ t tag, vs[at_]? = some t ∧ iv t = some tag ∧
    ((tag = 1 ∧ r = .non ∧ p = at_ + 1) ∨ (tag = 2 ∧ r = .bl false ∧ p = at_ + 1) ∨ (tag = 3 ∧ r = .bl true ∧ p = at_ + 1) ∨
     ∃ nv num, vs[at_ + 1]? = some nv ∧ iv nv = some num ∧ ((tag = 0 ∧ r = rcOf nv ∧ p = at_ + 2) ∨ (tag = 4 ∧ 0 ≤ num ∧ num < 31 ∧ ∃ s, WD[num.toNat]? = some s ∧ r = .str s ∧ p = at_ + 2) ∨
       (tag = 5 ∧ 0 ≤ num ∧ num ≤ vs.length ∧ ∃ ps, partsM (fun a => lwV vs n a) num.toNat (at_ + 2) = some (ps, p) ∧ r = .tup ps))) := by
  rw [lwV] at h
  cases q : vs[at_]? with
  | none => rw [q] at h; cases h
  | some t =>
    rw [q] at h
    replace h := h
    simp only [Option.bind_some] at h
    cases q2 : iv t with
    | none => rw [q2] at h; cases h
    | some tag =>
      rw [q2] at h
      simp only [Option.bind_some] at h
      refine ⟨t, tag, rfl, q2, ?_⟩
      by_cases h1 : tag = 1
      · rw [if_pos h1] at h; cases h; exact .inl ⟨h1, rfl, rfl⟩
      rw [if_neg h1] at h
      by_cases h2 : tag = 2
      · rw [if_pos h2] at h; cases h; exact .inr (.inl ⟨h2, rfl, rfl⟩)
      rw [if_neg h2] at h
      by_cases h3 : tag = 3
      · rw [if_pos h3] at h; cases h; exact .inr (.inr (.inl ⟨h3, rfl, rfl⟩))
      rw [if_neg h3] at h
      refine .inr (.inr (.inr ?_))
      cases q3 : vs[at_ + 1]? with
      | none => rw [q3] at h; cases h
      | some nv =>
        rw [q3] at h
        simp only [Option.bind_some] at h
        cases q4 : iv nv with
        | none => rw [q4] at h; cases h
        | some num =>
          rw [q4] at h
          simp only [Option.bind_some] at h
          refine ⟨nv, num, rfl, q4, ?_⟩
          by_cases h0 : tag = 0
          · rw [if_pos h0] at h; cases h; exact .inl ⟨h0, rfl, rfl⟩
          rw [if_neg h0] at h
          by_cases h4 : tag = 4 ∧ 0 ≤ num ∧ num < 31
          · rw [if_pos h4] at h
            cases q5 : WD[num.toNat]? with
            | none => rw [q5] at h; cases h
            | some s => rw [q5] at h; cases h; exact .inr (.inl ⟨h4.1, h4.2.1, h4.2.2, s, rfl, rfl, rfl⟩)
          rw [if_neg h4] at h
          by_cases h5 : tag ≠ 5 ∨ num < 0 ∨ num > (vs.length : Int)
          · rw [if_pos h5] at h; cases h
          rw [if_neg h5] at h
          cases q5 : partsM (fun a => lwV vs n a) num.toNat (at_ + 2) with
          | none => rw [q5] at h; cases h
          | some y =>
            rw [q5] at h
            cases h
            exact .inr (.inr ⟨by omega, by omega, by omega, y.1, rfl, rfl⟩)
theorem lw_ok (vs : List V) : ∀ (n at_ : Nat) (r : Rc) (p : Nat), lwV vs n at_ = some (r, p) → at_ < p ∧ p ≤ vs.length ∧ depthM r ≤ n ∧ pureM r = true
  | 0, at_, r, p, h => by cases h
  | n + 1, at_, r, p, h => by
    obtain ⟨t, tag, h1, h2, h3⟩ := lw_cases h
    have l1 := (List.getElem?_eq_some_iff.mp h1).1
    rcases h3 with ⟨_, rfl, rfl⟩ | ⟨_, rfl, rfl⟩ | ⟨_, rfl, rfl⟩ | ⟨nv, num, h4, h5, h6⟩
    · exact ⟨by omega, by omega, Nat.zero_le _, rfl⟩
    · exact ⟨by omega, by omega, Nat.zero_le _, rfl⟩
    · exact ⟨by omega, by omega, Nat.zero_le _, rfl⟩
    have l2 := (List.getElem?_eq_some_iff.mp h4).1
    rcases h6 with ⟨_, rfl, rfl⟩ | ⟨_, _, _, s, hs, rfl, rfl⟩ | ⟨_, n0, n1, ps, hp, rfl⟩
    · have : depthM (rcOf nv) = 0 ∧ pureM (rcOf nv) = true := by cases nv <;> exact ⟨rfl, rfl⟩
      exact ⟨by omega, by omega, by omega, this.2⟩
    · exact ⟨by omega, by omega, Nat.zero_le _, decide_eq_true (List.mem_of_getElem? hs)⟩
    · obtain ⟨g1, g2, g3, g4⟩ := parts_all (N := vs.length) (P := fun r => depthM r ≤ n ∧ pureM r = true) (fun a r p e => by obtain ⟨x1, x2, x3, x4⟩ := lw_ok vs n a r p e; exact ⟨x1, x2, x3, x4⟩) _ _ _ _ hp (by omega)
      refine ⟨by omega, g2, ?_, ?_⟩
      · rw [depthM]; have := depthL_le (D := n) fun r m => (g4 r m).1; omega
      · rw [pureM]
        have : ∀ {qs : List Rc}, (∀ r ∈ qs, pureM r = true) → pureL qs = true := fun {qs} => by
          induction qs with
          | nil => intro _; rfl
          | cons x r ih => intro h; rw [pureL, h x List.mem_cons_self, ih fun y m => h y (List.mem_cons_of_mem _ m)]; rfl
        exact this fun r m => (g4 r m).2
theorem lw_q {cs : List Int} : ∀ (n at_ : Nat) (r : Rc) (p : Nat), lwV (cs.map V.int) n at_ = some (r, p) → ∀ m, depthM r ≤ m → qM cs m at_ = some (r, p)
  | 0, at_, r, p, h, _, _ => by cases h
  | n + 1, at_, r, p, h, m, hm => by
    obtain ⟨t, tag, h1, h2, h3⟩ := lw_cases h
    have gi : ∀ {i : Nat} {v : V} {z : Int}, (cs.map V.int)[i]? = some v → iv v = some z → cs[i]? = some z ∧ v = .int z := fun {i v z} e1 e2 => by
      rw [List.getElem?_map] at e1
      cases q : cs[i]? with
      | none => rw [q] at e1; cases e1
      | some y => rw [q] at e1; have e1 := Option.some.inj e1; subst e1; cases e2; exact ⟨rfl, rfl⟩
    obtain ⟨c1, rfl⟩ := gi h1 h2
    rw [qM_eq]
    unfold leafQ
    rw [c1]
    show (if tag = 0 then (cs[at_ + 1]?).map fun i => (Rc.int i, at_ + 2) else if tag = 1 then some (Rc.non, at_ + 1) else if tag = 2 then some (Rc.bl false, at_ + 1) else if tag = 3 then some (Rc.bl true, at_ + 1)
      else if tag = 4 then (wordQ cs (at_ + 1)).map fun s => (Rc.str s, at_ + 2) else if tag = 5 then tupQ cs (at_ + 1) (recQ cs m) else none) = some (r, p)
    rcases h3 with ⟨rfl, rfl, rfl⟩ | ⟨rfl, rfl, rfl⟩ | ⟨rfl, rfl, rfl⟩ | ⟨nv, num, h4, h5, h6⟩
    · rfl
    · rfl
    · rfl
    obtain ⟨c2, rfl⟩ := gi h4 h5
    rcases h6 with ⟨rfl, rfl, rfl⟩ | ⟨rfl, n0, n1, s, hs, rfl, rfl⟩ | ⟨rfl, n0, n1, ps, hp, rfl⟩
    · rw [if_pos rfl, c2]; rfl
    · show (wordQ cs (at_ + 1)).map _ = _
      unfold wordQ
      rw [c2]
      show (if 0 ≤ num ∧ num < 31 then WD[num.toNat]? else none).map _ = _
      rw [if_pos ⟨n0, n1⟩, hs]; rfl
    · show tupQ cs (at_ + 1) (recQ cs m) = _
      unfold tupQ
      rw [c2]
      have l2 := (List.getElem?_eq_some_iff.mp c2).1
      obtain ⟨g1, g2, g3, g4⟩ := parts_all (N := (cs.map V.int).length) (P := fun r => True) (fun a r p e => by obtain ⟨x1, x2, x3, x4⟩ := lw_ok _ n a r p e; exact ⟨x1, x2, trivial⟩) _ _ _ _ hp (by rw [List.length_map]; omega)
      rw [List.length_map] at g2
      show (if 0 ≤ num ∧ num ≤ (cs.length : Int) - ((at_ + 1 : Nat) + 1) then ((recQ cs m).bind fun f => (partsM f num.toNat (at_ + 1 + 1)).map fun y => (Rc.tup y.1, y.2)) else none) = _
      rw [if_pos ⟨n0, by omega⟩]
      rw [depthM] at hm
      cases m with
      | zero => omega
      | succ m =>
        show (partsM (fun a => qM cs m a) num.toNat (at_ + 1 + 1)).map _ = _
        rw [parts_mono (f := fun a => lwV (cs.map V.int) n a) (D := m) (fun a r p e hd => lw_q n a r p e m hd) _ _ ps p hp (by omega)]; rfl
theorem q_lw {cs : List Int} : ∀ (m at_ : Nat) (r : Rc) (p : Nat), qM cs m at_ = some (r, p) → at_ < p ∧ p ≤ cs.length ∧ depthM r ≤ m ∧ ∀ n, depthM r < n → lwV (cs.map V.int) n at_ = some (r, p) := by
  intro m
  induction m with
  | zero => ?_
  | succ m ih => ?_
  all_goals
    intro at_ r p h
    rw [qM_eq] at h
    unfold leafQ at h
    cases c1 : cs[at_]? with
    | none => rw [c1] at h; cases h
    | some tag =>
      rw [c1] at h
      have l1 := (List.getElem?_eq_some_iff.mp c1).1
      have v1 : (cs.map V.int)[at_]? = some (.int tag) := by rw [List.getElem?_map, c1]; rfl
      simp only [Option.bind_some] at h
      have lw1 : ∀ n, lwV (cs.map V.int) (n + 1) at_ = if tag = 1 then some (.non, at_ + 1) else if tag = 2 then some (.bl false, at_ + 1) else if tag = 3 then some (.bl true, at_ + 1) else
          ((cs.map V.int)[at_ + 1]?).bind fun nv => (iv nv).bind fun num => if tag = 0 then some (rcOf nv, at_ + 2) else if tag = 4 ∧ 0 ≤ num ∧ num < 31 then (WD[num.toNat]?).map fun s => (.str s, at_ + 2) else
            if tag ≠ 5 ∨ num < 0 ∨ num > ((cs.map V.int).length : Int) then none else (partsM (fun a => lwV (cs.map V.int) n a) num.toNat (at_ + 2)).map fun y => (.tup y.1, y.2) := fun n => by rw [lwV, v1]; rfl
      have lw2 : ∀ n num, cs[at_ + 1]? = some num → ¬ tag = 1 → ¬ tag = 2 → ¬ tag = 3 → lwV (cs.map V.int) (n + 1) at_ = if tag = 0 then some (.int num, at_ + 2) else if tag = 4 ∧ 0 ≤ num ∧ num < 31 then (WD[num.toNat]?).map fun s => (.str s, at_ + 2) else
            if tag ≠ 5 ∨ num < 0 ∨ num > ((cs.map V.int).length : Int) then none else (partsM (fun a => lwV (cs.map V.int) n a) num.toNat (at_ + 2)).map fun y => (.tup y.1, y.2) := fun n num hn a b c => by
        rw [lw1, if_neg a, if_neg b, if_neg c, List.getElem?_map, hn]; rfl
      by_cases h0 : tag = 0
      · rw [if_pos h0] at h
        cases c2 : cs[at_ + 1]? with
        | none => rw [c2] at h; cases h
        | some num =>
          rw [c2] at h
          cases h
          have l2 := (List.getElem?_eq_some_iff.mp c2).1
          refine ⟨by omega, by omega, Nat.zero_le _, fun n hn => ?_⟩
          cases n with
          | zero => omega
          | succ n => rw [lw2 n num c2 (by omega) (by omega) (by omega), if_pos h0]
      rw [if_neg h0] at h
      by_cases h1 : tag = 1
      · rw [if_pos h1] at h
        cases h
        refine ⟨by omega, by omega, Nat.zero_le _, fun n hn => ?_⟩
        cases n with
        | zero => omega
        | succ n => rw [lw1, if_pos h1]
      rw [if_neg h1] at h
      by_cases h2 : tag = 2
      · rw [if_pos h2] at h
        cases h
        refine ⟨by omega, by omega, Nat.zero_le _, fun n hn => ?_⟩
        cases n with
        | zero => omega
        | succ n => rw [lw1, if_neg h1, if_pos h2]
      rw [if_neg h2] at h
      by_cases h3 : tag = 3
      · rw [if_pos h3] at h
        cases h
        refine ⟨by omega, by omega, Nat.zero_le _, fun n hn => ?_⟩
        cases n with
        | zero => omega
        | succ n => rw [lw1, if_neg h1, if_neg h2, if_pos h3]
      rw [if_neg h3] at h
      by_cases h4 : tag = 4
      · rw [if_pos h4] at h
        unfold wordQ at h
        cases c2 : cs[at_ + 1]? with
        | none => rw [c2] at h; cases h
        | some num =>
          rw [c2] at h
          simp only [Option.bind_some] at h
          have l2 := (List.getElem?_eq_some_iff.mp c2).1
          by_cases hn : 0 ≤ num ∧ num < 31
          · rw [if_pos hn] at h
            cases q : WD[num.toNat]? with
            | none => rw [q] at h; cases h
            | some s =>
              rw [q] at h
              cases h
              refine ⟨by omega, by omega, Nat.zero_le _, fun n hn2 => ?_⟩
              cases n with
              | zero => omega
              | succ n => rw [lw2 n num c2 h1 h2 h3, if_neg h0, if_pos ⟨h4, hn⟩, q]; rfl
          · rw [if_neg hn] at h; cases h
      rw [if_neg h4] at h
      by_cases h5 : tag = 5
      · rw [if_pos h5] at h
        unfold tupQ at h
        cases c2 : cs[at_ + 1]? with
        | none => rw [c2] at h; cases h
        | some num =>
          rw [c2] at h
          simp only [Option.bind_some] at h
          have l2 := (List.getElem?_eq_some_iff.mp c2).1
          by_cases hg : 0 ≤ num ∧ num ≤ (cs.length : Int) - ((at_ + 1 : Nat) + 1)
          · rw [if_pos hg] at h
            first
              | (cases h; done)
              | (replace h : (partsM (fun a => qM cs m a) num.toNat (at_ + 1 + 1)).map (fun y => (Rc.tup y.1, y.2)) = some (r, p) := h
                 cases q : partsM (fun a => qM cs m a) num.toNat (at_ + 1 + 1) with
                 | none => rw [q] at h; cases h
                 | some y =>
                   obtain ⟨ps, p1⟩ := y
                   rw [q] at h
                   have h := Option.some.inj h
                   cases h
                   obtain ⟨g1, g2, g3, g4⟩ := parts_all (N := cs.length) (P := fun r => depthM r ≤ m) (fun a r p e => by obtain ⟨x1, x2, x3, x4⟩ := ih a r p e; exact ⟨x1, x2, x3⟩) _ _ _ _ q (by omega)
                   have dl := depthL_le g4
                   refine ⟨by omega, g2, by show 1 + depthL ps ≤ m + 1; omega, fun n hn2 => ?_⟩
                   replace hn2 : 1 + depthL ps < n := hn2
                   cases n with
                   | zero => omega
                   | succ n =>
                     rw [lw2 n num c2 h1 h2 h3, if_neg h0, if_neg (fun z => h4 z.1), if_neg (by rw [List.length_map]; omega)]
                     rw [parts_mono (f := fun a => qM cs m a) (g := fun a => lwV (cs.map V.int) n a) (D := n - 1) (fun a r p e hd => (ih a r p e).2.2.2 n (by omega)) _ _ ps p1 q (by omega)]; rfl)
          · rw [if_neg hg] at h; cases h
      · rw [if_neg h5] at h; cases h
/-- both sides agree on what is the cells of a record -/
theorem reb_lw {cs : List Int} {r : Rc} : rebM cs = some r ↔ (lwV (cs.map V.int) 35 0 = some (r, cs.length) ∧ depthM r ≤ 30) := by
  unfold rebM
  constructor
  · intro h
    cases q : qM cs 30 0 with
    | none => rw [q] at h; cases h
    | some x =>
      obtain ⟨r', p⟩ := x
      rw [q] at h
      replace h : (if p = cs.length then some r' else none) = some r := h
      split at h
      · rename_i e
        have h := Option.some.inj h
        subst h e
        obtain ⟨_, _, h3, h4⟩ := q_lw 30 0 r' _ q
        exact ⟨h4 35 (by omega), h3⟩
      · cases h
  · rintro ⟨h1, h2⟩
    rw [lw_q 35 0 r cs.length h1 30 h2]
    show (if cs.length = cs.length then some r else none) = some r
    rw [if_pos rfl]
/-! ### _law_parse -/
abbrev s_law_parse : Stmt := top 42
abbrev n_law_parse : List Str := ["cells", "at", "depth", "tag", "number", "parts", "k", "step"]
theorem sc_law_parse : FnScope n_law_parse ["cells", "at", "depth"] (defScope s_law_parse) := ⟨rfl, rfl, rfl, by decide +kernel, rfl, by decide +kernel, by decide +kernel⟩
def spPar (K : PySem.W.Frag) (n : Nat) : Sp := Sg (α := Addr × List V × Nat) (fun x vs _ G => vs = [.ref x.1, .int x.2.2, .int (32 - (n : Int))] ∧ SqL K G x.1 x.2.1 ∧ (∀ v ∈ x.2.1, CellV K G v) ∧ x.2.1.length ≤ 100000 ∧ n ≤ 32 ∧ ∀ v ∈ x.2.1, ∃ m, v = V.int m)
  (fun x M _ v M' G' => M' = M ∧ (match lwV x.2.1 n x.2.2 with | none => v = .non | some (r, p) => ∃ t u, v = .ref t ∧ G' t = some (.lst [u, .int (p : Nat)]) ∧ RcAt K G' u r))
def spParP (K : PySem.W.Frag) : Nat → Sp
  | 0 => spNone
  | n + 1 => spPar K n
def sp_law_parse (K : PySem.W.Frag) : Sp := spPar K 32
theorem w_ivLI {f : Int → Int → V} {m n : Int} {H : Hp} {Q : VK} (q : Q (f m n) H) : rIvL f (.int m) (.int n) H Q := ⟨m, n, rfl, rfl, q⟩
theorem w_ivL {f : Int → Int → V} {x : V} {m n : Int} {H : Hp} {Q : VK} (e : iv x = some m) (q : Q (f m n) H) : rIvL f x (.int n) H Q := ⟨m, n, e, rfl, q⟩
theorem w_ivR {f : Int → Int → V} {x : V} {m n : Int} {H : Hp} {Q : VK} (e : iv x = some m) (q : Q (f n m) H) : rIvR f (.int n) x H Q := ⟨n, m, rfl, e, q⟩
theorem w_eqB {K : PySem.W.Frag} {x : V} {m n : Int} {H : Hp} {Q : VK} (e : iv x = some m) (q : Q (.bl (decide (m = n))) H) : uEq K x (.int n) H Q := by
  rcases iv_cases e with rfl | ⟨b, rfl, rfl⟩
  · exact w_eqI q
  · refine .inr ⟨.bool b, .int n, .bl b, .int n, rfl, rfl, ?_⟩
    have h : PyData.eqv (.bool b) (.int n) = decide ((if b = true then (1 : Int) else 0) = n) := by
      rw [show PyData.eqv (.bool b) (.int n) = ((if b = true then (1 : Int) else 0) == n) from rfl]
      by_cases h : (if b = true then (1 : Int) else 0) = n
      · rw [decide_eq_true h, beq_iff_eq.mpr h]
      · rw [decide_eq_false h, beq_eq_false_iff_ne.mpr h]
    rw [h]; exact q
theorem w_neB {K : PySem.W.Frag} {x : V} {m n : Int} {H : Hp} {Q : VK} (e : iv x = some m) (q : Q (.bl (!decide (m = n))) H) : uNe K x (.int n) H Q := by
  rcases iv_cases e with rfl | ⟨b, rfl, rfl⟩
  · exact w_neI q
  · refine .inr ⟨.bool b, .int n, .bl b, .int n, rfl, rfl, ?_⟩
    have h : PyData.eqv (.bool b) (.int n) = decide ((if b = true then (1 : Int) else 0) = n) := by
      rw [show PyData.eqv (.bool b) (.int n) = ((if b = true then (1 : Int) else 0) == n) from rfl]
      by_cases h : (if b = true then (1 : Int) else 0) = n
      · rw [decide_eq_true h, beq_iff_eq.mpr h]
      · rw [decide_eq_false h, beq_eq_false_iff_ne.mpr h]
    rw [h]; exact q
def RngBD (g : TG) (t : TS) (D : Ends) (σ : L2.St) (vs : List V) (H : Hp) : Prop := ∃ x j, vs = [x] ∧ iv x = some j ∧ -(2 ^ 62) ≤ j ∧ j < 2 ^ 62 ∧ ∃ W : Nat → Nat → L2.St → Hp → Prop, (∃ m, W 0 m σ H) ∧ ∀ i m σ H, W i m σ H →
      ((Itr 0 j.toNat).stop i H ∧ D.nx σ H) ∨ ((Itr 0 j.toNat).go i H ∧ ∃ N : L2.St → Hp → Prop, (∀ σ' H', N σ' H' → ∃ m', m' < m ∧ W (i + 1) m' σ' H') ∧ ∀ x H', (Itr 0 j.toNat).yld i H x H' → g x σ H' fun σ2 H2 => t { D with nx := N, ct := N, bk := D.nx } σ2 H2)
theorem w_forRB {ta : TA} {g : TG} {t : TS} {D : Ends} {σ : L2.St} {H : Hp} (h : ta σ H fun vs H1 => RngBD g t D σ vs H1) : tFor (iRngB ta) g t D σ H := h
theorem w_rngB {g : TG} {t : TS} {D : Ends} {σ : L2.St} {H : Hp} {x : V} {m : Int} (hx : iv x = some m) (h : RngD g t D σ [.int m] H) : RngBD g t D σ [x] H := by
  obtain ⟨j, e, h1, h2, h3⟩ := h
  cases e
  exact ⟨x, m, rfl, hx, h1, h2, h3⟩
/-- isinstance(x, int) of a cell -/
theorem w_isiC {K : PySem.W.Frag} {G H : Hp} {x : V} {Q : VK} (h : CellV K G x) (e : Ex G H) (q : Q (.bl (iv x).isSome) H) : rIsi K [x, .ty "int"] H Q := by
  rcases h with h | ⟨a, rfl, ha⟩
  · cases x with
    | non => exact w_isi false ty_non (by rfl) q
    | bl b => exact w_isi true ty_bl (by rfl) q
    | int b => exact w_isi true ty_int (by rfl) q
    | str b => exact w_isi false ty_str (by rfl) q
    | byt b => cases h
    | flt b => cases h
    | ref b => cases h
    | ty b => cases h
  · exact w_isi false (ty_T (st_mono e ha)) (by rfl) q
theorem rc_of {K : PySem.W.Frag} {G : Hp} {x : V} {m : Int} (h : iv x = some m) : RcAt K G x (rcOf x) := by
  rcases iv_cases h with rfl | ⟨b, rfl, _⟩
  · exact .int _
  · exact .bl _
theorem aux_parse {P : Program} {w : World} {K : PySem.W.Frag} {mg : Str → Option Value} {base : Heap}
    {f : Addr} {fd : FuncData} (D : Dn K mg "_law_parse" s_law_parse ["cells", "at", "depth"] f fd)
    (b_tuple : mg "tuple" = none)
    (b_range : mg "range" = none)
    (b_len : mg "len" = none)
    {a_WORDS : Addr} (g_WORDS : ∃ u, mg "WORDS" = some u ∧ RelV (.ref a_WORDS) u) (k_WORDS : ∀ H, SqT K H a_WORDS [V.str "decided", V.str "read", V.str "away", V.str "busy", V.str "rows", V.str "prepare", V.str "prepared", V.str "stale", V.str "decide", V.str "missing", V.str "drop", V.str "finish", V.str "split", V.str "none", V.str "unknown", V.str "next", V.str "time", V.str "counter", V.str "table", V.str "members", V.str "follower", V.str "candidate", V.str "leader", V.str "ask", V.str "vote", V.str "copy", V.str "base", V.str "got", V.str "make", V.str "term", V.str "entry"])
    (n : Nat) (c_law_parse : Cal P w K mg base CX0 (n + 1) "_law_parse" (spParP K n)) : Cal P w K mg base CX0 (n + 2) "_law_parse" (spPar K n) := by
  refine D.ok sc_law_parse (fun vs H Q E h => ?_) fun cdv A outer s H vs Q E hr h => ?_
  · obtain ⟨x, M, G, j, ⟨rfl, _⟩, _⟩ := h; rfl
  obtain ⟨⟨a, xs, at_⟩, M, G, j, ⟨rfl, ha, hc, hz, hn, hi⟩, k⟩ := h
  dsimp only at ha hc hz hn hi k
  refine ⟨_, (pss_cons (ps_if (PW.pt (pw_or (pt_cmpR op_ge (pv 1) (pe_callB (call_uLenK (K := K) rfl) (by rfl) b_len PySem.boot_len (pa_cons (pv 0) pa_nil)) (nomark _)) (pw_or1 (pt_cmpR op_gtB (pv 2) pe_int (nomark _)))))
(pss_one (ps_ret pe_non))
pss_nil)
(pss_cons (ps_set (i := 3) sc_law_parse.nd rfl (Or.inl rfl) (pe_ix (ix_uK (K := K) rfl) (pv 0) (pv 1) (fun _ _ => rfl)))
(pss_cons (ps_if (PW.pt (pw_or (pt_cmpR (op_uEqK (K := K) rfl hr) (pv 3) pe_int (nomark _)) (pw_or (pt_cmpR (op_uEqK (K := K) rfl hr) (pv 3) pe_int (nomark _)) (pw_or1 (pt_cmpR (op_uEqK (K := K) rfl hr) (pv 3) pe_int (nomark _))))))
(pss_one (ps_ret (pe_lst (pa_cons (pe_ix (ix_uK (K := K) rfl) (pe_lst (pa_cons pe_non (pa_cons pe_bl (pa_cons pe_bl pa_nil)))) (pe_op op_subB (pv 3) pe_int) (fun _ _ => rfl)) (pa_cons (pe_op (op_uAddK (K := K) rfl) (pv 1) pe_int) pa_nil)))))
pss_nil)
(pss_cons (ps_if (pt_cmpR op_ge (pe_op (op_uAddK (K := K) rfl) (pv 1) pe_int) (pe_callB (call_uLenK (K := K) rfl) (by rfl) b_len PySem.boot_len (pa_cons (pv 0) pa_nil)) (nomark _))
(pss_one (ps_ret pe_non))
pss_nil)
(pss_cons (ps_set (i := 4) sc_law_parse.nd rfl (Or.inl rfl) (pe_ix (ix_uK (K := K) rfl) (pv 0) (pe_op (op_uAddK (K := K) rfl) (pv 1) pe_int) (fun _ _ => rfl)))
(pss_cons (ps_if (pt_cmpR (op_uEqK (K := K) rfl hr) (pv 3) pe_int (nomark _))
(pss_one (ps_ret (pe_lst (pa_cons (pv 4) (pa_cons (pe_op (op_uAddK (K := K) rfl) (pv 1) pe_int) pa_nil)))))
pss_nil)
(pss_cons (ps_if (PW.pt (pw_and (pt_cmpR (op_uEqK (K := K) rfl hr) (pv 3) pe_int (nomark _)) (pw_and1 (pt_chain op_leB op_ltB pe_int (pv 4) (pe_callB (call_uLenK (K := K) rfl) (by rfl) b_len PySem.boot_len (pa_cons (pe_gk (by rfl) g_WORDS) pa_nil))))))
(pss_one (ps_ret (pe_lst (pa_cons (pe_ix (ix_tupB (K := K) rfl) (pe_gk (by rfl) g_WORDS) (pv 4) (fun _ _ => rfl)) (pa_cons (pe_op (op_uAddK (K := K) rfl) (pv 1) pe_int) pa_nil)))))
pss_nil)
(pss_cons (ps_if (PW.pt (pw_or (pt_cmpR (op_uNeK (K := K) rfl hr) (pv 3) pe_int (nomark _)) (pw_or (pt_cmpR op_ltB (pv 4) pe_int (nomark _)) (pw_or1 (pt_cmpR op_gtB (pv 4) (pe_callB (call_uLenK (K := K) rfl) (by rfl) b_len PySem.boot_len (pa_cons (pv 0) pa_nil)) (nomark _))))))
(pss_one (ps_ret pe_non))
pss_nil)
(pss_cons (ps_set (i := 5) sc_law_parse.nd rfl (Or.inl rfl) (pe_lst pa_nil))
(pss_cons (ps_set (i := 1) sc_law_parse.nd rfl (Or.inl rfl) (pe_op (op_uAddK (K := K) rfl) (pv 1) pe_int))
(pss_cons (ps_for PassesOwn.never rfl (pi_rangeB (by rfl) b_range (pa_cons (pv 4) pa_nil)) (pg_name (i := 6) sc_law_parse.nd rfl (Or.inl rfl))
(pss_cons (ps_set (i := 7) sc_law_parse.nd rfl (Or.inl rfl) (pe_cal c_law_parse hr (by first | decide | omega) (by rfl) (pa_cons (pv 0) (pa_cons (pv 1) (pa_cons (pe_op (op_uAddK (K := K) rfl) (pv 2) pe_int) pa_nil)))))
(pss_cons (ps_if (pt_cmp (pc_isN (pv 7)))
(pss_one (ps_ret pe_non))
pss_nil)
(pss_cons (ps_expr (pe_bm PySem.F.plainAttrs_list PySem.F.slot_list_append PySem.F.type_list_append mt_append (pv 5) (pa_cons (pe_ix (ix_uK (K := K) rfl) (pv 7) pe_int (fun _ _ => rfl)) pa_nil)))
(pss_one (ps_set (i := 1) sc_law_parse.nd rfl (Or.inl rfl) (pe_ix (ix_uK (K := K) rfl) (pv 7) pe_int (fun _ _ => rfl))))))))
(pss_one (ps_ret (pe_lst (pa_cons (pe_callTy (call_tupC (K := K) rfl) (by rfl) b_tuple bt_tuple (pa_cons (pv 5) pa_nil)) (pa_cons (pv 1) pa_nil)))))))))))))))), ?_⟩
  have nofin : lwV xs n at_ = none → ∀ G' H, J M G' H → Ex G G' → Q .non H := fun e G' H j e1 => k _ _ _ _ j e1 ⟨rfl, by rw [e]⟩
  have fin : ∀ {r : Rc} {p : Nat} {u : V}, lwV xs n at_ = some (r, p) → ∀ G' H, J M G' H → Ex G G' → RcAt K G' u r → NewO (.lst [u, .int (p : Nat)]) [u, V.int (p : Nat)].length H Q := fun e G' H j e1 hr =>
    w_new j (by show 2 ≤ sizeLine; decide) fun t G2 H2 j2 e2 ht _ => k _ _ _ _ j2 (e1.trans e2) ⟨rfl, by rw [e]; exact ⟨t, _, rfl, ht, hr.ex e2⟩⟩
  walk_at "start"
  refine w_lenL j ha ?_
  walk_at "go"
  refine w_dec (fun h1 => ?_) (fun h1 => ?_)
  · walk_at "go"
    refine nofin ?_ _ _ j (Same.refl G)
    cases n with
    | zero => rfl
    | succ n => rw [lwV, List.getElem?_eq_none (by omega)]; rfl
  walk_at "go"
  refine w_ivLI ?_
  walk_at "go"
  cases n with
  | zero =>
    refine w_dT (by omega) ?_
    walk_at "go"
    exact nofin rfl _ _ j (Same.refl G)
  | succ n =>
    refine w_dF (by omega) ?_
    walk_at "go"
    have hl : at_ < xs.length := by omega
    have ht := List.getElem?_eq_getElem hl
    refine w_ixL j ha (atI_nat ht) ?_
    walk_at "go"
    have ct := hc _ (List.getElem_mem hl)
    have it := hi _ (List.getElem_mem hl)
    generalize xs[at_] = t at ht ct it
    cases q2 : iv t with
    | none =>
      obtain ⟨m, rfl⟩ := it
      cases q2
    | some tag =>
      have lw1 : lwV xs (n + 1) at_ = if tag = 1 then some (.non, at_ + 1) else if tag = 2 then some (.bl false, at_ + 1) else if tag = 3 then some (.bl true, at_ + 1) else
        (xs[at_ + 1]?).bind fun nv => (iv nv).bind fun num => if tag = 0 then some (rcOf nv, at_ + 2) else if tag = 4 ∧ 0 ≤ num ∧ num < 31 then (WD[num.toNat]?).map fun s => (.str s, at_ + 2) else
          if tag ≠ 5 ∨ num < 0 ∨ num > (xs.length : Int) then none else (partsM (fun a => lwV xs n a) num.toNat (at_ + 2)).map fun y => (.tup y.1, y.2) := by
        rw [lwV, ht]; simp only [Option.bind_some]; rw [q2]; rfl
      refine w_eqB q2 ?_
      walk_at "go"
      refine w_dec (fun t1 => ?_) (fun t1 => ?_)
      · walk_at "go"
        subst t1
        refine w_new j (by show 3 ≤ sizeLine; decide) fun L G1 H1 j1 e4 hL _ => ?_
        walk_at "go"
        refine w_ivL q2 ?_
        refine w_ixL (v := .non) j1 (sl_of hL) (by rfl) ?_
        walk_at "go"
        exact fin (r := .non) (u := .non) (p := at_ + 1) (by rw [lw1]; rfl) _ _ j1 e4 .non
      rw [if_neg t1] at lw1
      walk_at "go"
      refine w_eqB q2 ?_
      walk_at "go"
      refine w_dec (fun t2 => ?_) (fun t2 => ?_)
      · walk_at "go"
        subst t2
        refine w_new j (by show 3 ≤ sizeLine; decide) fun L G1 H1 j1 e4 hL _ => ?_
        walk_at "go"
        refine w_ivL q2 ?_
        refine w_ixL (v := (.bl false)) j1 (sl_of hL) (by rfl) ?_
        walk_at "go"
        exact fin (r := (.bl false)) (u := (.bl false)) (p := at_ + 1) (by rw [lw1]; rfl) _ _ j1 e4 (.bl _)
      rw [if_neg t2] at lw1
      walk_at "go"
      refine w_eqB q2 ?_
      walk_at "go"
      refine w_dec (fun t3 => ?_) (fun t3 => ?_)
      · walk_at "go"
        subst t3
        refine w_new j (by show 3 ≤ sizeLine; decide) fun L G1 H1 j1 e4 hL _ => ?_
        walk_at "go"
        refine w_ivL q2 ?_
        refine w_ixL (v := (.bl true)) j1 (sl_of hL) (by rfl) ?_
        walk_at "go"
        exact fin (r := (.bl true)) (u := (.bl true)) (p := at_ + 1) (by rw [lw1]; rfl) _ _ j1 e4 (.bl _)
      rw [if_neg t3] at lw1
      walk_at "go"
      refine w_lenL j ha ?_
      walk_at "go"
      refine w_dec (fun h2 => ?_) (fun h2 => ?_)
      · walk_at "go"
        exact nofin (by rw [lw1, List.getElem?_eq_none (by omega)]; rfl) _ _ j (Same.refl G)
      walk_at "go"
      have hl2 : at_ + 1 < xs.length := by omega
      have hn2 := List.getElem?_eq_getElem hl2
      refine w_ixL j ha (atI_nat (j := at_ + 1) hn2) ?_
      walk_at "go"
      have cn := hc _ (List.getElem_mem hl2)
      have im := hi _ (List.getElem_mem hl2)
      generalize xs[at_ + 1] = nv at hn2 cn im
      rw [hn2] at lw1
      simp only [Option.bind_some] at lw1
      cases q3 : iv nv with
      | none =>
        obtain ⟨m, rfl⟩ := im
        cases q3
      | some num =>
        rw [q3] at lw1
        simp only [Option.bind_some] at lw1
        refine w_eqB q2 ?_
        walk_at "go"
        refine w_dec (fun t0 => ?_) (fun t0 => ?_)
        · walk_at "go"
          rw [if_pos t0] at lw1
          exact fin (r := rcOf nv) (p := at_ + 2) lw1 _ _ j (Same.refl G) (rc_of q3)
        rw [if_neg t0] at lw1
        walk_at "go"
        refine w_eqB q2 ?_
        walk_at "go"
        refine w_dec (fun t4 => ?_) (fun t4 => ?_)
        · walk_at "go"
          refine w_ivR q3 ?_
          refine w_bl ?_
          have not5 : ¬ tag = 5 := by omega
          refine w_dec (fun n0 => ?_) (fun n0 => ?_)
          · walk_at "go"
            refine w_lenT (xs := WD.map V.str) j (k_WORDS G) ?_
            refine w_ivL q3 ?_
            walk_at "go"
            show if decide (num < ((31 : Nat) : Int)) = true then _ else _
            refine w_dec (fun n1 => ?_) (fun n1 => ?_)
            · walk_at "go"
              rw [if_pos ⟨t4, n0, by omega⟩] at lw1
              obtain ⟨m, rfl⟩ := Int.eq_ofNat_of_zero_le n0
              have hl3 : m < WD.length := by show m < 31; omega
              have e3 := List.getElem?_eq_getElem hl3
              refine ⟨_, WD.map V.str, (m : Int), .str WD[m], rfl, q3, k_WORDS _, atI_nat (by rw [List.getElem?_map, e3]; rfl), ?_⟩
              walk_at "go"
              exact fin (r := .str WD[m]) (p := at_ + 2) (by rw [lw1, show ((m : Nat) : Int).toNat = m from rfl, e3]; rfl) _ _ j (Same.refl G) (.str _)
            · walk_at "go"
              rw [if_neg (fun z => n1 (by omega)), if_pos (.inl not5)] at lw1
              refine w_neB q2 ?_
              walk_at "go"
              refine w_nF not5 ?_
              walk_at "go"
              exact nofin lw1 _ _ j (Same.refl G)
          · walk_at "go"
            rw [if_neg (fun z => n0 z.2.1), if_pos (.inl not5)] at lw1
            refine w_neB q2 ?_
            walk_at "go"
            refine w_nF not5 ?_
            walk_at "go"
            exact nofin lw1 _ _ j (Same.refl G)
        rw [if_neg (fun z => t4 z.1)] at lw1
        walk_at "go"
        refine w_neB q2 ?_
        walk_at "go"
        refine w_decN (fun t5 => ?_) (fun t5 => ?_)
        · walk_at "go"
          rw [if_pos (.inl t5)] at lw1
          exact nofin lw1 _ _ j (Same.refl G)
        walk_at "go"
        refine w_ivL q3 ?_
        walk_at "go"
        refine w_dec (fun n0 => ?_) (fun n0 => ?_)
        · walk_at "go"
          rw [if_pos (.inr (.inl n0))] at lw1
          exact nofin lw1 _ _ j (Same.refl G)
        walk_at "go"
        refine w_lenL j ha ?_
        refine w_ivL q3 ?_
        walk_at "go"
        refine w_dec (fun n1 => ?_) (fun n1 => ?_)
        · walk_at "go"
          rw [if_pos (.inr (.inr n1))] at lw1
          exact nofin lw1 _ _ j (Same.refl G)
        rw [if_neg (by omega)] at lw1
        walk_at "go"
        refine w_newM j (Nat.zero_le _) fun L H2 j2 nL gL => ?_
        walk_at "go"
        refine w_forRB ?_
        walk_at "go"
        refine w_rngB q3 ?_
        refine w_rng (fun q σ H => ∃ G2 vs rs pl x6 x7, J (upd M L (.lst vs)) G2 H ∧ Ex G G2 ∧ RcsAt K G2 vs rs ∧ rs.length = q ∧ partsM (fun a => lwV xs n a) q (at_ + 2) = some (rs, pl) ∧ σ = [some (.ref a), some (.int (pl : Nat)), some (.int (32 - ((n + 1 : Nat) : Int))), some t, some nv, some (.ref L), x6, x7])
          ⟨G, [], [], at_ + 2, _, _, j2, Same.refl _, .nil, rfl, rfl, rfl⟩ ?_ ?_ (by omega) (by omega)
        · rintro q σ H hq ⟨G2, vs, rs, pl, x6, x7, j3, e3, hrs, hl, hp, rfl⟩
          walk_at "go"
          show spPar K n _ _ _ _
          refine w_sg (a, xs, pl) j3 ⟨by show [V.ref a, .int pl, V.int (32 - ((n + 1 : Nat) : Int) + 1)] ++ [] = [V.ref a, .int pl, .int (32 - (n : Int))]; rw [show 32 - ((n + 1 : Nat) : Int) + 1 = 32 - (n : Int) by omega]; rfl, sl_mono e3 ha, fun v m => (hc v m).ex e3, hz, by omega, hi⟩ fun v M3 G3 H3 j4 e4 ⟨em, hv⟩ => ?_
          subst em
          dsimp only at hv
          cases q5 : lwV xs n pl with
          | none =>
            rw [q5] at hv
            cases hv
            walk_at "go"
            refine w_dT rfl ?_
            walk_at "go"
            refine nofin ?_ _ _ (show J M G3 H3 from ?_) (e3.trans e4)
            · rw [lw1, partsM_bad hp q5 (by omega)]; rfl
            · have j5 := j4.drop L
              rwa [show del (upd M L _) L = M from by
                funext b
                by_cases q : b = L
                · subst q; rw [del_same, nL]
                · rw [del_ne q, upd_ne q]] at j5
          | some y =>
            obtain ⟨r, p⟩ := y
            rw [q5] at hv
            obtain ⟨T, u, rfl, hT, hr⟩ := hv
            walk_at "go"
            refine w_dF (fun z => nomatch z) ?_
            walk_at "go"
            refine ⟨ty_listU j4, ?_⟩
            walk_at "go"
            refine w_ixL j4 (sl_of hT) (by rfl) ?_
            walk_at "go"
            refine w_appendU j4 (by rw [hrs.len]; omega) fun H5 j5 => ?_
            walk_at "go"
            refine w_ixL j5 (sl_of hT) (by rfl) ?_
            walk_at "go"
            refine ⟨G3, _, rs ++ [r], p, _, _, j5, e3.trans e4, (hrs.ex e4).snoc hr, by rw [List.length_append, hl]; rfl, ?_, rfl⟩
            rw [partsM_snoc, hp]
            show (lwV xs n pl).map _ = _
            rw [q5]; rfl
        · rintro σ H ⟨G2, vs, rs, pl, x6, x7, j3, e3, hrs, hl, hp, rfl⟩
          walk_at "go"
          refine w_tupC (xs := vs) (.inl (.inl (j3.m _ _ upd_same))) (w_new j3 (Nat.zero_le _) fun T G4 H4 j4 e4 hT _ => ?_)
          walk_at "go"
          have j6 := j4.drop L
          rw [show del (upd M L (.lst vs)) L = M from by
                funext b
                by_cases q : b = L
                · subst q; rw [del_same, nL]
                · rw [del_ne q, upd_ne q]] at j6
          exact fin (r := .tup rs) (p := pl) (by rw [lw1, hp]; rfl) _ _ j6 (e3.trans e4) (.tup (st_of hT) (hrs.ex e4))
theorem ok_law_parse {P : Program} {w : World} {K : PySem.W.Frag} {mg : Str → Option Value} {base : Heap}
    {f : Addr} {fd : FuncData} (D : Dn K mg "_law_parse" s_law_parse ["cells", "at", "depth"] f fd)
    (b_tuple : mg "tuple" = none)
    (b_range : mg "range" = none)
    (b_len : mg "len" = none)
    {a_WORDS : Addr} (g_WORDS : ∃ u, mg "WORDS" = some u ∧ RelV (.ref a_WORDS) u) (k_WORDS : ∀ H, SqT K H a_WORDS [V.str "decided", V.str "read", V.str "away", V.str "busy", V.str "rows", V.str "prepare", V.str "prepared", V.str "stale", V.str "decide", V.str "missing", V.str "drop", V.str "finish", V.str "split", V.str "none", V.str "unknown", V.str "next", V.str "time", V.str "counter", V.str "table", V.str "members", V.str "follower", V.str "candidate", V.str "leader", V.str "ask", V.str "vote", V.str "copy", V.str "base", V.str "got", V.str "make", V.str "term", V.str "entry"]) : Cal P w K mg base CX0 34 "_law_parse" (sp_law_parse K) := by
  have all : ∀ n, Cal P w K mg base CX0 (n + 2) "_law_parse" (spPar K n) := fun n => by
    induction n with
    | zero => exact aux_parse D b_tuple b_range b_len g_WORDS k_WORDS 0 (D.cal ⟨fun _ _ _ _ h => h.elim, fun _ _ _ _ _ _ _ _ _ _ _ _ _ h => h.elim⟩)
    | succ n ih => exact aux_parse D b_tuple b_range b_len g_WORDS k_WORDS (n + 1) ih
  exact all 32
/-! ### _law_rebuilt -/
abbrev s_law_rebuilt : Stmt := top 44
abbrev n_law_rebuilt : List Str := ["cells", "step"]
theorem sc_law_rebuilt : FnScope n_law_rebuilt ["cells"] (defScope s_law_rebuilt) := ⟨rfl, rfl, rfl, by decide +kernel, rfl, by decide +kernel, by decide +kernel⟩
def lawReb (xs : List V) : Option Rc := (lwV xs 32 0).bind fun x => if x.2 = xs.length then some x.1 else none
def sp_law_rebuilt (K : PySem.W.Frag) : Sp := Sg (α := Addr × List V) (fun x vs _ G => vs = [.ref x.1] ∧ SqL K G x.1 x.2 ∧ (∀ v ∈ x.2, CellV K G v) ∧ x.2.length ≤ 100000 ∧ ∀ v ∈ x.2, ∃ m, v = V.int m)
  (fun x M _ v M' G' => M' = M ∧ (match lawReb x.2 with | none => v = .non | some r => ∃ t u, v = .ref t ∧ G' t = some (.lst [u]) ∧ RcAt K G' u r))
theorem ok_law_rebuilt {P : Program} {w : World} {K : PySem.W.Frag} {mg : Str → Option Value} {base : Heap}
    {f : Addr} {fd : FuncData} (D : Dn K mg "_law_rebuilt" s_law_rebuilt ["cells"] f fd)
    (b_len : mg "len" = none)
    (c_law_parse : Cal P w K mg base CX0 34 "_law_parse" (sp_law_parse K)) : Cal P w K mg base CX0 35 "_law_rebuilt" (sp_law_rebuilt K) := by
  refine D.ok sc_law_rebuilt (fun vs H Q E h => ?_) fun cdv A outer s H vs Q E hr h => ?_
  · obtain ⟨x, M, G, j, ⟨rfl, _⟩, _⟩ := h; rfl
  obtain ⟨⟨a, xs⟩, M, G, j, ⟨rfl, ha, hc, hz, hi⟩, k⟩ := h
  dsimp only at ha hc hz hi k
  refine ⟨_, (pss_cons (ps_set (i := 1) sc_law_rebuilt.nd rfl (Or.inl rfl) (pe_cal c_law_parse hr (by first | decide | omega) (by rfl) (pa_cons (pv 0) (pa_cons pe_int (pa_cons pe_int pa_nil)))))
(pss_cons (ps_if (PW.pt (pw_or (pt_cmp (pc_isN (pv 1))) (pw_or1 (pt_cmpR (op_uNeK (K := K) rfl hr) (pe_ix (ix_uK (K := K) rfl) (pv 1) pe_int (fun _ _ => rfl)) (pe_callB (call_uLenK (K := K) rfl) (by rfl) b_len PySem.boot_len (pa_cons (pv 0) pa_nil)) (nomark _)))))
(pss_one (ps_ret pe_non))
pss_nil)
(pss_one (ps_ret (pe_lst (pa_cons (pe_ix (ix_uK (K := K) rfl) (pv 1) pe_int (fun _ _ => rfl)) pa_nil)))))), ?_⟩
  walk_at "start"
  show spPar K 32 _ _ _ _
  refine w_sg (a, xs, 0) j ⟨rfl, ha, hc, hz, Nat.le_refl _, hi⟩ fun v M3 G3 H3 j4 e4 ⟨em, hv⟩ => ?_
  subst em
  dsimp only at hv
  cases q5 : lwV xs 32 0 with
  | none =>
    rw [q5] at hv
    cases hv
    walk_at "go"
    refine w_dT rfl ?_
    refine w_T ?_
    walk_at "go"
    exact k _ _ _ _ j4 e4 ⟨rfl, by unfold lawReb; rw [q5]; rfl⟩
  | some y =>
    obtain ⟨r, p⟩ := y
    rw [q5] at hv
    obtain ⟨T, u, rfl, hT, hr⟩ := hv
    have lr : lawReb xs = if p = xs.length then some r else none := by unfold lawReb; rw [q5]; rfl
    walk_at "go"
    refine w_dF (fun z => nomatch z) ?_
    walk_at "go"
    refine w_ixL j4 (sl_of hT) (by rfl) ?_
    walk_at "go"
    refine w_lenL j4 (sl_mono e4 ha) ?_
    walk_at "go"
    refine w_decN (fun h => ?_) (fun h => ?_)
    · walk_at "go"
      exact k _ _ _ _ j4 e4 ⟨rfl, by rw [lr, if_neg (by omega)]⟩
    · walk_at "go"
      refine w_ixL j4 (sl_of hT) (by rfl) ?_
      walk_at "go"
      exact w_new j4 (by show 1 ≤ sizeLine; decide) fun t G5 H5 j5 e5 ht _ => k _ _ _ _ j5 (e4.trans e5) ⟨rfl, by rw [lr, if_pos (by omega)]; exact ⟨t, u, rfl, ht, hr.ex e5⟩⟩
/-! ### _law_part -/
abbrev s_law_part : Stmt := top 45
abbrev n_law_part : List Str := ["disk", "position", "first", "k", "block"]
theorem sc_law_part : FnScope n_law_part ["disk", "position", "first", "k"] (defScope s_law_part) := ⟨rfl, rfl, rfl, by decide +kernel, rfl, by decide +kernel, by decide +kernel⟩
/-- the block's cells, if it is the k-th one beside b0 -/
def partV (b0 : Bk) (k : Nat) : Option Bk → Option (List Int)
  | none => none
  | some b => if b.g = b0.g ∧ b.n = b0.n ∧ b.p = k ∧ b.q = b0.q then some b.cs else none
def sp_law_part (K : PySem.W.Frag) (D : Addr) : Sp := Sg (α := Hp × DA × DS × (Int → Option Bk) × Int × Bk × Nat × V) (fun x vs M G => vs = [.ref x.2.1.p, .int x.2.2.2.2.1, x.2.2.2.2.2.2.2, .int x.2.2.2.2.2.2.1] ∧ DkAt D x.1 G x.2.1 x.2.2.1 ∧ Sub x.1 M G ∧ (∀ n, BvAt K G (lookM x.2.2.1 n) (x.2.2.2.1 n)) ∧ BkAt K G x.2.2.2.2.2.2.2 x.2.2.2.2.2.1)
  (fun x M _ v M' G' => M' = M ∧ (match partV x.2.2.2.2.2.1 x.2.2.2.2.2.2.1 (x.2.2.2.1 x.2.2.2.2.1) with | none => v = .non | some cs => ∃ t, v = .ref t ∧ G' t = some (.lst (cs.map V.int))))
theorem ok_law_part {P : Program} {w : World} {K : PySem.W.Frag} {mg : Str → Option Value} {base : Heap}
    {C_Disk : Addr} (T_Disk : Tx_Disk K mg C_Disk)
    {f : Addr} {fd : FuncData} (D : Dn K mg "_law_part" s_law_part ["disk", "position", "first", "k"] f fd)
    (b_list : mg "list" = none)
    (c_Disk_look : CalM P w K mg base CX0 1 C_Disk "look" (sp_Disk_look K C_Disk)) : Cal P w K mg base CX0 2 "_law_part" (sp_law_part K C_Disk) := by
  refine D.ok sc_law_part (fun vs H Q E h => ?_) fun cdv A outer s H vs Q E hr h => ?_
  · obtain ⟨x, M, G, j, ⟨rfl, _⟩, _⟩ := h; rfl
  obtain ⟨⟨N, d, s, f, pos, b0, kk, fv⟩, M, G, j, ⟨rfl, hd, sb, hf, h0⟩, k⟩ := h
  dsimp only at hd sb hf h0 k
  obtain ⟨t0, u0, rfl, ht0, hu0⟩ := h0
  refine ⟨_, (pss_cons (ps_set (i := 4) sc_law_part.nd rfl (Or.inl rfl) (pe_calM c_Disk_look T_Disk.cl hr (by first | decide | omega) (pv 0) (pa_cons (pv 1) pa_nil)))
(pss_cons (ps_if (pt_cmp (pc_isN (pv 4)))
(pss_one (ps_ret pe_non))
pss_nil)
(pss_cons (ps_if (PW.pt (pw_or (pt_cmpR (op_uNeK (K := K) rfl hr) (pe_ix (ix_uK (K := K) rfl) (pv 4) pe_int (fun _ _ => rfl)) (pe_ix (ix_uK (K := K) rfl) (pv 2) pe_int (fun _ _ => rfl)) (nomark _)) (pw_or (pt_cmpR (op_uNeK (K := K) rfl hr) (pe_ix (ix_uK (K := K) rfl) (pv 4) pe_int (fun _ _ => rfl)) (pe_ix (ix_uK (K := K) rfl) (pv 2) pe_int (fun _ _ => rfl)) (nomark _)) (pw_or (pt_cmpR (op_uNeK (K := K) rfl hr) (pe_ix (ix_uK (K := K) rfl) (pv 4) pe_int (fun _ _ => rfl)) (pv 3) (nomark _)) (pw_or1 (pt_cmpR (op_uNeK (K := K) rfl hr) (pe_ix (ix_uK (K := K) rfl) (pv 4) pe_int (fun _ _ => rfl)) (pe_ix (ix_uK (K := K) rfl) (pv 2) pe_int (fun _ _ => rfl)) (nomark _)))))))
(pss_one (ps_ret pe_non))
pss_nil)
(pss_one (ps_ret (pe_callTy (call_listC (K := K) rfl) (by rfl) b_list bt_list (pa_cons (pe_ix (ix_uK (K := K) rfl) (pv 4) pe_int (fun _ _ => rfl)) pa_nil))))))), ?_⟩
  walk_at "start"
  refine w_methS j sb hd.op (no_Disk (by decide +kernel) (by decide +kernel) (by decide +kernel) (by decide +kernel)) ?_
  walk_at "go"
  refine w_sg (N, d, s, pos) j ⟨rfl, hd, sb⟩ fun v1 M1 G1 H1 j1 e1 ⟨ev, em⟩ => ?_
  dsimp only at ev em
  have hv := (hf pos).ex e1
  rw [← ev] at hv
  subst em
  walk_at "go"
  cases hb : f pos with
  | none =>
    rw [hb] at hv
    cases (show v1 = .non from hv)
    refine w_dT rfl ?_
    walk_at "go"
    exact k _ _ _ _ j1 e1 ⟨rfl, by rw [hb]; rfl⟩
  | some b =>
    rw [hb] at hv k
    obtain ⟨t, u, rfl, ht, hu⟩ := hv
    have no : ¬ (b.g = b0.g ∧ b.n = b0.n ∧ b.p = kk ∧ b.q = b0.q) → Q .non H1 := fun z => k _ _ _ _ j1 e1 ⟨rfl, by
      have : partV b0 kk (some b) = none := if_neg z
      rw [this]⟩
    refine w_dF (fun z => nomatch z) ?_
    walk_at "go"
    refine w_ixT j1 (st_of ht) (by rfl) ?_
    walk_at "go"
    refine w_ixT j1 (st_of (e1 _ _ ht0)) (by rfl) ?_
    walk_at "go"
    refine w_decN (fun c1 => ?_) (fun c1 => ?_)
    · walk_at "go"
      exact no fun z => c1 z.1
    walk_at "go"
    refine w_ixT j1 (st_of ht) (by rfl) ?_
    walk_at "go"
    refine w_ixT j1 (st_of (e1 _ _ ht0)) (by rfl) ?_
    walk_at "go"
    refine w_decN (fun c2 => ?_) (fun c2 => ?_)
    · walk_at "go"
      exact no fun z => c2 z.2.1
    walk_at "go"
    refine w_ixT j1 (st_of ht) (by rfl) ?_
    walk_at "go"
    refine w_decN (fun c3 => ?_) (fun c3 => ?_)
    · walk_at "go"
      exact no fun z => c3 z.2.2.1
    walk_at "go"
    refine w_ixT j1 (st_of ht) (by rfl) ?_
    walk_at "go"
    refine w_ixT j1 (st_of (e1 _ _ ht0)) (by rfl) ?_
    walk_at "go"
    refine w_decN (fun c4 => ?_) (fun c4 => ?_)
    · walk_at "go"
      exact no fun z => c4 z.2.2.2
    walk_at "go"
    refine w_ixT j1 (st_of ht) (by rfl) ?_
    walk_at "go"
    refine w_listC (.inr (st_mono j1.g hu)) (w_new j1 (Nat.zero_le _) fun l G2 H2 j2 e2 hl _ => ?_)
    exact k _ _ _ _ j2 (e1.trans e2) ⟨rfl, by
      have : partV b0 kk (some b) = some b.cs := if_pos ⟨c1, c2, c3, c4⟩
      rw [this]; exact ⟨l, rfl, hl⟩⟩
/-! ### _law_depth -/
abbrev s_law_depth : Stmt := top 43
abbrev n_law_depth : List Str := ["record", "depth", "part"]
theorem sc_law_depth : FnScope n_law_depth ["record"] (defScope s_law_depth) := ⟨rfl, rfl, rfl, by decide +kernel, rfl, by decide +kernel, by decide +kernel⟩
def spDep (K : PySem.W.Frag) (n : Nat) : Sp := Sg (α := V × Rc) (fun x vs _ G => vs = [x.1] ∧ RcAt K G x.1 x.2 ∧ depthM x.2 ≤ n) (fun x M _ v M' _ => M' = M ∧ v = .int (depthM x.2))
def spDepP (K : PySem.W.Frag) : Nat → Sp
  | 0 => spNone
  | n + 1 => spDep K n
def sp_law_depth (K : PySem.W.Frag) : Sp := spDep K 40
theorem depth_at {xs : List Rc} {i : Nat} {r : Rc} (h : xs[i]? = some r) : depthL (xs.take (i + 1)) = max (depthL (xs.take i)) (depthM r) ∧ depthM r ≤ depthL xs := by
  constructor
  · rw [List.take_add_one, h]
    show depthL (xs.take i ++ [r]) = _
    rw [depthL_append, depthL, depthL]; omega
  · have e : depthL xs = max (depthL (xs.take (i + 1))) (depthL (xs.drop (i + 1))) := by rw [← depthL_append, List.take_append_drop]
    rw [e, List.take_add_one, h]
    show _ ≤ max (depthL (xs.take i ++ [r])) _
    rw [depthL_append, depthL, depthL]; omega
theorem aux_depth {P : Program} {w : World} {K : PySem.W.Frag} {mg : Str → Option Value} {base : Heap}
    {f : Addr} {fd : FuncData} (D : Dn K mg "_law_depth" s_law_depth ["record"] f fd)
    (b_isinstance : mg "isinstance" = none)
    (b_tuple : mg "tuple" = none)
    (b_max : mg "max" = none)
    (n : Nat) (c_law_depth : Cal P w K mg base CX0 (n + 1) "_law_depth" (spDepP K n)) : Cal P w K mg base CX0 (n + 2) "_law_depth" (spDep K n) := by
  refine D.ok sc_law_depth (fun vs H Q E h => ?_) fun cdv A outer s H vs Q E hr h => ?_
  · obtain ⟨x, M, G, j, ⟨rfl, _⟩, _⟩ := h; rfl
  obtain ⟨⟨v, r⟩, M, G, j, ⟨rfl, hv, hd⟩, k⟩ := h
  dsimp only at hv hd k
  refine ⟨_, (pss_cons (ps_set (i := 1) sc_law_depth.nd rfl (Or.inl rfl) pe_int)
(pss_cons (ps_if (pt_val (pe_callB (call_isiK' (K := K) rfl) (by rfl) b_isinstance bt_isinstance (pa_cons (pv 0) (pa_cons (pe_bltn (v := .ty "tuple") (by rfl) b_tuple bt_tuple rfl) pa_nil))))
(pss_cons (ps_set (i := 1) sc_law_depth.nd rfl (Or.inl rfl) pe_int)
(pss_one (ps_for PassesOwn.never rfl (pi_tup (pv 0)) (pg_name (i := 2) sc_law_depth.nd rfl (Or.inl rfl))
(pss_one (ps_set (i := 1) sc_law_depth.nd rfl (Or.inl rfl) (pe_callB (call_max2 rfl) (by rfl) b_max bt_max (pa_cons (pv 1) (pa_cons (pe_op (op_uAddK (K := K) rfl) pe_int (pe_cal c_law_depth hr (by first | decide | omega) (by rfl) (pa_cons (pv 2) pa_nil))) pa_nil))))))))
pss_nil)
(pss_one (ps_ret (pv 1))))), ?_⟩
  walk_at "start"
  have leaf : depthM r = 0 → Q (.int 0) H := fun h => k _ _ _ _ j (Same.refl G) ⟨rfl, by rw [h]; rfl⟩
  cases hv with
  | non => walk_at "go"; exact leaf rfl
  | bl b => walk_at "go"; exact leaf rfl
  | int i => walk_at "go"; exact leaf rfl
  | str x => walk_at "go"; exact leaf rfl
  | lst h1 =>
    refine w_isi false (ty_L (sl_mono j.g h1)) (by rfl) ?_
    walk_at "go"
    exact leaf rfl
  | dic h1 =>
    refine w_isi false (ty_D (rd_same j.g h1)) (by rfl) ?_
    walk_at "go"
    exact leaf rfl
  | @tup a xs rs h1 h2 =>
    refine w_isi true (ty_T (st_mono j.g h1)) (by rfl) ?_
    walk_at "go"
    cases n with
    | zero => rw [depthM] at hd; omega
    | succ n =>
      rw [depthM] at hd
      have zl := h2.len
      refine w_forTV rfl (xs := xs) (fun i σ H => ∃ G1 x4, J M G1 H ∧ Ex G G1 ∧ σ = [some (.ref a), some (.int ((1 + depthL (rs.take i) : Nat) : Int)), x4]) (st_mono j.g h1) ?_ ?_ ?_ ?_
      · exact ⟨G, _, j, Same.refl G, by rw [List.take_zero]; rfl⟩
      · rintro i σ H _ ⟨G1, x4, j, e, rfl⟩
        exact st_mono j.g (st_mono e h1)
      · rintro i x σ H hi ⟨G1, x4, j, e, rfl⟩
        obtain ⟨r, hr1, hr2⟩ := h2.get hi
        obtain ⟨t1, t2⟩ := depth_at hr1
        walk_at "go"
        show spDep K n _ _ _ _
        refine w_sg (x, r) j ⟨rfl, hr2.ex e, by dsimp only; omega⟩ fun v' M1 G2 H2 j2 e2 ⟨em, ev⟩ => ?_
        subst ev em
        walk_at "go"
        refine ⟨_, _, rfl, ?_⟩
        walk_at "go"
        refine ⟨G2, some x, j2, e.trans e2, ?_⟩
        have e3 : (if (1 + (depthM r : Int)) > ((1 + depthL (rs.take i) : Nat) : Int) then 1 + (depthM r : Int) else ((1 + depthL (rs.take i) : Nat) : Int)) = ((1 + depthL (rs.take (i + 1)) : Nat) : Int) := by
          rw [t1]
          split <;> omega
        rw [← e3]; rfl
      · rintro σ H ⟨G1, x4, j, e, rfl⟩
        rw [zl, List.take_length]
        walk_at "go"
        exact k _ _ _ _ j e ⟨rfl, by rw [depthM]⟩
theorem ok_law_depth {P : Program} {w : World} {K : PySem.W.Frag} {mg : Str → Option Value} {base : Heap}
    {f : Addr} {fd : FuncData} (D : Dn K mg "_law_depth" s_law_depth ["record"] f fd)
    (b_isinstance : mg "isinstance" = none)
    (b_tuple : mg "tuple" = none)
    (b_max : mg "max" = none) : Cal P w K mg base CX0 42 "_law_depth" (sp_law_depth K) := by
  have all : ∀ n, Cal P w K mg base CX0 (n + 2) "_law_depth" (spDep K n) := fun n => by
    induction n with
    | zero => exact aux_depth D b_isinstance b_tuple b_max 0 (D.cal ⟨fun _ _ _ _ h => h.elim, fun _ _ _ _ _ _ _ _ _ _ _ _ _ h => h.elim⟩)
    | succ n ih => exact aux_depth D b_isinstance b_tuple b_max (n + 1) ih
  exact all 40
/-! ### _law_stands -/
abbrev s_law_stands : Stmt := top 46
abbrev n_law_stands : List Str := ["disk", "position", "number", "least", "first", "cells", "k", "more", "record"]
theorem sc_law_stands : FnScope n_law_stands ["disk", "position", "number", "least"] (defScope s_law_stands) := ⟨rfl, rfl, rfl, by decide +kernel, rfl, by decide +kernel, by decide +kernel⟩
/-- the law's reading at a place: the record, its parts, its generation -/
def standF (f : Int → Option Bk) (pos m : Nat) (least : Int) : Option (Rc × Int × Int) := match runF f pos m with
  | [] => none
  | b :: bs => if least ≤ b.g then (rebM (catM (b :: bs))).map fun r => (r, b.q, b.g) else none
theorem reb_lw2 {cs : List Int} {r : Rc} : rebM cs = some r ↔ (lwV (cs.map V.int) 32 0 = some (r, cs.length) ∧ depthM r ≤ 30) := by
  unfold rebM
  constructor
  · intro h
    cases q : qM cs 30 0 with
    | none => rw [q] at h; cases h
    | some x =>
      obtain ⟨r', p⟩ := x
      rw [q] at h
      replace h : (if p = cs.length then some r' else none) = some r := h
      split at h
      · rename_i e
        have h := Option.some.inj h
        subst h e
        obtain ⟨_, _, h3, h4⟩ := q_lw 30 0 r' _ q
        exact ⟨h4 32 (by omega), h3⟩
      · cases h
  · rintro ⟨h1, h2⟩
    rw [lw_q 32 0 r cs.length h1 30 h2]
    show (if cs.length = cs.length then some r else none) = some r
    rw [if_pos rfl]
theorem part_ok {f : Int → Option Bk} {b0 : Bk} {m : Int} {pos : Int} {k : Nat} (h : b0.n = m) : (∃ cs, partV b0 k (f pos) = some cs) ↔ okB b0 m k (f pos) = true := by
  cases f pos with
  | none => exact ⟨(fun ⟨_, e⟩ => nomatch e), (fun e => nomatch e)⟩
  | some b =>
    show (∃ cs, (if b.g = b0.g ∧ b.n = b0.n ∧ b.p = k ∧ b.q = b0.q then some b.cs else none) = some cs) ↔ decide (b.g = b0.g ∧ b.n = m ∧ b.p = k ∧ b.q = b0.q) = true
    rw [decide_eq_true_iff, ← h]
    constructor
    · rintro ⟨cs, e⟩
      split at e
      · rename_i z; exact z
      · cases e
    · intro z
      exact ⟨b.cs, if_pos z⟩
structure StdP where
  N : Hp
  d : DA
  s : DS
  f : Int → Option Bk
  pos : Nat
  m : Nat
  least : Int
def sp_law_stands (K : PySem.W.Frag) (D : Addr) : Sp := Sg (α := StdP) (fun x vs M G => vs = [.ref x.d.p, .int x.pos, .int x.m, .int x.least] ∧ DkAt D x.N G x.d x.s ∧ Sub x.N M G ∧ (∀ n, BvAt K G (lookM x.s n) (x.f n)) ∧ (∀ n b, x.f n = some b → b.cs.length ≤ 6 ∧ 1 ≤ b.q ∧ b.q ≤ 1000))
  (fun x M _ v M' G' => M' = M ∧ (match standF x.f x.pos x.m x.least with | none => v = .non | some y => ∃ t u, v = .ref t ∧ G' t = some (.lst [u, .int y.2.1, .int y.2.2]) ∧ RcAt K G' u y.1))
theorem ok_law_stands {P : Program} {w : World} {K : PySem.W.Frag} {mg : Str → Option Value} {base : Heap}
    {C_Disk : Addr} (T_Disk : Tx_Disk K mg C_Disk)
    {f : Addr} {fd : FuncData} (D : Dn K mg "_law_stands" s_law_stands ["disk", "position", "number", "least"] f fd)
    (b_range : mg "range" = none)
    (c_law_depth : Cal P w K mg base CX0 42 "_law_depth" (sp_law_depth K))
    (c_law_rebuilt : Cal P w K mg base CX0 35 "_law_rebuilt" (sp_law_rebuilt K))
    (c_law_part : Cal P w K mg base CX0 2 "_law_part" (sp_law_part K C_Disk))
    (c_Disk_look : CalM P w K mg base CX0 1 C_Disk "look" (sp_Disk_look K C_Disk)) : Cal P w K mg base CX0 43 "_law_stands" (sp_law_stands K C_Disk) := by
  refine D.ok sc_law_stands (fun vs H Q E h => ?_) fun cdv A outer s H vs Q E hr h => ?_
  · obtain ⟨x, M, G, j, ⟨rfl, _⟩, _⟩ := h; rfl
  obtain ⟨⟨N, d, s, f, pos, m, least⟩, M, G, j, ⟨rfl, hd, sb, hf, h6⟩, k⟩ := h
  dsimp only at hd sb hf h6 k
  refine ⟨_, (pss_cons (ps_set (i := 4) sc_law_stands.nd rfl (Or.inl rfl) (pe_calM c_Disk_look T_Disk.cl hr (by first | decide | omega) (pv 0) (pa_cons (pv 1) pa_nil)))
(pss_cons (ps_if (PW.pt (pw_or (pt_cmp (pc_isN (pv 4))) (pw_or (pt_cmpR op_lt (pe_ix (ix_uK (K := K) rfl) (pv 4) pe_int (fun _ _ => rfl)) (pv 3) (nomark _)) (pw_or (pt_cmpR (op_uNeK (K := K) rfl hr) (pe_ix (ix_uK (K := K) rfl) (pv 4) pe_int (fun _ _ => rfl)) (pv 2) (nomark _)) (pw_or1 (pt_cmpR op_lt (pe_ix (ix_uK (K := K) rfl) (pv 4) pe_int (fun _ _ => rfl)) pe_int (nomark _)))))))
(pss_one (ps_ret pe_non))
pss_nil)
(pss_cons (ps_set (i := 5) sc_law_stands.nd rfl (Or.inl rfl) (pe_lst pa_nil))
(pss_cons (ps_for PassesOwn.never rfl (pi_range1 (by rfl) b_range (pa_cons (pe_ix (ix_uK (K := K) rfl) (pv 4) pe_int (fun _ _ => rfl)) pa_nil)) (pg_name (i := 6) sc_law_stands.nd rfl (Or.inl rfl))
(pss_cons (ps_set (i := 7) sc_law_stands.nd rfl (Or.inl rfl) (pe_cal c_law_part hr (by first | decide | omega) (by rfl) (pa_cons (pv 0) (pa_cons (pe_op (op_uAddK (K := K) rfl) (pv 1) (pv 6)) (pa_cons (pv 4) (pa_cons (pv 6) pa_nil))))))
(pss_cons (ps_if (pt_cmp (pc_isN (pv 7)))
(pss_one (ps_ret pe_non))
pss_nil)
(pss_one (ps_set (i := 5) sc_law_stands.nd rfl (Or.inl rfl) (pe_op (op_uAddK (K := K) rfl) (pv 5) (pv 7)))))))
(pss_cons (ps_set (i := 8) sc_law_stands.nd rfl (Or.inl rfl) (pe_cal c_law_rebuilt hr (by first | decide | omega) (by rfl) (pa_cons (pv 5) pa_nil)))
(pss_cons (ps_if (PW.pt (pw_or (pt_cmp (pc_isN (pv 8))) (pw_or1 (pt_cmpR op_gt (pe_cal c_law_depth hr (by first | decide | omega) (by rfl) (pa_cons (pe_ix (ix_uK (K := K) rfl) (pv 8) pe_int (fun _ _ => rfl)) pa_nil)) pe_int (nomark _)))))
(pss_one (ps_ret pe_non))
pss_nil)
(pss_one (ps_ret (pe_lst (pa_cons (pe_ix (ix_uK (K := K) rfl) (pv 8) pe_int (fun _ _ => rfl)) (pa_cons (pe_ix (ix_uK (K := K) rfl) (pv 4) pe_int (fun _ _ => rfl)) (pa_cons (pe_ix (ix_uK (K := K) rfl) (pv 4) pe_int (fun _ _ => rfl)) pa_nil)))))))))))), ?_⟩
  have no : standF f pos m least = none → ∀ G' H, J M G' H → Ex G G' → Q .non H := fun e G' H j e1 => k _ _ _ _ j e1 ⟨rfl, by rw [e]⟩
  walk_at "start"
  refine w_methS j sb hd.op (no_Disk (by decide +kernel) (by decide +kernel) (by decide +kernel) (by decide +kernel)) ?_
  walk_at "go"
  refine w_sg (N, d, s, (pos : Int)) j ⟨rfl, hd, sb⟩ fun v1 M1 G1 H1 j1 e1 ⟨ev, em⟩ => ?_
  dsimp only at ev em
  have hv := (hf pos).ex e1
  rw [← ev] at hv
  subst em
  walk_at "go"
  cases hb : f (pos : Int) with
  | none =>
    rw [hb] at hv
    cases (show v1 = .non from hv)
    have e0 : standF f pos m least = none := by unfold standF; rw [run_none hb]
    refine w_dT rfl ?_
    walk_at "go"
    exact no e0 _ _ j1 e1
  | some b =>
    rw [hb] at hv
    have hv0 := hv
    obtain ⟨t, u, rfl, ht, hu⟩ := hv
    obtain ⟨b6, q1, q2⟩ := h6 _ b hb
    refine w_dF (fun z => nomatch z) ?_
    walk_at "go"
    refine w_ixT j1 (st_of ht) (by rfl) ?_
    walk_at "go"
    refine w_dec (fun c1 => ?_) (fun c1 => ?_)
    · walk_at "go"
      refine no ?_ _ _ j1 e1
      unfold standF
      cases hr : runF f pos m with
      | nil => rfl
      | cons b' bs =>
        obtain ⟨z, _, _⟩ := run_inv hr
        rw [hb] at z; cases z
        exact if_neg (by omega)
    walk_at "go"
    refine w_ixT j1 (st_of ht) (by rfl) ?_
    walk_at "go"
    refine w_decN (fun c2 => ?_) (fun c2 => ?_)
    · walk_at "go"
      refine no ?_ _ _ j1 e1
      unfold standF
      cases hr : runF f pos m with
      | nil => rfl
      | cons b' bs =>
        obtain ⟨z, z2, z3⟩ := run_inv hr
        rw [hb] at z; cases z
        have lt : 0 < b.q.toNat := by rw [← z2]; simp
        have := z3 0 lt
        rw [Int.natCast_zero, Int.add_zero, hb] at this
        exact (c2 (of_decide_eq_true this).2.1).elim
    walk_at "go"
    refine w_ixT j1 (st_of ht) (by rfl) ?_
    walk_at "go"
    refine w_dF (by omega) ?_
    walk_at "go"
    refine w_new j1 (Nat.zero_le _) fun c0 G2 H2 j2 e2 hc0 _ => ?_
    walk_at "go"
    refine w_ixT j2 (st_of (e2 _ _ ht)) (by rfl) ?_
    walk_at "go"
    have bn : b.n = (m : Int) := c2
    have hd2 : ∀ {G' : Hp}, Ex G1 G' → DkAt C_Disk N G' d s := fun e => hd.ex (e1.trans e)
    have sub2 : ∀ {G' : Hp}, Ex G1 G' → Sub N M1 G' := fun e a o h => (sb a o h).imp id fun h => (e1.trans e) a o h
    refine w_rng (fun i σ H => ∃ G2 c x6 x7 x8, J M1 G2 H ∧ Ex G1 G2 ∧ (∀ k : Nat, k < i → okB b m k (f ((pos : Int) + k)) = true) ∧ G2 c = some (.lst ((catM ((List.range i).map fun k : Nat => (f ((pos : Int) + (k : Int))).getD b)).map V.int)) ∧
      σ = [some (.ref d.p), some (.int pos), some (.int m), some (.int least), some (.ref t), some (.ref c), x6, x7, x8]) ⟨G2, c0, _, _, _, j2, e2, fun k hk => absurd hk (Nat.not_lt_zero k), hc0, rfl⟩ ?_ ?_ (by omega) (by omega)
    · rintro i σ H hi ⟨G3, c, x6, x7, x8, j, e, hall, hc, rfl⟩
      have hi' : i < b.q.toNat := hi
      walk_at "go"
      refine w_sg (N, d, s, f, (pos : Int) + (i : Int), b, i, .ref t) j ⟨rfl, hd2 e, sub2 e, fun n => (hf n).ex (e1.trans e), hv0.ex e⟩ fun v4 M4 G4 H4 j4 e4 ⟨em, hp⟩ => ?_
      dsimp only at em hp
      subst em
      cases hpv : partV b i (f ((pos : Int) + (i : Int))) with
      | none =>
        rw [hpv] at hp
        cases (show v4 = .non from hp)
        have bad : okB b m i (f ((pos : Int) + (i : Int))) = false := by
          cases z : okB b m i (f ((pos : Int) + (i : Int))) with
          | false => rfl
          | true =>
            obtain ⟨cs, ec⟩ := (part_ok bn).mpr z
            rw [hpv] at ec; cases ec
        walk_at "go"
        refine w_dT rfl ?_
        walk_at "go"
        refine no ?_ _ _ j4 (e1.trans (e.trans e4))
        unfold standF
        rw [run_bad hb hi' bad]
      | some cs =>
        rw [hpv] at hp
        obtain ⟨t4, rfl, ht4⟩ := hp
        have good : okB b m i (f ((pos : Int) + (i : Int))) = true := (part_ok bn).mp ⟨cs, hpv⟩
        have ecs : ((f ((pos : Int) + (i : Int))).getD b).cs = cs := by
          cases z : f ((pos : Int) + (i : Int)) with
          | none => rw [z] at hpv; cases hpv
          | some b' =>
            rw [z] at hpv
            have hpv : (if b'.g = b.g ∧ b'.n = b.n ∧ b'.p = i ∧ b'.q = b.q then some b'.cs else none) = some cs := hpv
            split at hpv
            · cases hpv; rfl
            · cases hpv
        have l6 : cs.length ≤ 6 := by
          cases z : f ((pos : Int) + (i : Int)) with
          | none => rw [z] at hpv; cases hpv
          | some b' => rw [z] at ecs; rw [← ecs]; exact (h6 _ _ z).1
        have lc : ∀ n : Nat, n ≤ i → (catM ((List.range n).map fun k : Nat => (f ((pos : Int) + (k : Int))).getD b)).length ≤ 6 * n := fun n hn => by
          induction n with
          | zero => exact Nat.zero_le _
          | succ n ih =>
            rw [List.range_succ, List.map_append]
            unfold catM at ih ⊢
            rw [List.map_append, List.flatten_append, List.length_append]
            have := ih (by omega)
            have l : (((List.map (fun k : Nat => (f ((pos : Int) + (k : Int))).getD b) [n]).map (·.cs)).flatten).length ≤ 6 := by
              simp only [List.map_cons, List.map_nil, List.flatten_cons, List.flatten_nil, List.append_nil]
              cases z : f ((pos : Int) + (n : Int)) with
              | none => exact b6
              | some b' => exact (h6 _ _ z).1
            omega
        walk_at "go"
        refine w_dF (fun z => nomatch z) ?_
        walk_at "go"
        have := lc i (Nat.le_refl _)
        refine w_catL (j4.g _ _ (e4 _ _ hc)) (j4.g _ _ ht4) (w_new j4 (by rw [List.length_map, List.length_map]; exact sz_le (by omega)) fun c5 G5 H5 j5 e5 hc5 _ => ?_)
        refine ⟨G5, c5, _, _, _, j5, (e.trans e4).trans e5, fun k hk => ?_, ?_, rfl⟩
        · by_cases q : k = i
          · subst q; exact good
          · exact hall k (by omega)
        · have ea : catM ((List.range (i + 1)).map fun k : Nat => (f ((pos : Int) + (k : Int))).getD b) = catM ((List.range i).map fun k : Nat => (f ((pos : Int) + (k : Int))).getD b) ++ cs := by
            rw [List.range_succ, List.map_append]
            unfold catM
            rw [List.map_append, List.flatten_append]
            simp only [List.map_cons, List.map_nil, List.flatten_cons, List.flatten_nil, List.append_nil, ecs]
          rw [hc5, ea, List.map_append]
    · rintro σ H ⟨G3, c, x6, x7, x8, j, e, hall, hc, rfl⟩
      have run1 := run_good hb hall
      have lr : (runF f pos m).length = b.q.toNat := by rw [run1, List.length_map, List.length_range]
      rw [← run1] at hc
      have lcs : (catM (runF f pos m)).length ≤ 90000 := by
        have := run_cells (f := f) (place := (pos : Int)) (m := (m : Int)) (fun n b' e => (h6 n b' e).1) (c := 1000) (by omega)
        omega
      have sf : standF f pos m least = (rebM (catM (runF f pos m))).map fun r => (r, b.q, b.g) := by
        unfold standF
        cases hr : runF f pos m with
        | nil => rw [hr] at lr; simp at lr; omega
        | cons b' bs =>
          obtain ⟨z, _, _⟩ := run_inv hr
          rw [hb] at z; cases z
          exact if_pos (by omega)
      have E1 := e1.trans e
      walk_at "go"
      refine w_sg (c, (catM (runF f pos m)).map V.int) j ⟨rfl, sl_of hc, fun v hv => (by obtain ⟨z, _, rfl⟩ := List.mem_map.mp hv; exact .inl rfl), by rw [List.length_map]; omega, fun v hv => (by obtain ⟨z, _, rfl⟩ := List.mem_map.mp hv; exact ⟨z, rfl⟩)⟩ fun v5 M5 G5 H5 j5 e5 ⟨em, hp⟩ => ?_
      dsimp only at em hp
      subst em
      walk_at "go"
      have lrb : lawReb ((catM (runF f pos m)).map V.int) = (lwV ((catM (runF f pos m)).map V.int) 32 0).bind fun x => if x.2 = ((catM (runF f pos m)).map V.int).length then some x.1 else none := rfl
      have inv : ∀ r, rebM (catM (runF f pos m)) = some r ↔ (lawReb ((catM (runF f pos m)).map V.int) = some r ∧ depthM r ≤ 30) := fun r => by
        rw [reb_lw2, lrb]
        constructor
        · rintro ⟨h1, h2⟩
          rw [h1]
          exact ⟨if_pos (by rw [List.length_map]), h2⟩
        · rintro ⟨h1, h2⟩
          refine ⟨?_, h2⟩
          cases q : lwV ((catM (runF f pos m)).map V.int) 32 0 with
          | none => rw [q] at h1; cases h1
          | some y =>
            obtain ⟨r', p⟩ := y
            rw [q] at h1
            replace h1 : (if p = ((catM (runF f pos m)).map V.int).length then some r' else none) = some r := h1
            split at h1
            · rename_i z
              cases h1
              rw [z, List.length_map]
            · cases h1
      cases hr : lawReb ((catM (runF f pos m)).map V.int) with
      | none =>
        rw [hr] at hp
        cases (show v5 = .non from hp)
        refine w_dT rfl ?_
        refine w_T ?_
        walk_at "go"
        refine no ?_ _ _ j5 (E1.trans e5)
        rw [sf]
        cases q : rebM (catM (runF f pos m)) with
        | none => rfl
        | some r =>
          have := ((inv r).mp q).1
          rw [hr] at this; cases this
      | some r =>
        rw [hr] at hp
        obtain ⟨t5, u5, rfl, ht5, hu5⟩ := hp
        have d32 : depthM r ≤ 32 := by
          rw [lrb] at hr
          cases q : lwV ((catM (runF f pos m)).map V.int) 32 0 with
          | none => rw [q] at hr; cases hr
          | some y =>
            obtain ⟨r', p⟩ := y
            have l := (lw_ok _ 32 0 r' p q).2.2.1
            rw [q] at hr
            replace hr : (if p = ((catM (runF f pos m)).map V.int).length then some r' else none) = some r := hr
            split at hr
            · cases hr; exact l
            · cases hr
        refine w_dF (fun z => nomatch z) ?_
        walk_at "go"
        refine w_ixL j5 (sl_of ht5) (by rfl) ?_
        walk_at "go"
        show spDep K 40 _ _ _ _
        refine w_sg (u5, r) j5 ⟨rfl, hu5, by dsimp only; omega⟩ fun v6 M6 G6 H6 j6 e6 ⟨em, ev⟩ => ?_
        dsimp only at ev
        subst ev em
        walk_at "go"
        refine w_dec (fun c5 => ?_) (fun c5 => ?_)
        · walk_at "go"
          refine no ?_ _ _ j6 (E1.trans (e5.trans e6))
          rw [sf]
          cases q : rebM (catM (runF f pos m)) with
          | none => rfl
          | some r' =>
            have h := (inv r').mp q
            rw [hr] at h
            cases h.1
            omega
        · have hreb : rebM (catM (runF f pos m)) = some r := (inv r).mpr ⟨hr, by omega⟩
          walk_at "go"
          refine w_ixL j6 (sl_of (e6 _ _ ht5)) (by rfl) ?_
          walk_at "go"
          refine w_ixT j6 (st_of ((e.trans (e5.trans e6)) _ _ ht)) (by rfl) ?_
          walk_at "go"
          refine w_ixT j6 (st_of ((e.trans (e5.trans e6)) _ _ ht)) (by rfl) ?_
          walk_at "go"
          refine w_new j6 (by show 3 ≤ sizeLine; decide) fun t7 G7 H7 j7 e7 ht7 _ => ?_
          refine k _ _ _ _ j7 (E1.trans ((e5.trans e6).trans e7)) ⟨rfl, ?_⟩
          rw [sf, hreb]
          exact ⟨t7, u5, rfl, ht7, hu5.ex (e6.trans e7)⟩
/-! ### _law_read -/
abbrev s_law_read : Stmt := top 47
abbrev n_law_read : List Str := ["disk", "size", "records", "position", "least", "k", "step"]
theorem sc_law_read : FnScope n_law_read ["disk", "size"] (defScope s_law_read) := ⟨rfl, rfl, rfl, by decide +kernel, rfl, by decide +kernel, by decide +kernel⟩
/-- the law's reading -/
def lawR (f : Int → Option Bk) : Nat → Nat → Nat → Int → List Rc
  | 0, _, _, _ => []
  | n + 1, pos, m, least => match standF f pos m least with
    | none => []
    | some y => y.1 :: lawR f n (pos + y.2.1.toNat) (m + 1) y.2.2
theorem lawR_read {f : Int → Option Bk} (h1 : ∀ n b, f n = some b → 0 ≤ b.g) : ∀ (n pos m : Nat) (least : Int) (l : Option Int), (l = none ∧ least = 0 ∨ l = some least) → lawR f n pos m least = (readF f n pos m l).1
  | 0, pos, m, least, l, _ => rfl
  | n + 1, pos, m, least, l, hl => by
    cases e : runF f pos m with
    | nil =>
      rw [read_nil e]
      have : standF f pos m least = none := by unfold standF; rw [e]
      unfold lawR; rw [this]
    | cons b bs =>
      obtain ⟨i1, i2, i3⟩ := run_inv e
      have g0 := h1 _ _ i1
      have ok : okL l b.g = decide (least ≤ b.g) := by
        rcases hl with ⟨q1, q2⟩ | q
        · subst q1 q2; exact (decide_eq_true g0).symm
        · subst q; rfl
      by_cases c : least ≤ b.g
      · have e2 : okL l b.g = true := by rw [ok, decide_eq_true c]
        cases e3 : rebM (catM (b :: bs)) with
        | none =>
          rw [read_bad e e3]
          have : standF f pos m least = none := by unfold standF; rw [e]; show (if least ≤ b.g then _ else _) = _; rw [if_pos c, e3]; rfl
          unfold lawR; rw [this]
        | some r =>
          rw [read_go e e2 e3]
          have : standF f pos m least = some (r, b.q, b.g) := by unfold standF; rw [e]; show (if least ≤ b.g then _ else _) = _; rw [if_pos c, e3]; rfl
          unfold lawR; rw [this]
          show r :: lawR f n (pos + b.q.toNat) (m + 1) b.g = r :: _
          rw [lawR_read h1 n (pos + b.q.toNat) (m + 1) b.g (some b.g) (.inr rfl), i2]
      · have e2 : okL l b.g = false := by rw [ok, decide_eq_false c]
        rw [read_stop e e2]
        have : standF f pos m least = none := by unfold standF; rw [e]; exact if_neg c
        unfold lawR; rw [this]
theorem lawR_step {f : Int → Option Bk} {y : Rc × Int × Int} {n pos m : Nat} {least : Int} (h : standF f pos m least = some y) : lawR f (n + 1) pos m least = y.1 :: lawR f n (pos + y.2.1.toNat) (m + 1) y.2.2 := by
  rw [lawR, h]
theorem lawR_end {f : Int → Option Bk} {n pos m : Nat} {least : Int} (h : standF f pos m least = none) : lawR f n pos m least = [] := by
  cases n with
  | zero => rfl
  | succ n => rw [lawR, h]
structure RdP where
  N : Hp
  d : DA
  s : DS
  f : Int → Option Bk
  n : Nat
def sp_law_read (K : PySem.W.Frag) (D : Addr) : Sp := Sg (α := RdP) (fun x vs M G => vs = [.ref x.d.p, .int x.n] ∧ DkAt D x.N G x.d x.s ∧ Sub x.N M G ∧ (∀ n, BvAt K G (lookM x.s n) (x.f n)) ∧ (∀ n b, x.f n = some b → b.cs.length ≤ 6 ∧ 1 ≤ b.q ∧ b.q ≤ 1000) ∧ x.n ≤ 1000)
  (fun x M _ v M' G' => M' = M ∧ ∃ t vs, v = .ref t ∧ G' t = some (.lst vs) ∧ RcsAt K G' vs (lawR x.f (x.n + 1) 0 0 0))
theorem ok_law_read {P : Program} {w : World} {K : PySem.W.Frag} {mg : Str → Option Value} {base : Heap}
    {C_Disk : Addr} (T_Disk : Tx_Disk K mg C_Disk)
    {f : Addr} {fd : FuncData} (D : Dn K mg "_law_read" s_law_read ["disk", "size"] f fd)
    (b_range : mg "range" = none)
    (b_len : mg "len" = none)
    (c_law_stands : Cal P w K mg base CX0 43 "_law_stands" (sp_law_stands K C_Disk)) : Cal P w K mg base CX0 44 "_law_read" (sp_law_read K C_Disk) := by
  refine D.ok sc_law_read (fun vs H Q E h => ?_) fun cdv A outer s H vs Q E hr h => ?_
  · obtain ⟨x, M, G, j, ⟨rfl, _⟩, _⟩ := h; rfl
  obtain ⟨⟨N, d, s, f, n⟩, M, G, j, ⟨rfl, hd, sb, hf, h6, hn⟩, k⟩ := h
  dsimp only at hd sb hf h6 hn k
  refine ⟨_, (pss_cons (ps_set (i := 2) sc_law_read.nd rfl (Or.inl rfl) (pe_lst pa_nil))
(pss_cons (ps_set (i := 3) sc_law_read.nd rfl (Or.inl rfl) pe_int)
(pss_cons (ps_set (i := 4) sc_law_read.nd rfl (Or.inl rfl) pe_int)
(pss_cons (ps_for PassesOwn.never rfl (pi_range1 (by rfl) b_range (pa_cons (pe_op (op_uAddK (K := K) rfl) (pv 1) pe_int) pa_nil)) (pg_name (i := 5) sc_law_read.nd rfl (Or.inl rfl))
(pss_cons (ps_set (i := 6) sc_law_read.nd rfl (Or.inl rfl) (pe_cal c_law_stands hr (by first | decide | omega) (by rfl) (pa_cons (pv 0) (pa_cons (pv 3) (pa_cons (pe_callB (call_uLenK (K := K) rfl) (by rfl) b_len PySem.boot_len (pa_cons (pv 2) pa_nil)) (pa_cons (pv 4) pa_nil))))))
(pss_cons (ps_if (pt_cmp (pc_isN (pv 6)))
(pss_one (ps_ret (pv 2)))
pss_nil)
(pss_cons (ps_expr (pe_bm PySem.F.plainAttrs_list PySem.F.slot_list_append PySem.F.type_list_append mt_append (pv 2) (pa_cons (pe_ix (ix_uK (K := K) rfl) (pv 6) pe_int (fun _ _ => rfl)) pa_nil)))
(pss_cons (ps_set (i := 3) sc_law_read.nd rfl (Or.inl rfl) (pe_op (op_uAddK (K := K) rfl) (pv 3) (pe_ix (ix_uK (K := K) rfl) (pv 6) pe_int (fun _ _ => rfl))))
(pss_one (ps_set (i := 4) sc_law_read.nd rfl (Or.inl rfl) (pe_ix (ix_uK (K := K) rfl) (pv 6) pe_int (fun _ _ => rfl)))))))))
(pss_one (ps_ret (pv 2))))))), ?_⟩
  walk_at "start"
  refine w_newM j (Nat.zero_le _) fun L H1 j1 nL gL => ?_
  walk_at "go"
  have all0 := hf
  have fin : ∀ (vs : List V) (G' H : Hp), J (upd M L (.lst vs)) G' H → Ex G G' → RcsAt K G' vs (lawR f (n + 1) 0 0 0) → Q (.ref L) H := fun vs G' H j e hv => by
    have j2 := j.freeze nL
    have e2 : Ex G' (upd G' L (.lst vs)) := Ex.new j.freezeG
    exact k _ _ _ _ j2 (e.trans e2) ⟨rfl, L, vs, rfl, upd_same, hv.ex e2⟩
  refine w_rng (fun i σ H => ∃ G2 vs rs pos least x5 x6, J (upd M L (.lst vs)) G2 H ∧ Ex G G2 ∧ RcsAt K G2 vs rs ∧ rs.length = i ∧ rs ++ lawR f (n + 1 - i) pos i least = lawR f (n + 1) 0 0 0 ∧
    σ = [some (.ref d.p), some (.int n), some (.ref L), some (.int ((pos : Nat) : Int)), some (.int least), x5, x6]) ⟨G, [], [], 0, 0, _, _, j1, Same.refl _, .nil, rfl, rfl, rfl⟩ ?_ ?_ (by omega) (by omega)
  · rintro i σ H hi ⟨G2, vs, rs, pos, least, x5, x6, j, e, hrs, li, hR, rfl⟩
    have hi' : i < n + 1 := by omega
    walk_at "go"
    refine w_lenM j upd_same ?_
    walk_at "go"
    have lvs : vs.length = i := hrs.len.trans li
    rw [lvs]
    have sub2 : Sub N (upd M L (.lst vs)) G2 := fun a o h => (sb a o h).elim (fun q => .inl (upd_ne' q (ne_of_none q nL))) fun q => .inr (e a o q)
    refine w_sg ⟨N, d, s, f, pos, i, least⟩ j ⟨rfl, hd.ex e, sub2, fun n => (hf n).ex e, h6⟩ fun v3 M3 G3 H3 j3 e3 ⟨em, hv⟩ => ?_
    dsimp only at hv
    subst em
    walk_at "go"
    cases hs : standF f pos i least with
    | none =>
      rw [hs] at hv
      cases (show v3 = .non from hv)
      refine w_dT rfl ?_
      walk_at "go"
      rw [lawR_end hs, List.append_nil] at hR
      exact fin vs _ _ j3 (e.trans e3) (by rw [← hR]; exact hrs.ex e3)
    | some y =>
      rw [hs] at hv
      obtain ⟨t, u, rfl, ht, hu⟩ := hv
      refine w_dF (fun z => nomatch z) ?_
      walk_at "go"
      refine ⟨ty_listM j3 upd_same, ?_⟩
      walk_at "go"
      refine w_ixL j3 (sl_of ht) (by rfl) ?_
      walk_at "go"
      refine w_appendM j3 upd_same (sz_lt (by omega)) fun H4 j4 => ?_
      rw [upd_upd] at j4
      walk_at "go"
      refine w_ixL j4 (sl_of ht) (by rfl) ?_
      walk_at "go"
      refine w_ixL j4 (sl_of ht) (by rfl) ?_
      have qpos : (0 : Int) ≤ y.2.1 := by
        unfold standF at hs
        cases hr : runF f pos i with
        | nil => rw [hr] at hs; cases hs
        | cons b bs =>
          rw [hr] at hs
          obtain ⟨z, _, _⟩ := run_inv hr
          replace hs : (if least ≤ b.g then (rebM (catM (b :: bs))).map fun r => (r, b.q, b.g) else none) = some y := hs
          split at hs
          · cases q : rebM (catM (b :: bs)) with
            | none => rw [q] at hs; cases hs
            | some r => rw [q] at hs; cases hs; have := (h6 _ _ z).2.1; show 0 ≤ b.q; omega
          · cases hs
      refine ⟨G3, vs ++ [u], rs ++ [y.1], pos + y.2.1.toNat, y.2.2, some (.int i), some (.ref t), j4, e.trans e3, (hrs.ex e3).snoc hu, by rw [List.length_append, li]; rfl, ?_, ?_⟩
      · rw [← hR, show n + 1 - i = (n + 1 - (i + 1)) + 1 by omega, lawR_step hs, List.append_assoc]; rfl
      · rw [show ((pos + y.2.1.toNat : Nat) : Int) = (pos : Int) + y.2.1 by omega]; rfl
  · rintro σ H ⟨G2, vs, rs, pos, least, x5, x6, j, e, hrs, li, hR, rfl⟩
    walk_at "go"
    have z : n + 1 - ((n : Int) + 1).toNat = 0 := by omega
    rw [z] at hR
    have hR : rs ++ [] = lawR f (n + 1) 0 0 0 := hR
    rw [List.append_nil] at hR
    exact fin vs _ _ j e (by rw [← hR]; exact hrs)
/-! ### _law_generation -/
abbrev s_law_generation : Stmt := top 48
abbrev n_law_generation : List Str := ["disk", "size", "greatest", "position", "block"]
theorem sc_law_generation : FnScope n_law_generation ["disk", "size"] (defScope s_law_generation) := ⟨rfl, rfl, rfl, by decide +kernel, rfl, by decide +kernel, by decide +kernel⟩
def genS (f : Int → Option Bk) (a : Int) (i : Nat) : Int := match f (i : Int) with
  | none => a
  | some b => if b.g > a then b.g else a
def genM (f : Int → Option Bk) (n : Nat) : Int := (List.range n).foldl (genS f) 0
theorem genM_succ (f : Int → Option Bk) (n : Nat) : genM f (n + 1) = genS f (genM f n) n := by unfold genM; rw [List.range_succ, List.foldl_append]; rfl
theorem genM_spec (f : Int → Option Bk) : ∀ n : Nat, 0 ≤ genM f n ∧ (∀ (i : Nat) (b : Bk), i < n → f i = some b → b.g ≤ genM f n) ∧ (genM f n = 0 ∨ ∃ (i : Nat) (b : Bk), i < n ∧ f i = some b ∧ genM f n = b.g)
  | 0 => ⟨Int.le_refl _, fun i b h => absurd h (Nat.not_lt_zero i), .inl rfl⟩
  | n + 1 => by
    obtain ⟨h0, h1, h2⟩ := genM_spec f n
    rw [genM_succ]
    unfold genS
    cases e : f (n : Int) with
    | none =>
      refine ⟨h0, fun i b hi hb => ?_, ?_⟩
      · by_cases q : i = n
        · subst q; rw [e] at hb; cases hb
        · exact h1 i b (by omega) hb
      · rcases h2 with z | ⟨i, b, z1, z2, z3⟩
        · exact .inl z
        · exact .inr ⟨i, b, by omega, z2, z3⟩
    | some b0 =>
      show 0 ≤ (if b0.g > genM f n then b0.g else genM f n) ∧ (∀ (i : Nat) (b : Bk), i < n + 1 → f i = some b → b.g ≤ (if b0.g > genM f n then b0.g else genM f n)) ∧ ((if b0.g > genM f n then b0.g else genM f n) = 0 ∨ ∃ (i : Nat) (b : Bk), i < n + 1 ∧ f i = some b ∧ (if b0.g > genM f n then b0.g else genM f n) = b.g)
      by_cases c : b0.g > genM f n
      · rw [if_pos c]
        refine ⟨by omega, fun i b hi hb => ?_, .inr ⟨n, b0, by omega, e, rfl⟩⟩
        by_cases q : i = n
        · subst q; rw [e] at hb; cases hb; exact Int.le_refl _
        · have := h1 i b (by omega) hb; omega
      · rw [if_neg c]
        refine ⟨h0, fun i b hi hb => ?_, ?_⟩
        · by_cases q : i = n
          · subst q; rw [e] at hb; cases hb; omega
          · exact h1 i b (by omega) hb
        · rcases h2 with z | ⟨i, b, z1, z2, z3⟩
          · exact .inl z
          · exact .inr ⟨i, b, by omega, z2, z3⟩
structure GnP where
  N : Hp
  d : DA
  s : DS
  f : Int → Option Bk
  n : Nat
def sp_law_generation (K : PySem.W.Frag) (D : Addr) : Sp := Sg (α := GnP) (fun x vs M G => vs = [.ref x.d.p, .int x.n] ∧ DkAt D x.N G x.d x.s ∧ Sub x.N M G ∧ (∀ n, BvAt K G (lookM x.s n) (x.f n)) ∧ x.n ≤ 1000) (fun x M _ v M' _ => M' = M ∧ v = .int (genM x.f x.n + 1))
theorem ok_law_generation {P : Program} {w : World} {K : PySem.W.Frag} {mg : Str → Option Value} {base : Heap}
    {C_Disk : Addr} (T_Disk : Tx_Disk K mg C_Disk)
    {f : Addr} {fd : FuncData} (D : Dn K mg "_law_generation" s_law_generation ["disk", "size"] f fd)
    (b_range : mg "range" = none)
    (b_max : mg "max" = none)
    (c_Disk_look : CalM P w K mg base CX0 1 C_Disk "look" (sp_Disk_look K C_Disk)) : Cal P w K mg base CX0 2 "_law_generation" (sp_law_generation K C_Disk) := by
  refine D.ok sc_law_generation (fun vs H Q E h => ?_) fun cdv A outer s H vs Q E hr h => ?_
  · obtain ⟨x, M, G, j, ⟨rfl, _⟩, _⟩ := h; rfl
  obtain ⟨⟨N, d, s, f, n⟩, M, G, j, ⟨rfl, hd, sb, hf, hn⟩, k⟩ := h
  dsimp only at hd sb hf hn k
  refine ⟨_, (pss_cons (ps_set (i := 2) sc_law_generation.nd rfl (Or.inl rfl) pe_int)
(pss_cons (ps_for PassesOwn.never rfl (pi_range1 (by rfl) b_range (pa_cons (pv 1) pa_nil)) (pg_name (i := 3) sc_law_generation.nd rfl (Or.inl rfl))
(pss_cons (ps_set (i := 4) sc_law_generation.nd rfl (Or.inl rfl) (pe_calM c_Disk_look T_Disk.cl hr (by first | decide | omega) (pv 0) (pa_cons (pv 3) pa_nil)))
(pss_one (ps_if (pt_cmp (pc_notN (pv 4)))
(pss_one (ps_set (i := 2) sc_law_generation.nd rfl (Or.inl rfl) (pe_callB (call_max2 rfl) (by rfl) b_max bt_max (pa_cons (pv 2) (pa_cons (pe_ix (ix_uK (K := K) rfl) (pv 4) pe_int (fun _ _ => rfl)) pa_nil)))))
pss_nil))))
(pss_one (ps_ret (pe_op (op_uAddK (K := K) rfl) (pv 2) pe_int))))), ?_⟩
  walk_at "start"
  refine w_rng (fun i σ H => ∃ G2 x3 x4, J M G2 H ∧ Ex G G2 ∧ σ = [some (.ref d.p), some (.int n), some (.int (genM f i)), x3, x4]) ⟨G, _, _, j, Same.refl _, rfl⟩ ?_ ?_ (by omega) (by omega)
  · rintro i σ H hi ⟨G2, x3, x4, j, e, rfl⟩
    walk_at "go"
    refine w_methS j (fun a o h => (sb a o h).imp id (e a o)) hd.op (no_Disk (by decide +kernel) (by decide +kernel) (by decide +kernel) (by decide +kernel)) ?_
    walk_at "go"
    refine w_sg (N, d, s, (i : Int)) j ⟨rfl, hd.ex e, fun a o h => (sb a o h).imp id (e a o)⟩ fun v1 M1 G1 H1 j1 e1 ⟨ev, em⟩ => ?_
    dsimp only at ev em
    have hv := (hf (i : Int)).ex (e.trans e1)
    rw [← ev] at hv
    subst em
    walk_at "go"
    cases hb : f (i : Int) with
    | none =>
      rw [hb] at hv
      cases (show v1 = .non from hv)
      refine w_nT rfl ?_
      walk_at "go"
      refine ⟨G1, some (.int i), some .non, j1, e.trans e1, ?_⟩
      rw [genM_succ]; unfold genS; rw [hb]; rfl
    | some b =>
      rw [hb] at hv
      obtain ⟨t, u, rfl, ht, hu⟩ := hv
      refine w_nF (fun z => nomatch z) ?_
      walk_at "go"
      refine w_ixT j1 (st_of ht) (by rfl) ?_
      walk_at "go"
      refine ⟨_, _, rfl, ?_⟩
      refine ⟨G1, some (.int i), some (.ref t), j1, e.trans e1, ?_⟩
      rw [genM_succ]; unfold genS; rw [hb]; rfl
  · rintro σ H ⟨G2, x3, x4, j, e, rfl⟩
    walk_at "go"
    rw [Int.toNat_natCast]
    exact k _ _ _ _ j e ⟨rfl, rfl⟩
/-! ### blocks_at -/
abbrev s_blocks_at : Stmt := top 25
abbrev n_blocks_at : List Str := ["disk", "place", "number", "first", "generation", "parts", "blocks", "block"]
theorem sc_blocks_at : FnScope n_blocks_at ["disk", "place", "number"] (defScope s_blocks_at) := ⟨rfl, rfl, rfl, by decide +kernel, rfl, by decide +kernel, by decide +kernel⟩
def sp_blocks_at (K : PySem.W.Frag) (C : Addr) : Sp := Sg (α := Hp × DA × DS × (Int → Option Bk) × Int × Int) (fun x vs M G => vs = [.ref x.2.1.p, .int x.2.2.2.2.1, .int x.2.2.2.2.2] ∧ DkAt C x.1 G x.2.1 x.2.2.1 ∧ Sub x.1 M G ∧ (∀ n, BvAt K G (lookM x.2.2.1 n) (x.2.2.2.1 n)) ∧ x.2.2.1.kb.length + x.2.2.1.kf.length < 100000)
  (fun x M _ v M' G' => M' = M ∧ ∃ p vs, v = .ref p ∧ G' p = some (.lst vs) ∧ BksAt K G' vs (runF x.2.2.2.1 x.2.2.2.2.1 x.2.2.2.2.2))
theorem ok_blocks_at {P : Program} {w : World} {K : PySem.W.Frag} {mg : Str → Option Value} {base : Heap}
    {C_Disk : Addr} (T_Disk : Tx_Disk K mg C_Disk)
    {f : Addr} {fd : FuncData} (D : Dn K mg "blocks_at" s_blocks_at ["disk", "place", "number"] f fd)
    (b_len : mg "len" = none)
    (c_Disk_look : CalM P w K mg base CX0 1 C_Disk "look" (sp_Disk_look K C_Disk)) : Cal P w K mg base CX0 2 "blocks_at" (sp_blocks_at K C_Disk) := by
  refine D.ok sc_blocks_at (fun vs H Q E h => ?_) fun cdv A outer s H vs Q E hr h => ?_
  · obtain ⟨x, M, G, j, ⟨rfl, _⟩, _⟩ := h; rfl
  obtain ⟨⟨N, d, s, f, place, m⟩, M, G, j, ⟨rfl, hd, sb, hf, z⟩, k⟩ := h
  dsimp only at hd sb hf z k
  have sb1 : ∀ {G1 : Hp}, Ex G G1 → Sub N M G1 := fun e a o h => (sb a o h).imp id (e a o)
  have noD : ∀ {m : Str} {x0 x1 x2 x3 : V}, ¬ m = "blocks" → ¬ m = "cache" → ¬ m = "fresh" → ¬ m = "reach" → (fl_Disk x0 x1 x2 x3).lookup m = none := no_Disk
  refine ⟨_, (pss_cons (ps_set (i := 3) sc_blocks_at.nd rfl (Or.inl rfl) (pe_calM c_Disk_look T_Disk.cl hr (by first | decide | omega) (pv 0) (pa_cons (pv 1) pa_nil)))
(pss_cons (ps_if (pt_cmp (pc_isN (pv 3)))
(pss_one (ps_ret (pe_lst pa_nil)))
pss_nil)
(pss_cons (ps_set (i := 4) sc_blocks_at.nd rfl (Or.inl rfl) (pe_ix (ix_uK (K := K) rfl) (pv 3) pe_int (fun _ _ => rfl)))
(pss_cons (ps_set (i := 5) sc_blocks_at.nd rfl (Or.inl rfl) (pe_ix (ix_uK (K := K) rfl) (pv 3) pe_int (fun _ _ => rfl)))
(pss_cons (ps_set (i := 6) sc_blocks_at.nd rfl (Or.inl rfl) (pe_lst pa_nil))
(pss_cons (ps_while PassesOwn.never (pt_cmpR op_lt (pe_callB (call_uLenK (K := K) rfl) (by rfl) b_len PySem.boot_len (pa_cons (pv 6) pa_nil)) (pv 5) (nomark _))
(pss_cons (ps_set (i := 7) sc_blocks_at.nd rfl (Or.inl rfl) (pe_calM c_Disk_look T_Disk.cl hr (by first | decide | omega) (pv 0) (pa_cons (pe_op (op_uAddK (K := K) rfl) (pv 1) (pe_callB (call_uLenK (K := K) rfl) (by rfl) b_len PySem.boot_len (pa_cons (pv 6) pa_nil))) pa_nil)))
(pss_cons (ps_if (PW.pt (pw_or (pt_cmp (pc_isN (pv 7))) (pw_or1 (pt_cmpR (op_uNeK (K := K) rfl hr) (pe_slice (sl_uK (K := K) rfl) (pv 7) po_none (po_some pe_int)) (pe_tup (pa_cons (pv 4) (pa_cons (pv 2) (pa_cons (pe_callB (call_uLenK (K := K) rfl) (by rfl) b_len PySem.boot_len (pa_cons (pv 6) pa_nil)) (pa_cons (pv 5) pa_nil))))) (nomark _)))))
(pss_one (ps_ret (pe_lst pa_nil)))
pss_nil)
(pss_one (ps_expr (pe_bm PySem.F.plainAttrs_list PySem.F.slot_list_append PySem.F.type_list_append mt_append (pv 6) (pa_cons (pv 7) pa_nil)))))))
(pss_one (ps_ret (pv 6))))))))), ?_⟩
  walk_at "start"
  refine w_methS j sb hd.op (no_Disk (by decide +kernel) (by decide +kernel) (by decide +kernel) (by decide +kernel)) ?_
  walk_at "go"
  refine w_sg (N, d, s, place) j ⟨rfl, hd, sb⟩ fun v M1 G1 H1 j1 e1 ⟨hv, hm1⟩ => ?_
  subst hm1
  have hv1 := (hf place).ex e1
  dsimp only at hv
  rw [← hv] at hv1
  walk_at "go"
  cases h0 : f place with
  | none =>
    rw [h0] at hv1
    have hv2 : v = .non := hv1
    rw [hv2]
    refine w_T ?_
    walk_at "go"
    refine w_new j1 (Nat.zero_le _) fun p G2 H2 j2 e2 h2 _ => ?_
    exact k _ _ _ _ j2 (e1.trans e2) ⟨rfl, p, [], rfl, h2, by rw [run_none h0]; exact .nil⟩
  | some b0 =>
    rw [h0] at hv1
    obtain ⟨t, u, ev, ht, hu⟩ := hv1
    rw [ev]
    refine w_F ?_
    walk_at "go"
    refine w_ixT j1 (st_of ht) (by rfl) ?_
    walk_at "go"
    refine w_ixT j1 (st_of ht) (by rfl) ?_
    walk_at "go"
    refine w_newM j1 (Nat.zero_le _) fun L H2 j2 nM nG => ?_
    walk_at "go"
    have sb3 : ∀ {G1 : Hp} {acc : List V}, Ex G G1 → Sub N (upd M1 L (.lst acc)) G1 := fun e a o h => (sb1 e a o h).imp (fun q => upd_ne' q (ne_of_none q nM)) id
    have ret : ∀ {acc ws : List V} {G1 H1 : Hp}, J (upd M1 L (.lst acc)) G1 H1 → Ex G G1 → ∃ G2, J M1 G2 H1 ∧ Ex G1 G2 ∧ G2 L = some (.lst acc) := fun {acc ws G1 H1} j e => by
      have hL : upd M1 L (.lst acc) L = some (.lst acc) := upd_same
      have j2 := j.seal hL
      rw [Ag.del_eq Ag.upd nM] at j2
      exact ⟨_, j2, Ex.new (j.out hL), upd_same⟩
    refine w_while (fun mm σ H => ∃ i acc G1 x7, mm = s.kb.length + s.kf.length + 1 - i ∧ i ≤ b0.q.toNat ∧ J (upd M1 L (.lst acc)) G1 H ∧ Ex G G1 ∧ BksAt K G1 acc ((List.range i).map fun k : Nat => (f (place + (k : Int))).getD b0) ∧ (∀ k, k < i → okB b0 m k (f (place + k)) = true) ∧
      σ = [some (.ref d.p), some (.int place), some (.int m), some (.ref t), some (.int b0.g), some (.int b0.q), some (.ref L), x7]) _ ⟨0, [], G1, _, rfl, Nat.zero_le _, j2, e1, .nil, fun k h => absurd h (Nat.not_lt_zero k), rfl⟩ ?_
    rintro mm σ H3 R ⟨i, acc, G3, x7, rfl, hi, j3, e3, hb, ok, rfl⟩ hR
    have la : acc.length = i := by rw [hb.len, List.length_map, List.length_range]
    have ib : i ≤ s.kb.length + s.kf.length := run_bound hf fun k hk => by
      have := ok k hk
      cases e : f (place + (k : Int)) with
      | none => rw [e] at this; cases this
      | some b => rfl
    walk_at "go"
    refine w_lenM j3 upd_same ?_
    walk_at "go"
    refine hR _ _ ?_
    rw [la]
    refine w_dec (fun h => ?_) (fun h => ?_)
    · have il : i < b0.q.toNat := by omega
      walk_at "go"
      refine w_methS j3 (sb3 e3) hd.op (no_Disk (by decide +kernel) (by decide +kernel) (by decide +kernel) (by decide +kernel)) ?_
      walk_at "go"
      refine w_lenM j3 upd_same ?_
      walk_at "go"
      rw [la]
      refine w_sg (N, d, s, place + i) j3 ⟨rfl, hd.ex e3, sb3 e3⟩ fun v M4 G4 H4 j4 e4 ⟨hv, hm4⟩ => ?_
      subst hm4
      have hv4 := (hf (place + i)).ex (e3.trans e4)
      dsimp only at hv
      rw [← hv] at hv4
      have E4 := e3.trans e4
      have bad : okB b0 m i (f (place + i)) = false → ∀ {G5 H5 : Hp}, J (upd M1 L (.lst acc)) G5 H5 → Ex G G5 → NewO (.lst []) 0 H5 Q := fun ok G5 H5 j5 e5 => by
        obtain ⟨G6, j6, e6, _⟩ := ret (ws := []) j5 e5
        refine w_new j6 (Nat.zero_le _) fun p G7 H7 j7 e7 h7 _ => ?_
        exact k _ _ _ _ j7 ((e5.trans e6).trans e7) ⟨rfl, p, [], rfl, h7, by rw [run_bad h0 il ok]; exact .nil⟩
      walk_at "go"
      cases hfi : f (place + i) with
      | none =>
        rw [hfi] at hv4 bad
        have hv2 : v = .non := hv4
        rw [hv2]
        refine w_T ?_
        walk_at "go"
        exact bad rfl j4 E4
      | some b =>
        rw [hfi] at hv4 bad
        obtain ⟨t2, u2, ev2, ht2, hu2⟩ := hv4
        rw [ev2]
        refine w_F ?_
        walk_at "go"
        refine w_slTG j4 (st_of ht2) fun p5 G5 H5 j5 e5 h5 => ?_
        walk_at "go"
        refine w_lenM j5 upd_same ?_
        walk_at "go"
        refine w_new j5 (by show 4 ≤ sizeLine; decide) fun p6 G6 H6 j6 e6 h6 _ => ?_
        rw [la] at h6
        have h5' : SqT K G5 p5 [.int b.g, .int b.n, .int b.p, .int b.q] := h5
        refine w_ne4 j6 (st_mono e6 h5') (st_of h6) ?_
        refine w_bl ?_
        refine w_decN (fun h => ?_) (fun h => ?_)
        · walk_at "go"
          exact bad (decide_eq_false h) j6 ((E4.trans e5).trans e6)
        · walk_at "go"
          refine ⟨ty_listU j6, ?_⟩
          walk_at "go"
          refine w_appendU j6 (by omega) fun H7 j7 => ?_
          walk_at "go"
          refine ⟨_, ?_, i + 1, acc ++ [.ref t2], G6, _, rfl, il, j7, (E4.trans e5).trans e6, ?_, fun k hk => ?_, rfl⟩
          · omega
          · rw [List.range_succ, List.map_append]
            refine (hb.ex ((e4.trans e5).trans e6)).snoc ?_
            show BkAt K G6 (.ref t2) ((f (place + (i : Int))).getD b0)
            rw [hfi]
            exact BkAt.ex ⟨t2, u2, rfl, ht2, hu2⟩ (e5.trans e6)
          · by_cases q : k = i
            · subst q; rw [hfi]; exact decide_eq_true h
            · exact ok k (by omega)
    · have iq : i = b0.q.toNat := by omega
      subst iq
      walk_at "go"
      obtain ⟨G6, j6, e6, h6⟩ := ret (ws := []) j3 e3
      refine k _ _ _ _ j6 (e3.trans e6) ⟨rfl, L, acc, rfl, h6, ?_⟩
      rw [run_good h0 ok]
      exact hb.ex e6
/-! ### cell_at -/
abbrev s_cell_at : Stmt := top 17
abbrev n_cell_at : List Str := ["cells", "at"]
theorem sc_cell_at : FnScope n_cell_at ["cells", "at"] (defScope s_cell_at) := ⟨rfl, rfl, rfl, by decide +kernel, rfl, by decide +kernel, by decide +kernel⟩
def sp_cell_at (K : PySem.W.Frag) (C : Addr) : Sp := Sx (α := Addr × List Int × Nat) (fun x vs _ G => vs = [.ref x.1, .int x.2.2] ∧ SqL K G x.1 (x.2.1.map V.int))
  (fun x M _ v M' _ => M' = M ∧ ∃ i, x.2.1[x.2.2]? = some i ∧ v = .int i) (fun x M _ c M' _ => c = C ∧ M' = M ∧ x.2.1[x.2.2]? = none)
theorem ok_cell_at {P : Program} {w : World} {K : PySem.W.Frag} {mg : Str → Option Value} {base : Heap}
    {f : Addr} {fd : FuncData} (D : Dn K mg "cell_at" s_cell_at ["cells", "at"] f fd)
    (b_len : mg "len" = none)
    {A_BadRecord : Addr} (x_BadRecord : Xc K mg "BadRecord" A_BadRecord) : Cal P w K mg base (L2.CX P w) 1 "cell_at" (sp_cell_at K A_BadRecord) := by
  refine D.okX sc_cell_at (fun vs H Q E h => ?_) fun cdv A outer s H vs Q E hr h => ?_
  · obtain ⟨x, M, G, j, ⟨rfl, _⟩, _⟩ := h; rfl
  obtain ⟨⟨a, cs, at_⟩, M, G, j, ⟨rfl, ha⟩, k, kx⟩ := h
  dsimp only at ha k kx
  refine ⟨_, (pss_cons (ps_if (pt_cmpR op_ge (pv 1) (pe_callB (call_uLenK (K := K) rfl) (by rfl) b_len PySem.boot_len (pa_cons (pv 0) pa_nil)) (nomark _))
(pss_one (ps_raiseA rfl (takes_of rfl rfl rfl rfl) x_BadRecord (by rfl)))
pss_nil)
(pss_one (ps_ret (pe_ix (ix_uK (K := K) rfl) (pv 0) (pv 1) (fun _ _ => rfl))))), ?_⟩
  walk_at "start"
  refine w_lenL j ha ?_
  walk_at "go"
  rw [List.length_map]
  refine w_dec (fun h => ?_) (fun h => ?_)
  · walk_at "go"
    exact kx _ _ _ _ j (Same.refl G) ⟨rfl, rfl, List.getElem?_eq_none (by omega)⟩
  · walk_at "go"
    have hl : at_ < cs.length := by omega
    have e := List.getElem?_eq_getElem hl
    refine w_ixL j ha (ints_ix e) ?_
    exact k _ _ _ _ j (Same.refl G) ⟨rfl, _, e, rfl⟩
/-! ### tuple_at -/
abbrev s_tuple_at : Stmt := top 19
abbrev n_tuple_at : List Str := ["cells", "at", "room", "length", "place", "parts", "_", "part"]
theorem sc_tuple_at : FnScope n_tuple_at ["cells", "at", "room"] (defScope s_tuple_at) := ⟨rfl, rfl, rfl, by decide +kernel, rfl, by decide +kernel, by decide +kernel⟩
def spRecA (K : PySem.W.Frag) (C : Addr) (n : Nat) : Sp := Sx (α := Addr × List Int × Nat) (fun x vs _ G => vs = [.ref x.1, .int x.2.2, .int n] ∧ SqL K G x.1 (x.2.1.map V.int) ∧ x.2.1.length ≤ 100000)
  (fun x M _ v M' G' => M' = M ∧ ∃ t u r p, v = .ref t ∧ G' t = some (.tup [u, .int (p : Nat)]) ∧ RcAt K G' u r ∧ qM x.2.1 n x.2.2 = some (r, p)) (fun x M _ c M' _ => c = C ∧ M' = M ∧ qM x.2.1 n x.2.2 = none)
def spRecAP (K : PySem.W.Frag) (C : Addr) : Nat → Sp
  | 0 => spNone
  | n + 1 => spRecA K C n
def spTupA (K : PySem.W.Frag) (C : Addr) (n : Nat) : Sp := Sx (α := Addr × List Int × Nat) (fun x vs _ G => vs = [.ref x.1, .int x.2.2, .int n] ∧ SqL K G x.1 (x.2.1.map V.int) ∧ x.2.1.length ≤ 100000)
  (fun x M _ v M' G' => M' = M ∧ ∃ t u r p, v = .ref t ∧ G' t = some (.tup [u, .int (p : Nat)]) ∧ RcAt K G' u r ∧ tupQ x.2.1 x.2.2 (recQ x.2.1 n) = some (r, p)) (fun x M _ c M' _ => c = C ∧ M' = M ∧ tupQ x.2.1 x.2.2 (recQ x.2.1 n) = none)
def sp_tuple_at (K : PySem.W.Frag) (C : Addr) : Sp := spTupA K C 30
def sp_record_at (K : PySem.W.Frag) (C : Addr) : Sp := spRecA K C 30
theorem aux_tuple {P : Program} {w : World} {K : PySem.W.Frag} {mg : Str → Option Value} {base : Heap}
    {f : Addr} {fd : FuncData} (D : Dn K mg "tuple_at" s_tuple_at ["cells", "at", "room"] f fd)
    (b_tuple : mg "tuple" = none)
    (b_range : mg "range" = none)
    (b_len : mg "len" = none)
    {A_BadRecord : Addr} (x_BadRecord : Xc K mg "BadRecord" A_BadRecord)
    (c_cell_at : Cal P w K mg base (L2.CX P w) 1 "cell_at" (sp_cell_at K A_BadRecord))
    (n : Nat) (c_record_at : Cal P w K mg base (L2.CX P w) (2 * n + 1) "record_at" (spRecAP K A_BadRecord n)) : Cal P w K mg base (L2.CX P w) (2 * n + 2) "tuple_at" (spTupA K A_BadRecord n) := by
  refine D.okX sc_tuple_at (fun vs H Q E h => ?_) fun cdv A outer s H vs Q E hr h => ?_
  · obtain ⟨x, M, G, j, ⟨rfl, _⟩, _⟩ := h; rfl
  obtain ⟨⟨a, cs, at_⟩, M, G, j, ⟨rfl, ha, hz⟩, k, kx⟩ := h
  dsimp only at ha hz k kx
  refine ⟨_, (pss_cons (ps_set (i := 3) sc_tuple_at.nd rfl (Or.inl rfl) (pe_calX c_cell_at hr (by first | decide | omega) (by rfl) (takes_of rfl rfl rfl rfl) (pa_cons (pv 0) (pa_cons (pv 1) pa_nil))))
(pss_cons (ps_set (i := 4) sc_tuple_at.nd rfl (Or.inl rfl) (pe_op (op_uAddK (K := K) rfl) (pv 1) pe_int))
(pss_cons (ps_if (pt_not (pt_chain op_le op_le pe_int (pv 3) (pe_op op_sub (pe_callB (call_uLenK (K := K) rfl) (by rfl) b_len PySem.boot_len (pa_cons (pv 0) pa_nil)) (pv 4))))
(pss_one (ps_raiseA rfl (takes_of rfl rfl rfl rfl) x_BadRecord (by rfl)))
pss_nil)
(pss_cons (ps_if (pt_cmpR (op_uEqK (K := K) rfl hr) (pv 2) pe_int (nomark _))
(pss_one (ps_raiseA rfl (takes_of rfl rfl rfl rfl) x_BadRecord (by rfl)))
pss_nil)
(pss_cons (ps_set (i := 5) sc_tuple_at.nd rfl (Or.inl rfl) (pe_lst pa_nil))
(pss_cons (ps_for (passes_of rfl) rfl (pi_range1 (by rfl) b_range (pa_cons (pv 3) pa_nil)) (pg_name (i := 6) sc_tuple_at.nd rfl (Or.inl rfl))
(pss_cons (ps_asg (pe_calX c_record_at hr (by first | decide | omega) (by rfl) (takes_of rfl rfl rfl rfl) (pa_cons (pv 0) (pa_cons (pv 4) (pa_cons (pe_op op_sub (pv 2) pe_int) pa_nil)))) (pg_tup rfl (pgs_cons (pg_name (i := 7) sc_tuple_at.nd rfl (Or.inl rfl)) (pgs_cons (pg_name (i := 4) sc_tuple_at.nd rfl (Or.inl rfl)) pgs_nil))))
(pss_one (ps_expr (pe_bm PySem.F.plainAttrs_list PySem.F.slot_list_append PySem.F.type_list_append mt_append (pv 5) (pa_cons (pv 7) pa_nil))))))
(pss_one (ps_ret (pe_tup (pa_cons (pe_callTy (call_tupC (K := K) rfl) (by rfl) b_tuple bt_tuple (pa_cons (pv 5) pa_nil)) (pa_cons (pv 4) pa_nil))))))))))), ?_⟩
  walk_at "start"
  refine w_sx (a, cs, at_) j ⟨rfl, ha⟩ (fun v M1 G1 H1 j1 e1 ⟨em, i, hi, ev⟩ => ?_) fun c M1 G1 H1 j1 e1 ⟨ec, em, hi⟩ => ?_
  · subst ev em
    dsimp only at hi
    walk_at "go"
    have ha1 := sl_mono e1 ha
    have bad : tupQ cs at_ (recQ cs n) = none → ∀ G' H, J M1 G' H → Ex G1 G' → E (.ref A_BadRecord) none H := fun n G' H j e => kx _ _ _ _ j (e1.trans e) ⟨rfl, rfl, n⟩
    have tq : tupQ cs at_ (recQ cs n) = if 0 ≤ i ∧ i ≤ (cs.length : Int) - (at_ + 1) then ((recQ cs n).bind fun f => (partsM f i.toNat (at_ + 1)).map fun y => (.tup y.1, y.2)) else none := by unfold tupQ; rw [hi]; rfl
    have noG : ¬ (0 ≤ i ∧ i ≤ (cs.length : Int) - (at_ + 1)) → tupQ cs at_ (recQ cs n) = none := fun z => by rw [tq, if_neg z]
    refine w_dec (fun h1 => ?_) (fun h1 => ?_)
    · walk_at "go"
      refine w_lenL j1 ha1 ?_
      walk_at "go"
      rw [List.length_map]
      refine w_decN (fun h2 => ?_) (fun h2 => ?_)
      · walk_at "go"
        exact bad (noG (by omega)) _ _ j1 (Same.refl _)
      · walk_at "go"
        have hg : 0 ≤ i ∧ i ≤ (cs.length : Int) - (at_ + 1) := ⟨h1, by omega⟩
        rw [if_pos hg] at tq
        cases n with
        | zero =>
          refine w_dT rfl ?_
          walk_at "go"
          exact bad tq _ _ j1 (Same.refl _)
        | succ n =>
          refine w_dF (by omega) ?_
          walk_at "go"
          refine w_newM j1 (Nat.zero_le _) fun L H2 j2 nL gL => ?_
          walk_at "go"
          have tq : tupQ cs at_ (recQ cs (n + 1)) = (partsM (fun a => qM cs n a) i.toNat (at_ + 1)).map fun y => (.tup y.1, y.2) := tq
          refine w_rng (fun q σ H => ∃ G2 vs rs pl x6 x7, J (upd M1 L (.lst vs)) G2 H ∧ Ex G1 G2 ∧ RcsAt K G2 vs rs ∧ rs.length = q ∧ partsM (fun a => qM cs n a) q (at_ + 1) = some (rs, pl) ∧ σ = [some (.ref a), some (.int at_), some (.int ((n + 1 : Nat) : Int)), some (.int i), some (.int (pl : Nat)), some (.ref L), x6, x7])
            ⟨G1, [], [], at_ + 1, _, _, j2, Same.refl _, .nil, rfl, rfl, rfl⟩ ?_ ?_ (by omega) (by omega)
          · rintro q σ H hq ⟨G2, vs, rs, pl, x6, x7, j3, e3, hrs, hl, hp, rfl⟩
            walk_at "go"
            show spRecA K A_BadRecord n _ _ _ _
            refine w_sx (a, cs, pl) j3 ⟨by show [V.ref a, .int pl, V.int (((n + 1 : Nat) : Int) - 1)] ++ [] = [V.ref a, .int pl, .int n]; rw [show ((n + 1 : Nat) : Int) - 1 = n by omega]; rfl, sl_mono e3 ha1, hz⟩ (fun v M3 G3 H3 j4 e4 ⟨em, t, u, r, p, ev, ht, hr, hqm⟩ => ?_) fun c M3 G3 H3 j4 e4 ⟨ec, em, hqm⟩ => ?_
            · subst ev em
              refine w_gTup j4 (st_of ht) rfl ?_
              refine w_gCons (w_gName (w_gCons (w_gName (w_gNil ?_))))
              walk_at "go"
              refine ⟨ty_listU j4, ?_⟩
              walk_at "go"
              refine w_appendU j4 (by rw [hrs.len]; omega) fun H5 j5 => ?_
              refine ⟨G3, _, rs ++ [r], p, _, _, j5, e3.trans e4, (hrs.ex e4).snoc hr, by rw [List.length_append, hl]; rfl, ?_, rfl⟩
              rw [partsM_snoc, hp]
              show (qM cs n pl).map _ = _
              dsimp only at hqm
              rw [hqm]; rfl
            · subst ec em
              refine bad ?_ _ _ (show J M1 G3 H3 from ?_) (e3.trans e4)
              · rw [tq, partsM_bad hp hqm (by omega)]; rfl
              · have j5 := j4.drop L
                rwa [show del (upd M1 L _) L = M1 from by
                  funext b
                  by_cases q : b = L
                  · subst q; rw [del_same, nL]
                  · rw [del_ne q, upd_ne q]] at j5
          · rintro σ H ⟨G2, vs, rs, pl, x6, x7, j3, e3, hrs, hl, hp, rfl⟩
            walk_at "go"
            refine w_tupC (xs := vs) (.inl (.inl (j3.m _ _ upd_same))) (w_new j3 (Nat.zero_le _) fun T G4 H4 j4 e4 hT _ => ?_)
            walk_at "go"
            refine w_new j4 (by show 2 ≤ sizeLine; decide) fun U G5 H5 j5 e5 hU _ => ?_
            have j6 := j5.drop L
            rw [show del (upd M1 L (.lst vs)) L = M1 from by
                  funext b
                  by_cases q : b = L
                  · subst q; rw [del_same, nL]
                  · rw [del_ne q, upd_ne q]] at j6
            exact k _ _ _ _ j6 (e1.trans (e3.trans (e4.trans e5))) ⟨rfl, U, _, .tup rs, pl, rfl, hU, .tup (st_of (e5 _ _ hT)) (hrs.ex (e4.trans e5)), by rw [tq, hp]; rfl⟩
    · walk_at "go"
      exact bad (noG (by omega)) _ _ j1 (Same.refl _)
  · subst ec em
    exact kx _ _ _ _ j1 e1 ⟨rfl, rfl, by unfold tupQ; dsimp only at hi; rw [hi]; rfl⟩
/-! ### word_at -/
abbrev s_word_at : Stmt := top 18
abbrev n_word_at : List Str := ["cells", "at", "index"]
theorem sc_word_at : FnScope n_word_at ["cells", "at"] (defScope s_word_at) := ⟨rfl, rfl, rfl, by decide +kernel, rfl, by decide +kernel, by decide +kernel⟩
def sp_word_at (K : PySem.W.Frag) (C : Addr) : Sp := Sx (α := Addr × List Int × Nat) (fun x vs _ G => vs = [.ref x.1, .int x.2.2] ∧ SqL K G x.1 (x.2.1.map V.int))
  (fun x M _ v M' _ => M' = M ∧ ∃ s, wordQ x.2.1 x.2.2 = some s ∧ s ∈ WD ∧ v = .str s) (fun x M _ c M' _ => c = C ∧ M' = M ∧ wordQ x.2.1 x.2.2 = none)
theorem ok_word_at {P : Program} {w : World} {K : PySem.W.Frag} {mg : Str → Option Value} {base : Heap}
    {f : Addr} {fd : FuncData} (D : Dn K mg "word_at" s_word_at ["cells", "at"] f fd)
    (b_len : mg "len" = none)
    {a_WORDS : Addr} (g_WORDS : ∃ u, mg "WORDS" = some u ∧ RelV (.ref a_WORDS) u) (k_WORDS : ∀ H, SqT K H a_WORDS [V.str "decided", V.str "read", V.str "away", V.str "busy", V.str "rows", V.str "prepare", V.str "prepared", V.str "stale", V.str "decide", V.str "missing", V.str "drop", V.str "finish", V.str "split", V.str "none", V.str "unknown", V.str "next", V.str "time", V.str "counter", V.str "table", V.str "members", V.str "follower", V.str "candidate", V.str "leader", V.str "ask", V.str "vote", V.str "copy", V.str "base", V.str "got", V.str "make", V.str "term", V.str "entry"])
    {A_BadRecord : Addr} (x_BadRecord : Xc K mg "BadRecord" A_BadRecord)
    (c_cell_at : Cal P w K mg base (L2.CX P w) 1 "cell_at" (sp_cell_at K A_BadRecord)) : Cal P w K mg base (L2.CX P w) 2 "word_at" (sp_word_at K A_BadRecord) := by
  refine D.okX sc_word_at (fun vs H Q E h => ?_) fun cdv A outer s H vs Q E hr h => ?_
  · obtain ⟨x, M, G, j, ⟨rfl, _⟩, _⟩ := h; rfl
  obtain ⟨⟨a, cs, at_⟩, M, G, j, ⟨rfl, ha⟩, k, kx⟩ := h
  dsimp only at ha k kx
  refine ⟨_, (pss_cons (ps_set (i := 2) sc_word_at.nd rfl (Or.inl rfl) (pe_calX c_cell_at hr (by first | decide | omega) (by rfl) (takes_of rfl rfl rfl rfl) (pa_cons (pv 0) (pa_cons (pv 1) pa_nil))))
(pss_cons (ps_if (pt_not (pt_chain op_le op_lt pe_int (pv 2) (pe_callB (call_uLenK (K := K) rfl) (by rfl) b_len PySem.boot_len (pa_cons (pe_gk (by rfl) g_WORDS) pa_nil))))
(pss_one (ps_raiseA rfl (takes_of rfl rfl rfl rfl) x_BadRecord (by rfl)))
pss_nil)
(pss_one (ps_ret (pe_ix (ix_uK (K := K) rfl) (pe_gk (by rfl) g_WORDS) (pv 2) (fun _ _ => rfl)))))), ?_⟩
  walk_at "start"
  refine w_sx (a, cs, at_) j ⟨rfl, ha⟩ (fun v M1 G1 H1 j1 e1 ⟨em, i, hi, ev⟩ => ?_) fun c M1 G1 H1 j1 e1 ⟨ec, em, hi⟩ => ?_
  · subst ev em
    dsimp only at hi
    walk_at "go"
    have bad : ¬ (0 ≤ i ∧ i < 31) → ∀ H, J M1 G1 H → E (.ref A_BadRecord) none H := fun n H j => kx _ _ _ _ j e1 ⟨rfl, rfl, by unfold wordQ; rw [hi]; exact if_neg n⟩
    refine w_dec (fun h1 => ?_) (fun h1 => ?_)
    · walk_at "go"
      refine w_lenT (xs := WD.map V.str) j1 (k_WORDS G1) ?_
      walk_at "go"
      show if (!decide (i < ((31 : Nat) : Int))) = true then _ else _
      refine w_decN (fun h2 => ?_) (fun h2 => ?_)
      · walk_at "go"
        exact bad (by omega) _ j1
      · walk_at "go"
        obtain ⟨m, rfl⟩ := Int.eq_ofNat_of_zero_le h1
        have hl : m < WD.length := by show m < 31; omega
        have e := List.getElem?_eq_getElem hl
        refine w_ixT (xs := WD.map V.str) (v := .str WD[m]) j1 (k_WORDS G1) (atI_nat (by rw [List.getElem?_map, e]; rfl)) ?_
        exact k _ _ _ _ j1 e1 ⟨rfl, _, by unfold wordQ; rw [hi]; show (if 0 ≤ (m : Int) ∧ (m : Int) < 31 then WD[m]? else none) = _; rw [if_pos ⟨h1, by omega⟩]; exact e, List.getElem_mem hl, rfl⟩
    · walk_at "go"
      exact bad (by omega) _ j1
  · subst ec em
    exact kx _ _ _ _ j1 e1 ⟨rfl, rfl, by unfold wordQ; dsimp only at hi; rw [hi]; rfl⟩
/-! ### record_at -/
abbrev s_record_at : Stmt := top 20
abbrev n_record_at : List Str := ["cells", "at", "room", "kind"]
theorem sc_record_at : FnScope n_record_at ["cells", "at", "room"] (defScope s_record_at) := ⟨rfl, rfl, rfl, by decide +kernel, rfl, by decide +kernel, by decide +kernel⟩
theorem aux_record_at {P : Program} {w : World} {K : PySem.W.Frag} {mg : Str → Option Value} {base : Heap}
    {f : Addr} {fd : FuncData} (D : Dn K mg "record_at" s_record_at ["cells", "at", "room"] f fd)
    (g_TUPLE : ∃ u, mg "TUPLE" = some u ∧ RelV (.int 5) u)
    (g_WORD : ∃ u, mg "WORD" = some u ∧ RelV (.int 4) u)
    (g_TRUE : ∃ u, mg "TRUE" = some u ∧ RelV (.int 3) u)
    (g_FALSE : ∃ u, mg "FALSE" = some u ∧ RelV (.int 2) u)
    (g_NONE : ∃ u, mg "NONE" = some u ∧ RelV (.int 1) u)
    (g_INTEGER : ∃ u, mg "INTEGER" = some u ∧ RelV (.int 0) u)
    {A_BadRecord : Addr} (x_BadRecord : Xc K mg "BadRecord" A_BadRecord)
    (c_word_at : Cal P w K mg base (L2.CX P w) 2 "word_at" (sp_word_at K A_BadRecord))
    (c_cell_at : Cal P w K mg base (L2.CX P w) 1 "cell_at" (sp_cell_at K A_BadRecord))
    (n : Nat) (c_tuple_at : Cal P w K mg base (L2.CX P w) (2 * n + 2) "tuple_at" (spTupA K A_BadRecord n)) : Cal P w K mg base (L2.CX P w) (2 * n + 3) "record_at" (spRecA K A_BadRecord n) := by
  refine D.okX sc_record_at (fun vs H Q E h => ?_) fun cdv A outer s H vs Q E hr h => ?_
  · obtain ⟨x, M, G, j, ⟨rfl, _⟩, _⟩ := h; rfl
  obtain ⟨⟨a, cs, at_⟩, M, G, j, ⟨rfl, ha, hz⟩, k, kx⟩ := h
  dsimp only at ha hz k kx
  refine ⟨_, (pss_cons (ps_set (i := 3) sc_record_at.nd rfl (Or.inl rfl) (pe_calX c_cell_at hr (by first | decide | omega) (by rfl) (takes_of rfl rfl rfl rfl) (pa_cons (pv 0) (pa_cons (pv 1) pa_nil))))
(pss_cons (ps_if (pt_cmpR (op_uEqK (K := K) rfl hr) (pv 3) (pe_gk (by rfl) g_INTEGER) (nomark _))
(pss_one (ps_ret (pe_tup (pa_cons (pe_calX c_cell_at hr (by first | decide | omega) (by rfl) (takes_of rfl rfl rfl rfl) (pa_cons (pv 0) (pa_cons (pe_op (op_uAddK (K := K) rfl) (pv 1) pe_int) pa_nil))) (pa_cons (pe_op (op_uAddK (K := K) rfl) (pv 1) pe_int) pa_nil)))))
pss_nil)
(pss_cons (ps_if (pt_cmpR (op_uEqK (K := K) rfl hr) (pv 3) (pe_gk (by rfl) g_NONE) (nomark _))
(pss_one (ps_ret (pe_tup (pa_cons pe_non (pa_cons (pe_op (op_uAddK (K := K) rfl) (pv 1) pe_int) pa_nil)))))
pss_nil)
(pss_cons (ps_if (pt_cmpR (op_uEqK (K := K) rfl hr) (pv 3) (pe_gk (by rfl) g_FALSE) (nomark _))
(pss_one (ps_ret (pe_tup (pa_cons pe_bl (pa_cons (pe_op (op_uAddK (K := K) rfl) (pv 1) pe_int) pa_nil)))))
pss_nil)
(pss_cons (ps_if (pt_cmpR (op_uEqK (K := K) rfl hr) (pv 3) (pe_gk (by rfl) g_TRUE) (nomark _))
(pss_one (ps_ret (pe_tup (pa_cons pe_bl (pa_cons (pe_op (op_uAddK (K := K) rfl) (pv 1) pe_int) pa_nil)))))
pss_nil)
(pss_cons (ps_if (pt_cmpR (op_uEqK (K := K) rfl hr) (pv 3) (pe_gk (by rfl) g_WORD) (nomark _))
(pss_one (ps_ret (pe_tup (pa_cons (pe_calX c_word_at hr (by first | decide | omega) (by rfl) (takes_of rfl rfl rfl rfl) (pa_cons (pv 0) (pa_cons (pe_op (op_uAddK (K := K) rfl) (pv 1) pe_int) pa_nil))) (pa_cons (pe_op (op_uAddK (K := K) rfl) (pv 1) pe_int) pa_nil)))))
pss_nil)
(pss_cons (ps_if (pt_cmpR (op_uEqK (K := K) rfl hr) (pv 3) (pe_gk (by rfl) g_TUPLE) (nomark _))
(pss_one (ps_ret (pe_calX c_tuple_at hr (by first | decide | omega) (by rfl) (takes_of rfl rfl rfl rfl) (pa_cons (pv 0) (pa_cons (pe_op (op_uAddK (K := K) rfl) (pv 1) pe_int) (pa_cons (pv 2) pa_nil))))))
pss_nil)
(pss_one (ps_raiseA rfl (takes_of rfl rfl rfl rfl) x_BadRecord (by rfl)))))))))), ?_⟩
  walk_at "start"
  have qe := qM_eq cs n at_
  refine w_sx (a, cs, at_) j ⟨rfl, ha⟩ (fun v M1 G1 H1 j1 e1 ⟨em, i, hi, ev⟩ => ?_) fun c M1 G1 H1 j1 e1 ⟨ec, em, hi⟩ => ?_
  · subst ev em
    dsimp only at hi
    walk_at "go"
    have ha1 := sl_mono e1 ha
    unfold leafQ at qe
    rw [hi] at qe
    replace qe : qM cs n at_ = if i = 0 then (cs[at_ + 1]?).map fun i => (.int i, at_ + 2) else if i = 1 then some (.non, at_ + 1) else if i = 2 then some (.bl false, at_ + 1) else if i = 3 then some (.bl true, at_ + 1)
      else if i = 4 then (wordQ cs (at_ + 1)).map fun s => (.str s, at_ + 2) else if i = 5 then tupQ cs (at_ + 1) (recQ cs n) else none := qe
    have bad : qM cs n at_ = none → ∀ G' H, J M1 G' H → Ex G1 G' → E (.ref A_BadRecord) none H := fun n G' H j e => kx _ _ _ _ j (e1.trans e) ⟨rfl, rfl, n⟩
    have fin : ∀ (u : V) (r : Rc) (p : Nat) (G' H : Hp), J M1 G' H → Ex G1 G' → RcAt K G' u r → qM cs n at_ = some (r, p) → NewO (.tup [u, .int p]) [u, V.int p].length H Q := fun u r p G' H j e hr hq =>
      w_new j (by show 2 ≤ sizeLine; decide) fun t G2 H2 j2 e2 ht _ => k _ _ _ _ j2 (e1.trans (e.trans e2)) ⟨rfl, t, u, r, p, rfl, ht, hr.ex e2, hq⟩
    refine w_dec (fun h0 => ?_) (fun h0 => ?_)
    · walk_at "go"
      rw [if_pos h0] at qe
      refine w_sx (a, cs, at_ + 1) j1 ⟨rfl, ha1⟩ (fun v M2 G2 H2 j2 e2 ⟨em, i2, hi2, ev⟩ => ?_) fun c M2 G2 H2 j2 e2 ⟨ec, em, hi2⟩ => ?_
      · subst ev em
        walk_at "go"
        dsimp only at hi2
        exact fin (.int i2) (.int i2) (at_ + 2) _ _ j2 e2 (.int _) (by rw [qe, hi2]; rfl)
      · subst ec em
        dsimp only at hi2
        exact bad (by rw [qe, hi2]; rfl) _ _ j2 e2
    · rw [if_neg h0] at qe
      walk_at "go"
      refine w_dec (fun h1 => ?_) (fun h1 => ?_)
      · rw [if_pos h1] at qe
        walk_at "go"
        exact fin .non .non (at_ + 1) _ _ j1 (Same.refl _) .non qe
      · rw [if_neg h1] at qe
        walk_at "go"
        refine w_dec (fun h2 => ?_) (fun h2 => ?_)
        · rw [if_pos h2] at qe
          walk_at "go"
          exact fin (.bl false) (.bl false) (at_ + 1) _ _ j1 (Same.refl _) (.bl _) qe
        · rw [if_neg h2] at qe
          walk_at "go"
          refine w_dec (fun h3 => ?_) (fun h3 => ?_)
          · rw [if_pos h3] at qe
            walk_at "go"
            exact fin (.bl true) (.bl true) (at_ + 1) _ _ j1 (Same.refl _) (.bl _) qe
          · rw [if_neg h3] at qe
            walk_at "go"
            refine w_dec (fun h4 => ?_) (fun h4 => ?_)
            · rw [if_pos h4] at qe
              walk_at "go"
              refine w_sx (a, cs, at_ + 1) j1 ⟨rfl, ha1⟩ (fun v M2 G2 H2 j2 e2 ⟨em, s2, hi2, hw, ev⟩ => ?_) fun c M2 G2 H2 j2 e2 ⟨ec, em, hi2⟩ => ?_
              · subst ev em
                walk_at "go"
                dsimp only at hi2
                exact fin (.str s2) (.str s2) (at_ + 2) _ _ j2 e2 (.str _) (by rw [qe, hi2]; rfl)
              · subst ec em
                dsimp only at hi2
                exact bad (by rw [qe, hi2]; rfl) _ _ j2 e2
            · rw [if_neg h4] at qe
              walk_at "go"
              refine w_dec (fun h5 => ?_) (fun h5 => ?_)
              · rw [if_pos h5] at qe
                walk_at "go"
                show spTupA K A_BadRecord n _ _ _ _
                refine w_sx (a, cs, at_ + 1) j1 ⟨rfl, ha1, hz⟩ (fun v M2 G2 H2 j2 e2 ⟨em, t, u, r, p, ev, ht, hr, hq⟩ => ?_) fun c M2 G2 H2 j2 e2 ⟨ec, em, hq⟩ => ?_
                · subst ev em
                  exact k _ _ _ _ j2 (e1.trans e2) ⟨rfl, t, u, r, p, rfl, ht, hr, by rw [← hq]; exact qe⟩
                · subst ec em
                  exact bad (by rw [qe]; exact hq) _ _ j2 e2
              · rw [if_neg h5] at qe
                walk_at "go"
                exact bad qe _ _ j1 (Same.refl _)
  · subst ec em
    exact kx _ _ _ _ j1 e1 ⟨rfl, rfl, by dsimp only at hi ⊢; rw [qe]; unfold leafQ; rw [hi]; rfl⟩
theorem all_record {P : Program} {w : World} {K : PySem.W.Frag} {mg : Str → Option Value} {base : Heap}
    {f : Addr} {fd : FuncData} (D : Dn K mg "record_at" s_record_at ["cells", "at", "room"] f fd)
    (g_TUPLE : ∃ u, mg "TUPLE" = some u ∧ RelV (.int 5) u)
    (g_WORD : ∃ u, mg "WORD" = some u ∧ RelV (.int 4) u)
    (g_TRUE : ∃ u, mg "TRUE" = some u ∧ RelV (.int 3) u)
    (g_FALSE : ∃ u, mg "FALSE" = some u ∧ RelV (.int 2) u)
    (g_NONE : ∃ u, mg "NONE" = some u ∧ RelV (.int 1) u)
    (g_INTEGER : ∃ u, mg "INTEGER" = some u ∧ RelV (.int 0) u)
    {A_BadRecord : Addr} (x_BadRecord : Xc K mg "BadRecord" A_BadRecord)
    (c_word_at : Cal P w K mg base (L2.CX P w) 2 "word_at" (sp_word_at K A_BadRecord))
    (c_cell_at : Cal P w K mg base (L2.CX P w) 1 "cell_at" (sp_cell_at K A_BadRecord))
    (tup : ∀ n, Cal P w K mg base (L2.CX P w) (2 * n + 1) "record_at" (spRecAP K A_BadRecord n) → Cal P w K mg base (L2.CX P w) (2 * n + 2) "tuple_at" (spTupA K A_BadRecord n)) : Cal P w K mg base (L2.CX P w) 63 "record_at" (sp_record_at K A_BadRecord) := by
  have all : ∀ n, Cal P w K mg base (L2.CX P w) (2 * n + 3) "record_at" (spRecA K A_BadRecord n) := fun n => by
    induction n with
    | zero => exact aux_record_at D g_TUPLE g_WORD g_TRUE g_FALSE g_NONE g_INTEGER x_BadRecord c_word_at c_cell_at 0 (tup 0 (D.cal ⟨fun _ _ _ _ h => h.elim, fun _ _ _ _ _ _ _ _ _ _ _ _ _ h => h.elim⟩))
    | succ n ih => exact aux_record_at D g_TUPLE g_WORD g_TRUE g_FALSE g_NONE g_INTEGER x_BadRecord c_word_at c_cell_at (n + 1) (tup (n + 1) ih)
  exact all 30
def isI : V → Bool
  | .int _ => true
  | _ => false
/-! ### is_plain_integer -/
abbrev s_is_plain_integer : Stmt := top 4
abbrev n_is_plain_integer : List Str := ["thing"]
theorem sc_is_plain_integer : FnScope n_is_plain_integer ["thing"] (defScope s_is_plain_integer) := ⟨rfl, rfl, rfl, by decide +kernel, rfl, by decide +kernel, by decide +kernel⟩
def sp_is_plain_integer (K : PySem.W.Frag) : Sp := Sg (α := V) (fun x vs _ G => vs = [x] ∧ CellV K G x) (fun x M _ v M' _ => v = .bl (isI x) ∧ M' = M)
theorem ok_is_plain_integer {P : Program} {w : World} {K : PySem.W.Frag} {mg : Str → Option Value} {base : Heap}
    {f : Addr} {fd : FuncData} (D : Dn K mg "is_plain_integer" s_is_plain_integer ["thing"] f fd)
    (b_isinstance : mg "isinstance" = none)
    (b_bool : mg "bool" = none)
    (b_int : mg "int" = none) : Cal P w K mg base CX0 1 "is_plain_integer" (sp_is_plain_integer K) := by
  refine D.ok sc_is_plain_integer (fun vs H Q E h => ?_) fun cdv A outer s H vs Q E hr h => ?_
  · obtain ⟨x, M, G, j, ⟨rfl, _⟩, _⟩ := h; rfl
  obtain ⟨x, M, G, j, ⟨rfl, hx⟩, k⟩ := h
  refine ⟨_, (pss_one (ps_ret (pe_and (pe_callB (call_isiK' (K := K) rfl) (by rfl) b_isinstance bt_isinstance (pa_cons (pv 0) (pa_cons (pe_bltn (v := .ty "int") (by rfl) b_int bt_int rfl) pa_nil))) (pe_one (pe_not (pe_callB (call_isiK' (K := K) rfl) (by rfl) b_isinstance bt_isinstance (pa_cons (pv 0) (pa_cons (pe_bltn (v := .ty "bool") (by rfl) b_bool bt_bool rfl) pa_nil)))))))), ?_⟩
  walk_at "start"
  have fin : ∀ b, b = isI x → Q (.bl b) H := fun b e => k _ _ _ _ j (Same.refl G) ⟨by rw [e], rfl⟩
  rcases hx with hx | ⟨a, rfl, hx⟩
  · cases x with
    | non => walk_at "go"; exact fin _ rfl
    | bl b => walk_at "go"; exact fin _ rfl
    | int b => walk_at "go"; exact fin _ rfl
    | str b => walk_at "go"; exact fin _ rfl
    | byt b => cases hx
    | flt b => cases hx
    | ref b => cases hx
    | ty b => cases hx
  · refine w_isi false (ty_T (st_mono j.g hx)) (by rfl) ?_
    walk_at "go"
    exact fin _ rfl
/-! ### rebuild -/
abbrev s_rebuild : Stmt := top 21
abbrev n_rebuild : List Str := ["cells", "cell", "record", "behind"]
theorem sc_rebuild : FnScope n_rebuild ["cells"] (defScope s_rebuild) := ⟨rfl, rfl, rfl, by decide +kernel, rfl, by decide +kernel, by decide +kernel⟩
theorem all_ints : ∀ {vs : List V}, (∀ v ∈ vs, isI v = true) → ∃ cs : List Int, vs = cs.map V.int
  | [], _ => ⟨[], rfl⟩
  | v :: r, h => by
    obtain ⟨cs, e⟩ := all_ints (vs := r) fun x m => h x (List.mem_cons_of_mem _ m)
    have hv := h v List.mem_cons_self
    cases v with
    | int i => exact ⟨i :: cs, by rw [e]; rfl⟩
    | non => cases hv
    | bl b => cases hv
    | str b => cases hv
    | byt b => cases hv
    | flt b => cases hv
    | ref b => cases hv
    | ty b => cases hv
def sp_rebuild (K : PySem.W.Frag) (C : Addr) : Sp := Sx (α := Addr × List V) (fun x vs _ G => vs = [.ref x.1] ∧ SqL K G x.1 x.2 ∧ (∀ v ∈ x.2, CellV K G v) ∧ x.2.length ≤ 100000)
  (fun x M _ v M' G' => M' = M ∧ ∃ cs r, x.2 = cs.map V.int ∧ rebM cs = some r ∧ RcAt K G' v r) (fun x M _ c M' _ => c = C ∧ M' = M ∧ ∀ cs, x.2 = cs.map V.int → rebM cs = none)
theorem ok_rebuild {P : Program} {w : World} {K : PySem.W.Frag} {mg : Str → Option Value} {base : Heap}
    {f : Addr} {fd : FuncData} (D : Dn K mg "rebuild" s_rebuild ["cells"] f fd)
    (b_len : mg "len" = none)
    (b_isinstance : mg "isinstance" = none)
    (b_list : mg "list" = none)
    (g_DEEPEST : ∃ u, mg "DEEPEST" = some u ∧ RelV (.int 30) u)
    {A_BadRecord : Addr} (x_BadRecord : Xc K mg "BadRecord" A_BadRecord)
    (c_record_at : Cal P w K mg base (L2.CX P w) 63 "record_at" (sp_record_at K A_BadRecord))
    (c_is_plain_integer : Cal P w K mg base CX0 1 "is_plain_integer" (sp_is_plain_integer K)) : Cal P w K mg base (L2.CX P w) 64 "rebuild" (sp_rebuild K A_BadRecord) := by
  refine D.okX sc_rebuild (fun vs H Q E h => ?_) fun cdv A outer s H vs Q E hr h => ?_
  · obtain ⟨x, M, G, j, ⟨rfl, _⟩, _⟩ := h; rfl
  obtain ⟨⟨a, xs⟩, M, G, j, ⟨rfl, ha, hc, hz⟩, k, kx⟩ := h
  dsimp only at ha hc hz k kx
  refine ⟨_, (pss_cons (ps_if (pt_not (pt_val (pe_callB (call_isiK' (K := K) rfl) (by rfl) b_isinstance bt_isinstance (pa_cons (pv 0) (pa_cons (pe_bltn (v := .ty "list") (by rfl) b_list bt_list rfl) pa_nil)))))
(pss_one (ps_raiseA rfl (takes_of rfl rfl rfl rfl) x_BadRecord (by rfl)))
pss_nil)
(pss_cons (ps_for (passes_of rfl) rfl (pi_list (pv 0)) (pg_name (i := 1) sc_rebuild.nd rfl (Or.inl rfl))
(pss_one (ps_if (pt_not (pt_val (pe_cal c_is_plain_integer hr (by first | decide | omega) (by rfl) (pa_cons (pv 1) pa_nil))))
(pss_one (ps_raiseA rfl (takes_of rfl rfl rfl rfl) x_BadRecord (by rfl)))
pss_nil)))
(pss_cons (ps_asg (pe_calX c_record_at hr (by first | decide | omega) (by rfl) (takes_of rfl rfl rfl rfl) (pa_cons (pv 0) (pa_cons pe_int (pa_cons (pe_gk (by rfl) g_DEEPEST) pa_nil)))) (pg_tup rfl (pgs_cons (pg_name (i := 2) sc_rebuild.nd rfl (Or.inl rfl)) (pgs_cons (pg_name (i := 3) sc_rebuild.nd rfl (Or.inl rfl)) pgs_nil))))
(pss_cons (ps_if (pt_cmpR (op_uNeK (K := K) rfl hr) (pv 3) (pe_callB (call_uLenK (K := K) rfl) (by rfl) b_len PySem.boot_len (pa_cons (pv 0) pa_nil)) (nomark _))
(pss_one (ps_raiseA rfl (takes_of rfl rfl rfl rfl) x_BadRecord (by rfl)))
pss_nil)
(pss_one (ps_ret (pv 2))))))), ?_⟩
  walk_at "start"
  refine w_isi true (ty_L (sl_mono j.g ha)) (by rfl) ?_
  walk_at "go"
  refine w_forLV rfl (xs := xs) (fun n σ H => ∃ G1 x1 x2 x3, J M G1 H ∧ Ex G G1 ∧ (∀ m v, m < n → xs[m]? = some v → isI v = true) ∧ σ = [some (.ref a), x1, x2, x3]) (sl_mono j.g ha) ⟨G, _, _, _, j, Same.refl G, fun m v h => absurd h (Nat.not_lt_zero m), rfl⟩ ?_ ?_ ?_
  · rintro n σ H _ ⟨G1, x1, x2, x3, j, e, _⟩
    exact sl_mono j.g (sl_mono e ha)
  · rintro n v σ H hv ⟨G1, x1, x2, x3, j, e, ok, rfl⟩
    walk_at "go"
    refine w_sg v j ⟨rfl, (hc v (List.mem_of_getElem? hv)).ex e⟩ fun u M2 G2 H2 j2 e2 ⟨ev, em⟩ => ?_
    subst ev em
    refine w_bl ?_
    cases hb : isI v with
    | false =>
      refine w_nf ?_
      walk_at "go"
      refine kx _ _ _ _ j2 (e.trans e2) ⟨rfl, rfl, fun cs hcs => ?_⟩
      rw [hcs, List.getElem?_map] at hv
      cases q : cs[n]? with
      | none => rw [q] at hv; cases hv
      | some i => rw [q] at hv; have hv := Option.some.inj hv; subst hv; cases hb
    | true =>
      refine w_nt ?_
      walk_at "go"
      refine ⟨G2, _, x2, x3, j2, e.trans e2, fun m u hm hu => ?_, rfl⟩
      by_cases q : m = n
      · subst q; rw [hv] at hu; cases hu; exact hb
      · exact ok m u (by omega) hu
  · rintro σ H ⟨G1, x1, x2, x3, j, e, ok, rfl⟩
    obtain ⟨cs, rfl⟩ := all_ints (vs := xs) fun v hv => by
      obtain ⟨m, hm⟩ := List.getElem?_of_mem hv
      exact ok m v (List.getElem?_eq_some_iff.mp hm).1 hm
    rw [List.length_map] at hz
    walk_at "go"
    have inj : ∀ cs', cs.map V.int = cs'.map V.int → cs' = cs := fun cs' h => by
      have hi : Function.Injective V.int := fun x y z => V.int.inj z
      exact (List.map_inj_right (fun x y z => V.int.inj z)).mp h.symm
    show spRecA K A_BadRecord 30 _ _ _ _
    refine w_sx (a, cs, 0) j ⟨rfl, sl_mono e ha, hz⟩ (fun v M2 G2 H2 j2 e2 ⟨em, t, u, r, p, ev, ht, hr, hq⟩ => ?_) fun c M2 G2 H2 j2 e2 ⟨ec, em, hq⟩ => ?_
    · subst ev em
      refine w_gTup j2 (st_of ht) rfl ?_
      refine w_gCons (w_gName (w_gCons (w_gName (w_gNil ?_))))
      walk_at "go"
      refine w_lenL j2 (sl_mono e2 (sl_mono e ha)) ?_
      walk_at "go"
      rw [List.length_map]
      dsimp only at hq
      have rb : rebM cs = if p = cs.length then some r else none := by unfold rebM; rw [hq]; rfl
      refine w_decN (fun h => ?_) (fun h => ?_)
      · walk_at "go"
        exact kx _ _ _ _ j2 (e.trans e2) ⟨rfl, rfl, fun cs' h2 => by rw [inj cs' h2, rb, if_neg (by omega)]⟩
      · walk_at "go"
        exact k _ _ _ _ j2 (e.trans e2) ⟨rfl, cs, r, rfl, by rw [rb, if_pos (by omega)], hr⟩
    · subst ec em
      refine kx _ _ _ _ j2 (e.trans e2) ⟨rfl, rfl, fun cs' h2 => ?_⟩
      rw [inj cs' h2]
      unfold rebM
      dsimp only at hq
      rw [hq]; rfl
/-! ### record_of -/
abbrev s_record_of : Stmt := top 26
abbrev n_record_of : List Str := ["blocks", "cells", "block"]
theorem sc_record_of : FnScope n_record_of ["blocks"] (defScope s_record_of) := ⟨rfl, rfl, rfl, by decide +kernel, rfl, by decide +kernel, by decide +kernel⟩
def sp_record_of (K : PySem.W.Frag) (C : Addr) : Sp := Sx (α := Addr × List V × List Bk) (fun x vs _ G => vs = [.ref x.1] ∧ SqL K G x.1 x.2.1 ∧ BksAt K G x.2.1 x.2.2 ∧ (catM x.2.2).length ≤ 100000)
  (fun x M _ v M' G' => M' = M ∧ ∃ r, rebM (catM x.2.2) = some r ∧ RcAt K G' v r) (fun x M _ c M' _ => c = C ∧ M' = M ∧ rebM (catM x.2.2) = none)
theorem ok_record_of {P : Program} {w : World} {K : PySem.W.Frag} {mg : Str → Option Value} {base : Heap}
    {f : Addr} {fd : FuncData} (D : Dn K mg "record_of" s_record_of ["blocks"] f fd)
    (c_rebuild : Cal P w K mg base (L2.CX P w) 64 "rebuild" (sp_rebuild K A_BadRecord)) : Cal P w K mg base (L2.CX P w) 65 "record_of" (sp_record_of K A_BadRecord) := by
  refine D.okX sc_record_of (fun vs H Q E h => ?_) fun cdv A outer s H vs Q E hr h => ?_
  · obtain ⟨x, M, G, j, ⟨rfl, _⟩, _⟩ := h; rfl
  obtain ⟨⟨a, xs, bs⟩, M, G, j, ⟨rfl, ha, hb, z⟩, k, kx⟩ := h
  dsimp only at ha hb z k kx
  refine ⟨_, (pss_cons (ps_set (i := 1) sc_record_of.nd rfl (Or.inl rfl) (pe_lst pa_nil))
(pss_cons (ps_for (passes_of rfl) rfl (pi_list (pv 0)) (pg_name (i := 2) sc_record_of.nd rfl (Or.inl rfl))
(pss_one (ps_expr (pe_bm PySem.F.plainAttrs_list PySem.F.slot_list_extend PySem.F.type_list_extend (mt_extendTK (K := K) rfl) (pv 1) (pa_cons (pe_ix (ix_uK (K := K) rfl) (pv 2) pe_int (fun _ _ => rfl)) pa_nil)))))
(pss_one (ps_ret (pe_calX c_rebuild hr (by first | decide | omega) (by rfl) (takes_of rfl rfl rfl rfl) (pa_cons (pv 1) pa_nil)))))), ?_⟩
  walk_at "start"
  refine w_newM j (Nat.zero_le _) fun L H1 j1 nM nG => ?_
  walk_at "go"
  refine w_forLV rfl (xs := xs) (fun i σ H => ∃ x2, J (upd M L (.lst ((catM (bs.take i)).map V.int))) G H ∧ σ = [some (.ref a), some (.ref L), x2]) (sl_mono j1.g ha) ⟨_, j1, rfl⟩ ?_ ?_ ?_
  · rintro n σ H _ ⟨x2, j, _⟩
    exact sl_mono j.g ha
  · rintro n x σ H hx ⟨x2, j, rfl⟩
    obtain ⟨b, hbn, t, u, rfl, ht, hu⟩ := hb.get hx
    walk_at "go"
    refine ⟨ty_listU j, ?_⟩
    walk_at "go"
    refine w_ixT j (st_of ht) (by rfl) ?_
    walk_at "go"
    have l1 := cat_len hbn
    refine w_extT j upd_same hu (by rw [List.length_map, List.length_map]; omega) fun H3 j3 => ?_
    walk_at "go"
    rw [upd_upd] at j3
    refine ⟨_, ?_, rfl⟩
    rw [cat_snoc hbn, List.map_append]
    exact j3
  · rintro σ H ⟨x2, j, rfl⟩
    rw [hb.len, List.take_length] at j
    walk_at "go"
    have hL : upd M L (.lst ((catM bs).map V.int)) L = some (.lst ((catM bs).map V.int)) := upd_same
    have e2 := Ex.new (o := .lst ((catM bs).map V.int)) (j.out hL)
    have j2 := j.seal hL
    rw [Ag.del_eq Ag.upd nM] at j2
    refine w_sx (L, (catM bs).map V.int) j2 ⟨rfl, sl_of upd_same, fun v hv => ?_, by rw [List.length_map]; exact z⟩ (fun v M2 G2 H2 j3 e3 ⟨em, cs, r, hc, hr, hv⟩ => ?_) fun c M2 G2 H2 j3 e3 ⟨ec, em, hq⟩ => ?_
    · obtain ⟨c, _, rfl⟩ := List.mem_map.mp hv
      exact .inl rfl
    · have ec : catM bs = cs := (List.map_inj_right (fun x y z => V.int.inj z)).mp hc
      exact k _ _ _ _ j3 (e2.trans e3) ⟨em, r, by rw [ec]; exact hr, hv⟩
    · exact kx _ _ _ _ j3 (e2.trans e3) ⟨ec, em, hq _ rfl⟩
/-! ### Journal.read -/
abbrev s_Journal_read : Stmt := inClass (top 27) 1
abbrev n_Journal_read : List Str := ["self", "least", "blocks", "record"]
theorem sc_Journal_read : FnScope n_Journal_read ["self"] (defScope s_Journal_read) := ⟨rfl, rfl, rfl, by decide +kernel, rfl, by decide +kernel, by decide +kernel⟩
def sp_Journal_read (K : PySem.W.Frag) (C D : Addr) : Sp := Sg (α := Hp × DA × DS × (Int → Option Bk) × JA × Int) (fun x vs M G => vs = [.ref x.2.2.2.2.1.p] ∧ DkAt D x.1 G x.2.1 x.2.2.1 ∧ Sub x.1 M G ∧ x.1 x.2.2.2.2.1.p = none ∧ x.1 x.2.2.2.2.1.r = none ∧
    (∀ n, BvAt K G (lookM x.2.2.1 n) (x.2.2.2.1 n)) ∧ (∀ n b, x.2.2.2.1 n = some b → b.cs.length ≤ 6) ∧ x.2.2.1.kb.length + x.2.2.1.kf.length < 10000 ∧ M x.2.2.2.2.1.p = some (.ins C x.2.2.2.2.1.dx (fl_Journal (.ref x.2.1.p) (.ref x.2.2.2.2.1.r) (.int x.2.2.2.2.2) (.int 0))) ∧ M x.2.2.2.2.1.r = some (.lst []))
  (fun x M _ v M' G' => v = .non ∧ ∃ rs, RcsAt K G' rs (readF x.2.2.2.1 (x.2.2.1.kb.length + x.2.2.1.kf.length + 1) 0 0 none).1 ∧ M' = MJ C M x.2.2.2.2.1 x.2.1.p x.2.2.2.2.2 rs (readF x.2.2.2.1 (x.2.2.1.kb.length + x.2.2.1.kf.length + 1) 0 0 none).2)
theorem ok_Journal_read {P : Program} {w : World} {K : PySem.W.Frag} {mg : Str → Option Value} {base : Heap}
    {C_Journal : Addr} (T_Journal : Tx_Journal K mg C_Journal)
    {C_Disk : Addr} (T_Disk : Tx_Disk K mg C_Disk)
    {f : Addr} {fd : FuncData} (D : Dm K C_Journal "read" "Journal.read" s_Journal_read ["self"] f fd)
    (b_len : mg "len" = none)
    {A_BadRecord : Addr} (x_BadRecord : Xc K mg "BadRecord" A_BadRecord)
    (c_blocks_at : Cal P w K mg base CX0 2 "blocks_at" (sp_blocks_at K C_Disk))
    (c_record_of : Cal P w K mg base (L2.CX P w) 65 "record_of" (sp_record_of K A_BadRecord)) : CalM P w K mg base CX0 66 C_Journal "read" (sp_Journal_read K C_Journal C_Disk) := by
  refine D.ok sc_Journal_read (fun vs H Q E h => ?_) fun cdv A outer s H vs Q E hr h => ?_
  · obtain ⟨x, M, G, j, ⟨rfl, _⟩, _⟩ := h; rfl
  obtain ⟨⟨N, d, s, f, ja, g⟩, M, G, j, ⟨rfl, hd, sb, np, nr, hf, h6, z, hp, hl⟩, k⟩ := h
  dsimp only at hd sb np nr hf h6 z hp hl k
  refine ⟨_, (pss_cons (ps_set (i := 1) sc_Journal_read.nd rfl (Or.inl rfl) pe_non)
(pss_cons (ps_set (i := 2) sc_Journal_read.nd rfl (Or.inl rfl) (pe_cal c_blocks_at hr (by first | decide | omega) (by rfl) (pa_cons (pe_fld (pv 0) rfl) (pa_cons pe_int (pa_cons pe_int pa_nil)))))
(pss_one (ps_while PassesOwn.never (PW.pt (pw_and (pt_truV (K := K) rfl (pv 2)) (pw_and1 (PW.pt (pw_or (pt_cmp (pc_isN (pv 1))) (pw_or1 (pt_cmpR op_ge (pe_ix (ix_uK (K := K) rfl) (pe_ix (ix_uK (K := K) rfl) (pv 2) pe_int (fun _ _ => rfl)) pe_int (fun _ _ => rfl)) (pv 1) (nomark _))))))))
(pss_cons (ps_tryO rfl rfl ⟨by rfl, by decide, Or.inl x_BadRecord.gP⟩ takes0 (fun W pn xe tk _ =>
(pss_one (ps_set (i := 3) sc_Journal_read.nd rfl (Or.inl rfl) (pe_calX c_record_of hr (by first | decide | omega) (by rfl) tk (pa_cons (pv 2) pa_nil)))))
(fun a oe cls d pn hz hf =>
(pss_one ps_retN)))
(pss_cons (ps_expr (pe_bm PySem.F.plainAttrs_list PySem.F.slot_list_append PySem.F.type_list_append mt_append (pe_fld (pv 0) rfl) (pa_cons (pv 3) pa_nil)))
(pss_cons (ps_set (i := 1) sc_Journal_read.nd rfl (Or.inl rfl) (pe_ix (ix_uK (K := K) rfl) (pe_ix (ix_uK (K := K) rfl) (pv 2) pe_int (fun _ _ => rfl)) pe_int (fun _ _ => rfl)))
(pss_cons (ps_fldaug (pv 0) (pe_callB (call_uLenK (K := K) rfl) (by rfl) b_len PySem.boot_len (pa_cons (pv 2) pa_nil)) in_add)
(pss_one (ps_set (i := 2) sc_Journal_read.nd rfl (Or.inl rfl) (pe_cal c_blocks_at hr (by first | decide | omega) (by rfl) (pa_cons (pe_fld (pv 0) rfl) (pa_cons (pe_fld (pv 0) rfl) (pa_cons (pe_callB (call_uLenK (K := K) rfl) (by rfl) b_len PySem.boot_len (pa_cons (pe_fld (pv 0) rfl) pa_nil)) pa_nil)))))))))))))), ?_⟩
  walk_at "start"
  have pr : ja.p ≠ ja.r := ne_k hp hl (fun z => nomatch z)
  have sbJ : ∀ {G1 : Hp} {rs : List V} {pl : Nat}, Ex G G1 → Sub N (MJ C_Journal M ja d.p g rs pl) G1 := fun e a o h => (sb a o h).imp (fun q => mj_o q (ne_of_none h np) (ne_of_none h nr)) (e a o)
  refine w_fldM j hp T_Journal.cl T_Journal.n_disk fl_Journal_disk ?_
  walk_at "go"
  refine w_sg (N, d, s, f, 0, 0) j ⟨rfl, hd, sb, hf, by show s.kb.length + s.kf.length < 100000; omega⟩ fun v M1 G1 H1 j1 e1 ⟨hm1, Lb, vs, ev, hLb, hbs⟩ => ?_
  subst hm1 ev
  dsimp only at hbs
  walk_at "go"
  rw [← mj_0 hp hl] at j1
  refine w_while (fun n σ H => ∃ rs pl recs least Lb vsB G2 x3, s.kb.length + s.kf.length + 1 ≤ n + pl ∧ recs.length ≤ pl ∧ J (MJ C_Journal M1 ja d.p g rs pl) G2 H ∧ Ex G G2 ∧ RcsAt K G2 rs recs ∧ G2 Lb = some (.lst vsB) ∧ BksAt K G2 vsB (runF f (pl : Nat) (recs.length : Nat)) ∧ (∀ k : Nat, k < pl → (f k).isSome = true) ∧
    readF f (s.kb.length + s.kf.length + 1) 0 0 none = (recs ++ (readF f n pl recs.length least).1, (readF f n pl recs.length least).2) ∧ σ = [some (.ref ja.p), some (oi least), some (.ref Lb), x3]) (s.kb.length + s.kf.length + 1)
    ⟨[], 0, [], none, Lb, vs, G1, _, by omega, Nat.le_refl _, j1, e1, .nil, hLb, hbs, fun k h => absurd h (Nat.not_lt_zero k), rfl, rfl⟩ ?_
  rintro n σ H2 R ⟨rs, pl, recs, least, Lb, vsB, G2, x3, hn, rl, j2, e2, hr2, hLb, hbs, hpl, hrd, rfl⟩ hR
  have ib : pl ≤ s.kb.length + s.kf.length := run_bound (place := 0) hf fun k hk => by simpa using hpl k hk
  obtain ⟨n, rfl⟩ : ∃ n', n = n' + 1 := ⟨n - 1, by omega⟩
  have fin : ∀ {G3 H3 : Hp}, J (MJ C_Journal M1 ja d.p g rs pl) G3 H3 → Ex G2 G3 → readF f (n + 1) pl recs.length least = ([], pl) → Q .non H3 := fun {G3 H3} j3 e3 h => by
    rw [h, List.append_nil] at hrd
    exact k _ _ _ _ j3 (e2.trans e3) ⟨rfl, rs, by rw [hrd]; exact hr2.ex e3, by rw [hrd]⟩
  cases hb : runF f (pl : Nat) (recs.length : Nat) with
  | nil =>
    rw [hb] at hbs
    cases hbs
    walk_at "go"
    refine w_truL j2 (sl_of hLb) ?_
    have e0 : (!([] : List V).isEmpty) = false := rfl
    rw [e0]
    refine w_F ?_
    refine hR _ _ (w_F ?_)
    exact fin j2 (Same.refl _) (read_nil hb)
  | cons b bs =>
    rw [hb] at hbs
    have hbs2 := hbs
    cases hbs with
    | @cons vb _ vsr _ hb0 hbr =>
    have hne := run_ne hb
    have rlen : (b :: bs).length ≤ s.kb.length + s.kf.length := run_bound hf hne
    obtain ⟨t, u, rfl, ht, hu⟩ := hb0
    have hF : okL least b.g = false → R false H2 := fun q => hR _ _ (w_F (fin j2 (Same.refl _) (read_stop hb q)))
    have hT : okL least b.g = true → R true H2 := fun q => by
      refine hR _ _ (w_T ?_)
      walk_at "go"
      have cl := run_cells h6 (place := (pl : Int)) (m := (recs.length : Int)) (c := s.kb.length + s.kf.length) (by rw [hb]; exact rlen)
      rw [hb] at cl
      refine w_sx (Lb, V.ref t :: vsr, b :: bs) j2 ⟨rfl, sl_of hLb, hbs2, by show (catM (b :: bs)).length ≤ 100000; omega⟩ (fun v M3 G3 H3 j3 e3 ⟨em, r, hr1, hv⟩ => ?_) fun c M3 G3 H3 j3 e3 ⟨ec, em, hq⟩ => ?_
      · subst em
        have la : rs.length = recs.length := hr2.len
        walk_at "go"
        refine w_fldM j3 mj_p T_Journal.cl T_Journal.n_records fl_Journal_records ?_
        refine ⟨ty_listM j3 (mj_r pr), ?_⟩
        walk_at "go"
        refine w_appendA j3 (mj_r pr) (by omega) fun H4 j4 => ?_
        rw [mj_app pr] at j4
        walk_at "go"
        refine w_ixL j4 (sl_of (e3 _ _ hLb)) atI_0 ?_
        walk_at "go"
        refine w_ixT j4 (st_of (e3 _ _ ht)) (by rfl) ?_
        walk_at "go"
        refine w_augK j4 mj_p T_Journal.cl T_Journal.n_place fl_Journal_place (by show 4 < 1000; decide) fun R2 hR2 => ?_
        walk_at "go"
        refine w_lenL j4 (sl_of (e3 _ _ hLb)) ?_
        refine hR2 _ _ ⟨_, _, _, rfl, j4, mj_p, fun H5 j5 => ?_⟩
        have lv : (V.ref t :: vsr).length = (b :: bs).length := hbs2.len
        rw [sf_Journal_place, mj_pl, lv] at j5
        have E5 := e2.trans e3
        walk_at "go"
        refine w_fldM j5 mj_p T_Journal.cl T_Journal.n_disk fl_Journal_disk ?_
        walk_at "go"
        refine w_fldM j5 mj_p T_Journal.cl T_Journal.n_place fl_Journal_place ?_
        walk_at "go"
        refine w_fldM j5 mj_p T_Journal.cl T_Journal.n_records fl_Journal_records ?_
        walk_at "go"
        refine w_lenM j5 (mj_r pr) ?_
        walk_at "go"
        have lr : (rs ++ [v]).length = (recs ++ [r]).length := by rw [List.length_append, List.length_append, la]; rfl
        rw [lr]
        refine w_sg (N, d, s, f, ((pl + (b :: bs).length : Nat) : Int), ((recs ++ [r]).length : Int)) j5 ⟨rfl, hd.ex E5, sbJ E5, fun n => (hf n).ex E5, by show s.kb.length + s.kf.length < 100000; omega⟩ fun v6 M6 G6 H6 j6 e6 ⟨hm6, Lc, vc, ev6, hLc, hbc⟩ => ?_
        subst hm6 ev6
        walk_at "go"
        have pos : 0 < (b :: bs).length := Nat.succ_pos _
        refine ⟨n, Nat.lt_succ_self n, rs ++ [v], pl + (b :: bs).length, recs ++ [r], some b.g, Lc, vc, G6, _, by omega, by rw [List.length_append, List.length_singleton]; omega, j6, E5.trans e6, ((hr2.ex (e3.trans e6))).snoc (hv.ex e6), hLc, hbc, fun k hk => ?_, ?_, rfl⟩
        · by_cases q2 : k < pl
          · exact hpl k q2
          · have := hne (k - pl) (by omega)
            have e9 : (pl : Int) + ((k - pl : Nat) : Int) = (k : Int) := by omega
            rw [e9] at this; exact this
        · rw [hrd, read_go hb q hr1, List.length_append, List.length_singleton, List.append_assoc]
          rfl
      · subst em ec
        refine w_caughtO x_BadRecord.exm fun ea hea => ?_
        walk_at "go"
        exact fin j3 e3 (read_bad hb hq)
    walk_at "go"
    refine w_truL j2 (sl_of hLb) ?_
    have e0 : (!((V.ref t :: vsr)).isEmpty) = true := rfl
    rw [e0]
    refine w_T ?_
    walk_at "go"
    cases least with
    | none => exact w_T (hT rfl)
    | some l =>
      refine w_F ?_
      walk_at "go"
      refine w_ixL j2 (sl_of hLb) atI_0 ?_
      walk_at "go"
      refine w_ixT j2 (st_of ht) (by rfl) ?_
      walk_at "go"
      show rI0 (fun i j => V.bl (decide (j ≤ i))) (V.int b.g) (V.int l) H2 _
      refine w_I0 ?_
      refine ⟨_, rfl, ?_⟩
      by_cases q : l ≤ b.g
      · rw [decide_eq_true q]
        exact hT (decide_eq_true q)
      · rw [decide_eq_false q]
        exact hF (decide_eq_false q)
/-! ### Disk.readable -/
abbrev s_Disk_readable : Stmt := inClass (top 31) 7
abbrev n_Disk_readable : List Str := ["self", "positions", "found", "position", "block"]
theorem sc_Disk_readable : FnScope n_Disk_readable ["self"] (defScope s_Disk_readable) := ⟨rfl, rfl, rfl, by decide +kernel, rfl, by decide +kernel, by decide +kernel⟩
def ReadE (K : PySem.W.Frag) (s : DS) (v : V) (G' : Hp) : Prop := ∃ a ns, v = .ref a ∧ ns.Pairwise (· < ·) ∧ (∀ n, n ∈ ns ↔ hasM s n) ∧ G' a = some (.lst (foundM s ns))
def sp_Disk_readable (K : PySem.W.Frag) (C : Addr) : Sp := Sg (α := Hp × DA × DS) (fun x vs M G => vs = [.ref x.2.1.p] ∧ DkAt C x.1 G x.2.1 x.2.2 ∧ Sub x.1 M G ∧ IntKs x.2.2.kb ∧ IntKs x.2.2.kf ∧ x.2.2.kb.length + x.2.2.kf.length < 4000)
  (fun x M _ v M' G' => ReadE K x.2.2 v G' ∧ M' = M)
theorem ok_Disk_readable {P : Program} {w : World} {K : PySem.W.Frag} {mg : Str → Option Value} {base : Heap}
    {C_Disk : Addr} (T_Disk : Tx_Disk K mg C_Disk)
    {f : Addr} {fd : FuncData} (D : Dm K C_Disk "readable" "Disk.readable" s_Disk_readable ["self"] f fd)
    (b_sorted : mg "sorted" = none)
    (b_set : mg "set" = none)
    (b_list : mg "list" = none)
    (c_Disk_look : CalM P w K mg base CX0 1 C_Disk "look" (sp_Disk_look K C_Disk)) : CalM P w K mg base CX0 2 C_Disk "readable" (sp_Disk_readable K C_Disk) := by
  refine D.ok sc_Disk_readable (fun vs H Q E h => ?_) fun cdv A outer s H vs Q E hr h => ?_
  · obtain ⟨x, M, G, j, ⟨rfl, _⟩, _⟩ := h; rfl
  obtain ⟨⟨N, d, s⟩, M, G, j, ⟨rfl, hd, sb, kb, kf, z⟩, k⟩ := h
  dsimp only at hd sb kb kf z k
  have sb1 : ∀ {G1 : Hp}, Ex G G1 → Sub N M G1 := fun e a o h => (sb a o h).imp id (e a o)
  refine ⟨_, (pss_cons (ps_set (i := 1) sc_Disk_readable.nd rfl (Or.inl rfl) (pe_callB (call_sortB rfl) (by rfl) b_sorted bt_sorted (pa_cons (pe_callTy (call_setCB rfl) (by rfl) b_set bt_set (pa_cons (pe_op (op_uAddK (K := K) rfl) (pe_callTy (call_listDX rfl) (by rfl) b_list bt_list (pa_cons (pe_fld (pv 0) rfl) pa_nil)) (pe_callTy (call_listDX rfl) (by rfl) b_list bt_list (pa_cons (pe_fld (pv 0) rfl) pa_nil))) pa_nil)) pa_nil)))
(pss_cons (ps_setLc (i := 2) (own := [("position", 3)]) (by rfl) sc_Disk_readable.nd rfl rfl (sw_true rfl rfl rfl (by decide +kernel)) (pi_list (pv 1)) (blkOk_by (own := [("position", 3)]) (N := n_Disk_readable) (sc := defScope s_Disk_readable) (by decide +kernel)) (fun _ _ _ _ _ => pg_name (i := 3) sc_Disk_readable.nd rfl (Or.inl rfl)) (fun _ _ _ _ _ => pts_nil) (fun _ _ _ _ _ => (pe_calM c_Disk_look T_Disk.cl hr (by first | decide | omega) (pv 0) (pa_cons (pv 3) pa_nil))))
(pss_one (ps_ret (pe_lc (own := [("block", 4)]) (by rfl) sc_Disk_readable.nd (pi_list (pv 2)) (blkOk_by (own := [("block", 4)]) (N := n_Disk_readable) (sc := defScope s_Disk_readable) (by decide +kernel)) (fun _ _ _ _ _ => pg_name (i := 4) sc_Disk_readable.nd rfl (Or.inl rfl)) (fun _ _ _ _ _ => pts_one (pt_cmp (pc_notN (pv 4)))) (fun _ _ _ _ _ => (pv 4))))))), ?_⟩
  walk_at "start"
  refine w_fldS j sb hd.op T_Disk.cl T_Disk.n_blocks fl_Disk_blocks ?_
  walk_at "go"
  refine w_listD j (sb.hd hd.ob) fun p1 G1 H1 j1 e1 h1 => ?_
  walk_at "go"
  refine w_fldS j1 (sb1 e1) hd.op T_Disk.cl T_Disk.n_fresh fl_Disk_fresh ?_
  walk_at "go"
  refine w_listD j1 ((sb1 e1).hd hd.of) fun p2 G2 H2 j2 e2 h2 => ?_
  walk_at "go"
  rw [kb.eq] at h1
  rw [kf.eq] at h2
  have lb := posKs_len s.kb
  have lf := posKs_len s.kf
  refine w_catL (j2.g _ _ (e2 _ _ h1)) (j2.g _ _ h2) ?_
  refine w_new j2 (by rw [List.length_map, List.length_map]; exact sz_le (by omega)) fun p3 G3 H3 j3 e3 h3 _ => ?_
  walk_at "go"
  rw [← List.map_append] at h3
  refine w_setCB j3 (sl_of h3) (by rw [List.length_append]; omega) fun sa S m G4 H4 hS hm j4 e4 h4 => ?_
  walk_at "go"
  rw [List.length_append] at hm
  refine w_sortB j4 (.inr h4) fun ns hn1 hn2 hn3 => ?_
  refine w_new j4 (Nat.zero_le _) fun p5 G5 H5 j5 e5 h5 _ => ?_
  have hns : ∀ n, n ∈ ns ↔ hasM s n := fun n => (hn2 n).trans ((hS n).trans (by rw [List.mem_append, posKs_mem, posKs_mem]; rfl))
  have E5 : Ex G G5 := ((((e1.trans e2).trans e3).trans e4).trans e5)
  walk_at "go"
  refine w_lcl j5 (fun L i acc M6 G6 => Ex G5 G6 ∧ Ag L M M6 ∧ M L = none ∧ acc = (ns.take i).map (lookM s)) (sl_of h5) ?_ (fun _ _ _ _ _ h => h.1) (fun _ => rfl) ?_ ?_
  · exact fun L nM nG => ⟨Same.refl _, Ag.upd, nM, rfl⟩
  · rintro L i x acc M6 G6 H6 R hi j6 hL ⟨e6, ag, nM, rfl⟩ hR
    rw [List.getElem?_map] at hi
    cases hc : ns[i]? with
    | none => rw [hc] at hi; cases hi
    | some c =>
    rw [hc] at hi
    cases hi
    have il := (List.getElem?_eq_some_iff.mp hc).1
    have sb6 : Sub N M6 G6 := fun a o h => (sb1 (E5.trans e6) a o h).imp (fun q => ag.at q (fun z => by subst z; rw [nM] at q; cases q)) id
    refine w_yes (hR true _ (w_T ?_))
    walk_at "go"
    refine w_methS j6 sb6 hd.op (no_Disk (by decide +kernel) (by decide +kernel) (by decide +kernel) (by decide +kernel)) ?_
    walk_at "go"
    refine w_sg (N, d, s, c) j6 ⟨rfl, hd.ex (E5.trans e6), sb6⟩ fun v M7 G7 H7 j7 e7 ⟨hv, hm7⟩ => ?_
    subst hm7 hv
    refine StepL.go ⟨M7, G7, j7, hL, by rw [List.length_map, List.length_take]; exact sz_lt (by omega), e6.trans e7, ag.trans Ag.upd, nM, ?_⟩
    rw [take_one' hc, List.map_append]
    rfl
  · rintro L acc M6 G6 H6 j6 hL ⟨e6, ag, nM, rfl⟩
    rw [List.length_map, List.take_length] at hL
    have j7 := j6.seal hL
    rw [ag.del_eq nM] at j7
    have e7 := Ex.new (o := .lst (ns.map (lookM s))) (j6.out hL)
    have h7 : upd G6 L (.lst (ns.map (lookM s))) L = some (.lst (ns.map (lookM s))) := upd_same
    walk_at "go"
    refine w_lcl j7 (fun L2 i acc M8 G8 => Ex G G8 ∧ Ex (upd G6 L (.lst (ns.map (lookM s)))) G8 ∧ Ag L2 M M8 ∧ M L2 = none ∧ acc = foundM s (ns.take i)) (sl_of h7) ?_ (fun _ _ _ _ _ h => h.2.1) (fun _ => rfl) ?_ ?_
    · exact fun L nM nG => ⟨(E5.trans e6).trans e7, Same.refl _, Ag.upd, nM, rfl⟩
    · rintro L2 i x acc M8 G8 H8 R hi j8 hL2 ⟨e8, e9, ag8, nM8, rfl⟩ hR
      rw [List.getElem?_map] at hi
      cases hc : ns[i]? with
      | none => rw [hc] at hi; cases hi
      | some c =>
      rw [hc] at hi
      cases hi
      have il := (List.getElem?_eq_some_iff.mp hc).1
      have fl : (foundM s (ns.take i)).length ≤ i := by
        unfold foundM
        refine Nat.le_trans (List.length_filter_le _ _) ?_
        rw [List.length_map, List.length_take]; omega
      walk_at "go"
      by_cases q : lookM s c = .non
      · refine hR _ _ ?_
        rw [q]
        refine w_F ⟨M8, G8, j8, hL2, e8, e9, ag8, nM8, ?_⟩
        rw [found_snoc hc, if_pos q, List.append_nil]
      · refine hR _ _ ?_
        rw [decide_eq_false q]
        refine w_T ?_
        walk_at "go"
        refine StepL.go ⟨M8, G8, j8, hL2, sz_lt (by omega), e8, e9, ag8.trans Ag.upd, nM8, ?_⟩
        rw [found_snoc hc, if_neg q]
    · rintro L2 acc M8 G8 H8 j8 hL2 ⟨e8, e9, ag8, nM8, rfl⟩
      rw [List.length_map, List.take_length] at hL2
      have ea := Ex.new (o := .lst (foundM s ns)) (j8.out hL2)
      exact k _ _ _ _ (j8.seal hL2) (e8.trans ea) ⟨⟨L2, ns, rfl, hn1, hns, upd_same⟩, ag8.del_eq nM8⟩
/-! ### Journal.__init__ -/
abbrev s_Journal___init__ : Stmt := inClass (top 27) 0
abbrev n_Journal___init__ : List Str := ["self", "disk", "block"]
theorem sc_Journal___init__ : FnScope n_Journal___init__ ["self", "disk"] (defScope s_Journal___init__) := ⟨rfl, rfl, rfl, by decide +kernel, rfl, by decide +kernel, by decide +kernel⟩
def sp_Journal___init__ (K : PySem.W.Frag) (C D : Addr) : Sp := Sg (α := Hp × DA × DS × (Int → Option Bk) × Addr × Addr) (fun x vs M G => vs = [.ref x.2.2.2.2.1, .ref x.2.1.p] ∧ DkAt D x.1 G x.2.1 x.2.2.1 ∧ Sub x.1 M G ∧ x.1 x.2.2.2.2.1 = none ∧ M x.2.2.2.2.1 = some (.ins C x.2.2.2.2.2 []) ∧
    (∀ n, BvAt K G (lookM x.2.2.1 n) (x.2.2.2.1 n)) ∧ (∀ n b, x.2.2.2.1 n = some b → b.cs.length ≤ 6) ∧ IntKs x.2.2.1.kb ∧ IntKs x.2.2.1.kf ∧ x.2.2.1.kb.length + x.2.2.1.kf.length < 4000)
  (fun x M _ v M' G' => v = .non ∧ ∃ (r : Addr) (rs : List V) (ns : List Int), M r = none ∧ r ≠ x.2.2.2.2.1 ∧ (∀ n, n ∈ ns ↔ hasM x.2.2.1 n) ∧ RcsAt K G' rs (readF x.2.2.2.1 (x.2.2.1.kb.length + x.2.2.1.kf.length + 1) 0 0 none).1 ∧
    M' = MJ C M ⟨x.2.2.2.2.1, r, x.2.2.2.2.2⟩ x.2.1.p (1 + topI 0 ((ns.filterMap x.2.2.2.1).map (·.g))) rs (readF x.2.2.2.1 (x.2.2.1.kb.length + x.2.2.1.kf.length + 1) 0 0 none).2)
theorem ok_Journal___init__ {P : Program} {w : World} {K : PySem.W.Frag} {mg : Str → Option Value} {base : Heap}
    {C_Journal : Addr} (T_Journal : Tx_Journal K mg C_Journal)
    {C_Disk : Addr} (T_Disk : Tx_Disk K mg C_Disk)
    {f : Addr} {fd : FuncData} (D : Di K C_Journal "Journal.__init__" s_Journal___init__ ["self", "disk"] f fd)
    (b_max : mg "max" = none)
    (c_Journal_read : CalM P w K mg base CX0 66 C_Journal "read" (sp_Journal_read K C_Journal C_Disk))
    (c_Disk_readable : CalM P w K mg base CX0 2 C_Disk "readable" (sp_Disk_readable K C_Disk)) : CalI P w K mg base CX0 67 C_Journal (sp_Journal___init__ K C_Journal C_Disk) := by
  refine D.ok sc_Journal___init__ (fun vs H Q E h => ?_) fun cdv A outer s H vs Q E hr h => ?_
  · obtain ⟨x, M, G, j, ⟨rfl, _⟩, _⟩ := h; rfl
  obtain ⟨⟨N, d, s, f, p, dx⟩, M, G, j, ⟨rfl, hd, sb, np, hp, hf, h6, kb, kf, z⟩, k⟩ := h
  dsimp only at hd sb np hp hf h6 kb kf z k
  refine ⟨_, (pss_cons (ps_fld (pv 0) (pv 1) rfl)
(pss_cons (ps_fld (pv 0) (pe_lst pa_nil) rfl)
(pss_cons (ps_fld (pv 0) (pe_op (op_uAddK (K := K) rfl) pe_int (pe_callBK (call_maxD rfl (hr).units) (by rfl) b_max bt_max (pa_cons (pe_lc (own := [("block", 2)]) (by rfl) sc_Journal___init__.nd (pi_list (pe_calM0 c_Disk_readable T_Disk.cl hr (by first | decide | omega) (pv 1))) (blkOk_by (own := [("block", 2)]) (N := n_Journal___init__) (sc := defScope s_Journal___init__) (by decide +kernel)) (fun _ _ _ _ _ => pg_name (i := 2) sc_Journal___init__.nd rfl (Or.inl rfl)) (fun _ _ _ _ _ => pts_nil) (fun _ _ _ _ _ => (pe_ix (ix_uK (K := K) rfl) (pv 2) pe_int (fun _ _ => rfl)))) pa_nil) (pk_cons pe_int pk_nil))) rfl)
(pss_cons (ps_fld (pv 0) pe_int rfl)
(pss_one (ps_expr (pe_calM0 c_Journal_read T_Journal.cl hr (by first | decide | omega) (pv 0)))))))), ?_⟩
  walk_at "start"
  refine w_setX j hp T_Journal.cl T_Journal.n_disk (by show 0 < 1000; decide) fun H1 j1 => ?_
  walk_at "go"
  refine w_newM j1 (Nat.zero_le _) fun r H2 j2 nr gr => ?_
  walk_at "go"
  have pr : p ≠ r := fun z => by subst z; rw [upd_same] at nr; cases nr
  have nr' : M r = none := by have h := nr; rwa [upd_ne pr.symm] at h
  have nN : N r = none := by
    cases e : N r with
    | none => rfl
    | some o => exact (sb r o e).elim (fun q => by rw [nr'] at q; cases q) fun q => by rw [gr] at q; cases q
  have sb3 : ∀ {G1 : Hp} {fs : List (Str × V)} {o : HO}, Ex G G1 → Sub N (upd (upd M r o) p (.ins C_Journal dx fs)) G1 := fun e a o h => (sb a o h).imp (fun q => upd_ne' (upd_ne' q (ne_of_none h nN)) (ne_of_none h np)) (e a o)
  refine w_setX j2 (upd_ne' upd_same pr) T_Journal.cl T_Journal.n_records (by rw [nf_Journal_disk]; show 1 < 1000; decide) fun H3 j3 => ?_
  rw [mj_pre pr] at j3
  walk_at "go"
  refine w_methS j3 (sb3 (Same.refl G)) hd.op (no_Disk (by decide +kernel) (by decide +kernel) (by decide +kernel) (by decide +kernel)) ?_
  walk_at "go"
  refine w_sg (N, d, s) j3 ⟨rfl, hd, sb3 (Same.refl G), kb, kf, z⟩ fun v M4 G4 H4 j4 e4 ⟨⟨a, ns, ev, hn1, hn2, ha⟩, hm⟩ => ?_
  subst hm ev
  have hfb := (founds hf ns).ex e4
  have nl : ns.length ≤ s.kb.length + s.kf.length := by
    have e := nodup_sub (xs := ns) (ys := posKs s.kb ++ posKs s.kf) (hn1.imp fun h => Int.ne_of_lt h) fun x hx => by rw [List.mem_append, posKs_mem, posKs_mem]; exact (hn2 x).mp hx
    rw [List.length_append] at e
    have l1 := posKs_len s.kb
    have l2 := posKs_len s.kf
    omega
  have fl : (ns.filterMap f).length = (foundM s ns).length := hfb.len.symm
  obtain ⟨M3, hM3⟩ : ∃ M3, M3 = (upd (upd M r (.lst [])) p (.ins C_Journal dx (putF "records" (.ref r) (putF "disk" (.ref d.p) [])))) := ⟨_, rfl⟩
  rw [← hM3] at j4
  refine w_lcl j4 (fun L i acc M5 G5 => Ex G4 G5 ∧ Ag L M3 M5 ∧ M3 L = none ∧ acc = (((ns.filterMap f).take i).map (·.g)).map V.int) (sl_of ha) ?_ (fun _ _ _ _ _ h => h.1) (fun _ => rfl) ?_ ?_
  · exact fun L nM nG => ⟨Same.refl _, Ag.upd, nM, rfl⟩
  · rintro L i x acc M6 G6 H6 R hi j6 hL ⟨e6, ag, nM, rfl⟩ hR
    obtain ⟨b, hb, t, u, rfl, ht, hu⟩ := (hfb.ex e6).get hi
    refine w_yes (hR true _ (w_T ?_))
    walk_at "go"
    refine w_ixT j6 (st_of ht) (by rfl) ?_
    refine StepL.go ⟨M6, G6, j6, hL, ?_, e6, ag.trans Ag.upd, nM, ?_⟩
    · rw [List.length_map, List.length_map, List.length_take]
      have f2 : (ns.filterMap f).length ≤ ns.length := List.length_filterMap_le _ _
      exact sz_lt (by omega)
    · rw [take_one' hb, List.map_append, List.map_append]; rfl
  · rintro L acc M6 G6 H6 j6 hL ⟨e6, ag, nM, rfl⟩
    rw [← fl, List.take_length] at hL
    have j7 := j6.seal hL
    rw [ag.del_eq nM, hM3] at j7
    have e7 := Ex.new (o := .lst (((ns.filterMap f).map (·.g)).map V.int)) (j6.out hL)
    walk_at "go"
    refine w_maxD j7 (sl_of upd_same) ?_
    walk_at "go"
    refine w_setX j7 upd_same T_Journal.cl T_Journal.n_generation (by rw [nf_Journal_disk, nf_Journal_records]; show 2 < 1000; decide) fun H8 j8 => ?_
    rw [upd_upd] at j8
    walk_at "go"
    refine w_setX j8 upd_same T_Journal.cl T_Journal.n_place (by rw [nf_Journal_disk, nf_Journal_records, nf_Journal_generation]; show 3 < 1000; decide) fun H9 j9 => ?_
    rw [upd_upd, nf_Journal_disk, nf_Journal_records, nf_Journal_generation, nf_Journal_place] at j9
    have E9 := (e4.trans e6).trans e7
    walk_at "go"
    refine w_methM j9 upd_same (no_Journal (by decide +kernel) (by decide +kernel) (by decide +kernel) (by decide +kernel)) ?_
    walk_at "go"
    refine w_sg (N, d, s, f, ⟨p, r, dx⟩, 1 + topI 0 ((ns.filterMap f).map (·.g))) j9 ⟨rfl, hd.ex E9, sb3 E9, np, nN, fun n => (hf n).ex E9, h6, by show s.kb.length + s.kf.length < 10000; omega, upd_same, upd_ne' upd_same pr.symm⟩ fun v M9 G9 H9 j10 e10 ⟨hv, rs, hrs, hM⟩ => ?_
    walk_at "go"
    exact k _ _ _ _ j10 (E9.trans e10) ⟨rfl, r, rs, ns, nr', pr.symm, hn2, hrs, by rw [hM]; exact mj_over (ja := ⟨p, r, dx⟩) pr⟩
/-! ### plain_cells -/
abbrev s_plain_cells : Stmt := top 14
abbrev n_plain_cells : List Str := ["record"]
theorem sc_plain_cells : FnScope n_plain_cells ["record"] (defScope s_plain_cells) := ⟨rfl, rfl, rfl, by decide +kernel, rfl, by decide +kernel, by decide +kernel⟩
def isTup : Rc → Bool
  | .tup _ => true
  | _ => false
def sp_plain_cells (K : PySem.W.Frag) (C : Addr) : Sp := Sx (α := V × Rc) (fun x vs _ G => vs = [x.1] ∧ RcAt K G x.1 x.2 ∧ isTup x.2 = false)
  (fun x M _ v M' G' => M' = M ∧ goodM 0 x.2 = true ∧ ∃ p, v = .ref p ∧ G' p = some (.lst ((cellsM x.2).map V.int))) (fun x M _ c M' _ => c = C ∧ M' = M ∧ goodM 0 x.2 = false)
theorem ok_plain_cells {P : Program} {w : World} {K : PySem.W.Frag} {mg : Str → Option Value} {base : Heap}
    {f : Addr} {fd : FuncData} (D : Dn K mg "plain_cells" s_plain_cells ["record"] f fd)
    (b_isinstance : mg "isinstance" = none)
    (b_str : mg "str" = none)
    (b_int : mg "int" = none)
    {a_WORDS : Addr} (g_WORDS : ∃ u, mg "WORDS" = some u ∧ RelV (.ref a_WORDS) u) (k_WORDS : ∀ H, SqT K H a_WORDS [V.str "decided", V.str "read", V.str "away", V.str "busy", V.str "rows", V.str "prepare", V.str "prepared", V.str "stale", V.str "decide", V.str "missing", V.str "drop", V.str "finish", V.str "split", V.str "none", V.str "unknown", V.str "next", V.str "time", V.str "counter", V.str "table", V.str "members", V.str "follower", V.str "candidate", V.str "leader", V.str "ask", V.str "vote", V.str "copy", V.str "base", V.str "got", V.str "make", V.str "term", V.str "entry"])
    (g_WORD : ∃ u, mg "WORD" = some u ∧ RelV (.int 4) u)
    (g_INTEGER : ∃ u, mg "INTEGER" = some u ∧ RelV (.int 0) u)
    (g_TRUE : ∃ u, mg "TRUE" = some u ∧ RelV (.int 3) u)
    (g_FALSE : ∃ u, mg "FALSE" = some u ∧ RelV (.int 2) u)
    (g_NONE : ∃ u, mg "NONE" = some u ∧ RelV (.int 1) u)
    (t_WORDS : ∃ o, K.lookup a_WORDS = some o ∧ o.cls = .type "tuple" ∧ o.dict = none)
    {A_BadRecord : Addr} (x_BadRecord : Xc K mg "BadRecord" A_BadRecord) : Cal P w K mg base (L2.CX P w) 1 "plain_cells" (sp_plain_cells K A_BadRecord) := by
  refine D.okX sc_plain_cells (fun vs H Q E h => ?_) fun cdv A outer s H vs Q E hr h => ?_
  · obtain ⟨x, M, G, j, ⟨rfl, _⟩, _⟩ := h; rfl
  obtain ⟨⟨v, r⟩, M, G, j, ⟨rfl, hv, ht⟩, k, kx⟩ := h
  dsimp only at hv ht k kx
  refine ⟨_, (pss_cons (ps_if (pt_cmp (pc_isN (pv 0)))
(pss_one (ps_ret (pe_lst (pa_cons (pe_gk (by rfl) g_NONE) pa_nil))))
pss_nil)
(pss_cons (ps_if (pt_cmpR op_isB (pv 0) pe_bl (nomark _))
(pss_one (ps_ret (pe_lst (pa_cons (pe_gk (by rfl) g_FALSE) pa_nil))))
pss_nil)
(pss_cons (ps_if (pt_cmpR op_isB (pv 0) pe_bl (nomark _))
(pss_one (ps_ret (pe_lst (pa_cons (pe_gk (by rfl) g_TRUE) pa_nil))))
pss_nil)
(pss_cons (ps_if (pt_val (pe_callB (call_isiK' (K := K) rfl) (by rfl) b_isinstance bt_isinstance (pa_cons (pv 0) (pa_cons (pe_bltn (v := .ty "int") (by rfl) b_int bt_int rfl) pa_nil))))
(pss_one (ps_ret (pe_lst (pa_cons (pe_gk (by rfl) g_INTEGER) (pa_cons (pv 0) pa_nil)))))
pss_nil)
(pss_cons (ps_if (PW.pt (pw_and (pt_val (pe_callB (call_isiK' (K := K) rfl) (by rfl) b_isinstance bt_isinstance (pa_cons (pv 0) (pa_cons (pe_bltn (v := .ty "str") (by rfl) b_str bt_str rfl) pa_nil)))) (pw_and1 (pt_cmpR (op_inK (K := K) rfl) (pv 0) (pe_gk (by rfl) g_WORDS) (by with_unfolding_all rfl)))))
(pss_one (ps_ret (pe_lst (pa_cons (pe_gk (by rfl) g_WORD) (pa_cons (pe_bm PySem.F.plainAttrs_tuple PySem.F.slot_tuple_index PySem.F.type_tuple_index mt_tup_index (pe_gk (by rfl) g_WORDS) (pa_cons (pv 0) pa_nil)) pa_nil)))))
pss_nil)
(pss_one (ps_raiseA rfl (takes_of rfl rfl rfl rfl) x_BadRecord (by rfl)))))))), ?_⟩
  have bad : goodM 0 r = false → ∀ G' H', J M G' H' → Ex G G' → E (.ref A_BadRecord) none H' := fun b G' H' j e => kx _ _ _ _ j e ⟨rfl, rfl, b⟩
  walk_at "start"
  cases hv with
  | non =>
    refine w_dT rfl ?_
    walk_at "go"
    exact w_new j (by show 1 ≤ sizeLine; decide) fun t G2 H2 j2 e2 ht _ => k _ _ _ _ j2 e2 ⟨rfl, rfl, t, rfl, ht⟩
  | bl b =>
    refine w_dF (fun z => nomatch z) ?_
    walk_at "go"
    refine w_isB ?_
    walk_at "go"
    cases b with
    | false =>
      refine w_dT rfl ?_
      walk_at "go"
      exact w_new j (by show 1 ≤ sizeLine; decide) fun t G2 H2 j2 e2 ht _ => k _ _ _ _ j2 e2 ⟨rfl, rfl, t, rfl, ht⟩
    | true =>
      refine w_dF (fun z => by cases z) ?_
      walk_at "go"
      refine w_isB ?_
      walk_at "go"
      refine w_dT rfl ?_
      walk_at "go"
      exact w_new j (by show 1 ≤ sizeLine; decide) fun t G2 H2 j2 e2 ht _ => k _ _ _ _ j2 e2 ⟨rfl, rfl, t, rfl, ht⟩
  | int i =>
    refine w_dF (fun z => nomatch z) ?_
    walk_at "go"
    refine w_isB ?_
    walk_at "go"
    refine w_dF (fun z => nomatch z) ?_
    walk_at "go"
    refine w_isB ?_
    walk_at "go"
    refine w_dF (fun z => nomatch z) ?_
    walk_at "go"
    exact w_new j (by show 2 ≤ sizeLine; decide) fun t G2 H2 j2 e2 ht _ => k _ _ _ _ j2 e2 ⟨rfl, rfl, t, rfl, ht⟩
  | str x =>
    refine w_dF (fun z => nomatch z) ?_
    walk_at "go"
    refine w_isB ?_
    walk_at "go"
    refine w_dF (fun z => nomatch z) ?_
    walk_at "go"
    refine w_isB ?_
    walk_at "go"
    refine w_dF (fun z => nomatch z) ?_
    walk_at "go"
    refine w_inT (xs := WD.map V.str) j (k_WORDS G) rfl flat_WD ?_
    refine w_bl ?_
    show if inV (.str x) (WD.map V.str) = true then _ else _
    rw [in_WD]
    refine w_dec (fun h => ?_) (fun h => ?_)
    · walk_at "go"
      refine ⟨.inr (.inl ⟨rfl, t_WORDS⟩), ?_⟩
      walk_at "go"
      obtain ⟨h1, h2⟩ := idxW_at h
      refine ⟨_, WD, x, idx x, rfl, rfl, k_WORDS _, h1, h2, ?_⟩
      walk_at "go"
      exact w_new j (by show 2 ≤ sizeLine; decide) fun t G2 H2 j2 e2 ht _ => k _ _ _ _ j2 e2 ⟨rfl, decide_eq_true h, t, rfl, ht⟩
    · walk_at "go"
      exact bad (decide_eq_false h) _ _ j (Same.refl G)
  | tup h1 h2 => cases ht
  | lst h1 =>
    refine w_dF (fun z => nomatch z) ?_
    walk_at "go"
    refine w_isB ?_
    walk_at "go"
    refine w_dF (fun z => nomatch z) ?_
    walk_at "go"
    refine w_isB ?_
    walk_at "go"
    refine w_dF (fun z => nomatch z) ?_
    walk_at "go"
    refine w_isi false (ty_L (sl_mono j.g h1)) (by rfl) ?_
    walk_at "go"
    refine w_isi false (ty_L (sl_mono j.g h1)) (by rfl) ?_
    walk_at "go"
    exact bad rfl _ _ j (Same.refl G)
  | dic h1 =>
    refine w_dF (fun z => nomatch z) ?_
    walk_at "go"
    refine w_isB ?_
    walk_at "go"
    refine w_dF (fun z => nomatch z) ?_
    walk_at "go"
    refine w_isB ?_
    walk_at "go"
    refine w_dF (fun z => nomatch z) ?_
    walk_at "go"
    refine w_isi false (ty_D (rd_same j.g h1)) (by rfl) ?_
    walk_at "go"
    refine w_isi false (ty_D (rd_same j.g h1)) (by rfl) ?_
    walk_at "go"
    exact bad rfl _ _ j (Same.refl G)
/-! ### nested_cells -/
abbrev s_nested_cells : Stmt := top 15
abbrev n_nested_cells : List Str := ["record", "room", "cells", "part"]
theorem sc_nested_cells : FnScope n_nested_cells ["record", "room"] (defScope s_nested_cells) := ⟨rfl, rfl, rfl, by decide +kernel, rfl, by decide +kernel, by decide +kernel⟩
def spNest (K : PySem.W.Frag) (C : Addr) (n : Nat) : Sp := Sx (α := V × Rc) (fun x vs _ G => vs = [x.1, .int n] ∧ RcAt K G x.1 x.2 ∧ (cellsM x.2).length ≤ 100000)
  (fun x M _ v M' G' => M' = M ∧ goodM n x.2 = true ∧ ∃ p, v = .ref p ∧ G' p = some (.lst ((cellsM x.2).map V.int))) (fun x M _ c M' _ => c = C ∧ M' = M ∧ goodM n x.2 = false)
def spNestP (K : PySem.W.Frag) (C : Addr) : Nat → Sp
  | 0 => spNone
  | n + 1 => spNest K C n
def sp_nested_cells (K : PySem.W.Frag) (C : Addr) : Sp := spNest K C 30
theorem good_leaf {n : Nat} {r : Rc} (h : isTup r = false) : goodM n r = goodM 0 r := by
  cases r <;> first | rfl | cases h
theorem goodL_bad {n : Nat} : ∀ {xs : List Rc} {i : Nat} {r : Rc}, xs[i]? = some r → goodM n r = false → goodL n xs = false
  | [], i, r, h, _ => by simp at h
  | x :: xs, 0, r, h, g => by
    have h := Option.some.inj h
    subst h
    rw [goodL, g, Bool.false_and]
  | x :: xs, i + 1, r, h, g => by
    rw [goodL, goodL_bad (i := i) (by simpa using h) g, Bool.and_false]
theorem aux_nested {P : Program} {w : World} {K : PySem.W.Frag} {mg : Str → Option Value} {base : Heap}
    {f : Addr} {fd : FuncData} (D : Dn K mg "nested_cells" s_nested_cells ["record", "room"] f fd)
    (b_len : mg "len" = none)
    (b_isinstance : mg "isinstance" = none)
    (b_tuple : mg "tuple" = none)
    (g_TUPLE : ∃ u, mg "TUPLE" = some u ∧ RelV (.int 5) u)
    {A_BadRecord : Addr} (x_BadRecord : Xc K mg "BadRecord" A_BadRecord)
    (c_plain_cells : Cal P w K mg base (L2.CX P w) 1 "plain_cells" (sp_plain_cells K A_BadRecord))
    (n : Nat) (c_nested_cells : Cal P w K mg base (L2.CX P w) (n + 1) "nested_cells" (spNestP K A_BadRecord n)) : Cal P w K mg base (L2.CX P w) (n + 2) "nested_cells" (spNest K A_BadRecord n) := by
  refine D.okX sc_nested_cells (fun vs H Q E h => ?_) fun cdv A outer s H vs Q E hr h => ?_
  · obtain ⟨x, M, G, j, ⟨rfl, _⟩, _⟩ := h; rfl
  obtain ⟨⟨v, r⟩, M, G, j, ⟨rfl, hv, hs⟩, k, kx⟩ := h
  dsimp only at hv hs k kx
  refine ⟨_, (pss_cons (ps_if (pt_not (pt_val (pe_callB (call_isiK' (K := K) rfl) (by rfl) b_isinstance bt_isinstance (pa_cons (pv 0) (pa_cons (pe_bltn (v := .ty "tuple") (by rfl) b_tuple bt_tuple rfl) pa_nil)))))
(pss_one (ps_ret (pe_calX c_plain_cells hr (by first | decide | omega) (by rfl) (takes_of rfl rfl rfl rfl) (pa_cons (pv 0) pa_nil))))
pss_nil)
(pss_cons (ps_if (pt_cmpR (op_uEqK (K := K) rfl hr) (pv 1) pe_int (nomark _))
(pss_one (ps_raiseA rfl (takes_of rfl rfl rfl rfl) x_BadRecord (by rfl)))
pss_nil)
(pss_cons (ps_set (i := 2) sc_nested_cells.nd rfl (Or.inl rfl) (pe_lst (pa_cons (pe_gk (by rfl) g_TUPLE) (pa_cons (pe_callB (call_uLenK (K := K) rfl) (by rfl) b_len PySem.boot_len (pa_cons (pv 0) pa_nil)) pa_nil))))
(pss_cons (ps_for (passes_of rfl) rfl (pi_tup (pv 0)) (pg_name (i := 3) sc_nested_cells.nd rfl (Or.inl rfl))
(pss_one (ps_expr (pe_bm PySem.F.plainAttrs_list PySem.F.slot_list_extend PySem.F.type_list_extend mt_extend (pv 2) (pa_cons (pe_calX c_nested_cells hr (by first | decide | omega) (by rfl) (takes_of rfl rfl rfl rfl) (pa_cons (pv 3) (pa_cons (pe_op op_sub (pv 1) pe_int) pa_nil))) pa_nil)))))
(pss_one (ps_ret (pv 2))))))), ?_⟩
  have leaf : ∀ H', J M G H' → isTup r = false → sp_plain_cells K A_BadRecord ([v] ++ []) H' Q E := fun H' j ht =>
    w_sx (v, r) j ⟨rfl, hv, ht⟩ (fun v' M1 G1 H1 j1 e1 ⟨em, g, p, h1, h2⟩ => k _ _ _ _ j1 e1 ⟨em, (good_leaf ht).trans g, p, h1, h2⟩) fun c M1 G1 H1 j1 e1 ⟨ec, em, g⟩ => kx _ _ _ _ j1 e1 ⟨ec, em, (good_leaf ht).trans g⟩
  walk_at "start"
  cases hv with
  | non => walk_at "go"; exact leaf _ j rfl
  | bl b => walk_at "go"; exact leaf _ j rfl
  | int i => walk_at "go"; exact leaf _ j rfl
  | str x => walk_at "go"; exact leaf _ j rfl
  | lst h1 =>
    refine w_isi false (ty_L (sl_mono j.g h1)) (by rfl) ?_
    walk_at "go"
    exact leaf _ j rfl
  | dic h1 =>
    refine w_isi false (ty_D (rd_same j.g h1)) (by rfl) ?_
    walk_at "go"
    exact leaf _ j rfl
  | @tup a xs rs h1 h2 =>
    refine w_isi true (ty_T (st_mono j.g h1)) (by rfl) ?_
    walk_at "go"
    cases n with
    | zero =>
      refine w_dT rfl ?_
      walk_at "go"
      exact kx _ _ _ _ j (Same.refl G) ⟨rfl, rfl, rfl⟩
    | succ n =>
      refine w_dF (by omega) ?_
      walk_at "go"
      refine w_lenT j h1 ?_
      walk_at "go"
      refine w_newM j (by show 2 ≤ sizeLine; decide) fun L H1 j1 nM nG => ?_
      walk_at "go"
      have hs : 2 + (cellsL rs).length ≤ 100000 := by
        have e : (cellsM (.tup rs)).length = 2 + (cellsL rs).length := by rw [cellsM, List.length_cons, List.length_cons]; omega
        rw [← e]; exact hs
      have zl := h2.len
      refine w_forTV rfl (xs := xs) (fun i σ H => ∃ G1 x4, J (upd M L (.lst ((5 :: (rs.length : Int) :: cellsL (rs.take i)).map V.int))) G1 H ∧ Ex G G1 ∧ goodL n (rs.take i) = true ∧ σ = [some (.ref a), some (.int ((n + 1 : Nat) : Int)), some (.ref L), x4]) (st_mono j1.g h1) ?_ ?_ ?_ ?_
      · refine ⟨G, _, ?_, Same.refl G, by rw [List.take_zero]; rfl, rfl⟩
        rw [List.take_zero, ← zl]; exact j1
      · rintro i σ H _ ⟨G1, x4, j, e, g, rfl⟩
        exact st_mono j.g (st_mono e h1)
      · rintro i x σ H hi ⟨G1, x4, j, e, g, rfl⟩
        obtain ⟨r, hr1, hr2⟩ := h2.get hi
        obtain ⟨t1, t2⟩ := cells_get hr1
        walk_at "go"
        refine ⟨ty_listU j, ?_⟩
        walk_at "go"
        show spNest K A_BadRecord n _ _ _ _
        refine w_sx (x, r) j ⟨by show [x, V.int (((n + 1 : Nat) : Int) - 1)] ++ [] = [x, .int n]; rw [show ((n + 1 : Nat) : Int) - 1 = n by omega]; rfl, hr2.ex e, by dsimp only; omega⟩ (fun v' M1 G2 H2 j2 e2 ⟨em, g2, p, ev, hp⟩ => ?_) fun c M1 G2 H2 j2 e2 ⟨ec, em, g2⟩ => ?_
        · subst ev em
          refine ⟨L, p, _, _, rfl, rfl, j2.m _ _ upd_same, j2.g _ _ hp, ?_, ?_⟩
          · rw [List.length_map, List.length_map, List.length_cons, List.length_cons]
            dsimp only
            exact sz_le (by omega)
          · refine ⟨G2, _, ?_, e.trans e2, by rw [t1, goodL_append, g, goodL, g2]; rfl, rfl⟩
            have j3 := j2.put (o' := .lst ((5 :: (rs.length : Int) :: cellsL (rs.take i)).map V.int ++ (cellsM r).map V.int)) (upd_same (a := L))
            rw [upd_upd] at j3
            rw [t1, cellsL_append]
            simp only [cellsL, List.append_nil]
            rw [show (5 :: (rs.length : Int) :: (cellsL (rs.take i) ++ cellsM r)).map V.int = (5 :: (rs.length : Int) :: cellsL (rs.take i)).map V.int ++ (cellsM r).map V.int from by rw [← List.map_append]; rfl]
            exact j3
        · subst ec em
          refine kx _ _ _ _ (show J M G2 H2 from ?_) (e.trans e2) ⟨rfl, rfl, ?_⟩
          · have j3 := j2.drop L
            rwa [show del (upd M L _) L = M from by
              funext b
              by_cases q : b = L
              · subst q; rw [del_same, nM]
              · rw [del_ne q, upd_ne q]] at j3
          · show goodL n rs = false
            exact goodL_bad hr1 g2
      · rintro σ H ⟨G1, x4, j, e, g, rfl⟩
        rw [zl, List.take_length] at g j
        walk_at "go"
        have j3 := j.seal upd_same
        rw [show del (upd M L _) L = M from by
              funext b
              by_cases q : b = L
              · subst q; rw [del_same, nM]
              · rw [del_ne q, upd_ne q]] at j3
        exact k _ _ _ _ j3 (e.trans (Ex.new (j.out upd_same))) ⟨rfl, g, L, rfl, by rw [upd_same, cellsM]⟩
theorem ok_nested_cells {P : Program} {w : World} {K : PySem.W.Frag} {mg : Str → Option Value} {base : Heap}
    {f : Addr} {fd : FuncData} (D : Dn K mg "nested_cells" s_nested_cells ["record", "room"] f fd)
    (b_len : mg "len" = none)
    (b_isinstance : mg "isinstance" = none)
    (b_tuple : mg "tuple" = none)
    (g_TUPLE : ∃ u, mg "TUPLE" = some u ∧ RelV (.int 5) u)
    {A_BadRecord : Addr} (x_BadRecord : Xc K mg "BadRecord" A_BadRecord)
    (c_plain_cells : Cal P w K mg base (L2.CX P w) 1 "plain_cells" (sp_plain_cells K A_BadRecord)) : Cal P w K mg base (L2.CX P w) 32 "nested_cells" (sp_nested_cells K A_BadRecord) := by
  have all : ∀ n, Cal P w K mg base (L2.CX P w) (n + 2) "nested_cells" (spNest K A_BadRecord n) := fun n => by
    induction n with
    | zero => exact aux_nested D b_len b_isinstance b_tuple g_TUPLE x_BadRecord c_plain_cells 0 (D.cal ⟨fun _ _ _ _ h => h.elim, fun _ _ _ _ _ _ _ _ _ _ _ _ _ h => h.elim⟩)
    | succ n ih => exact aux_nested D b_len b_isinstance b_tuple g_TUPLE x_BadRecord c_plain_cells (n + 1) ih
  exact all 30
/-! ### flatten -/
abbrev s_flatten : Stmt := top 16
abbrev n_flatten : List Str := ["record"]
theorem sc_flatten : FnScope n_flatten ["record"] (defScope s_flatten) := ⟨rfl, rfl, rfl, by decide +kernel, rfl, by decide +kernel, by decide +kernel⟩
def sp_flatten (K : PySem.W.Frag) (C : Addr) : Sp := Sx (α := V × Rc) (fun x vs _ G => vs = [x.1] ∧ RcAt K G x.1 x.2 ∧ (cellsM x.2).length ≤ 100000)
  (fun x M _ v M' G' => M' = M ∧ goodM 30 x.2 = true ∧ ∃ p, v = .ref p ∧ G' p = some (.lst ((cellsM x.2).map V.int))) (fun x M _ c M' _ => c = C ∧ M' = M ∧ goodM 30 x.2 = false)
theorem ok_flatten {P : Program} {w : World} {K : PySem.W.Frag} {mg : Str → Option Value} {base : Heap}
    {f : Addr} {fd : FuncData} (D : Dn K mg "flatten" s_flatten ["record"] f fd)
    (g_DEEPEST : ∃ u, mg "DEEPEST" = some u ∧ RelV (.int 30) u)
    (c_nested_cells : Cal P w K mg base (L2.CX P w) 32 "nested_cells" (sp_nested_cells K A_BadRecord)) : Cal P w K mg base (L2.CX P w) 33 "flatten" (sp_flatten K A_BadRecord) := by
  refine D.okX sc_flatten (fun vs H Q E h => ?_) fun cdv A outer s H vs Q E hr h => ?_
  · obtain ⟨x, M, G, j, ⟨rfl, _⟩, _⟩ := h; rfl
  obtain ⟨⟨v, r⟩, M, G, j, ⟨rfl, hv, hs⟩, k, kx⟩ := h
  refine ⟨_, (pss_one (ps_ret (pe_calX c_nested_cells hr (by first | decide | omega) (by rfl) (takes_of rfl rfl rfl rfl) (pa_cons (pv 0) (pa_cons (pe_gk (by rfl) g_DEEPEST) pa_nil))))), ?_⟩
  walk_at "start"
  show spNest K A_BadRecord 30 _ _ _ _
  exact w_sx (v, r) j ⟨rfl, hv, hs⟩ (fun v' M1 G1 H1 j1 e1 h => k _ _ _ _ j1 e1 h) fun c M1 G1 H1 j1 e1 h => kx _ _ _ _ j1 e1 h
/-! ### blocks_of -/
abbrev s_blocks_of : Stmt := top 24
abbrev n_blocks_of : List Str := ["record", "generation", "number", "cells", "parts", "part"]
theorem sc_blocks_of : FnScope n_blocks_of ["record", "generation", "number"] (defScope s_blocks_of) := ⟨rfl, rfl, rfl, by decide +kernel, rfl, by decide +kernel, by decide +kernel⟩
def sp_blocks_of (K : PySem.W.Frag) (C : Addr) : Sp := Sx (α := V × Rc × Int × Int) (fun x vs _ G => vs = [x.1, .int x.2.2.1, .int x.2.2.2] ∧ RcAt K G x.1 x.2.1 ∧ (cellsM x.2.1).length ≤ 100000)
  (fun x M _ v M' G' => M' = M ∧ goodM 30 x.2.1 = true ∧ ∃ p vs, v = .ref p ∧ G' p = some (.lst vs) ∧ BksAt K G' vs (bksM x.2.2.1 x.2.2.2 (cellsM x.2.1))) (fun x M _ c M' _ => c = C ∧ M' = M ∧ goodM 30 x.2.1 = false)
theorem ok_blocks_of {P : Program} {w : World} {K : PySem.W.Frag} {mg : Str → Option Value} {base : Heap}
    {f : Addr} {fd : FuncData} (D : Dn K mg "blocks_of" s_blocks_of ["record", "generation", "number"] f fd)
    (b_range : mg "range" = none)
    (b_tuple : mg "tuple" = none)
    (b_len : mg "len" = none)
    (g_CELLS : ∃ u, mg "CELLS" = some u ∧ RelV (.int 6) u)
    (c_flatten : Cal P w K mg base (L2.CX P w) 33 "flatten" (sp_flatten K A_BadRecord)) : Cal P w K mg base (L2.CX P w) 34 "blocks_of" (sp_blocks_of K A_BadRecord) := by
  refine D.okX sc_blocks_of (fun vs H Q E h => ?_) fun cdv A outer s H vs Q E hr h => ?_
  · obtain ⟨x, M, G, j, ⟨rfl, _⟩, _⟩ := h; rfl
  obtain ⟨⟨v, r, g, n⟩, M, G, j, ⟨rfl, hv, hs⟩, k, kx⟩ := h
  dsimp only at hv hs k kx
  refine ⟨_, (pss_cons (ps_set (i := 3) sc_blocks_of.nd rfl (Or.inr rfl) (pe_calX c_flatten hr (by first | decide | omega) (by rfl) (takes_of rfl rfl rfl rfl) (pa_cons (pv 0) pa_nil)))
(pss_cons (ps_set (i := 4) sc_blocks_of.nd rfl (Or.inr rfl) (pe_op op_fdiv (pe_op op_sub (pe_op (op_uAddK (K := K) rfl) (pe_callB (call_uLenK (K := K) rfl) (by rfl) b_len PySem.boot_len (pa_cons (pv 3) pa_nil)) (pe_gk (by rfl) g_CELLS)) pe_int) (pe_gk (by rfl) g_CELLS)))
(pss_one (ps_ret (pe_lc (own := [("part", 5)]) (by rfl) sc_blocks_of.nd (pi_range1 (by rfl) b_range (pa_cons (pv 4) pa_nil)) (blkOk_by (own := [("part", 5)]) (N := n_blocks_of) (sc := defScope s_blocks_of) (by decide +kernel)) (fun _ _ _ _ _ => pg_name (i := 5) sc_blocks_of.nd rfl (Or.inl rfl)) (fun _ _ _ _ _ => pts_nil) (fun _ _ _ _ _ => (pe_tup (pa_cons (pv 1) (pa_cons (pv 2) (pa_cons (pv 5) (pa_cons (pv 4) (pa_cons (pe_callTy (call_tupC (K := K) rfl) (by rfl) b_tuple bt_tuple (pa_cons (pe_slice (sl_uK (K := K) rfl) (pv 3) (po_some (pe_op op_uMul (pv 5) (pe_gk (by rfl) g_CELLS))) (po_some (pe_op op_uMul (pe_op (op_uAddK (K := K) rfl) (pv 5) pe_int) (pe_gk (by rfl) g_CELLS)))) pa_nil)) pa_nil)))))))))))), ?_⟩
  walk_at "start"
  refine w_sx (v, r) j ⟨rfl, hv, hs⟩ (fun v' M1 G1 H1 j1 e1 h => ?_) fun c M1 G1 H1 j1 e1 h => kx _ _ _ _ j1 e1 h
  obtain ⟨hM, hg, p, rfl, hp⟩ := h
  subst hM
  walk_at "go"
  refine w_lenL j1 (sl_of hp) ?_
  walk_at "go"
  have hpn : ((((cellsM r).map V.int).length : Int) + 6 - 1) / 6 = (nparts (cellsM r) : Int) := by rw [List.length_map]; unfold nparts; omega
  have pb : nparts (cellsM r) ≤ 17000 := by unfold nparts; omega
  rw [hpn]
  refine w_lcr j1 (fun L i acc M2 G2 => Ex G1 G2 ∧ Ag L M1 M2 ∧ M1 L = none ∧ BksAt K G2 acc ((List.range i).map (bkM g n (cellsM r)))) ?_ (fun _ => rfl) ?_ ?_
  · exact fun L nM nG => ⟨Same.refl _, Ag.upd, nM, .nil⟩
  · rintro L i acc M2 G2 H2 R hi j2 hL ⟨e2, ag, nM, hb⟩ hR
    have hi' : i < nparts (cellsM r) := hi
    have l1 : acc.length = i := by rw [hb.len, List.length_map, List.length_range]
    have il : 6 * i ≤ (cellsM r).length := by unfold nparts at hi'; omega
    walk_at "go"
    refine w_slL j2 (sl_of (e2 _ _ hp)) ?_
    rw [cut_six il]
    refine w_new j2 (Nat.zero_le _) fun u G3 H3 j3 e3 hu _ => ?_
    walk_at "go"
    refine w_tupC (sl_mono j3.g (sl_of hu)) ?_
    refine w_new j3 (Nat.zero_le _) fun u2 G4 H4 j4 e4 hu2 _ => ?_
    walk_at "go"
    refine w_new j4 (by show 5 ≤ sizeLine; decide) fun t G5 H5 j5 e5 ht _ => ?_
    refine hR _ _ ⟨M2, G5, j5, hL, sz_lt (by omega), ((e2.trans e3).trans e4).trans e5, ag.trans Ag.upd, nM, ?_⟩
    rw [bks_snoc]
    exact (hb.ex ((e3.trans e4).trans e5)).snoc ⟨t, u2, rfl, ht, st_of (e5 _ _ hu2)⟩
  · rintro L acc M2 G2 H2 j2 hL ⟨e2, ag, nM, hb⟩
    have e3 := Ex.new (o := .lst acc) (j2.out hL)
    exact k _ _ _ _ (j2.seal hL) ((e1.trans e2).trans e3) ⟨ag.del_eq nM, hg, L, acc, rfl, upd_same, hb.ex e3⟩
/-! ### Journal.enter -/
abbrev s_Journal_enter : Stmt := inClass (top 27) 2
abbrev n_Journal_enter : List Str := ["self", "record", "sync", "blocks", "block"]
theorem sc_Journal_enter : FnScope n_Journal_enter ["self", "record", "sync"] (defScope s_Journal_enter) := ⟨rfl, rfl, rfl, by decide +kernel, rfl, by decide +kernel, by decide +kernel⟩
/-- the writes of blocks, one behind the other -/
def wrAll : DS → Nat → List V → DS
  | s, _, [] => s
  | s, pl, x :: xs => wrAll (wrS s pl x) (pl + 1) xs
theorem wrAll_snoc (x : V) : ∀ (xs : List V) (s : DS) (pl : Nat), wrAll s pl (xs ++ [x]) = wrS (wrAll s pl xs) ((pl + xs.length : Nat) : Int) x
  | [], s, pl => rfl
  | y :: ys, s, pl => by
    show wrAll (wrS s pl y) (pl + 1) (ys ++ [x]) = _
    rw [wrAll_snoc x ys]
    show wrS _ (((pl + 1 + ys.length : Nat)) : Int) x = wrS _ ((pl + (ys.length + 1) : Nat) : Int) x
    rw [show pl + 1 + ys.length = pl + (ys.length + 1) by omega]
    rfl
theorem wrAll_ca (xs : List V) : ∀ (s : DS) (pl : Nat), (wrAll s pl xs).ca.length = s.ca.length + xs.length := by
  induction xs with
  | nil => intro s pl; rfl
  | cons x xs ih =>
    intro s pl
    show (wrAll (wrS s pl x) (pl + 1) xs).ca.length = _
    rw [ih, List.length_cons]
    show (s.ca ++ [_]).length + _ = _
    rw [List.length_append]; simp only [List.length_cons, List.length_nil]; omega
theorem wrAll_kf (xs : List V) : ∀ (s : DS) (pl : Nat), (wrAll s pl xs).kf.length ≤ s.kf.length + xs.length := by
  induction xs with
  | nil => intro s pl; exact Nat.le_refl _
  | cons x xs ih =>
    intro s pl
    have h := ih (wrS s pl x) (pl + 1)
    have h2 : (wrS s pl x).kf.length ≤ s.kf.length + 1 := putK_len' _ _ _
    show (wrAll (wrS s pl x) (pl + 1) xs).kf.length ≤ _
    rw [List.length_cons]; omega
theorem wrAll_kb (xs : List V) : ∀ (s : DS) (pl : Nat), (wrAll s pl xs).kb = s.kb := by
  induction xs with
  | nil => intro s pl; rfl
  | cons x xs ih => intro s pl; exact ih (wrS s pl x) (pl + 1)
def syncS (s : DS) : DS := ⟨s.ca.foldl putC s.kb, [], [], s.r⟩
/-- the journal's two cells, the disk's four -/
structure JnAt (C D : Addr) (M G : Hp) (ja : JA) (d : DA) (s : DS) (g : Int) (rs : List V) (pl : Nat) : Prop where
  op : M ja.p = some (.ins C ja.dx (fl_Journal (.ref d.p) (.ref ja.r) (.int g) (.int pl)))
  or : M ja.r = some (.lst rs)
  dk : DkAt D M G d s
  pd : ja.p ≠ d.p
  rc : ja.r ≠ d.c
def Fj (ja : JA) (d : DA) (M M' : Hp) : Prop := ∀ a o, M a = some o → a ≠ ja.p → a ≠ ja.r → a ≠ d.p → a ≠ d.b → a ≠ d.c → a ≠ d.f → M' a = some o
theorem JnAt.ex {C D : Addr} {M G G' : Hp} {ja : JA} {d : DA} {s : DS} {g : Int} {rs : List V} {pl : Nat} (h : JnAt C D M G ja d s g rs pl) (e : Ex G G') : JnAt C D M G' ja d s g rs pl := ⟨h.op, h.or, h.dk.ex e, h.pd, h.rc⟩
theorem JnAt.nes {C D : Addr} {M G : Hp} {ja : JA} {d : DA} {s : DS} {g : Int} {rs : List V} {pl : Nat} (h : JnAt C D M G ja d s g rs pl) : ja.p ≠ d.b ∧ ja.p ≠ d.c ∧ ja.p ≠ d.f ∧ ja.r ≠ d.p ∧ ja.r ≠ d.b ∧ ja.r ≠ d.f ∧ ja.p ≠ ja.r := by
  obtain ⟨xs, hc, _⟩ := h.dk.oc
  exact ⟨ne_k h.op h.dk.ob (fun z => nomatch z), ne_k h.op hc (fun z => nomatch z), ne_k h.op h.dk.of (fun z => nomatch z), ne_k h.or h.dk.op (fun z => nomatch z), ne_k h.or h.dk.ob (fun z => nomatch z), ne_k h.or h.dk.of (fun z => nomatch z), ne_k h.op h.or (fun z => nomatch z)⟩
structure EnP where
  ja : JA
  d : DA
  s : DS
  g : Int
  rs : List V
  pl : Nat
  v : V
  r : Rc
  sy : Bool
def sp_Journal_enter (K : PySem.W.Frag) (C D : Addr) : Sp := Sg (α := EnP) (fun x vs M G => vs = [.ref x.ja.p, x.v, .bl x.sy] ∧ JnAt C D M G x.ja x.d x.s x.g x.rs x.pl ∧ RcAt K G x.v x.r ∧ goodM 30 x.r = true ∧ (cellsM x.r).length ≤ 100000 ∧ x.rs.length < 900000 ∧ x.s.kf.length + x.s.ca.length + x.s.kb.length < 900000)
  (fun x M _ v M' G' => v = .non ∧ ∃ ws, BksAt K G' ws (bksM x.g x.rs.length (cellsM x.r)) ∧
    ∃ c f, JnAt C D M' G' x.ja { x.d with c := c, f := f } (if x.sy = true then syncS (wrAll x.s x.pl ws) else wrAll x.s x.pl ws) x.g (x.rs ++ [x.v]) (x.pl + ws.length) ∧ Fj x.ja x.d M M' ∧ (c = x.d.c ∨ M c = none) ∧ (f = x.d.f ∨ M f = none))
theorem ok_Journal_enter {P : Program} {w : World} {K : PySem.W.Frag} {mg : Str → Option Value} {base : Heap}
    {C_Disk : Addr} (T_Disk : Tx_Disk K mg C_Disk)
    {C_Journal : Addr} (T_Journal : Tx_Journal K mg C_Journal)
    {f : Addr} {fd : FuncData} (D : Dmk K C_Journal "enter" "Journal.enter" s_Journal_enter ["self", "record", "sync"] 2 "sync" (V.bl false) f fd)
    (b_len : mg "len" = none)
    (c_Disk_sync : CalM P w K mg base CX0 2 C_Disk "sync" (sp_Disk_sync K C_Disk))
    (c_Disk_write : CalM P w K mg base CX0 1 C_Disk "write" (sp_Disk_write K C_Disk))
    (c_blocks_of : Cal P w K mg base (L2.CX P w) 34 "blocks_of" (sp_blocks_of K A_BadRecord)) : CalMK P w K mg base CX0 35 C_Journal "enter" 2 "sync" (V.bl false) (sp_Journal_enter K C_Journal C_Disk) := by
  refine D.ok sc_Journal_enter (fun vs H Q E h => ?_) fun cdv A outer s H vs Q E hr h => ?_
  · obtain ⟨x, M, G, j, ⟨rfl, _⟩, _⟩ := h; rfl
  obtain ⟨⟨ja, d, s, g, rs, pl, v, r, sy⟩, M, G, j, ⟨rfl, hj, hv, hg, hz, z1, z2⟩, k⟩ := h
  dsimp only at hj hv hg hz z1 z2 k
  refine ⟨_, (pss_cons (ps_set (i := 3) sc_Journal_enter.nd rfl (Or.inl rfl) (pe_cal c_blocks_of.calm hr (by first | decide | omega) (by rfl) (pa_cons (pv 1) (pa_cons (pe_fld (pv 0) rfl) (pa_cons (pe_callB (call_uLenK (K := K) rfl) (by rfl) b_len PySem.boot_len (pa_cons (pe_fld (pv 0) rfl) pa_nil)) pa_nil)))))
(pss_cons (ps_for PassesOwn.never rfl (pi_list (pv 3)) (pg_name (i := 4) sc_Journal_enter.nd rfl (Or.inl rfl))
(pss_cons (ps_expr (pe_calM c_Disk_write T_Disk.cl hr (by first | decide | omega) (pe_fld (pv 0) rfl) (pa_cons (pe_fld (pv 0) rfl) (pa_cons (pv 4) pa_nil))))
(pss_one (ps_fldaug (pv 0) pe_int in_add))))
(pss_cons (ps_expr (pe_bm PySem.F.plainAttrs_list PySem.F.slot_list_append PySem.F.type_list_append mt_append (pe_fld (pv 0) rfl) (pa_cons (pv 1) pa_nil)))
(pss_one (ps_if (pt_val (pv 2))
(pss_one (ps_expr (pe_calM0 c_Disk_sync T_Disk.cl hr (by first | decide | omega) (pe_fld (pv 0) rfl))))
pss_nil))))), ?_⟩
  walk_at "start"
  refine w_fldM j hj.op T_Journal.cl T_Journal.n_generation fl_Journal_generation ?_
  walk_at "go"
  refine w_fldM j hj.op T_Journal.cl T_Journal.n_records fl_Journal_records ?_
  walk_at "go"
  refine w_lenM j hj.or ?_
  walk_at "go"
  refine w_sxc (v, r, g, (rs.length : Int)) j ⟨rfl, hv, hz⟩ (fun v1 M1 G1 H1 j1 e1 ⟨em, _, a, ws, ev, ha, hw⟩ => ?_) fun C M1 G1 H1 j1 e1 ⟨_, _, z⟩ => by rw [hg] at z; cases z
  subst em ev
  walk_at "go"
  have lw : ws.length = nparts (cellsM r) := by rw [hw.len]; unfold bksM; rw [List.length_map, List.length_range]
  have bw : ws.length ≤ 17000 := by rw [lw]; unfold nparts; omega
  refine w_forLV rfl (xs := ws) (fun i σ H => ∃ M2 G2 x4, J M2 G2 H ∧ Ex G1 G2 ∧ JnAt C_Journal C_Disk M2 G2 ja d (wrAll s pl (ws.take i)) g rs (pl + i) ∧ Fj ja d M1 M2 ∧ σ = [some (.ref ja.p), some v, some (.bl sy), some (.ref a), x4])
    (sl_mono j1.g (sl_of ha)) ⟨M1, G1, _, j1, Same.refl _, hj.ex e1, fun a o e _ _ _ _ _ _ => e, rfl⟩ ?_ ?_ ?_
  · rintro i σ H _ ⟨M2, G2, x4, j2, e2, hj2, fr2, rfl⟩
    exact sl_mono (e2.trans j2.g) (sl_of ha)
  · rintro i x σ H hi ⟨M2, G2, x4, j2, e2, hj2, fr2, rfl⟩
    have il : i < ws.length := (List.getElem?_eq_some_iff.mp hi).1
    have tl : (ws.take i).length = i := by rw [List.length_take]; omega
    obtain ⟨n1, n2, n3, n4, n5, n6, n7⟩ := hj2.nes
    walk_at "go"
    refine w_fldM j2 hj2.op T_Journal.cl T_Journal.n_disk fl_Journal_disk ?_
    refine w_methM j2 hj2.dk.op (no_Disk (by decide +kernel) (by decide +kernel) (by decide +kernel) (by decide +kernel)) ?_
    walk_at "go"
    refine w_fldM j2 hj2.op T_Journal.cl T_Journal.n_place fl_Journal_place ?_
    walk_at "go"
    have y1 := wrAll_kf (ws.take i) s pl
    have y2 := wrAll_ca (ws.take i) s pl
    refine w_sg (d, wrAll s pl (ws.take i), ((pl + i : Nat) : Int), x) j2 ⟨rfl, hj2.dk, by dsimp only; omega, by dsimp only; omega⟩ fun v3 M3 G3 H3 j3 e3 ⟨_, hd3, fr3⟩ => ?_
    walk_at "go"
    have op3 := fr3 _ _ hj2.op hj2.pd n1 n2 n3
    have or3 := fr3 _ _ hj2.or n4 n5 hj2.rc n6
    refine w_augK j3 op3 T_Journal.cl T_Journal.n_place fl_Journal_place (by show 4 < 1000; decide) fun R hR => ?_
    walk_at "go"
    refine hR _ _ ⟨1, M3, G3, rfl, j3, op3, fun H4 j4 => ?_⟩
    rw [sf_Journal_place] at j4
    have es : wrAll s pl (ws.take (i + 1)) = wrS (wrAll s pl (ws.take i)) ((pl + i : Nat) : Int) x := by
      rw [take_one' hi, wrAll_snoc, tl]
    refine ⟨_, G3, _, j4, e2.trans e3, ⟨?_, upd_ne' or3 n7.symm, ?_, hj2.pd, hj2.rc⟩, fun b o e m1 m2 m3 m4 m5 m6 => upd_ne' (fr3 _ _ (fr2 b o e m1 m2 m3 m4 m5 m6) m3 m4 m5 m6) m1, rfl⟩
    · rw [upd_same]
      show some (HO.ins C_Journal ja.dx (fl_Journal (V.ref d.p) (V.ref ja.r) (V.int g) (V.int (((pl + i : Nat) : Int) + 1)))) = _
      rw [show ((pl + i : Nat) : Int) + 1 = ((pl + (i + 1) : Nat) : Int) by omega]
    · rw [es]
      exact hd3.mv (upd_ne hj2.pd.symm) (upd_ne n1.symm) (upd_ne n2.symm) (upd_ne n3.symm)
  · rintro σ H ⟨M2, G2, x4, j2, e2, hj2, fr2, rfl⟩
    rw [List.take_length] at hj2
    obtain ⟨n1, n2, n3, n4, n5, n6, n7⟩ := hj2.nes
    walk_at "go"
    refine w_fldM j2 hj2.op T_Journal.cl T_Journal.n_records fl_Journal_records ?_
    refine ⟨ty_listM j2 hj2.or, ?_⟩
    walk_at "go"
    refine w_appendM j2 hj2.or (sz_lt (by omega)) fun H3 j3 => ?_
    have hj3 : JnAt C_Journal C_Disk (upd M2 ja.r (.lst (rs ++ [v]))) G2 ja d (wrAll s pl ws) g (rs ++ [v]) (pl + ws.length) :=
      ⟨upd_ne' hj2.op n7, upd_same, hj2.dk.mv (upd_ne n4.symm) (upd_ne n5.symm) (upd_ne hj2.rc.symm) (upd_ne n6.symm), hj2.pd, hj2.rc⟩
    have fr3 : Fj ja d M1 (upd M2 ja.r (.lst (rs ++ [v]))) := fun b o e m1 m2 m3 m4 m5 m6 => upd_ne' (fr2 b o e m1 m2 m3 m4 m5 m6) m2
    walk_at "go"
    cases sy with
    | false =>
      walk_at "go"
      exact k _ _ _ _ j3 (e1.trans e2) ⟨rfl, ws, hw.ex e2, d.c, d.f, hj3, fr3, .inl rfl, .inl rfl⟩
    | true =>
      walk_at "go"
      refine w_fldM j3 hj3.op T_Journal.cl T_Journal.n_disk fl_Journal_disk ?_
      refine w_methM j3 hj3.dk.op (no_Disk (by decide +kernel) (by decide +kernel) (by decide +kernel) (by decide +kernel)) ?_
      walk_at "go"
      have y2 := wrAll_ca ws s pl
      have y3 := wrAll_kb ws s pl
      refine w_sg (d, wrAll s pl ws) j3 ⟨rfl, hj3.dk, by dsimp only; rw [y3]; omega⟩ fun v4 M4 G4 H4 j4 e4 ⟨_, c, f, hd4, fr4, nc, nf⟩ => ?_
      walk_at "go"
      have old : ∀ b : Addr, upd M2 ja.r (.lst (rs ++ [v])) b = none → M1 b = none := fun b e => by
        obtain ⟨xs, hc, _⟩ := hj3.dk.oc
        cases q : M1 b with
        | none => rfl
        | some o => rw [fr3 b o q (ne_of_none hj3.op e).symm (ne_of_none hj3.or e).symm (ne_of_none hj3.dk.op e).symm (ne_of_none hj3.dk.ob e).symm (ne_of_none hc e).symm (ne_of_none hj3.dk.of e).symm] at e; cases e
      have rn : ja.r ≠ c := ne_of_none hj3.or nc
      exact k _ _ _ _ j4 ((e1.trans e2).trans e4) ⟨rfl, ws, hw.ex (e2.trans e4), c, f, ⟨fr4 _ _ hj3.op hj2.pd n1 n2 n3, fr4 _ _ hj3.or n4 n5 hj2.rc n6, hd4, hj2.pd, rn⟩, fun b o e m1 m2 m3 m4 m5 m6 => fr4 _ _ (fr3 b o e m1 m2 m3 m4 m5 m6) m3 m4 m5 m6, .inr (old _ nc), .inr (old _ nf)⟩
/-! ### _law_all_equal -/
abbrev s_law_all_equal : Stmt := top 37
abbrev n_law_all_equal : List Str := ["actual", "due", "k"]
theorem sc_law_all_equal : FnScope n_law_all_equal ["actual", "due"] (defScope s_law_all_equal) := ⟨rfl, rfl, rfl, by decide +kernel, rfl, by decide +kernel, by decide +kernel⟩
theorem ok_law_all_equal {P : Program} {w : World} {K : PySem.W.Frag} {mg : Str → Option Value} {base : Heap} {f : Addr} {fd : FuncData} (D : Dn K mg "_law_all_equal" s_law_all_equal ["actual", "due"] f fd)
    (b_range : mg "range" = none) (b_len : mg "len" = none) (n : Nat) (c_law_equal : Cal P w K mg base CX0 (2 * n + 1) "_law_equal" (spEq K n)) : Cal P w K mg base CX0 (2 * n + 2) "_law_all_equal" (spAll K (n + 1)) := by
  refine D.ok sc_law_all_equal (fun vs H Q E h => ?_) fun cdv A outer s H vs Q E hr h => ?_
  · obtain ⟨x, M, G, j, ⟨rfl, _⟩, _⟩ := h; rfl
  obtain ⟨⟨a, b, xs, ys, ds⟩, M, G, j, ⟨rfl, ha, hb, hx, hy, hl, hok⟩, k⟩ := h
  dsimp only at ha hb hx hy hl hok k
  refine ⟨_, (pss_cons (ps_for PassesOwn.never rfl (pi_range1 (by rfl) b_range (pa_cons (pe_callB (call_uLenK (K := K) rfl) (by rfl) b_len PySem.boot_len (pa_cons (pv 1) pa_nil)) pa_nil)) (pg_name (i := 2) sc_law_all_equal.nd rfl (Or.inl rfl))
(pss_one (ps_if (pt_not (pt_val (pe_cal c_law_equal hr (by first | decide | omega) (by rfl) (pa_cons (pe_ix (ix_uK (K := K) rfl) (pv 0) (pv 2) (fun _ _ => rfl)) (pa_cons (pe_ix (ix_uK (K := K) rfl) (pv 1) (pv 2) (fun _ _ => rfl)) pa_nil)))))
(pss_one (ps_ret pe_bl))
pss_nil)))
(pss_one (ps_ret pe_bl))), ?_⟩
  walk_at "start"
  refine w_lenB j hb ?_
  walk_at "go"
  have hyl := dpAll_len hy
  refine w_rng (fun i σ H => ∃ G1 z, J M G1 H ∧ Ex G G1 ∧ σ = [some (.ref a), some (.ref b), z]) ⟨G, _, j, Same.refl G, rfl⟩ ?_ ?_ (by omega) (by omega)
  · rintro i σ H hi ⟨G1, z, j, e, rfl⟩
    have hi : i < ds.length := by rw [← hyl]; simpa using hi
    obtain ⟨x, hx1, hx2⟩ := dpAll_get hx (List.getElem?_eq_getElem hi)
    obtain ⟨y, hy1, hy2⟩ := dpAll_get hy (List.getElem?_eq_getElem hi)
    walk_at "go"
    refine w_ixB j (ha.imp (sl_mono e) (st_mono e)) (atI_nat hx1) ?_
    walk_at "go"
    refine w_ixB j (hb.imp (sl_mono e) (st_mono e)) (atI_nat hy1) ?_
    walk_at "go"
    refine use_eq j (dp_mono e hx2) (dp_mono e hy2) (hok _ (List.getElem_mem hi)) fun G2 H2 j2 e2 => ?_
    walk_at "go"
    exact ⟨G2, _, j2, e.trans e2, rfl⟩
  · rintro σ H ⟨G1, z, j, e, rfl⟩
    walk_at "go"
    exact k _ _ _ _ j e ⟨rfl, rfl⟩
/-! ### _law_equal -/
abbrev s_law_equal : Stmt := top 36
abbrev n_law_equal : List Str := ["actual", "due"]
theorem sc_law_equal : FnScope n_law_equal ["actual", "due"] (defScope s_law_equal) := ⟨rfl, rfl, rfl, by decide +kernel, rfl, by decide +kernel, by decide +kernel⟩
theorem ok_law_equal {P : Program} {w : World} {K : PySem.W.Frag} {mg : Str → Option Value} {base : Heap} {f : Addr} {fd : FuncData} (D : Dn K mg "_law_equal" s_law_equal ["actual", "due"] f fd)
    (b_isinstance : mg "isinstance" = none) (b_list : mg "list" = none) (b_tuple : mg "tuple" = none) (b_bool : mg "bool" = none) (b_int : mg "int" = none) (b_str : mg "str" = none) (b_len : mg "len" = none) (n : Nat)
    (c_law_all_equal : Cal P w K mg base CX0 (2 * n) "_law_all_equal" (spAll K n)) : Cal P w K mg base CX0 (2 * n + 1) "_law_equal" (spEq K n) := by
  refine D.ok sc_law_equal (fun vs H Q E h => ?_) fun cdv A outer s H vs Q E hr h => ?_
  · obtain ⟨x, M, G, j, ⟨rfl, _⟩, _⟩ := h; rfl
  obtain ⟨⟨x, y, d⟩, M, G, j, ⟨rfl, hx, hy, hok⟩, k⟩ := h
  dsimp only at hx hy hok k
  refine ⟨_, (pss_cons (ps_if (pt_val (pe_callB (call_isiK' (K := K) rfl) (by rfl) b_isinstance bt_isinstance (pa_cons (pv 1) (pa_cons (pe_bltn (v := .ty "list") (by rfl) b_list bt_list rfl) pa_nil))))
(pss_cons (ps_if (PW.pt (pw_or (pt_not (pt_val (pe_callB (call_isiK' (K := K) rfl) (by rfl) b_isinstance bt_isinstance (pa_cons (pv 0) (pa_cons (pe_bltn (v := .ty "list") (by rfl) b_list bt_list rfl) pa_nil))))) (pw_or1 (pt_cmpR (op_uNeK (K := K) rfl hr) (pe_callB (call_uLenK (K := K) rfl) (by rfl) b_len PySem.boot_len (pa_cons (pv 0) pa_nil)) (pe_callB (call_uLenK (K := K) rfl) (by rfl) b_len PySem.boot_len (pa_cons (pv 1) pa_nil)) (nomark _)))))
(pss_one (ps_ret pe_bl))
pss_nil)
(pss_one (ps_ret (pe_cal c_law_all_equal hr (by first | decide | omega) (by rfl) (pa_cons (pv 0) (pa_cons (pv 1) pa_nil))))))
pss_nil)
(pss_cons (ps_if (pt_val (pe_callB (call_isiK' (K := K) rfl) (by rfl) b_isinstance bt_isinstance (pa_cons (pv 1) (pa_cons (pe_bltn (v := .ty "tuple") (by rfl) b_tuple bt_tuple rfl) pa_nil))))
(pss_cons (ps_if (PW.pt (pw_or (pt_not (pt_val (pe_callB (call_isiK' (K := K) rfl) (by rfl) b_isinstance bt_isinstance (pa_cons (pv 0) (pa_cons (pe_bltn (v := .ty "tuple") (by rfl) b_tuple bt_tuple rfl) pa_nil))))) (pw_or1 (pt_cmpR (op_uNeK (K := K) rfl hr) (pe_callB (call_uLenK (K := K) rfl) (by rfl) b_len PySem.boot_len (pa_cons (pv 0) pa_nil)) (pe_callB (call_uLenK (K := K) rfl) (by rfl) b_len PySem.boot_len (pa_cons (pv 1) pa_nil)) (nomark _)))))
(pss_one (ps_ret pe_bl))
pss_nil)
(pss_one (ps_ret (pe_cal c_law_all_equal hr (by first | decide | omega) (by rfl) (pa_cons (pv 0) (pa_cons (pv 1) pa_nil))))))
pss_nil)
(pss_cons (ps_if (pt_val (pe_callB (call_isiK' (K := K) rfl) (by rfl) b_isinstance bt_isinstance (pa_cons (pv 1) (pa_cons (pe_bltn (v := .ty "bool") (by rfl) b_bool bt_bool rfl) pa_nil))))
(pss_one (ps_ret (pe_and (pe_callB (call_isiK' (K := K) rfl) (by rfl) b_isinstance bt_isinstance (pa_cons (pv 0) (pa_cons (pe_bltn (v := .ty "bool") (by rfl) b_bool bt_bool rfl) pa_nil))) (pe_one (pe_cmpR (op_uEqK (K := K) rfl hr) (pv 0) (pv 1) (nomark _))))))
pss_nil)
(pss_cons (ps_if (pt_val (pe_callB (call_isiK' (K := K) rfl) (by rfl) b_isinstance bt_isinstance (pa_cons (pv 1) (pa_cons (pe_bltn (v := .ty "int") (by rfl) b_int bt_int rfl) pa_nil))))
(pss_one (ps_ret (pe_and (pe_callB (call_isiK' (K := K) rfl) (by rfl) b_isinstance bt_isinstance (pa_cons (pv 0) (pa_cons (pe_bltn (v := .ty "int") (by rfl) b_int bt_int rfl) pa_nil))) (pe_and (pe_not (pe_callB (call_isiK' (K := K) rfl) (by rfl) b_isinstance bt_isinstance (pa_cons (pv 0) (pa_cons (pe_bltn (v := .ty "bool") (by rfl) b_bool bt_bool rfl) pa_nil)))) (pe_one (pe_cmpR (op_uEqK (K := K) rfl hr) (pv 0) (pv 1) (nomark _)))))))
pss_nil)
(pss_cons (ps_if (pt_val (pe_callB (call_isiK' (K := K) rfl) (by rfl) b_isinstance bt_isinstance (pa_cons (pv 1) (pa_cons (pe_bltn (v := .ty "str") (by rfl) b_str bt_str rfl) pa_nil))))
(pss_one (ps_ret (pe_and (pe_callB (call_isiK' (K := K) rfl) (by rfl) b_isinstance bt_isinstance (pa_cons (pv 0) (pa_cons (pe_bltn (v := .ty "str") (by rfl) b_str bt_str rfl) pa_nil))) (pe_one (pe_cmpR (op_uEqK (K := K) rfl hr) (pv 0) (pv 1) (nomark _))))))
pss_nil)
(pss_one (ps_ret (pe_cmp (pc_isN (pv 0)))))))))), ?_⟩
  walk_at "start"
  have fin : Q (.bl true) H := k _ _ _ _ j (Same.refl G) ⟨rfl, rfl⟩
  cases hy with
  | non =>
    cases hx
    walk_at "gx"
    exact fin
  | bl b =>
    cases hx
    walk_at "gx"
    refine w_eqV rfl (decide_eq_true rfl) ?_
    exact fin
  | int b =>
    cases hx
    walk_at "gx"
    rw [decide_eq_true rfl]
    exact fin
  | str b =>
    cases hx
    walk_at "gx"
    exact fin
  | lst hb hyl =>
    cases hx with
    | lst ha hxl =>
      cases n with
      | zero => cases hok
      | succ n =>
        walk_at "gx"
        refine w_isi true (ty_L (sl_mono j.g hb)) (by rfl) ?_
        walk_at "gx"
        refine w_isi true (ty_L (sl_mono j.g ha)) (by rfl) ?_
        walk_at "gx"
        refine w_lenL j ha ?_
        walk_at "gx"
        refine w_lenL j hb ?_
        walk_at "gx"
        rw [dpAll_len hxl, dpAll_len hyl, decide_eq_true rfl]
        refine w_F ?_
        walk_at "gx"
        exact use_all j (.inl ha) (.inl hb) hxl hyl hok.1 hok.2 fun G' H' j' e => k _ _ _ _ j' e ⟨rfl, rfl⟩
  | tup hb hyl =>
    cases hx with
    | tup ha hxl =>
      cases n with
      | zero => cases hok
      | succ n =>
        walk_at "gx"
        refine w_isi false (ty_T (st_mono j.g hb)) (by rfl) ?_
        walk_at "gx"
        refine w_isi true (ty_T (st_mono j.g hb)) (by rfl) ?_
        walk_at "gx"
        refine w_isi true (ty_T (st_mono j.g ha)) (by rfl) ?_
        walk_at "gx"
        refine w_lenT j ha ?_
        walk_at "gx"
        refine w_lenT j hb ?_
        walk_at "gx"
        rw [dpAll_len hxl, dpAll_len hyl, decide_eq_true rfl]
        refine w_F ?_
        walk_at "gx"
        exact use_all j (.inr ha) (.inr hb) hxl hyl hok.1 hok.2 fun G' H' j' e => k _ _ _ _ j' e ⟨rfl, rfl⟩
/-- both, at every depth -/
theorem ok_equal {P : Program} {w : World} {K : PySem.W.Frag} {mg : Str → Option Value} {base : Heap} {f g : Addr} {fd gd : FuncData} (D : Dn K mg "_law_equal" s_law_equal ["actual", "due"] f fd) (D2 : Dn K mg "_law_all_equal" s_law_all_equal ["actual", "due"] g gd)
    (b_isinstance : mg "isinstance" = none) (b_list : mg "list" = none) (b_tuple : mg "tuple" = none) (b_bool : mg "bool" = none) (b_int : mg "int" = none) (b_str : mg "str" = none) (b_len : mg "len" = none) (b_range : mg "range" = none) (n : Nat) :
    Cal P w K mg base CX0 (2 * n + 1) "_law_equal" (spEq K n) := by
  induction n with
  | zero => exact ok_law_equal D b_isinstance b_list b_tuple b_bool b_int b_str b_len 0 (D2.cal ⟨fun _ _ _ _ h => h.elim, fun _ _ _ _ _ _ _ _ _ _ _ _ _ h => h.elim⟩)
  | succ n ih => exact ok_law_equal D b_isinstance b_list b_tuple b_bool b_int b_str b_len (n + 1) (ok_law_all_equal D2 b_range b_len n ih)
/-! ### _law_numbers -/
abbrev s_law_numbers : Stmt := top 34
abbrev n_law_numbers : List Str := ["script", "numbers", "cell", "rest", "k"]
theorem sc_law_numbers : FnScope n_law_numbers ["script"] (defScope s_law_numbers) := ⟨rfl, rfl, rfl, by decide +kernel, rfl, by decide +kernel, by decide +kernel⟩
def sp_law_numbers (K : PySem.W.Frag) : Sp := Sg (α := Addr × List Int) (fun a vs M G => vs = [.ref a.1] ∧ SqL K G a.1 (a.2.map V.int) ∧ a.2.length ≤ 63)
  (fun a M _ v M' G' => ∃ (t : Addr) (ns : List Int), v = .ref t ∧ G' t = some (.lst (ns.map V.int)) ∧ (∀ n ∈ ns, 0 ≤ n ∧ n < 1000000) ∧ M' = M)
theorem nums_snoc {ns : List Int} {n : Int} (h : ∀ n ∈ ns, 0 ≤ n ∧ n < 1000000) (hn : 0 ≤ n ∧ n < 1000000) : ∀ m ∈ ns ++ [n], 0 ≤ m ∧ m < 1000000 := by
  intro m hm
  rcases List.mem_append.mp hm with hm | hm
  · exact h m hm
  · rw [List.mem_singleton.mp hm]; exact hn
theorem mod_b (n : Int) : 0 ≤ n % 1000000 ∧ n % 1000000 < 1000000 := ⟨Int.emod_nonneg _ (by decide), Int.emod_lt_of_pos _ (by decide)⟩
/-- between the turns: d holds at most m numbers -/
def NumsI (M G : Hp) (a d : Addr) (m : Nat) (σ : L2.St) (H : Hp) : Prop := ∃ (ns : List Int) (G1 : Hp) (x y z : Option V), J (upd M d (.lst (ns.map V.int))) G1 H ∧ Ex G G1 ∧ (∀ n ∈ ns, 0 ≤ n ∧ n < 1000000) ∧ ns.length ≤ m ∧
  σ = [some (.ref a), some (.ref d), x, y, z]
def NumsJ (M G : Hp) (a d : Addr) (m : Nat) (c : Int) (σ : L2.St) (H : Hp) : Prop := ∃ (ns : List Int) (G1 : Hp) (y z : Option V), J (upd M d (.lst (ns.map V.int))) G1 H ∧ Ex G G1 ∧ (∀ n ∈ ns, 0 ≤ n ∧ n < 1000000) ∧ ns.length ≤ m ∧
  σ = [some (.ref a), some (.ref d), some (.int c), y, z]
def NumsR (M G : Hp) (a d : Addr) (m : Nat) (c : Int) (σ : L2.St) (H : Hp) : Prop := ∃ (ns : List Int) (G1 : Hp) (r : Int) (z : Option V), J (upd M d (.lst (ns.map V.int))) G1 H ∧ Ex G G1 ∧ (∀ n ∈ ns, 0 ≤ n ∧ n < 1000000) ∧ ns.length ≤ m ∧
  σ = [some (.ref a), some (.ref d), some (.int c), some (.int r), z]
theorem ok_law_numbers {P : Program} {w : World} {K : PySem.W.Frag} {mg : Str → Option Value} {base : Heap}
    {f : Addr} {fd : FuncData} (D : Dn K mg "_law_numbers" s_law_numbers ["script"] f fd)
    (b_range : mg "range" = none)
    (c_law_mixed : Cal P w K mg base CX0 1 "_law_mixed" (sp_law_mixed K)) : Cal P w K mg base CX0 2 "_law_numbers" (sp_law_numbers K) := by
  refine D.ok sc_law_numbers (fun vs H Q E h => ?_) fun cdv A outer s H vs Q E hr h => ?_
  · obtain ⟨a, M, G, j, ⟨rfl, _⟩, _⟩ := h; rfl
  obtain ⟨⟨a, cs⟩, M, G, j, ⟨rfl, ha, hl⟩, k⟩ := h
  refine ⟨_, (pss_cons (ps_set (i := 1) sc_law_numbers.nd rfl (Or.inl rfl) (pe_lst pa_nil))
(pss_cons (ps_for PassesOwn.never rfl (pi_list (pv 0)) (pg_name (i := 2) sc_law_numbers.nd rfl (Or.inl rfl))
(pss_one (ps_if (pt_cmpR op_ge (pv 2) (pe_op op_pow pe_int pe_int) (nomark _))
(pss_cons (ps_set (i := 3) sc_law_numbers.nd rfl (Or.inl rfl) (pv 2))
(pss_one (ps_for PassesOwn.never rfl (pi_range1 (by rfl) b_range (pa_cons pe_int pa_nil)) (pg_name (i := 4) sc_law_numbers.nd rfl (Or.inl rfl))
(pss_one (ps_if (pt_cmpR op_gt (pv 3) pe_int (nomark _))
(pss_cons (ps_expr (pe_bm PySem.F.plainAttrs_list PySem.F.slot_list_append PySem.F.type_list_append mt_append (pv 1) (pa_cons (pe_op op_mod (pv 3) pe_int) pa_nil)))
(pss_one (ps_set (i := 3) sc_law_numbers.nd rfl (Or.inl rfl) (pe_op op_fdiv (pv 3) pe_int))))
pss_nil)))))
(pss_cons (ps_expr (pe_bm PySem.F.plainAttrs_list PySem.F.slot_list_append PySem.F.type_list_append mt_append (pv 1) (pa_cons (pe_op op_mod (pv 2) pe_int) pa_nil)))
(pss_one (ps_for PassesOwn.never rfl (pi_range1 (by rfl) b_range (pa_cons pe_int pa_nil)) (pg_name (i := 4) sc_law_numbers.nd rfl (Or.inl rfl))
(pss_one (ps_expr (pe_bm PySem.F.plainAttrs_list PySem.F.slot_list_append PySem.F.type_list_append mt_append (pv 1) (pa_cons (pe_op op_mod (pe_cal c_law_mixed hr (by first | decide | omega) (by rfl) (pa_cons (pe_cal c_law_mixed hr (by first | decide | omega) (by rfl) (pa_cons (pe_op op_mod (pv 2) pe_int) (pa_cons (pv 4) pa_nil))) (pa_cons (pe_op (op_uAddK (K := K) rfl) (pv 4) pe_int) pa_nil))) pe_int) pa_nil))))))))))
(pss_one (ps_ret (pv 1))))), ?_⟩
  walk_at "start"
  refine w_newM j (by decide) fun d H1 j1 nM nG => ?_
  walk_at "go"
  refine w_forLV rfl (NumsI M G a d ∘ (60 * ·)) (xs := cs.map V.int) (sl_mono j1.g ha) ⟨[], G, _, _, _, j1, Same.refl G, by simp, Nat.le_refl _, rfl⟩ (fun i σ H _ ⟨ns, G1, _, _, _, j, e, _⟩ => sl_mono (e.trans j.g) ha) ?_ ?_
  · rintro i x σ H hi ⟨ns, G1, x0, y0, z0, j, e, hn, hz, rfl⟩
    dsimp only at ha hl
    obtain ⟨c, rfl⟩ : ∃ c, x = V.int c := by
      rw [List.getElem?_map] at hi
      cases h : cs[i]? with
      | none => rw [h] at hi; cases hi
      | some c => rw [h] at hi; exact ⟨c, (Option.some.inj hi).symm⟩
    have hi' : i < 63 := by
      have := (List.getElem?_eq_some_iff.mp hi).1
      rw [List.length_map] at this; omega
    dsimp only at hz
    walk_at "go"
    refine w_dec (fun h1 => ?_) (fun h1 => ?_)
    · walk_at "go"
      refine w_rng (fun t => NumsR M G a d (60 * i + t) c) ⟨ns, G1, c, _, j, e, hn, hz, rfl⟩ ?_ ?_
      · rintro t σ H ht ⟨ns, G1, r, z, j, e, hn, hz, rfl⟩
        have ht : t < 60 := ht
        walk_at "go"
        refine w_dec (fun h2 => ?_) (fun h2 => ?_)
        · walk_at "go"
          refine ⟨ty_listU j, ?_⟩
          walk_at "go"
          refine w_appendU j (by rw [List.length_map]; omega) fun H' j' => ?_
          walk_at "go"
          exact ⟨ns ++ [r % 1000000], G1, r / 1000000, _, by rw [← map_snoc]; exact j', e, nums_snoc hn (mod_b r), by rw [List.length_append, List.length_singleton]; omega, rfl⟩
        · walk_at "go"
          exact ⟨ns, G1, r, _, j, e, hn, by omega, rfl⟩
      · rintro σ H ⟨ns, G1, r, z, j, e, hn, hz, rfl⟩
        exact ⟨ns, G1, _, _, _, j, e, hn, hz, rfl⟩
    · walk_at "go"
      refine ⟨ty_listU j, ?_⟩
      walk_at "go"
      refine w_appendU j (by rw [List.length_map]; omega) fun H' j' => ?_
      rw [map_snoc] at j'
      walk_at "go"
      refine w_rng (fun t => NumsJ M G a d (60 * i + 1 + t) c) ⟨ns ++ [c % 1000000], G1, _, _, j', e, nums_snoc hn (mod_b c), by rw [List.length_append, List.length_singleton]; omega, rfl⟩ ?_ ?_
      · rintro t σ H ht ⟨ns, G1, y, z, j, e, hn, hz, rfl⟩
        have ht : t < 5 := ht
        walk_at "go"
        refine ⟨ty_listU j, ?_⟩
        walk_at "go"
        refine w_sg (_, _) j rfl fun v M' G' H' j2 e2 ⟨ev, em⟩ => ?_
        subst ev em
        walk_at "go"
        refine w_sg (_, _) j2 rfl fun v M' G' H' j3 e3 ⟨ev, em⟩ => ?_
        subst ev em
        walk_at "go"
        refine w_appendU j3 (by rw [List.length_map]; omega) fun H' j' => ?_
        rw [map_snoc] at j'
        exact ⟨_, _, _, _, j', (e.trans e2).trans e3, nums_snoc hn (mod_b _), by rw [List.length_append, List.length_singleton]; omega, rfl⟩
      · rintro σ H ⟨ns, G1, y, z, j, e, hn, hz, rfl⟩
        exact ⟨ns, G1, _, _, _, j, e, hn, by show ns.length ≤ 60 * (i + 1); have : ns.length ≤ 60 * i + 1 + 5 := hz; omega, rfl⟩
  · rintro σ H ⟨ns, G1, x, y, z, j, e, hn, hz, rfl⟩
    walk_at "go"
    exact k _ _ _ _ (j.freeze nM) (e.trans (Ex.new j.freezeG)) ⟨d, ns, rfl, upd_same, hn, rfl⟩
/-! ### Disk.crash -/
abbrev s_Disk_crash : Stmt := inClass (top 31) 4
abbrev n_Disk_crash : List Str := ["self", "fates", "position", "block", "fate"]
theorem sc_Disk_crash : FnScope n_Disk_crash ["self", "fates"] (defScope s_Disk_crash) := ⟨rfl, rfl, rfl, by decide +kernel, rfl, by decide +kernel, by decide +kernel⟩
def sp_Disk_crash (K : PySem.W.Frag) (C : Addr) : Sp := Sg (α := DA × DS × Addr × List Int) (fun x vs M G => vs = [.ref x.1.p, .ref x.2.2.1] ∧ DkAt C M G x.1 x.2.1 ∧ SqL K G x.2.2.1 (x.2.2.2.map V.int) ∧ x.2.1.kb.length + x.2.1.ca.length < 1000000)
  (fun x M _ v M' G' => DkEnd C x.1 ⟨(x.2.1.ca.zip x.2.2.2).foldl fateC x.2.1.kb, [], [], x.2.1.r⟩ M v M' G')
theorem ok_Disk_crash {P : Program} {w : World} {K : PySem.W.Frag} {mg : Str → Option Value} {base : Heap}
    {C_Disk : Addr} (T_Disk : Tx_Disk K mg C_Disk)
    {f : Addr} {fd : FuncData} (D : Dm K C_Disk "crash" "Disk.crash" s_Disk_crash ["self", "fates"] f fd)
    (b_zip : mg "zip" = none)
    (g_PERFORMED : ∃ u, mg "PERFORMED" = some u ∧ RelV (.int 1) u)
    (g_TORN : ∃ u, mg "TORN" = some u ∧ RelV (.int 2) u)
    (c_Disk_empty_cache : CalM P w K mg base CX0 1 C_Disk "empty_cache" (sp_Disk_empty_cache K C_Disk)) : CalM P w K mg base CX0 2 C_Disk "crash" (sp_Disk_crash K C_Disk) := by
  refine D.ok sc_Disk_crash (fun vs H Q E h => ?_) fun cdv A outer s H vs Q E hr h => ?_
  · obtain ⟨x, M, G, j, ⟨rfl, _⟩, _⟩ := h; rfl
  obtain ⟨⟨d, s, a, fs⟩, M, G, j, ⟨rfl, hd, ha, z⟩, k⟩ := h
  dsimp only at hd ha z k
  refine ⟨_, (pss_cons (ps_for PassesOwn.never rfl (pi_zip (by rfl) b_zip (pa_cons (pe_fld (pv 0) rfl) (pa_cons (pv 1) pa_nil))) (pg_tup rfl (pgs_cons (pg_tup rfl (pgs_cons (pg_name (i := 2) sc_Disk_crash.nd rfl (Or.inl rfl)) (pgs_cons (pg_name (i := 3) sc_Disk_crash.nd rfl (Or.inl rfl)) pgs_nil))) (pgs_cons (pg_name (i := 4) sc_Disk_crash.nd rfl (Or.inl rfl)) pgs_nil)))
(pss_one (ps_if (pt_cmpR (op_uEqK (K := K) rfl hr) (pv 4) (pe_gk (by rfl) g_PERFORMED) (nomark _))
(pss_one (ps_dput (hu_of hr) (pe_fld (pv 0) rfl) (pv 2) (pv 3) rfl))
(pss_one (ps_if (pt_cmpR (op_uEqK (K := K) rfl hr) (pv 4) (pe_gk (by rfl) g_TORN) (nomark _))
(pss_one (ps_dput (hu_of hr) (pe_fld (pv 0) rfl) (pv 2) pe_non rfl))
pss_nil)))))
(pss_one (ps_expr (pe_calM0 c_Disk_empty_cache T_Disk.cl hr (by first | decide | omega) (pv 0))))), ?_⟩
  obtain ⟨xs, hc, hx⟩ := hd.oc
  have pb : d.p ≠ d.b := ne_k hd.op hd.ob (fun z => nomatch z)
  have bc : d.b ≠ d.c := ne_k hd.ob hc (fun z => nomatch z)
  have bf := hd.bf
  walk_at "start"
  refine w_fldM j hd.op T_Disk.cl T_Disk.n_cache fl_Disk_cache ?_
  walk_at "go"
  refine w_zip (xs := xs) (ys := fs.map V.int) (fun i σ H => ∃ G1 x1 x2 x3, J (upd M d.b (.dK (((s.ca.zip fs).take i).foldl fateC s.kb))) G1 H ∧ Ex G G1 ∧ σ = [some (.ref d.p), some (.ref a), x1, x2, x3]) ⟨G, _, _, _, by rw [List.take_zero, List.foldl_nil, upd_self hd.ob]; exact j, Same.refl G, rfl⟩ ?_ ?_ ?_
  · rintro i σ H ⟨G1, x1, x2, x3, j, e, rfl⟩
    exact ⟨.inl (.inl (j.m _ _ (upd_ne' hc bc.symm))), sl_mono (e.trans j.g) ha⟩
  · rintro i x y T σ H hi hy ⟨G1, x1, x2, x3, j, e, rfl⟩ hT
    obtain ⟨t, n, v, rfl, ht, hq⟩ := hx.get hi
    obtain ⟨f, hf, rfl⟩ : ∃ f, fs[i]? = some f ∧ y = V.int f := by
      rw [List.getElem?_map] at hy
      cases q : fs[i]? with
      | none => rw [q] at hy; cases hy
      | some f => rw [q] at hy; exact ⟨f, rfl, (Option.some.inj hy).symm⟩
    have j2 := j.newG hT (o := .tup [.ref t, .int f])
    have e2 : Ex G1 (upd G1 T (.tup [.ref t, .int f])) := Ex.new (j.freeG hT)
    refine w_gTup j2 (st_of upd_same) rfl ?_
    refine w_gCons (w_gTup j2 (st_of ((e.trans e2) _ _ ht)) rfl (w_gCons (w_gName (w_gCons (w_gName (w_gNil (w_gCons (w_gName (w_gNil ?_)))))))))
    have l1 := fates_len ((s.ca.zip fs).take i) s.kb
    have l2 : ((s.ca.zip fs).take i).length ≤ s.ca.length := by rw [List.length_take, List.length_zip]; omega
    have hz : (s.ca.zip fs)[i]? = some ((n, v), f) := by
      rw [List.getElem?_zip_eq_some]; exact ⟨hq, hf⟩
    have fin : ∀ kb H3, kb = fateC (((s.ca.zip fs).take i).foldl fateC s.kb) ((n, v), f) → J (upd M d.b (.dK kb)) (upd G1 T (.tup [.ref t, .int f])) H3 →
      ∃ G1 x1 x2 x3, J (upd M d.b (.dK (((s.ca.zip fs).take (i + 1)).foldl fateC s.kb))) G1 H3 ∧ Ex G G1 ∧ ([some (.ref d.p), some (.ref a), some (.int n), some v, some (.int f)] : L2.St) = [some (.ref d.p), some (.ref a), x1, x2, x3] := fun kb H3 ek j3 =>
        ⟨_, _, _, _, by rw [take_one' hz, List.foldl_append]; subst ek; exact j3, e.trans e2, rfl⟩
    walk_at "go"
    refine w_dec (fun h => ?_) (fun h => ?_)
    · walk_at "go"
      refine w_fldM j2 (upd_ne' hd.op pb) T_Disk.cl T_Disk.n_blocks fl_Disk_blocks ?_
      walk_at "go"
      refine w_putX j2 upd_same (by omega) fun H3 j3 => ?_
      rw [upd_upd] at j3
      exact fin _ _ (by unfold fateC; rw [if_pos h]; rfl) j3
    · walk_at "go"
      refine w_dec (fun h2 => ?_) (fun h2 => ?_)
      · walk_at "go"
        refine w_fldM j2 (upd_ne' hd.op pb) T_Disk.cl T_Disk.n_blocks fl_Disk_blocks ?_
        walk_at "go"
        refine w_putX j2 upd_same (by omega) fun H3 j3 => ?_
        rw [upd_upd] at j3
        exact fin _ _ (by unfold fateC; rw [if_neg h, if_pos h2]) j3
      · walk_at "go"
        exact fin _ _ (by unfold fateC; rw [if_neg h, if_neg h2]) j2
  · rintro σ H ⟨G1, x1, x2, x3, j, e, rfl⟩
    have hlen : min xs.length (fs.map V.int).length = (s.ca.zip fs).length := by rw [List.length_map, hx.len, List.length_zip]
    rw [hlen, List.take_length] at j
    walk_at "go"
    have hd2 : DkAt C_Disk (upd M d.b (.dK ((s.ca.zip fs).foldl fateC s.kb))) G1 d ⟨(s.ca.zip fs).foldl fateC s.kb, s.ca, s.kf, s.r⟩ := ⟨upd_ne' hd.op pb, upd_same, ⟨xs, upd_ne' hc bc.symm, hx.ex e⟩, upd_ne' hd.of bf.symm, bf⟩
    refine w_methM j hd2.op (no_Disk (by decide +kernel) (by decide +kernel) (by decide +kernel) (by decide +kernel)) ?_
    walk_at "go"
    refine w_sg (d, _) j ⟨rfl, hd2⟩ fun v M1 G1 H1 j1 e1 ⟨_, c, f, h1, h2, h3, h4⟩ => ?_
    walk_at "go"
    refine k _ _ _ _ j1 (e.trans e1) ⟨rfl, c, f, h1, fun a o e n1 n2 n3 n4 => h2 a o (upd_ne' e n2) n1 n2 n3 n4, ?_, ?_⟩
    · by_cases q : c = d.b
      · subst q; rw [upd_same] at h3; cases h3
      · rwa [upd_ne q] at h3
    · by_cases q : f = d.b
      · subst q; rw [upd_same] at h4; cases h4
      · rwa [upd_ne q] at h4
/-! ### Disk.waiting -/
abbrev s_Disk_waiting : Stmt := inClass (top 31) 9
abbrev n_Disk_waiting : List Str := ["self"]
theorem sc_Disk_waiting : FnScope n_Disk_waiting ["self"] (defScope s_Disk_waiting) := ⟨rfl, rfl, rfl, by decide +kernel, rfl, by decide +kernel, by decide +kernel⟩
def sp_Disk_waiting (K : PySem.W.Frag) (C : Addr) : Sp := Sg (α := Hp × DA × DS) (fun x vs M G => vs = [.ref x.2.1.p] ∧ DkAt C x.1 G x.2.1 x.2.2 ∧ Sub x.1 M G) (fun x M _ v M' _ => v = .int x.2.2.ca.length ∧ M' = M)
theorem ok_Disk_waiting {P : Program} {w : World} {K : PySem.W.Frag} {mg : Str → Option Value} {base : Heap}
    {C_Disk : Addr} (T_Disk : Tx_Disk K mg C_Disk)
    {f pf : Addr} {fd : FuncData} (D : Dpr K C_Disk "waiting" "Disk.waiting" s_Disk_waiting ["self"] pf f fd)
    (b_len : mg "len" = none) : CalP P w K mg base CX0 1 C_Disk "waiting" (sp_Disk_waiting K C_Disk) := by
  refine D.ok sc_Disk_waiting (fun vs H Q E h => ?_) fun cdv A outer s H vs Q E hr h => ?_
  · obtain ⟨x, M, G, j, ⟨rfl, _⟩, _⟩ := h; rfl
  obtain ⟨⟨N, d, s⟩, M, G, j, ⟨rfl, hd, sb⟩, k⟩ := h
  dsimp only at hd sb k
  refine ⟨_, (pss_one (ps_ret (pe_callB (call_uLenK (K := K) rfl) (by rfl) b_len PySem.boot_len (pa_cons (pe_fld (pv 0) rfl) pa_nil)))), ?_⟩
  obtain ⟨xs, hc, hx⟩ := hd.oc
  walk_at "start"
  refine w_fldS j sb hd.op T_Disk.cl T_Disk.n_cache fl_Disk_cache ?_
  walk_at "go"
  refine w_lenS j sb hc ?_
  exact k _ _ _ _ j (Same.refl G) ⟨by rw [hx.len], rfl⟩
def sp_law (K : PySem.W.Frag) : Sp := fun vs H Q _ => ∃ (a : Addr) (ns : List Int), vs = [.ref a] ∧ SqL K H a (ns.map V.int) ∧ ns.length ≤ 63 ∧ ∀ H', Q (.bl true) H'
/-! ### records and cells as data -/
mutual
def dR : Rc → PyData
  | .non => .none
  | .bl b => .bool b
  | .int i => .int i
  | .str s => .str s
  | .tup xs => .tuple (dL xs)
  | .oth => .none
def dL : List Rc → List PyData
  | [] => []
  | x :: r => dR x :: dL r
end
theorem dL_map : ∀ xs : List Rc, dL xs = xs.map dR
  | [] => rfl
  | x :: r => by rw [dL, dL_map r]; rfl
mutual
theorem RcAt.dp {K : PySem.W.Frag} {G : Hp} : ∀ {v : V} {r : Rc}, RcAt K G v r → pureM r = true → Dp K G v (dR r)
  | _, _, .non, _ => .non
  | _, _, .bl b, _ => .bl b
  | _, _, .int i, _ => .int i
  | _, _, .str x, _ => .str x
  | _, _, .tup h t, p => .tup h (RcsAt.dp t (by rw [pureM] at p; exact p))
  | _, _, .lst h, p => by cases p
  | _, _, .dic h, p => by cases p
theorem RcsAt.dp {K : PySem.W.Frag} {G : Hp} : ∀ {vs : List V} {rs : List Rc}, RcsAt K G vs rs → pureL rs = true → DpAll K G vs (dL rs)
  | _, _, .nil, _ => .nil
  | _, _, .cons h t, p => by
    rw [pureL, Bool.and_eq_true] at p
    exact .cons (RcAt.dp h p.1) (RcsAt.dp t p.2)
end
/-! ### cells lent to what stands for good -/
def delAll (M : Hp) (cs : List (Addr × HO)) : Hp := fun b => if b ∈ cs.map (·.1) then none else M b
theorem delAll_in {M : Hp} {cs : List (Addr × HO)} {b : Addr} (h : b ∈ cs.map (·.1)) : delAll M cs b = none := by unfold delAll; rw [if_pos h]
theorem delAll_out {M : Hp} {cs : List (Addr × HO)} {b : Addr} (h : b ∉ cs.map (·.1)) : delAll M cs b = M b := by unfold delAll; rw [if_neg h]
theorem J.lend {M G H : Hp} (j : J M G H) (cs : List (Addr × HO)) (hc : ∀ c ∈ cs, M c.1 = some c.2) : ∃ G', J (delAll M cs) G' H ∧ Ex G G' ∧ (∀ c ∈ cs, G' c.1 = some c.2) ∧ ∀ G4 H4, J (delAll M cs) G4 H4 → Ex G' G4 → J M G H4 := by
  refine ⟨fun b => if b ∈ cs.map (·.1) then M b else G b, ⟨fun a o e => ?_, fun a o e => ?_, fun a o e => ?_⟩, fun a o e => ?_, fun c h => ?_, fun G4 H4 j4 e4 => ⟨fun a o e => ?_, fun a o e => ?_, j.d⟩⟩
  · by_cases q : a ∈ cs.map (·.1)
    · rw [delAll_in q] at e; cases e
    · rw [delAll_out q] at e; exact j.m a o e
  · by_cases q : a ∈ cs.map (·.1)
    · rw [if_pos q] at e; exact j.m a o e
    · rw [if_neg q] at e; exact j.g a o e
  · by_cases q : a ∈ cs.map (·.1)
    · rw [delAll_in q] at e; cases e
    · rw [delAll_out q] at e; rw [if_neg q]; exact j.d a o e
  · have q : a ∉ cs.map (·.1) := fun h => by
      obtain ⟨c, hc1, hc2⟩ := List.mem_map.mp h
      have := j.d a c.2 (by rw [← hc2]; exact hc c hc1)
      rw [e] at this; cases this
    show (if a ∈ cs.map (·.1) then M a else G a) = some o
    rw [if_neg q]; exact e
  · show (if c.1 ∈ cs.map (·.1) then M c.1 else G c.1) = some c.2
    rw [if_pos (List.mem_map_of_mem h)]; exact hc c h
  · by_cases q : a ∈ cs.map (·.1)
    · refine j4.g a o (e4 a o ?_)
      show (if a ∈ cs.map (·.1) then M a else G a) = some o
      rw [if_pos q]; exact e
    · exact j4.m a o (by rw [delAll_out q]; exact e)
  · refine j4.g a o (e4 a o ?_)
    have q : a ∉ cs.map (·.1) := fun h => by
      obtain ⟨c, hc1, hc2⟩ := List.mem_map.mp h
      have := j.d a c.2 (by rw [← hc2]; exact hc c hc1)
      rw [e] at this; cases this
    show (if a ∈ cs.map (·.1) then M a else G a) = some o
    rw [if_neg q]; exact e
theorem w_slM {K : PySem.W.Frag} {M G H : Hp} {a : Addr} {xs : List V} {lo hi : Option Int} {Q : VK} (j : J M G H) (h : M a = some (.lst xs)) (k : NewO (.lst (cutV xs lo hi)) 0 H Q) : uSl K (.ref a) lo hi H Q := .inl ⟨a, xs, rfl, .inl (.inl (j.m _ _ h)), k.2⟩
/-! ### journals: the law's view -/
theorem good_self {r : Rc} (h : pureM r = true) : goodM (depthM r) r = true := by rw [good_iff, h, decide_eq_true (Nat.le_refl _)]; rfl
theorem goodL_self {rs : List Rc} (h : pureL rs = true) : goodL (depthL rs) rs = true := by rw [goods_iff, h, decide_eq_true (Nat.le_refl _)]; rfl
mutual
theorem okD_rc : ∀ (r : Rc) (n : Nat), pureM r = true → depthM r ≤ n → (cellsM r).length ≤ 100000 → okD n (dR r)
  | .non, n, _, _, _ => by rw [dR]; cases n <;> trivial
  | .bl _, n, _, _, _ => by rw [dR]; cases n <;> trivial
  | .int _, n, _, _, _ => by rw [dR]; cases n <;> trivial
  | .str _, n, _, _, _ => by rw [dR]; cases n <;> trivial
  | .oth, n, h, _, _ => by simp [pureM] at h
  | .tup xs, 0, h, hd, _ => by rw [depthM] at hd; omega
  | .tup xs, n + 1, h, hd, hz => by
    rw [pureM] at h
    rw [depthM] at hd
    rw [cellsM, List.length_cons, List.length_cons] at hz
    have hl := cellsL_pos (goodL_self h)
    rw [dR]
    exact ⟨by rw [dL_map, List.length_map]; omega, okD_rcs xs n h (by omega) (by omega)⟩
theorem okD_rcs : ∀ (rs : List Rc) (n : Nat), pureL rs = true → depthL rs ≤ n → (cellsL rs).length ≤ 100000 → ∀ x ∈ dL rs, okD n x
  | [], n, _, _, _ => by intro x hx; cases hx
  | r :: rs, n, h, hd, hz => by
    rw [pureL, Bool.and_eq_true] at h
    rw [depthL] at hd
    rw [cellsL, List.length_append] at hz
    intro x hx
    rw [dL] at hx
    rcases List.mem_cons.mp hx with e | e
    · rw [e]; exact okD_rc r n h.1 (by omega) (by omega)
    · exact okD_rcs rs n h.2 (by omega) (by omega) x e
end
def dBk (b : Bk) : PyData := .tuple [.int b.g, .int b.n, .int b.p, .int b.q, .tuple (b.cs.map PyData.int)]
theorem BkAt.dp {K : PySem.W.Frag} {G : Hp} {v : V} {b : Bk} (h : BkAt K G v b) : Dp K G v (dBk b) := by
  obtain ⟨t, u, rfl, h1, h2⟩ := h
  exact .tup (st_of h1) (.cons (.int _) (.cons (.int _) (.cons (.int _) (.cons (.int _) (.cons (.tup h2 (dp_ints _)) .nil)))))
/-! the disk's view behind writes -/
theorem look_wrS (s : DS) (n m : Int) (v : V) : lookM (wrS s n v) m = if m = n then v else lookM s m := by
  unfold lookM wrS
  show ((valV (putK s.kf (.inl n) v) (.inl m)).getD _) = _
  rw [valV_put]
  by_cases e : m = n
  · rw [if_pos e, if_pos (by rw [e])]; rfl
  · rw [if_neg e, if_neg (fun z => e (Sum.inl.inj z))]
theorem look_wrAll : ∀ (ws : List V) (s : DS) (pl : Nat) (m : Int), lookM (wrAll s pl ws) m = if (pl : Int) ≤ m ∧ m < (pl : Int) + ws.length then (ws[(m - pl).toNat]?).getD .non else lookM s m
  | [], s, pl, m => by
    rw [if_neg (by simp only [List.length_nil]; omega)]; rfl
  | w :: ws, s, pl, m => by
    show lookM (wrAll (wrS s pl w) (pl + 1) ws) m = _
    rw [look_wrAll ws, look_wrS, List.length_cons]
    by_cases e : m = (pl : Int)
    · subst e
      rw [if_neg (by omega), if_pos rfl, if_pos ⟨Int.le_refl _, by omega⟩, Int.sub_self]; rfl
    · rw [if_neg e]
      by_cases q : ((pl + 1 : Nat) : Int) ≤ m ∧ m < ((pl + 1 : Nat) : Int) + ws.length
      · rw [if_pos q, if_pos (by omega)]
        obtain ⟨i, hi⟩ : ∃ i : Nat, m = (pl : Int) + 1 + i := ⟨(m - pl - 1).toNat, by omega⟩
        rw [hi, show ((pl : Int) + 1 + i - ((pl + 1 : Nat) : Int)).toNat = i by omega, show ((pl : Int) + 1 + i - (pl : Int)).toNat = i + 1 by omega]; rfl
      · rw [if_neg q, if_neg (by omega)]
theorem look_sync {s : DS} (h : s.kf = s.ca.foldl putC []) (m : Int) : lookM (syncS s) m = lookM s m := by
  unfold lookM syncS
  show (none : Option V).getD _ = _
  rw [h]
  show (valV (s.ca.foldl putC s.kb) (.inl m)).getD .non = _
  have e := sel_put m V.non s.ca s.kb
  rw [← e, ← sel_put m _ s.ca []]; rfl
theorem kf_wrS {s : DS} (h : s.kf = s.ca.foldl putC []) (n : Int) (v : V) : (wrS s n v).kf = (wrS s n v).ca.foldl putC [] := by
  show putK s.kf _ _ = (s.ca ++ [(n, v)]).foldl putC []
  rw [List.foldl_append, h]; rfl
theorem kf_wrAll : ∀ (ws : List V) (s : DS) (pl : Nat), s.kf = s.ca.foldl putC [] → (wrAll s pl ws).kf = (wrAll s pl ws).ca.foldl putC []
  | [], s, pl, h => h
  | w :: ws, s, pl, h => kf_wrAll ws (wrS s pl w) (pl + 1) (kf_wrS h _ _)
theorem ik_wrAll : ∀ (ws : List V) (s : DS) (pl : Nat), IntKs s.kf → IntKs (wrAll s pl ws).kf
  | [], s, pl, h => h
  | w :: ws, s, pl, h => ik_wrAll ws (wrS s pl w) (pl + 1) (h.put _ _)
theorem r_wrAll : ∀ (ws : List V) (s : DS) (pl : Nat), s.r = pl → (wrAll s pl ws).r = ((pl + ws.length : Nat) : Int)
  | [], s, pl, h => h
  | w :: ws, s, pl, h => by
    show (wrAll (wrS s pl w) (pl + 1) ws).r = _
    rw [r_wrAll ws (wrS s pl w) (pl + 1) (by show (if (pl : Int) + 1 > s.r then (pl : Int) + 1 else s.r) = _; rw [if_pos (by omega)]; omega), List.length_cons]
    congr 1; omega
/-- the blocks on the disk, with more written behind them -/
theorem view_more {K : PySem.W.Frag} {G : Hp} {s : DS} {bs cs : List Bk} {ws : List V} (h : ∀ n, BvAt K G (lookM s n) (fB bs n)) (hw : BksAt K G ws cs) (n : Int) : BvAt K G (lookM (wrAll s bs.length ws) n) (fB (bs ++ cs) n) := by
  have lw := hw.len
  rw [look_wrAll]
  by_cases q : (bs.length : Int) ≤ n ∧ n < (bs.length : Int) + ws.length
  · rw [if_pos q]
    obtain ⟨i, hi⟩ : ∃ i : Nat, n = (bs.length : Int) + i := ⟨(n - bs.length).toNat, by omega⟩
    have hi2 : i < ws.length := by omega
    subst hi
    rw [show ((bs.length : Int) + i - (bs.length : Int)).toNat = i by omega, ← Int.natCast_add, fB_nat, List.getElem?_append_right (by omega), Nat.add_sub_cancel_left, List.getElem?_eq_getElem hi2]
    obtain ⟨b, h1, h2⟩ := hw.get (List.getElem?_eq_getElem hi2)
    rw [h1]; exact h2
  · rw [if_neg q]
    have e : fB (bs ++ cs) n = fB bs n := by
      unfold fB
      by_cases z : 0 ≤ n
      · rw [if_pos z, if_pos z]
        by_cases z2 : n < (bs.length : Int)
        · rw [List.getElem?_append_left (by omega)]
        · rw [List.getElem?_append_right (by omega), List.getElem?_eq_none (by omega), List.getElem?_eq_none (by omega)]
      · rw [if_neg z, if_neg z]
    rw [e]; exact h n
/-! ### crashes: values on the disk -/
def mixF (f0 : Int → Option Bk) (P0 : Nat) (cs : List Bk) (k : Nat) (n : Int) : Option Bk := if (P0 : Int) ≤ n ∧ n < (P0 : Int) + k then cs[(n - P0).toNat]? else f0 n
def caF : Nat → List V → List (Int × V)
  | _, [] => []
  | p, w :: ws => ((p : Int), w) :: caF (p + 1) ws
theorem caF_len : ∀ (ws : List V) (p : Nat), (caF p ws).length = ws.length
  | [], _ => rfl
  | w :: ws, p => by show (caF (p + 1) ws).length + 1 = _; rw [caF_len ws, List.length_cons]
theorem caF_append : ∀ (ws vs : List V) (p : Nat), caF p (ws ++ vs) = caF p ws ++ caF (p + ws.length) vs
  | [], vs, p => rfl
  | w :: ws, vs, p => by
    show ((p : Int), w) :: caF (p + 1) (ws ++ vs) = ((p : Int), w) :: (caF (p + 1) ws ++ _)
    rw [caF_append ws vs (p + 1), List.length_cons, show p + 1 + ws.length = p + (ws.length + 1) by omega]
theorem wrAll_caF : ∀ (ws : List V) (s : DS) (pl : Nat), (wrAll s pl ws).ca = s.ca ++ caF pl ws
  | [], s, pl => by show s.ca = s.ca ++ []; rw [List.append_nil]
  | w :: ws, s, pl => by
    show (wrAll (wrS s pl w) (pl + 1) ws).ca = _
    rw [wrAll_caF ws]
    show (s.ca ++ [((pl : Int), w)]) ++ caF (pl + 1) ws = s.ca ++ (((pl : Int), w) :: caF (pl + 1) ws)
    rw [List.append_assoc]; rfl
theorem ik_fates : ∀ {zs : List ((Int × V) × Int)} {kv : List (Key × V)}, IntKs kv → IntKs (zs.foldl fateC kv)
  | [], _, h => h
  | z :: zs, kv, h => by
    refine ik_fates (zs := zs) (kv := fateC kv z) ?_
    unfold fateC
    split
    · exact h.put _ _
    · split
      · exact h.put _ _
      · exact h
def gv (kb : List (Key × V)) (n : Int) : V := (valV kb (.inl n)).getD .non
theorem gv_put (kb : List (Key × V)) (m n : Int) (v : V) : gv (putK kb (.inl m) v) n = if n = m then v else gv kb n := by
  unfold gv
  rw [valV_put]
  by_cases e : n = m
  · rw [if_pos e, if_pos (by rw [e])]; rfl
  · rw [if_neg e, if_neg (fun z => e (Sum.inl.inj z))]
/-- the disk behind a crash: each block written, torn, or as it was -/
theorem crash_view {K : PySem.W.Frag} {G : Hp} : ∀ (ws : List V) (bs : List Bk) (fs : List Int) (kb : List (Key × V)) (fk : Int → Option Bk) (p : Nat), BksAt K G ws bs → (∀ n, BvAt K G (gv kb n) (fk n)) →
    ∃ f1 : Int → Option Bk, (∀ n, BvAt K G (gv (((caF p ws).zip fs).foldl fateC kb) n) (f1 n)) ∧ (∀ n : Int, f1 n = fk n ∨ f1 n = none ∨ ∃ (i : Nat) (b : Bk), n = (p : Int) + i ∧ bs[i]? = some b ∧ f1 n = some b) ∧
      (∀ n : Int, n < p ∨ (p : Int) + bs.length ≤ n → f1 n = fk n) ∧ ∀ i : Nat, fs[i]? = some 1 → i < bs.length → f1 ((p : Int) + i) = bs[i]?
  | [], _, fs, kb, fk, p, .nil, hk => ⟨fk, hk, fun n => .inl rfl, fun n _ => rfl, fun i _ h => by simp at h⟩
  | w :: ws, b :: bs, [], kb, fk, p, .cons _ _, hk => ⟨fk, by rw [List.zip_nil_right]; exact hk, fun n => .inl rfl, fun n _ => rfl, fun i h => by simp at h⟩
  | w :: ws, b :: bs, fa :: fs, kb, fk, p, .cons hw ht, hk => by
    obtain ⟨o, ho, hv, h1⟩ : ∃ o : Option Bk, (o = fk p ∨ o = none ∨ o = some b) ∧ (∀ n, BvAt K G (gv (fateC kb (((p : Int), w), fa)) n) (if n = p then o else fk n)) ∧ (fa = 1 → o = some b) := by
      unfold fateC
      by_cases q1 : fa = 1
      · refine ⟨some b, .inr (.inr rfl), fun n => ?_, fun _ => rfl⟩
        rw [if_pos q1]
        show BvAt K G (gv (putK kb (.inl (p : Int)) w) n) _
        rw [gv_put]
        by_cases e : n = p
        · rw [if_pos e, if_pos e]; exact hw
        · rw [if_neg e, if_neg e]; exact hk n
      · by_cases q2 : fa = 2
        · refine ⟨none, .inr (.inl rfl), fun n => ?_, fun z => (q1 z).elim⟩
          rw [if_neg q1, if_pos q2]
          show BvAt K G (gv (putK kb (.inl (p : Int)) .non) n) _
          rw [gv_put]
          by_cases e : n = p
          · rw [if_pos e, if_pos e]; rfl
          · rw [if_neg e, if_neg e]; exact hk n
        · refine ⟨fk p, .inl rfl, fun n => ?_, fun z => (q1 z).elim⟩
          rw [if_neg q1, if_neg q2]
          by_cases e : n = p
          · rw [if_pos e, ← e]; exact hk n
          · rw [if_neg e]; exact hk n
    obtain ⟨f1, g1, g2, g3, g4⟩ := crash_view ws bs fs (fateC kb (((p : Int), w), fa)) (fun n => if n = p then o else fk n) (p + 1) ht hv
    have at_p : f1 (p : Int) = o := by
      have := g3 (p : Int) (.inl (by omega))
      rw [this]; exact if_pos rfl
    refine ⟨f1, g1, fun n => ?_, fun n hn => ?_, fun i hi hl => ?_⟩
    · by_cases e : n = p
      · subst e
        rw [at_p]
        rcases ho with q | q | q
        · exact .inl q
        · exact .inr (.inl q)
        · exact .inr (.inr ⟨0, b, by simp, rfl, q⟩)
      · rcases g2 n with q | q | ⟨i, b', q1, q2, q3⟩
        · exact .inl (q.trans (if_neg e))
        · exact .inr (.inl q)
        · exact .inr (.inr ⟨i + 1, b', by omega, by simpa using q2, q3⟩)
    · have ne : ¬ n = p := by
        rcases hn with q | q
        · omega
        · rw [List.length_cons] at q; omega
      have := g3 n (by simp only [List.length_cons] at hn; omega)
      rw [this]; exact if_neg ne
    · cases i with
      | zero =>
        have hi : fa = 1 := Option.some.inj hi
        rw [Int.natCast_zero, Int.add_zero, at_p, h1 hi]; rfl
      | succ i =>
        have := g4 i (by simpa using hi) (by simpa using hl)
        rw [show (p : Int) + ((i + 1 : Nat) : Int) = ((p + 1 : Nat) : Int) + (i : Int) by omega, this]; rfl
theorem puts_fates : ∀ (ca : List (Int × V)) (kb : List (Key × V)), ca.foldl putC kb = (ca.zip (List.replicate ca.length 1)).foldl fateC kb
  | [], _ => rfl
  | q :: r, kb => by
    rw [List.length_cons, List.replicate_succ, List.zip_cons_cons, List.foldl_cons, List.foldl_cons]
    exact puts_fates r _
/-- the disk and what its journal has read and written -/
structure DJ (K : PySem.W.Frag) (G : Hp) (s : DS) (f0 : Int → Option Bk) (R0 t : List Rc) (P0 k : Nat) (g : Int) : Prop where
  rd : RdJ f0 0 0 none R0 P0
  hg : ∀ n b, f0 n = some b → b.g < g
  h6 : ∀ n b, f0 n = some b → b.cs.length ≤ 6
  gd : ∀ r ∈ R0 ++ t, pureM r = true ∧ depthM r ≤ 3 ∧ (cellsM r).length ≤ 170
  kf : s.kf = s.ca.foldl putC []
  i2 : IntKs s.kb
  kl : k ≤ (hbl R0.length (gts g t)).length
  kb : ∀ n, BvAt K G (gv s.kb n) (mixF f0 P0 (hbl R0.length (gts g t)) k n)
  ca : ∃ ws, s.ca = caF (P0 + k) ws ∧ BksAt K G ws ((hbl R0.length (gts g t)).drop k)
theorem DJ.ex {K : PySem.W.Frag} {G G' : Hp} {s : DS} {f0 : Int → Option Bk} {R0 t : List Rc} {P0 k : Nat} {g : Int} (h : DJ K G s f0 R0 t P0 k g) (e : Ex G G') : DJ K G' s f0 R0 t P0 k g := by
  obtain ⟨ws, h1, h2⟩ := h.ca
  exact ⟨h.rd, h.hg, h.h6, h.gd, h.kf, h.i2, h.kl, fun n => (h.kb n).ex e, ws, h1, h2.ex e⟩
theorem gts_append (g : Int) (a b : List Rc) : gts g (a ++ b) = gts g a ++ gts g b := List.map_append
theorem gts_len (g : Int) (a : List Rc) : (gts g a).length = a.length := List.length_map _
theorem hbl_one (g : Int) (n : Nat) (t : List Rc) (r : Rc) : hbl n (gts g (t ++ [r])) = hbl n (gts g t) ++ bksM g ((n + t.length : Nat) : Int) (cellsM r) := by
  rw [gts_append]
  show hbl n (gts g t ++ [(g, r)]) = _
  rw [hbl_snoc, gts_len]
/-- a record is entered; the writes wait, or are performed -/
theorem DJ.enter {K : PySem.W.Frag} {G G' : Hp} {s : DS} {f0 : Int → Option Bk} {R0 t : List Rc} {P0 k pl : Nat} {g : Int} (h : DJ K G s f0 R0 t P0 k g) (e : Ex G G') {r : Rc} {ws : List V} (epl : pl = P0 + (hbl R0.length (gts g t)).length)
    (hr : pureM r = true ∧ depthM r ≤ 3 ∧ (cellsM r).length ≤ 170) (hw : BksAt K G' ws (bksM g ((R0 ++ t).length : Int) (cellsM r))) : DJ K G' (wrAll s pl ws) f0 R0 (t ++ [r]) P0 k g := by
  obtain ⟨vs, h1, h2⟩ := h.ca
  have kl := h.kl
  have lv : vs.length = (hbl R0.length (gts g t)).length - k := by rw [h2.len, List.length_drop]
  have eh := hbl_one g R0.length t r
  rw [List.length_append] at hw
  refine ⟨h.rd, h.hg, h.h6, fun x m => ?_, kf_wrAll ws s pl h.kf, by rw [wrAll_kb]; exact h.i2, by rw [eh, List.length_append]; omega, fun n => ?_, vs ++ ws, ?_, ?_⟩
  · rw [← List.append_assoc] at m
    rcases List.mem_append.mp m with m | m
    · exact h.gd x m
    · rw [List.mem_singleton.mp m]; exact hr
  · rw [wrAll_kb]
    have := (h.kb n).ex e
    have em : mixF f0 P0 (hbl R0.length (gts g (t ++ [r]))) k n = mixF f0 P0 (hbl R0.length (gts g t)) k n := by
      unfold mixF
      by_cases q : (P0 : Int) ≤ n ∧ n < (P0 : Int) + k
      · rw [if_pos q, if_pos q, eh, List.getElem?_append_left (by omega)]
      · rw [if_neg q, if_neg q]
    rw [em]; exact this
  · rw [wrAll_caF, h1, caF_append]
    congr 2; omega
  · rw [eh, List.drop_append_of_le_length kl]
    exact (h2.ex e).append hw
theorem DJ.view {K : PySem.W.Frag} {G : Hp} {s : DS} {f0 : Int → Option Bk} {R0 t : List Rc} {P0 k : Nat} {g : Int} (h : DJ K G s f0 R0 t P0 k g) (fs : List Int) : ∃ f1 : Int → Option Bk, (∀ n, BvAt K G (gv ((s.ca.zip fs).foldl fateC s.kb) n) (f1 n)) ∧ (∀ n : Int, n < P0 → f1 n = f0 n) ∧
    (∀ n : Int, f1 n = f0 n ∨ f1 n = none ∨ ∃ (i : Nat) (b : Bk), n = (P0 : Int) + i ∧ (hbl R0.length (gts g t))[i]? = some b ∧ f1 n = some b) ∧ (∀ i : Nat, i < k → f1 ((P0 : Int) + i) = (hbl R0.length (gts g t))[i]?) ∧
    ((∀ i : Nat, i < s.ca.length → fs[i]? = some 1) → ∀ n, f1 n = mixF f0 P0 (hbl R0.length (gts g t)) (hbl R0.length (gts g t)).length n) := by
  obtain ⟨ws, h1, h2⟩ := h.ca
  obtain ⟨f1, g1, g2, g3, g4⟩ := crash_view ws _ fs s.kb _ (P0 + k) h2 h.kb
  have kl := h.kl
  have ld : ((hbl R0.length (gts g t)).drop k).length = (hbl R0.length (gts g t)).length - k := List.length_drop
  refine ⟨f1, by rw [h1]; exact g1, fun n hn => ?_, fun n => ?_, fun i hi => ?_, fun hall n => ?_⟩
  · rw [g3 n (.inl (by omega))]
    exact if_neg (by omega)
  · rcases g2 n with q | q | ⟨i, b, q1, q2, q3⟩
    · unfold mixF at q
      by_cases z : (P0 : Int) ≤ n ∧ n < (P0 : Int) + k
      · rw [if_pos z] at q
        obtain ⟨i, hi⟩ : ∃ i : Nat, n = (P0 : Int) + i := ⟨(n - P0).toNat, by omega⟩
        subst hi
        rw [show ((P0 : Int) + i - P0).toNat = i by omega] at q
        have lt : i < (hbl R0.length (gts g t)).length := by omega
        rw [List.getElem?_eq_getElem lt] at q
        exact .inr (.inr ⟨i, _, rfl, List.getElem?_eq_getElem lt, q⟩)
      · rw [if_neg z] at q; exact .inl q
    · exact .inr (.inl q)
    · rw [List.getElem?_drop] at q2
      exact .inr (.inr ⟨k + i, b, by omega, q2, q3⟩)
  · rw [g3 _ (.inl (by omega))]
    unfold mixF
    rw [if_pos ⟨by omega, by omega⟩]
    congr 1; omega
  · have lws : ws.length = (hbl R0.length (gts g t)).length - k := by rw [h2.len, ld]
    unfold mixF
    by_cases z : (P0 : Int) ≤ n ∧ n < (P0 : Int) + ((hbl R0.length (gts g t)).length : Int)
    · rw [if_pos z]
      obtain ⟨i, hi⟩ : ∃ i : Nat, n = (P0 : Int) + i := ⟨(n - P0).toNat, by omega⟩
      subst hi
      rw [show ((P0 : Int) + i - P0).toNat = i by omega]
      by_cases q : i < k
      · rw [g3 _ (.inl (by omega))]
        unfold mixF
        rw [if_pos ⟨by omega, by omega⟩]
        congr 1; omega
      · have a1 := hall (i - k) (by rw [h1, caF_len]; omega)
        have a2 := g4 (i - k) a1 (by omega)
        rw [List.getElem?_drop, show k + (i - k) = i by omega] at a2
        rw [← a2]; congr 1; omega
    · rw [if_neg z, g3 n (by omega)]
      unfold mixF
      exact if_neg (by omega)
theorem look_nof {s : DS} (h : s.kf = []) (n : Int) : lookM s n = gv s.kb n := by unfold lookM gv; rw [h]; rfl
/-- all is synced -/
theorem DJ.synced {K : PySem.W.Frag} {G : Hp} {s : DS} {f0 : Int → Option Bk} {R0 t : List Rc} {P0 k : Nat} {g : Int} (h : DJ K G s f0 R0 t P0 k g) : DJ K G (syncS s) f0 R0 t P0 (hbl R0.length (gts g t)).length g := by
  obtain ⟨f1, g1, _, _, _, g5⟩ := h.view (List.replicate s.ca.length 1)
  have all := g5 fun i hi => by rw [List.getElem?_replicate, if_pos hi]
  refine ⟨h.rd, h.hg, h.h6, h.gd, rfl, IntKs.puts h.i2, Nat.le_refl _, fun n => ?_, [], rfl, by rw [List.drop_length]; exact .nil⟩
  have := g1 n
  rw [← puts_fates, all n] at this
  exact this
/-- a journal is opened behind a crash (or a sync) -/
theorem DJ.opened {K : PySem.W.Frag} {G : Hp} {s s' : DS} {f0 f1 : Int → Option Bk} {R0 t : List Rc} {P0 k : Nat} {g : Int} (h : DJ K G s f0 R0 t P0 k g) (hs : s'.kf = [] ∧ s'.ca = [] ∧ IntKs s'.kb) (hv : ∀ n, BvAt K G (gv s'.kb n) (f1 n)) (h0 : ∀ n : Int, n < P0 → f1 n = f0 n)
    (h1 : ∀ n : Int, f1 n = f0 n ∨ f1 n = none ∨ ∃ (i : Nat) (b : Bk), n = (P0 : Int) + i ∧ (hbl R0.length (gts g t))[i]? = some b ∧ f1 n = some b) {kk : Nat} (h2 : ∀ i : Nat, i < kk → f1 ((P0 : Int) + i) = (hbl R0.length (gts g t))[i]?)
    {ns : List Int} (hn : ∀ n, n ∈ ns ↔ hasM s' n) {R1 : List Rc} {P1 : Nat} (hr : readF f1 (s'.kb.length + s'.kf.length + 1) 0 0 none = (R1, P1)) :
    DJ K G s' f1 R1 [] P1 0 (1 + topI 0 ((ns.filterMap f1).map (·.g))) ∧ R1 <+: R0 ++ t ∧ (∀ n b, f1 n = some b → b.cs.length ≤ 6) ∧ ∀ u, u <+: t → (hbl R0.length (gts g u)).length ≤ kk → R0.length + u.length ≤ R1.length := by
  have hf : ∀ n, BvAt K G (lookM s' n) (f1 n) := fun n => by rw [look_nof hs.1]; exact hv n
  have rd := (read_rd hf).1
  rw [hr] at rd
  have gd30 : ∀ r ∈ t, goodM 30 r = true := fun r m => by
    obtain ⟨x1, x2, _⟩ := h.gd r (List.mem_append_right _ m)
    rw [good_iff, x1, decide_eq_true (by omega)]; rfl
  obtain ⟨a1, a2⟩ := crash_read h.rd h.hg gd30 h0 h1 h2 rd
  have b6 : ∀ n b, f1 n = some b → b.cs.length ≤ 6 := fun n b e => by
    rcases h1 n with q | q | ⟨i, b', _, q2, q3⟩
    · exact h.h6 n b (by rw [← q]; exact e)
    · rw [q] at e; cases e
    · rw [q3] at e
      cases e
      have m := List.mem_of_getElem? q2
      have all : ∀ (t : List Rc) (n : Nat), ∀ b ∈ hbl n (gts g t), b.cs.length ≤ 6 := fun t => by
        induction t with
        | nil => intro n b hb; cases hb
        | cons r t ih =>
          intro n b hb
          rcases List.mem_append.mp (show b ∈ bksM g n (cellsM r) ++ hbl (n + 1) (gts g t) from hb) with m | m
          · exact (bks6 _ _ _ b m).1
          · exact ih _ b m
      exact all _ _ b m
  refine ⟨⟨rd, fun n b e => ?_, b6, fun r m => ?_, by rw [hs.1, hs.2.1]; rfl, hs.2.2, Nat.zero_le _, fun n => ?_, [], by rw [hs.2.1]; rfl, .nil⟩, a1, b6, a2⟩
  · have ev := hf n
    rw [e] at ev
    obtain ⟨x, u, ex, _⟩ := ev
    have mem := seen_pos (s := s') (n := n) (by rw [ex]; exact fun z => nomatch z)
    rw [List.mem_append, posKs_mem, posKs_mem] at mem
    have m2 : b.g ∈ (ns.filterMap f1).map (·.g) := List.mem_map_of_mem (List.mem_filterMap.mpr ⟨n, (hn n).mpr mem, e⟩)
    rcases topI_spec 0 ((ns.filterMap f1).map (·.g)) with ⟨q, _⟩ | ⟨_, u1⟩
    · rw [q] at m2; cases m2
    · have := u1 _ m2
      omega
  · rw [List.append_nil] at m
    obtain ⟨v, hv⟩ := a1
    exact h.gd r (by rw [← hv]; exact List.mem_append_left _ m)
  · have : mixF f1 P1 (hbl R1.length (gts (1 + topI 0 ((ns.filterMap f1).map (·.g))) [])) 0 n = f1 n := if_neg (by omega)
    rw [this]; exact hv n
theorem DJ.six {K : PySem.W.Frag} {G : Hp} {s : DS} {f0 f1 : Int → Option Bk} {R0 t : List Rc} {P0 k : Nat} {g : Int} (h : DJ K G s f0 R0 t P0 k g)
    (h1 : ∀ n : Int, f1 n = f0 n ∨ f1 n = none ∨ ∃ (i : Nat) (b : Bk), n = (P0 : Int) + i ∧ (hbl R0.length (gts g t))[i]? = some b ∧ f1 n = some b) : ∀ n b, f1 n = some b → b.cs.length ≤ 6 := fun n b e => by
  rcases h1 n with q | q | ⟨i, b', _, q2, q3⟩
  · exact h.h6 n b (by rw [← q]; exact e)
  · rw [q] at e; cases e
  · rw [q3] at e
    cases e
    have m := List.mem_of_getElem? q2
    have all : ∀ (t : List Rc) (n : Nat), ∀ b ∈ hbl n (gts g t), b.cs.length ≤ 6 := fun t => by
      induction t with
      | nil => intro n b hb; cases hb
      | cons r t ih =>
        intro n b hb
        rcases List.mem_append.mp (show b ∈ bksM g n (cellsM r) ++ hbl (n + 1) (gts g t) from hb) with m | m
        · exact (bks6 _ _ _ b m).1
        · exact ih _ b m
    exact all _ _ b m
/-! ### journals that are opened; lists of records -/
theorem JnAt.mv {C D : Addr} {M M' G : Hp} {ja : JA} {d : DA} {s : DS} {g : Int} {rs : List V} {pl : Nat} (h : JnAt C D M G ja d s g rs pl) (h1 : M' ja.p = M ja.p) (h2 : M' ja.r = M ja.r) (h3 : M' d.p = M d.p) (h4 : M' d.b = M d.b) (h5 : M' d.c = M d.c) (h6 : M' d.f = M d.f) :
    JnAt C D M' G ja d s g rs pl := ⟨h1.trans h.op, h2.trans h.or, h.dk.mv h3 h4 h5 h6, h.pd, h.rc⟩
theorem fB_nil (n : Int) : fB [] n = none := by unfold fB; split <;> simp
theorem fB_mem {bs : List Bk} {n : Int} {b : Bk} (h : fB bs n = some b) : b ∈ bs := by
  unfold fB at h
  split at h
  · exact List.mem_of_getElem? h
  · cases h
/-- a journal that is opened on a disk -/
theorem jn_open {C D : Addr} {N G : Hp} {d : DA} {s : DS} {y r dy : Addr} {g : Int} {rs : List V} {pl : Nat} {o : HO} (hd : DkAt D N G d s) (ny : N y = none) (nr : upd N y o r = none) : JnAt C D (MJ C (upd N y o) ⟨y, r, dy⟩ d.p g rs pl) G ⟨y, r, dy⟩ d s g rs pl ∧
    (∀ a u, N a = some u → MJ C (upd N y o) ⟨y, r, dy⟩ d.p g rs pl a = some u) ∧ y ≠ r := by
  have yr : y ≠ r := fun z => by subst z; rw [upd_same] at nr; cases nr
  have k : ∀ a u, N a = some u → MJ C (upd N y o) ⟨y, r, dy⟩ d.p g rs pl a = some u := fun a u e => by
    have e1 : upd N y o a = some u := upd_ne' e (ne_of_none e ny)
    exact mj_o e1 (ne_of_none e ny) (ne_of_none e1 nr)
  obtain ⟨xs, hc, hx⟩ := hd.oc
  have c1 : upd N y o d.c = some (.lst xs) := upd_ne' hc (ne_of_none hc ny)
  exact ⟨⟨mj_p, mj_r yr, ⟨k _ _ hd.op, k _ _ hd.ob, ⟨xs, k _ _ hc, hx⟩, k _ _ hd.of, hd.bf⟩, (ne_of_none hd.op ny).symm, (ne_of_none c1 nr).symm⟩, k, yr⟩
theorem recs_ok : ∀ {t : List (Int × Rc)}, (∀ q ∈ t, pureM q.2 = true ∧ depthM q.2 ≤ 3 ∧ (cellsM q.2).length ≤ 170) → pureL (t.map (·.2)) = true ∧ depthL (t.map (·.2)) ≤ 4 ∧ (cellsL (t.map (·.2))).length ≤ 170 * t.length
  | [], _ => ⟨rfl, Nat.zero_le _, Nat.le_refl _⟩
  | q :: t, h => by
    obtain ⟨h1, h2, h3⟩ := h q List.mem_cons_self
    obtain ⟨i1, i2, i3⟩ := recs_ok (t := t) fun x m => h x (List.mem_cons_of_mem _ m)
    rw [List.map_cons, pureL, depthL, cellsL, h1, i1, List.length_append, List.length_cons]
    exact ⟨rfl, by omega, by omega⟩
theorem nparts_170 {cs : List Int} (h : cs.length ≤ 170) : nparts cs ≤ 29 := by unfold nparts; omega
/-! ### k11: the law's mathematics -/
theorem lw_okD {vs : List V} (hz : vs.length ≤ 100000) : ∀ (n at_ : Nat) (r : Rc) (p : Nat), lwV vs n at_ = some (r, p) → at_ < p ∧ p ≤ vs.length ∧ okD n (dR r)
  | 0, at_, r, p, h => by cases h
  | n + 1, at_, r, p, h => by
    obtain ⟨t, tag, h1, h2, h3⟩ := lw_cases h
    have l1 := (List.getElem?_eq_some_iff.mp h1).1
    rcases h3 with ⟨_, rfl, rfl⟩ | ⟨_, rfl, rfl⟩ | ⟨_, rfl, rfl⟩ | ⟨nv, num, h4, h5, h6⟩
    · exact ⟨by omega, by omega, trivial⟩
    · exact ⟨by omega, by omega, trivial⟩
    · exact ⟨by omega, by omega, trivial⟩
    have l2 := (List.getElem?_eq_some_iff.mp h4).1
    rcases h6 with ⟨_, rfl, rfl⟩ | ⟨_, _, _, s, hs, rfl, rfl⟩ | ⟨_, n0, n1, ps, hp, rfl⟩
    · have : okD (n + 1) (dR (rcOf nv)) := by cases nv <;> exact trivial
      exact ⟨by omega, by omega, this⟩
    · exact ⟨by omega, by omega, trivial⟩
    · obtain ⟨g1, g2, g3, g4⟩ := parts_all (N := vs.length) (P := fun r => okD n (dR r)) (fun a r p e => lw_okD hz n a r p e) _ _ _ _ hp (by omega)
      refine ⟨by omega, g2, ?_⟩
      rw [dR]
      refine ⟨by rw [dL_map, List.length_map]; omega, fun x hx => ?_⟩
      rw [dL_map] at hx
      obtain ⟨r, hr, rfl⟩ := List.mem_map.mp hx
      exact g4 r hr
theorem pureL_of : ∀ {qs : List Rc}, (∀ r ∈ qs, pureM r = true) → pureL qs = true
  | [], _ => rfl
  | x :: r, h => by rw [pureL, h x List.mem_cons_self, pureL_of fun y m => h y (List.mem_cons_of_mem _ m)]; rfl
theorem reb_ok {cs : List Int} {r : Rc} (h : rebM cs = some r) (hz : cs.length ≤ 100000) : pureM r = true ∧ okD 35 (dR r) := by
  obtain ⟨h1, _⟩ := reb_lw.mp h
  obtain ⟨_, _, _, p⟩ := lw_ok _ _ _ _ _ h1
  obtain ⟨_, _, q⟩ := lw_okD (by rw [List.length_map]; exact hz) _ _ _ _ h1
  exact ⟨p, q⟩
theorem read_all {f : Int → Option Bk} (h6 : ∀ n b, f n = some b → okBk b) : ∀ (n pl m : Nat) (l : Option Int), ∀ r ∈ (readF f n pl m l).1, pureM r = true ∧ okD 35 (dR r)
  | 0, _, _, _ => fun r h => nomatch h
  | n + 1, pl, m, l => by
    intro r hr
    cases e : runF f pl m with
    | nil => rw [read_nil e] at hr; cases hr
    | cons b bs =>
      cases e2 : okL l b.g with
      | false => rw [read_stop e e2] at hr; cases hr
      | true =>
        cases e3 : rebM (catM (b :: bs)) with
        | none => rw [read_bad e e3] at hr; cases hr
        | some r1 =>
          rw [read_go e e2 e3] at hr
          rcases List.mem_cons.mp hr with z | z
          · subst z
            obtain ⟨i1, i2, _⟩ := run_inv e
            have := (h6 _ _ i1).2.2.2
            have lc := run_cells (f := f) (place := (pl : Int)) (m := (m : Int)) (fun n b' e => (h6 n b' e).1) (c := 1000) (by rw [e]; omega)
            rw [e] at lc
            exact reb_ok e3 (by omega)
          · exact read_all h6 n _ _ _ r z
theorem rd_det {f : Int → Option Bk} {pl m P : Nat} {l : Option Int} {R : List Rc} (h : RdJ f pl m l R P) : ∀ {R' : List Rc} {P' : Nat}, RdJ f pl m l R' P' → R' = R ∧ P' = P := by
  induction h with
  | stop hs =>
    intro R' P' h'
    cases h' with
    | stop _ => exact ⟨rfl, rfl⟩
    | go hr ok hreb _ => have := hs _ _ hr ok; rw [hreb] at this; cases this
  | go hr ok hreb _ ih =>
    intro R' P' h'
    cases h' with
    | stop hs => have := hs _ _ hr ok; rw [hreb] at this; cases this
    | go hr' ok' hreb' h'' =>
      rw [hr] at hr'
      cases hr'
      rw [hreb] at hreb'
      cases hreb'
      obtain ⟨e1, e2⟩ := ih h''
      exact ⟨by rw [e1], e2⟩
/-- two readings, as far as the disk goes -/
theorem read_49 {f : Int → Option Bk} (h48 : ∀ n b, f n = some b → 0 ≤ n ∧ n < 48) : RdJ f 0 0 none (readF f 49 0 0 none).1 (readF f 49 0 0 none).2 ∧ (readF f 49 0 0 none).1.length ≤ 48 ∧ (readF f 49 0 0 none).2 ≤ 48 := by
  obtain ⟨h1, h2⟩ := read_len (f := f) 49 0 0 none
  have le : (readF f 49 0 0 none).2 ≤ 48 := by
    refine Nat.le_of_not_lt fun z => ?_
    have := h2 48 (by omega)
    cases e : f (((0 : Nat) : Int) + ((48 : Nat) : Int)) with
    | none => rw [e] at this; cases this
    | some b => have := h48 _ _ e; omega
  exact ⟨rd_of _ _ _ _ (by omega), by omega, le⟩
/-- the disk behind a record that is entered and synced -/
theorem view_enter {K : PySem.W.Frag} {G : Hp} {s : DS} {f : Int → Option Bk} {R0 : List Rc} {P0 : Nat} {g : Int} {r : Rc} {ws : List V} (hca : s.ca = []) (hv : ∀ n, BvAt K G (gv s.kb n) (f n)) (h6 : ∀ n b, f n = some b → b.cs.length ≤ 6) (hrd : RdJ f 0 0 none R0 P0)
    (hg : ∀ n b, f n = some b → b.g < g) (hgd : goodM 30 r = true) (hw : BksAt K G ws (bksM g R0.length (cellsM r))) :
    ∃ f1 : Int → Option Bk, (∀ n, BvAt K G (lookM (syncS (wrAll s P0 ws)) n) (f1 n)) ∧ (∀ n b, f1 n = some b → b.cs.length ≤ 6) ∧ ∀ R1 P1, RdJ f1 0 0 none R1 P1 → R1 = R0 ++ [r] := by
  have eh : hbl R0.length (gts g [r]) = bksM g R0.length (cellsM r) := List.append_nil _
  obtain ⟨f1, g1, g2, g3, g4⟩ := crash_view ws _ (List.replicate ws.length 1) s.kb f P0 hw hv
  refine ⟨f1, fun n => ?_, fun n b e => ?_, fun R1 P1 h => ?_⟩
  · have := g1 n
    rw [show ws.length = (caF P0 ws).length from (caF_len ws P0).symm, ← puts_fates] at this
    have e : (syncS (wrAll s P0 ws)).kb = (caF P0 ws).foldl putC s.kb := by
      show (wrAll s P0 ws).ca.foldl putC (wrAll s P0 ws).kb = _
      rw [wrAll_caF, hca, wrAll_kb]; rfl
    rw [look_nof rfl, e]; exact this
  · rcases g2 n with q | q | ⟨i, b', _, q2, q3⟩
    · exact h6 n b (by rw [← q]; exact e)
    · rw [q] at e; cases e
    · rw [q3] at e
      cases e
      exact (bks6 _ _ _ b (List.mem_of_getElem? q2)).1
  · have lw := hw.len
    obtain ⟨a1, a2⟩ := crash_read (t := [r]) (kk := (bksM g R0.length (cellsM r)).length) hrd hg (fun x m => by rw [List.mem_singleton.mp m]; exact hgd) (fun n hn => g3 n (.inl hn)) (fun n => by rw [eh]; exact g2 n) (fun i hi => by
      rw [eh]; exact g4 i (by rw [List.getElem?_replicate, if_pos (by omega)]) hi) h
    have l := a2 [r] (List.prefix_refl _) (by rw [eh]; exact Nat.le_refl _)
    obtain ⟨v, hv⟩ := a1
    have : (R1 ++ v).length = (R0 ++ [r]).length := by rw [hv]
    rw [List.length_append, List.length_append] at this
    have : v = [] := List.length_eq_zero_iff.mp (by omega)
    rw [this, List.append_nil] at hv; exact hv
def dB : Option Bk → PyData
  | none => .none
  | some b => dBk b
theorem BvAt.dp {K : PySem.W.Frag} {G : Hp} {v : V} {o : Option Bk} (h : BvAt K G v o) : Dp K G v (dB o) := by
  cases o with
  | none => cases (show v = .non from h); exact .non
  | some b => exact BkAt.dp h
theorem okD_dB {o : Option Bk} (h : ∀ b, o = some b → b.cs.length ≤ 6) : okD 2 (dB o) := by
  cases o with
  | none => trivial
  | some b => exact okD_blk (h b rfl)
/-- deeper is weaker -/
theorem okD_up : ∀ {n m : Nat} {d : PyData}, okD n d → n ≤ m → okD m d
  | _, m, .none, _, _ => by cases m <;> trivial
  | _, m, .bool _, _, _ => by cases m <;> trivial
  | _, m, .int _, _, _ => by cases m <;> trivial
  | _, m, .str _, _, _ => by cases m <;> trivial
  | n + 1, m + 1, .list xs, h, l => ⟨h.1, fun x hx => okD_up (h.2 x hx) (by omega)⟩
  | n + 1, m + 1, .tuple xs, h, l => ⟨h.1, fun x hx => okD_up (h.2 x hx) (by omega)⟩
  | n, m, .dict _, h, _ => by cases n <;> cases h
  | 0, _, .list _, h, _ => by cases h
  | 0, _, .tuple _, h, _ => by cases h
  | _ + 1, 0, .list _, _, l => by omega
  | _ + 1, 0, .tuple _, _, l => by omega
theorem gen_top {f : Int → Option Bk} {ns : List Int} (h48 : ∀ n b, f n = some b → 0 ≤ n ∧ n < 48) (h1 : ∀ n b, f n = some b → 1 ≤ b.g) (hn : ∀ n b, f n = some b → n ∈ ns) : 1 + topI 0 ((ns.filterMap f).map (·.g)) = genM f 48 + 1 := by
  obtain ⟨g0, g1, g2⟩ := genM_spec f 48
  have mem : ∀ n b, f n = some b → b.g ∈ (ns.filterMap f).map (·.g) := fun n b e => List.mem_map_of_mem (List.mem_filterMap.mpr ⟨n, hn n b e, e⟩)
  rcases topI_spec 0 ((ns.filterMap f).map (·.g)) with ⟨q, e⟩ | ⟨m, u⟩
  · rw [e]
    rcases g2 with z | ⟨i, b, _, e2, _⟩
    · omega
    · have := mem _ _ e2
      rw [q] at this; cases this
  · obtain ⟨b, hb, eb⟩ := List.mem_map.mp m
    obtain ⟨n, _, e⟩ := List.mem_filterMap.mp hb
    obtain ⟨n0, n1⟩ := h48 n b e
    have a1 := g1 n.toNat b (by omega) (by rw [show ((n.toNat : Nat) : Int) = n by omega]; exact e)
    have b1 := h1 n b e
    rcases g2 with z | ⟨i, b2, _, e2, e3⟩
    · omega
    · have := u _ (mem _ _ e2)
      omega
section
variable {K : PySem.W.Frag} {D : Addr} {M M' G G' : Hp} {p : Addr} {d : DA} {s : DS}
theorem Q11.flushed (S : Q11 K D M G p d s) (e : Ex G G') {c f : Addr} {kb : List (Key × V)} {r : Int} (hd : DkAt D M' G' { d with c := c, f := f } ⟨kb, [], [], r⟩) (fr : Fr d M M') (nc : M c = none) (h1 : AllB (OkV K G) kb) (h2 : Ik48 kb) :
    Q11 K D M' G' p { d with c := c, f := f } ⟨kb, [], [], r⟩ := by
  obtain ⟨n1, n2, n3⟩ := S.nes
  obtain ⟨xs, hp⟩ := S.dr.at9
  exact ⟨(S.dr.mv9 ((fr p _ hp n1.symm n2.symm S.pc n3.symm).trans hp.symm)).ex e, hd, ne_of_none hp nc, fun k v h => (h1 k v h).ex e, fun q m => (nomatch m), rfl, h2⟩
theorem OkV.non {K : PySem.W.Frag} {G : Hp} : OkV K G .non := ⟨none, rfl, fun b e => nomatch e⟩
theorem Q11.synced (S : Q11 K D M G p d s) (e : Ex G G') {c f : Addr} {r : Int} (hd : DkAt D M' G' { d with c := c, f := f } ⟨s.ca.foldl putC s.kb, [], [], r⟩) (fr : Fr d M M') (nc : M c = none) : Q11 K D M' G' p { d with c := c, f := f } ⟨s.ca.foldl putC s.kb, [], [], r⟩ :=
  S.flushed e hd fr nc (AllB.puts S.b1 fun q m => (S.b2 q m).1) (Ik48.puts S.kk fun q m => (S.b2 q m).2)
theorem Q11.crashed (S : Q11 K D M G p d s) (e : Ex G G') {c f : Addr} {r : Int} {fs : List Int} (hd : DkAt D M' G' { d with c := c, f := f } ⟨(s.ca.zip fs).foldl fateC s.kb, [], [], r⟩) (fr : Fr d M M') (nc : M c = none) : Q11 K D M' G' p { d with c := c, f := f } ⟨(s.ca.zip fs).foldl fateC s.kb, [], [], r⟩ :=
  S.flushed e hd fr nc (AllB.fates OkV.non S.b1 fun z m => (S.b2 z.1 (List.of_mem_zip m).1).1) (Ik48.fates S.kk fun z m => (S.b2 z.1 (List.of_mem_zip m).1).2)
theorem Q11.view (S : Q11 K D M G p d s) (hca : s.ca = []) : s.kf = [] ∧ ∃ f : Int → Option Bk, (∀ n, BvAt K G (lookM s n) (f n)) ∧ (∀ n b, f n = some b → okBk b) ∧ (∀ n b, f n = some b → 0 ≤ n ∧ n < 48) := by
  have kf : s.kf = [] := by rw [S.kf, hca]; rfl
  have h : ∀ n : Int, ∃ o : Option Bk, BvAt K G (lookM s n) o ∧ ∀ b, o = some b → okBk b := fun n => by
    rw [look_nof kf]
    unfold gv
    cases e : valV s.kb (.inl n : Key) with
    | none => exact OkV.non
    | some v => exact S.b1 _ _ e
  obtain ⟨f, hf⟩ := Classical.axiomOfChoice h
  refine ⟨kf, f, fun n => (hf n).1, fun n b e => (hf n).2 b e, fun n b e => ?_⟩
  have hv := (hf n).1
  rw [e, look_nof kf] at hv
  obtain ⟨t, u, ev, _⟩ := hv
  unfold gv at ev
  cases q : valV s.kb (.inl n : Key) with
  | none => rw [q] at ev; cases ev
  | some v => exact S.kk.at q
end
theorem okD_R0 {f : Int → Option Bk} (h6 : ∀ n b, f n = some b → okBk b) (h48 : ∀ n b, f n = some b → 0 ≤ n ∧ n < 48) : pureL (readF f 49 0 0 none).1 = true ∧ okD 36 (.list (dL (readF f 49 0 0 none).1)) := by
  have all := read_all h6 49 0 0 none
  obtain ⟨_, l, _⟩ := read_49 h48
  refine ⟨pureL_of fun r m => (all r m).1, by rw [dL_map, List.length_map]; omega, fun x hx => ?_⟩
  rw [dL_map] at hx
  obtain ⟨r, hr, rfl⟩ := List.mem_map.mp hx
  exact (all r hr).2
def rc3 : Rc := .tup [.int 1, .int 2, .int 3]
theorem okD_R1 {f : Int → Option Bk} (h6 : ∀ n b, f n = some b → okBk b) (h48 : ∀ n b, f n = some b → 0 ≤ n ∧ n < 48) : pureL ((readF f 49 0 0 none).1 ++ [rc3]) = true ∧ okD 36 (.list (dL ((readF f 49 0 0 none).1 ++ [rc3]))) := by
  have all := read_all h6 49 0 0 none
  obtain ⟨_, l, _⟩ := read_49 h48
  obtain ⟨p, _⟩ := okD_R0 h6 h48
  refine ⟨by rw [pureL_append, p]; rfl, by rw [dL_map, List.length_map, List.length_append]; simp only [List.length_cons, List.length_nil]; omega, fun x hx => ?_⟩
  rw [dL_map] at hx
  obtain ⟨r, hr, rfl⟩ := List.mem_map.mp hx
  rcases List.mem_append.mp hr with m | m
  · exact (all r m).2
  · rw [List.mem_singleton.mp m]
    refine ⟨by show 3 ≤ 100000; decide, fun x hx => ?_⟩
    simp only [dL, dR, List.mem_cons, List.not_mem_nil, or_false] at hx
    rcases hx with rfl | rfl | rfl <;> trivial
/-! ### law -/
abbrev s_law : Stmt := top 52
abbrev n_law : List Str := ["script", "draws", "disk", "due", "generation", "before", "journal", "again", "k"]
theorem sc_law : FnScope n_law ["script"] (defScope s_law) := ⟨rfl, rfl, rfl, by decide +kernel, rfl, by decide +kernel, by decide +kernel⟩
theorem ok_law {P : Program} {w : World} {K : PySem.W.Frag} {mg : Str → Option Value} {base : Heap}
    {C_Journal : Addr} (T_Journal : Tx_Journal K mg C_Journal)
    {C_Disk : Addr} (T_Disk : Tx_Disk K mg C_Disk)
    {f : Addr} {fd : FuncData} (D : Dn K mg "law" s_law ["script"] f fd)
    (b_list : mg "list" = none)
    (b_range : mg "range" = none)
    (c_law_equal : Cal P w K mg base CX0 73 "_law_equal" (spEq K 36))
    (c_Journal___init__ : CalI P w K mg base CX0 67 C_Journal (sp_Journal___init__ K C_Journal C_Disk))
    (c_Journal_enter : CalMK P w K mg base CX0 35 C_Journal "enter" 2 "sync" (V.bl false) (sp_Journal_enter K C_Journal C_Disk))
    (c_Disk_look : CalM P w K mg base CX0 1 C_Disk "look" (sp_Disk_look K C_Disk))
    (c_law_generation : Cal P w K mg base CX0 2 "_law_generation" (sp_law_generation K C_Disk))
    (c_law_read : Cal P w K mg base CX0 44 "_law_read" (sp_law_read K C_Disk))
    (c_law_draw : Cal P w K mg base CX0 2 "_law_draw" (sp_law_draw K))
    (c_Disk_crash : CalM P w K mg base CX0 2 C_Disk "crash" (sp_Disk_crash K C_Disk))
    (c_Disk_waiting : CalP P w K mg base CX0 1 C_Disk "waiting" (sp_Disk_waiting K C_Disk))
    (c_law_lay : Cal P w K mg base CX0 33 "_law_lay" (sp_law_lay K C_Disk))
    (c_Disk_sync : CalM P w K mg base CX0 2 C_Disk "sync" (sp_Disk_sync K C_Disk))
    (c_law_fill : Cal P w K mg base CX0 34 "_law_fill" (sp_law_fill K C_Disk))
    (c_Disk___init__ : CalI P w K mg base CX0 2 C_Disk (sp_Disk___init__ K C_Disk))
    (c_law_numbers : Cal P w K mg base CX0 2 "_law_numbers" (sp_law_numbers K)) : FnOk P w K mg base CX0 74 f fd ["script"] (sp_law K) := by
  refine D.fn.ok sc_law (fun vs H Q E h => ?_) fun cdv A outer s H vs Q E hr h => ?_
  · obtain ⟨a, ns, rfl, _⟩ := h; rfl
  obtain ⟨a, ns, rfl, ha, hl, k⟩ := h
  have j := J.start H
  refine ⟨_, (pss_cons (ps_set (i := 1) sc_law.nd rfl (Or.inr rfl) (pe_lst (pa_cons (pe_cal c_law_numbers hr (by first | decide | omega) (by rfl) (pa_cons (pv 0) pa_nil)) (pa_cons pe_int pa_nil))))
(pss_cons (ps_set (i := 2) sc_law.nd rfl (Or.inr rfl) (pe_calI0 c_Disk___init__ T_Disk.gC hr (by first | decide | omega) (by rfl)))
(pss_cons (ps_expr (pe_cal c_law_fill hr (by first | decide | omega) (by rfl) (pa_cons (pv 1) (pa_cons (pv 2) pa_nil))))
(pss_cons (ps_expr (pe_calM0 c_Disk_sync T_Disk.cl hr (by first | decide | omega) (pv 2)))
(pss_cons (ps_if (pt_cmpR (op_uEqK (K := K) rfl hr) (pe_op op_mod (pe_cal c_law_draw hr (by first | decide | omega) (by rfl) (pa_cons (pv 1) pa_nil)) pe_int) pe_int (nomark _))
(pss_cons (ps_expr (pe_cal c_law_lay hr (by first | decide | omega) (by rfl) (pa_cons (pv 1) (pa_cons (pv 2) (pa_cons (pe_op op_mod (pe_cal c_law_draw hr (by first | decide | omega) (by rfl) (pa_cons (pv 1) pa_nil)) pe_int) (pa_cons (pe_op op_mod (pe_cal c_law_draw hr (by first | decide | omega) (by rfl) (pa_cons (pv 1) pa_nil)) pe_int) (pa_cons (pe_op (op_uAddK (K := K) rfl) pe_int (pe_op op_mod (pe_cal c_law_draw hr (by first | decide | omega) (by rfl) (pa_cons (pv 1) pa_nil)) pe_int)) pa_nil)))))))
(pss_one (ps_expr (pe_calM c_Disk_crash T_Disk.cl hr (by first | decide | omega) (pv 2) (pa_cons (pe_lc (own := [("k", 8)]) (by rfl) sc_law.nd (pi_range1 (by rfl) b_range (pa_cons (pe_calP c_Disk_waiting T_Disk.cl hr (by first | decide | omega) (pv 2) (by rfl)) pa_nil)) (blkOk_by (own := [("k", 8)]) (N := n_law) (sc := defScope s_law) (by decide +kernel)) (fun _ _ _ _ _ => pg_name (i := 8) sc_law.nd rfl (Or.inl rfl)) (fun _ _ _ _ _ => pts_nil) (fun _ _ _ _ _ => (pe_op op_mod (pe_cal c_law_draw hr (by first | decide | omega) (by rfl) (pa_cons (pv 1) pa_nil)) pe_int))) pa_nil)))))
pss_nil)
(pss_cons (ps_set (i := 3) sc_law.nd rfl (Or.inl rfl) (pe_cal c_law_read hr (by first | decide | omega) (by rfl) (pa_cons (pv 2) (pa_cons pe_int pa_nil))))
(pss_cons (ps_set (i := 4) sc_law.nd rfl (Or.inl rfl) (pe_cal c_law_generation hr (by first | decide | omega) (by rfl) (pa_cons (pv 2) (pa_cons pe_int pa_nil))))
(pss_cons (ps_setLc (i := 5) (own := [("k", 8)]) (by rfl) sc_law.nd rfl rfl (sw_true rfl rfl rfl (by decide +kernel)) (pi_range1 (by rfl) b_range (pa_cons pe_int pa_nil)) (blkOk_by (own := [("k", 8)]) (N := n_law) (sc := defScope s_law) (by decide +kernel)) (fun _ _ _ _ _ => pg_name (i := 8) sc_law.nd rfl (Or.inl rfl)) (fun _ _ _ _ _ => pts_nil) (fun _ _ _ _ _ => (pe_calM c_Disk_look T_Disk.cl hr (by first | decide | omega) (pv 2) (pa_cons (pv 8) pa_nil))))
(pss_cons (ps_set (i := 6) sc_law.nd rfl (Or.inl rfl) (pe_calI c_Journal___init__ T_Journal.gC hr (by first | decide | omega) (by rfl) (pa_cons (pv 2) pa_nil)))
(pss_cons (ps_if (PW.pt (pw_or (pt_not (pt_val (pe_cal c_law_equal hr (by first | decide | omega) (by rfl) (pa_cons (pe_callTy (call_listC (K := K) rfl) (by rfl) b_list bt_list (pa_cons (pe_fld (pv 6) rfl) pa_nil)) (pa_cons (pv 3) pa_nil))))) (pw_or1 (pt_not (pt_val (pe_cal c_law_equal hr (by first | decide | omega) (by rfl) (pa_cons (pe_fld (pv 6) rfl) (pa_cons (pv 4) pa_nil))))))))
(pss_one (ps_ret pe_bl))
pss_nil)
(pss_cons (ps_if (pt_not (pt_val (pe_cal c_law_equal hr (by first | decide | omega) (by rfl) (pa_cons (pe_lc (own := [("k", 8)]) (by rfl) sc_law.nd (pi_range1 (by rfl) b_range (pa_cons pe_int pa_nil)) (blkOk_by (own := [("k", 8)]) (N := n_law) (sc := defScope s_law) (by decide +kernel)) (fun _ _ _ _ _ => pg_name (i := 8) sc_law.nd rfl (Or.inl rfl)) (fun _ _ _ _ _ => pts_nil) (fun _ _ _ _ _ => (pe_calM c_Disk_look T_Disk.cl hr (by first | decide | omega) (pv 2) (pa_cons (pv 8) pa_nil)))) (pa_cons (pv 5) pa_nil)))))
(pss_one (ps_ret pe_bl))
pss_nil)
(pss_cons (ps_expr (pe_calMK c_Journal_enter T_Journal.cl hr (by first | decide | omega) (pv 6) (pa_cons (pe_tup (pa_cons pe_int (pa_cons pe_int (pa_cons pe_int pa_nil)))) pa_nil) (pk_cons pe_bl pk_nil)))
(pss_cons (ps_set (i := 7) sc_law.nd rfl (Or.inl rfl) (pe_fld (pe_calI c_Journal___init__ T_Journal.gC hr (by first | decide | omega) (by rfl) (pa_cons (pv 2) pa_nil)) rfl))
(pss_one (ps_ret (pe_cal c_law_equal hr (by first | decide | omega) (by rfl) (pa_cons (pe_callTy (call_listC (K := K) rfl) (by rfl) b_list bt_list (pa_cons (pv 7) pa_nil)) (pa_cons (pe_op (op_uAddK (K := K) rfl) (pv 3) (pe_lst (pa_cons (pe_tup (pa_cons pe_int (pa_cons pe_int (pa_cons pe_int pa_nil)))) pa_nil))) pa_nil)))))))))))))))))), ?_⟩
  walk_at "start"
  refine w_sg (a, ns) j ⟨rfl, ha, hl⟩ fun v M1 G1 H1 j1 e1 ⟨q, nums, ev, hq, hn, em⟩ => ?_
  subst ev em
  walk_at "go"
  refine w_newM j1 (by show 2 ≤ sizeLine; decide) fun p H2 j2 nM nG => ?_
  walk_at "go"
  have d2 : Dr K (upd (fun _ => none) p (.lst [.ref q, .int 0])) G1 p := ⟨q, nums, 0, upd_same, sl_of hq, hn, Int.le_refl _⟩
  refine w_makeX j2 fun x1 dx1 H3 j3 nx1 gx1 => ?_
  refine w_sg (x1, dx1) j3 ⟨rfl, upd_same⟩ fun v M4 G4 H4 j4 e4 ⟨ev, b1, c1, f1, hd1, fr1, nb1, nc1, nf1⟩ => ⟨ev, ?_⟩
  walk_at "go"
  have p3 : upd (upd (fun _ => none) p (.lst [.ref q, .int 0])) x1 (.ins C_Disk dx1 []) p = some (.lst [.ref q, .int 0]) := upd_ne' (upd_same (H := fun _ => none)) (ne_of_none upd_same nx1)
  have p4 : M4 p = some (.lst [.ref q, .int 0]) := fr1 p _ p3 (ne_of_none upd_same nx1)
  have d4 : Dr K M4 G4 p := ⟨q, nums, 0, p4, sl_of (e4 _ _ hq), hn, Int.le_refl _⟩
  have S4 : Q11 K C_Disk M4 G4 p ⟨x1, b1, c1, f1, dx1⟩ ⟨[], [], [], 0⟩ := ⟨d4, hd1, ne_of_none p3 nc1, AllB.nil, fun q m => (nomatch m), rfl, fun q m => (nomatch m)⟩
  refine w_sg (p, ⟨x1, b1, c1, f1, dx1⟩, ⟨[], [], [], 0⟩) j4 ⟨rfl, S4, by show 0 + 0 ≤ 1000; decide⟩ fun v5 M5 G5 H5 j5 e5 ⟨s5, ev, S5, z5⟩ => ?_
  replace z5 : s5.ca.length + s5.kb.length ≤ 0 + 0 + 96 := z5
  dsimp only at S5
  subst ev
  walk_at "go"
  refine w_methM j5 S5.dk.op (no_Disk (by decide +kernel) (by decide +kernel) (by decide +kernel) (by decide +kernel)) ?_
  walk_at "go"
  refine w_sg (⟨x1, b1, c1, f1, dx1⟩, s5) j5 ⟨rfl, S5.dk, by dsimp only; omega⟩ fun v6 M6 G6 H6 j6 e6 ⟨_, c6, f6, hd6, fr6, nc6, nf6⟩ => ?_
  have S6 := S5.synced e6 hd6 fr6 nc6
  have l6 := puts_len s5.ca s5.kb
  walk_at "to"
  refine w_seqP (fun σ H => ∃ M G d s x3 x4 x5 x6 x7 x8, J M G H ∧ Q11 K C_Disk M G p d s ∧ s.ca = [] ∧ s.kb.length ≤ 200 ∧ d.p = x1 ∧ σ = [some (.ref a), some (.ref p), some (.ref x1), x3, x4, x5, x6, x7, x8]) ?_ fun rest => ?_
  rotate_left
  · walk_at "go"
    refine use_draw j6 S6.dr fun n1 M7 G7 H7 _ _ j7 e7 d7 a7 => ?_
    have S7 := S6.ag e7 a7 d7
    walk_at "go"
    refine w_dec (fun c => ?_) (fun c => ?_)
    · walk_at "go"
      refine use_draw j7 S7.dr fun n8 M8 G8 H8 _ _ j8 e8 d8 a8 => ?_
      have S8 := S7.ag e8 a8 d8
      walk_at "go"
      refine use_draw j8 S8.dr fun n9 M9 G9 H9 _ _ j9 e9 d9 a9 => ?_
      have S9 := S8.ag e9 a9 d9
      walk_at "go"
      refine use_draw j9 S9.dr fun n10 M10 G10 H10 _ _ j10 e10 d10 a10 => ?_
      have S10 := S9.ag e10 a10 d10
      walk_at "go"
      have y36 := Int.emod_nonneg n8 (show (36 : Int) ≠ 0 by decide)
      have y4 := Int.emod_nonneg n10 (show (4 : Int) ≠ 0 by decide)
      refine w_sg ⟨p, _, _, _, _, _⟩ j10 ⟨rfl, S10, y36, (by dsimp only; omega), (by show 0 + (s5.ca.foldl putC s5.kb).length ≤ 2000; omega)⟩ fun v11 M11 G11 H11 j11 e11 ⟨s11, n11, ev, l11, S11, z11⟩ => ?_
      subst ev
      replace z11 : s11.ca.length + s11.kb.length ≤ 0 + (s5.ca.foldl putC s5.kb).length + 8 := z11
      walk_at "go"
      refine w_methM j11 S11.dk.op (no_Disk (by decide +kernel) (by decide +kernel) (by decide +kernel) (by decide +kernel)) ?_
      walk_at "go"
      refine w_propM j11 S11.dk.op ?_
      refine w_sg (M11, _, s11) j11 ⟨rfl, S11.dk, Sub.m⟩ fun v12 M12 G12 H12 j12 e12 ⟨ev, em⟩ => ?_
      dsimp only at ev em
      subst ev em
      walk_at "go"
      have S12 := S11.ex e12
      refine w_lcr j12 (fun L i acc M2 G2 => M12 L = none ∧ L ≠ p ∧ Ex G12 G2 ∧ Dr K M2 G2 p ∧ Ag2 p L M12 M2 ∧ ∃ fs : List Int, acc = fs.map V.int ∧ fs.length = i) ?_ (fun _ => rfl) ?_ ?_ (by omega) (by omega)
      · exact fun L h1 h2 => ⟨h1, S12.dr.ne h1, Same.refl _, S12.dr.upd (S12.dr.ne h1), (Ag2.refl p L M12).upd, [], rfl, rfl⟩
      · rintro L i acc M2 G2 H2 R hi j2 hL ⟨nL, nLp, e2, d2, a2, fs, rfl, hl⟩ hR
        walk_at "go"
        refine use_draw j2 d2 fun n3 M3 G3 H3 _ _ j3 e3 d3 a3 => ?_
        walk_at "go"
        refine hR _ _ ⟨M3, G3, j3, (a3 _ nLp).trans hL, sz_lt (by rw [List.length_map]; omega), nL, nLp, e2.trans e3, d3.upd nLp, (a2.ag a3).upd, fs ++ [n3 % 3], map_snoc _ _, by rw [List.length_append, hl]; rfl⟩
      · rintro L acc M2 G2 H2 j2 hL ⟨nL, nLp, e2, d2, a2, fs, rfl, hl⟩
        have j3 := j2.seal hL
        have e3 : Ex G2 _ := Ex.new (o := .lst (fs.map V.int)) (j2.out hL)
        have a3 : Ag p M12 (del M2 L) := a2.del nL
        have d3 : Dr K (del M2 L) (upd G2 L (.lst (fs.map V.int))) p := (d2.del nLp).ex e3
        have S13 := S12.ag (e2.trans e3) a3 d3
        walk_at "go"
        refine w_sg (_, s11, L, fs) j3 ⟨rfl, S13.dk, sl_of upd_same, by dsimp only; omega⟩ fun v14 M14 G14 H14 j14 e14 ⟨_, c14, f14, hd14, fr14, nc14, nf14⟩ => ?_
        have S14 := S13.crashed e14 hd14 fr14 nc14
        have l14 := fates_len (s11.ca.zip fs) s11.kb
        rw [List.length_zip] at l14
        exact rest _ _ ⟨M14, G14, _, _, _, _, _, _, _, _, j14, S14, rfl, by dsimp only; omega, rfl, rfl⟩
    · with_reducible refine w_next ?_
      exact rest _ _ ⟨M7, G7, _, _, _, _, _, _, _, _, j7, S7, rfl, by dsimp only; omega, rfl, rfl⟩
  · rintro σ H ⟨M, G, d, s, x3, x4, x5, x6, x7, x8, j, S, hca, hz, hx1, rfl⟩
    subst hx1
    obtain ⟨kf, f, hf, hok, h48⟩ := S.view hca
    have h6 : ∀ n b, f n = some b → b.cs.length ≤ 6 ∧ 1 ≤ b.q ∧ b.q ≤ 1000 := fun n b e => ⟨(hok n b e).1, (hok n b e).2.2⟩
    obtain ⟨rd49, l49, p49⟩ := read_49 h48
    obtain ⟨pu0, od0⟩ := okD_R0 hok h48
    obtain ⟨pu1, od1⟩ := okD_R1 hok h48
    have edue : lawR f (48 + 1) 0 0 0 = (readF f 49 0 0 none).1 := lawR_read (fun n b e => by have := (hok n b e).2.1; omega) 49 0 0 0 none (.inl ⟨rfl, rfl⟩)
    walk_at "go"
    refine w_sg ⟨M, d, s, f, 48⟩ j ⟨rfl, S.dk, Sub.m, hf, h6, (by show 48 ≤ 1000; decide)⟩ fun v1 M1 G1 H1 j1 e1 ⟨em, t, vs, ev, ht, hvs⟩ => ?_
    dsimp only at em hvs
    subst em ev
    rw [edue] at hvs
    walk_at "go"
    have S1 := S.ex e1
    refine w_sg ⟨M1, d, s, f, 48⟩ j1 ⟨rfl, S1.dk, Sub.m, fun n => (hf n).ex e1, (by show 48 ≤ 1000; decide)⟩ fun v2 M2 G2 H2 j2 e2 ⟨em, ev⟩ => ?_
    dsimp only at em ev
    subst em ev
    have S2 := S1.ex e2
    walk_at "go"
    refine w_lcr j2 (fun L i acc M3 G3 => M2 L = none ∧ Ex G2 G3 ∧ Ag L M2 M3 ∧ acc = (List.range i).map fun k : Nat => lookM s k) ?_ (fun _ => rfl) ?_ ?_ (by omega) (by omega)
    · exact fun L h1 h2 => ⟨h1, Same.refl _, Ag.upd, rfl⟩
    · rintro L i acc M3 G3 H3 R hi j3 hL ⟨nL, e3, a3, rfl⟩ hR
      have S3 := S2.ex e3
      obtain ⟨zs, hc3, _⟩ := S3.dk.oc
      have dk3 : DkAt C_Disk M3 G3 d s := S3.dk.mv (a3 _ (ne_of_none S3.dk.op nL)) (a3 _ (ne_of_none S3.dk.ob nL)) (a3 _ (ne_of_none hc3 nL)) (a3 _ (ne_of_none S3.dk.of nL))
      walk_at "go"
      refine w_methM j3 dk3.op (no_Disk (by decide +kernel) (by decide +kernel) (by decide +kernel) (by decide +kernel)) ?_
      walk_at "go"
      refine w_sg (M3, d, s, (i : Int)) j3 ⟨rfl, dk3, Sub.m⟩ fun v4 M4 G4 H4 j4 e4 ⟨ev, em⟩ => ?_
      dsimp only at ev em
      subst ev em
      refine hR _ _ ⟨M4, G4, j4, hL, sz_lt (by rw [List.length_map, List.length_range]; omega), nL, e3.trans e4, a3.trans Ag.upd, ?_⟩
      rw [List.range_succ, List.map_append]; rfl
    rintro Lb acc M3 G3 H3 j3 hL ⟨nL, e3, a3, rfl⟩
    have j4 := j3.seal hL
    rw [a3.del_eq nL] at j4
    have e4 := e3.trans (Ex.new (o := .lst ((List.range (49 : Int).toNat).map fun k : Nat => lookM s k)) (j3.out hL))
    have hLb : (upd G3 Lb (.lst ((List.range (49 : Int).toNat).map fun k : Nat => lookM s k))) Lb = some (.lst ((List.range 49).map fun k : Nat => lookM s k)) := upd_same
    generalize hG4 : upd G3 Lb (.lst ((List.range (49 : Int).toNat).map fun k : Nat => lookM s k)) = G4 at *
    have S4 := S2.ex e4
    have E4 := (e1.trans e2).trans e4
    walk_at "go"
    refine w_makeX j4 fun y dy H5 j5 ny gy => ?_
    have ik : IntKs s.kb := S.kk.ik
    refine w_sg (M2, d, s, f, y, dy) j5 ⟨rfl, S4.dk, fun a o e => .inl (upd_ne' e (ne_of_none e ny)), ny, upd_same, fun n => (hf n).ex E4, fun n b e => (h6 n b e).1, ik, by dsimp only; rw [kf]; exact IntKs.nil, by dsimp only; rw [kf]; show s.kb.length + 0 < 4000; omega⟩ fun v6 M6 G6 H6 j6 e6 ⟨ev, r, rs, ns, nr, rp', hns, hrs, hM⟩ => ⟨ev, ?_⟩
    dsimp only at nr rp' hns hrs hM
    have rdN := (read_rd hf).1
    obtain ⟨eR, eP⟩ := rd_det rd49 rdN
    rw [eR] at hrs
    rw [eP] at hM
    have eg : 1 + topI 0 ((ns.filterMap f).map (·.g)) = genM f 48 + 1 := gen_top h48 (fun n b e => (hok n b e).2.1) fun n b e => (hns n).mpr (by
      have hv := hf n
      rw [e] at hv
      obtain ⟨x, u, ex, _⟩ := hv
      have mem := seen_pos (s := s) (n := n) (by rw [ex]; exact fun z => nomatch z)
      rw [List.mem_append, posKs_mem, posKs_mem] at mem
      exact mem)
    rw [eg] at hM
    have E6 := E4.trans e6
    obtain ⟨jn6, k6, yr⟩ := jn_open (C := C_Journal) (r := r) (dy := dy) (g := genM f 48 + 1) (rs := rs) (pl := (readF f 49 0 0 none).2) (S4.dk.ex e6) ny nr
    rw [← hM] at jn6 k6
    walk_at "go"
    refine w_fldM j6 jn6.op T_Journal.cl T_Journal.n_records fl_Journal_records ?_
    walk_at "go"
    refine w_listC (.inl (.inl (.inl (j6.m _ _ jn6.or)))) (w_new j6 (Nat.zero_le _) fun l7 G7 H7 j7 e7 hl7 _ => ?_)
    walk_at "go"
    have ht7 := (((e2.trans e4).trans e6).trans e7) _ _ ht
    have hvs7 := hvs.ex (((e2.trans e4).trans e6).trans e7)
    refine use_eq (n := 36) (d := .list (dL (readF f 49 0 0 none).1)) j7 (.lst (sl_of hl7) (RcsAt.dp (hrs.ex e7) pu0)) (.lst (sl_of ht7) (RcsAt.dp hvs7 pu0)) od0 fun G8 H8 j8 e8 => ?_
    walk_at "go"
    refine w_fldM j8 jn6.op T_Journal.cl T_Journal.n_generation fl_Journal_generation ?_
    walk_at "go"
    refine use_eq (n := 36) (d := .int (genM f 48 + 1)) j8 (.int _) (.int _) trivial fun G9 H9 j9 e9 => ?_
    walk_at "go"
    have E9 := (e7.trans e8).trans e9
    have jn9 := jn6.ex E9
    refine w_lcr j9 (fun L i acc M3 G3 => M6 L = none ∧ Ex G9 G3 ∧ Ag L M6 M3 ∧ acc = (List.range i).map fun k : Nat => lookM s k) ?_ (fun _ => rfl) ?_ ?_ (by omega) (by omega)
    · exact fun L h1 h2 => ⟨h1, Same.refl _, Ag.upd, rfl⟩
    · rintro L i acc M3 G3 H3 R hi j3 hL ⟨nL, e3, a3, rfl⟩ hR
      obtain ⟨zs, hc3, _⟩ := jn9.dk.oc
      have dk3 : DkAt C_Disk M3 G3 d s := (jn9.dk.ex e3).mv (a3 _ (ne_of_none jn9.dk.op nL)) (a3 _ (ne_of_none jn9.dk.ob nL)) (a3 _ (ne_of_none hc3 nL)) (a3 _ (ne_of_none jn9.dk.of nL))
      walk_at "go"
      refine w_methM j3 dk3.op (no_Disk (by decide +kernel) (by decide +kernel) (by decide +kernel) (by decide +kernel)) ?_
      walk_at "go"
      refine w_sg (M3, d, s, (i : Int)) j3 ⟨rfl, dk3, Sub.m⟩ fun v4 M4 G4 H4 j4 e4 ⟨ev, em⟩ => ?_
      dsimp only at ev em
      subst ev em
      refine hR _ _ ⟨M4, G4, j4, hL, sz_lt (by rw [List.length_map, List.length_range]; omega), nL, e3.trans e4, a3.trans Ag.upd, ?_⟩
      rw [List.range_succ, List.map_append]; rfl
    rintro Lc acc M10 G10 H10 j10 hLc ⟨nLc, e10, a10, rfl⟩
    have j11 := j10.seal hLc
    rw [a10.del_eq nLc] at j11
    have e11 := e10.trans (Ex.new (o := .lst ((List.range (49 : Int).toNat).map fun k : Nat => lookM s k)) (j10.out hLc))
    have hLc2 : (upd G10 Lc (.lst ((List.range (49 : Int).toNat).map fun k : Nat => lookM s k))) Lc = some (.lst ((List.range 49).map fun k : Nat => lookM s k)) := upd_same
    generalize hG11 : upd G10 Lc (.lst ((List.range (49 : Int).toNat).map fun k : Nat => lookM s k)) = G11 at *
    have EB := (e6.trans E9).trans e11
    have hdp : DpAll K G11 ((List.range 49).map fun k : Nat => lookM s k) ((List.range 49).map fun k : Nat => dB (f k)) := dpAll_of (by rw [List.length_map, List.length_map]) fun i x dd h1 h2 => by
      rw [List.getElem?_map] at h1 h2
      cases q : (List.range 49)[i]? with
      | none => rw [q] at h1; cases h1
      | some n =>
        rw [q] at h1 h2
        cases h1
        cases h2
        exact BvAt.dp ((hf _).ex (E4.trans EB))
    have hod : okD 36 (.list ((List.range 49).map fun k : Nat => dB (f k))) := ⟨by rw [List.length_map, List.length_range]; decide, fun x hx => by
      obtain ⟨n, _, rfl⟩ := List.mem_map.mp hx
      exact okD_up (okD_dB fun b e => (h6 _ b e).1) (by decide)⟩
    walk_at "go"
    refine use_eq (n := 36) (d := .list ((List.range 49).map fun k : Nat => dB (f k))) j11 (.lst (sl_of hLc2) hdp) (.lst (sl_of (EB _ _ hLb)) hdp) hod fun G12 H12 j12 e12 => ?_
    walk_at "go"
    have jn12 := jn9.ex (e11.trans e12)
    refine w_methKM j12 jn12.op (no_Journal (by decide +kernel) (by decide +kernel) (by decide +kernel) (by decide +kernel)) ?_
    walk_at "go"
    refine w_new j12 (by show 3 ≤ sizeLine; decide) fun t13 G13 H13 j13 e13 ht13 _ => ?_
    walk_at "go"
    refine w_mkEnd rfl rfl ?_
    have hv13 : RcAt K G13 (.ref t13) rc3 := .tup (st_of ht13) (.cons (.int _) (.cons (.int _) (.cons (.int _) .nil)))
    have lrs : rs.length = (readF f 49 0 0 none).1.length := hrs.len
    have cl3 : (cellsM rc3).length = 8 := rfl
    refine w_sg ⟨⟨y, r, dy⟩, d, s, genM f 48 + 1, rs, (readF f 49 0 0 none).2, .ref t13, rc3, true⟩ j13 ⟨rfl, jn12.ex e13, hv13, rfl, by dsimp only; rw [cl3]; decide, by dsimp only; omega, by dsimp only; rw [kf, hca]; show 0 + 0 + s.kb.length < 900000; omega⟩ fun v14 M14 G14 H14 j14 e14 ⟨_, ws, hw, c14, f14, jn14, fj14, cN, fN⟩ => ?_
    dsimp only at hw jn14 fj14 cN fN
    rw [if_pos rfl] at jn14
    rw [lrs] at hw
    have EC := (e12.trans e13).trans e14
    have ED := (E4.trans EB).trans EC
    have hgl : ∀ n b, f n = some b → b.g < genM f 48 + 1 := fun n b e => by
      obtain ⟨_, g1, _⟩ := genM_spec f 48
      obtain ⟨n0, n1⟩ := h48 n b e
      have := g1 n.toNat b (by omega) (by rw [show ((n.toNat : Nat) : Int) = n by omega]; exact e)
      omega
    obtain ⟨f2, hf2, h62, huniq⟩ := view_enter (K := K) (G := G14) (s := s) (r := rc3) hca (fun n => by rw [← look_nof kf]; exact (hf n).ex ED) (fun n b e => (h6 n b e).1) rd49 hgl rfl hw
    have lw : ws.length = nparts (cellsM rc3) := by rw [hw.len, bks_len]
    have np3 : nparts (cellsM rc3) = 2 := rfl
    obtain ⟨s2, hs2⟩ : ∃ s2, s2 = syncS (wrAll s (readF f 49 0 0 none).2 ws) := ⟨_, rfl⟩
    rw [← hs2] at jn14 hf2
    have kf2 : s2.kf = [] := by rw [hs2]; rfl
    have ik2 : IntKs s2.kb := by
      rw [hs2]
      show IntKs ((wrAll s _ ws).ca.foldl putC (wrAll s _ ws).kb)
      rw [wrAll_kb]; exact IntKs.puts ik
    have kl2 : s2.kb.length ≤ 300 := by
      rw [hs2]
      show ((wrAll s _ ws).ca.foldl putC (wrAll s _ ws).kb).length ≤ 300
      have c1 := wrAll_ca ws s (readF f 49 0 0 none).2
      have c2 := wrAll_kb ws s (readF f 49 0 0 none).2
      have c3 := puts_len (wrAll s (readF f 49 0 0 none).2 ws).ca (wrAll s (readF f 49 0 0 none).2 ws).kb
      rw [c1, c2, hca] at c3
      rw [c2]
      have : ([] : List (Int × V)).length = 0 := rfl
      omega
    walk_at "go"
    refine w_makeX j14 fun y2 dy2 H15 j15 ny2 gy2 => ?_
    refine w_sg (M14, { d with c := c14, f := f14 }, s2, f2, y2, dy2) j15 ⟨rfl, jn14.dk, fun a o e => .inl (upd_ne' e (ne_of_none e ny2)), ny2, upd_same, hf2, h62, ik2, by dsimp only; rw [kf2]; exact IntKs.nil, by dsimp only; rw [kf2]; show s2.kb.length + 0 < 4000; omega⟩ fun v16 M16 G16 H16 j16 e16 ⟨ev, r2, rs2, ns2, nr2, rp2, hns2, hrs2, hM2⟩ => ⟨ev, ?_⟩
    dsimp only at nr2 rp2 hns2 hrs2 hM2
    rw [huniq _ _ (read_rd hf2).1] at hrs2
    obtain ⟨jn16, k16, yr2⟩ := jn_open (C := C_Journal) (r := r2) (dy := dy2) (g := 1 + topI 0 ((ns2.filterMap f2).map (·.g))) (rs := rs2) (pl := (readF f2 (s2.kb.length + s2.kf.length + 1) 0 0 none).2) (jn14.dk.ex e16) ny2 nr2
    rw [← hM2] at jn16 k16
    walk_at "go"
    refine w_fldM j16 jn16.op T_Journal.cl T_Journal.n_records fl_Journal_records ?_
    walk_at "go"
    refine w_listC (.inl (.inl (.inl (j16.m _ _ jn16.or)))) (w_new j16 (Nat.zero_le _) fun l17 G17 H17 j17 e17 hl17 _ => ?_)
    walk_at "go"
    refine w_new j17 (by show 3 ≤ sizeLine; decide) fun t18 G18 H18 j18 e18 ht18 _ => ?_
    walk_at "go"
    refine w_new j18 (by show 1 ≤ sizeLine; decide) fun l19 G19 H19 j19 e19 hl19 _ => ?_
    walk_at "go"
    have EF := ((e16.trans e17).trans e18).trans e19
    have ht19 := ((((e2.trans e4).trans EB).trans EC).trans EF) _ _ ht
    have hvs19 := hvs.ex ((((e2.trans e4).trans EB).trans EC).trans EF)
    refine w_catL (j19.g _ _ ht19) (j19.g _ _ hl19) (w_new j19 (by rw [hvs.len]; show _ + 1 ≤ _; exact sz_le (by omega)) fun l20 G20 H20 j20 e20 hl20 _ => ?_)
    walk_at "go"
    have hnew : RcsAt K G20 (vs ++ [.ref t18]) ((readF f 49 0 0 none).1 ++ [rc3]) := (hvs19.ex e20).snoc (.tup (st_of ((e19.trans e20) _ _ ht18)) (.cons (.int _) (.cons (.int _) (.cons (.int _) .nil))))
    refine use_eq (n := 36) (d := .list (dL ((readF f 49 0 0 none).1 ++ [rc3]))) j20 (.lst (sl_of (((e18.trans e19).trans e20) _ _ hl17)) (RcsAt.dp (hrs2.ex (((e17.trans e18).trans e19).trans e20)) pu1)) (.lst (sl_of hl20) (RcsAt.dp hnew pu1)) od1 fun G21 H21 j21 e21 => ?_
    exact k _
/-! ### the end -/
set_option maxHeartbeats 16000000 in
theorem all_mk {l : PySem.W.OpenLaw} {w : World} {K : PySem.W.Frag} {h : Heap} {mg : Str → Option Value} {fa : Addr} (X : K.In h) (G : h.Ns mainGlobals mg) (hfa : mg "law" = some (.ref fa))
    {C_Disk : Addr}
    {C_Journal : Addr}
    {f0 : Addr} {od0 an0 : Option Addr} {sl0 : Array (Option Value)} {oc0 kV0 dc0 pm0 cd0 ct0 : Value}
    {f1 : Addr} {od1 an1 : Option Addr} {sl1 : Array (Option Value)} {oc1 kV1 dc1 pm1 cd1 ct1 : Value}
    {f2 : Addr} {od2 an2 : Option Addr} {sl2 : Array (Option Value)} {oc2 kV2 dc2 pm2 cd2 ct2 : Value}
    {f3 : Addr} {od3 an3 : Option Addr} {sl3 : Array (Option Value)} {oc3 kV3 dc3 pm3 cd3 ct3 : Value}
    {f4 : Addr} {od4 an4 : Option Addr} {sl4 : Array (Option Value)} {oc4 kV4 dc4 pm4 cd4 ct4 : Value}
    {f5 : Addr} {od5 an5 : Option Addr} {sl5 : Array (Option Value)} {oc5 kV5 dc5 pm5 cd5 ct5 : Value}
    {f6 : Addr} {od6 an6 : Option Addr} {sl6 : Array (Option Value)} {oc6 kV6 dc6 pm6 cd6 ct6 : Value}
    {f7 : Addr} {od7 an7 : Option Addr} {sl7 : Array (Option Value)} {oc7 kV7 dc7 pm7 cd7 ct7 : Value}
    {f8 : Addr} {od8 an8 : Option Addr} {sl8 : Array (Option Value)} {oc8 kV8 dc8 pm8 cd8 ct8 : Value}
    {f9 : Addr} {od9 an9 : Option Addr} {sl9 : Array (Option Value)} {oc9 kV9 dc9 pm9 cd9 ct9 : Value}
    {f10 : Addr} {od10 an10 : Option Addr} {sl10 : Array (Option Value)} {oc10 kV10 dc10 pm10 cd10 ct10 : Value}
    {f11 : Addr} {od11 an11 : Option Addr} {sl11 : Array (Option Value)} {oc11 kV11 dc11 pm11 cd11 ct11 : Value}
    {f12 : Addr} {od12 an12 : Option Addr} {sl12 : Array (Option Value)} {oc12 kV12 dc12 pm12 cd12 ct12 : Value}
    {f13 : Addr} {od13 an13 : Option Addr} {sl13 : Array (Option Value)} {oc13 kV13 dc13 pm13 cd13 ct13 : Value}
    {f14 : Addr} {od14 an14 : Option Addr} {sl14 : Array (Option Value)} {oc14 kV14 dc14 pm14 cd14 ct14 : Value}
    {f15 : Addr} {od15 an15 : Option Addr} {sl15 : Array (Option Value)} {oc15 kV15 dc15 pm15 cd15 ct15 : Value}
    {f16 : Addr} {od16 an16 : Option Addr} {sl16 : Array (Option Value)} {oc16 kV16 dc16 pm16 cd16 ct16 : Value}
    {f17 : Addr} {od17 an17 : Option Addr} {sl17 : Array (Option Value)} {oc17 kV17 dc17 pm17 cd17 ct17 : Value}
    {f18 : Addr} {od18 an18 : Option Addr} {sl18 : Array (Option Value)} {oc18 kV18 dc18 pm18 cd18 ct18 : Value}
    {f19 : Addr} {od19 an19 : Option Addr} {sl19 : Array (Option Value)} {oc19 kV19 dc19 pm19 cd19 ct19 : Value}
    {f20 : Addr} {od20 an20 : Option Addr} {sl20 : Array (Option Value)} {oc20 kV20 dc20 pm20 cd20 ct20 : Value}
    {f21 : Addr} {od21 an21 : Option Addr} {sl21 : Array (Option Value)} {oc21 kV21 dc21 pm21 cd21 ct21 : Value}
    {f22 : Addr} {od22 an22 : Option Addr} {sl22 : Array (Option Value)} {oc22 kV22 dc22 pm22 cd22 ct22 : Value}
    {f23 : Addr} {od23 an23 : Option Addr} {sl23 : Array (Option Value)} {oc23 kV23 dc23 pm23 cd23 ct23 : Value}
    {f24 : Addr} {od24 an24 : Option Addr} {sl24 : Array (Option Value)} {oc24 kV24 dc24 pm24 cd24 ct24 : Value}
    {f25 : Addr} {od25 an25 : Option Addr} {sl25 : Array (Option Value)} {oc25 kV25 dc25 pm25 cd25 ct25 : Value}
    {f26 : Addr} {od26 an26 : Option Addr} {sl26 : Array (Option Value)} {oc26 kV26 dc26 pm26 cd26 ct26 : Value}
    {f27 : Addr} {od27 an27 : Option Addr} {sl27 : Array (Option Value)} {oc27 kV27 dc27 pm27 cd27 ct27 : Value}
    {f28 : Addr} {od28 an28 : Option Addr} {sl28 : Array (Option Value)} {oc28 kV28 dc28 pm28 cd28 ct28 : Value}
    {f29 : Addr} {od29 an29 : Option Addr} {sl29 : Array (Option Value)} {oc29 kV29 dc29 pm29 cd29 ct29 : Value}
    {f30 : Addr} {od30 an30 : Option Addr} {sl30 : Array (Option Value)} {oc30 kV30 dc30 pm30 cd30 ct30 : Value}
    {f31 : Addr} {od31 an31 : Option Addr} {sl31 : Array (Option Value)} {oc31 kV31 dc31 pm31 cd31 ct31 : Value}
    {f32 : Addr} {od32 an32 : Option Addr} {sl32 : Array (Option Value)} {oc32 kV32 dc32 pm32 cd32 ct32 : Value}
    {f33 : Addr} {od33 an33 : Option Addr} {sl33 : Array (Option Value)} {oc33 kV33 dc33 pm33 cd33 ct33 : Value}
    {f34 : Addr} {od34 an34 : Option Addr} {sl34 : Array (Option Value)} {oc34 kV34 dc34 pm34 cd34 ct34 : Value}
    {f35 : Addr} {od35 an35 : Option Addr} {sl35 : Array (Option Value)} {oc35 kV35 dc35 pm35 cd35 ct35 : Value}
    {f36 : Addr} {od36 an36 : Option Addr} {sl36 : Array (Option Value)} {oc36 kV36 dc36 pm36 cd36 ct36 : Value}
    {f37 : Addr} {od37 an37 : Option Addr} {sl37 : Array (Option Value)} {oc37 dc37 pm37 cd37 ct37 : Value}
    {dK37 : Addr}
    {f38 : Addr} {od38 an38 : Option Addr} {sl38 : Array (Option Value)} {oc38 kV38 dc38 pm38 cd38 ct38 : Value}
    {f39 : Addr} {od39 an39 : Option Addr} {sl39 : Array (Option Value)} {oc39 kV39 dc39 pm39 cd39 ct39 : Value}
    {f40 : Addr} {od40 an40 : Option Addr} {sl40 : Array (Option Value)} {oc40 kV40 dc40 pm40 cd40 ct40 : Value}
    {f41 : Addr} {od41 an41 : Option Addr} {sl41 : Array (Option Value)} {oc41 kV41 dc41 pm41 cd41 ct41 : Value}
    {f42 : Addr} {od42 an42 : Option Addr} {sl42 : Array (Option Value)} {oc42 kV42 dc42 pm42 cd42 ct42 : Value}
    {p42 : Addr} {re42 : List Value}
    {f43 : Addr} {od43 an43 : Option Addr} {sl43 : Array (Option Value)} {oc43 kV43 dc43 pm43 cd43 ct43 : Value}
    {A_BadRecord : Addr}
    {t1 : Tok}
    {t2 : Tok}
    {t3 : Tok}
    {t4 : Tok}
    {t5 : Tok}
    {t6 : Tok}
    {t7 : Tok}
    {t8 : Tok}
    {t9 : Tok}
    {t10 : Tok}
    {t11 : Tok}
    {t12 : Tok}
    {t13 : Tok}
    {t14 : Tok}
    {t15 : Tok}
    {t16 : Tok}
    {t17 : Tok}
    {t18 : Tok}
    {t19 : Tok}
    {t20 : Tok}
    {t21 : Tok}
    {t22 : Tok}
    {t23 : Tok}
    {t24 : Tok}
    {t25 : Tok}
    {t26 : Tok}
    {t27 : Tok}
    {t28 : Tok}
    {t29 : Tok}
    {t30 : Tok}
    {t31 : Tok}
    {e_WORDS : Addr} {en_WORDS : Nat} {es_WORDS : Array (Option Value)}
    {t32 : Tok}
    {t33 : Tok}
    {t34 : Tok}
    {t35 : Tok}
    {t36 : Tok}
    {t37 : Tok}
    {t38 : Tok}
    {t39 : Tok}
    {t40 : Tok}
    {t41 : Tok}
    (aC_Disk : PySem.W.nsIn K mainGlobals "Disk" = some (some (.ref C_Disk)))
    (pgC_Disk : PySem.W.plainGet K C_Disk Str.empty = true)
    (hdC_Disk : PySem.W.hasDictIn K C_Disk = true)
    (poC_Disk : PySem.W.plainOver K C_Disk = true)
    (saC_Disk : PySem.W.findIn K (.ref C_Disk) "__setattr__" = some (some (.builtin "object.__setattr__")))
    (kcC_Disk : PySem.W.keepIn K (.ref C_Disk) = true)
    (mkC_Disk : PySem.W.makesIn K C_Disk = true)
    (nfC_blocks_Disk : PySem.W.findIn K (.ref C_Disk) "blocks" = some none)
    (nfC_cache_Disk : PySem.W.findIn K (.ref C_Disk) "cache" = some none)
    (nfC_fresh_Disk : PySem.W.findIn K (.ref C_Disk) "fresh" = some none)
    (nfC_reach_Disk : PySem.W.findIn K (.ref C_Disk) "reach" = some none)
    (aC_Journal : PySem.W.nsIn K mainGlobals "Journal" = some (some (.ref C_Journal)))
    (pgC_Journal : PySem.W.plainGet K C_Journal Str.empty = true)
    (hdC_Journal : PySem.W.hasDictIn K C_Journal = true)
    (poC_Journal : PySem.W.plainOver K C_Journal = true)
    (saC_Journal : PySem.W.findIn K (.ref C_Journal) "__setattr__" = some (some (.builtin "object.__setattr__")))
    (kcC_Journal : PySem.W.keepIn K (.ref C_Journal) = true)
    (mkC_Journal : PySem.W.makesIn K C_Journal = true)
    (nfC_disk_Journal : PySem.W.findIn K (.ref C_Journal) "disk" = some none)
    (nfC_records_Journal : PySem.W.findIn K (.ref C_Journal) "records" = some none)
    (nfC_generation_Journal : PySem.W.findIn K (.ref C_Journal) "generation" = some none)
    (nfC_place_Journal : PySem.W.findIn K (.ref C_Journal) "place" = some none)
    (a0 : PySem.W.findIn K (.ref C_Disk) "wipe" = some (some (.ref f0))) (i0 : PySem.W.isFn K (.ref f0) = true)
    (l0 : K.lookup f0 = some ⟨oc0, od0, .func (PySem.W.fnOf "wipe" "Disk.wipe" (defArgs s_Disk_wipe) (defBody s_Disk_wipe) (defScope s_Disk_wipe) .none kV0 dc0 pm0 an0 cd0 ct0), sl0⟩)
    (c0 : PySem.W.codeIn K cd0 "Disk.wipe" = true) (k0 : PySem.W.keepIn K (.ref f0) = true)
    (a1 : PySem.W.findIn K (.ref C_Disk) "__init__" = some (some (.ref f1))) (i1 : PySem.W.isFn K (.ref f1) = true)
    (l1 : K.lookup f1 = some ⟨oc1, od1, .func (PySem.W.fnOf "__init__" "Disk.__init__" (defArgs s_Disk___init__) (defBody s_Disk___init__) (defScope s_Disk___init__) .none kV1 dc1 pm1 an1 cd1 ct1), sl1⟩)
    (c1 : PySem.W.codeIn K cd1 "Disk.__init__" = true) (k1 : PySem.W.keepIn K (.ref f1) = true)
    (a2 : PySem.W.nsIn K mainGlobals "_law_cells" = some (some (.ref f2)))
    (l2 : K.lookup f2 = some ⟨oc2, od2, .func (PySem.W.fnOf "_law_cells" "_law_cells" (defArgs s_law_cells) (defBody s_law_cells) (defScope s_law_cells) .none kV2 dc2 pm2 an2 cd2 ct2), sl2⟩)
    (c2 : PySem.W.codeIn K cd2 "_law_cells" = true) (k2 : PySem.W.keepIn K (.ref f2) = true)
    (a3 : PySem.W.nsIn K mainGlobals "_law_mixed" = some (some (.ref f3)))
    (l3 : K.lookup f3 = some ⟨oc3, od3, .func (PySem.W.fnOf "_law_mixed" "_law_mixed" (defArgs s_law_mixed) (defBody s_law_mixed) (defScope s_law_mixed) .none kV3 dc3 pm3 an3 cd3 ct3), sl3⟩)
    (c3 : PySem.W.codeIn K cd3 "_law_mixed" = true) (k3 : PySem.W.keepIn K (.ref f3) = true)
    (a4 : PySem.W.nsIn K mainGlobals "_law_draw" = some (some (.ref f4)))
    (l4 : K.lookup f4 = some ⟨oc4, od4, .func (PySem.W.fnOf "_law_draw" "_law_draw" (defArgs s_law_draw) (defBody s_law_draw) (defScope s_law_draw) .none kV4 dc4 pm4 an4 cd4 ct4), sl4⟩)
    (c4 : PySem.W.codeIn K cd4 "_law_draw" = true) (k4 : PySem.W.keepIn K (.ref f4) = true)
    (a5 : PySem.W.nsIn K mainGlobals "_law_words" = some (some (.ref f5)))
    (l5 : K.lookup f5 = some ⟨oc5, od5, .func (PySem.W.fnOf "_law_words" "_law_words" (defArgs s_law_words) (defBody s_law_words) (defScope s_law_words) .none kV5 dc5 pm5 an5 cd5 ct5), sl5⟩)
    (c5 : PySem.W.codeIn K cd5 "_law_words" = true) (k5 : PySem.W.keepIn K (.ref f5) = true)
    (a6 : PySem.W.nsIn K mainGlobals "_law_leaf" = some (some (.ref f6)))
    (l6 : K.lookup f6 = some ⟨oc6, od6, .func (PySem.W.fnOf "_law_leaf" "_law_leaf" (defArgs s_law_leaf) (defBody s_law_leaf) (defScope s_law_leaf) .none kV6 dc6 pm6 an6 cd6 ct6), sl6⟩)
    (c6 : PySem.W.codeIn K cd6 "_law_leaf" = true) (k6 : PySem.W.keepIn K (.ref f6) = true)
    (a7 : PySem.W.nsIn K mainGlobals "_law_record" = some (some (.ref f7)))
    (l7 : K.lookup f7 = some ⟨oc7, od7, .func (PySem.W.fnOf "_law_record" "_law_record" (defArgs s_law_record) (defBody s_law_record) (defScope s_law_record) .none kV7 dc7 pm7 an7 cd7 ct7), sl7⟩)
    (c7 : PySem.W.codeIn K cd7 "_law_record" = true) (k7 : PySem.W.keepIn K (.ref f7) = true)
    (a8 : PySem.W.findIn K (.ref C_Disk) "write" = some (some (.ref f8))) (i8 : PySem.W.isFn K (.ref f8) = true)
    (l8 : K.lookup f8 = some ⟨oc8, od8, .func (PySem.W.fnOf "write" "Disk.write" (defArgs s_Disk_write) (defBody s_Disk_write) (defScope s_Disk_write) .none kV8 dc8 pm8 an8 cd8 ct8), sl8⟩)
    (c8 : PySem.W.codeIn K cd8 "Disk.write" = true) (k8 : PySem.W.keepIn K (.ref f8) = true)
    (a9 : PySem.W.nsIn K mainGlobals "_law_changed" = some (some (.ref f9)))
    (l9 : K.lookup f9 = some ⟨oc9, od9, .func (PySem.W.fnOf "_law_changed" "_law_changed" (defArgs s_law_changed) (defBody s_law_changed) (defScope s_law_changed) .none kV9 dc9 pm9 an9 cd9 ct9), sl9⟩)
    (c9 : PySem.W.codeIn K cd9 "_law_changed" = true) (k9 : PySem.W.keepIn K (.ref f9) = true)
    (a10 : PySem.W.nsIn K mainGlobals "_law_lay" = some (some (.ref f10)))
    (l10 : K.lookup f10 = some ⟨oc10, od10, .func (PySem.W.fnOf "_law_lay" "_law_lay" (defArgs s_law_lay) (defBody s_law_lay) (defScope s_law_lay) .none kV10 dc10 pm10 an10 cd10 ct10), sl10⟩)
    (c10 : PySem.W.codeIn K cd10 "_law_lay" = true) (k10 : PySem.W.keepIn K (.ref f10) = true)
    (a11 : PySem.W.nsIn K mainGlobals "_law_fill" = some (some (.ref f11)))
    (l11 : K.lookup f11 = some ⟨oc11, od11, .func (PySem.W.fnOf "_law_fill" "_law_fill" (defArgs s_law_fill) (defBody s_law_fill) (defScope s_law_fill) .none kV11 dc11 pm11 an11 cd11 ct11), sl11⟩)
    (c11 : PySem.W.codeIn K cd11 "_law_fill" = true) (k11 : PySem.W.keepIn K (.ref f11) = true)
    (a12 : PySem.W.findIn K (.ref C_Disk) "empty_cache" = some (some (.ref f12))) (i12 : PySem.W.isFn K (.ref f12) = true)
    (l12 : K.lookup f12 = some ⟨oc12, od12, .func (PySem.W.fnOf "empty_cache" "Disk.empty_cache" (defArgs s_Disk_empty_cache) (defBody s_Disk_empty_cache) (defScope s_Disk_empty_cache) .none kV12 dc12 pm12 an12 cd12 ct12), sl12⟩)
    (c12 : PySem.W.codeIn K cd12 "Disk.empty_cache" = true) (k12 : PySem.W.keepIn K (.ref f12) = true)
    (a13 : PySem.W.findIn K (.ref C_Disk) "sync" = some (some (.ref f13))) (i13 : PySem.W.isFn K (.ref f13) = true)
    (l13 : K.lookup f13 = some ⟨oc13, od13, .func (PySem.W.fnOf "sync" "Disk.sync" (defArgs s_Disk_sync) (defBody s_Disk_sync) (defScope s_Disk_sync) .none kV13 dc13 pm13 an13 cd13 ct13), sl13⟩)
    (c13 : PySem.W.codeIn K cd13 "Disk.sync" = true) (k13 : PySem.W.keepIn K (.ref f13) = true)
    (a14 : PySem.W.findIn K (.ref C_Disk) "look" = some (some (.ref f14))) (i14 : PySem.W.isFn K (.ref f14) = true)
    (l14 : K.lookup f14 = some ⟨oc14, od14, .func (PySem.W.fnOf "look" "Disk.look" (defArgs s_Disk_look) (defBody s_Disk_look) (defScope s_Disk_look) .none kV14 dc14 pm14 an14 cd14 ct14), sl14⟩)
    (c14 : PySem.W.codeIn K cd14 "Disk.look" = true) (k14 : PySem.W.keepIn K (.ref f14) = true)
    (a15 : PySem.W.nsIn K mainGlobals "_law_parse" = some (some (.ref f15)))
    (l15 : K.lookup f15 = some ⟨oc15, od15, .func (PySem.W.fnOf "_law_parse" "_law_parse" (defArgs s_law_parse) (defBody s_law_parse) (defScope s_law_parse) .none kV15 dc15 pm15 an15 cd15 ct15), sl15⟩)
    (c15 : PySem.W.codeIn K cd15 "_law_parse" = true) (k15 : PySem.W.keepIn K (.ref f15) = true)
    (a16 : PySem.W.nsIn K mainGlobals "_law_rebuilt" = some (some (.ref f16)))
    (l16 : K.lookup f16 = some ⟨oc16, od16, .func (PySem.W.fnOf "_law_rebuilt" "_law_rebuilt" (defArgs s_law_rebuilt) (defBody s_law_rebuilt) (defScope s_law_rebuilt) .none kV16 dc16 pm16 an16 cd16 ct16), sl16⟩)
    (c16 : PySem.W.codeIn K cd16 "_law_rebuilt" = true) (k16 : PySem.W.keepIn K (.ref f16) = true)
    (a17 : PySem.W.nsIn K mainGlobals "_law_part" = some (some (.ref f17)))
    (l17 : K.lookup f17 = some ⟨oc17, od17, .func (PySem.W.fnOf "_law_part" "_law_part" (defArgs s_law_part) (defBody s_law_part) (defScope s_law_part) .none kV17 dc17 pm17 an17 cd17 ct17), sl17⟩)
    (c17 : PySem.W.codeIn K cd17 "_law_part" = true) (k17 : PySem.W.keepIn K (.ref f17) = true)
    (a18 : PySem.W.nsIn K mainGlobals "_law_depth" = some (some (.ref f18)))
    (l18 : K.lookup f18 = some ⟨oc18, od18, .func (PySem.W.fnOf "_law_depth" "_law_depth" (defArgs s_law_depth) (defBody s_law_depth) (defScope s_law_depth) .none kV18 dc18 pm18 an18 cd18 ct18), sl18⟩)
    (c18 : PySem.W.codeIn K cd18 "_law_depth" = true) (k18 : PySem.W.keepIn K (.ref f18) = true)
    (a19 : PySem.W.nsIn K mainGlobals "_law_stands" = some (some (.ref f19)))
    (l19 : K.lookup f19 = some ⟨oc19, od19, .func (PySem.W.fnOf "_law_stands" "_law_stands" (defArgs s_law_stands) (defBody s_law_stands) (defScope s_law_stands) .none kV19 dc19 pm19 an19 cd19 ct19), sl19⟩)
    (c19 : PySem.W.codeIn K cd19 "_law_stands" = true) (k19 : PySem.W.keepIn K (.ref f19) = true)
    (a20 : PySem.W.nsIn K mainGlobals "_law_read" = some (some (.ref f20)))
    (l20 : K.lookup f20 = some ⟨oc20, od20, .func (PySem.W.fnOf "_law_read" "_law_read" (defArgs s_law_read) (defBody s_law_read) (defScope s_law_read) .none kV20 dc20 pm20 an20 cd20 ct20), sl20⟩)
    (c20 : PySem.W.codeIn K cd20 "_law_read" = true) (k20 : PySem.W.keepIn K (.ref f20) = true)
    (a21 : PySem.W.nsIn K mainGlobals "_law_generation" = some (some (.ref f21)))
    (l21 : K.lookup f21 = some ⟨oc21, od21, .func (PySem.W.fnOf "_law_generation" "_law_generation" (defArgs s_law_generation) (defBody s_law_generation) (defScope s_law_generation) .none kV21 dc21 pm21 an21 cd21 ct21), sl21⟩)
    (c21 : PySem.W.codeIn K cd21 "_law_generation" = true) (k21 : PySem.W.keepIn K (.ref f21) = true)
    (a22 : PySem.W.nsIn K mainGlobals "blocks_at" = some (some (.ref f22)))
    (l22 : K.lookup f22 = some ⟨oc22, od22, .func (PySem.W.fnOf "blocks_at" "blocks_at" (defArgs s_blocks_at) (defBody s_blocks_at) (defScope s_blocks_at) .none kV22 dc22 pm22 an22 cd22 ct22), sl22⟩)
    (c22 : PySem.W.codeIn K cd22 "blocks_at" = true) (k22 : PySem.W.keepIn K (.ref f22) = true)
    (a23 : PySem.W.nsIn K mainGlobals "cell_at" = some (some (.ref f23)))
    (l23 : K.lookup f23 = some ⟨oc23, od23, .func (PySem.W.fnOf "cell_at" "cell_at" (defArgs s_cell_at) (defBody s_cell_at) (defScope s_cell_at) .none kV23 dc23 pm23 an23 cd23 ct23), sl23⟩)
    (c23 : PySem.W.codeIn K cd23 "cell_at" = true) (k23 : PySem.W.keepIn K (.ref f23) = true)
    (a24 : PySem.W.nsIn K mainGlobals "tuple_at" = some (some (.ref f24)))
    (l24 : K.lookup f24 = some ⟨oc24, od24, .func (PySem.W.fnOf "tuple_at" "tuple_at" (defArgs s_tuple_at) (defBody s_tuple_at) (defScope s_tuple_at) .none kV24 dc24 pm24 an24 cd24 ct24), sl24⟩)
    (c24 : PySem.W.codeIn K cd24 "tuple_at" = true) (k24 : PySem.W.keepIn K (.ref f24) = true)
    (a25 : PySem.W.nsIn K mainGlobals "word_at" = some (some (.ref f25)))
    (l25 : K.lookup f25 = some ⟨oc25, od25, .func (PySem.W.fnOf "word_at" "word_at" (defArgs s_word_at) (defBody s_word_at) (defScope s_word_at) .none kV25 dc25 pm25 an25 cd25 ct25), sl25⟩)
    (c25 : PySem.W.codeIn K cd25 "word_at" = true) (k25 : PySem.W.keepIn K (.ref f25) = true)
    (a26 : PySem.W.nsIn K mainGlobals "record_at" = some (some (.ref f26)))
    (l26 : K.lookup f26 = some ⟨oc26, od26, .func (PySem.W.fnOf "record_at" "record_at" (defArgs s_record_at) (defBody s_record_at) (defScope s_record_at) .none kV26 dc26 pm26 an26 cd26 ct26), sl26⟩)
    (c26 : PySem.W.codeIn K cd26 "record_at" = true) (k26 : PySem.W.keepIn K (.ref f26) = true)
    (a27 : PySem.W.nsIn K mainGlobals "is_plain_integer" = some (some (.ref f27)))
    (l27 : K.lookup f27 = some ⟨oc27, od27, .func (PySem.W.fnOf "is_plain_integer" "is_plain_integer" (defArgs s_is_plain_integer) (defBody s_is_plain_integer) (defScope s_is_plain_integer) .none kV27 dc27 pm27 an27 cd27 ct27), sl27⟩)
    (c27 : PySem.W.codeIn K cd27 "is_plain_integer" = true) (k27 : PySem.W.keepIn K (.ref f27) = true)
    (a28 : PySem.W.nsIn K mainGlobals "rebuild" = some (some (.ref f28)))
    (l28 : K.lookup f28 = some ⟨oc28, od28, .func (PySem.W.fnOf "rebuild" "rebuild" (defArgs s_rebuild) (defBody s_rebuild) (defScope s_rebuild) .none kV28 dc28 pm28 an28 cd28 ct28), sl28⟩)
    (c28 : PySem.W.codeIn K cd28 "rebuild" = true) (k28 : PySem.W.keepIn K (.ref f28) = true)
    (a29 : PySem.W.nsIn K mainGlobals "record_of" = some (some (.ref f29)))
    (l29 : K.lookup f29 = some ⟨oc29, od29, .func (PySem.W.fnOf "record_of" "record_of" (defArgs s_record_of) (defBody s_record_of) (defScope s_record_of) .none kV29 dc29 pm29 an29 cd29 ct29), sl29⟩)
    (c29 : PySem.W.codeIn K cd29 "record_of" = true) (k29 : PySem.W.keepIn K (.ref f29) = true)
    (a30 : PySem.W.findIn K (.ref C_Journal) "read" = some (some (.ref f30))) (i30 : PySem.W.isFn K (.ref f30) = true)
    (l30 : K.lookup f30 = some ⟨oc30, od30, .func (PySem.W.fnOf "read" "Journal.read" (defArgs s_Journal_read) (defBody s_Journal_read) (defScope s_Journal_read) .none kV30 dc30 pm30 an30 cd30 ct30), sl30⟩)
    (c30 : PySem.W.codeIn K cd30 "Journal.read" = true) (k30 : PySem.W.keepIn K (.ref f30) = true)
    (a31 : PySem.W.findIn K (.ref C_Disk) "readable" = some (some (.ref f31))) (i31 : PySem.W.isFn K (.ref f31) = true)
    (l31 : K.lookup f31 = some ⟨oc31, od31, .func (PySem.W.fnOf "readable" "Disk.readable" (defArgs s_Disk_readable) (defBody s_Disk_readable) (defScope s_Disk_readable) .none kV31 dc31 pm31 an31 cd31 ct31), sl31⟩)
    (c31 : PySem.W.codeIn K cd31 "Disk.readable" = true) (k31 : PySem.W.keepIn K (.ref f31) = true)
    (a32 : PySem.W.findIn K (.ref C_Journal) "__init__" = some (some (.ref f32))) (i32 : PySem.W.isFn K (.ref f32) = true)
    (l32 : K.lookup f32 = some ⟨oc32, od32, .func (PySem.W.fnOf "__init__" "Journal.__init__" (defArgs s_Journal___init__) (defBody s_Journal___init__) (defScope s_Journal___init__) .none kV32 dc32 pm32 an32 cd32 ct32), sl32⟩)
    (c32 : PySem.W.codeIn K cd32 "Journal.__init__" = true) (k32 : PySem.W.keepIn K (.ref f32) = true)
    (a33 : PySem.W.nsIn K mainGlobals "plain_cells" = some (some (.ref f33)))
    (l33 : K.lookup f33 = some ⟨oc33, od33, .func (PySem.W.fnOf "plain_cells" "plain_cells" (defArgs s_plain_cells) (defBody s_plain_cells) (defScope s_plain_cells) .none kV33 dc33 pm33 an33 cd33 ct33), sl33⟩)
    (c33 : PySem.W.codeIn K cd33 "plain_cells" = true) (k33 : PySem.W.keepIn K (.ref f33) = true)
    (a34 : PySem.W.nsIn K mainGlobals "nested_cells" = some (some (.ref f34)))
    (l34 : K.lookup f34 = some ⟨oc34, od34, .func (PySem.W.fnOf "nested_cells" "nested_cells" (defArgs s_nested_cells) (defBody s_nested_cells) (defScope s_nested_cells) .none kV34 dc34 pm34 an34 cd34 ct34), sl34⟩)
    (c34 : PySem.W.codeIn K cd34 "nested_cells" = true) (k34 : PySem.W.keepIn K (.ref f34) = true)
    (a35 : PySem.W.nsIn K mainGlobals "flatten" = some (some (.ref f35)))
    (l35 : K.lookup f35 = some ⟨oc35, od35, .func (PySem.W.fnOf "flatten" "flatten" (defArgs s_flatten) (defBody s_flatten) (defScope s_flatten) .none kV35 dc35 pm35 an35 cd35 ct35), sl35⟩)
    (c35 : PySem.W.codeIn K cd35 "flatten" = true) (k35 : PySem.W.keepIn K (.ref f35) = true)
    (a36 : PySem.W.nsIn K mainGlobals "blocks_of" = some (some (.ref f36)))
    (l36 : K.lookup f36 = some ⟨oc36, od36, .func (PySem.W.fnOf "blocks_of" "blocks_of" (defArgs s_blocks_of) (defBody s_blocks_of) (defScope s_blocks_of) .none kV36 dc36 pm36 an36 cd36 ct36), sl36⟩)
    (c36 : PySem.W.codeIn K cd36 "blocks_of" = true) (k36 : PySem.W.keepIn K (.ref f36) = true)
    (a37 : PySem.W.findIn K (.ref C_Journal) "enter" = some (some (.ref f37))) (i37 : PySem.W.isFn K (.ref f37) = true)
    (l37 : K.lookup f37 = some ⟨oc37, od37, .func (PySem.W.fnOf "enter" "Journal.enter" (defArgs s_Journal_enter) (defBody s_Journal_enter) (defScope s_Journal_enter) .none (.ref dK37) dc37 pm37 an37 cd37 ct37), sl37⟩)
    (c37 : PySem.W.codeIn K cd37 "Journal.enter" = true) (k37 : PySem.W.keepIn K (.ref f37) = true)
    (hK37 : PySem.W.nsIn K dK37 "sync" = some (some (Value.bool false)))
    (a38 : PySem.W.nsIn K mainGlobals "_law_all_equal" = some (some (.ref f38)))
    (l38 : K.lookup f38 = some ⟨oc38, od38, .func (PySem.W.fnOf "_law_all_equal" "_law_all_equal" (defArgs s_law_all_equal) (defBody s_law_all_equal) (defScope s_law_all_equal) .none kV38 dc38 pm38 an38 cd38 ct38), sl38⟩)
    (c38 : PySem.W.codeIn K cd38 "_law_all_equal" = true) (k38 : PySem.W.keepIn K (.ref f38) = true)
    (a39 : PySem.W.nsIn K mainGlobals "_law_equal" = some (some (.ref f39)))
    (l39 : K.lookup f39 = some ⟨oc39, od39, .func (PySem.W.fnOf "_law_equal" "_law_equal" (defArgs s_law_equal) (defBody s_law_equal) (defScope s_law_equal) .none kV39 dc39 pm39 an39 cd39 ct39), sl39⟩)
    (c39 : PySem.W.codeIn K cd39 "_law_equal" = true) (k39 : PySem.W.keepIn K (.ref f39) = true)
    (a40 : PySem.W.nsIn K mainGlobals "_law_numbers" = some (some (.ref f40)))
    (l40 : K.lookup f40 = some ⟨oc40, od40, .func (PySem.W.fnOf "_law_numbers" "_law_numbers" (defArgs s_law_numbers) (defBody s_law_numbers) (defScope s_law_numbers) .none kV40 dc40 pm40 an40 cd40 ct40), sl40⟩)
    (c40 : PySem.W.codeIn K cd40 "_law_numbers" = true) (k40 : PySem.W.keepIn K (.ref f40) = true)
    (a41 : PySem.W.findIn K (.ref C_Disk) "crash" = some (some (.ref f41))) (i41 : PySem.W.isFn K (.ref f41) = true)
    (l41 : K.lookup f41 = some ⟨oc41, od41, .func (PySem.W.fnOf "crash" "Disk.crash" (defArgs s_Disk_crash) (defBody s_Disk_crash) (defScope s_Disk_crash) .none kV41 dc41 pm41 an41 cd41 ct41), sl41⟩)
    (c41 : PySem.W.codeIn K cd41 "Disk.crash" = true) (k41 : PySem.W.keepIn K (.ref f41) = true)
    (a42 : PySem.W.findIn K (.ref C_Disk) "waiting" = some (some (.ref p42))) (g42 : PySem.W.specialIn K (.ref p42) "__get__" = some (some (.builtin "property.__get__"))) (t42p : PySem.W.takesIn K (.ref p42) = some true) (r42 : PySem.W.recIn K p42 "property" = some (.ref f42 :: re42))
    (l42 : K.lookup f42 = some ⟨oc42, od42, .func (PySem.W.fnOf "waiting" "Disk.waiting" (defArgs s_Disk_waiting) (defBody s_Disk_waiting) (defScope s_Disk_waiting) .none kV42 dc42 pm42 an42 cd42 ct42), sl42⟩)
    (c42 : PySem.W.codeIn K cd42 "Disk.waiting" = true) (k42 : PySem.W.keepIn K (.ref f42) = true)
    (a43 : PySem.W.nsIn K mainGlobals "law" = some (some (.ref f43)))
    (l43 : K.lookup f43 = some ⟨oc43, od43, .func (PySem.W.fnOf "law" "law" (defArgs s_law) (defBody s_law) (defScope s_law) .none kV43 dc43 pm43 an43 cd43 ct43), sl43⟩)
    (c43 : PySem.W.codeIn K cd43 "law" = true) (k43 : PySem.W.keepIn K (.ref f43) = true)
    (z_len : PySem.W.nsIn K mainGlobals "len" = some none)
    (z_isinstance : PySem.W.nsIn K mainGlobals "isinstance" = some none)
    (z_str : PySem.W.nsIn K mainGlobals "str" = some none)
    (z_int : PySem.W.nsIn K mainGlobals "int" = some none)
    (z_bool : PySem.W.nsIn K mainGlobals "bool" = some none)
    (z_tuple : PySem.W.nsIn K mainGlobals "tuple" = some none)
    (z_range : PySem.W.nsIn K mainGlobals "range" = some none)
    (z_max : PySem.W.nsIn K mainGlobals "max" = some none)
    (z_list : PySem.W.nsIn K mainGlobals "list" = some none)
    (z_sorted : PySem.W.nsIn K mainGlobals "sorted" = some none)
    (z_set : PySem.W.nsIn K mainGlobals "set" = some none)
    (z_zip : PySem.W.nsIn K mainGlobals "zip" = some none)
    (aX_BadRecord : PySem.W.nsIn K mainGlobals "BadRecord" = some (some (.ref A_BadRecord)))
    (xP_BadRecord : PySem.W.excIn K A_BadRecord [.type "ValueError", .type "Exception", .type "BaseException", .type "object"] "ValueError.__new__" = true)
    (kP_BadRecord : PySem.W.keepIn K (.ref A_BadRecord) = true)
    (bP_BadRecord : PySem.W.subIn K (.ref A_BadRecord) (.type "BaseException") = some true)
    (tP_BadRecord : PySem.W.typeIn K (.ref A_BadRecord) = some (.type "type"))
    (hD_BadRecord : PySem.W.hasDictIn K A_BadRecord = true)
    (sP_BadRecord : PySem.W.subIn K (.ref A_BadRecord) (.ref A_BadRecord) = some true)
    (hg_BadRecord : PySem.W.findIn K (.ref A_BadRecord) "__getattribute__" = some (some (.builtin "BaseException.__getattribute__")))
    (hk_BadRecord : PySem.W.findIn K (.ref A_BadRecord) "__getattr__" = some none)
    (ha_BadRecord : PySem.W.findIn K (.ref A_BadRecord) "__class__" = some (some (.builtin "object.__class__")))
    (hn_BadRecord : PySem.W.specialIn K (.builtin "object.__class__") "__get__" = some (some (.builtin "getset_descriptor.__get__")))
    (ht_BadRecord : PySem.W.takesIn K (.builtin "object.__class__") = some true)
    (hm_BadRecord : PySem.W.mroIn K A_BadRecord (.type "object") = some true)
    (q_WORDS : PySem.W.nsIn K mainGlobals "WORDS" = some (some (.ref e_WORDS)))
    (w_WORDS : K.lookup e_WORDS = some ⟨.type "tuple", none, .seq #[Value.str "decided" t1, Value.str "read" t2, Value.str "away" t3, Value.str "busy" t4, Value.str "rows" t5, Value.str "prepare" t6, Value.str "prepared" t7, Value.str "stale" t8, Value.str "decide" t9, Value.str "missing" t10, Value.str "drop" t11, Value.str "finish" t12, Value.str "split" t13, Value.str "none" t14, Value.str "unknown" t15, Value.str "next" t16, Value.str "time" t17, Value.str "counter" t18, Value.str "table" t19, Value.str "members" t20, Value.str "follower" t21, Value.str "candidate" t22, Value.str "leader" t23, Value.str "ask" t24, Value.str "vote" t25, Value.str "copy" t26, Value.str "base" t27, Value.str "got" t28, Value.str "make" t29, Value.str "term" t30, Value.str "entry" t31] en_WORDS, es_WORDS⟩)
    (q_TUPLE : PySem.W.nsIn K mainGlobals "TUPLE" = some (some (.int 5 t32)))
    (q_WORD : PySem.W.nsIn K mainGlobals "WORD" = some (some (.int 4 t33)))
    (q_TRUE : PySem.W.nsIn K mainGlobals "TRUE" = some (some (.int 3 t34)))
    (q_FALSE : PySem.W.nsIn K mainGlobals "FALSE" = some (some (.int 2 t35)))
    (q_NONE : PySem.W.nsIn K mainGlobals "NONE" = some (some (.int 1 t36)))
    (q_INTEGER : PySem.W.nsIn K mainGlobals "INTEGER" = some (some (.int 0 t37)))
    (q_DEEPEST : PySem.W.nsIn K mainGlobals "DEEPEST" = some (some (.int 30 t38)))
    (q_CELLS : PySem.W.nsIn K mainGlobals "CELLS" = some (some (.int 6 t39)))
    (q_PERFORMED : PySem.W.nsIn K mainGlobals "PERFORMED" = some (some (.int 1 t40)))
    (q_TORN : PySem.W.nsIn K mainGlobals "TORN" = some (some (.int 2 t41))) :
    ∃ fd : FuncData, (∀ (s : Shared) (v : Value), BindsTo s fd ⟨[v], []⟩ [("script", v)]) ∧ ∀ base : Heap, K.In base → base.Ns mainGlobals mg → FnOk l.prog w K mg base CX0 74 fa fd ["script"] (sp_law K) := by
  have e := hfa.symm.trans (PySem.W.mg_of X G a43)
  cases e
  have F0 := fun_mk (st := s_Disk_wipe) l0 c0 k0
  have B0 := F0.binds (ps := ["self"]) fun _ _ _ _ _ _ us hl => match us, hl with | [_], _ => rfl
  have D_Disk_wipe : Dm K C_Disk "wipe" "Disk.wipe" s_Disk_wipe ["self"] f0 _ := ⟨F0, ⟨a0, i0, k0⟩, B0⟩
  have F1 := fun_mk (st := s_Disk___init__) l1 c1 k1
  have B1 := F1.binds (ps := ["self"]) fun _ _ _ _ _ _ us hl => match us, hl with | [_], _ => rfl
  have D_Disk___init__ : Di K C_Disk "Disk.__init__" s_Disk___init__ ["self"] f1 _ := ⟨F1, ⟨mkC_Disk, a1, i1, kcC_Disk⟩, B1⟩
  have F2 := fun_mk (st := s_law_cells) l2 c2 k2
  have B2 := F2.binds (ps := ["record"]) fun _ _ _ _ _ _ us hl => match us, hl with | [_], _ => rfl
  have D_law_cells : Dn K mg "_law_cells" s_law_cells ["record"] f2 _ := ⟨F2, PySem.W.mg_of X G a2, k2, B2⟩
  have F3 := fun_mk (st := s_law_mixed) l3 c3 k3
  have B3 := F3.binds (ps := ["number", "k"]) fun _ _ _ _ _ _ us hl => match us, hl with | [_, _], _ => rfl
  have D_law_mixed : Dn K mg "_law_mixed" s_law_mixed ["number", "k"] f3 _ := ⟨F3, PySem.W.mg_of X G a3, k3, B3⟩
  have F4 := fun_mk (st := s_law_draw) l4 c4 k4
  have B4 := F4.binds (ps := ["draws"]) fun _ _ _ _ _ _ us hl => match us, hl with | [_], _ => rfl
  have D_law_draw : Dn K mg "_law_draw" s_law_draw ["draws"] f4 _ := ⟨F4, PySem.W.mg_of X G a4, k4, B4⟩
  have F5 := fun_mk (st := s_law_words) l5 c5 k5
  have B5 := F5.binds (ps := ([] : List Str)) fun _ _ _ _ _ _ us hl => match us, hl with | [], _ => rfl
  have D_law_words : Dn K mg "_law_words" s_law_words ([] : List Str) f5 _ := ⟨F5, PySem.W.mg_of X G a5, k5, B5⟩
  have F6 := fun_mk (st := s_law_leaf) l6 c6 k6
  have B6 := F6.binds (ps := ["draws"]) fun _ _ _ _ _ _ us hl => match us, hl with | [_], _ => rfl
  have D_law_leaf : Dn K mg "_law_leaf" s_law_leaf ["draws"] f6 _ := ⟨F6, PySem.W.mg_of X G a6, k6, B6⟩
  have F7 := fun_mk (st := s_law_record) l7 c7 k7
  have B7 := F7.binds (ps := ["draws", "depth"]) fun _ _ _ _ _ _ us hl => match us, hl with | [_, _], _ => rfl
  have D_law_record : Dn K mg "_law_record" s_law_record ["draws", "depth"] f7 _ := ⟨F7, PySem.W.mg_of X G a7, k7, B7⟩
  have F8 := fun_mk (st := s_Disk_write) l8 c8 k8
  have B8 := F8.binds (ps := ["self", "position", "block"]) fun _ _ _ _ _ _ us hl => match us, hl with | [_, _, _], _ => rfl
  have D_Disk_write : Dm K C_Disk "write" "Disk.write" s_Disk_write ["self", "position", "block"] f8 _ := ⟨F8, ⟨a8, i8, k8⟩, B8⟩
  have F9 := fun_mk (st := s_law_changed) l9 c9 k9
  have B9 := F9.binds (ps := ["draws", "block"]) fun _ _ _ _ _ _ us hl => match us, hl with | [_, _], _ => rfl
  have D_law_changed : Dn K mg "_law_changed" s_law_changed ["draws", "block"] f9 _ := ⟨F9, PySem.W.mg_of X G a9, k9, B9⟩
  have F10 := fun_mk (st := s_law_lay) l10 c10 k10
  have B10 := F10.binds (ps := ["draws", "disk", "position", "number", "generation"]) fun _ _ _ _ _ _ us hl => match us, hl with | [_, _, _, _, _], _ => rfl
  have D_law_lay : Dn K mg "_law_lay" s_law_lay ["draws", "disk", "position", "number", "generation"] f10 _ := ⟨F10, PySem.W.mg_of X G a10, k10, B10⟩
  have F11 := fun_mk (st := s_law_fill) l11 c11 k11
  have B11 := F11.binds (ps := ["draws", "disk"]) fun _ _ _ _ _ _ us hl => match us, hl with | [_, _], _ => rfl
  have D_law_fill : Dn K mg "_law_fill" s_law_fill ["draws", "disk"] f11 _ := ⟨F11, PySem.W.mg_of X G a11, k11, B11⟩
  have F12 := fun_mk (st := s_Disk_empty_cache) l12 c12 k12
  have B12 := F12.binds (ps := ["self"]) fun _ _ _ _ _ _ us hl => match us, hl with | [_], _ => rfl
  have D_Disk_empty_cache : Dm K C_Disk "empty_cache" "Disk.empty_cache" s_Disk_empty_cache ["self"] f12 _ := ⟨F12, ⟨a12, i12, k12⟩, B12⟩
  have F13 := fun_mk (st := s_Disk_sync) l13 c13 k13
  have B13 := F13.binds (ps := ["self"]) fun _ _ _ _ _ _ us hl => match us, hl with | [_], _ => rfl
  have D_Disk_sync : Dm K C_Disk "sync" "Disk.sync" s_Disk_sync ["self"] f13 _ := ⟨F13, ⟨a13, i13, k13⟩, B13⟩
  have F14 := fun_mk (st := s_Disk_look) l14 c14 k14
  have B14 := F14.binds (ps := ["self", "position"]) fun _ _ _ _ _ _ us hl => match us, hl with | [_, _], _ => rfl
  have D_Disk_look : Dm K C_Disk "look" "Disk.look" s_Disk_look ["self", "position"] f14 _ := ⟨F14, ⟨a14, i14, k14⟩, B14⟩
  have F15 := fun_mk (st := s_law_parse) l15 c15 k15
  have B15 := F15.binds (ps := ["cells", "at", "depth"]) fun _ _ _ _ _ _ us hl => match us, hl with | [_, _, _], _ => rfl
  have D_law_parse : Dn K mg "_law_parse" s_law_parse ["cells", "at", "depth"] f15 _ := ⟨F15, PySem.W.mg_of X G a15, k15, B15⟩
  have F16 := fun_mk (st := s_law_rebuilt) l16 c16 k16
  have B16 := F16.binds (ps := ["cells"]) fun _ _ _ _ _ _ us hl => match us, hl with | [_], _ => rfl
  have D_law_rebuilt : Dn K mg "_law_rebuilt" s_law_rebuilt ["cells"] f16 _ := ⟨F16, PySem.W.mg_of X G a16, k16, B16⟩
  have F17 := fun_mk (st := s_law_part) l17 c17 k17
  have B17 := F17.binds (ps := ["disk", "position", "first", "k"]) fun _ _ _ _ _ _ us hl => match us, hl with | [_, _, _, _], _ => rfl
  have D_law_part : Dn K mg "_law_part" s_law_part ["disk", "position", "first", "k"] f17 _ := ⟨F17, PySem.W.mg_of X G a17, k17, B17⟩
  have F18 := fun_mk (st := s_law_depth) l18 c18 k18
  have B18 := F18.binds (ps := ["record"]) fun _ _ _ _ _ _ us hl => match us, hl with | [_], _ => rfl
  have D_law_depth : Dn K mg "_law_depth" s_law_depth ["record"] f18 _ := ⟨F18, PySem.W.mg_of X G a18, k18, B18⟩
  have F19 := fun_mk (st := s_law_stands) l19 c19 k19
  have B19 := F19.binds (ps := ["disk", "position", "number", "least"]) fun _ _ _ _ _ _ us hl => match us, hl with | [_, _, _, _], _ => rfl
  have D_law_stands : Dn K mg "_law_stands" s_law_stands ["disk", "position", "number", "least"] f19 _ := ⟨F19, PySem.W.mg_of X G a19, k19, B19⟩
  have F20 := fun_mk (st := s_law_read) l20 c20 k20
  have B20 := F20.binds (ps := ["disk", "size"]) fun _ _ _ _ _ _ us hl => match us, hl with | [_, _], _ => rfl
  have D_law_read : Dn K mg "_law_read" s_law_read ["disk", "size"] f20 _ := ⟨F20, PySem.W.mg_of X G a20, k20, B20⟩
  have F21 := fun_mk (st := s_law_generation) l21 c21 k21
  have B21 := F21.binds (ps := ["disk", "size"]) fun _ _ _ _ _ _ us hl => match us, hl with | [_, _], _ => rfl
  have D_law_generation : Dn K mg "_law_generation" s_law_generation ["disk", "size"] f21 _ := ⟨F21, PySem.W.mg_of X G a21, k21, B21⟩
  have F22 := fun_mk (st := s_blocks_at) l22 c22 k22
  have B22 := F22.binds (ps := ["disk", "place", "number"]) fun _ _ _ _ _ _ us hl => match us, hl with | [_, _, _], _ => rfl
  have D_blocks_at : Dn K mg "blocks_at" s_blocks_at ["disk", "place", "number"] f22 _ := ⟨F22, PySem.W.mg_of X G a22, k22, B22⟩
  have F23 := fun_mk (st := s_cell_at) l23 c23 k23
  have B23 := F23.binds (ps := ["cells", "at"]) fun _ _ _ _ _ _ us hl => match us, hl with | [_, _], _ => rfl
  have D_cell_at : Dn K mg "cell_at" s_cell_at ["cells", "at"] f23 _ := ⟨F23, PySem.W.mg_of X G a23, k23, B23⟩
  have F24 := fun_mk (st := s_tuple_at) l24 c24 k24
  have B24 := F24.binds (ps := ["cells", "at", "room"]) fun _ _ _ _ _ _ us hl => match us, hl with | [_, _, _], _ => rfl
  have D_tuple_at : Dn K mg "tuple_at" s_tuple_at ["cells", "at", "room"] f24 _ := ⟨F24, PySem.W.mg_of X G a24, k24, B24⟩
  have F25 := fun_mk (st := s_word_at) l25 c25 k25
  have B25 := F25.binds (ps := ["cells", "at"]) fun _ _ _ _ _ _ us hl => match us, hl with | [_, _], _ => rfl
  have D_word_at : Dn K mg "word_at" s_word_at ["cells", "at"] f25 _ := ⟨F25, PySem.W.mg_of X G a25, k25, B25⟩
  have F26 := fun_mk (st := s_record_at) l26 c26 k26
  have B26 := F26.binds (ps := ["cells", "at", "room"]) fun _ _ _ _ _ _ us hl => match us, hl with | [_, _, _], _ => rfl
  have D_record_at : Dn K mg "record_at" s_record_at ["cells", "at", "room"] f26 _ := ⟨F26, PySem.W.mg_of X G a26, k26, B26⟩
  have F27 := fun_mk (st := s_is_plain_integer) l27 c27 k27
  have B27 := F27.binds (ps := ["thing"]) fun _ _ _ _ _ _ us hl => match us, hl with | [_], _ => rfl
  have D_is_plain_integer : Dn K mg "is_plain_integer" s_is_plain_integer ["thing"] f27 _ := ⟨F27, PySem.W.mg_of X G a27, k27, B27⟩
  have F28 := fun_mk (st := s_rebuild) l28 c28 k28
  have B28 := F28.binds (ps := ["cells"]) fun _ _ _ _ _ _ us hl => match us, hl with | [_], _ => rfl
  have D_rebuild : Dn K mg "rebuild" s_rebuild ["cells"] f28 _ := ⟨F28, PySem.W.mg_of X G a28, k28, B28⟩
  have F29 := fun_mk (st := s_record_of) l29 c29 k29
  have B29 := F29.binds (ps := ["blocks"]) fun _ _ _ _ _ _ us hl => match us, hl with | [_], _ => rfl
  have D_record_of : Dn K mg "record_of" s_record_of ["blocks"] f29 _ := ⟨F29, PySem.W.mg_of X G a29, k29, B29⟩
  have F30 := fun_mk (st := s_Journal_read) l30 c30 k30
  have B30 := F30.binds (ps := ["self"]) fun _ _ _ _ _ _ us hl => match us, hl with | [_], _ => rfl
  have D_Journal_read : Dm K C_Journal "read" "Journal.read" s_Journal_read ["self"] f30 _ := ⟨F30, ⟨a30, i30, k30⟩, B30⟩
  have F31 := fun_mk (st := s_Disk_readable) l31 c31 k31
  have B31 := F31.binds (ps := ["self"]) fun _ _ _ _ _ _ us hl => match us, hl with | [_], _ => rfl
  have D_Disk_readable : Dm K C_Disk "readable" "Disk.readable" s_Disk_readable ["self"] f31 _ := ⟨F31, ⟨a31, i31, k31⟩, B31⟩
  have F32 := fun_mk (st := s_Journal___init__) l32 c32 k32
  have B32 := F32.binds (ps := ["self", "disk"]) fun _ _ _ _ _ _ us hl => match us, hl with | [_, _], _ => rfl
  have D_Journal___init__ : Di K C_Journal "Journal.__init__" s_Journal___init__ ["self", "disk"] f32 _ := ⟨F32, ⟨mkC_Journal, a32, i32, kcC_Journal⟩, B32⟩
  have F33 := fun_mk (st := s_plain_cells) l33 c33 k33
  have B33 := F33.binds (ps := ["record"]) fun _ _ _ _ _ _ us hl => match us, hl with | [_], _ => rfl
  have D_plain_cells : Dn K mg "plain_cells" s_plain_cells ["record"] f33 _ := ⟨F33, PySem.W.mg_of X G a33, k33, B33⟩
  have F34 := fun_mk (st := s_nested_cells) l34 c34 k34
  have B34 := F34.binds (ps := ["record", "room"]) fun _ _ _ _ _ _ us hl => match us, hl with | [_, _], _ => rfl
  have D_nested_cells : Dn K mg "nested_cells" s_nested_cells ["record", "room"] f34 _ := ⟨F34, PySem.W.mg_of X G a34, k34, B34⟩
  have F35 := fun_mk (st := s_flatten) l35 c35 k35
  have B35 := F35.binds (ps := ["record"]) fun _ _ _ _ _ _ us hl => match us, hl with | [_], _ => rfl
  have D_flatten : Dn K mg "flatten" s_flatten ["record"] f35 _ := ⟨F35, PySem.W.mg_of X G a35, k35, B35⟩
  have F36 := fun_mk (st := s_blocks_of) l36 c36 k36
  have B36 := F36.binds (ps := ["record", "generation", "number"]) fun _ _ _ _ _ _ us hl => match us, hl with | [_, _, _], _ => rfl
  have D_blocks_of : Dn K mg "blocks_of" s_blocks_of ["record", "generation", "number"] f36 _ := ⟨F36, PySem.W.mg_of X G a36, k36, B36⟩
  have D_Journal_enter : Dmk K C_Journal "enter" "Journal.enter" s_Journal_enter ["self", "record", "sync"] 2 "sync" (V.bl false) f37 _ := dmk_mk l37 c37 k37 hK37 rfl ⟨a37, i37, k37⟩ rfl (fun _ _ _ _ _ _ us x h => match us, h with | [_, _], _ => ⟨_, _, _, _, _, _, rfl, rfl, rfl⟩) (fun _ _ _ _ _ _ us x h => match us, h with | [_, _], _ => rfl)
  have F38 := fun_mk (st := s_law_all_equal) l38 c38 k38
  have B38 := F38.binds (ps := ["actual", "due"]) fun _ _ _ _ _ _ us hl => match us, hl with | [_, _], _ => rfl
  have D_law_all_equal : Dn K mg "_law_all_equal" s_law_all_equal ["actual", "due"] f38 _ := ⟨F38, PySem.W.mg_of X G a38, k38, B38⟩
  have F39 := fun_mk (st := s_law_equal) l39 c39 k39
  have B39 := F39.binds (ps := ["actual", "due"]) fun _ _ _ _ _ _ us hl => match us, hl with | [_, _], _ => rfl
  have D_law_equal : Dn K mg "_law_equal" s_law_equal ["actual", "due"] f39 _ := ⟨F39, PySem.W.mg_of X G a39, k39, B39⟩
  have F40 := fun_mk (st := s_law_numbers) l40 c40 k40
  have B40 := F40.binds (ps := ["script"]) fun _ _ _ _ _ _ us hl => match us, hl with | [_], _ => rfl
  have D_law_numbers : Dn K mg "_law_numbers" s_law_numbers ["script"] f40 _ := ⟨F40, PySem.W.mg_of X G a40, k40, B40⟩
  have F41 := fun_mk (st := s_Disk_crash) l41 c41 k41
  have B41 := F41.binds (ps := ["self", "fates"]) fun _ _ _ _ _ _ us hl => match us, hl with | [_, _], _ => rfl
  have D_Disk_crash : Dm K C_Disk "crash" "Disk.crash" s_Disk_crash ["self", "fates"] f41 _ := ⟨F41, ⟨a41, i41, k41⟩, B41⟩
  have F42 := fun_mk (st := s_Disk_waiting) l42 c42 k42
  have B42 := F42.binds (ps := ["self"]) fun _ _ _ _ _ _ us hl => match us, hl with | [_], _ => rfl
  have D_Disk_waiting : Dpr K C_Disk "waiting" "Disk.waiting" s_Disk_waiting ["self"] p42 f42 _ := ⟨F42, ⟨a42, g42, t42p, _, r42⟩, B42⟩
  have F43 := fun_mk (st := s_law) l43 c43 k43
  have B43 := F43.binds (ps := ["script"]) fun _ _ _ _ _ _ us hl => match us, hl with | [_], _ => rfl
  have D_law : Dn K mg "law" s_law ["script"] fa _ := ⟨F43, PySem.W.mg_of X G a43, k43, B43⟩
  have T_Disk : Tx_Disk K mg C_Disk := ⟨⟨pgC_Disk, hdC_Disk, poC_Disk, saC_Disk⟩, PySem.W.mg_of X G aC_Disk, nfC_blocks_Disk, nfC_cache_Disk, nfC_fresh_Disk, nfC_reach_Disk⟩
  have T_Journal : Tx_Journal K mg C_Journal := ⟨⟨pgC_Journal, hdC_Journal, poC_Journal, saC_Journal⟩, PySem.W.mg_of X G aC_Journal, nfC_disk_Journal, nfC_records_Journal, nfC_generation_Journal, nfC_place_Journal⟩
  have b_len := PySem.W.mg_none_of X G z_len
  have b_isinstance := PySem.W.mg_none_of X G z_isinstance
  have b_str := PySem.W.mg_none_of X G z_str
  have b_int := PySem.W.mg_none_of X G z_int
  have b_bool := PySem.W.mg_none_of X G z_bool
  have b_tuple := PySem.W.mg_none_of X G z_tuple
  have b_range := PySem.W.mg_none_of X G z_range
  have b_max := PySem.W.mg_none_of X G z_max
  have b_list := PySem.W.mg_none_of X G z_list
  have b_sorted := PySem.W.mg_none_of X G z_sorted
  have b_set := PySem.W.mg_none_of X G z_set
  have b_zip := PySem.W.mg_none_of X G z_zip
  have x_BadRecord : Xc K mg "BadRecord" A_BadRecord := ⟨PySem.W.mg_of X G aX_BadRecord, xP_BadRecord, kP_BadRecord, bP_BadRecord, tP_BadRecord, hD_BadRecord, sP_BadRecord, hg_BadRecord, hk_BadRecord, ha_BadRecord, hn_BadRecord, ht_BadRecord, hm_BadRecord⟩
  have g_WORDS : ∃ u, mg "WORDS" = some u ∧ RelV (.ref e_WORDS) u := ⟨_, PySem.W.mg_of X G q_WORDS, rfl⟩
  have t_WORDS : ∃ o, K.lookup e_WORDS = some o ∧ o.cls = .type "tuple" ∧ o.dict = none := ⟨_, w_WORDS, rfl, rfl⟩
  have k_WORDS : ∀ H, SqT K H e_WORDS [V.str "decided", V.str "read", V.str "away", V.str "busy", V.str "rows", V.str "prepare", V.str "prepared", V.str "stale", V.str "decide", V.str "missing", V.str "drop", V.str "finish", V.str "split", V.str "none", V.str "unknown", V.str "next", V.str "time", V.str "counter", V.str "table", V.str "members", V.str "follower", V.str "candidate", V.str "leader", V.str "ask", V.str "vote", V.str "copy", V.str "base", V.str "got", V.str "make", V.str "term", V.str "entry"] := fun H => .inr ⟨_, _, _, w_WORDS, rfl, rfl, by show 31 ≤ sizeLine; decide, (.cons ⟨_, rfl⟩ (.cons ⟨_, rfl⟩ (.cons ⟨_, rfl⟩ (.cons ⟨_, rfl⟩ (.cons ⟨_, rfl⟩ (.cons ⟨_, rfl⟩ (.cons ⟨_, rfl⟩ (.cons ⟨_, rfl⟩ (.cons ⟨_, rfl⟩ (.cons ⟨_, rfl⟩ (.cons ⟨_, rfl⟩ (.cons ⟨_, rfl⟩ (.cons ⟨_, rfl⟩ (.cons ⟨_, rfl⟩ (.cons ⟨_, rfl⟩ (.cons ⟨_, rfl⟩ (.cons ⟨_, rfl⟩ (.cons ⟨_, rfl⟩ (.cons ⟨_, rfl⟩ (.cons ⟨_, rfl⟩ (.cons ⟨_, rfl⟩ (.cons ⟨_, rfl⟩ (.cons ⟨_, rfl⟩ (.cons ⟨_, rfl⟩ (.cons ⟨_, rfl⟩ (.cons ⟨_, rfl⟩ (.cons ⟨_, rfl⟩ (.cons ⟨_, rfl⟩ (.cons ⟨_, rfl⟩ (.cons ⟨_, rfl⟩ (.cons ⟨_, rfl⟩ .nil)))))))))))))))))))))))))))))))⟩
  have g_TUPLE : ∃ u, mg "TUPLE" = some u ∧ RelV (.int 5) u := ⟨_, PySem.W.mg_of X G q_TUPLE, _, rfl⟩
  have g_WORD : ∃ u, mg "WORD" = some u ∧ RelV (.int 4) u := ⟨_, PySem.W.mg_of X G q_WORD, _, rfl⟩
  have g_TRUE : ∃ u, mg "TRUE" = some u ∧ RelV (.int 3) u := ⟨_, PySem.W.mg_of X G q_TRUE, _, rfl⟩
  have g_FALSE : ∃ u, mg "FALSE" = some u ∧ RelV (.int 2) u := ⟨_, PySem.W.mg_of X G q_FALSE, _, rfl⟩
  have g_NONE : ∃ u, mg "NONE" = some u ∧ RelV (.int 1) u := ⟨_, PySem.W.mg_of X G q_NONE, _, rfl⟩
  have g_INTEGER : ∃ u, mg "INTEGER" = some u ∧ RelV (.int 0) u := ⟨_, PySem.W.mg_of X G q_INTEGER, _, rfl⟩
  have g_DEEPEST : ∃ u, mg "DEEPEST" = some u ∧ RelV (.int 30) u := ⟨_, PySem.W.mg_of X G q_DEEPEST, _, rfl⟩
  have g_CELLS : ∃ u, mg "CELLS" = some u ∧ RelV (.int 6) u := ⟨_, PySem.W.mg_of X G q_CELLS, _, rfl⟩
  have g_PERFORMED : ∃ u, mg "PERFORMED" = some u ∧ RelV (.int 1) u := ⟨_, PySem.W.mg_of X G q_PERFORMED, _, rfl⟩
  have g_TORN : ∃ u, mg "TORN" = some u ∧ RelV (.int 2) u := ⟨_, PySem.W.mg_of X G q_TORN, _, rfl⟩
  refine ⟨PySem.W.fnOf "law" "law" (defArgs s_law) (defBody s_law) (defScope s_law) .none kV43 dc43 pm43 an43 cd43 ct43, fun s v => .of_eq rfl, fun base hb1 hb2 => ?_⟩
  have c_Disk_wipe := ok_Disk_wipe (P := l.prog) (w := w) (base := base) T_Disk D_Disk_wipe
  have c_Disk___init__ := ok_Disk___init__ (P := l.prog) (w := w) (base := base) T_Disk D_Disk___init__ c_Disk_wipe
  have c_law_cells := ok_law_cells (P := l.prog) (w := w) (base := base) D_law_cells b_len b_isinstance b_str b_int b_bool g_WORDS k_WORDS t_WORDS
  have c_law_mixed := ok_law_mixed (P := l.prog) (w := w) (base := base) D_law_mixed
  have c_law_draw := ok_law_draw (P := l.prog) (w := w) (base := base) D_law_draw b_len c_law_mixed
  have c_law_words := ok_law_words (P := l.prog) (w := w) (base := base) D_law_words
  have c_law_leaf := ok_law_leaf (P := l.prog) (w := w) (base := base) D_law_leaf b_len c_law_draw c_law_words
  have c_law_record := ok_law_record (P := l.prog) (w := w) (base := base) D_law_record b_tuple b_range c_law_leaf c_law_draw
  have c_Disk_write := ok_Disk_write (P := l.prog) (w := w) (base := base) T_Disk D_Disk_write b_max
  have c_law_changed := ok_law_changed (P := l.prog) (w := w) (base := base) D_law_changed c_law_draw
  have c_law_lay := ok_law_lay (P := l.prog) (w := w) (base := base) T_Disk D_law_lay b_range b_tuple b_len c_Disk_write c_law_changed c_law_cells c_law_record
  have c_law_fill := ok_law_fill (P := l.prog) (w := w) (base := base) T_Disk D_law_fill b_range c_law_draw c_law_lay
  have c_Disk_empty_cache := ok_Disk_empty_cache (P := l.prog) (w := w) (base := base) T_Disk D_Disk_empty_cache
  have c_Disk_sync := ok_Disk_sync (P := l.prog) (w := w) (base := base) T_Disk D_Disk_sync c_Disk_empty_cache
  have c_Disk_look := ok_Disk_look (P := l.prog) (w := w) (base := base) T_Disk D_Disk_look
  have c_law_parse := ok_law_parse (P := l.prog) (w := w) (base := base) D_law_parse b_tuple b_range b_len g_WORDS k_WORDS
  have c_law_rebuilt := ok_law_rebuilt (P := l.prog) (w := w) (base := base) D_law_rebuilt b_len c_law_parse
  have c_law_part := ok_law_part (P := l.prog) (w := w) (base := base) T_Disk D_law_part b_list c_Disk_look
  have c_law_depth := ok_law_depth (P := l.prog) (w := w) (base := base) D_law_depth b_isinstance b_tuple b_max
  have c_law_stands := ok_law_stands (P := l.prog) (w := w) (base := base) T_Disk D_law_stands b_range c_law_depth c_law_rebuilt c_law_part c_Disk_look
  have c_law_read := ok_law_read (P := l.prog) (w := w) (base := base) T_Disk D_law_read b_range b_len c_law_stands
  have c_law_generation := ok_law_generation (P := l.prog) (w := w) (base := base) T_Disk D_law_generation b_range b_max c_Disk_look
  have c_blocks_at := ok_blocks_at (P := l.prog) (w := w) (base := base) T_Disk D_blocks_at b_len c_Disk_look
  have c_cell_at := ok_cell_at (P := l.prog) (w := w) (base := base) D_cell_at b_len x_BadRecord
  have c_word_at := ok_word_at (P := l.prog) (w := w) (base := base) D_word_at b_len g_WORDS k_WORDS x_BadRecord c_cell_at
  have c_record_at := all_record (P := l.prog) (w := w) (base := base) D_record_at g_TUPLE g_WORD g_TRUE g_FALSE g_NONE g_INTEGER x_BadRecord c_word_at c_cell_at fun n c => aux_tuple (P := l.prog) (w := w) (base := base) D_tuple_at b_tuple b_range b_len x_BadRecord c_cell_at n c
  have c_is_plain_integer := ok_is_plain_integer (P := l.prog) (w := w) (base := base) D_is_plain_integer b_isinstance b_bool b_int
  have c_rebuild := ok_rebuild (P := l.prog) (w := w) (base := base) D_rebuild b_len b_isinstance b_list g_DEEPEST x_BadRecord c_record_at c_is_plain_integer
  have c_record_of := ok_record_of (P := l.prog) (w := w) (base := base) D_record_of c_rebuild
  have c_Journal_read := ok_Journal_read (P := l.prog) (w := w) (base := base) T_Journal T_Disk D_Journal_read b_len x_BadRecord c_blocks_at c_record_of
  have c_Disk_readable := ok_Disk_readable (P := l.prog) (w := w) (base := base) T_Disk D_Disk_readable b_sorted b_set b_list c_Disk_look
  have c_Journal___init__ := ok_Journal___init__ (P := l.prog) (w := w) (base := base) T_Journal T_Disk D_Journal___init__ b_max c_Journal_read c_Disk_readable
  have c_plain_cells := ok_plain_cells (P := l.prog) (w := w) (base := base) D_plain_cells b_isinstance b_str b_int g_WORDS k_WORDS g_WORD g_INTEGER g_TRUE g_FALSE g_NONE t_WORDS x_BadRecord
  have c_nested_cells := ok_nested_cells (P := l.prog) (w := w) (base := base) D_nested_cells b_len b_isinstance b_tuple g_TUPLE x_BadRecord c_plain_cells
  have c_flatten := ok_flatten (P := l.prog) (w := w) (base := base) D_flatten g_DEEPEST c_nested_cells
  have c_blocks_of := ok_blocks_of (P := l.prog) (w := w) (base := base) D_blocks_of b_range b_tuple b_len g_CELLS c_flatten
  have c_Journal_enter := ok_Journal_enter (P := l.prog) (w := w) (base := base) T_Disk T_Journal D_Journal_enter b_len c_Disk_sync c_Disk_write c_blocks_of
  have c_law_equal := fun n => ok_equal (P := l.prog) (w := w) (base := base) D_law_equal D_law_all_equal b_isinstance b_list b_tuple b_bool b_int b_str b_len b_range n
  have c_law_numbers := ok_law_numbers (P := l.prog) (w := w) (base := base) D_law_numbers b_range c_law_mixed
  have c_Disk_crash := ok_Disk_crash (P := l.prog) (w := w) (base := base) T_Disk D_Disk_crash b_zip g_PERFORMED g_TORN c_Disk_empty_cache
  have c_Disk_waiting := ok_Disk_waiting (P := l.prog) (w := w) (base := base) T_Disk D_Disk_waiting b_len
  exact ok_law T_Journal T_Disk D_law b_list b_range (c_law_equal 36) c_Journal___init__ c_Journal_enter c_Disk_look c_law_generation c_law_read c_law_draw c_Disk_crash c_Disk_waiting c_law_lay c_Disk_sync c_law_fill c_Disk___init__ c_law_numbers
theorem walk {l : PySem.W.OpenLaw} {q : Program} {loose : List Str} {XP : (Str → Option Value) → Heap → Prop} {YP : World → Heap → Prop} {d : DefRec} {K : Params → PySem.W.Frag} (hn : l.most = some 63) (hdf : d.params.defaults = [])
    (hY : ∀ (w : World) (h : Heap), YP w h → (K w.params).In h)
    (F : ∀ (w : World) (mg : Str → Option Value) (fa : Addr) (h : Heap), (K w.params).In h → h.Ns mainGlobals mg → mg d.name = some (.ref fa) →
      ∃ fd : FuncData, (∀ (s : Shared) (u : Value), BindsTo s fd ⟨[u], []⟩ [("script", u)]) ∧ ∀ base : Heap, (K w.params).In base → base.Ns mainGlobals mg → FnOk l.prog w (K w.params) mg base CX0 74 fa fd ["script"] (sp_law (K w.params))) :
    PySem.W.WalkO q loose XP YP l.row.toRowW d [] (fun f vs => PySem.call f vs) :=
  L2.walk_of (n := 63) (k := 74) (x := "script") (CX := fun _ => CX0) (sp := fun w => sp_law (K w.params)) hn (by decide) hdf ⟨rfl, by decide, by decide⟩ hY F (fun _ _ a ns hl _ hS => ⟨a, ns, rfl, hS, hl, fun _ => rfl⟩) fun _ _ _ _ _ z => z
end Nz
open PySem PySem.W PyProof.Rows
set_option maxRecDepth 100000 in
set_option maxHeartbeats 0 in
theorem PySem.Challenge.cw_wholecloth_k11_journal_is_read_holds : PySem.Challenge.rw_wholecloth_k11_journal_is_read.Holds := by
  w_on; o_law; k_head; (case hw => w_witness2)
  k_fill
  refine Nz.walk (l := PySem.Challenge.rw_wholecloth_k11_journal_is_read) rfl rfl (fun w h Y => PySem.W.kIn_of Y) ?F
  case F =>
    intro w mg fa h KX G hmg
    refine' Nz.all_mk KX G hmg ?aC_Disk ?pgC_Disk ?hdC_Disk ?poC_Disk ?saC_Disk ?kcC_Disk ?mkC_Disk ?nfC_blocks_Disk ?nfC_cache_Disk ?nfC_fresh_Disk ?nfC_reach_Disk ?aC_Journal ?pgC_Journal ?hdC_Journal ?poC_Journal ?saC_Journal ?kcC_Journal ?mkC_Journal ?nfC_disk_Journal ?nfC_records_Journal ?nfC_generation_Journal ?nfC_place_Journal ?a0 ?i0 ?l0 ?c0 ?k0 ?a1 ?i1 ?l1 ?c1 ?k1 ?a2 ?l2 ?c2 ?k2 ?a3 ?l3 ?c3 ?k3 ?a4 ?l4 ?c4 ?k4 ?a5 ?l5 ?c5 ?k5 ?a6 ?l6 ?c6 ?k6 ?a7 ?l7 ?c7 ?k7 ?a8 ?i8 ?l8 ?c8 ?k8 ?a9 ?l9 ?c9 ?k9 ?a10 ?l10 ?c10 ?k10 ?a11 ?l11 ?c11 ?k11 ?a12 ?i12 ?l12 ?c12 ?k12 ?a13 ?i13 ?l13 ?c13 ?k13 ?a14 ?i14 ?l14 ?c14 ?k14 ?a15 ?l15 ?c15 ?k15 ?a16 ?l16 ?c16 ?k16 ?a17 ?l17 ?c17 ?k17 ?a18 ?l18 ?c18 ?k18 ?a19 ?l19 ?c19 ?k19 ?a20 ?l20 ?c20 ?k20 ?a21 ?l21 ?c21 ?k21 ?a22 ?l22 ?c22 ?k22 ?a23 ?l23 ?c23 ?k23 ?a24 ?l24 ?c24 ?k24 ?a25 ?l25 ?c25 ?k25 ?a26 ?l26 ?c26 ?k26 ?a27 ?l27 ?c27 ?k27 ?a28 ?l28 ?c28 ?k28 ?a29 ?l29 ?c29 ?k29 ?a30 ?i30 ?l30 ?c30 ?k30 ?a31 ?i31 ?l31 ?c31 ?k31 ?a32 ?i32 ?l32 ?c32 ?k32 ?a33 ?l33 ?c33 ?k33 ?a34 ?l34 ?c34 ?k34 ?a35 ?l35 ?c35 ?k35 ?a36 ?l36 ?c36 ?k36 ?a37 ?i37 ?l37 ?c37 ?k37 ?hK37 ?a38 ?l38 ?c38 ?k38 ?a39 ?l39 ?c39 ?k39 ?a40 ?l40 ?c40 ?k40 ?a41 ?i41 ?l41 ?c41 ?k41 ?a42 ?g42 ?t42p ?r42 ?l42 ?c42 ?k42 ?a43 ?l43 ?c43 ?k43 ?z_len ?z_isinstance ?z_str ?z_int ?z_bool ?z_tuple ?z_range ?z_max ?z_list ?z_sorted ?z_set ?z_zip ?aX_BadRecord ?xP_BadRecord ?kP_BadRecord ?bP_BadRecord ?tP_BadRecord ?hD_BadRecord ?sP_BadRecord ?hg_BadRecord ?hk_BadRecord ?ha_BadRecord ?hn_BadRecord ?ht_BadRecord ?hm_BadRecord ?q_WORDS ?w_WORDS ?q_TUPLE ?q_WORD ?q_TRUE ?q_FALSE ?q_NONE ?q_INTEGER ?q_DEEPEST ?q_CELLS ?q_PERFORMED ?q_TORN
    (case aC_Disk => k_is)
    (case pgC_Disk => k_is)
    (case hdC_Disk => k_is)
    (case poC_Disk => k_is)
    (case saC_Disk => k_is)
    (case kcC_Disk => k_is)
    (case mkC_Disk => k_is)
    (case nfC_blocks_Disk => k_is)
    (case nfC_cache_Disk => k_is)
    (case nfC_fresh_Disk => k_is)
    (case nfC_reach_Disk => k_is)
    (case aC_Journal => k_is)
    (case pgC_Journal => k_is)
    (case hdC_Journal => k_is)
    (case poC_Journal => k_is)
    (case saC_Journal => k_is)
    (case kcC_Journal => k_is)
    (case mkC_Journal => k_is)
    (case nfC_disk_Journal => k_is)
    (case nfC_records_Journal => k_is)
    (case nfC_generation_Journal => k_is)
    (case nfC_place_Journal => k_is)
    (case a0 => k_is)
    (case i0 => k_is)
    (case l0 => k_is)
    (case c0 => k_is)
    (case k0 => k_is)
    (case a1 => k_is)
    (case i1 => k_is)
    (case l1 => k_is)
    (case c1 => k_is)
    (case k1 => k_is)
    (case a2 => k_is)
    (case l2 => k_is)
    (case c2 => k_is)
    (case k2 => k_is)
    (case a3 => k_is)
    (case l3 => k_is)
    (case c3 => k_is)
    (case k3 => k_is)
    (case a4 => k_is)
    (case l4 => k_is)
    (case c4 => k_is)
    (case k4 => k_is)
    (case a5 => k_is)
    (case l5 => k_is)
    (case c5 => k_is)
    (case k5 => k_is)
    (case a6 => k_is)
    (case l6 => k_is)
    (case c6 => k_is)
    (case k6 => k_is)
    (case a7 => k_is)
    (case l7 => k_is)
    (case c7 => k_is)
    (case k7 => k_is)
    (case a8 => k_is)
    (case i8 => k_is)
    (case l8 => k_is)
    (case c8 => k_is)
    (case k8 => k_is)
    (case a9 => k_is)
    (case l9 => k_is)
    (case c9 => k_is)
    (case k9 => k_is)
    (case a10 => k_is)
    (case l10 => k_is)
    (case c10 => k_is)
    (case k10 => k_is)
    (case a11 => k_is)
    (case l11 => k_is)
    (case c11 => k_is)
    (case k11 => k_is)
    (case a12 => k_is)
    (case i12 => k_is)
    (case l12 => k_is)
    (case c12 => k_is)
    (case k12 => k_is)
    (case a13 => k_is)
    (case i13 => k_is)
    (case l13 => k_is)
    (case c13 => k_is)
    (case k13 => k_is)
    (case a14 => k_is)
    (case i14 => k_is)
    (case l14 => k_is)
    (case c14 => k_is)
    (case k14 => k_is)
    (case a15 => k_is)
    (case l15 => k_is)
    (case c15 => k_is)
    (case k15 => k_is)
    (case a16 => k_is)
    (case l16 => k_is)
    (case c16 => k_is)
    (case k16 => k_is)
    (case a17 => k_is)
    (case l17 => k_is)
    (case c17 => k_is)
    (case k17 => k_is)
    (case a18 => k_is)
    (case l18 => k_is)
    (case c18 => k_is)
    (case k18 => k_is)
    (case a19 => k_is)
    (case l19 => k_is)
    (case c19 => k_is)
    (case k19 => k_is)
    (case a20 => k_is)
    (case l20 => k_is)
    (case c20 => k_is)
    (case k20 => k_is)
    (case a21 => k_is)
    (case l21 => k_is)
    (case c21 => k_is)
    (case k21 => k_is)
    (case a22 => k_is)
    (case l22 => k_is)
    (case c22 => k_is)
    (case k22 => k_is)
    (case a23 => k_is)
    (case l23 => k_is)
    (case c23 => k_is)
    (case k23 => k_is)
    (case a24 => k_is)
    (case l24 => k_is)
    (case c24 => k_is)
    (case k24 => k_is)
    (case a25 => k_is)
    (case l25 => k_is)
    (case c25 => k_is)
    (case k25 => k_is)
    (case a26 => k_is)
    (case l26 => k_is)
    (case c26 => k_is)
    (case k26 => k_is)
    (case a27 => k_is)
    (case l27 => k_is)
    (case c27 => k_is)
    (case k27 => k_is)
    (case a28 => k_is)
    (case l28 => k_is)
    (case c28 => k_is)
    (case k28 => k_is)
    (case a29 => k_is)
    (case l29 => k_is)
    (case c29 => k_is)
    (case k29 => k_is)
    (case a30 => k_is)
    (case i30 => k_is)
    (case l30 => k_is)
    (case c30 => k_is)
    (case k30 => k_is)
    (case a31 => k_is)
    (case i31 => k_is)
    (case l31 => k_is)
    (case c31 => k_is)
    (case k31 => k_is)
    (case a32 => k_is)
    (case i32 => k_is)
    (case l32 => k_is)
    (case c32 => k_is)
    (case k32 => k_is)
    (case a33 => k_is)
    (case l33 => k_is)
    (case c33 => k_is)
    (case k33 => k_is)
    (case a34 => k_is)
    (case l34 => k_is)
    (case c34 => k_is)
    (case k34 => k_is)
    (case a35 => k_is)
    (case l35 => k_is)
    (case c35 => k_is)
    (case k35 => k_is)
    (case a36 => k_is)
    (case l36 => k_is)
    (case c36 => k_is)
    (case k36 => k_is)
    (case a37 => k_is)
    (case i37 => k_is)
    (case l37 => k_is)
    (case c37 => k_is)
    (case k37 => k_is)
    (case hK37 => k_is)
    (case a38 => k_is)
    (case l38 => k_is)
    (case c38 => k_is)
    (case k38 => k_is)
    (case a39 => k_is)
    (case l39 => k_is)
    (case c39 => k_is)
    (case k39 => k_is)
    (case a40 => k_is)
    (case l40 => k_is)
    (case c40 => k_is)
    (case k40 => k_is)
    (case a41 => k_is)
    (case i41 => k_is)
    (case l41 => k_is)
    (case c41 => k_is)
    (case k41 => k_is)
    (case a42 => k_is)
    (case g42 => k_is)
    (case t42p => k_is)
    (case r42 => k_is)
    (case l42 => k_is)
    (case c42 => k_is)
    (case k42 => k_is)
    (case a43 => k_is)
    (case l43 => k_is)
    (case c43 => k_is)
    (case k43 => k_is)
    (case z_len => k_is)
    (case z_isinstance => k_is)
    (case z_str => k_is)
    (case z_int => k_is)
    (case z_bool => k_is)
    (case z_tuple => k_is)
    (case z_range => k_is)
    (case z_max => k_is)
    (case z_list => k_is)
    (case z_sorted => k_is)
    (case z_set => k_is)
    (case z_zip => k_is)
    (case aX_BadRecord => k_is)
    (case xP_BadRecord => k_exc)
    (case kP_BadRecord => k_is)
    (case bP_BadRecord => k_is)
    (case tP_BadRecord => k_is)
    (case hD_BadRecord => k_is)
    (case sP_BadRecord => first | rfl | k_is)
    (case hg_BadRecord => k_is)
    (case hk_BadRecord => k_is)
    (case ha_BadRecord => k_is)
    (case hn_BadRecord => k_is)
    (case ht_BadRecord => k_is)
    (case hm_BadRecord => k_is)
    (case q_WORDS => k_is)
    (case w_WORDS => k_is)
    (case q_TUPLE => k_is)
    (case q_WORD => k_is)
    (case q_TRUE => k_is)
    (case q_FALSE => k_is)
    (case q_NONE => k_is)
    (case q_INTEGER => k_is)
    (case q_DEEPEST => k_is)
    (case q_CELLS => k_is)
    (case q_PERFORMED => k_is)
    (case q_TORN => k_is)
