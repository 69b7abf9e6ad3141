import PyProof.Rows.All
import Wide.All
import OpenK.AllK
import Wide.FinOn
import HandS.ForMost
import HandS.IsInst
import HandS.TupAny
import HandS.Flow
import HandS.SortInts
import HandS.More
import HandS.Exc
import HandS.TryOnly
import HandS.ExcOwn
import HandS.WordsExc
import HandS.ExcIs
import HandS.Strs
import HandS.SetBool
import HandS.TupSets
import HandS.SetFor
import HandS.Deep
import HandS.Property
import HandS.Zip
import HandS.SortKw
import HandS.Defaults
import KE.DataMinMax
import KE.SortData
import KE.DatumOrd
import PySem.Challenge.RW_wholecloth_k01_deals_are_checked
set_option Elab.async false
set_option linter.all false
set_option maxRecDepth 100000
set_option maxHeartbeats 4000000
/-! The walk's own layer: M (what is owned and may change), G (what stands for good), H (both). -/
namespace Nz
open PySem L2 PySem.Spec PyProof.Rows

/-! ### heaps -/
abbrev Ex (G G' : Hp) : Prop := Same G G'
structure J (M G H : Hp) : Prop where
  m : Same M H
  g : Same G H
  d : ∀ a o, M a = some o → G a = none
theorem upd_ne' {H : Hp} {a b : Addr} {o u : HO} (e : H b = some u) (h : b ≠ a) : upd H a o b = some u := by rw [upd_ne h]; exact e
theorem Ex.new {G : Hp} {t : Addr} {o : HO} (h : G t = none) : Ex G (upd G t o) := fun a u e => by
  rw [upd_ne (ne_of_none e h)]; exact e
section
variable {M G H : Hp} {t d : Addr} {o o' : HO}
theorem J.freeM (j : J M G H) (h : H t = none) : M t = none := j.m.free h
theorem J.freeG (j : J M G H) (h : H t = none) : G t = none := j.g.free h
theorem J.newG (j : J M G H) (h : H t = none) : J M (upd G t o) (upd H t o) where
  m := fun a u e => by rw [upd_ne (ne_of_none (j.m a u e) h)]; exact j.m a u e
  g := fun a u e => by
    by_cases q : a = t
    · subst q; rw [upd_same] at e ⊢; exact e
    · rw [upd_ne q] at e ⊢; exact j.g a u e
  d := fun a u e => by rw [upd_ne (ne_of_none (j.m a u e) h)]; exact j.d a u e
theorem J.newM (j : J M G H) (h : H t = none) : J (upd M t o) G (upd H t o) where
  g := fun a u e => by rw [upd_ne (ne_of_none (j.g a u e) h)]; exact j.g a u e
  m := fun a u e => by
    by_cases q : a = t
    · subst q; rw [upd_same] at e ⊢; exact e
    · rw [upd_ne q] at e ⊢; exact j.m a u e
  d := fun a u e => by
    by_cases q : a = t
    · subst q; exact j.freeG h
    · rw [upd_ne q] at e; exact j.d a u e
theorem J.put (j : J M G H) (h : M t = some o) : J (upd M t o') G (upd H t o') where
  g := fun a u e => by
    have q : a ≠ t := fun z => by subst z; rw [j.d a o h] at e; cases e
    rw [upd_ne q]; exact j.g a u e
  m := fun a u e => by
    by_cases q : a = t
    · subst q; rw [upd_same] at e ⊢; exact e
    · rw [upd_ne q] at e ⊢; exact j.m a u e
  d := fun a u e => by
    by_cases q : a = t
    · subst q; exact j.d a o h
    · rw [upd_ne q] at e; exact j.d a u e
theorem J.freeze (j : J (upd M t o) G H) (h : M t = none) : J M (upd G t o) H where
  m := fun a u e => j.m a u (by rw [upd_ne (ne_of_none e h)]; exact e)
  g := fun a u e => by
    by_cases q : a = t
    · subst q; rw [upd_same] at e; cases e; exact j.m a _ upd_same
    · rw [upd_ne q] at e; exact j.g a u e
  d := fun a u e => by
    have q : a ≠ t := ne_of_none e h
    rw [upd_ne q]; exact j.d a u (by rw [upd_ne q]; exact e)
theorem J.freezeG (j : J (upd M t o) G H) : G t = none := j.d t o upd_same
theorem J.ex (j : J M G H) {H' : Hp} (e : Same H H') : J M G H' := ⟨j.m.trans e, j.g.trans e, j.d⟩
theorem J.start (H : Hp) : J (fun _ => none) H H := ⟨fun _ _ e => (nomatch e), Same.refl H, fun _ _ e => (nomatch e)⟩
end

/-! ### reading along -/
theorem rd_same {G G' : Hp} {a : Addr} {u : HO} (e : Same G G') (h : Rd G a u) : Rd G' a u := by
  rcases h with h | ⟨o, h⟩
  · exact .inl (e a _ h)
  · exact .inr ⟨o, e a _ h⟩
section
variable {K : PySem.W.Frag} {G G' : Hp} {a : Addr} {xs : List V}
theorem sl_of (h : G a = some (.lst xs)) : SqL K G a xs := .inl (.inl h)
theorem st_of (h : G a = some (.tup xs)) : SqT K G a xs := .inl (.inl h)
theorem sl_mono (e : Same G G') (h : SqL K G a xs) : SqL K G' a xs := h.elim (fun h => .inl (rd_same e h)) .inr
theorem st_mono (e : Same G G') (h : SqT K G a xs) : SqT K G' a xs := h.elim (fun h => .inl (rd_same e h)) .inr
end

/-! ### M but for one cell -/
def Ag (p : Addr) (M M' : Hp) : Prop := ∀ b, b ≠ p → M' b = M b
theorem Ag.refl (p : Addr) (M : Hp) : Ag p M M := fun _ _ => rfl
theorem Ag.trans {p : Addr} {M M1 M2 : Hp} (a : Ag p M M1) (b : Ag p M1 M2) : Ag p M M2 := fun c h => (b c h).trans (a c h)
theorem Ag.upd {p : Addr} {M : Hp} {o : HO} : Ag p M (upd M p o) := fun _ h => upd_ne h

/-- M without a cell -/
def del (M : Hp) (L : Addr) : Hp := fun b => if b = L then none else M b
theorem del_same {M : Hp} {L : Addr} : del M L L = none := by unfold del; rw [if_pos rfl]
theorem del_ne {M : Hp} {L b : Addr} (h : b ≠ L) : del M L b = M b := by unfold del; rw [if_neg h]
theorem J.seal {M G H : Hp} {L : Addr} {o : HO} (j : J M G H) (h : M L = some o) : J (del M L) (upd G L o) H where
  m := fun a u e => by
    by_cases q : a = L
    · subst q; rw [del_same] at e; cases e
    · rw [del_ne q] at e; exact j.m a u e
  g := fun a u e => by
    by_cases q : a = L
    · subst q; rw [upd_same] at e; cases e; exact j.m _ _ h
    · rw [upd_ne q] at e; exact j.g a u e
  d := fun a u e => by
    by_cases q : a = L
    · subst q; rw [del_same] at e; cases e
    · rw [del_ne q] at e; rw [upd_ne q]; exact j.d a u e
theorem J.out {M G H : Hp} {L : Addr} {o : HO} (j : J M G H) (h : M L = some o) : G L = none := j.d L o h
theorem J.drop {M G H : Hp} (L : Addr) (j : J M G H) : J (del M L) G H where
  m := fun a u e => by
    by_cases q : a = L
    · subst q; rw [del_same] at e; cases e
    · rw [del_ne q] at e; exact j.m a u e
  g := j.g
  d := fun a u e => by
    by_cases q : a = L
    · subst q; rw [del_same] at e; cases e
    · rw [del_ne q] at e; exact j.d a u e
/-- what stood for good is owned again, where G0 knew nothing of it -/
theorem J.thaw {M G G0 H : Hp} {b : Addr} {u : HO} (j : J M G H) (e : Ex G0 G) (h : G b = some u) (hb : G0 b = none) : J (upd M b u) G0 H where
  m := fun a x q => by
    by_cases z : a = b
    · subst z; rw [upd_same] at q; cases q; exact j.g _ _ h
    · rw [upd_ne z] at q; exact j.m a x q
  g := fun a x q => j.g a x (e a x q)
  d := fun a x q => by
    by_cases z : a = b
    · subst z; exact hb
    · rw [upd_ne z] at q
      cases r : G0 a with
      | none => rfl
      | some y => have := j.d a x q; rw [e a y r] at this; cases this
theorem J.less {M G G0 H : Hp} (j : J M G H) (e : Ex G0 G) : J M G0 H where
  m := j.m
  g := fun a x q => j.g a x (e a x q)
  d := fun a x q => by
    cases r : G0 a with
    | none => rfl
    | some y => have := j.d a x q; rw [e a y r] at this; cases this
theorem J.own {M G H : Hp} {b : Addr} {u : HO} (j : J M G H) (h : H b = some u) (hb : G b = none) : J (upd M b u) G H where
  m := fun a x q => by
    by_cases z : a = b
    · subst z; rw [upd_same] at q; cases q; exact h
    · rw [upd_ne z] at q; exact j.m a x q
  g := j.g
  d := fun a x q => by
    by_cases z : a = b
    · subst z; exact hb
    · rw [upd_ne z] at q; exact j.d a x q
/-- M but for two cells -/
def Ag2 (p L : Addr) (M M' : Hp) : Prop := ∀ b, b ≠ p → b ≠ L → M' b = M b
theorem Ag2.refl (p L : Addr) (M : Hp) : Ag2 p L M M := fun _ _ _ => rfl
theorem Ag2.upd {p L : Addr} {M M' : Hp} {o : HO} (h : Ag2 p L M M') : Ag2 p L M (upd M' L o) := fun b h1 h2 => (upd_ne h2).trans (h b h1 h2)
theorem Ag2.ag {p L : Addr} {M M1 M2 : Hp} (h : Ag2 p L M M1) (a : Ag p M1 M2) : Ag2 p L M M2 := fun b h1 h2 => (a b h1).trans (h b h1 h2)
theorem Ag2.del {p L : Addr} {M M' : Hp} (h : Ag2 p L M M') (n : M L = none) : Ag p M (del M' L) := fun b h1 => by
  by_cases q : b = L
  · subst q; rw [del_same, n]
  · rw [del_ne q]; exact h b h1 q
theorem Ag.del_eq {L : Addr} {M M2 : Hp} (a : Ag L M M2) (n : M L = none) : del M2 L = M := by
  funext b
  by_cases q : b = L
  · subst q; rw [del_same, n]
  · rw [del_ne q]; exact a b q
theorem Ag.at {p b : Addr} {M M' : Hp} {o : HO} (a : Ag p M M') (e : M b = some o) (h : b ≠ p) : M' b = some o := (a b h).trans e

/-! ### promises: al: what is known of the arguments, then J; the end likewise -/
def Sg {α : Type} (pre : α → List V → Hp → Hp → Prop) (post : α → Hp → Hp → V → Hp → Hp → Prop) : Sp := fun vs H Q _ =>
  ∃ a M G, J M G H ∧ pre a vs M G ∧ ∀ v M' G' H', J M' G' H' → Ex G G' → post a M G v M' G' → Q v H'
theorem w_sg {α : Type} {pre : α → List V → Hp → Hp → Prop} {post : α → Hp → Hp → V → Hp → Hp → Prop} {vs : List V} {M G H : Hp} {Q : VK} {E : XK} (a : α) (j : J M G H) (hp : pre a vs M G)
    (k : ∀ v M' G' H', J M' G' H' → Ex G G' → post a M G v M' G' → Q v H') : Sg pre post vs H Q E := ⟨a, M, G, j, hp, k⟩

/-! ### a def under its name -/
structure Dn (K : PySem.W.Frag) (mg : Str → Option Value) (x : Str) (st : Stmt) (ps : List Str) (f : Addr) (fd : FuncData) : Prop where
  fn : Fun K x x st f fd
  mgf : mg x = some (.ref f)
  kp : PySem.W.keepIn K (.ref f) = true
  bn : Binds K fd ps []
structure Cal (P : Program) (w : World) (K : PySem.W.Frag) (mg : Str → Option Value) (base : Heap) (CX : CXT) (k : Nat) (x : Str) (sp : Sp) : Prop where
  ex : ∃ (f : Addr) (fd : FuncData) (ps : List Str), FnOk P w K mg base CX k f fd ps sp ∧ mg x = some (.ref f) ∧ PySem.W.keepIn K (.ref f) = true ∧ Binds K fd ps []
section
variable {P : Program} {w : World} {K : PySem.W.Frag} {mg : Str → Option Value} {base : Heap} {CX : CXT}
theorem Dn.cal {x : Str} {st : Stmt} {ps : List Str} {f : Addr} {fd : FuncData} {k : Nat} {sp : Sp} (D : Dn K mg x st ps f fd) (F : FnOk P w K mg base CX k f fd ps sp) : Cal P w K mg base CX k x sp := ⟨f, fd, ps, F, D.mgf, D.kp, D.bn⟩
theorem Cal.mono {x : Str} {j k : Nat} {sp : Sp} (c : Cal P w K mg base CX j x sp) (h : j ≤ k) : Cal P w K mg base CX k x sp := by
  obtain ⟨f, fd, ps, F, a, b, d⟩ := c.ex
  exact ⟨f, fd, ps, F.mono h, a, b, d⟩
/-- a def that lets nothing out: its body -/
theorem Dn.ok {x : Str} {st : Stmt} {ps : List Str} {f : Addr} {fd : FuncData} {N : List Str} {k : Nat} {sp : Sp} (D : Dn K mg x st ps f fd) (S : FnScope N ps (defScope st)) (len : ∀ vs H Q E, sp vs H Q E → vs.length = ps.length)
    (hbody : ∀ (cdv : Value) (A : Around) (outer : List Env) (s : Shared) (H : Hp) (vs : List V) (Q : VK) (E : XK), Room k (A.deeper (envOfC x (defScope st) s.heap.objs.size f cdv)) → sp vs H Q E →
      ∃ t, PSs (cxOf CX0 P w K mg base N x (defScope st) f cdv A outer s H E).nox (defBody st) t ∧ t { nx := fun _ H' => Q .non H', rt := Q } (start N vs) H) : Cal P w K mg base CX0 (k + 1) x sp :=
  D.cal (D.fn.ok S len hbody)
end
section
variable {X : Cx} {CX : CXT} {k j : Nat} {x : Str} {sp : Sp} {p pos : Pos} {e : Expr} {es : List Expr} {t : TA} {E : XK}
theorem pe_cal (c : Cal X.prog X.w X.K X.mg X.base CX0 k x sp) (hr : Room j X.A) (hk : k ≤ j) (hg : Gl X x) (ha : PA X (e :: es) t)
    (hdb : (x == ("__debug__" : Str)) = false := by decide) (he : starEach (e :: es) X.env = (false, eval e X.env) :: starEach es X.env := by rfl) (hpl : (backTo pos (starEach es X.env)).any (·.1) = false := by rfl) :
    PE X (.Call (.Name x p) (e :: es) [] pos) (tCall sp [] E0 t) := by
  obtain ⟨f, fd, ps, F, hm, kp, b⟩ := c.ex
  exact pe_call F (hr.mono hk) hg hm kp b .nil pass0 ha hdb he hpl
theorem pe_cal0 (c : Cal X.prog X.w X.K X.mg X.base CX0 k x sp) (hr : Room j X.A) (hk : k ≤ j) (hg : Gl X x)
    (hdb : (x == ("__debug__" : Str)) = false := by decide) : PE X (.Call (.Name x p) [] [] pos) (tCall sp [] E0 tNil) := by
  obtain ⟨f, fd, ps, F, hm, kp, b⟩ := c.ex
  exact pe_call0 F (hr.mono hk) hg hm kp b .nil pass0 hdb
/-! ### operators whatever their operands are -/
def uAdd (K : PySem.W.Frag) : R2 := fun x y H Q => rI0 (fun i j => .int (i + j)) x y H Q ∨ (rCat x y H Q ∨ rCatA K x y H Q)
theorem op_uAdd : OpR X (binaryOp .Add) (uAdd X.K) := op_add.or (op_cat.or op_catA)
def uEq (K : PySem.W.Frag) : R2 := fun x y H Q => rEq x y H Q ∨ rEqD K x y H Q
theorem op_uEq (hr : Room j X.A) : OpR X (compareOp .Eq) (uEq X.K) := op_eq.or (op_eqD hr.units)
def uNe (K : PySem.W.Frag) : R2 := fun x y H Q => rNe x y H Q ∨ rNeD K x y H Q
theorem op_uNe (hr : Room j X.A) : OpR X (compareOp .NotEq) (uNe X.K) := op_ne.or (op_neD hr.units)
def uIx (K : PySem.W.Frag) : R2 := fun x y H Q => rIxL K x y H Q ∨ rIxT K x y H Q
theorem ix_u : IxR X (uIx X.K) := ix_list.or ix_tup
def uSl (K : PySem.W.Frag) : V → Option Int → Option Int → Hp → VK → Prop := fun x lo hi H Q => rSlL K x lo hi H Q ∨ rSlA K x lo hi H Q
theorem sl_u : SlR X (uSl X.K) := sl_list.or sl_tupA
def uMul : R2 := fun x y H Q => rI CMul (fun i j => .int (i * j)) x y H Q ∨ rRep x y H Q
theorem op_uMul : OpR X (binaryOp .Mult) uMul := op_mul.or op_rep
def uLen (K : PySem.W.Frag) : List V → Hp → VK → Prop := fun xs H Q => (∃ p ys, xs = [.ref p] ∧ (SqL K H p ys ∨ SqT K H p ys) ∧ Q (.int ys.length) H) ∨ (∃ a kvs, xs = [V.ref a] ∧ H a = some (.dK kvs) ∧ Q (.int kvs.length) H)
theorem call_uLen : CallR X (.builtin "len") (uLen X.K) := call_len_seq.or call_lenD
end

theorem bt_int : bootBuiltins "int" = some (.type "int") := by decide +kernel
theorem bt_str : bootBuiltins "str" = some (.type "str") := by decide +kernel
theorem bt_bool : bootBuiltins "bool" = some (.type "bool") := by decide +kernel
theorem bt_list : bootBuiltins "list" = some (.type "list") := by decide +kernel
theorem bt_tuple : bootBuiltins "tuple" = some (.type "tuple") := by decide +kernel
theorem bt_dict : bootBuiltins "dict" = some (.type "dict") := by decide +kernel
theorem bt_set : bootBuiltins "set" = some (.type "set") := by decide +kernel
theorem bt_isinstance : bootBuiltins "isinstance" = some (.builtin "isinstance") := by decide +kernel
theorem bt_min : bootBuiltins "min" = some (.builtin "min") := by decide +kernel
theorem bt_max : bootBuiltins "max" = some (.builtin "max") := by decide +kernel
theorem bt_sorted : bootBuiltins "sorted" = some (.builtin "sorted") := by decide +kernel
theorem bt_sum : bootBuiltins "sum" = some (.builtin "sum") := by decide +kernel
theorem bt_abs : bootBuiltins "abs" = some (.builtin "abs") := by decide +kernel
theorem pe_gk {X : Cx} {x : Str} {pos : Pos} {v : V} (hg : Gl X x) (h : ∃ u, X.mg x = some u ∧ RelV v u) (hd : (x == ("__debug__" : Str)) = false := by decide) : PE X (.Name x pos) (tC v) := by
  obtain ⟨u, hm, r⟩ := h
  exact pe_glob hg hm r hd

section
variable {X : Cx} {j : Nat} {K : PySem.W.Frag}
theorem op_uAddK (h : X.K = K) : OpR X (binaryOp .Add) (uAdd K) := h ▸ op_uAdd
theorem op_uEqK (h : X.K = K) (hr : Room j X.A) : OpR X (compareOp .Eq) (uEq K) := h ▸ op_uEq hr
theorem op_uNeK (h : X.K = K) (hr : Room j X.A) : OpR X (compareOp .NotEq) (uNe K) := h ▸ op_uNe hr
theorem ix_uK (h : X.K = K) : IxR X (uIx K) := h ▸ ix_u
theorem sl_uK (h : X.K = K) : SlR X (uSl K) := h ▸ sl_u
theorem call_uLenK (h : X.K = K) : CallR X (.builtin "len") (uLen K) := h ▸ call_uLen
theorem call_isiK' (h : X.K = K) : CallR X (.builtin "isinstance") (rIsi K) := h ▸ call_isi
theorem op_inK (h : X.K = K) : OpR X (compareOp .In) (rIn K false) := h ▸ op_in_seq
theorem op_notInK (h : X.K = K) : OpR X (compareOp .NotIn) (rIn K true) := h ▸ op_notIn_seq
end

/-! ### the steps -/
section
variable {K : PySem.W.Frag} {M G H : Hp} {σ : L2.St} {i : Nat} {v x y : V} {ta tb tc te : TE} {r r' : R2} {Q : VK} {D : Ends} {t u : TS} {c c' : TT} {QB : Bool → Hp → Prop} {g : TG} {a b p : Addr} {xs ys : List V} {m n : Int} {QL : List V → Hp → Prop}
theorem w_var (h : σ[i]? = some (some v)) (q : Q v H) : tVar i σ H Q := ⟨v, h, q⟩
theorem w_c (q : Q v H) : tC v σ H Q := q
theorem w_op (h : ta σ H fun x H1 => tb σ H1 fun y H2 => r x y H2 Q) : tOp r ta tb σ H Q := h
theorem w_un {r : V → Hp → VK → Prop} (h : ta σ H fun x H1 => r x H1 Q) : tUn r ta σ H Q := h
theorem w_chain (h : ta σ H fun x H1 => tb σ H1 fun y H2 => r x y H2 fun z H3 => ∃ k, z = .bl k ∧ (if k = true then tc σ H3 fun w' H4 => r' y w' H4 Q else Q (.bl false) H3)) : tChain r r' ta tb tc σ H Q := h
theorem w_test (h : ta σ H fun x H' => ∃ k, x = .bl k ∧ QB k H') : tTest ta σ H QB := h
theorem w_tB (h : ta σ H fun x H' => ∃ k, x = .bl k ∧ QB k H') : tB ta σ H QB := h
theorem w_bl {P : Bool → Prop} {b : Bool} (q : P b) : ∃ k, V.bl b = .bl k ∧ P k := ⟨b, rfl, q⟩
theorem w_and (h : c σ H fun k H1 => if k = true then c' σ H1 QB else QB false H1) : tAnd c c' σ H QB := h
theorem w_or (h : c σ H fun k H1 => if k = true then QB true H1 else c' σ H1 QB) : tOr c c' σ H QB := h
theorem w_not (h : c σ H fun k H1 => QB (!k) H1) : tNot c σ H QB := h
theorem w_andV (h : ta σ H fun x H1 => ∃ k, x = .bl k ∧ if k = true then tb σ H1 Q else Q (.bl false) H1) : tAndV ta tb σ H Q := h
theorem w_orV (h : ta σ H fun x H1 => ∃ k, x = .bl k ∧ if k = true then Q (.bl true) H1 else tb σ H1 Q) : tOrV ta tb σ H Q := h
theorem w_notV (h : ta σ H fun x H1 => ∃ k, x = .bl k ∧ Q (.bl (!k)) H1) : tNotV ta σ H Q := h
theorem w_ifE (h : c σ H fun k H1 => if k = true then ta σ H1 Q else tb σ H1 Q) : tIf c ta tb σ H Q := h
theorem w_isN (h : ta σ H fun x H1 => Q (.bl (decide (x = .non))) H1) : tIsN ta σ H Q := h
theorem w_notN (h : ta σ H fun x H1 => Q (.bl (!decide (x = .non))) H1) : tNotN ta σ H Q := h
/- statements -/
theorem w_seq (h : t { D with nx := u D } σ H) : tSeq t u D σ H := h
theorem w_next (h : D.nx σ H) : tNext D σ H := h
theorem w_ret (h : te σ H D.rt) : tRet te D σ H := h
theorem w_retN (h : D.rt .non H) : tRetN D σ H := h
theorem w_if (h : c σ H fun b H1 => if b = true then t D σ H1 else u D σ H1) : tIfS c t u D σ H := h
theorem w_asg (h : te σ H fun x H1 => g x σ H1 D.nx) : tAsg te g D σ H := h
theorem w_drop (h : te σ H fun _ H1 => D.nx σ H1) : tDrop te D σ H := h
theorem w_gName {R : L2.St → Hp → Prop} (h : R (σ.set i (some v)) H) : gName i v σ H R := h
theorem w_gSub {s : TSet} {to ti : TE} {R : L2.St → Hp → Prop} (h : to σ H fun o H1 => ti σ H1 fun i H2 => s o i v H2 fun H3 => R σ H3) : gSub to ti s v σ H R := h
theorem w_gTup {gs : TGs} {R : L2.St → Hp → Prop} (j : J M G H) (h : SqT K G a xs) (l : xs.length = i) (q : gs xs σ H R) : gTup K i gs (.ref a) σ H R := ⟨a, xs, rfl, st_mono j.g h, l, q⟩
theorem w_gCons {g : TG} {gs : TGs} {R : L2.St → Hp → Prop} (q : g v σ H fun σ' H' => gs xs σ' H' R) : gCons g gs (v :: xs) σ H R := ⟨v, xs, rfl, q⟩
theorem w_gNil {R : L2.St → Hp → Prop} (q : R σ H) : gNil [] σ H R := ⟨rfl, q⟩
/- arguments, calls -/
theorem w_anil (q : QL [] H) : tNil σ H QL := q
theorem w_acons {tr : TA} (h : ta σ H fun x H1 => tr σ H1 fun xs H2 => QL (x :: xs) H2) : tCons ta tr σ H QL := h
theorem w_call {sp : Sp} {dvs : List V} {E : XK} {tr : TA} (h : tr σ H fun vs H1 => sp (vs ++ dvs) H1 Q E) : tCall sp dvs E tr σ H Q := h
theorem w_cb {r : List V → Hp → VK → Prop} {tr : TA} (h : tr σ H fun vs H1 => r vs H1 Q) : tCB r tr σ H Q := h
def NewO (o : HO) (n : Nat) (H : Hp) (Q : VK) : Prop := n ≤ sizeLine ∧ ∀ p, H p = none → Q (.ref p) (upd H p o)
theorem w_tup {tr : TA} (h : tr σ H fun xs H1 => NewO (.tup xs) xs.length H1 Q) : tTup tr σ H Q := h
theorem w_lst {tr : TA} (h : tr σ H fun xs H1 => NewO (.lst xs) xs.length H1 Q) : tLst tr σ H Q := h
theorem sz_le {n : Nat} (h : n ≤ 1000000) : n ≤ sizeLine := Nat.le_trans h (by decide)
theorem sz_lt {n : Nat} (h : n < 1000000) : n < sizeLine := Nat.lt_of_lt_of_le h (by decide)
/-- a new object that stands for good -/
theorem w_new {o : HO} {n : Nat} (j : J M G H) (z : n ≤ sizeLine) (k : ∀ p G' H', J M G' H' → Ex G G' → G' p = some o → G p = none → Q (.ref p) H') : NewO o n H Q :=
  ⟨z, fun p h => k p _ _ (j.newG h) (Ex.new (j.freeG h)) upd_same (j.freeG h)⟩
/-- .. that may change -/
theorem w_newM {o : HO} {n : Nat} (j : J M G H) (z : n ≤ sizeLine) (k : ∀ p H', J (upd M p o) G H' → M p = none → G p = none → Q (.ref p) H') : NewO o n H Q :=
  ⟨z, fun p h => k p _ (j.newM h) (j.freeM h) (j.freeG h)⟩
/- operators -/
theorem w_I0 {f : Int → Int → V} (q : Q (f m n) H) : rI0 f (.int m) (.int n) H Q := ⟨m, n, rfl, rfl, q⟩
theorem w_I {C : Int → Int → Prop} {f : Int → Int → V} (hc : C m n) (q : Q (f m n) H) : rI C f (.int m) (.int n) H Q := ⟨m, n, rfl, rfl, hc, q⟩
theorem w_U {f : Int → V} (q : Q (f m) H) : rU f (.int m) H Q := ⟨m, rfl, q⟩
theorem w_addI (q : Q (.int (m + n)) H) : uAdd K (.int m) (.int n) H Q := .inl (w_I0 q)
theorem w_mulI (hc : CMul m n) (q : Q (.int (m * n)) H) : uMul (.int m) (.int n) H Q := .inl (w_I hc q)
theorem w_eqI (q : Q (.bl (decide (m = n))) H) : uEq K (.int m) (.int n) H Q := .inl ⟨rfl, by
  have e : decide (V.int m = V.int n) = decide (m = n) := decide_eq_decide.mpr ⟨fun h => V.int.inj h, fun h => h ▸ rfl⟩
  rw [e]; exact q⟩
theorem w_neI (q : Q (.bl (!decide (m = n))) H) : uNe K (.int m) (.int n) H Q := .inl ⟨rfl, by
  have e : decide (V.int m = V.int n) = decide (m = n) := decide_eq_decide.mpr ⟨fun h => V.int.inj h, fun h => h ▸ rfl⟩
  rw [e]; exact q⟩
theorem w_eqV {k : Bool} (hs : scal x y = true) (e : decide (x = y) = k) (q : Q (.bl k) H) : uEq K x y H Q := .inl ⟨hs, by rw [e]; exact q⟩
theorem w_eqS {k : Bool} {s1 s2 : Str} (e : decide (s1 = s2) = k) (q : Q (.bl k) H) : uEq K (.str s1) (.str s2) H Q := .inl ⟨rfl, by
  have e' : decide (V.str s1 = V.str s2) = decide (s1 = s2) := decide_eq_decide.mpr ⟨fun h => V.str.inj h, fun h => h ▸ rfl⟩
  rw [e', e]; exact q⟩
theorem w_neV {k : Bool} (hs : scal x y = true) (e : (!decide (x = y)) = k) (q : Q (.bl k) H) : uNe K x y H Q := .inl ⟨hs, by rw [e]; exact q⟩
theorem w_ixL (j : J M G H) (h : SqL K G a xs) (e : atI xs m = some v) (q : Q v H) : uIx K (.ref a) (.int m) H Q := .inl ⟨a, xs, m, v, rfl, rfl, sl_mono j.g h, e, q⟩
theorem w_ixT (j : J M G H) (h : SqT K G a xs) (e : atI xs m = some v) (q : Q v H) : uIx K (.ref a) (.int m) H Q := .inr ⟨a, xs, m, v, rfl, rfl, st_mono j.g h, e, q⟩
theorem w_ixM (j : J M G H) (h : M a = some (.lst xs)) (e : atI xs m = some v) (q : Q v H) : uIx K (.ref a) (.int m) H Q := .inl ⟨a, xs, m, v, rfl, rfl, .inl (.inl (j.m a _ h)), e, q⟩
theorem w_lenL (j : J M G H) (h : SqL K G a xs) (q : Q (.int xs.length) H) : uLen K [.ref a] H Q := .inl ⟨a, xs, rfl, .inl (sl_mono j.g h), q⟩
theorem w_lenT (j : J M G H) (h : SqT K G a xs) (q : Q (.int xs.length) H) : uLen K [.ref a] H Q := .inl ⟨a, xs, rfl, .inr (st_mono j.g h), q⟩
theorem w_lenM (j : J M G H) (h : M a = some (.lst xs)) (q : Q (.int xs.length) H) : uLen K [.ref a] H Q := .inl ⟨a, xs, rfl, .inl (.inl (.inl (j.m a _ h))), q⟩
theorem w_setM {QH : Hp → Prop} {jx : Nat} (j : J M G H) (h : M a = some (.lst xs)) (e : ixN xs.length m = some jx) (q : ∀ H', J (upd M a (.lst (xs.set jx v))) G H' → QH H') : rSetL (.ref a) (.int m) v H QH :=
  ⟨a, xs, m, jx, rfl, rfl, j.m a _ h, e, q _ (j.put h)⟩
/- methods -/
theorem w_bm {T : String} {r : V → List V → Hp → VK → Prop} {tr : TA} (h : ta σ H fun x H1 => tyV K T x H1 ∧ tr σ H1 fun xs H2 => r x xs H2 Q) : tBM K T r ta tr σ H Q := h
theorem w_appendM (j : J M G H) (h : M a = some (.lst xs)) (z : xs.length < sizeLine) (q : ∀ H', J (upd M a (.lst (xs ++ [v]))) G H' → Q .non H') : rAppend (.ref a) [v] H Q :=
  ⟨a, xs, v, rfl, rfl, j.m a _ h, z, q _ (j.put h)⟩
theorem ty_listM (j : J M G H) (h : M a = some (.lst xs)) : tyV K "list" (.ref a) H := .inl ⟨rfl, xs, .inl (.inl (j.m a _ h))⟩
theorem ty_listG (j : J M G H) (h : SqL K G a xs) : tyV K "list" (.ref a) H := .inl ⟨rfl, xs, sl_mono j.g h⟩
/- two ways -/
theorem w_two {k : Bool} {A B : Prop} (h1 : k = true → A) (h2 : k = false → B) : if k = true then A else B := by
  cases k with
  | true => rw [if_pos rfl]; exact h1 rfl
  | false => rw [if_neg Bool.false_ne_true]; exact h2 rfl
theorem w_dec {p : Prop} [Decidable p] {A B : Prop} (h1 : p → A) (h2 : ¬ p → B) : if decide p = true then A else B := w_two (fun h => h1 (of_decide_eq_true h)) fun h => h2 (of_decide_eq_false h)
theorem w_decN {p : Prop} [Decidable p] {A B : Prop} (h1 : ¬ p → A) (h2 : p → B) : if (!decide p) = true then A else B := w_two (fun h => h1 (of_decide_eq_false (by simpa using h))) fun h => h2 (of_decide_eq_true (by simpa using h))
theorem w_T {A B : Prop} (h : A) : if true = true then A else B := by rw [if_pos rfl]; exact h
theorem w_F {A B : Prop} (h : B) : if false = true then A else B := by rw [if_neg Bool.false_ne_true]; exact h
theorem w_nt {A B : Prop} (h : B) : if (!true) = true then A else B := w_F h
theorem w_nf {A B : Prop} (h : A) : if (!false) = true then A else B := w_T h
theorem w_dT {p : Prop} [Decidable p] {A B : Prop} (h : p) (q : A) : if decide p = true then A else B := by rw [decide_eq_true h]; exact w_T q
theorem w_dF {p : Prop} [Decidable p] {A B : Prop} (h : ¬ p) (q : B) : if decide p = true then A else B := by rw [decide_eq_false h]; exact w_F q
theorem w_nT {p : Prop} [Decidable p] {A B : Prop} (h : p) (q : B) : if (!decide p) = true then A else B := by rw [decide_eq_true h]; exact w_F q
theorem w_nF {p : Prop} [Decidable p] {A B : Prop} (h : ¬ p) (q : A) : if (!decide p) = true then A else B := by rw [decide_eq_false h]; exact w_T q
/- loops -/
theorem w_forL {tl : TE} {a : Addr} (h : tl σ H fun v H1 => v = .ref a ∧ SqL K H1 a xs ∧ ∃ Pv : Nat → L2.St → Hp → Prop, Pv 0 σ H1 ∧ (∀ i σ H, i ≤ xs.length → Pv i σ H → SqL K H a xs) ∧
    (∀ i x σ H, xs[i]? = some x → Pv i σ H → g x σ H fun σ2 H2 => t { D with nx := Pv (i + 1), ct := Pv (i + 1), bk := D.nx } σ2 H2) ∧ ∀ σ H, Pv xs.length σ H → D.nx σ H)
    (mono : ∀ Q Q' : VK, (∀ v H, Q v H → Q' v H) → tl σ H Q → tl σ H Q') : tFor (iList K tl) g t D σ H := by
  refine mono _ _ (fun v H1 q => ?_) h
  obtain ⟨rfl, hs, Pv, h0, hl, hs', hd⟩ := q
  exact ⟨a, rfl, ⟨xs, hs⟩, for_list Pv h0 hl hs' hd⟩
theorem mono_var (Q Q' : VK) (h : ∀ v H, Q v H → Q' v H) (q : tVar i σ H Q) : tVar i σ H Q' := by
  obtain ⟨v, e, q⟩ := q
  exact ⟨v, e, h v H q⟩
/-- for x in xs, xs a local name -/
theorem w_forLV {s : Nat} {a : Addr} (e : σ[s]? = some (some (.ref a))) (Pv : Nat → L2.St → Hp → Prop) (hS : SqL K H a xs) (h0 : Pv 0 σ H) (hl : ∀ i σ H, i ≤ xs.length → Pv i σ H → SqL K H a xs)
    (hs : ∀ i x σ H, xs[i]? = some x → Pv i σ H → g x σ H fun σ2 H2 => t { D with nx := Pv (i + 1), ct := Pv (i + 1), bk := D.nx } σ2 H2) (hd : ∀ σ H, Pv xs.length σ H → D.nx σ H) : tFor (iList K (tVar s)) g t D σ H :=
  ⟨.ref a, e, a, rfl, ⟨xs, hS⟩, for_list Pv h0 hl hs hd⟩
theorem w_forTV {s : Nat} {a : Addr} (e : σ[s]? = some (some (.ref a))) (Pv : Nat → L2.St → Hp → Prop) (hS : SqT K H a xs) (h0 : Pv 0 σ H) (hl : ∀ i σ H, i ≤ xs.length → Pv i σ H → SqT K H a xs)
    (hs : ∀ i x σ H, xs[i]? = some x → Pv i σ H → g x σ H fun σ2 H2 => t { D with nx := Pv (i + 1), ct := Pv (i + 1), bk := D.nx } σ2 H2) (hd : ∀ σ H, Pv xs.length σ H → D.nx σ H) : tFor (iTup K (tVar s)) g t D σ H :=
  ⟨.ref a, e, a, rfl, ⟨xs, hS⟩, for_tup Pv h0 hl hs hd⟩
/-- for k in range(e) -/
def RngR (g : TG) (t : TS) (D : Ends) (σ : L2.St) : List V → Hp → Prop := fun vs H1 => ∃ j : Int, vs = [.int j] ∧ -(2 ^ 62) ≤ j ∧ j < 2 ^ 62 ∧ ∃ Pv : Nat → L2.St → Hp → Prop, Pv 0 σ H1 ∧
  (∀ i σ H, i < j.toNat → Pv i σ H → g (.int i) σ H fun σ2 H2 => t { D with nx := Pv (i + 1), ct := Pv (i + 1), bk := D.nx } σ2 H2) ∧ ∀ σ H, Pv j.toNat σ H → D.nx σ H
theorem RngR.go {vs : List V} (h : RngR g t D σ vs H) : ∃ j : Int, vs = [.int j] ∧ -(2 ^ 62) ≤ j ∧ j < 2 ^ 62 ∧ ∃ W : Nat → Nat → L2.St → Hp → Prop, (∃ m, W 0 m σ H) ∧ ∀ i m σ H, W i m σ H →
      ((Itr 0 j.toNat).stop i H ∧ D.nx σ H) ∨ ((Itr 0 j.toNat).go i H ∧ ∃ N : L2.St → Hp → Prop, (∀ σ' H', N σ' H' → ∃ m', m' < m ∧ W (i + 1) m' σ' H') ∧ ∀ x H', (Itr 0 j.toNat).yld i H x H' → g x σ H' fun σ2 H2 => t { D with nx := N, ct := N, bk := D.nx } σ2 H2) := by
  obtain ⟨jj, e, h1, h2, Pv, h0, hs, hd⟩ := h
  refine ⟨jj, e, h1, h2, for_range Pv h0 (fun i σ H hi p => ?_) hd⟩
  have q := hs i σ H hi p
  rw [Int.zero_add]; exact q
def RngD (g : TG) (t : TS) (D : Ends) (σ : L2.St) (vs : List V) (H : Hp) : Prop := ∃ j : Int, vs = [.int j] ∧ -(2 ^ 62) ≤ j ∧ j < 2 ^ 62 ∧ ∃ W : Nat → Nat → L2.St → Hp → Prop, (∃ m, W 0 m σ H) ∧ ∀ i m σ H, W i m σ H →
      ((Itr 0 j.toNat).stop i H ∧ D.nx σ H) ∨ ((Itr 0 j.toNat).go i H ∧ ∃ N : L2.St → Hp → Prop, (∀ σ' H', N σ' H' → ∃ m', m' < m ∧ W (i + 1) m' σ' H') ∧ ∀ x H', (Itr 0 j.toNat).yld i H x H' → g x σ H' fun σ2 H2 => t { D with nx := N, ct := N, bk := D.nx } σ2 H2)
theorem w_forR {ta : TA} (h : ta σ H fun vs H1 => RngD g t D σ vs H1) : tFor (iRng1 ta) g t D σ H := h
theorem w_rng (Pv : Nat → L2.St → Hp → Prop) (h0 : Pv 0 σ H)
    (hs : ∀ i σ H, i < m.toNat → Pv i σ H → g (.int i) σ H fun σ2 H2 => t { D with nx := Pv (i + 1), ct := Pv (i + 1), bk := D.nx } σ2 H2) (hd : ∀ σ H, Pv m.toNat σ H → D.nx σ H) (h1 : -(2 ^ 62) ≤ m := by first | decide | omega) (h2 : m < 2 ^ 62 := by first | decide | omega) :
    RngD g t D σ [.int m] H := RngR.go ⟨m, rfl, h1, h2, Pv, h0, hs, hd⟩
theorem w_appendU (j : J (upd M a (.lst xs)) G H) (z : xs.length < 1000000) (q : ∀ H', J (upd M a (.lst (xs ++ [v]))) G H' → Q .non H') : rAppend (.ref a) [v] H Q :=
  w_appendM j upd_same (sz_lt z) fun H' j' => q H' (by rw [upd_upd] at j'; exact j')
theorem w_appendA (j : J M G H) (h : M a = some (.lst xs)) (z : xs.length < 1000000) (q : ∀ H', J (upd M a (.lst (xs ++ [v]))) G H' → Q .non H') : rAppend (.ref a) [v] H Q := w_appendM j h (sz_lt z) q
theorem ty_listU (j : J (upd M a (.lst xs)) G H) : tyV K "list" (.ref a) H := ty_listM j upd_same
theorem map_snoc (ns : List Int) (n : Int) : ns.map V.int ++ [V.int n] = (ns ++ [n]).map V.int := by rw [List.map_append]; rfl
/-- list(xs), xs[a:b] of lists, xs + ys -/
theorem w_catL (h1 : H a = some (.lst xs)) (h2 : H b = some (.lst ys)) (k : NewO (.lst (xs ++ ys)) (xs.length + ys.length) H Q) : uAdd K (.ref a) (.ref b) H Q :=
  .inr (.inl ⟨a, b, xs, ys, rfl, rfl, h1, h2, k.1, k.2⟩)
theorem w_slL {lo hi : Option Int} (j : J M G H) (h : SqL K G a xs) (k : NewO (.lst (cutV xs lo hi)) 0 H Q) : uSl K (.ref a) lo hi H Q := .inl ⟨a, xs, rfl, sl_mono j.g h, k.2⟩
theorem w_slT {lo hi : Option Int} (j : J M G H) (h : SqT K G a xs) (k1 : HT.sIx xs.length 0 lo = 0 ∧ HT.sIx xs.length xs.length hi = xs.length → Q (.ref a) H)
    (k : ¬ (HT.sIx xs.length 0 lo = 0 ∧ HT.sIx xs.length xs.length hi = xs.length) → NewO (.tup (cutV xs lo hi)) 0 H Q) : uSl K (.ref a) lo hi H Q := .inr ⟨a, xs, rfl, st_mono j.g h, k1, fun h => (k h).2⟩
def PartX (x : V) (H : Hp) (Q : Option Int → Hp → Prop) : Prop := ∃ i, x = .int i ∧ Q (some i) H
theorem w_part {QO : Option Int → Hp → Prop} (h : te σ H fun x H1 => PartX x H1 QO) : tPart te σ H QO := h
theorem w_partX {QO : Option Int → Hp → Prop} (h : QO (some m) H) : PartX (.int m) H QO := ⟨m, rfl, h⟩
theorem w_nopart {QO : Option Int → Hp → Prop} (h : QO none H) : tNoPart σ H QO := h
theorem atI_0 {α : Type} {y : α} {ys : List α} : atI (y :: ys) 0 = some y := atI_nat (j := 0) rfl
theorem w_sl {r : V → Option Int → Option Int → Hp → VK → Prop} {tl th : TO} (h : te σ H fun x H1 => tl σ H1 fun l H2 => th σ H2 fun u H3 => r x l u H3 Q) : tSl r te tl th σ H Q := h
/-! comprehensions -/
variable {tt : TT} {vs : List Nat} {s : Nat}
/-- the block's end at one element: the new list stands at L as before, it gets y -/
def StepL (L : Addr) (acc : List V) (R : List V → Hp → Hp → Prop) (y : V) (H4 : Hp) : Prop := ∃ M4 G4, J M4 G4 H4 ∧ M4 L = some (.lst acc) ∧ acc.length < sizeLine ∧ R (acc ++ [y]) (upd M4 L (.lst (acc ++ [y]))) G4
def SkipL (L : Addr) (acc : List V) (R : List V → Hp → Hp → Prop) (H3 : Hp) : Prop := ∃ M3 G3, J M3 G3 H3 ∧ M3 L = some (.lst acc) ∧ R acc M3 G3
def LcI (P : Addr → Nat → List V → Hp → Hp → Prop) (L : Addr) (i : Nat) (H : Hp) : Prop := ∃ acc M1 G1, J M1 G1 H ∧ M1 L = some (.lst acc) ∧ P L i acc M1 G1
theorem StepL.go {P : Addr → Nat → List V → Hp → Hp → Prop} {L : Addr} {acc : List V} {k : Nat} (h : StepL L acc (P L k) y H) : ∃ acc', H L = some (.lst acc') ∧ acc'.length < sizeLine ∧ LcI P L k (upd H L (.lst (acc' ++ [y]))) := by
  obtain ⟨M4, G4, j, e, z, r⟩ := h
  exact ⟨acc, j.m _ _ e, z, acc ++ [y], _, _, j.put e, upd_same, r⟩
def LcD (J' : It) (g : TG) (tt : TT) (te : TE) (vs : List Nat) (σ : L2.St) (H1 : Hp) (Q : VK) : Prop := ∀ D, H1 D = none → ∃ W : Nat → Nat → Hp → Prop, (∃ m, W 0 m (upd H1 D (.lst []))) ∧ ∀ i m H, W i m H →
  (J'.stop i H ∧ Q (.ref D) H) ∨ (J'.go i H ∧ ∃ Nx : Hp → Prop, (∀ H', Nx H' → ∃ m', m' < m ∧ W (i + 1) m' H') ∧ ∀ x H', J'.yld i H x H' → g x (wipe σ vs) H' fun σ2 H2 => wipe σ2 vs = wipe σ vs ∧ tt σ2 H2 fun b H3 =>
    if b = true then te σ2 H3 fun y H4 => ∃ acc, H4 D = some (.lst acc) ∧ acc.length < sizeLine ∧ Nx (upd H4 D (.lst (acc ++ [y]))) else Nx H3)
def LcR (g : TG) (tt : TT) (te : TE) (vs : List Nat) (σ : L2.St) (vs' : List V) (H1 : Hp) (Q : VK) : Prop := ∃ j : Int, vs' = [.int j] ∧ -(2 ^ 62) ≤ j ∧ j < 2 ^ 62 ∧ LcD (Itr 0 j.toNat) g tt te vs σ H1 Q
def LcL (K : PySem.W.Frag) (g : TG) (tt : TT) (te : TE) (vs : List Nat) (σ : L2.St) (x : V) (H1 : Hp) (Q : VK) : Prop := ∃ a, x = .ref a ∧ (∃ xs, SqL K H1 a xs) ∧ LcD (Itl K a) g tt te vs σ H1 Q
theorem w_lcR {ta : TA} (h : ta σ H fun vs' H1 => LcR g tt te vs σ vs' H1 Q) : tLc (iRng1 ta) g tt te vs σ H Q := h
theorem w_lcL {tl : TE} (h : tl σ H fun x H1 => LcL K g tt te vs σ x H1 Q) : tLc (iList K tl) g tt te vs σ H Q := h
/-- [e for k in range(m)]; the element's reading must be monotone in what is wanted: it is given by its steps, so the law of the turn is asked for any wish that is weaker -/
theorem w_lcr (j : J M G H) (P : Addr → Nat → List V → Hp → Hp → Prop) (h0 : ∀ L, M L = none → G L = none → P L 0 [] (upd M L (.lst [])) G) (hw : ∀ x, wipe ((wipe σ vs).set s (some x)) vs = wipe σ vs)
    (hs : ∀ L i acc M1 G1 H1 (R : V → Hp → Prop), i < m.toNat → J M1 G1 H1 → M1 L = some (.lst acc) → P L i acc M1 G1 → (∀ y H4, StepL L acc (P L (i + 1)) y H4 → R y H4) → te ((wipe σ vs).set s (some (.int i))) H1 R)
    (hd : ∀ L acc M1 G1 H1, J M1 G1 H1 → M1 L = some (.lst acc) → P L m.toNat acc M1 G1 → Q (.ref L) H1) (h1 : -(2 ^ 62) ≤ m := by first | decide | omega) (h2 : m < 2 ^ 62 := by first | decide | omega) : LcR (gName s) tYes te vs σ [.int m] H Q := by
  refine ⟨m, rfl, h1, h2, fun L hL => lc_range (LcI P L) ⟨[], _, _, j.newM hL, upd_same, h0 L (j.freeM hL) (j.freeG hL)⟩ (fun i H1 hi p => ?_) fun H1 p => ?_⟩
  · obtain ⟨acc, M1, G1, j1, e, p⟩ := p
    rw [Int.zero_add]
    refine ⟨hw (.int i), ?_⟩
    refine w_T (B := LcI P L (i + 1) H1) ?_
    refine hs L i acc M1 G1 H1 _ hi j1 e p ?_
    intro y H4 q
    exact q.go
  · obtain ⟨acc, M1, G1, j1, e, p⟩ := p
    exact hd L acc M1 G1 H1 j1 e p
/-- [e for x in xs if t] -/
theorem w_lcl (j : J M G H) (P : Addr → Nat → List V → Hp → Hp → Prop) (hx : SqL K G a xs) (h0 : ∀ L, M L = none → G L = none → P L 0 [] (upd M L (.lst [])) G) (hG : ∀ L i acc M1 G1, P L i acc M1 G1 → Ex G G1) (hw : ∀ x, wipe ((wipe σ vs).set s (some x)) vs = wipe σ vs)
    (hs : ∀ L i x acc M1 G1 H1 (R : Bool → Hp → Prop), xs[i]? = some x → J M1 G1 H1 → M1 L = some (.lst acc) → P L i acc M1 G1 →
      (∀ b H3, (if b = true then te ((wipe σ vs).set s (some x)) H3 (fun y H4 => ∃ acc, H4 L = some (.lst acc) ∧ acc.length < sizeLine ∧ LcI P L (i + 1) (upd H4 L (.lst (acc ++ [y])))) else SkipL L acc (P L (i + 1)) H3) → R b H3) → tt ((wipe σ vs).set s (some x)) H1 R)
    (hd : ∀ L acc M1 G1 H1, J M1 G1 H1 → M1 L = some (.lst acc) → P L xs.length acc M1 G1 → Q (.ref L) H1) : LcL K (gName s) tt te vs σ (.ref a) H Q := by
  refine ⟨a, rfl, ⟨xs, sl_mono j.g hx⟩, fun L hL => lc_list (xs := xs) (LcI P L) ⟨[], _, _, j.newM hL, upd_same, h0 L (j.freeM hL) (j.freeG hL)⟩ (fun i H1 _ p => ?_) (fun i x H1 hi p => ?_) fun H1 p => ?_⟩
  · obtain ⟨acc, M1, G1, j1, e, p⟩ := p
    exact sl_mono ((hG _ _ _ _ _ p).trans j1.g) hx
  · obtain ⟨acc, M1, G1, j1, e, p⟩ := p
    refine ⟨hw _, ?_⟩
    refine hs L i x acc M1 G1 H1 _ hi j1 e p fun b H3 q => ?_
    cases b with
    | true => rw [if_pos rfl] at q ⊢; exact q
    | false =>
      rw [if_neg Bool.false_ne_true] at q ⊢
      obtain ⟨M3, G3, j3, e3, r⟩ := q
      exact ⟨acc, M3, G3, j3, e3, r⟩
  · obtain ⟨acc, M1, G1, j1, e, p⟩ := p
    exact hd L acc M1 G1 H1 j1 e p
theorem w_yes {R : Bool → Hp → Prop} (h : R true H) : tYes σ H R := h
/-! dicts -/
variable {kvs : List (Key × V)} {td ty tx tv : TE}
def Hd (M G : Hp) (a : Addr) (kvs : List (Key × V)) : Prop := M a = some (.dK kvs) ∨ Rd G a (.dK kvs)
theorem Hd.rd (j : J M G H) (h : Hd M G a kvs) : Rd H a (.dK kvs) := h.elim (fun h => .inl (j.m _ _ h)) (rd_same j.g)
theorem Hd.ofM (h : M a = some (.dK kvs)) : Hd M G a kvs := .inl h
theorem Hd.ofG (h : G a = some (.dK kvs)) : Hd M G a kvs := .inr (.inl h)
def GetA (x : V) (ty : TE) (σ : L2.St) (H1 : Hp) (Q : VK) : Prop := ∃ a, x = .ref a ∧ IsD H1 a ∧ ty σ H1 fun y H2 => ∃ o, DGet H2 a y o ∧ Q (o.getD .non) H2
def GetB (x : V) (ty tx : TE) (σ : L2.St) (H1 : Hp) (Q : VK) : Prop := ∃ a, x = .ref a ∧ IsD H1 a ∧ ty σ H1 fun y H2 => tx σ H2 fun z H3 => ∃ o, DGet H3 a y o ∧ Q (o.getD z) H3
def GetE (a : Addr) (y z : V) (H3 : Hp) (Q : VK) : Prop := ∃ o, DGet H3 a y o ∧ Q (o.getD z) H3
theorem w_dget1 (h : td σ H fun x H1 => GetA x ty σ H1 Q) : tDGet1 td ty σ H Q := h
theorem w_dget2 (h : td σ H fun x H1 => GetB x ty tx σ H1 Q) : tDGet2 td ty tx σ H Q := h
theorem w_getA (j : J M G H) (h : Hd M G a kvs) (q : ty σ H fun y H2 => GetE a y .non H2 Q) : GetA (.ref a) ty σ H Q := ⟨a, rfl, .inl ⟨kvs, h.rd j⟩, q⟩
theorem w_getB (j : J M G H) (h : Hd M G a kvs) (q : ty σ H fun y H2 => tx σ H2 fun z H3 => GetE a y z H3 Q) : GetB (.ref a) ty tx σ H Q := ⟨a, rfl, .inl ⟨kvs, h.rd j⟩, q⟩
theorem w_getE (j : J M G H) (h : Hd M G a kvs) (q : Q ((valV kvs (.inl m)).getD y) H) : GetE a (.int m) y H Q := ⟨_, .inl ⟨kvs, .inl m, h.rd j, rfl, rfl⟩, q⟩
def GetX (x y : V) (H2 : Hp) (Q : VK) : Prop := ∃ a v, x = .ref a ∧ DGet H2 a y (some v) ∧ Q v H2
theorem w_dget (h : td σ H fun x H1 => ty σ H1 fun y H2 => GetX x y H2 Q) : tDGet td ty σ H Q := h
theorem w_getX (j : J M G H) (h : Hd M G a kvs) (e : valV kvs (.inl m) = some v) (q : Q v H) : GetX (.ref a) (.int m) H Q := ⟨a, v, rfl, .inl ⟨kvs, .inl m, h.rd j, rfl, e.symm⟩, q⟩
def InX (neg : Bool) (x y : V) (H2 : Hp) (Q : VK) : Prop := ∃ a o, x = .ref a ∧ DGet H2 a y o ∧ Q (.bl (if neg then !o.isSome else o.isSome)) H2
theorem w_din (h : ty σ H fun y H1 => td σ H1 fun x H2 => InX false x y H2 Q) : tDIn ty td σ H Q := h
theorem w_dnotin (h : ty σ H fun y H1 => td σ H1 fun x H2 => InX true x y H2 Q) : tDNotIn ty td σ H Q := h
theorem w_inX (j : J M G H) (h : Hd M G a kvs) (q : Q (.bl (valV kvs (.inl m)).isSome) H) : InX false (.ref a) (.int m) H Q := ⟨a, _, rfl, .inl ⟨kvs, .inl m, h.rd j, rfl, rfl⟩, q⟩
theorem w_notinX (j : J M G H) (h : Hd M G a kvs) (q : Q (.bl (!(valV kvs (.inl m)).isSome)) H) : InX true (.ref a) (.int m) H Q := ⟨a, _, rfl, .inl ⟨kvs, .inl m, h.rd j, rfl, rfl⟩, q⟩
def PutX (x y v : V) (H3 : Hp) (R : Hp → Prop) : Prop := ∃ a H4, x = .ref a ∧ DPut H3 a y v H4 ∧ R H4
theorem w_dput (h : tv σ H fun v H1 => td σ H1 fun x H2 => ty σ H2 fun y H3 => PutX x y v H3 (D.nx σ)) : sDPut td ty tv D σ H := h
theorem w_putX {R : Hp → Prop} (j : J M G H) (h : M a = some (.dK kvs)) (z : kvs.length < 1000000) (q : ∀ H', J (upd M a (.dK (putK kvs (.inl m) v))) G H' → R H') : PutX (.ref a) (.int m) v H R :=
  ⟨a, _, rfl, .inl ⟨kvs, .inl m, j.m _ _ h, rfl, sz_lt z, rfl⟩, q _ (j.put h)⟩
def PopB (x : V) (ty tx : TE) (σ : L2.St) (H1 : Hp) (Q : VK) : Prop := ∃ a, x = .ref a ∧ IsD H1 a ∧ ty σ H1 fun y H2 => tx σ H2 fun z H3 => ∃ kvs k, H3 a = some (.dK kvs) ∧ y = kV k ∧
  (∀ v, valV kvs k = some v → Q v (upd H3 a (.dK (dropK kvs k)))) ∧ (valV kvs k = none → Q z H3)
def PopE (a : Addr) (y z : V) (H3 : Hp) (Q : VK) : Prop := ∃ kvs k, H3 a = some (.dK kvs) ∧ y = kV k ∧ (∀ v, valV kvs k = some v → Q v (upd H3 a (.dK (dropK kvs k)))) ∧ (valV kvs k = none → Q z H3)
theorem w_dpop2 (h : td σ H fun x H1 => PopB x ty tx σ H1 Q) : tDPop2 td ty tx σ H Q := h
theorem w_popB (j : J M G H) (h : M a = some (.dK kvs)) (q : ty σ H fun y H2 => tx σ H2 fun z H3 => PopE a y z H3 Q) : PopB (.ref a) ty tx σ H Q := ⟨a, rfl, .inl ⟨kvs, .inl (j.m _ _ h)⟩, q⟩
theorem dropK_none (h : valV kvs (.inl m : Key) = none) : dropK kvs (.inl m) = kvs := dropK_no (valV_not h)
theorem w_popE (j : J M G H) (h : M a = some (.dK kvs)) (q : ∀ v H', J (upd M a (.dK (dropK kvs (.inl m)))) G H' → Q v H') : PopE a (.int m) y H Q := by
  refine ⟨kvs, .inl m, j.m _ _ h, rfl, fun v _ => q v _ (j.put h), fun e => q y H ?_⟩
  rw [dropK_none e]
  have e2 : upd M a (.dK kvs) = M := by
    funext b; unfold upd; split
    · rename_i hb; rw [hb, h]
    · rfl
  rw [e2]; exact j
theorem w_lenD (j : J M G H) (h : M a = some (.dK kvs) ∨ G a = some (.dK kvs)) (q : Q (.int kvs.length) H) : uLen K [.ref a] H Q := .inr ⟨a, kvs, rfl, h.elim (j.m _ _) (j.g _ _), q⟩
/-- {} -/
theorem w_dnew (h : NewO (.dK []) 0 H Q) : tDNewK σ H Q := h.2
/-- isinstance -/
theorem w_isi (bb : Bool) {n cc : String} (h : TyX K H x (.type n)) (e : kitB n cc = some bb) (q : Q (.bl bb) H) : rIsi K [x, .ty cc] H Q := ⟨x, .ty cc, .type n, .type cc, bb, rfl, .ty cc, h, kit_ty e, q⟩
theorem ty_int : TyX K H (.int m) (.type "int") := .base (.int m)
theorem ty_bl {b : Bool} : TyX K H (.bl b) (.type "bool") := .base (.bl b)
theorem ty_str {z : Str} : TyX K H (.str z) (.type "str") := .base (.str z)
theorem ty_non : TyX K H .non (.type "NoneType") := .base .non
theorem ty_L (h : SqL K H a xs) : TyX K H (.ref a) (.type "list") := by
  rcases h with (h | ⟨o, h⟩) | ⟨o, _, _, h, c, _⟩
  · exact .base (.lst h)
  · exact .base (.frz h)
  · exact .kList h c
theorem ty_T (h : SqT K H a xs) : TyX K H (.ref a) (.type "tuple") := by
  rcases h with (h | ⟨o, h⟩) | ⟨o, _, _, h, c, _⟩
  · exact .base (.tup h)
  · exact .fTuple h
  · exact .kTuple h c
theorem ty_D (h : Rd H a (.dK kvs)) : TyX K H (.ref a) (.type "dict") := by
  rcases h with h | ⟨o, h⟩
  · exact .base (.dK h)
  · exact .fDict h
/-- dict(d), sorted(d), list(xs), tuple(xs) -/
def DictC (xs : List V) (H : Hp) (Q : VK) : Prop := ∃ (a : Addr) (kvs : List (Key × V)), xs = [.ref a] ∧ Rd H a (.dK kvs) ∧ ∀ p, H p = none → Q (.ref p) (upd H p (.dK kvs))
theorem w_dictC (j : J M G H) (h : Hd M G a kvs) (q : NewO (.dK kvs) 0 H Q) : DictC [.ref a] H Q := ⟨a, kvs, rfl, h.rd j, q.2⟩
def ListC (K : PySem.W.Frag) (xs : List V) (H : Hp) (Q : VK) : Prop := ∃ p ys, xs = [.ref p] ∧ (SqL K H p ys ∨ SqT K H p ys) ∧ ∀ l, H l = none → Q (.ref l) (upd H l (.lst ys))
theorem w_listC (h : SqL K H a xs ∨ SqT K H a xs) (q : NewO (.lst xs) 0 H Q) : ListC K [.ref a] H Q := ⟨a, xs, rfl, h, q.2⟩
def TupC (K : PySem.W.Frag) (xs : List V) (H : Hp) (Q : VK) : Prop := ∃ p ys, xs = [.ref p] ∧ ((SqL K H p ys ∧ ∀ l, H l = none → Q (.ref l) (upd H l (.tup ys))) ∨ (SqT K H p ys ∧ Q (.ref p) H))
theorem w_tupC (h : SqL K H a xs) (q : NewO (.tup xs) 0 H Q) : TupC K [.ref a] H Q := ⟨a, xs, rfl, .inl ⟨h, q.2⟩⟩
def SortD (xs : List V) (H : Hp) (Q : VK) : Prop := ∃ (a : Addr) (kvs : List (Key × V)) (ks : List Int), xs = [.ref a] ∧ Rd H a (.dK kvs) ∧ kvs.map (·.1) = ks.map Sum.inl ∧ ks.length < 64 ∧
    ∀ (ys : List Int) (p : Addr), ys.Perm ks → ys.Pairwise (· ≤ ·) → H p = none → Q (.ref p) (upd H p (.lst (ys.map V.int)))
theorem w_sortD {ks : List Int} (j : J M G H) (h : Hd M G a kvs) (e : kvs.map (·.1) = ks.map Sum.inl) (z : ks.length < 64) (q : ∀ ys : List Int, ys.Perm ks → ys.Pairwise (· ≤ ·) → NewO (.lst (ys.map V.int)) 0 H Q) : SortD [.ref a] H Q :=
  ⟨a, kvs, ks, rfl, h.rd j, e, z, fun ys p h1 h2 => (q ys h1 h2).2 p⟩
theorem w_cDict {tr : TA} (h : tr σ H fun vs H1 => DictC vs H1 Q) : tCB (fun xs H Q => ∃ (a : Addr) (kvs : List (Key × V)), xs = [.ref a] ∧ Rd H a (.dK kvs) ∧ ∀ p, H p = none → Q (.ref p) (upd H p (.dK kvs))) tr σ H Q := h
theorem w_cList {tr : TA} (h : tr σ H fun vs H1 => ListC K vs H1 Q) : tCB (fun xs H Q => ∃ p ys, xs = [.ref p] ∧ (SqL K H p ys ∨ SqT K H p ys) ∧ ∀ l, H l = none → Q (.ref l) (upd H l (.lst ys))) tr σ H Q := h
theorem w_cTup {tr : TA} (h : tr σ H fun vs H1 => TupC K vs H1 Q) : tCB (fun xs H Q => ∃ p ys, xs = [.ref p] ∧ ((SqL K H p ys ∧ ∀ l, H l = none → Q (.ref l) (upd H l (.tup ys))) ∨ (SqT K H p ys ∧ Q (.ref p) H))) tr σ H Q := h
theorem w_cSortD {tr : TA} (h : tr σ H fun vs H1 => SortD vs H1 Q) : tCB (fun xs H Q => ∃ (a : Addr) (kvs : List (Key × V)) (ks : List Int), xs = [.ref a] ∧ Rd H a (.dK kvs) ∧ kvs.map (·.1) = ks.map Sum.inl ∧ ks.length < 64 ∧
    ∀ (ys : List Int) (p : Addr), ys.Perm ks → ys.Pairwise (· ≤ ·) → H p = none → Q (.ref p) (upd H p (.lst (ys.map V.int)))) tr σ H Q := h
/-- x in xs, flat items -/
theorem w_inT {neg : Bool} (j : J M G H) (h : SqT K G a xs) (hx : flatV x = true) (hf : xs.all flatV = true) (q : Q (.bl (if neg then !inV x xs else inV x xs)) H) : rIn K neg x (.ref a) H Q := ⟨a, xs, rfl, .inr (st_mono j.g h), hx, hf, q⟩
theorem w_inL {neg : Bool} (j : J M G H) (h : SqL K G a xs) (hx : flatV x = true) (hf : xs.all flatV = true) (q : Q (.bl (if neg then !inV x xs else inV x xs)) H) : rIn K neg x (.ref a) H Q := ⟨a, xs, rfl, .inl (sl_mono j.g h), hx, hf, q⟩
end
section
variable {X : Cx} {K : PySem.W.Frag}
theorem call_listC (h : X.K = K) : CallR X (.type "list") (ListC K) := h ▸ call_list_of
theorem call_tupC (h : X.K = K) : CallR X (.type "tuple") (TupC K) := h ▸ call_tuple_of
theorem call_dictC : CallR X (.type "dict") DictC := call_dictD
theorem call_sortDC (hc : X.calm = true) : CallR X (.builtin "sorted") SortD := call_sortedDI hc
end
/-! ### errors of the program: raised, let through, caught -/
structure Xc (K : PySem.W.Frag) (mg : Str → Option Value) (x : Str) (C : Addr) : Prop where
  gP : mg x = some (.ref C)
  xP : PySem.W.excIn K C [.type "ValueError", .type "Exception", .type "BaseException", .type "object"] "ValueError.__new__" = true
  kP : PySem.W.keepIn K (.ref C) = true
  bP : PySem.W.subIn K (.ref C) (.type "BaseException") = some true
  tP : PySem.W.typeIn K (.ref C) = some (.type "type")
  hD : PySem.W.hasDictIn K C = true
  sP : PySem.W.subIn K (.ref C) (.ref C) = some true
  hg : PySem.W.findIn K (.ref C) "__getattribute__" = some (some (.builtin "BaseException.__getattribute__"))
  hk : PySem.W.findIn K (.ref C) "__getattr__" = some none
  ha : PySem.W.findIn K (.ref C) "__class__" = some (some (.builtin "object.__class__"))
  hn : PySem.W.specialIn K (.builtin "object.__class__") "__get__" = some (some (.builtin "getset_descriptor.__get__"))
  ht : PySem.W.takesIn K (.builtin "object.__class__") = some true
  hm : PySem.W.mroIn K C (.type "object") = some true
theorem Xc.excC {K : PySem.W.Frag} {mg : Str → Option Value} {x : Str} {C : Addr} (X : Xc K mg x C) : ExcC K C := ⟨X.hg, X.hk, X.bP, X.hD, X.ha, X.hn, X.ht, X.hm⟩
theorem Xc.exm {K : PySem.W.Frag} {mg : Str → Option Value} {x : Str} {C : Addr} (X : Xc K mg x C) : PySem.W.exmOne K (.ref C) (.ref C) = some true := PySem.W.exm_ref X.bP X.hD X.tP X.sP
theorem Xc.g {K : PySem.W.Frag} {mg : Str → Option Value} {x : Str} {C : Addr} (X : Xc K mg x C) : ∃ u, mg x = some u ∧ RelV (.ref C) u := ⟨_, X.gP, rfl⟩
/-- a promise that tells how it may raise -/
def Sx {α : Type} (pre : α → List V → Hp → Hp → Prop) (post : α → Hp → Hp → V → Hp → Hp → Prop) (exc : α → Hp → Hp → Addr → Hp → Hp → Prop) : Sp := fun vs H Q E =>
  ∃ a M G, J M G H ∧ pre a vs M G ∧ (∀ v M' G' H', J M' G' H' → Ex G G' → post a M G v M' G' → Q v H') ∧ ∀ C M' G' H', J M' G' H' → Ex G G' → exc a M G C M' G' → E (.ref C) none H'
theorem w_sx {α : Type} {pre : α → List V → Hp → Hp → Prop} {post : α → Hp → Hp → V → Hp → Hp → Prop} {exc : α → Hp → Hp → Addr → Hp → Hp → Prop} {vs : List V} {M G H : Hp} {Q : VK} {E : XK} (a : α) (j : J M G H) (hp : pre a vs M G)
    (k : ∀ v M' G' H', J M' G' H' → Ex G G' → post a M G v M' G' → Q v H') (kx : ∀ C M' G' H', J M' G' H' → Ex G G' → exc a M G C M' G' → E (.ref C) none H') : Sx pre post exc vs H Q E := ⟨a, M, G, j, hp, k, kx⟩
theorem Dn.okX {P : Program} {w : World} {K : PySem.W.Frag} {mg : Str → Option Value} {base : Heap} {x : Str} {st : Stmt} {ps : List Str} {f : Addr} {fd : FuncData} {N : List Str} {k : Nat} {sp : Sp} (D : Dn K mg x st ps f fd) (S : FnScope N ps (defScope st)) (len : ∀ vs H Q E, sp vs H Q E → vs.length = ps.length)
    (hbody : ∀ (cdv : Value) (A : Around) (outer : List Env) (s : Shared) (H : Hp) (vs : List V) (Q : VK) (E : XK), Room k (A.deeper (envOfC x (defScope st) s.heap.objs.size f cdv)) → sp vs H Q E →
      ∃ t, PSs (cxOf (L2.CX P w) P w K mg base N x (defScope st) f cdv A outer s H E) (defBody st) t ∧ t { nx := fun _ H' => Q .non H', rt := Q } (start N vs) H) : Cal P w K mg base (L2.CX P w) (k + 1) x sp :=
  D.cal (D.fn.okX S len hbody)
/-- a call of what may raise, where an error is wished for -/
theorem pe_calX {X : Cx} {k j : Nat} {x : Str} {sp : Sp} {p pos : Pos} {e : Expr} {es : List Expr} {t : TA} {W : WX} (c : Cal X.prog X.w X.K X.mg X.base (L2.CX X.prog X.w) k x sp) (hr : Room j X.A) (hk : k ≤ j) (hg : Gl X x) (tk : Takes X W) (ha : PA X (e :: es) t)
    (hdb : (x == ("__debug__" : Str)) = false := by decide) (he : starEach (e :: es) X.env = (false, eval e X.env) :: starEach es X.env := by rfl) (hpl : (backTo pos (starEach es X.env)).any (·.1) = false := by rfl) :
    PE X (.Call (.Name x p) (e :: es) [] pos) (tCallS sp (WE W) t) := by
  obtain ⟨f, fd, ps, F, hm, kp, b⟩ := c.ex
  exact pe_callS F (hr.mono hk) hg hm kp b (fun σ => passAt tk σ) ha hdb he hpl
theorem w_callS {sp : Sp} {E : L2.St → XK} {t : TA} {σ : L2.St} {H : Hp} {Q : VK} (h : t σ H fun vs H1 => sp vs H1 Q (E σ)) : tCallS sp E t σ H Q := h
def tRaiseA (C : Addr) (W : WX) : TS := fun _ σ H => W (.ref C) none σ H
theorem ps_raiseA {X : Cx} {W : WX} {x m : Str} {C : Addr} {j : Nat} {p p2 pos pos2 : Pos} (hc : X.calm = true) (tk : Takes X W) (h : Xc X.K X.mg x C) (hg : Gl X x) (hdb : (x == ("__debug__" : Str)) = false := by decide) :
    PS X (.Raise (some (.Call (.Name x p) [.Constant (.str m) j p2] [] pos)) none pos2) (tRaiseA C W) := ps_raise hc tk (pmk_own PySem.F.excBase_ValueError h.xP h.gP h.kP (raises_own h.bP h.tP) hg hdb)
theorem w_raise {C : Addr} {W : WX} {D : Ends} {σ : L2.St} {H : Hp} (h : W (.ref C) none σ H) : tRaiseA C W D σ H := h
def tTryA (K : PySem.W.Frag) (c : Value) (i : Nat) (tb : WX → TS) (ts : Addr → Value → Option Addr → TS) (Wout : WX) : TS := fun D σ H => tb (wAs K c i ts Wout D) D σ H
theorem w_tryA {K : PySem.W.Frag} {c : Value} {i : Nat} {tb : WX → TS} {ts : Addr → Value → Option Addr → TS} {Wout : WX} {D : Ends} {σ : L2.St} {H : Hp} (h : tb (wAs K c i ts Wout D) D σ H) : tTryA K c i tb ts Wout D σ H := h
theorem ps_tryA {X : Cx} {x n : Str} {c : Value} {i : Nat} {body suite : List Stmt} {b₀ : Stmt} {np pos pos' : Pos} {tb : WX → TS} {ts : Addr → Value → Option Addr → TS} {Wout : WX} (hs : X.stack = X.env :: X.outer) (hf : X.env.frame = some X.env.locals) (hN : X.N.Nodup) (hi : X.N[i]? = some n) (hln : X.env.kindOf n = some .local) (hc : Names X x c) (tk : Takes X Wout)
    (hb : ∀ (W : WX) (pn : List (Addr × Obj)) (xe : Value → Shared → Prop), Takes (X.tr pn xe) W → PassesOwn (model X.prog X.w) X.A X.env xe → PSs (X.tr pn xe) body (tb W))
    (hsu : ∀ (a : Addr) (oe : Obj) (cls : Value) (d : Option Addr) (pn : List (Addr × Obj)), Zc cls d oe → (∃ vs, oe.data = .fields vs) → PSs (X.suite a ((a, oe) :: pn)) (b₀ :: suite) (ts a cls d)) :
    PS X (.Try body [.ExceptHandler (some (.Name x np)) (some n) (b₀ :: suite) pos'] [] [] pos) (tTryA X.K c i tb ts Wout) := ps_try_as hs hf hN hi hln hc tk hb hsu
/-- a fact that the suite's rules want is asked of its reading -/
theorem pss_given {X : Cx} {b : List Stmt} {t : TS} {p : Prop} (h : p → PSs X b t) : PSs X b (fun D σ H => p ∧ t D σ H) := ⟨fun pins s σ H D I z => (h z.1).run pins s σ H D I z.2⟩
/-- what a caught error of the class C asks -/
theorem w_caught {K : PySem.W.Frag} {c : Value} {C : Addr} {i : Nat} {ts : Addr → Value → Option Addr → TS} {Wout : WX} {D : Ends} {σ : L2.St} {H : Hp} (e : PySem.W.exmOne K (.ref C) c = some true)
    (h : ∀ a, H a = none → ts a (.ref C) none { nx := fun σ' H' => D.nx (σ'.set i none) H', rt := D.rt, bk := fun σ' H' => D.bk (σ'.set i none) H', ct := fun σ' H' => D.ct (σ'.set i none) H' } (σ.set i (some (.ref a))) H) : wAs K c i ts Wout D (.ref C) none σ H :=
  ⟨true, e, fun _ => h, fun q => Bool.noConfusion q⟩
theorem w_isE {K : PySem.W.Frag} {D a C : Addr} {b : Bool} {H : Hp} {Q : VK} (e : PySem.W.kitOne K (.ref D) (.ref C) = some b) (q : Q (.bl b) H) : rIsE K D a [.ref a, .ref C] H Q := ⟨.ref C, .ref C, b, rfl, fun _ r => r, e, q⟩
theorem w_seqP {t : TS} {u : TS} {D : Ends} {σ : L2.St} {H : Hp} (Pm : L2.St → Hp → Prop) (rest : ∀ σ H, Pm σ H → u D σ H) (first : (∀ σ H, Pm σ H → u D σ H) → t { D with nx := u D } σ H) : tSeq t u D σ H := first rest
/-- a op1 b op2 c op3 d -/
def tChain3 (r1 r2 r3 : R2) (ta tb tc td : TE) : TE := fun σ H Q => ta σ H fun x H1 => tb σ H1 fun y H2 => r1 x y H2 fun z H3 => ∃ k, z = .bl k ∧
  (if k = true then tc σ H3 fun u H4 => r2 y u H4 fun z2 H5 => ∃ k2, z2 = .bl k2 ∧ (if k2 = true then td σ H5 fun v H6 => r3 u v H6 Q else Q (.bl false) H5) else Q (.bl false) H3)
theorem pe_chain3 {X : Cx} {o1 o2 o3 : CmpOp} {r1 r2 r3 : R2} {a b c d : Expr} {ta tb tc td : TE} {pos : Pos} (h1 : OpR X (compareOp o1) r1) (h2 : OpR X (compareOp o2) r2) (h3 : OpR X (compareOp o3) r3) (ha : PE X a ta) (hb : PE X b tb) (hc : PE X c tc) (hd : PE X d td)
    (hm : lastMarks [o1, o2, o3] [b, c, d] = false := by with_unfolding_all rfl) : PE X (.Compare a [o1, o2, o3] [b, c, d] pos) (tChain3 r1 r2 r3 ta tb tc td) := by
  refine ⟨fun pins s σ H Q I h => Compare_chain (thn (ha.run pins s σ H _ I h) fun v0 s1 ⟨x, H1, I1, q1, w1⟩ => chain_link (thn (hb.run pins s1 σ H1 _ I1 w1) fun u0 s2 ⟨y, H2, I2, q2, w2⟩ => thn (h1 pins s2 σ H2 x y v0 u0 _ I2 q1 q2 w2) fun e0 s3 ⟨z, H3, I3, q3, k, ez, w3⟩ => ?_)) hm⟩
  subst ez; cases q3
  refine wpAny_truthy_bool ?_
  cases k with
  | false => exact ite_ff ⟨.bl false, H3, I3, rfl, w3⟩
  | true =>
    refine ite_tt (chain_link (thn (hc.run pins s3 σ H3 _ I3 w3) fun u1 s4 ⟨y1, H4, I4, q4, w4⟩ => thn (h2 pins s4 σ H4 y y1 u0 u1 _ I4 q2 q4 w4) fun e1 s5 ⟨z1, H5, I5, q5, k1, ez1, w5⟩ => ?_))
    subst ez1; cases q5
    refine wpAny_truthy_bool ?_
    cases k1 with
    | false => exact ite_ff ⟨.bl false, H5, I5, rfl, w5⟩
    | true => exact ite_tt (chain_last (thn (hd.run pins s5 σ H5 _ I5 w5) fun u2 s6 ⟨y2, H6, I6, q6, w6⟩ => h3 pins s6 σ H6 y1 y2 u1 u2 Q I6 q4 q6 w6))
theorem w_chain3 {r1 r2 r3 : R2} {ta tb tc td : TE} {σ : L2.St} {H : Hp} {Q : VK} (h : ta σ H fun x H1 => tb σ H1 fun y H2 => r1 x y H2 fun z H3 => ∃ k, z = .bl k ∧
  (if k = true then tc σ H3 fun u H4 => r2 y u H4 fun z2 H5 => ∃ k2, z2 = .bl k2 ∧ (if k2 = true then td σ H5 fun v H6 => r3 u v H6 Q else Q (.bl false) H5) else Q (.bl false) H3)) : tChain3 r1 r2 r3 ta tb tc td σ H Q := h
/-- tuples that stand: what is behind + and a slice stands too -/
theorem w_catT {K : PySem.W.Frag} {M G H : Hp} {a b : Addr} {xs ys : List V} {Q : VK} (j : J M G H) (h1 : SqT K G a xs) (h2 : SqT K G b ys) (z : xs.length + ys.length ≤ 1000000)
    (k : ∀ p G' H', J M G' H' → Ex G G' → SqT K G' p (xs ++ ys) → Q (.ref p) H') : uAdd K (.ref a) (.ref b) H Q :=
  .inr (.inr ⟨a, b, xs, ys, rfl, rfl, st_mono j.g h1, st_mono j.g h2, sz_le z, fun e => k b G H j (Same.refl G) (by subst e; exact h2), fun _ e => k a G H j (Same.refl G) (by subst e; rw [List.append_nil]; exact h1),
    fun _ _ p hp => k p _ _ (j.newG hp) (Ex.new (j.freeG hp)) (st_of upd_same)⟩)
theorem cut_all {xs : List V} {lo hi : Option Int} (h : HT.sIx xs.length 0 lo = 0 ∧ HT.sIx xs.length xs.length hi = xs.length) : cutV xs lo hi = xs := by
  unfold cutV
  rw [h.1, h.2]
  simp
theorem w_slTG {K : PySem.W.Frag} {M G H : Hp} {a : Addr} {xs : List V} {lo hi : Option Int} {Q : VK} (j : J M G H) (h : SqT K G a xs)
    (k : ∀ p G' H', J M G' H' → Ex G G' → SqT K G' p (cutV xs lo hi) → Q (.ref p) H') : uSl K (.ref a) lo hi H Q :=
  w_slT j h (fun e => k a G H j (Same.refl G) (by rw [cut_all e]; exact h)) fun _ => ⟨Nat.zero_le _, fun p hp => k p _ _ (j.newG hp) (Ex.new (j.freeG hp)) (st_of upd_same)⟩
theorem cut_sub {xs : List V} {lo hi : Option Int} {v : V} (h : v ∈ cutV xs lo hi) : v ∈ xs := by
  unfold cutV at h
  first
    | exact List.mem_of_mem_drop (List.mem_of_mem_take h)
    | exact List.mem_of_mem_take (List.mem_of_mem_drop h)
theorem cut_len {xs : List V} {lo hi : Option Int} : (cutV xs lo hi).length ≤ xs.length := by
  unfold cutV
  simp only [List.length_take, List.length_drop]
  omega
theorem kit_no {K : PySem.W.Frag} {A B : Addr} (h0 : (Value.ref A == Value.ref B) = false) (h1 : PySem.W.isClsIn K B = true) (h2 : PySem.W.typeIn K (.ref B) = some (.type "type")) (h3 : PySem.W.subIn K (.ref A) (.ref B) = some false) : PySem.W.kitOne K (.ref A) (.ref B) = some false := by
  have e : ((PySem.W.clsIn K B).isSome && PySem.W.typeIn K (.ref B) == some (.type "type")) = true := by rw [show (PySem.W.clsIn K B).isSome = true from h1, h2]; rfl
  unfold PySem.W.kitOne
  rw [h0, if_neg Bool.false_ne_true]
  exact (if_pos e).trans h3
end Nz

namespace Nz
open PySem L2 PySem.Spec PyProof.Rows
local macro_rules
  | `(tactic| walk_at "v") => `(tactic| first
    | with_reducible refine w_asg ?_
    | ((with_reducible refine' w_var ?h ?_); (case h => rfl))
    | with_reducible refine w_c ?_
    | with_reducible refine w_op ?_
    | with_reducible refine w_if ?_
    | with_reducible refine w_test ?_
    | with_reducible refine w_bl ?_
    | with_reducible refine w_ret ?_
    | with_reducible refine w_gName ?_
    | with_reducible refine w_call ?_
    | with_reducible refine w_acons ?_
    | with_reducible refine w_anil ?_
    | with_reducible refine w_cDict ?_
    | with_reducible refine w_cList ?_
    | with_reducible refine w_cTup ?_
    | with_reducible refine w_cSortD ?_
    | with_reducible refine w_cb ?_
    | with_reducible refine w_next ?_
    | with_reducible refine w_drop ?_
    | with_reducible refine w_gSub ?_
    | with_reducible refine w_addI ?_
    | with_reducible refine w_I0 ?_
    | ((with_reducible refine' w_I ?hc ?_); (case hc => first | decide | exact ⟨by decide, by decide⟩ | exact ⟨by decide, by decide, by decide⟩))
    | ((with_reducible refine' w_mulI ?hc ?_); (case hc => first | exact .inr (by decide) | exact .inl (by decide)))
    | with_reducible refine w_eqI ?_
    | with_reducible refine w_neI ?_
    | with_reducible refine w_U ?_
    | with_reducible refine w_un ?_
    | with_reducible refine w_and ?_
    | with_reducible refine w_or ?_
    | with_reducible refine w_not ?_
    | with_reducible refine w_andV ?_
    | with_reducible refine w_orV ?_
    | with_reducible refine w_notV ?_
    | with_reducible refine w_ifE ?_
    | with_reducible refine w_isN ?_
    | with_reducible refine w_notN ?_
    | with_reducible refine w_tB ?_
    | with_reducible refine w_chain ?_
    | with_reducible refine w_chain3 ?_
    | with_reducible refine w_callS ?_
    | with_reducible refine w_raise ?_
    | with_reducible refine w_tryA ?_
    | with_reducible refine w_tup ?_
    | with_reducible refine w_lst ?_
    | with_reducible refine w_bm ?_
    | with_reducible refine w_sl ?_
    | with_reducible refine w_retN ?_
    | with_reducible refine w_forR ?_
    | ((with_reducible refine' w_eqS ?he ?_); (case he => first | exact decide_eq_true rfl | exact decide_eq_false (by decide +kernel)))
    | with_reducible refine w_T ?_
    | with_reducible refine w_nt ?_
    | with_reducible refine w_nf ?_
    | with_reducible refine w_F ?_
    | with_reducible refine w_part ?_
    | with_reducible refine w_partX ?_
    | with_reducible refine w_nopart ?_
    | with_reducible refine w_dget1 ?_
    | with_reducible refine w_dget2 ?_
    | with_reducible refine w_dget ?_
    | with_reducible refine w_din ?_
    | with_reducible refine w_dnotin ?_
    | with_reducible refine w_dput ?_
    | with_reducible refine w_dpop2 ?_
    | with_reducible refine w_dnew ?_
    | ((with_reducible refine' w_isi true ?hh ?e ?_); (case hh => first | exact ty_int | exact ty_bl | exact ty_str | exact ty_non); (case e => rfl))
    | ((with_reducible refine' w_isi false ?hh ?e ?_); (case hh => first | exact ty_int | exact ty_bl | exact ty_str | exact ty_non); (case e => rfl))
    | with_reducible refine w_lcR ?_
    | with_reducible refine w_lcL ?_)
local macro_rules
  | `(tactic| walk_at "w") => `(tactic| first | with_reducible refine w_seq ?_ | walk_at "v")
local macro_rules
  | `(tactic| walk_at "to") => `(tactic| ((repeat walk_at "v"); (try dsimp only [Int.reduceToNat, Int.reducePow, Int.reduceNeg, Int.reduceMul]); (with_reducible show tSeq _ _ _ _ _)))
local macro_rules
  | `(tactic| walk_at "go") => `(tactic| ((repeat walk_at "w"); (try dsimp only [Int.reduceToNat, Int.reducePow, Int.reduceNeg, Int.reduceMul])))
local macro_rules
  | `(tactic| walk_at "start") => `(tactic| ((try dsimp only [cxOf]); (repeat walk_at "w"); (try dsimp only [Int.reduceToNat, Int.reducePow, Int.reduceNeg, Int.reduceMul])))
local macro_rules
  | `(tactic| walk_at "ix") => `(tactic| first
    | refine w_ixT (by assumption) (st_of (by assumption)) (by rfl) ?_
    | refine w_ixL (by assumption) (sl_of (by assumption)) (by rfl) ?_
    | refine w_ixT (by assumption) (by assumption) (by rfl) ?_
    | refine w_ixL (by assumption) (by assumption) (by rfl) ?_
    | refine w_ixM (by assumption) (by assumption) (by rfl) ?_)
local macro_rules
  | `(tactic| walk_at "gx") => `(tactic| (repeat (first | walk_at "w" | walk_at "ix")); (try dsimp only [Int.reduceToNat, Int.reducePow, Int.reduceNeg, Int.reduceMul]))

def top (i : Nat) : Stmt := PySem.Challenge.pw_wholecloth_k01_deals_are_checked.main.body.getD i (.Pass ⟨0, 0, 0, 0⟩)
/-! ### _law_mixed -/
abbrev s_law_mixed : Stmt := top 16
abbrev n_law_mixed : List Str := ["number", "k", "step"]
theorem sc_law_mixed : FnScope n_law_mixed ["number", "k"] (defScope s_law_mixed) := ⟨rfl, rfl, rfl, by decide +kernel, rfl, by decide +kernel, by decide +kernel⟩
def mixed (n k : Int) : Int :=
  ((n * 48271 + k * 69621 + 12345) % 2147483647 * ((n * 48271 + k * 69621 + 12345) % 2147483647 / 65536 + 3) + k) % 2147483647
theorem mixed_b (n k : Int) : 0 ≤ mixed n k ∧ mixed n k < 2147483647 := by
  unfold mixed
  exact ⟨Int.emod_nonneg _ (by decide), Int.emod_lt_of_pos _ (by decide)⟩
def sp_law_mixed (K : PySem.W.Frag) : Sp := Sg (α := Int × Int) (fun a vs _ _ => vs = [.int a.1, .int a.2]) (fun a M _ v M' _ => v = .int (mixed a.1 a.2) ∧ M' = M)
theorem ok_law_mixed {P : Program} {w : World} {K : PySem.W.Frag} {mg : Str → Option Value} {base : Heap}
    {f : Addr} {fd : FuncData} (D : Dn K mg "_law_mixed" s_law_mixed ["number", "k"] f fd) : Cal P w K mg base CX0 1 "_law_mixed" (sp_law_mixed K) := by
  refine D.ok sc_law_mixed (fun vs H Q E h => ?_) fun cdv A outer s H vs Q E hr h => ?_
  · obtain ⟨a, M, G, j, rfl, _⟩ := h; rfl
  obtain ⟨⟨n, k⟩, M, G, j, rfl, q⟩ := h
  refine ⟨_, (pss_cons (ps_set (i := 2) sc_law_mixed.nd rfl (Or.inl rfl) (pe_op op_mod (pe_op (op_uAddK (K := K) rfl) (pe_op (op_uAddK (K := K) rfl) (pe_op op_uMul (pv 0) pe_int) (pe_op op_uMul (pv 1) pe_int)) pe_int) pe_int))
(pss_one (ps_ret (pe_op op_mod (pe_op (op_uAddK (K := K) rfl) (pe_op op_uMul (pv 2) (pe_op (op_uAddK (K := K) rfl) (pe_op op_fdiv (pv 2) pe_int) pe_int)) (pv 1)) pe_int)))), ?_⟩
  walk_at "start"
  refine w_mulI (.inl ?_) ?_
  · have h1 := Int.emod_nonneg (n * 48271 + k * 69621 + 12345) (b := 2147483647) (by decide)
    have h2 := Int.emod_lt_of_pos (n * 48271 + k * 69621 + 12345) (b := 2147483647) (by decide)
    omega
  walk_at "go"
  exact q _ _ _ _ j (Same.refl G) ⟨rfl, rfl⟩
/-! ### _law_numbers -/
abbrev s_law_numbers : Stmt := top 17
abbrev n_law_numbers : List Str := ["script", "numbers", "cell", "rest", "k"]
theorem sc_law_numbers : FnScope n_law_numbers ["script"] (defScope s_law_numbers) := ⟨rfl, rfl, rfl, by decide +kernel, rfl, by decide +kernel, by decide +kernel⟩
def sp_law_numbers (K : PySem.W.Frag) : Sp := Sg (α := Addr × List Int) (fun a vs M G => vs = [.ref a.1] ∧ SqL K G a.1 (a.2.map V.int) ∧ a.2.length ≤ 63)
  (fun a M _ v M' G' => ∃ (t : Addr) (ns : List Int), v = .ref t ∧ G' t = some (.lst (ns.map V.int)) ∧ (∀ n ∈ ns, 0 ≤ n ∧ n < 1000000) ∧ M' = M)
theorem nums_snoc {ns : List Int} {n : Int} (h : ∀ n ∈ ns, 0 ≤ n ∧ n < 1000000) (hn : 0 ≤ n ∧ n < 1000000) : ∀ m ∈ ns ++ [n], 0 ≤ m ∧ m < 1000000 := by
  intro m hm
  rcases List.mem_append.mp hm with hm | hm
  · exact h m hm
  · rw [List.mem_singleton.mp hm]; exact hn
theorem mod_b (n : Int) : 0 ≤ n % 1000000 ∧ n % 1000000 < 1000000 := ⟨Int.emod_nonneg _ (by decide), Int.emod_lt_of_pos _ (by decide)⟩
/-- between the turns: d holds at most m numbers -/
def NumsI (M G : Hp) (a d : Addr) (m : Nat) (σ : L2.St) (H : Hp) : Prop := ∃ (ns : List Int) (G1 : Hp) (x y z : Option V), J (upd M d (.lst (ns.map V.int))) G1 H ∧ Ex G G1 ∧ (∀ n ∈ ns, 0 ≤ n ∧ n < 1000000) ∧ ns.length ≤ m ∧
  σ = [some (.ref a), some (.ref d), x, y, z]
def NumsJ (M G : Hp) (a d : Addr) (m : Nat) (c : Int) (σ : L2.St) (H : Hp) : Prop := ∃ (ns : List Int) (G1 : Hp) (y z : Option V), J (upd M d (.lst (ns.map V.int))) G1 H ∧ Ex G G1 ∧ (∀ n ∈ ns, 0 ≤ n ∧ n < 1000000) ∧ ns.length ≤ m ∧
  σ = [some (.ref a), some (.ref d), some (.int c), y, z]
def NumsR (M G : Hp) (a d : Addr) (m : Nat) (c : Int) (σ : L2.St) (H : Hp) : Prop := ∃ (ns : List Int) (G1 : Hp) (r : Int) (z : Option V), J (upd M d (.lst (ns.map V.int))) G1 H ∧ Ex G G1 ∧ (∀ n ∈ ns, 0 ≤ n ∧ n < 1000000) ∧ ns.length ≤ m ∧
  σ = [some (.ref a), some (.ref d), some (.int c), some (.int r), z]
theorem ok_law_numbers {P : Program} {w : World} {K : PySem.W.Frag} {mg : Str → Option Value} {base : Heap}
    {f : Addr} {fd : FuncData} (D : Dn K mg "_law_numbers" s_law_numbers ["script"] f fd)
    (b_range : mg "range" = none)
    (c_law_mixed : Cal P w K mg base CX0 1 "_law_mixed" (sp_law_mixed K)) : Cal P w K mg base CX0 2 "_law_numbers" (sp_law_numbers K) := by
  refine D.ok sc_law_numbers (fun vs H Q E h => ?_) fun cdv A outer s H vs Q E hr h => ?_
  · obtain ⟨a, M, G, j, ⟨rfl, _⟩, _⟩ := h; rfl
  obtain ⟨⟨a, cs⟩, M, G, j, ⟨rfl, ha, hl⟩, k⟩ := h
  refine ⟨_, (pss_cons (ps_set (i := 1) sc_law_numbers.nd rfl (Or.inl rfl) (pe_lst pa_nil))
(pss_cons (ps_for PassesOwn.never rfl (pi_list (pv 0)) (pg_name (i := 2) sc_law_numbers.nd rfl (Or.inl rfl))
(pss_one (ps_if (pt_cmpR op_ge (pv 2) (pe_op op_pow pe_int pe_int) (nomark _))
(pss_cons (ps_set (i := 3) sc_law_numbers.nd rfl (Or.inl rfl) (pv 2))
(pss_one (ps_for PassesOwn.never rfl (pi_range1 (by rfl) b_range (pa_cons pe_int pa_nil)) (pg_name (i := 4) sc_law_numbers.nd rfl (Or.inl rfl))
(pss_one (ps_if (pt_cmpR op_gt (pv 3) pe_int (nomark _))
(pss_cons (ps_expr (pe_bm PySem.F.plainAttrs_list PySem.F.slot_list_append PySem.F.type_list_append mt_append (pv 1) (pa_cons (pe_op op_mod (pv 3) pe_int) pa_nil)))
(pss_one (ps_set (i := 3) sc_law_numbers.nd rfl (Or.inl rfl) (pe_op op_fdiv (pv 3) pe_int))))
pss_nil)))))
(pss_cons (ps_expr (pe_bm PySem.F.plainAttrs_list PySem.F.slot_list_append PySem.F.type_list_append mt_append (pv 1) (pa_cons (pe_op op_mod (pv 2) pe_int) pa_nil)))
(pss_one (ps_for PassesOwn.never rfl (pi_range1 (by rfl) b_range (pa_cons pe_int pa_nil)) (pg_name (i := 4) sc_law_numbers.nd rfl (Or.inl rfl))
(pss_one (ps_expr (pe_bm PySem.F.plainAttrs_list PySem.F.slot_list_append PySem.F.type_list_append mt_append (pv 1) (pa_cons (pe_op op_mod (pe_cal c_law_mixed hr (by first | decide | omega) (by rfl) (pa_cons (pe_cal c_law_mixed hr (by first | decide | omega) (by rfl) (pa_cons (pe_op op_mod (pv 2) pe_int) (pa_cons (pv 4) pa_nil))) (pa_cons (pe_op (op_uAddK (K := K) rfl) (pv 4) pe_int) pa_nil))) pe_int) pa_nil))))))))))
(pss_one (ps_ret (pv 1))))), ?_⟩
  walk_at "start"
  refine w_newM j (by decide) fun d H1 j1 nM nG => ?_
  walk_at "go"
  refine w_forLV rfl (NumsI M G a d ∘ (60 * ·)) (xs := cs.map V.int) (sl_mono j1.g ha) ⟨[], G, _, _, _, j1, Same.refl G, by simp, Nat.le_refl _, rfl⟩ (fun i σ H _ ⟨ns, G1, _, _, _, j, e, _⟩ => sl_mono (e.trans j.g) ha) ?_ ?_
  · rintro i x σ H hi ⟨ns, G1, x0, y0, z0, j, e, hn, hz, rfl⟩
    dsimp only at ha hl
    obtain ⟨c, rfl⟩ : ∃ c, x = V.int c := by
      rw [List.getElem?_map] at hi
      cases h : cs[i]? with
      | none => rw [h] at hi; cases hi
      | some c => rw [h] at hi; exact ⟨c, (Option.some.inj hi).symm⟩
    have hi' : i < 63 := by
      have := (List.getElem?_eq_some_iff.mp hi).1
      rw [List.length_map] at this; omega
    dsimp only at hz
    walk_at "go"
    refine w_dec (fun h1 => ?_) (fun h1 => ?_)
    · walk_at "go"
      refine w_rng (fun t => NumsR M G a d (60 * i + t) c) ⟨ns, G1, c, _, j, e, hn, hz, rfl⟩ ?_ ?_
      · rintro t σ H ht ⟨ns, G1, r, z, j, e, hn, hz, rfl⟩
        have ht : t < 60 := ht
        walk_at "go"
        refine w_dec (fun h2 => ?_) (fun h2 => ?_)
        · walk_at "go"
          refine ⟨ty_listU j, ?_⟩
          walk_at "go"
          refine w_appendU j (by rw [List.length_map]; omega) fun H' j' => ?_
          walk_at "go"
          exact ⟨ns ++ [r % 1000000], G1, r / 1000000, _, by rw [← map_snoc]; exact j', e, nums_snoc hn (mod_b r), by rw [List.length_append, List.length_singleton]; omega, rfl⟩
        · walk_at "go"
          exact ⟨ns, G1, r, _, j, e, hn, by omega, rfl⟩
      · rintro σ H ⟨ns, G1, r, z, j, e, hn, hz, rfl⟩
        exact ⟨ns, G1, _, _, _, j, e, hn, hz, rfl⟩
    · walk_at "go"
      refine ⟨ty_listU j, ?_⟩
      walk_at "go"
      refine w_appendU j (by rw [List.length_map]; omega) fun H' j' => ?_
      rw [map_snoc] at j'
      walk_at "go"
      refine w_rng (fun t => NumsJ M G a d (60 * i + 1 + t) c) ⟨ns ++ [c % 1000000], G1, _, _, j', e, nums_snoc hn (mod_b c), by rw [List.length_append, List.length_singleton]; omega, rfl⟩ ?_ ?_
      · rintro t σ H ht ⟨ns, G1, y, z, j, e, hn, hz, rfl⟩
        have ht : t < 5 := ht
        walk_at "go"
        refine ⟨ty_listU j, ?_⟩
        walk_at "go"
        refine w_sg (_, _) j rfl fun v M' G' H' j2 e2 ⟨ev, em⟩ => ?_
        subst ev em
        walk_at "go"
        refine w_sg (_, _) j2 rfl fun v M' G' H' j3 e3 ⟨ev, em⟩ => ?_
        subst ev em
        walk_at "go"
        refine w_appendU j3 (by rw [List.length_map]; omega) fun H' j' => ?_
        rw [map_snoc] at j'
        exact ⟨_, _, _, _, j', (e.trans e2).trans e3, nums_snoc hn (mod_b _), by rw [List.length_append, List.length_singleton]; omega, rfl⟩
      · rintro σ H ⟨ns, G1, y, z, j, e, hn, hz, rfl⟩
        exact ⟨ns, G1, _, _, _, j, e, hn, by show ns.length ≤ 60 * (i + 1); have : ns.length ≤ 60 * i + 1 + 5 := hz; omega, rfl⟩
  · rintro σ H ⟨ns, G1, x, y, z, j, e, hn, hz, rfl⟩
    walk_at "go"
    exact k _ _ _ _ (j.freeze nM) (e.trans (Ex.new j.freezeG)) ⟨d, ns, rfl, upd_same, hn, rfl⟩
/-! ### _law_draw -/
abbrev s_law_draw : Stmt := top 18
abbrev n_law_draw : List Str := ["draws", "at", "first"]
theorem sc_law_draw : FnScope n_law_draw ["draws"] (defScope s_law_draw) := ⟨rfl, rfl, rfl, by decide +kernel, rfl, by decide +kernel, by decide +kernel⟩
/-- the law's draws: a list of the numbers and of the place -/
def Dr (K : PySem.W.Frag) (M G : Hp) (p : Addr) : Prop :=
  ∃ (q : Addr) (ns : List Int) (at_ : Int), M p = some (.lst [.ref q, .int at_]) ∧ SqL K G q (ns.map V.int) ∧ (∀ n ∈ ns, 0 ≤ n ∧ n < 1000000) ∧ 0 ≤ at_
theorem Dr.ex {K : PySem.W.Frag} {M G G' : Hp} {p : Addr} (d : Dr K M G p) (e : Ex G G') : Dr K M G' p := by
  obtain ⟨q, ns, at_, h1, h2, h3⟩ := d
  exact ⟨q, ns, at_, h1, sl_mono e h2, h3⟩
theorem Dr.upd {K : PySem.W.Frag} {M G : Hp} {p d : Addr} {o : HO} (h : Dr K M G p) (e : d ≠ p) : Dr K (upd M d o) G p := by
  obtain ⟨q, ns, at_, h1, h2, h3⟩ := h
  exact ⟨q, ns, at_, upd_ne' h1 e.symm, h2, h3⟩
theorem Dr.del {K : PySem.W.Frag} {M G : Hp} {p d : Addr} (h : Dr K M G p) (e : d ≠ p) : Dr K (del M d) G p := by
  obtain ⟨q, ns, at_, h1, h2, h3⟩ := h
  exact ⟨q, ns, at_, (del_ne e.symm).trans h1, h2, h3⟩
theorem Dr.ne {K : PySem.W.Frag} {M G : Hp} {p d : Addr} (h : Dr K M G p) (e : M d = none) : d ≠ p := by
  obtain ⟨q, ns, at_, h1, h2, h3⟩ := h
  exact (ne_of_none h1 e).symm
def sp_law_draw (K : PySem.W.Frag) : Sp := Sg (α := Addr) (fun p vs M G => vs = [.ref p] ∧ Dr K M G p)
  (fun p M _ v M' G' => ∃ n : Int, v = .int n ∧ 0 ≤ n ∧ n < 1000000 ∧ Dr K M' G' p ∧ Ag p M M')
theorem atI_map {ns : List Int} {i : Int} (h0 : 0 ≤ i) (h1 : i < ns.length) : ∃ n, n ∈ ns ∧ atI (ns.map V.int) i = some (.int n) := by
  obtain ⟨k, rfl⟩ : ∃ k : Nat, i = k := ⟨i.toNat, by omega⟩
  have hk : k < ns.length := by omega
  refine ⟨ns[k], List.getElem_mem hk, atI_nat ?_⟩
  rw [List.getElem?_map, List.getElem?_eq_getElem hk]; rfl
theorem use_draw {K : PySem.W.Frag} {M G H : Hp} {p : Addr} {Q : VK} {E : XK} (j : J M G H) (d : Dr K M G p)
    (k : ∀ (n : Int) (M' G' H' : Hp), 0 ≤ n → n < 1000000 → J M' G' H' → Ex G G' → Dr K M' G' p → Ag p M M' → Q (.int n) H') : sp_law_draw K ([.ref p] ++ []) H Q E :=
  w_sg p j ⟨rfl, d⟩ fun v M' G' H' j' e ⟨n, ev, h0, h1, d', ag⟩ => by subst ev; exact k n M' G' H' h0 h1 j' e d' ag
/-- what a def that draws promises: a value of which Pv holds -/
def Dg (K : PySem.W.Frag) (Pv : V → Hp → Prop) : Sp := Sg (α := Addr) (fun p vs M G => vs = [.ref p] ∧ Dr K M G p) (fun p M _ v M' G' => Pv v G' ∧ Dr K M' G' p ∧ Ag p M M')
theorem use_dg {K : PySem.W.Frag} {M G H : Hp} {p : Addr} {Q : VK} {E : XK} {Pv : V → Hp → Prop} (j : J M G H) (d : Dr K M G p)
    (k : ∀ (v : V) (M' G' H' : Hp), Pv v G' → J M' G' H' → Ex G G' → Dr K M' G' p → Ag p M M' → Q v H') : Dg K Pv ([.ref p] ++ []) H Q E :=
  w_sg p j ⟨rfl, d⟩ fun v M' G' H' j' e ⟨h, d', ag⟩ => k v M' G' H' h j' e d' ag
/-- .. with the law's keys -/
def KeysAt (K : PySem.W.Frag) (G : Hp) (t : Addr) (ks : List Int) : Prop := SqL K G t (ks.map V.int) ∧ (∀ k ∈ ks, 0 ≤ k ∧ k < 1000) ∧ 3 ≤ ks.length ∧ ks.length ≤ 15
theorem KeysAt.ex {K : PySem.W.Frag} {G G' : Hp} {t : Addr} {ks : List Int} (h : KeysAt K G t ks) (e : Ex G G') : KeysAt K G' t ks := ⟨sl_mono e h.1, h.2⟩
def Dk (K : PySem.W.Frag) (Pv : V → Hp → Prop) : Sp := Sg (α := Addr × Addr × List Int) (fun a vs M G => vs = [.ref a.1, .ref a.2.1] ∧ Dr K M G a.1 ∧ KeysAt K G a.2.1 a.2.2) (fun a M _ v M' G' => Pv v G' ∧ Dr K M' G' a.1 ∧ Ag a.1 M M')
theorem use_dk {K : PySem.W.Frag} {M G H : Hp} {p t : Addr} {ks : List Int} {Q : VK} {E : XK} {Pv : V → Hp → Prop} (j : J M G H) (d : Dr K M G p) (hk : KeysAt K G t ks)
    (k : ∀ (v : V) (M' G' H' : Hp), Pv v G' → J M' G' H' → Ex G G' → Dr K M' G' p → Ag p M M' → Q v H') : Dk K Pv ([.ref p, .ref t] ++ []) H Q E :=
  w_sg (p, t, ks) j ⟨rfl, d, hk⟩ fun v M' G' H' j' e ⟨h, d', ag⟩ => k v M' G' H' h j' e d' ag
theorem ok_law_draw {P : Program} {w : World} {K : PySem.W.Frag} {mg : Str → Option Value} {base : Heap}
    {f : Addr} {fd : FuncData} (D : Dn K mg "_law_draw" s_law_draw ["draws"] f fd)
    (b_len : mg "len" = none)
    (c_law_mixed : Cal P w K mg base CX0 1 "_law_mixed" (sp_law_mixed K)) : Cal P w K mg base CX0 2 "_law_draw" (sp_law_draw K) := by
  refine D.ok sc_law_draw (fun vs H Q E h => ?_) fun cdv A outer s H vs Q E hr h => ?_
  · obtain ⟨p, M, G, j, ⟨rfl, _⟩, _⟩ := h; rfl
  obtain ⟨p, M, G, j, ⟨rfl, q, ns, at_, hp, hq, hn, h0⟩, k⟩ := h
  refine ⟨_, (pss_cons (ps_set (i := 1) sc_law_draw.nd rfl (Or.inl rfl) (pe_ix (ix_uK (K := K) rfl) (pv 0) pe_int (fun _ _ => rfl)))
(pss_cons (ps_asg (pe_op (op_uAddK (K := K) rfl) (pv 1) pe_int) (pg_sub (pv 0) pe_int set_list))
(pss_cons (ps_if (pt_cmpR op_lt (pv 1) (pe_callB (call_uLenK (K := K) rfl) (by rfl) b_len PySem.boot_len (pa_cons (pe_ix (ix_uK (K := K) rfl) (pv 0) pe_int (fun _ _ => rfl)) pa_nil)) (nomark _))
(pss_one (ps_ret (pe_ix (ix_uK (K := K) rfl) (pe_ix (ix_uK (K := K) rfl) (pv 0) pe_int (fun _ _ => rfl)) (pv 1) (fun _ _ => rfl))))
pss_nil)
(pss_cons (ps_set (i := 2) sc_law_draw.nd rfl (Or.inl rfl) (pe_op (op_uAddK (K := K) rfl) pe_int (pv 1)))
(pss_cons (ps_if (pt_cmpR op_gt (pe_callB (call_uLenK (K := K) rfl) (by rfl) b_len PySem.boot_len (pa_cons (pe_ix (ix_uK (K := K) rfl) (pv 0) pe_int (fun _ _ => rfl)) pa_nil)) pe_int (nomark _))
(pss_one (ps_set (i := 2) sc_law_draw.nd rfl (Or.inl rfl) (pe_op (op_uAddK (K := K) rfl) (pv 2) (pe_op op_uMul pe_int (pe_ix (ix_uK (K := K) rfl) (pe_ix (ix_uK (K := K) rfl) (pv 0) pe_int (fun _ _ => rfl)) pe_int (fun _ _ => rfl))))))
pss_nil)
(pss_one (ps_ret (pe_op op_mod (pe_cal c_law_mixed hr (by first | decide | omega) (by rfl) (pa_cons (pe_cal c_law_mixed hr (by first | decide | omega) (by rfl) (pa_cons (pv 2) (pa_cons (pv 1) pa_nil))) (pa_cons pe_int pa_nil))) pe_int)))))))), ?_⟩
  walk_at "start"
  refine w_ixM j hp (by rfl) ?_
  walk_at "go"
  refine w_setM j hp (by rfl) fun H1 j1 => ?_
  walk_at "go"
  refine w_ixM j1 upd_same (by rfl) ?_
  walk_at "go"
  refine w_lenL j1 hq ?_
  walk_at "go"
  have dr : Dr K (upd M p (.lst [.ref q, .int (at_ + 1)])) G p := ⟨q, ns, _, upd_same, hq, hn, by omega⟩
  refine w_dec (fun hlt => ?_) (fun hlt => ?_)
  · walk_at "go"
    refine w_ixM j1 upd_same (by rfl) ?_
    walk_at "go"
    rw [List.length_map] at hlt
    obtain ⟨n, hm, e⟩ := atI_map h0 hlt
    refine w_ixL j1 hq e ?_
    exact k _ _ _ _ j1 (Same.refl G) ⟨n, rfl, (hn n hm).1, (hn n hm).2, dr, Ag.upd⟩
  · walk_at "go"
    refine w_ixM j1 upd_same (by rfl) ?_
    walk_at "go"
    refine w_lenL j1 hq ?_
    walk_at "go"
    refine w_dec (fun hl => ?_) (fun hl => ?_)
    · walk_at "go"
      refine w_ixM j1 upd_same (by rfl) ?_
      walk_at "go"
      rw [List.length_map] at hl
      obtain ⟨n, hm, e⟩ := atI_map (ns := ns) (i := 0) (by omega) hl
      refine w_ixL j1 hq e ?_
      walk_at "go"
      refine w_sg (_, _) j1 rfl fun v M' G' H' j2 e2 ⟨ev, em⟩ => ?_
      subst ev em
      walk_at "go"
      refine w_sg (_, _) j2 rfl fun v M' G' H' j3 e3 ⟨ev, em⟩ => ?_
      subst ev em
      walk_at "go"
      exact k _ _ _ _ j3 (e2.trans e3) ⟨_, rfl, Int.emod_nonneg _ (by decide), Int.emod_lt_of_pos _ (by decide), dr.ex (e2.trans e3), Ag.upd⟩
    · walk_at "go"
      refine w_sg (_, _) j1 rfl fun v M' G' H' j2 e2 ⟨ev, em⟩ => ?_
      subst ev em
      walk_at "go"
      refine w_sg (_, _) j2 rfl fun v M' G' H' j3 e3 ⟨ev, em⟩ => ?_
      subst ev em
      walk_at "go"
      exact k _ _ _ _ j3 (e2.trans e3) ⟨_, rfl, Int.emod_nonneg _ (by decide), Int.emod_lt_of_pos _ (by decide), dr.ex (e2.trans e3), Ag.upd⟩
/-! ### _law_keys -/
abbrev s_law_keys : Stmt := top 23
abbrev n_law_keys : List Str := ["draws", "keys", "k"]
theorem sc_law_keys : FnScope n_law_keys ["draws"] (defScope s_law_keys) := ⟨rfl, rfl, rfl, by decide +kernel, rfl, by decide +kernel, by decide +kernel⟩
def sp_law_keys (K : PySem.W.Frag) : Sp := Dg K fun v G => ∃ t ks, v = .ref t ∧ KeysAt K G t ks
def KeysI (K : PySem.W.Frag) (M G : Hp) (p d : Addr) (m : Nat) (σ : L2.St) (H : Hp) : Prop := ∃ (ks : List Int) (M1 G1 : Hp) (y z : Option V), J M1 G1 H ∧ M1 d = some (.lst (ks.map V.int)) ∧ Ex G G1 ∧ Dr K M1 G1 p ∧ Ag2 p d M M1 ∧
  (∀ k ∈ ks, 0 ≤ k ∧ k < 1000) ∧ ks.length = m + 3 ∧ σ = [some (.ref p), some (.ref d), z]
theorem keys_snoc {ns : List Int} {n : Int} (h : ∀ n ∈ ns, 0 ≤ n ∧ n < 1000) (hn : 0 ≤ n ∧ n < 1000) : ∀ m ∈ ns ++ [n], 0 ≤ m ∧ m < 1000 := by
  intro m hm
  rcases List.mem_append.mp hm with hm | hm
  · exact h m hm
  · rw [List.mem_singleton.mp hm]; exact hn
theorem ok_law_keys {P : Program} {w : World} {K : PySem.W.Frag} {mg : Str → Option Value} {base : Heap}
    {f : Addr} {fd : FuncData} (D : Dn K mg "_law_keys" s_law_keys ["draws"] f fd)
    (b_range : mg "range" = none)
    (c_law_draw : Cal P w K mg base CX0 2 "_law_draw" (sp_law_draw K)) : Cal P w K mg base CX0 3 "_law_keys" (sp_law_keys K) := by
  refine D.ok sc_law_keys (fun vs H Q E h => ?_) fun cdv A outer s H vs Q E hr h => ?_
  · obtain ⟨p, M, G, j, ⟨rfl, _⟩, _⟩ := h; rfl
  obtain ⟨p, M, G, j, ⟨rfl, d⟩, k⟩ := h
  refine ⟨_, (pss_cons (ps_set (i := 1) sc_law_keys.nd rfl (Or.inl rfl) (pe_lst (pa_cons pe_int (pa_cons pe_int (pa_cons pe_int pa_nil)))))
(pss_cons (ps_for PassesOwn.never rfl (pi_range1 (by rfl) b_range (pa_cons (pe_ix (ix_uK (K := K) rfl) (pe_lst (pa_cons pe_int (pa_cons pe_int (pa_cons pe_int (pa_cons pe_int pa_nil))))) (pe_op op_mod (pe_cal c_law_draw hr (by first | decide | omega) (by rfl) (pa_cons (pv 0) pa_nil)) pe_int) (fun _ _ => rfl)) pa_nil)) (pg_name (i := 2) sc_law_keys.nd rfl (Or.inl rfl))
(pss_one (ps_expr (pe_bm PySem.F.plainAttrs_list PySem.F.slot_list_append PySem.F.type_list_append mt_append (pv 1) (pa_cons (pe_op op_mod (pe_cal c_law_draw hr (by first | decide | omega) (by rfl) (pa_cons (pv 0) pa_nil)) pe_int) pa_nil)))))
(pss_one (ps_ret (pv 1))))), ?_⟩
  walk_at "start"
  refine w_newM j (by decide) fun L H1 j1 nM nG => ?_
  walk_at "go"
  have nLp : L ≠ p := d.ne nM
  refine w_new j1 (by decide) fun q G2 H2 j2 e2 hq nq => ?_
  walk_at "go"
  refine use_draw j2 ((d.ex e2).upd nLp) fun n M3 G3 H3 n0 n1 j3 e3 d3 a3 => ?_
  walk_at "go"
  have hp : 0 ≤ n % 4 ∧ n % 4 < 4 := ⟨Int.emod_nonneg _ (by decide), Int.emod_lt_of_pos _ (by decide)⟩
  generalize n % 4 = pick at hp ⊢
  obtain ⟨c, hc, hat⟩ : ∃ c : Int, (c = 4 ∨ c = 12) ∧ atI [V.int 4, .int 4, .int 4, .int 12] pick = some (.int c) := by
    have : pick = 0 ∨ pick = 1 ∨ pick = 2 ∨ pick = 3 := by omega
    rcases this with rfl | rfl | rfl | rfl
    · exact ⟨4, .inl rfl, rfl⟩
    · exact ⟨4, .inl rfl, rfl⟩
    · exact ⟨4, .inl rfl, rfl⟩
    · exact ⟨12, .inr rfl, rfl⟩
  refine w_ixL j3 (sl_of (e3 _ _ hq)) hat ?_
  walk_at "go"
  have hL3 : M3 L = some (.lst [.int 0, .int 999, .int 500]) := (a3 L nLp).trans upd_same
  refine w_rng (KeysI K M G p L) ?_ ?_ ?_ (by omega) (by omega)
  · exact ⟨[0, 999, 500], M3, G3, none, _, j3, hL3, e2.trans e3, d3, (Ag2.refl p L M).upd.ag a3, by decide, rfl, rfl⟩
  · rintro i σ H hi ⟨ks, M1, G1, y, z, j, hL, e, d, a, hk, hl, rfl⟩
    walk_at "go"
    refine ⟨ty_listM j hL, ?_⟩
    walk_at "go"
    refine use_draw j d fun n M4 G4 H4 n0 n1 j4 e4 d4 a4 => ?_
    walk_at "go"
    refine w_appendA j4 (a4.at hL nLp) (by rw [List.length_map]; omega) fun H5 j5 => ?_
    rw [map_snoc] at j5
    exact ⟨ks ++ [n % 1000], _, G4, none, _, j5, upd_same, e.trans e4, d4.upd nLp, (a.ag a4).upd, keys_snoc hk ⟨Int.emod_nonneg _ (by decide), Int.emod_lt_of_pos _ (by decide)⟩, by rw [List.length_append, List.length_singleton, hl], rfl⟩
  · rintro σ H ⟨ks, M1, G1, y, z, j, hL, e, d, a, hk, hl, rfl⟩
    walk_at "go"
    refine k _ _ _ _ (j.seal hL) (e.trans (Ex.new (j.out hL))) ⟨⟨L, ks, rfl, sl_of upd_same, hk, by omega, by omega⟩, (d.del nLp).ex (Ex.new (j.out hL)), a.del nM⟩
/-! ### keys, values -/
def IsVal (n : Int) : Prop := -1000000000000000000 ≤ n ∧ n ≤ 1000000000000000000
instance (n : Int) : Decidable (IsVal n) := inferInstanceAs (Decidable (_ ∧ _))
def IsKey (n : Int) : Prop := 0 ≤ n ∧ n < 1000
def ov : Option Int → V
  | none => .non
  | some n => .int n
def OkV : Option Int → Prop
  | none => True
  | some n => IsVal n
/-! ### tables of values -/
def look (kv : List (Int × Int)) (k : Int) : Option Int := (kv.find? fun p => decide (p.1 = k)).map (·.2)
def putI (kv : List (Int × Int)) (k v : Int) : List (Int × Int) := if (look kv k).isSome then kv.map (fun p => if p.1 = k then (p.1, v) else p) else kv ++ [(k, v)]
def dropI (kv : List (Int × Int)) (k : Int) : List (Int × Int) := kv.filter fun p => decide (p.1 ≠ k)
def tk (kv : List (Int × Int)) : List (Key × V) := kv.map fun p => ((Sum.inl p.1 : Key), V.int p.2)
theorem look_nil (k : Int) : look [] k = none := rfl
theorem look_cons (p : Int × Int) (r : List (Int × Int)) (k : Int) : look (p :: r) k = if p.1 = k then some p.2 else look r k := by
  unfold look; rw [List.find?_cons]
  by_cases h : p.1 = k
  · rw [decide_eq_true h, if_pos h]; rfl
  · rw [decide_eq_false h, if_neg h]
theorem tk_look : ∀ (kv : List (Int × Int)) (k : Int), valV (tk kv) (.inl k) = (look kv k).map V.int
  | [], k => rfl
  | p :: r, k => by
    show valV (((Sum.inl p.1 : Key), V.int p.2) :: tk r) (.inl k) = _
    rw [look_cons]
    by_cases h : p.1 = k
    · rw [valV_pos (by rw [h]), if_pos h]; rfl
    · rw [valV_neg (fun z => h (Sum.inl.inj z)), if_neg h]; exact tk_look r k
theorem tk_put (kv : List (Int × Int)) (k v : Int) : putK (tk kv) (.inl k) (.int v) = tk (putI kv k v) := by
  have ha : ((tk kv).any fun kv => decide (kv.1 = (Sum.inl k : Key))) = (look kv k).isSome := by rw [valV_any, tk_look]; cases look kv k <;> rfl
  unfold putK putI
  rw [ha]
  cases look kv k with
  | none => show tk kv ++ _ = tk (kv ++ [(k, v)]); unfold tk; rw [List.map_append]; rfl
  | some x =>
    show (tk kv).map _ = tk (kv.map _)
    unfold tk
    rw [List.map_map, List.map_map]
    refine List.map_congr_left fun p _ => ?_
    show (if (Sum.inl p.1 : Key) = Sum.inl k then ((Sum.inl p.1 : Key), V.int v) else ((Sum.inl p.1 : Key), V.int p.2)) = (((Sum.inl (if p.1 = k then (p.1, v) else p).1 : Key)), V.int (if p.1 = k then (p.1, v) else p).2)
    by_cases h : p.1 = k
    · rw [if_pos (by rw [h]), if_pos h]
    · rw [if_neg (fun z => h (Sum.inl.inj z)), if_neg h]
theorem tk_drop : ∀ (kv : List (Int × Int)) (k : Int), dropK (tk kv) (.inl k) = tk (dropI kv k)
  | [], k => rfl
  | p :: r, k => by
    show dropK (((Sum.inl p.1 : Key), V.int p.2) :: tk r) (.inl k) = _
    unfold dropI
    rw [List.filter_cons]
    by_cases h : p.1 = k
    · rw [dropK_pos (by rw [h]), if_neg (by simp [h])]; exact tk_drop r k
    · rw [dropK_neg (fun z => h (Sum.inl.inj z)), if_pos (by simp [h])]
      show _ = ((Sum.inl p.1 : Key), V.int p.2) :: tk (dropI r k)
      rw [tk_drop r k]
theorem tk_len (kv : List (Int × Int)) : (tk kv).length = kv.length := List.length_map _
theorem tk_keys (kv : List (Int × Int)) : (tk kv).map (·.1) = (kv.map (·.1)).map Sum.inl := by unfold tk; rw [List.map_map, List.map_map]; rfl
theorem look_mem : ∀ {kv : List (Int × Int)} {k v : Int}, look kv k = some v → (k, v) ∈ kv
  | [], k, v, h => by cases h
  | p :: r, k, v, h => by
    rw [look_cons] at h
    by_cases e : p.1 = k
    · rw [if_pos e] at h
      have : p = (k, v) := by rw [← e, ← Option.some.inj h]
      rw [this]; exact List.mem_cons_self
    · rw [if_neg e] at h; exact List.mem_cons_of_mem _ (look_mem h)
theorem look_none : ∀ {kv : List (Int × Int)} {k : Int}, look kv k = none ↔ k ∉ kv.map (·.1)
  | [], k => by simp [look]
  | p :: r, k => by
    rw [look_cons, List.map_cons, List.mem_cons]
    by_cases e : p.1 = k
    · rw [if_pos e]; simp [e]
    · rw [if_neg e, look_none]
      constructor
      · intro h z; rcases z with z | z
        · exact e z.symm
        · exact h z
      · intro h z; exact h (.inr z)
theorem mem_look : ∀ {kv : List (Int × Int)} {k v : Int}, (kv.map (·.1)).Nodup → (k, v) ∈ kv → look kv k = some v
  | [], k, v, _, h => by cases h
  | p :: r, k, v, hn, h => by
    rw [List.map_cons, List.nodup_cons] at hn
    rw [look_cons]
    rcases List.mem_cons.mp h with rfl | h
    · rw [if_pos rfl]
    · by_cases e : p.1 = k
      · exact absurd (by rw [e]; exact List.mem_map_of_mem (f := (·.1)) h) hn.1
      · rw [if_neg e]; exact mem_look hn.2 h
theorem put_keys_old {kv : List (Int × Int)} {k v : Int} (h : (look kv k).isSome = true) : (putI kv k v).map (·.1) = kv.map (·.1) := by
  unfold putI; rw [if_pos h, List.map_map]
  refine List.map_congr_left fun p _ => ?_
  show (if p.1 = k then (p.1, v) else p).1 = p.1
  by_cases e : p.1 = k
  · rw [if_pos e]
  · rw [if_neg e]
theorem put_new {kv : List (Int × Int)} {k v : Int} (h : look kv k = none) : putI kv k v = kv ++ [(k, v)] := by unfold putI; rw [h]; rfl
theorem look_map (k v j : Int) : ∀ kv : List (Int × Int), look (kv.map fun p => if p.1 = k then (p.1, v) else p) j = (look kv j).map fun x => if j = k then v else x
  | [] => rfl
  | p :: r => by
    rw [List.map_cons, look_cons, look_cons]
    by_cases e : p.1 = k
    · rw [if_pos e]
      by_cases f : p.1 = j
      · rw [if_pos f, if_pos f]; show some v = some (if j = k then v else p.2); rw [if_pos (f.symm.trans e)]
      · rw [if_neg f, if_neg f]; exact look_map k v j r
    · rw [if_neg e]
      by_cases f : p.1 = j
      · rw [if_pos f, if_pos f]; show some p.2 = some (if j = k then v else p.2); rw [if_neg (fun z => e (f.trans z))]
      · rw [if_neg f, if_neg f]; exact look_map k v j r
theorem look_snoc (k v j : Int) : ∀ kv : List (Int × Int), look (kv ++ [(k, v)]) j = (look kv j).or (if k = j then some v else none)
  | [] => by rw [List.nil_append, look_cons]; rfl
  | p :: r => by
    rw [List.cons_append, look_cons, look_cons]
    by_cases f : p.1 = j
    · rw [if_pos f, if_pos f]; rfl
    · rw [if_neg f, if_neg f]; exact look_snoc k v j r
theorem look_put (kv : List (Int × Int)) (k v j : Int) : look (putI kv k v) j = if j = k then some v else look kv j := by
  cases h : look kv k with
  | some x =>
    unfold putI; rw [h, if_pos (show (some x).isSome = true from rfl), look_map]
    by_cases e : j = k
    · subst e; rw [h, if_pos rfl]; show some (if j = j then v else x) = _; rw [if_pos rfl]
    · rw [if_neg e]; cases look kv j with
      | none => rfl
      | some y => show some (if j = k then v else y) = _; rw [if_neg e]
  | none =>
    rw [put_new h, look_snoc]
    by_cases e : j = k
    · subst e; rw [h, if_pos rfl]; rfl
    · rw [if_neg (fun z => e z.symm), if_neg e]; cases look kv j <;> rfl
theorem look_drop (k j : Int) : ∀ kv : List (Int × Int), look (dropI kv k) j = if j = k then none else look kv j
  | [] => by rw [show dropI [] k = [] from rfl, look_nil]; split <;> rfl
  | p :: r => by
    unfold dropI
    rw [List.filter_cons]
    by_cases e : p.1 = k
    · rw [if_neg (by simp [e])]
      show look (dropI r k) j = _
      rw [look_drop k j r, look_cons]
      by_cases f : j = k
      · rw [if_pos f, if_pos f]
      · rw [if_neg f, if_neg f, if_neg (fun z => f (z.symm.trans e))]
    · rw [if_pos (by simp [e]), look_cons]
      show (if p.1 = j then some p.2 else look (dropI r k) j) = _
      rw [look_drop k j r, look_cons]
      by_cases f : p.1 = j
      · rw [if_pos f, if_pos f, if_neg (fun z => e (f.trans z))]
      · rw [if_neg f, if_neg f]
/-- keys once, keys and values within their bounds, not too many -/
structure TabOk (kv : List (Int × Int)) (n : Nat) : Prop where
  nd : (kv.map (·.1)).Nodup
  ok : ∀ p ∈ kv, IsKey p.1 ∧ IsVal p.2
  len : kv.length ≤ n
theorem TabOk.nil : TabOk [] 0 := ⟨List.nodup_nil, fun p h => (by cases h), Nat.le_refl _⟩
theorem TabOk.mono {kv : List (Int × Int)} {n m : Nat} (h : TabOk kv n) (e : n ≤ m) : TabOk kv m := ⟨h.nd, h.ok, Nat.le_trans h.len e⟩
theorem put_len (kv : List (Int × Int)) (k v : Int) : (putI kv k v).length ≤ kv.length + 1 := by
  unfold putI; split
  · rw [List.length_map]; omega
  · rw [List.length_append]; exact Nat.le_refl _
theorem TabOk.put {kv : List (Int × Int)} {n : Nat} {k v : Int} (h : TabOk kv n) (hk : IsKey k) (hv : IsVal v) : TabOk (putI kv k v) (n + 1) := by
  refine ⟨?_, ?_, Nat.le_trans (put_len kv k v) (Nat.succ_le_succ h.len)⟩
  · cases e : look kv k with
    | some x => rw [put_keys_old (by rw [e]; rfl)]; exact h.nd
    | none =>
      rw [put_new e, List.map_append]
      exact nd_snoc h.nd (look_none.mp e)
  · intro p hp
    unfold putI at hp
    split at hp
    · obtain ⟨q, hq, e⟩ := List.mem_map.mp hp
      have := h.ok q hq
      by_cases c : q.1 = k
      · rw [if_pos c] at e; rw [← e]; exact ⟨this.1, hv⟩
      · rw [if_neg c] at e; rw [← e]; exact this
    · rcases List.mem_append.mp hp with hp | hp
      · exact h.ok p hp
      · rw [List.mem_singleton.mp hp]; exact ⟨hk, hv⟩
theorem TabOk.drop {kv : List (Int × Int)} {n : Nat} {k : Int} (h : TabOk kv n) : TabOk (dropI kv k) n := by
  refine ⟨?_, fun p hp => h.ok p (List.mem_filter.mp hp).1, Nat.le_trans (List.length_filter_le _ _) h.len⟩
  have hs : ((dropI kv k).map (·.1)).Sublist (kv.map (·.1)) := (List.filter_sublist (l := kv)).map _
  exact hs.nodup h.nd
/-- a table as a function -/
abbrev Fn := Int → Option Int
def Rep (kv : List (Int × Int)) (m : Fn) : Prop := ∀ k, look kv k = m k
def setM (m : Fn) (k : Int) (v : Option Int) : Fn := fun j => if j = k then v else m j
theorem Rep.put {kv : List (Int × Int)} {m : Fn} {k v : Int} (h : Rep kv m) : Rep (putI kv k v) (setM m k (some v)) := fun j => by rw [look_put, h j]; rfl
theorem Rep.drop {kv : List (Int × Int)} {m : Fn} {k : Int} (h : Rep kv m) : Rep (dropI kv k) (setM m k none) := fun j => by rw [look_drop, h j]; rfl
/-- the keys of a table, within borders, ascending, with their values -/
def scanM (m : Fn) (lo hi : Int) : List (Int × Int) := (List.range 1000).filterMap fun (i : Nat) => if lo ≤ (i : Int) ∧ (i : Int) < hi then (m i).map fun v => ((i : Int), v) else none
theorem scan_mem {m : Fn} {lo hi : Int} {p : Int × Int} : p ∈ scanM m lo hi ↔ 0 ≤ p.1 ∧ p.1 < 1000 ∧ lo ≤ p.1 ∧ p.1 < hi ∧ m p.1 = some p.2 := by
  unfold scanM
  rw [List.mem_filterMap]
  constructor
  · rintro ⟨i, hi', e⟩
    rw [List.mem_range] at hi'
    split at e
    · rename_i hb
      cases hm : m i with
      | none => rw [hm] at e; cases e
      | some v =>
        rw [hm] at e
        have e := Option.some.inj e
        subst e
        exact ⟨by show (0 : Int) ≤ (i : Int); omega, by show (i : Int) < 1000; omega, hb.1, hb.2, hm⟩
    · cases e
  · rintro ⟨h0, h1, h2, h3, h4⟩
    refine ⟨p.1.toNat, by rw [List.mem_range]; omega, ?_⟩
    have e : ((p.1.toNat : Nat) : Int) = p.1 := by omega
    rw [e, if_pos ⟨h2, h3⟩, h4]; rfl
theorem scan_sorted (m : Fn) (lo hi : Int) : (scanM m lo hi).Pairwise fun p q => p.1 < q.1 := by
  unfold scanM
  rw [List.pairwise_filterMap]
  refine List.Pairwise.imp (R := fun a b => a < b) ?_ List.pairwise_lt_range
  intro a b h x hx y hy
  split at hx
  · split at hy
    · cases ha : m a with
      | none => rw [ha] at hx; cases hx
      | some u =>
        cases hb : m b with
        | none => rw [hb] at hy; cases hy
        | some v =>
          rw [ha] at hx; rw [hb] at hy
          cases hx; cases hy
          show (a : Int) < b; omega
    · cases hy
  · cases hx
/-- two ascending lists with the same members are one -/
theorem asc_unique : ∀ {xs ys : List (Int × Int)}, xs.Pairwise (fun p q => p.1 < q.1) → ys.Pairwise (fun p q => p.1 < q.1) → (∀ p, p ∈ xs ↔ p ∈ ys) → xs = ys
  | [], [], _, _, _ => rfl
  | [], y :: ys, _, _, h => by have := (h y).mpr List.mem_cons_self; cases this
  | x :: xs, [], _, _, h => by have := (h x).mp List.mem_cons_self; cases this
  | x :: xs, y :: ys, hx, hy, h => by
    rw [List.pairwise_cons] at hx hy
    have e : x = y := by
      rcases List.mem_cons.mp ((h x).mp List.mem_cons_self) with e | m1
      · exact e
      · rcases List.mem_cons.mp ((h y).mpr List.mem_cons_self) with e | m2
        · exact e.symm
        · have := hy.1 x m1; have := hx.1 y m2; omega
    subst e
    congr 1
    refine asc_unique hx.2 hy.2 fun p => ?_
    constructor
    · intro hp
      rcases List.mem_cons.mp ((h p).mp (List.mem_cons_of_mem _ hp)) with e | q
      · have := hx.1 p hp; rw [e] at this; omega
      · exact q
    · intro hp
      rcases List.mem_cons.mp ((h p).mpr (List.mem_cons_of_mem _ hp)) with e | q
      · have := hy.1 p hp; rw [e] at this; omega
      · exact q
/-- the rows that a comprehension over the sorted keys gives -/
def rowsOf (kv : List (Int × Int)) (ys : List Int) (lo hi : Int) : List (Int × Int) := ys.filterMap fun k => if lo ≤ k ∧ k < hi then (look kv k).map fun v => (k, v) else none
theorem rows_eq {kv : List (Int × Int)} {m : Fn} {n : Nat} {ys : List Int} {lo hi : Int} (h : TabOk kv n) (r : Rep kv m) (hp : ys.Perm (kv.map (·.1))) (hs : ys.Pairwise (· ≤ ·)) : rowsOf kv ys lo hi = scanM m lo hi := by
  have hnd : ys.Nodup := hp.nodup_iff.mpr h.nd
  have hlt : ys.Pairwise (· < ·) := by
    refine List.Pairwise.imp₂ (R := fun a b => a ≤ b) (S := fun a b => a ≠ b) (fun a b h1 h2 => by omega) hs hnd
  refine asc_unique ?_ (scan_sorted m lo hi) fun p => ?_
  · unfold rowsOf
    rw [List.pairwise_filterMap]
    refine List.Pairwise.imp (R := fun a b => a < b) ?_ hlt
    intro a b h x hx y hy
    split at hx
    · split at hy
      · cases ha : look kv a with
        | none => rw [ha] at hx; cases hx
        | some u =>
          cases hb : look kv b with
          | none => rw [hb] at hy; cases hy
          | some v =>
            rw [ha] at hx; rw [hb] at hy
            cases hx; cases hy
            exact h
      · cases hy
    · cases hx
  · rw [scan_mem]
    unfold rowsOf
    rw [List.mem_filterMap]
    constructor
    · rintro ⟨k, hk, e⟩
      split at e
      · rename_i hb
        cases hm : look kv k with
        | none => rw [hm] at e; cases e
        | some v =>
          rw [hm] at e
          have e := Option.some.inj e
          subst e
          have hk2 := (h.ok _ (look_mem hm)).1
          exact ⟨hk2.1, hk2.2, hb.1, hb.2, by rw [← r k]; exact hm⟩
      · cases e
    · rintro ⟨h0, h1, h2, h3, h4⟩
      have hl : look kv p.1 = some p.2 := by rw [r]; exact h4
      refine ⟨p.1, hp.mem_iff.mpr (List.mem_map_of_mem (f := (·.1)) (look_mem hl)), ?_⟩
      rw [if_pos ⟨h2, h3⟩, hl]; rfl
theorem scal_ov (x y : Option Int) : scal (ov x) (ov y) = true := by cases x <;> cases y <;> rfl
theorem dec_ov (x y : Option Int) : decide (ov x = ov y) = decide (x = y) := by
  refine decide_eq_decide.mpr ⟨fun h => ?_, fun h => h ▸ rfl⟩
  cases x <;> cases y
  · rfl
  · cases h
  · cases h
  · exact congrArg some (V.int.inj h)
theorem ov_get (o : Option Int) : (o.map V.int).getD .non = ov o := by cases o <;> rfl
/-! ### things that may be operations -/
instance (n : Int) : Decidable (IsKey n) := inferInstanceAs (Decidable (_ ∧ _))
def keyB : V → Bool
  | .int n => decide (IsKey n)
  | _ => false
def inB (lo hi : Int) : V → Bool
  | .int n => decide (lo ≤ n ∧ n ≤ hi)
  | _ => false
def scanB : V → V → Bool
  | .int a, y => decide (0 ≤ a ∧ a ≤ 1000) && inB a 1000 y
  | _, _ => false
def wordB (w : Str) (x y : V) : Bool :=
  if w = "scan" then scanB x y else if w = "add" then keyB x && inB (-1000000000000000000) 1000000000000000000 y
  else if w = "put" ∨ w = "need" then keyB x && (decide (y = .non) || inB (-1000000000000000000) 1000000000000000000 y) else false
def opB : List V → Bool
  | [.str w, x] => decide (w = "get") && keyB x
  | [.str w, x, y] => if w = "get" then false else wordB w x y
  | _ => false
/-! ### items -/
structure Itm where
  tp : Bool
  t : Addr
  vs : List V
def ItmAt (K : PySem.W.Frag) (G : Hp) (i : Itm) : Prop := (if i.tp = true then SqT K G i.t i.vs else SqL K G i.t i.vs) ∧ (∀ v ∈ i.vs, flatV v = true) ∧ i.vs.length ≤ 4
theorem ItmAt.ex {K : PySem.W.Frag} {G G' : Hp} {i : Itm} (h : ItmAt K G i) (e : Ex G G') : ItmAt K G' i := by
  refine ⟨?_, h.2⟩
  obtain ⟨tp, t, vs⟩ := i
  cases tp with
  | true => exact st_mono e h.1
  | false => exact sl_mono e h.1
def itB (i : Itm) : Bool := i.tp && opB i.vs
def dealB (is : List Itm) : Bool := decide (1 ≤ is.length ∧ is.length ≤ 6) && is.all itB
def DealAt (K : PySem.W.Frag) (G : Hp) (a : Addr) (is : List Itm) : Prop := SqL K G a (is.map fun i => V.ref i.t) ∧ (∀ i ∈ is, ItmAt K G i) ∧ is.length ≤ 100
theorem DealAt.ex {K : PySem.W.Frag} {G G' : Hp} {a : Addr} {is : List Itm} (h : DealAt K G a is) (e : Ex G G') : DealAt K G' a is := ⟨sl_mono e h.1, fun i m => (h.2.1 i m).ex e, h.2.2⟩
theorem take_one {α : Type} {l : List α} {i : Nat} {x : α} (h : l[i]? = some x) : l.take (i + 1) = l.take i ++ [x] := by rw [List.take_add_one, h]; rfl
theorem ix_at {n j : Nat} (hj : j < n) : ixN n (j : Int) = some j := by
  have h1 : (0 : Int) ≤ (j : Int) := Int.natCast_nonneg j
  have h2 : (j : Int) < (n : Int) := Int.ofNat_lt.mpr hj
  unfold ixN
  rw [if_pos h1, if_pos h2, Int.toNat_natCast]
/-! ### _law_copy -/
abbrev s_law_copy : Stmt := top 33
abbrev n_law_copy : List Str := ["ops", "copy", "op"]
theorem sc_law_copy : FnScope n_law_copy ["ops"] (defScope s_law_copy) := ⟨rfl, rfl, rfl, by decide +kernel, rfl, by decide +kernel, by decide +kernel⟩
def sp_law_copy (K : PySem.W.Frag) : Sp := Sg (α := Addr × List Itm) (fun x vs _ G => vs = [.ref x.1] ∧ DealAt K G x.1 x.2) (fun x M _ v M' G' => (∃ (a : Addr) (is : List Itm), v = .ref a ∧ DealAt K G' a is ∧ is.map (fun (i : Itm) => (i.tp, i.vs)) = x.2.map (fun (i : Itm) => (i.tp, i.vs))) ∧ M' = M)
theorem ok_law_copy {P : Program} {w : World} {K : PySem.W.Frag} {mg : Str → Option Value} {base : Heap}
    {f : Addr} {fd : FuncData} (D : Dn K mg "_law_copy" s_law_copy ["ops"] f fd)
    (b_isinstance : mg "isinstance" = none)
    (b_list : mg "list" = none) : Cal P w K mg base CX0 1 "_law_copy" (sp_law_copy K) := by
  refine D.ok sc_law_copy (fun vs H Q E h => ?_) fun cdv A outer s H vs Q E hr h => ?_
  · obtain ⟨x, M, G, j, ⟨rfl, _⟩, _⟩ := h; rfl
  obtain ⟨⟨a, is⟩, M, G, j, ⟨rfl, ha, hi, hl⟩, k⟩ := h
  dsimp only at ha hi hl k
  refine ⟨_, (pss_cons (ps_set (i := 1) sc_law_copy.nd rfl (Or.inl rfl) (pe_lst pa_nil))
(pss_cons (ps_for PassesOwn.never rfl (pi_list (pv 0)) (pg_name (i := 2) sc_law_copy.nd rfl (Or.inl rfl))
(pss_one (ps_if (pt_val (pe_callB (call_isiK' (K := K) rfl) (by rfl) b_isinstance bt_isinstance (pa_cons (pv 2) (pa_cons (pe_bltn (v := .ty "list") (by rfl) b_list bt_list rfl) pa_nil))))
(pss_one (ps_expr (pe_bm PySem.F.plainAttrs_list PySem.F.slot_list_append PySem.F.type_list_append mt_append (pv 1) (pa_cons (pe_callTy (call_listC (K := K) rfl) (by rfl) b_list bt_list (pa_cons (pv 2) pa_nil)) pa_nil))))
(pss_one (ps_expr (pe_bm PySem.F.plainAttrs_list PySem.F.slot_list_append PySem.F.type_list_append mt_append (pv 1) (pa_cons (pv 2) pa_nil)))))))
(pss_one (ps_ret (pv 1))))), ?_⟩
  walk_at "start"
  refine w_newM j (by decide) fun R H1 j1 nM nG => ?_
  walk_at "go"
  refine w_forLV rfl (fun n σ H => ∃ (js : List Itm) (M1 G1 : Hp) (y : Option V), J M1 G1 H ∧ Ex G G1 ∧ M1 R = some (.lst (js.map fun i => V.ref i.t)) ∧ Ag R M M1 ∧ (∀ i ∈ js, ItmAt K G1 i) ∧ js.map (fun (i : Itm) => (i.tp, i.vs)) = (is.take n).map (fun (i : Itm) => (i.tp, i.vs)) ∧ σ = [some (.ref a), some (.ref R), y]) (xs := is.map fun i => V.ref i.t) (sl_mono j1.g ha) ?_ ?_ ?_ ?_
  · exact ⟨[], _, G, _, j1, Same.refl G, upd_same, Ag.upd, fun i h => (nomatch h), rfl, rfl⟩
  · rintro n σ H _ ⟨js, M1, G1, y, j, e, _⟩
    exact sl_mono j.g (sl_mono e ha)
  · rintro n x σ H hx ⟨js, M1, G1, y, j, e, hR, ag, hjs, hm, rfl⟩
    rw [List.getElem?_map] at hx
    cases hn : is[n]? with
    | none => rw [hn] at hx; cases hx
    | some i =>
      rw [hn] at hx
      cases hx
      have hit := (hi i (List.mem_of_getElem? hn)).ex e
      have hjl : js.length ≤ 100 := by
        have := congrArg List.length hm
        rw [List.length_map, List.length_map, List.length_take] at this
        omega
      have add : ∀ (t : Addr) (G2 : Hp), Ex G1 G2 → ItmAt K G2 (Itm.mk i.tp t i.vs) → (∀ i' ∈ js ++ [Itm.mk i.tp t i.vs], ItmAt K G2 i') ∧ (js ++ [Itm.mk i.tp t i.vs]).map (fun (i : Itm) => (i.tp, i.vs)) = (is.take (n + 1)).map (fun (i : Itm) => (i.tp, i.vs)) := fun t G2 e2 h => by
        refine ⟨fun i' hi' => ?_, by rw [List.map_append, hm, take_one hn, List.map_append]; rfl⟩
        rcases List.mem_append.mp hi' with z | z
        · exact (hjs i' z).ex e2
        · rw [List.mem_singleton.mp z]; exact h
      walk_at "go"
      obtain ⟨tp, t, vs⟩ := i
      cases tp with
      | true =>
        refine w_isi false (ty_T (st_mono j.g hit.1)) (by rfl) ?_
        walk_at "go"
        refine ⟨ty_listM j hR, ?_⟩
        walk_at "go"
        refine w_appendA j hR (by rw [List.length_map]; omega) fun H2 j2 => ?_
        walk_at "go"
        obtain ⟨h1, h2⟩ := add t G1 (Same.refl _) hit
        exact ⟨js ++ [⟨true, t, vs⟩], _, G1, _, j2, e, by rw [List.map_append]; exact upd_same, ag.trans Ag.upd, h1, h2, rfl⟩
      | false =>
        refine w_isi true (ty_L (sl_mono j.g hit.1)) (by rfl) ?_
        walk_at "go"
        refine ⟨ty_listM j hR, ?_⟩
        walk_at "go"
        refine w_listC (.inl (sl_mono j.g hit.1)) (w_new j (Nat.zero_le _) fun u G2 H2 j2 e2 hu _ => ?_)
        walk_at "go"
        refine w_appendA j2 hR (by rw [List.length_map]; omega) fun H3 j3 => ?_
        walk_at "go"
        obtain ⟨h1, h2⟩ := add u G2 e2 ⟨sl_of hu, hit.2⟩
        exact ⟨js ++ [⟨false, u, vs⟩], _, G2, _, j3, e.trans e2, by rw [List.map_append]; exact upd_same, ag.trans Ag.upd, h1, h2, rfl⟩
  · rintro σ H ⟨js, M1, G1, y, j, e, hR, ag, hjs, hm, rfl⟩
    rw [List.length_map, List.take_length] at hm
    walk_at "go"
    have e1 := Ex.new (o := .lst (js.map fun i => V.ref i.t)) (j.out hR)
    have hjl : js.length = is.length := by
      have := congrArg List.length hm
      rw [List.length_map, List.length_map] at this
      exact this
    refine k _ _ _ _ (j.seal hR) (e.trans e1) ⟨⟨R, js, rfl, ⟨sl_of upd_same, fun i h => (hjs i h).ex e1, by omega⟩, hm⟩, ag.del_eq nM⟩
/-! ### _law_key -/
abbrev s_law_key : Stmt := top 24
abbrev n_law_key : List Str := ["draws", "keys"]
theorem sc_law_key : FnScope n_law_key ["draws", "keys"] (defScope s_law_key) := ⟨rfl, rfl, rfl, by decide +kernel, rfl, by decide +kernel, by decide +kernel⟩
def sp_law_key (K : PySem.W.Frag) : Sp := Dk K fun v _ => ∃ n, v = .int n ∧ IsKey n
theorem ok_law_key {P : Program} {w : World} {K : PySem.W.Frag} {mg : Str → Option Value} {base : Heap}
    {f : Addr} {fd : FuncData} (D : Dn K mg "_law_key" s_law_key ["draws", "keys"] f fd)
    (b_len : mg "len" = none)
    (c_law_draw : Cal P w K mg base CX0 2 "_law_draw" (sp_law_draw K)) : Cal P w K mg base CX0 3 "_law_key" (sp_law_key K) := by
  refine D.ok sc_law_key (fun vs H Q E h => ?_) fun cdv A outer s H vs Q E hr h => ?_
  · obtain ⟨p, M, G, j, ⟨rfl, _⟩, _⟩ := h; rfl
  obtain ⟨⟨p, t, ks⟩, M, G, j, ⟨rfl, d, hk⟩, k⟩ := h
  refine ⟨_, (pss_one (ps_ret (pe_ix (ix_uK (K := K) rfl) (pv 1) (pe_op op_mod (pe_cal c_law_draw hr (by first | decide | omega) (by rfl) (pa_cons (pv 0) pa_nil)) (pe_callB (call_uLenK (K := K) rfl) (by rfl) b_len PySem.boot_len (pa_cons (pv 1) pa_nil))) (fun _ _ => rfl)))), ?_⟩
  walk_at "start"
  refine use_draw j d fun n M1 G1 H1 n0 n1 j1 e1 d1 a1 => ?_
  walk_at "go"
  have hk1 := hk.ex e1
  refine w_lenL j1 hk1.1 ?_
  walk_at "go"
  rw [List.length_map]
  have hl : (0 : Int) < ks.length := by have := hk.2.2.1; dsimp only at this; omega
  refine w_I hl ?_
  walk_at "go"
  obtain ⟨m, hm, e⟩ := atI_map (ns := ks) (Int.emod_nonneg n (Int.ne_of_gt hl)) (Int.emod_lt_of_pos n hl)
  refine w_ixL j1 hk1.1 e ?_
  exact k _ _ _ _ j1 e1 ⟨⟨m, rfl, hk.2.1 m hm⟩, d1, a1⟩
/-! ### _law_value -/
abbrev s_law_value : Stmt := top 21
abbrev n_law_value : List Str := ["draws", "pick", "high"]
theorem sc_law_value : FnScope n_law_value ["draws"] (defScope s_law_value) := ⟨rfl, rfl, rfl, by decide +kernel, rfl, by decide +kernel, by decide +kernel⟩
def sp_law_value (K : PySem.W.Frag) : Sp := Dg K fun v _ => ∃ n, v = .int n ∧ IsVal n
theorem ok_law_value {P : Program} {w : World} {K : PySem.W.Frag} {mg : Str → Option Value} {base : Heap}
    {f : Addr} {fd : FuncData} (D : Dn K mg "_law_value" s_law_value ["draws"] f fd)
    (c_law_draw : Cal P w K mg base CX0 2 "_law_draw" (sp_law_draw K)) : Cal P w K mg base CX0 3 "_law_value" (sp_law_value K) := by
  refine D.ok sc_law_value (fun vs H Q E h => ?_) fun cdv A outer s H vs Q E hr h => ?_
  · obtain ⟨p, M, G, j, ⟨rfl, _⟩, _⟩ := h; rfl
  obtain ⟨p, M, G, j, ⟨rfl, d⟩, k⟩ := h
  refine ⟨_, (pss_cons (ps_set (i := 1) sc_law_value.nd rfl (Or.inl rfl) (pe_op op_mod (pe_cal c_law_draw hr (by first | decide | omega) (by rfl) (pa_cons (pv 0) pa_nil)) pe_int))
(pss_cons (ps_if (pt_cmpR (op_uEqK (K := K) rfl hr) (pv 1) pe_int (nomark _))
(pss_one (ps_ret (pe_op op_sub (pe_op op_pow pe_int pe_int) (pe_op op_mod (pe_cal c_law_draw hr (by first | decide | omega) (by rfl) (pa_cons (pv 0) pa_nil)) pe_int))))
pss_nil)
(pss_cons (ps_if (pt_cmpR (op_uEqK (K := K) rfl hr) (pv 1) pe_int (nomark _))
(pss_one (ps_ret (pe_op op_sub (pe_op op_mod (pe_cal c_law_draw hr (by first | decide | omega) (by rfl) (pa_cons (pv 0) pa_nil)) pe_int) (pe_op op_pow pe_int pe_int))))
pss_nil)
(pss_cons (ps_if (PW.pt (pw_or (pt_cmpR (op_uEqK (K := K) rfl hr) (pv 1) pe_int (nomark _)) (pw_or1 (pt_cmpR (op_uEqK (K := K) rfl hr) (pv 1) pe_int (nomark _)))))
(pss_cons (ps_set (i := 2) sc_law_value.nd rfl (Or.inl rfl) (pe_op op_uMul (pe_cal c_law_draw hr (by first | decide | omega) (by rfl) (pa_cons (pv 0) pa_nil)) (pe_op op_pow pe_int pe_int)))
(pss_one (ps_ret (pe_op op_uMul (pe_op (op_uAddK (K := K) rfl) (pe_op (op_uAddK (K := K) rfl) (pv 2) (pe_op op_uMul (pe_cal c_law_draw hr (by first | decide | omega) (by rfl) (pa_cons (pv 0) pa_nil)) (pe_op op_pow pe_int pe_int))) (pe_cal c_law_draw hr (by first | decide | omega) (by rfl) (pa_cons (pv 0) pa_nil))) (pe_op op_sub pe_int (pe_op op_uMul pe_int (pv 1)))))))
pss_nil)
(pss_one (ps_ret (pe_op op_sub (pe_op op_mod (pe_cal c_law_draw hr (by first | decide | omega) (by rfl) (pa_cons (pv 0) pa_nil)) pe_int) pe_int))))))), ?_⟩
  walk_at "start"
  refine use_draw j d fun n M1 G1 H1 n0 n1 j1 e1 d1 a1 => ?_
  walk_at "go"
  have hp : 0 ≤ n % 12 ∧ n % 12 < 12 := ⟨Int.emod_nonneg _ (by decide), Int.emod_lt_of_pos _ (by decide)⟩
  generalize n % 12 = pick at hp ⊢
  have fin : ∀ (M G H : Hp) (v : Int), IsVal v → J M G H → Ex G1 G → Dr K M G p → Ag p M1 M → Q (.int v) H := fun M G H v hv j e d a => k _ _ _ _ j (e1.trans e) ⟨⟨v, rfl, hv⟩, d, a1.trans a⟩
  refine w_dec (fun h => ?_) (fun h => ?_)
  · walk_at "go"
    refine use_draw j1 d1 fun n M2 G2 H2 n0 n1 j2 e2 d2 a2 => ?_
    walk_at "go"
    exact fin _ _ _ _ ⟨by show _ ≤ (10 : Int) ^ 18 - n % 3; omega, by show (10 : Int) ^ 18 - n % 3 ≤ _; omega⟩ j2 e2 d2 a2
  · walk_at "go"
    refine w_dec (fun h => ?_) (fun h => ?_)
    · walk_at "go"
      refine use_draw j1 d1 fun n M2 G2 H2 n0 n1 j2 e2 d2 a2 => ?_
      walk_at "go"
      exact fin _ _ _ _ ⟨by show _ ≤ n % 3 - (10 : Int) ^ 18; omega, by show n % 3 - (10 : Int) ^ 18 ≤ _; omega⟩ j2 e2 d2 a2
    · walk_at "go"
      by_cases hpk : pick = 2 ∨ pick = 3
      · rcases hpk with rfl | rfl
        · refine w_dT rfl ?_
          walk_at "go"
          refine use_draw j1 d1 fun n M2 G2 H2 n0 n1 j2 e2 d2 a2 => ?_
          walk_at "go"
          refine use_draw j2 d2 fun m M3 G3 H3 m0 m1 j3 e3 d3 a3 => ?_
          walk_at "go"
          refine use_draw j3 d3 fun l M4 G4 H4 l0 l1 j4 e4 d4 a4 => ?_
          walk_at "go"
          exact fin _ _ _ _ (by unfold IsVal; omega) j4 ((e2.trans e3).trans e4) d4 ((a2.trans a3).trans a4)
        · refine w_dF (by decide) ?_
          walk_at "go"
          refine w_dT rfl ?_
          walk_at "go"
          refine use_draw j1 d1 fun n M2 G2 H2 n0 n1 j2 e2 d2 a2 => ?_
          walk_at "go"
          refine use_draw j2 d2 fun m M3 G3 H3 m0 m1 j3 e3 d3 a3 => ?_
          walk_at "go"
          refine use_draw j3 d3 fun l M4 G4 H4 l0 l1 j4 e4 d4 a4 => ?_
          walk_at "go"
          exact fin _ _ _ _ (by unfold IsVal; omega) j4 ((e2.trans e3).trans e4) d4 ((a2.trans a3).trans a4)
      · refine w_dF (fun z => hpk (.inl z)) ?_
        walk_at "go"
        refine w_dF (fun z => hpk (.inr z)) ?_
        walk_at "go"
        refine use_draw j1 d1 fun n M2 G2 H2 n0 n1 j2 e2 d2 a2 => ?_
        walk_at "go"
        exact fin _ _ _ _ ⟨by omega, by omega⟩ j2 e2 d2 a2
/-! ### _law_worth -/
abbrev s_law_worth : Stmt := top 22
abbrev n_law_worth : List Str := ["draws"]
theorem sc_law_worth : FnScope n_law_worth ["draws"] (defScope s_law_worth) := ⟨rfl, rfl, rfl, by decide +kernel, rfl, by decide +kernel, by decide +kernel⟩
def sp_law_worth (K : PySem.W.Frag) : Sp := Dg K fun v _ => ∃ o, v = ov o ∧ OkV o
theorem ok_law_worth {P : Program} {w : World} {K : PySem.W.Frag} {mg : Str → Option Value} {base : Heap}
    {f : Addr} {fd : FuncData} (D : Dn K mg "_law_worth" s_law_worth ["draws"] f fd)
    (c_law_value : Cal P w K mg base CX0 3 "_law_value" (sp_law_value K))
    (c_law_draw : Cal P w K mg base CX0 2 "_law_draw" (sp_law_draw K)) : Cal P w K mg base CX0 4 "_law_worth" (sp_law_worth K) := by
  refine D.ok sc_law_worth (fun vs H Q E h => ?_) fun cdv A outer s H vs Q E hr h => ?_
  · obtain ⟨p, M, G, j, ⟨rfl, _⟩, _⟩ := h; rfl
  obtain ⟨p, M, G, j, ⟨rfl, d⟩, k⟩ := h
  refine ⟨_, (pss_cons (ps_if (pt_cmpR (op_uEqK (K := K) rfl hr) (pe_op op_mod (pe_cal c_law_draw hr (by first | decide | omega) (by rfl) (pa_cons (pv 0) pa_nil)) pe_int) pe_int (nomark _))
(pss_one (ps_ret pe_non))
pss_nil)
(pss_one (ps_ret (pe_cal c_law_value hr (by first | decide | omega) (by rfl) (pa_cons (pv 0) pa_nil))))), ?_⟩
  walk_at "start"
  refine use_draw j d fun n M1 G1 H1 n0 n1 j1 e1 d1 a1 => ?_
  walk_at "go"
  refine w_dec (fun h => ?_) (fun h => ?_)
  · walk_at "go"
    exact k _ _ _ _ j1 e1 ⟨⟨none, rfl, trivial⟩, d1, a1⟩
  · walk_at "go"
    refine use_dg j1 d1 fun v M2 G2 H2 ⟨n, ev, hv⟩ j2 e2 d2 a2 => ?_
    subst ev
    exact k _ _ _ _ j2 (e1.trans e2) ⟨⟨some n, rfl, hv⟩, d2, a1.trans a2⟩
/-- an operation -/
inductive Op where
  | get (k : Int) | put (k : Int) (v : Option Int) | add (k a : Int) | need (k : Int) (v : Option Int) | scan (lo hi : Int)
def opV : Op → List V
  | .get k => [.str "get", .int k]
  | .put k v => [.str "put", .int k, ov v]
  | .add k a => [.str "add", .int k, .int a]
  | .need k v => [.str "need", .int k, ov v]
  | .scan lo hi => [.str "scan", .int lo, .int hi]
def OkOp : Op → Prop
  | .get k => IsKey k
  | .put k v => IsKey k ∧ OkV v
  | .add k a => IsKey k ∧ IsVal a
  | .need k v => IsKey k ∧ OkV v
  | .scan lo hi => 0 ≤ lo ∧ lo ≤ hi ∧ hi ≤ 1000
def OpAt (G : Hp) (t : Addr) (op : Op) : Prop := G t = some (.tup (opV op)) ∧ OkOp op
theorem OpAt.ex {G G' : Hp} {t : Addr} {op : Op} (h : OpAt G t op) (e : Ex G G') : OpAt G' t op := ⟨e _ _ h.1, h.2⟩
/-- a list of operations -/
def OpsAt (G : Hp) (as : List Addr) (ops : List Op) : Prop := as.length = ops.length ∧ ∀ (i : Nat) (a : Addr) (op : Op), as[i]? = some a → ops[i]? = some op → OpAt G a op
theorem OpsAt.ex {G G' : Hp} {as : List Addr} {ops : List Op} (h : OpsAt G as ops) (e : Ex G G') : OpsAt G' as ops := ⟨h.1, fun i a op h1 h2 => (h.2 i a op h1 h2).ex e⟩
theorem OpsAt.nil {G : Hp} : OpsAt G [] [] := ⟨rfl, fun i a op h => by simp at h⟩
theorem snoc_get {α : Type} {xs : List α} {x y : α} {i : Nat} (h : (xs ++ [x])[i]? = some y) : (i < xs.length ∧ xs[i]? = some y) ∨ (i = xs.length ∧ x = y) := by
  by_cases hi : i < xs.length
  · rw [List.getElem?_append_left hi] at h; exact .inl ⟨hi, h⟩
  · rw [List.getElem?_append_right (by omega)] at h
    have hj : i - xs.length = 0 := by
      cases hk : i - xs.length with
      | zero => rfl
      | succ m => rw [hk] at h; simp at h
    rw [hj] at h
    exact .inr ⟨by omega, Option.some.inj h⟩
theorem OpsAt.snoc {G : Hp} {as : List Addr} {ops : List Op} {a : Addr} {op : Op} (h : OpsAt G as ops) (o : OpAt G a op) : OpsAt G (as ++ [a]) (ops ++ [op]) := by
  refine ⟨by rw [List.length_append, List.length_append, h.1]; rfl, fun i b q h1 h2 => ?_⟩
  rcases snoc_get h1 with ⟨hi, h1⟩ | ⟨hi, rfl⟩
  · rcases snoc_get h2 with ⟨_, h2⟩ | ⟨hj, _⟩
    · exact h.2 i b q h1 h2
    · have := h.1; omega
  · rcases snoc_get h2 with ⟨hj, _⟩ | ⟨_, rfl⟩
    · have := h.1; omega
    · exact o
theorem OpsAt.get {G : Hp} {as : List Addr} {ops : List Op} {i : Nat} {x : V} (h : OpsAt G as ops) (hx : (as.map V.ref)[i]? = some x) : ∃ a op, x = .ref a ∧ as[i]? = some a ∧ ops[i]? = some op ∧ OpAt G a op := by
  rw [List.getElem?_map] at hx
  cases e : as[i]? with
  | none => rw [e] at hx; cases hx
  | some a =>
    rw [e] at hx
    have hi : i < ops.length := by rw [← h.1]; exact (List.getElem?_eq_some_iff.mp e).1
    exact ⟨a, ops[i], (Option.some.inj hx).symm, rfl, List.getElem?_eq_getElem hi, h.2 i a _ e (List.getElem?_eq_getElem hi)⟩
theorem ref_snoc (as : List Addr) (a : Addr) : as.map V.ref ++ [V.ref a] = (as ++ [a]).map V.ref := by rw [List.map_append]; rfl
def IsDeal (G : Hp) (t : Addr) (as : List Addr) (ops : List Op) : Prop := G t = some (.lst (as.map V.ref)) ∧ OpsAt G as ops ∧ 1 ≤ ops.length ∧ ops.length ≤ 6
theorem IsDeal.ex {G G' : Hp} {t : Addr} {as : List Addr} {ops : List Op} (h : IsDeal G t as ops) (e : Ex G G') : IsDeal G' t as ops := ⟨e _ _ h.1, h.2.1.ex e, h.2.2⟩
/-! ### _law_op -/
abbrev s_law_op : Stmt := top 25
abbrev n_law_op : List Str := ["draws", "keys", "word", "low", "high"]
theorem sc_law_op : FnScope n_law_op ["draws", "keys"] (defScope s_law_op) := ⟨rfl, rfl, rfl, by decide +kernel, rfl, by decide +kernel, by decide +kernel⟩
def sp_law_op (K : PySem.W.Frag) : Sp := Dk K fun v G => ∃ t op, v = .ref t ∧ OpAt G t op
theorem ok_law_op {P : Program} {w : World} {K : PySem.W.Frag} {mg : Str → Option Value} {base : Heap}
    {f : Addr} {fd : FuncData} (D : Dn K mg "_law_op" s_law_op ["draws", "keys"] f fd)
    (b_max : mg "max" = none)
    (b_min : mg "min" = none)
    (c_law_worth : Cal P w K mg base CX0 4 "_law_worth" (sp_law_worth K))
    (c_law_key : Cal P w K mg base CX0 3 "_law_key" (sp_law_key K))
    (c_law_draw : Cal P w K mg base CX0 2 "_law_draw" (sp_law_draw K))
    (c_law_value : Cal P w K mg base CX0 3 "_law_value" (sp_law_value K)) : Cal P w K mg base CX0 5 "_law_op" (sp_law_op K) := by
  refine D.ok sc_law_op (fun vs H Q E h => ?_) fun cdv A outer s H vs Q E hr h => ?_
  · obtain ⟨p, M, G, j, ⟨rfl, _⟩, _⟩ := h; rfl
  obtain ⟨⟨p, t, ks⟩, M, G, j, ⟨rfl, d, hk⟩, k⟩ := h
  refine ⟨_, (pss_cons (ps_set (i := 2) sc_law_op.nd rfl (Or.inl rfl) (pe_ix (ix_uK (K := K) rfl) (pe_lst (pa_cons pe_str (pa_cons pe_str (pa_cons pe_str (pa_cons pe_str (pa_cons pe_str (pa_cons pe_str (pa_cons pe_str (pa_cons pe_str pa_nil))))))))) (pe_op op_mod (pe_cal c_law_draw hr (by first | decide | omega) (by rfl) (pa_cons (pv 0) pa_nil)) pe_int) (fun _ _ => rfl)))
(pss_cons (ps_if (pt_cmpR (op_uEqK (K := K) rfl hr) (pv 2) pe_str (nomark _))
(pss_one (ps_ret (pe_tup (pa_cons pe_str (pa_cons (pe_cal c_law_key hr (by first | decide | omega) (by rfl) (pa_cons (pv 0) (pa_cons (pv 1) pa_nil))) pa_nil)))))
pss_nil)
(pss_cons (ps_if (pt_cmpR (op_uEqK (K := K) rfl hr) (pv 2) pe_str (nomark _))
(pss_one (ps_ret (pe_tup (pa_cons pe_str (pa_cons (pe_cal c_law_key hr (by first | decide | omega) (by rfl) (pa_cons (pv 0) (pa_cons (pv 1) pa_nil))) (pa_cons (pe_cal c_law_value hr (by first | decide | omega) (by rfl) (pa_cons (pv 0) pa_nil)) pa_nil))))))
pss_nil)
(pss_cons (ps_if (pt_cmpR (op_uEqK (K := K) rfl hr) (pv 2) pe_str (nomark _))
(pss_cons (ps_set (i := 3) sc_law_op.nd rfl (Or.inl rfl) (pe_op op_mod (pe_op (op_uAddK (K := K) rfl) (pe_cal c_law_key hr (by first | decide | omega) (by rfl) (pa_cons (pv 0) (pa_cons (pv 1) pa_nil))) (pe_op op_mod (pe_cal c_law_draw hr (by first | decide | omega) (by rfl) (pa_cons (pv 0) pa_nil)) pe_int)) pe_int))
(pss_cons (ps_set (i := 4) sc_law_op.nd rfl (Or.inl rfl) (pe_op op_mod (pe_op (op_uAddK (K := K) rfl) (pe_cal c_law_key hr (by first | decide | omega) (by rfl) (pa_cons (pv 0) (pa_cons (pv 1) pa_nil))) (pe_op op_mod (pe_cal c_law_draw hr (by first | decide | omega) (by rfl) (pa_cons (pv 0) pa_nil)) pe_int)) pe_int))
(pss_one (ps_ret (pe_tup (pa_cons pe_str (pa_cons (pe_callB (call_min2 rfl) (by rfl) b_min bt_min (pa_cons (pv 3) (pa_cons (pv 4) pa_nil))) (pa_cons (pe_callB (call_max2 rfl) (by rfl) b_max bt_max (pa_cons (pv 3) (pa_cons (pv 4) pa_nil))) pa_nil))))))))
pss_nil)
(pss_one (ps_ret (pe_tup (pa_cons (pv 2) (pa_cons (pe_cal c_law_key hr (by first | decide | omega) (by rfl) (pa_cons (pv 0) (pa_cons (pv 1) pa_nil))) (pa_cons (pe_cal c_law_worth hr (by first | decide | omega) (by rfl) (pa_cons (pv 0) pa_nil)) pa_nil)))))))))), ?_⟩
  walk_at "start"
  refine w_new j (by decide) fun q G2 H2 j2 e2 hq nq => ?_
  walk_at "go"
  refine use_draw j2 (d.ex e2) fun n M1 G1 H1 n0 n1 j1 e1 d1 a1 => ?_
  walk_at "go"
  have hk1 := hk.ex (e2.trans e1)
  have fin : ∀ (M' G' H' : Hp) (u : Addr) (op : Op), J M' G' H' → Ex G1 G' → Dr K M' G' p → Ag p M1 M' → OpAt G' u op → Q (.ref u) H' := fun M' G' H' u op j e d a o => k _ _ _ _ j ((e2.trans e1).trans e) ⟨⟨u, op, rfl, o⟩, d, a1.trans a⟩
  have hp : n % 8 = 0 ∨ n % 8 = 1 ∨ n % 8 = 2 ∨ n % 8 = 3 ∨ n % 8 = 4 ∨ n % 8 = 5 ∨ n % 8 = 6 ∨ n % 8 = 7 := by omega
  have Put : ∀ (w : Str) (op : Int → Option Int → Op), (∀ k v, opV (op k v) = [.str w, .int k, ov v]) → (∀ k v, OkOp (op k v) = (IsKey k ∧ OkV v)) →
      sp_law_key K ([.ref p, .ref t] ++ []) H1 (fun x H1 => tCons (tCall (sp_law_worth K) [] E0 (tCons (tVar 0) tNil)) tNil [some (.ref p), some (.ref t), some (.str w), none, none] H1 fun xs H2 => NewO (.tup (.str w :: x :: xs)) (V.str w :: x :: xs).length H2 Q) E0 := fun w op hv ho => by
    walk_at "go"
    refine use_dk j1 d1 hk1 fun v M3 G3 H3 ⟨x, ev, hx⟩ j3 e3 d3 a3 => ?_
    subst ev
    walk_at "go"
    refine use_dg j3 d3 fun v M4 G4 H4 ⟨y, ev, hy⟩ j4 e4 d4 a4 => ?_
    subst ev
    walk_at "go"
    refine w_new j4 (by show 3 ≤ sizeLine; decide) fun u G5 H5 j5 e5 hu _ => ?_
    exact fin _ _ _ u (op x y) j5 ((e3.trans e4).trans e5) (d4.ex e5) (a3.trans a4) ⟨by rw [hv]; exact hu, by rw [ho]; exact ⟨hx, hy⟩⟩
  rcases hp with hp | hp | hp | hp | hp | hp | hp | hp
  · rw [hp]
    refine w_ixL j1 (sl_of (e1 _ _ hq)) (by rfl) ?_
    walk_at "go"
    refine use_dk j1 d1 hk1 fun v M3 G3 H3 ⟨x, ev, hx⟩ j3 e3 d3 a3 => ?_
    subst ev
    walk_at "go"
    refine w_new j3 (by show 2 ≤ sizeLine; decide) fun u G5 H5 j5 e5 hu _ => ?_
    exact fin _ _ _ u (.get x) j5 (e3.trans e5) (d3.ex e5) a3 ⟨hu, hx⟩
  · rw [hp]
    refine w_ixL j1 (sl_of (e1 _ _ hq)) (by rfl) ?_
    walk_at "go"
    exact Put "put" .put (fun _ _ => rfl) (fun _ _ => rfl)
  · rw [hp]
    refine w_ixL j1 (sl_of (e1 _ _ hq)) (by rfl) ?_
    walk_at "go"
    refine use_dk j1 d1 hk1 fun v M3 G3 H3 ⟨x, ev, hx⟩ j3 e3 d3 a3 => ?_
    subst ev
    walk_at "go"
    refine use_dg j3 d3 fun v M4 G4 H4 ⟨y, ev, hy⟩ j4 e4 d4 a4 => ?_
    subst ev
    walk_at "go"
    refine w_new j4 (by show 3 ≤ sizeLine; decide) fun u G5 H5 j5 e5 hu _ => ?_
    exact fin _ _ _ u (.add x y) j5 ((e3.trans e4).trans e5) (d4.ex e5) (a3.trans a4) ⟨hu, hx, hy⟩
  · rw [hp]
    refine w_ixL j1 (sl_of (e1 _ _ hq)) (by rfl) ?_
    walk_at "go"
    exact Put "need" .need (fun _ _ => rfl) (fun _ _ => rfl)
  · rw [hp]
    refine w_ixL j1 (sl_of (e1 _ _ hq)) (by rfl) ?_
    walk_at "go"
    refine use_dk j1 d1 hk1 fun v M3 G3 H3 ⟨x, ev, hx⟩ j3 e3 d3 a3 => ?_
    subst ev
    walk_at "go"
    refine use_draw j3 d3 fun n1 M4 G4 H4 _ _ j4 e4 d4 a4 => ?_
    walk_at "go"
    refine use_dk j4 d4 (hk1.ex (e3.trans e4)) fun v M5 G5 H5 ⟨y, ev, hy⟩ j5 e5 d5 a5 => ?_
    subst ev
    walk_at "go"
    refine use_draw j5 d5 fun n2 M6 G6 H6 _ _ j6 e6 d6 a6 => ?_
    walk_at "go"
    refine ⟨_, _, rfl, ?_⟩
    walk_at "go"
    refine ⟨_, _, rfl, ?_⟩
    walk_at "go"
    have b1 : 0 ≤ (x + n1 % 2) % 1001 ∧ (x + n1 % 2) % 1001 < 1001 := ⟨Int.emod_nonneg _ (by decide), Int.emod_lt_of_pos _ (by decide)⟩
    have b2 : 0 ≤ (y + n2 % 2) % 1001 ∧ (y + n2 % 2) % 1001 < 1001 := ⟨Int.emod_nonneg _ (by decide), Int.emod_lt_of_pos _ (by decide)⟩
    generalize (x + n1 % 2) % 1001 = lo at b1 ⊢
    generalize (y + n2 % 2) % 1001 = hi at b2 ⊢
    refine w_new j6 (by show 3 ≤ sizeLine; decide) fun u G7 H7 j7 e7 hu _ => ?_
    refine fin _ _ _ u (.scan (if hi < lo then hi else lo) (if hi > lo then hi else lo)) j7 ((((e3.trans e4).trans e5).trans e6).trans e7) (d6.ex e7) (((a3.trans a4).trans a5).trans a6) ⟨hu, ?_⟩
    show 0 ≤ (if hi < lo then hi else lo) ∧ (if hi < lo then hi else lo) ≤ (if hi > lo then hi else lo) ∧ (if hi > lo then hi else lo) ≤ 1000
    by_cases h1 : hi < lo <;> by_cases h2 : hi > lo <;> simp only [h1, h2, if_true, if_false] <;> omega
  · rw [hp]
    refine w_ixL j1 (sl_of (e1 _ _ hq)) (by rfl) ?_
    walk_at "go"
    refine use_dk j1 d1 hk1 fun v M3 G3 H3 ⟨x, ev, hx⟩ j3 e3 d3 a3 => ?_
    subst ev
    walk_at "go"
    refine use_dg j3 d3 fun v M4 G4 H4 ⟨y, ev, hy⟩ j4 e4 d4 a4 => ?_
    subst ev
    walk_at "go"
    refine w_new j4 (by show 3 ≤ sizeLine; decide) fun u G5 H5 j5 e5 hu _ => ?_
    exact fin _ _ _ u (.add x y) j5 ((e3.trans e4).trans e5) (d4.ex e5) (a3.trans a4) ⟨hu, hx, hy⟩
  · rw [hp]
    refine w_ixL j1 (sl_of (e1 _ _ hq)) (by rfl) ?_
    walk_at "go"
    exact Put "put" .put (fun _ _ => rfl) (fun _ _ => rfl)
  · rw [hp]
    refine w_ixL j1 (sl_of (e1 _ _ hq)) (by rfl) ?_
    walk_at "go"
    refine use_dk j1 d1 hk1 fun v M3 G3 H3 ⟨x, ev, hx⟩ j3 e3 d3 a3 => ?_
    subst ev
    walk_at "go"
    refine w_new j3 (by show 2 ≤ sizeLine; decide) fun u G5 H5 j5 e5 hu _ => ?_
    exact fin _ _ _ u (.get x) j5 (e3.trans e5) (d3.ex e5) a3 ⟨hu, hx⟩
/-! ### _law_bad -/
abbrev s_law_bad : Stmt := top 31
abbrev n_law_bad : List Str := ["draws", "number", "bad"]
theorem sc_law_bad : FnScope n_law_bad ["draws"] (defScope s_law_bad) := ⟨rfl, rfl, rfl, by decide +kernel, rfl, by decide +kernel, by decide +kernel⟩
def sp_law_bad (K : PySem.W.Frag) : Sp := Dg K fun v _ => flatV v = true
theorem ok_law_bad {P : Program} {w : World} {K : PySem.W.Frag} {mg : Str → Option Value} {base : Heap}
    {f : Addr} {fd : FuncData} (D : Dn K mg "_law_bad" s_law_bad ["draws"] f fd)
    (c_law_draw : Cal P w K mg base CX0 2 "_law_draw" (sp_law_draw K)) : Cal P w K mg base CX0 3 "_law_bad" (sp_law_bad K) := by
  refine D.ok sc_law_bad (fun vs H Q E h => ?_) fun cdv A outer s H vs Q E hr h => ?_
  · obtain ⟨p, M, G, j, ⟨rfl, _⟩, _⟩ := h; rfl
  obtain ⟨p, M, G, j, ⟨rfl, d⟩, k⟩ := h
  refine ⟨_, (pss_cons (ps_set (i := 1) sc_law_bad.nd rfl (Or.inl rfl) (pe_cal c_law_draw hr (by first | decide | omega) (by rfl) (pa_cons (pv 0) pa_nil)))
(pss_cons (ps_set (i := 2) sc_law_bad.nd rfl (Or.inl rfl) (pe_lst (pa_cons (pe_un un_neg pe_int) (pa_cons pe_int (pa_cons pe_int (pa_cons pe_bl (pa_cons pe_bl (pa_cons pe_non (pa_cons pe_str (pa_cons (pe_op op_pow pe_int pe_int) (pa_cons (pe_op (op_uAddK (K := K) rfl) (pe_op op_pow pe_int pe_int) pe_int) (pa_cons (pe_op op_sub (pe_un un_neg (pe_op op_pow pe_int pe_int)) pe_int) (pa_cons pe_int (pa_cons pe_int (pa_cons (pv 1) pa_nil)))))))))))))))
(pss_one (ps_ret (pe_ix (ix_uK (K := K) rfl) (pv 2) (pe_op op_mod (pe_cal c_law_draw hr (by first | decide | omega) (by rfl) (pa_cons (pv 0) pa_nil)) pe_int) (fun _ _ => rfl)))))), ?_⟩
  walk_at "start"
  refine use_draw j d fun m M1 G1 H1 m0 m1 j1 e1 d1 a1 => ?_
  walk_at "go"
  refine w_new j1 (by show 13 ≤ sizeLine; decide) fun q G2 H2 j2 e2 hq nq => ?_
  walk_at "go"
  refine use_draw j2 (d1.ex e2) fun n M3 G3 H3 n0 n1 j3 e3 d3 a3 => ?_
  walk_at "go"
  have hp : 0 ≤ n % 13 ∧ n % 13 < 13 := ⟨Int.emod_nonneg _ (by decide), Int.emod_lt_of_pos _ (by decide)⟩
  generalize n % 13 = c at hp ⊢
  have fin : ∀ v, flatV v = true → Q v H3 := fun v h => k _ _ _ _ j3 ((e1.trans e2).trans e3) ⟨h, d3, a1.trans a3⟩
  obtain ⟨i, rfl⟩ := Int.eq_ofNat_of_zero_le hp.1
  have hi : i < 13 := by omega
  match i, hi with
  | 0, _ => exact w_ixL j3 (sl_of (e3 _ _ hq)) (atI_nat (j := 0) rfl) (fin _ rfl)
  | 1, _ => exact w_ixL j3 (sl_of (e3 _ _ hq)) (atI_nat (j := 1) rfl) (fin _ rfl)
  | 2, _ => exact w_ixL j3 (sl_of (e3 _ _ hq)) (atI_nat (j := 2) rfl) (fin _ rfl)
  | 3, _ => exact w_ixL j3 (sl_of (e3 _ _ hq)) (atI_nat (j := 3) rfl) (fin _ rfl)
  | 4, _ => exact w_ixL j3 (sl_of (e3 _ _ hq)) (atI_nat (j := 4) rfl) (fin _ rfl)
  | 5, _ => exact w_ixL j3 (sl_of (e3 _ _ hq)) (atI_nat (j := 5) rfl) (fin _ rfl)
  | 6, _ => exact w_ixL j3 (sl_of (e3 _ _ hq)) (atI_nat (j := 6) rfl) (fin _ rfl)
  | 7, _ => exact w_ixL j3 (sl_of (e3 _ _ hq)) (atI_nat (j := 7) rfl) (fin _ rfl)
  | 8, _ => exact w_ixL j3 (sl_of (e3 _ _ hq)) (atI_nat (j := 8) rfl) (fin _ rfl)
  | 9, _ => exact w_ixL j3 (sl_of (e3 _ _ hq)) (atI_nat (j := 9) rfl) (fin _ rfl)
  | 10, _ => exact w_ixL j3 (sl_of (e3 _ _ hq)) (atI_nat (j := 10) rfl) (fin _ rfl)
  | 11, _ => exact w_ixL j3 (sl_of (e3 _ _ hq)) (atI_nat (j := 11) rfl) (fin _ rfl)
  | 12, _ => exact w_ixL j3 (sl_of (e3 _ _ hq)) (atI_nat (j := 12) rfl) (fin _ rfl)
/-! ### _law_spoilt -/
abbrev s_law_spoilt : Stmt := top 32
abbrev n_law_spoilt : List Str := ["draws", "op", "pick", "words"]
theorem sc_law_spoilt : FnScope n_law_spoilt ["draws", "op"] (defScope s_law_spoilt) := ⟨rfl, rfl, rfl, by decide +kernel, rfl, by decide +kernel, by decide +kernel⟩
def sp_law_spoilt (K : PySem.W.Frag) : Sp := Sg (α := Addr × Itm) (fun x vs M G => vs = [.ref x.1, .ref x.2.t] ∧ Dr K M G x.1 ∧ ItmAt K G x.2 ∧ x.2.tp = true ∧ 2 ≤ x.2.vs.length ∧ x.2.vs.length ≤ 3)
  (fun x M _ v M' G' => (∃ i, v = .ref i.t ∧ ItmAt K G' i) ∧ Dr K M' G' x.1 ∧ Ag x.1 M M')
theorem w_ixAny {K : PySem.W.Frag} {M G H : Hp} {a : Addr} {xs : List V} {m : Int} {Q : VK} (j : J M G H) (h : SqL K G a xs) (h0 : 0 ≤ m) (h1 : m < xs.length) (q : ∀ v ∈ xs, Q v H) : uIx K (.ref a) (.int m) H Q := by
  obtain ⟨i, rfl⟩ := Int.eq_ofNat_of_zero_le h0
  have hi : i < xs.length := by omega
  exact w_ixL j h (atI_nat (j := i) (List.getElem?_eq_getElem hi)) (q _ (List.getElem_mem hi))
theorem flat_cut {xs ys : List V} {lo hi : Option Int} (h : ∀ v ∈ xs, flatV v = true) (g : ∀ v ∈ ys, flatV v = true) : ∀ v ∈ ys ++ cutV xs lo hi, flatV v = true := fun v hv => by
  rcases List.mem_append.mp hv with z | z
  · exact g v z
  · exact h v (cut_sub z)
theorem flat_cutR {xs ys : List V} {lo hi : Option Int} (h : ∀ v ∈ xs, flatV v = true) (g : ∀ v ∈ ys, flatV v = true) : ∀ v ∈ cutV xs lo hi ++ ys, flatV v = true := fun v hv => by
  rcases List.mem_append.mp hv with z | z
  · exact h v (cut_sub z)
  · exact g v z
theorem flat_1 {v : V} (h : flatV v = true) : ∀ u ∈ [v], flatV u = true := fun u hu => by rw [List.mem_singleton.mp hu]; exact h
theorem two_of : ∀ {vs : List V}, 2 ≤ vs.length → ∃ x y r, vs = x :: y :: r
  | [], h => absurd h (by decide)
  | [_], h => absurd h (by simp)
  | x :: y :: r, _ => ⟨x, y, r, rfl⟩
theorem cut2_len {x y : V} {r : List V} (h : (x :: y :: r).length ≤ 3) : (cutV (x :: y :: r) (some 2) none).length ≤ 1 := by
  have h1 : HT.sIx (x :: y :: r).length 0 (some 2) = min 2 (x :: y :: r).length := rfl
  unfold cutV
  rw [h1, List.length_take, List.length_drop]
  simp only [List.length_cons] at h ⊢
  omega
theorem ok_law_spoilt {P : Program} {w : World} {K : PySem.W.Frag} {mg : Str → Option Value} {base : Heap}
    {f : Addr} {fd : FuncData} (D : Dn K mg "_law_spoilt" s_law_spoilt ["draws", "op"] f fd)
    (b_list : mg "list" = none)
    (b_len : mg "len" = none)
    (c_law_bad : Cal P w K mg base CX0 3 "_law_bad" (sp_law_bad K))
    (c_law_draw : Cal P w K mg base CX0 2 "_law_draw" (sp_law_draw K)) : Cal P w K mg base CX0 4 "_law_spoilt" (sp_law_spoilt K) := by
  refine D.ok sc_law_spoilt (fun vs H Q E h => ?_) fun cdv A outer s H vs Q E hr h => ?_
  · obtain ⟨x, M, G, j, ⟨rfl, _⟩, _⟩ := h; rfl
  obtain ⟨⟨p, ⟨tp, t, vs⟩⟩, M, G, j, ⟨rfl, d, ⟨ht, hf, _⟩, htp, l2, l3⟩, k⟩ := h
  dsimp only at d ht hf htp l2 l3 k
  subst htp
  have ht : SqT K G t vs := ht
  refine ⟨_, (pss_cons (ps_set (i := 2) sc_law_spoilt.nd rfl (Or.inl rfl) (pe_op op_mod (pe_cal c_law_draw hr (by first | decide | omega) (by rfl) (pa_cons (pv 0) pa_nil)) pe_int))
(pss_cons (ps_set (i := 3) sc_law_spoilt.nd rfl (Or.inl rfl) (pe_lst (pa_cons pe_str (pa_cons pe_str (pa_cons pe_str (pa_cons pe_str (pa_cons pe_str (pa_cons pe_str (pa_cons pe_str (pa_cons pe_str (pa_cons pe_str pa_nil)))))))))))
(pss_cons (ps_if (pt_cmpR (op_uEqK (K := K) rfl hr) (pv 2) pe_int (nomark _))
(pss_one (ps_ret (pe_op (op_uAddK (K := K) rfl) (pe_tup (pa_cons (pe_ix (ix_uK (K := K) rfl) (pv 3) (pe_op op_mod (pe_cal c_law_draw hr (by first | decide | omega) (by rfl) (pa_cons (pv 0) pa_nil)) pe_int) (fun _ _ => rfl)) pa_nil)) (pe_slice (sl_uK (K := K) rfl) (pv 1) (po_some pe_int) po_none))))
pss_nil)
(pss_cons (ps_if (pt_cmpR (op_uEqK (K := K) rfl hr) (pv 2) pe_int (nomark _))
(pss_one (ps_ret (pe_slice (sl_uK (K := K) rfl) (pv 1) po_none (po_some (pe_op op_sub (pe_callB (call_uLenK (K := K) rfl) (by rfl) b_len PySem.boot_len (pa_cons (pv 1) pa_nil)) pe_int)))))
pss_nil)
(pss_cons (ps_if (pt_cmpR (op_uEqK (K := K) rfl hr) (pv 2) pe_int (nomark _))
(pss_one (ps_ret (pe_op (op_uAddK (K := K) rfl) (pv 1) (pe_tup (pa_cons (pe_cal c_law_bad hr (by first | decide | omega) (by rfl) (pa_cons (pv 0) pa_nil)) pa_nil)))))
pss_nil)
(pss_cons (ps_if (pt_cmpR (op_uEqK (K := K) rfl hr) (pv 2) pe_int (nomark _))
(pss_one (ps_ret (pe_op (op_uAddK (K := K) rfl) (pe_tup (pa_cons (pe_ix (ix_uK (K := K) rfl) (pv 1) pe_int (fun _ _ => rfl)) (pa_cons (pe_cal c_law_bad hr (by first | decide | omega) (by rfl) (pa_cons (pv 0) pa_nil)) pa_nil))) (pe_slice (sl_uK (K := K) rfl) (pv 1) (po_some pe_int) po_none))))
pss_nil)
(pss_cons (ps_if (PW.pt (pw_or (pt_cmpR (op_uEqK (K := K) rfl hr) (pv 2) pe_int (nomark _)) (pw_or1 (pt_cmpR (op_uEqK (K := K) rfl hr) (pv 2) pe_int (nomark _)))))
(pss_one (ps_ret (pe_op (op_uAddK (K := K) rfl) (pe_slice (sl_uK (K := K) rfl) (pv 1) po_none (po_some (pe_op op_sub (pe_callB (call_uLenK (K := K) rfl) (by rfl) b_len PySem.boot_len (pa_cons (pv 1) pa_nil)) pe_int))) (pe_tup (pa_cons (pe_cal c_law_bad hr (by first | decide | omega) (by rfl) (pa_cons (pv 0) pa_nil)) pa_nil)))))
pss_nil)
(pss_cons (ps_if (pt_cmpR (op_uEqK (K := K) rfl hr) (pv 2) pe_int (nomark _))
(pss_one (ps_ret (pe_callTy (call_listC (K := K) rfl) (by rfl) b_list bt_list (pa_cons (pv 1) pa_nil))))
pss_nil)
(pss_cons (ps_if (pt_cmpR (op_uEqK (K := K) rfl hr) (pv 2) pe_int (nomark _))
(pss_one (ps_ret (pe_tup (pa_cons pe_str (pa_cons (pe_cal c_law_bad hr (by first | decide | omega) (by rfl) (pa_cons (pv 0) pa_nil)) (pa_cons (pe_cal c_law_bad hr (by first | decide | omega) (by rfl) (pa_cons (pv 0) pa_nil)) pa_nil))))))
pss_nil)
(pss_one (ps_ret (pe_tup (pa_cons (pe_ix (ix_uK (K := K) rfl) (pv 1) pe_int (fun _ _ => rfl)) (pa_cons (pe_ix (ix_uK (K := K) rfl) (pv 1) pe_int (fun _ _ => rfl)) (pa_cons (pe_ix (ix_uK (K := K) rfl) (pv 1) pe_int (fun _ _ => rfl)) pa_nil))))))))))))))), ?_⟩
  walk_at "start"
  refine use_draw j d fun m M1 G1 H1 m0 m1 j1 e1 d1 a1 => ?_
  walk_at "go"
  have hp : 0 ≤ m % 9 ∧ m % 9 < 9 := ⟨Int.emod_nonneg _ (by decide), Int.emod_lt_of_pos _ (by decide)⟩
  generalize m % 9 = c at hp ⊢
  refine w_new j1 (by show 9 ≤ sizeLine; decide) fun q G2 H2 j2 e2 hq nq => ?_
  walk_at "go"
  have ht2 := st_mono e2 (st_mono e1 ht)
  have d2 := d1.ex e2
  have fin : ∀ (i : Itm) (M' G' H' : Hp), J M' G' H' → Ex G2 G' → Dr K M' G' p → Ag p M1 M' → ItmAt K G' i → Q (.ref i.t) H' := fun i M' G' H' j e d a o => k _ _ _ _ j ((e1.trans e2).trans e) ⟨⟨i, rfl, o⟩, d, a1.trans a⟩
  obtain ⟨x, y, r, rfl⟩ : ∃ x y r, vs = x :: y :: r := by
    exact two_of l2
  have hx : flatV x = true := hf x List.mem_cons_self
  have hy : flatV y = true := hf y (List.mem_cons_of_mem _ List.mem_cons_self)
  refine w_dec (fun h => ?_) (fun h => ?_)
  · walk_at "go"
    refine use_draw j2 d2 fun n M3 G3 H3 n0 n1 j3 e3 d3 a3 => ?_
    walk_at "go"
    refine w_ixAny j3 (sl_of (e3 _ _ hq)) (Int.emod_nonneg _ (by decide)) (by have := Int.emod_lt_of_pos n (b := 9) (by decide); exact this) fun w hw => ?_
    have hw : flatV w = true := by
      have : [V.str "get", .str "put", .str "add", .str "need", .str "scan", .str "Get", .str "", .str "set", .str "gets"].all flatV = true := by decide
      exact List.all_eq_true.mp this w hw
    walk_at "go"
    refine w_new j3 (by show 1 ≤ sizeLine; decide) fun u G4 H4 j4 e4 hu _ => ?_
    walk_at "go"
    refine w_slTG j4 (st_mono e4 (st_mono e3 ht2)) fun u2 G5 H5 j5 e5 hu2 => ?_
    refine w_catT j5 (st_of (e5 _ _ hu)) hu2 (by have := cut_len (xs := x :: y :: r) (lo := some 1) (hi := none); simp only [List.length_cons, List.length_nil] at this l3 ⊢; omega) fun u3 G6 H6 j6 e6 hu3 => ?_
    refine fin ⟨true, u3, _⟩ _ _ _ j6 (((e3.trans e4).trans e5).trans e6) (((d3.ex e4).ex e5).ex e6) a3 ⟨hu3, flat_cut hf (flat_1 hw), ?_⟩
    have := cut_len (xs := x :: y :: r) (lo := some 1) (hi := none); simp only [List.length_append, List.length_cons, List.length_nil] at this l3 ⊢; omega
  walk_at "go"
  refine w_dec (fun h => ?_) (fun h => ?_)
  · walk_at "go"
    refine w_lenT j2 ht2 ?_
    walk_at "go"
    refine w_slTG j2 ht2 fun u G3 H3 j3 e3 hu => ?_
    refine fin ⟨true, u, _⟩ _ _ _ j3 e3 (d2.ex e3) (Ag.refl _ _) ⟨hu, fun v hv => hf v (cut_sub hv), Nat.le_trans cut_len (by omega)⟩
  walk_at "go"
  refine w_dec (fun h => ?_) (fun h => ?_)
  · walk_at "go"
    refine use_dg j2 d2 fun b M3 G3 H3 hb j3 e3 d3 a3 => ?_
    walk_at "go"
    refine w_new j3 (by show 1 ≤ sizeLine; decide) fun u G4 H4 j4 e4 hu _ => ?_
    refine w_catT j4 (st_mono e4 (st_mono e3 ht2)) (st_of hu) (by simp only [List.length_cons, List.length_nil] at l3 ⊢; omega) fun u3 G6 H6 j6 e6 hu3 => ?_
    refine fin ⟨true, u3, _⟩ _ _ _ j6 ((e3.trans e4).trans e6) ((d3.ex e4).ex e6) a3 ⟨hu3, fun v hv => ?_, by simp only [List.length_append, List.length_cons, List.length_nil] at l3 ⊢; omega⟩
    rcases List.mem_append.mp hv with z | z
    · exact hf v z
    · exact flat_1 hb v z
  walk_at "go"
  refine w_dec (fun h => ?_) (fun h => ?_)
  · walk_at "go"
    refine w_ixT j2 ht2 atI_0 ?_
    walk_at "go"
    refine use_dg j2 d2 fun b M3 G3 H3 hb j3 e3 d3 a3 => ?_
    walk_at "go"
    refine w_new j3 (by show 2 ≤ sizeLine; decide) fun u G4 H4 j4 e4 hu _ => ?_
    walk_at "go"
    refine w_slTG j4 (st_mono e4 (st_mono e3 ht2)) fun u2 G5 H5 j5 e5 hu2 => ?_
    have hc : (cutV (x :: y :: r) (some 2) none).length ≤ 1 := cut2_len l3
    refine w_catT j5 (st_of (e5 _ _ hu)) hu2 (by simp only [List.length_cons, List.length_nil]; omega) fun u3 G6 H6 j6 e6 hu3 => ?_
    refine fin ⟨true, u3, _⟩ _ _ _ j6 (((e3.trans e4).trans e5).trans e6) (((d3.ex e4).ex e5).ex e6) a3 ⟨hu3, flat_cut hf fun v hv => ?_, by simp only [List.length_append, List.length_cons, List.length_nil]; omega⟩
    rcases List.mem_cons.mp hv with z | z
    · rw [z]; exact hx
    · exact flat_1 hb v z
  walk_at "go"
  refine w_dec (fun h => ?_) (fun h => ?_)
  · refine w_T ?_
    walk_at "go"
    refine w_lenT j2 ht2 ?_
    walk_at "go"
    refine w_slTG j2 ht2 fun u G3 H3 j3 e3 hu => ?_
    walk_at "go"
    refine use_dg j3 (d2.ex e3) fun b M4 G4 H4 hb j4 e4 d4 a4 => ?_
    walk_at "go"
    refine w_new j4 (by show 1 ≤ sizeLine; decide) fun u2 G5 H5 j5 e5 hu2 _ => ?_
    refine w_catT j5 (st_mono e5 (st_mono e4 hu)) (st_of hu2) (by have := cut_len (xs := x :: y :: r) (lo := none) (hi := some (((x :: y :: r).length : Int) - 1)); simp only [List.length_cons, List.length_nil] at this l3 ⊢; omega) fun u3 G6 H6 j6 e6 hu3 => ?_
    refine fin ⟨true, u3, _⟩ _ _ _ j6 (((e3.trans e4).trans e5).trans e6) ((d4.ex e5).ex e6) a4 ⟨hu3, flat_cutR hf (flat_1 hb), ?_⟩
    have := cut_len (xs := x :: y :: r) (lo := none) (hi := some (((x :: y :: r).length : Int) - 1)); simp only [List.length_append, List.length_cons, List.length_nil] at this l3 ⊢; omega
  walk_at "go"
  refine w_dec (fun h => ?_) (fun h => ?_)
  · walk_at "go"
    refine w_lenT j2 ht2 ?_
    walk_at "go"
    refine w_slTG j2 ht2 fun u G3 H3 j3 e3 hu => ?_
    walk_at "go"
    refine use_dg j3 (d2.ex e3) fun b M4 G4 H4 hb j4 e4 d4 a4 => ?_
    walk_at "go"
    refine w_new j4 (by show 1 ≤ sizeLine; decide) fun u2 G5 H5 j5 e5 hu2 _ => ?_
    refine w_catT j5 (st_mono e5 (st_mono e4 hu)) (st_of hu2) (by have := cut_len (xs := x :: y :: r) (lo := none) (hi := some (((x :: y :: r).length : Int) - 1)); simp only [List.length_cons, List.length_nil] at this l3 ⊢; omega) fun u3 G6 H6 j6 e6 hu3 => ?_
    refine fin ⟨true, u3, _⟩ _ _ _ j6 (((e3.trans e4).trans e5).trans e6) ((d4.ex e5).ex e6) a4 ⟨hu3, flat_cutR hf (flat_1 hb), ?_⟩
    have := cut_len (xs := x :: y :: r) (lo := none) (hi := some (((x :: y :: r).length : Int) - 1)); simp only [List.length_append, List.length_cons, List.length_nil] at this l3 ⊢; omega
  walk_at "go"
  refine w_dec (fun h => ?_) (fun h => ?_)
  · walk_at "go"
    refine w_listC (.inr (st_mono j2.g ht2)) (w_new j2 (Nat.zero_le _) fun u G3 H3 j3 e3 hu _ => ?_)
    exact fin ⟨false, u, _⟩ _ _ _ j3 e3 (d2.ex e3) (Ag.refl _ _) ⟨sl_of hu, hf, by omega⟩
  walk_at "go"
  refine w_dec (fun h => ?_) (fun h => ?_)
  · walk_at "go"
    refine use_dg j2 d2 fun b M3 G3 H3 hb j3 e3 d3 a3 => ?_
    walk_at "go"
    refine use_dg j3 d3 fun b2 M4 G4 H4 hb2 j4 e4 d4 a4 => ?_
    walk_at "go"
    refine w_new j4 (by show 3 ≤ sizeLine; decide) fun u G5 H5 j5 e5 hu _ => ?_
    refine fin ⟨true, u, _⟩ _ _ _ j5 ((e3.trans e4).trans e5) (d4.ex e5) (a3.trans a4) ⟨st_of hu, fun v hv => ?_, by show 3 ≤ 4; decide⟩
    rcases List.mem_cons.mp hv with z | z
    · rw [z]; rfl
    · rcases List.mem_cons.mp z with z | z
      · rw [z]; exact hb
      · exact flat_1 hb2 v z
  walk_at "go"
  refine w_ixT j2 ht2 atI_0 ?_
  walk_at "go"
  refine w_ixT j2 ht2 (atI_nat (j := 1) rfl) ?_
  walk_at "go"
  refine w_ixT j2 ht2 (atI_nat (j := 1) rfl) ?_
  walk_at "go"
  refine w_new j2 (by show 3 ≤ sizeLine; decide) fun u G5 H5 j5 e5 hu _ => ?_
  refine fin ⟨true, u, _⟩ _ _ _ j5 e5 (d2.ex e5) (Ag.refl _ _) ⟨st_of hu, fun v hv => ?_, by show 3 ≤ 4; decide⟩
  rcases List.mem_cons.mp hv with z | z
  · rw [z]; exact hx
  · rcases List.mem_cons.mp z with z | z
    · rw [z]; exact hy
    · exact flat_1 hy v z
/-! ### is_plain_integer -/
abbrev s_is_plain_integer : Stmt := top 5
abbrev n_is_plain_integer : List Str := ["thing"]
theorem sc_is_plain_integer : FnScope n_is_plain_integer ["thing"] (defScope s_is_plain_integer) := ⟨rfl, rfl, rfl, by decide +kernel, rfl, by decide +kernel, by decide +kernel⟩
def isI : V → Bool
  | .int _ => true
  | _ => false
def sp_is_plain_integer (K : PySem.W.Frag) : Sp := Sg (α := V) (fun x vs _ _ => vs = [x] ∧ flatV x = true) (fun x M _ v M' _ => v = .bl (isI x) ∧ M' = M)
theorem ok_is_plain_integer {P : Program} {w : World} {K : PySem.W.Frag} {mg : Str → Option Value} {base : Heap}
    {f : Addr} {fd : FuncData} (D : Dn K mg "is_plain_integer" s_is_plain_integer ["thing"] f fd)
    (b_isinstance : mg "isinstance" = none)
    (b_bool : mg "bool" = none)
    (b_int : mg "int" = none) : Cal P w K mg base CX0 1 "is_plain_integer" (sp_is_plain_integer K) := by
  refine D.ok sc_is_plain_integer (fun vs H Q E h => ?_) fun cdv A outer s H vs Q E hr h => ?_
  · obtain ⟨x, M, G, j, ⟨rfl, _⟩, _⟩ := h; rfl
  obtain ⟨x, M, G, j, ⟨rfl, hx⟩, k⟩ := h
  refine ⟨_, (pss_one (ps_ret (pe_and (pe_callB (call_isiK' (K := K) rfl) (by rfl) b_isinstance bt_isinstance (pa_cons (pv 0) (pa_cons (pe_bltn (v := .ty "int") (by rfl) b_int bt_int rfl) pa_nil))) (pe_one (pe_not (pe_callB (call_isiK' (K := K) rfl) (by rfl) b_isinstance bt_isinstance (pa_cons (pv 0) (pa_cons (pe_bltn (v := .ty "bool") (by rfl) b_bool bt_bool rfl) pa_nil)))))))), ?_⟩
  walk_at "start"
  have fin : ∀ b, b = isI x → Q (.bl b) H := fun b e => k _ _ _ _ j (Same.refl G) ⟨by rw [e], rfl⟩
  cases x with
  | non => walk_at "go"; exact fin _ rfl
  | bl b => walk_at "go"; exact fin _ rfl
  | int b => walk_at "go"; exact fin _ rfl
  | str b => walk_at "go"; exact fin _ rfl
  | byt b => cases hx
  | flt b => cases hx
  | ref b => cases hx
  | ty b => cases hx
/-! ### is_scan -/
abbrev s_is_scan : Stmt := top 12
abbrev n_is_scan : List Str := ["low", "high"]
theorem sc_is_scan : FnScope n_is_scan ["low", "high"] (defScope s_is_scan) := ⟨rfl, rfl, rfl, by decide +kernel, rfl, by decide +kernel, by decide +kernel⟩
def sp_is_scan (K : PySem.W.Frag) : Sp := Sg (α := V × V) (fun x vs _ _ => vs = [x.1, x.2] ∧ flatV x.1 = true ∧ flatV x.2 = true) (fun x M _ v M' _ => v = .bl (scanB x.1 x.2) ∧ M' = M)
theorem isI_int {x : V} (h : isI x = true) : ∃ a, x = .int a := by cases x <;> first | exact ⟨_, rfl⟩ | exact absurd h Bool.false_ne_true
theorem scanB_no {x y : V} (h : isI x = false ∨ isI y = false) : scanB x y = false := by
  cases x <;> first
    | rfl
    | (cases y <;> first
      | exact Bool.and_false _
      | (rcases h with h | h <;> cases h))
theorem scanB_ii (a b : Int) : scanB (.int a) (.int b) = (decide (0 ≤ a) && (decide (a ≤ b) && decide (b ≤ 1000))) := by
  show (decide (0 ≤ a ∧ a ≤ 1000) && decide (a ≤ b ∧ b ≤ 1000)) = _
  by_cases h1 : 0 ≤ a <;> by_cases h2 : a ≤ b <;> by_cases h3 : b ≤ 1000 <;> simp [h1, h2, h3] <;> omega
theorem ok_is_scan {P : Program} {w : World} {K : PySem.W.Frag} {mg : Str → Option Value} {base : Heap}
    {f : Addr} {fd : FuncData} (D : Dn K mg "is_scan" s_is_scan ["low", "high"] f fd)
    (g_KEYS : ∃ u, mg "KEYS" = some u ∧ RelV (.int 1000) u)
    (c_is_plain_integer : Cal P w K mg base CX0 1 "is_plain_integer" (sp_is_plain_integer K)) : Cal P w K mg base CX0 2 "is_scan" (sp_is_scan K) := by
  refine D.ok sc_is_scan (fun vs H Q E h => ?_) fun cdv A outer s H vs Q E hr h => ?_
  · obtain ⟨x, M, G, j, ⟨rfl, _⟩, _⟩ := h; rfl
  obtain ⟨⟨x, y⟩, M, G, j, ⟨rfl, hx, hy⟩, k⟩ := h
  dsimp only at hx hy k
  refine ⟨_, (pss_one (ps_ret (pe_and (pe_cal c_is_plain_integer hr (by first | decide | omega) (by rfl) (pa_cons (pv 0) pa_nil)) (pe_and (pe_cal c_is_plain_integer hr (by first | decide | omega) (by rfl) (pa_cons (pv 1) pa_nil)) (pe_one (pe_chain3 op_le op_le op_le pe_int (pv 0) (pv 1) (pe_gk (by rfl) g_KEYS))))))), ?_⟩
  walk_at "start"
  refine w_sg x j ⟨rfl, hx⟩ fun v M' G' H' j1 e1 ⟨ev, em⟩ => ?_
  subst ev em
  have fin : ∀ b, b = scanB x y → ∀ G'' H'', J M' G'' H'' → Ex G G'' → Q (.bl b) H'' := fun b e G'' H'' j e1 => k _ _ _ _ j e1 ⟨by rw [e], rfl⟩
  refine w_bl ?_
  cases hi : isI x with
  | false => refine w_F ?_; walk_at "go"; exact fin _ (scanB_no (.inl hi)).symm _ _ j1 e1
  | true =>
    refine w_T ?_
    walk_at "go"
    refine w_sg y j1 ⟨rfl, hy⟩ fun v M' G2 H2 j2 e2 ⟨ev, em⟩ => ?_
    subst ev em
    refine w_bl ?_
    have e2 := e1.trans e2
    cases hj : isI y with
    | false => refine w_F ?_; walk_at "go"; exact fin _ (scanB_no (.inr hj)).symm _ _ j2 e2
    | true =>
      refine w_T ?_
      obtain ⟨a, rfl⟩ := isI_int hi
      obtain ⟨b, rfl⟩ := isI_int hj
      have sb := scanB_ii a b
      walk_at "go"
      refine w_dec (fun h1 => ?_) (fun h1 => ?_)
      · walk_at "go"
        refine w_dec (fun h2 => ?_) (fun h2 => ?_)
        · walk_at "go"
          exact fin _ (by rw [sb, decide_eq_true h1, decide_eq_true h2]; rfl) _ _ j2 e2
        · walk_at "go"
          exact fin _ (by rw [sb, decide_eq_true h1, decide_eq_false h2]; rfl) _ _ j2 e2
      · walk_at "go"
        exact fin _ (by rw [sb, decide_eq_false h1]; rfl) _ _ j2 e2
/-! ### is_key -/
abbrev s_is_key : Stmt := top 10
abbrev n_is_key : List Str := ["thing"]
theorem sc_is_key : FnScope n_is_key ["thing"] (defScope s_is_key) := ⟨rfl, rfl, rfl, by decide +kernel, rfl, by decide +kernel, by decide +kernel⟩
def sp_is_key (K : PySem.W.Frag) : Sp := Sg (α := V) (fun x vs _ _ => vs = [x] ∧ flatV x = true) (fun x M _ v M' _ => v = .bl (keyB x) ∧ M' = M)
theorem ok_is_key {P : Program} {w : World} {K : PySem.W.Frag} {mg : Str → Option Value} {base : Heap}
    {f : Addr} {fd : FuncData} (D : Dn K mg "is_key" s_is_key ["thing"] f fd)
    (g_KEYS : ∃ u, mg "KEYS" = some u ∧ RelV (.int 1000) u)
    (c_is_plain_integer : Cal P w K mg base CX0 1 "is_plain_integer" (sp_is_plain_integer K)) : Cal P w K mg base CX0 2 "is_key" (sp_is_key K) := by
  refine D.ok sc_is_key (fun vs H Q E h => ?_) fun cdv A outer s H vs Q E hr h => ?_
  · obtain ⟨x, M, G, j, ⟨rfl, _⟩, _⟩ := h; rfl
  obtain ⟨x, M, G, j, ⟨rfl, hx⟩, k⟩ := h
  refine ⟨_, (pss_one (ps_ret (pe_and (pe_cal c_is_plain_integer hr (by first | decide | omega) (by rfl) (pa_cons (pv 0) pa_nil)) (pe_one (pe_chain op_le op_lt pe_int (pv 0) (pe_gk (by rfl) g_KEYS)))))), ?_⟩
  walk_at "start"
  refine w_sg x j ⟨rfl, hx⟩ fun v M' G' H' j1 e1 ⟨ev, em⟩ => ?_
  subst ev em
  have fin : ∀ b, b = keyB x → Q (.bl b) H' := fun b e => k _ _ _ _ j1 e1 ⟨by rw [e], rfl⟩
  cases x with
  | non => walk_at "go"; exact fin _ rfl
  | bl b => walk_at "go"; exact fin _ rfl
  | str b => walk_at "go"; exact fin _ rfl
  | byt b => cases hx
  | flt b => cases hx
  | ref b => cases hx
  | ty b => cases hx
  | int b =>
    dsimp only [isI]
    walk_at "go"
    refine w_dec (fun h => ?_) (fun h => ?_)
    · walk_at "go"
      refine fin _ ?_
      by_cases h2 : b < 1000
      · rw [decide_eq_true h2]; exact (decide_eq_true (show IsKey b from ⟨h, h2⟩)).symm
      · rw [decide_eq_false h2]; exact (decide_eq_false (show ¬ IsKey b from fun z => h2 z.2)).symm
    · walk_at "go"
      exact fin _ (decide_eq_false (show ¬ IsKey b from fun z => h z.1)).symm
/-! ### is_value -/
abbrev s_is_value : Stmt := top 11
abbrev n_is_value : List Str := ["thing"]
theorem sc_is_value : FnScope n_is_value ["thing"] (defScope s_is_value) := ⟨rfl, rfl, rfl, by decide +kernel, rfl, by decide +kernel, by decide +kernel⟩
def isV : V → Bool
  | .int n => decide (IsVal n)
  | _ => false
def sp_is_value (K : PySem.W.Frag) : Sp := Sg (α := V) (fun x vs _ _ => vs = [x] ∧ flatV x = true) (fun x M _ v M' _ => v = .bl (isV x) ∧ M' = M)
theorem ok_is_value {P : Program} {w : World} {K : PySem.W.Frag} {mg : Str → Option Value} {base : Heap}
    {f : Addr} {fd : FuncData} (D : Dn K mg "is_value" s_is_value ["thing"] f fd)
    (g_LIMIT : ∃ u, mg "LIMIT" = some u ∧ RelV (.int 1000000000000000000) u)
    (c_is_plain_integer : Cal P w K mg base CX0 1 "is_plain_integer" (sp_is_plain_integer K)) : Cal P w K mg base CX0 2 "is_value" (sp_is_value K) := by
  refine D.ok sc_is_value (fun vs H Q E h => ?_) fun cdv A outer s H vs Q E hr h => ?_
  · obtain ⟨x, M, G, j, ⟨rfl, _⟩, _⟩ := h; rfl
  obtain ⟨x, M, G, j, ⟨rfl, hx⟩, k⟩ := h
  refine ⟨_, (pss_one (ps_ret (pe_and (pe_cal c_is_plain_integer hr (by first | decide | omega) (by rfl) (pa_cons (pv 0) pa_nil)) (pe_one (pe_chain op_le op_le (pe_un un_neg (pe_gk (by rfl) g_LIMIT)) (pv 0) (pe_gk (by rfl) g_LIMIT)))))), ?_⟩
  walk_at "start"
  refine w_sg x j ⟨rfl, hx⟩ fun v M' G' H' j1 e1 ⟨ev, em⟩ => ?_
  subst ev em
  have fin : ∀ b, b = isV x → Q (.bl b) H' := fun b e => k _ _ _ _ j1 e1 ⟨by rw [e], rfl⟩
  cases x with
  | non => walk_at "go"; exact fin _ rfl
  | bl b => walk_at "go"; exact fin _ rfl
  | str b => walk_at "go"; exact fin _ rfl
  | byt b => cases hx
  | flt b => cases hx
  | ref b => cases hx
  | ty b => cases hx
  | int b =>
    dsimp only [isI]
    walk_at "go"
    refine w_dec (fun h => ?_) (fun h => ?_)
    · walk_at "go"
      refine fin _ ?_
      by_cases h2 : b ≤ 1000000000000000000
      · rw [decide_eq_true h2]; exact (decide_eq_true (show IsVal b from ⟨h, h2⟩)).symm
      · rw [decide_eq_false h2]; exact (decide_eq_false (show ¬ IsVal b from fun z => h2 z.2)).symm
    · walk_at "go"
      exact fin _ (decide_eq_false (show ¬ IsVal b from fun z => h z.1)).symm
/-! ### is_operation -/
abbrev s_is_operation : Stmt := top 13
abbrev n_is_operation : List Str := ["thing", "word", "first", "second"]
theorem sc_is_operation : FnScope n_is_operation ["thing"] (defScope s_is_operation) := ⟨rfl, rfl, rfl, by decide +kernel, rfl, by decide +kernel, by decide +kernel⟩
def sp_is_operation (K : PySem.W.Frag) : Sp := Sg (α := Itm) (fun x vs _ G => vs = [.ref x.t] ∧ ItmAt K G x) (fun x M _ v M' _ => v = .bl (itB x) ∧ M' = M)
theorem isV_in (x : V) : isV x = inB (-1000000000000000000) 1000000000000000000 x := by cases x <;> rfl
theorem opB_two {x y : V} : opB [x, y] = (match x with | .str w => decide (w = "get") && keyB y | _ => false) := by cases x <;> rfl
theorem opB_nostr {x : V} {r : List V} (h : ∀ w, x ≠ .str w) : opB (x :: r) = false := by
  cases x <;> first
    | exact absurd rfl (h _)
    | rfl
    | (unfold opB; split <;> first | rfl | (rename_i e; cases e))
theorem opB_long {x y z u : V} {r : List V} : opB (x :: y :: z :: u :: r) = false := by cases x <;> rfl
theorem opB_one {x : V} : opB [x] = false := by cases x <;> rfl
theorem ne_op {a b : Str} (h : decide (a = b) = false) : ¬ a = b := of_decide_eq_false h
theorem two_in (w : Str) : inV (.str w) [V.str "put", V.str "need"] = (decide (("put" : Str) = w) || decide (("need" : Str) = w)) := by
  show ((("put" : Str) == w) || ((("need" : Str) == w) || false)) = _
  rw [Bool.or_false, Bool.beq_eq_decide_eq, Bool.beq_eq_decide_eq]
theorem ok_is_operation {P : Program} {w : World} {K : PySem.W.Frag} {mg : Str → Option Value} {base : Heap}
    {f : Addr} {fd : FuncData} (D : Dn K mg "is_operation" s_is_operation ["thing"] f fd)
    (b_len : mg "len" = none)
    (b_isinstance : mg "isinstance" = none)
    (b_str : mg "str" = none)
    (b_tuple : mg "tuple" = none)
    (c_is_value : Cal P w K mg base CX0 2 "is_value" (sp_is_value K))
    (c_is_key : Cal P w K mg base CX0 2 "is_key" (sp_is_key K))
    (c_is_scan : Cal P w K mg base CX0 2 "is_scan" (sp_is_scan K)) : Cal P w K mg base CX0 3 "is_operation" (sp_is_operation K) := by
  refine D.ok sc_is_operation (fun vs H Q E h => ?_) fun cdv A outer s H vs Q E hr h => ?_
  · obtain ⟨x, M, G, j, ⟨rfl, _⟩, _⟩ := h; rfl
  obtain ⟨⟨tp, t, vs⟩, M, G, j, ⟨rfl, hi⟩, k⟩ := h
  obtain ⟨ht, hf, hl⟩ := hi
  dsimp only at ht hf hl k
  refine ⟨_, (pss_cons (ps_if (PW.pt (pw_or (pt_not (pt_val (pe_callB (call_isiK' (K := K) rfl) (by rfl) b_isinstance bt_isinstance (pa_cons (pv 0) (pa_cons (pe_bltn (v := .ty "tuple") (by rfl) b_tuple bt_tuple rfl) pa_nil))))) (pw_or (pt_cmpR op_lt (pe_callB (call_uLenK (K := K) rfl) (by rfl) b_len PySem.boot_len (pa_cons (pv 0) pa_nil)) pe_int (nomark _)) (pw_or1 (pt_not (pt_val (pe_callB (call_isiK' (K := K) rfl) (by rfl) b_isinstance bt_isinstance (pa_cons (pe_ix (ix_uK (K := K) rfl) (pv 0) pe_int (fun _ _ => rfl)) (pa_cons (pe_bltn (v := .ty "str") (by rfl) b_str bt_str rfl) pa_nil)))))))))
(pss_one (ps_ret pe_bl))
pss_nil)
(pss_cons (ps_if (pt_cmpR (op_uEqK (K := K) rfl hr) (pe_ix (ix_uK (K := K) rfl) (pv 0) pe_int (fun _ _ => rfl)) pe_str (nomark _))
(pss_one (ps_ret (pe_and (pe_cmpR (op_uEqK (K := K) rfl hr) (pe_callB (call_uLenK (K := K) rfl) (by rfl) b_len PySem.boot_len (pa_cons (pv 0) pa_nil)) pe_int (nomark _)) (pe_one (pe_cal c_is_key hr (by first | decide | omega) (by rfl) (pa_cons (pe_ix (ix_uK (K := K) rfl) (pv 0) pe_int (fun _ _ => rfl)) pa_nil))))))
pss_nil)
(pss_cons (ps_if (pt_cmpR (op_uNeK (K := K) rfl hr) (pe_callB (call_uLenK (K := K) rfl) (by rfl) b_len PySem.boot_len (pa_cons (pv 0) pa_nil)) pe_int (nomark _))
(pss_one (ps_ret pe_bl))
pss_nil)
(pss_cons (ps_asg (pv 0) (pg_tup rfl (pgs_cons (pg_name (i := 1) sc_is_operation.nd rfl (Or.inl rfl)) (pgs_cons (pg_name (i := 2) sc_is_operation.nd rfl (Or.inl rfl)) (pgs_cons (pg_name (i := 3) sc_is_operation.nd rfl (Or.inl rfl)) pgs_nil)))))
(pss_cons (ps_if (pt_cmpR (op_uEqK (K := K) rfl hr) (pv 1) pe_str (nomark _))
(pss_one (ps_ret (pe_cal c_is_scan hr (by first | decide | omega) (by rfl) (pa_cons (pv 2) (pa_cons (pv 3) pa_nil)))))
pss_nil)
(pss_cons (ps_if (pt_cmpR (op_uEqK (K := K) rfl hr) (pv 1) pe_str (nomark _))
(pss_one (ps_ret (pe_and (pe_cal c_is_key hr (by first | decide | omega) (by rfl) (pa_cons (pv 2) pa_nil)) (pe_one (pe_cal c_is_value hr (by first | decide | omega) (by rfl) (pa_cons (pv 3) pa_nil))))))
pss_nil)
(pss_one (ps_ret (pe_and (pe_cmpR (op_inK (K := K) rfl) (pv 1) (pe_tup (pa_cons pe_str (pa_cons pe_str pa_nil))) (by with_unfolding_all rfl)) (pe_and (pe_cal c_is_key hr (by first | decide | omega) (by rfl) (pa_cons (pv 2) pa_nil)) (pe_one (pe_or (pe_cmp (pc_isN (pv 3))) (pe_one (pe_cal c_is_value hr (by first | decide | omega) (by rfl) (pa_cons (pv 3) pa_nil))))))))))))))), ?_⟩
  walk_at "start"
  have fin : ∀ b, b = (tp && opB vs) → ∀ G' H', J M G' H' → Ex G G' → Q (.bl b) H' := fun b e G' H' j e' => k _ _ _ _ j e' ⟨by rw [e]; rfl, rfl⟩
  cases tp with
  | false =>
    have ht : SqL K G t vs := ht
    refine w_isi false (ty_L (sl_mono j.g ht)) (by rfl) ?_
    walk_at "go"
    exact fin _ rfl G H j (Same.refl G)
  | true =>
    have ht : SqT K G t vs := ht
    refine w_isi true (ty_T (st_mono j.g ht)) (by rfl) ?_
    walk_at "go"
    refine w_lenT j ht ?_
    walk_at "go"
    match vs, ht, hf, fin with
    | [], ht, hf, fin =>
      refine w_dT (by decide) ?_
      walk_at "go"
      exact fin _ rfl G H j (Same.refl G)
    | [x], ht, hf, fin =>
      refine w_dT (by simp) ?_
      walk_at "go"
      exact fin _ (by rw [opB_one]; rfl) G H j (Same.refl G)
    | x :: y :: r, ht, hf, fin =>
      refine w_dF (by simp only [List.length_cons]; omega) ?_
      walk_at "go"
      refine w_ixT j ht atI_0 ?_
      walk_at "go"
      by_cases hs : ∃ w, x = .str w
      case neg =>
        have hx := hf x List.mem_cons_self
        have no := opB_nostr (x := x) (r := y :: r) fun w e => hs ⟨w, e⟩
        cases x with
        | str w => exact absurd ⟨w, rfl⟩ hs
        | non => walk_at "go"; exact fin _ (by rw [no]; rfl) G H j (Same.refl G)
        | bl b => walk_at "go"; exact fin _ (by rw [no]; rfl) G H j (Same.refl G)
        | int b => walk_at "go"; exact fin _ (by rw [no]; rfl) G H j (Same.refl G)
        | byt b => cases hx
        | flt b => cases hx
        | ref b => cases hx
        | ty b => cases hx
      case pos =>
        obtain ⟨w, rfl⟩ := hs
        have hy : flatV y = true := hf y (List.mem_cons_of_mem _ List.mem_cons_self)
        walk_at "go"
        refine w_ixT j ht atI_0 ?_
        refine w_eqS rfl ?_
        walk_at "go"
        refine w_dec (fun hw => ?_) (fun hw => ?_)
        · walk_at "go"
          refine w_lenT j ht ?_
          walk_at "go"
          refine w_dec (fun h2 => ?_) (fun h2 => ?_)
          · have h2 : r = [] := by simp only [List.length_cons] at h2; exact List.eq_nil_of_length_eq_zero (by omega)
            subst h2
            walk_at "go"
            refine w_ixT j ht (by rfl) ?_
            walk_at "go"
            refine w_sg y j ⟨rfl, hy⟩ fun v M1 G1 H1 j1 e1 ⟨ev, em⟩ => ?_
            subst ev em
            exact fin _ (by rw [opB_two]; dsimp only; rw [decide_eq_true hw]; rfl) _ _ j1 e1
          · walk_at "go"
            refine fin _ ?_ G H j (Same.refl G)
            cases r with
            | nil => exact absurd rfl h2
            | cons z r =>
              cases r with
              | nil => show false = (true && (if w = "get" then false else wordB w y z)); rw [if_pos hw]; rfl
              | cons u r => rw [opB_long]; rfl
        · walk_at "go"
          refine w_lenT j ht ?_
          walk_at "go"
          match r, ht, hf, fin with
          | [], ht, hf, fin =>
            refine w_nF (by simp) ?_
            walk_at "go"
            exact fin _ (by rw [opB_two]; dsimp only; rw [decide_eq_false hw]; rfl) G H j (Same.refl G)
          | z :: u :: r, ht, hf, fin =>
            refine w_nF (by simp only [List.length_cons]; omega) ?_
            walk_at "go"
            exact fin _ (by rw [opB_long]; rfl) G H j (Same.refl G)
          | [z], ht, hf, fin =>
            have hz : flatV z = true := hf z (List.mem_cons_of_mem _ (List.mem_cons_of_mem _ List.mem_cons_self))
            refine w_nT (by simp) ?_
            have fin : ∀ b, b = wordB w y z → ∀ G' H', J M G' H' → Ex G G' → Q (.bl b) H' := fun b e => fin b (by rw [e]; show _ = (true && (if w = "get" then false else wordB w y z)); rw [if_neg hw]; rfl)
            walk_at "go"
            refine w_gTup j ht rfl ?_
            refine w_gCons (w_gName (w_gCons (w_gName (w_gCons (w_gName (w_gNil ?_))))))
            walk_at "go"
            refine w_eqS rfl ?_
            walk_at "go"
            refine w_dec (fun h1 => ?_) (fun h1 => ?_)
            · walk_at "go"
              refine w_sg (y, z) j ⟨rfl, hy, hz⟩ fun v M1 G1 H1 j1 e1 ⟨ev, em⟩ => ?_
              subst ev em
              exact fin _ (by unfold wordB; rw [if_pos h1]) _ _ j1 e1
            · walk_at "go"
              refine w_eqS rfl ?_
              walk_at "go"
              refine w_dec (fun h2 => ?_) (fun h2 => ?_)
              · walk_at "go"
                refine w_sg y j ⟨rfl, hy⟩ fun v M1 G1 H1 j1 e1 ⟨ev, em⟩ => ?_
                subst ev em
                refine w_bl ?_
                cases hk : keyB y with
                | false =>
                  refine w_F ?_
                  exact fin _ (by unfold wordB; rw [if_neg h1, if_pos h2, hk]; rfl) _ _ j1 e1
                | true =>
                  refine w_T ?_
                  walk_at "go"
                  refine w_sg z j1 ⟨rfl, hz⟩ fun v M2 G2 H2 j2 e2 ⟨ev, em⟩ => ?_
                  subst ev em
                  exact fin _ (by unfold wordB; rw [if_neg h1, if_pos h2, hk, isV_in]; rfl) _ _ j2 (e1.trans e2)
              · walk_at "go"
                refine w_new j (by decide) fun q G2 H2 j2 e2 hq nq => ?_
                refine w_inT j2 (st_of hq) (by rfl) (by rfl) ?_
                refine w_bl ?_
                cases hw2 : inV (.str w) [V.str "put", V.str "need"] with
                | false =>
                  have h3 : ¬ (w = "put" ∨ w = "need") := fun z => by
                    rw [two_in] at hw2
                    rcases z with z | z <;> subst z <;> revert hw2 <;> decide
                  refine w_F ?_
                  walk_at "go"
                  exact fin _ (by unfold wordB; rw [if_neg h1, if_neg h2, if_neg h3]) _ _ j2 e2
                | true =>
                  have h3 : w = "put" ∨ w = "need" := by
                    rw [two_in] at hw2
                    rcases Bool.or_eq_true_iff.mp hw2 with z | z
                    · exact .inl (of_decide_eq_true z).symm
                    · exact .inr (of_decide_eq_true z).symm
                  have fin : ∀ b, b = (keyB y && (decide (z = .non) || inB (-1000000000000000000) 1000000000000000000 z)) → ∀ G' H', J M G' H' → Ex G G' → Q (.bl b) H' := fun b e => fin b (by rw [e]; unfold wordB; rw [if_neg h1, if_neg h2, if_pos h3])
                  refine w_T ?_
                  walk_at "go"
                  refine w_sg y j2 ⟨rfl, hy⟩ fun v M3 G3 H3 j3 e3 ⟨ev, em⟩ => ?_
                  subst ev em
                  have E3 := e2.trans e3
                  refine w_bl ?_
                  cases hk : keyB y with
                  | false =>
                    refine w_F ?_
                    walk_at "go"
                    exact fin _ (by rw [hk]; rfl) _ _ j3 E3
                  | true =>
                    refine w_T ?_
                    walk_at "go"
                    by_cases hn : z = .non
                    · refine w_dT hn ?_
                      exact fin _ (by rw [hk, decide_eq_true hn]; rfl) _ _ j3 E3
                    · refine w_dF hn ?_
                      walk_at "go"
                      refine w_sg z j3 ⟨rfl, hz⟩ fun v M4 G4 H4 j4 e4 ⟨ev, em⟩ => ?_
                      subst ev em
                      exact fin _ (by rw [hk, decide_eq_false hn, isV_in]; rfl) _ _ j4 (E3.trans e4)
/-! ### check_deal -/
abbrev s_check_deal : Stmt := top 14
abbrev n_check_deal : List Str := ["ops", "op"]
theorem sc_check_deal : FnScope n_check_deal ["ops"] (defScope s_check_deal) := ⟨rfl, rfl, rfl, by decide +kernel, rfl, by decide +kernel, by decide +kernel⟩
def sp_check_deal (K : PySem.W.Frag) (C : Addr) : Sp := Sx (α := Addr × List Itm) (fun x vs _ G => vs = [.ref x.1] ∧ DealAt K G x.1 x.2)
  (fun x M _ v M' _ => v = .non ∧ M' = M ∧ dealB x.2 = true) (fun x M _ c M' _ => c = C ∧ M' = M ∧ dealB x.2 = false)
theorem not_all {is : List Itm} {i : Nat} {x : Itm} (h : is[i]? = some x) (n : itB x = false) : is.all itB = false := by
  cases e : is.all itB with
  | false => rfl
  | true =>
    have := List.all_eq_true.mp e x (List.mem_of_getElem? h)
    rw [n] at this
    cases this
theorem ok_check_deal {P : Program} {w : World} {K : PySem.W.Frag} {mg : Str → Option Value} {base : Heap}
    {f : Addr} {fd : FuncData} (D : Dn K mg "check_deal" s_check_deal ["ops"] f fd)
    (b_len : mg "len" = none)
    (b_isinstance : mg "isinstance" = none)
    (b_list : mg "list" = none)
    (g_MOST_OPERATIONS : ∃ u, mg "MOST_OPERATIONS" = some u ∧ RelV (.int 6) u)
    {A_BadDeal : Addr} (x_BadDeal : Xc K mg "BadDeal" A_BadDeal)
    (c_is_operation : Cal P w K mg base CX0 3 "is_operation" (sp_is_operation K)) : Cal P w K mg base (L2.CX P w) 4 "check_deal" (sp_check_deal K A_BadDeal) := by
  refine D.okX sc_check_deal (fun vs H Q E h => ?_) fun cdv A outer s H vs Q E hr h => ?_
  · obtain ⟨x, M, G, j, ⟨rfl, _⟩, _⟩ := h; rfl
  obtain ⟨⟨a, is⟩, M, G, j, ⟨rfl, ha, hi, hl⟩, k, kx⟩ := h
  dsimp only at ha hi hl k kx
  refine ⟨_, (pss_cons (ps_if (pt_not (pt_val (pe_callB (call_isiK' (K := K) rfl) (by rfl) b_isinstance bt_isinstance (pa_cons (pv 0) (pa_cons (pe_bltn (v := .ty "list") (by rfl) b_list bt_list rfl) pa_nil)))))
(pss_one (ps_raiseA rfl (takes_of rfl rfl rfl rfl) x_BadDeal (by rfl)))
pss_nil)
(pss_cons (ps_if (pt_not (pt_chain op_le op_le pe_int (pe_callB (call_uLenK (K := K) rfl) (by rfl) b_len PySem.boot_len (pa_cons (pv 0) pa_nil)) (pe_gk (by rfl) g_MOST_OPERATIONS)))
(pss_one (ps_raiseA rfl (takes_of rfl rfl rfl rfl) x_BadDeal (by rfl)))
pss_nil)
(pss_one (ps_for (passes_of rfl) rfl (pi_list (pv 0)) (pg_name (i := 1) sc_check_deal.nd rfl (Or.inl rfl))
(pss_one (ps_if (pt_not (pt_val (pe_cal c_is_operation hr (by first | decide | omega) (by rfl) (pa_cons (pv 1) pa_nil))))
(pss_one (ps_raiseA rfl (takes_of rfl rfl rfl rfl) x_BadDeal (by rfl)))
pss_nil)))))), ?_⟩
  walk_at "start"
  have bad : dealB is = false → ∀ G' H', J M G' H' → Ex G G' → E (.ref A_BadDeal) none H' := fun b G' H' j e => kx _ _ _ _ j e ⟨rfl, rfl, b⟩
  refine w_isi true (ty_L (sl_mono j.g ha)) (by rfl) ?_
  walk_at "go"
  refine w_lenL j ha ?_
  walk_at "go"
  rw [List.length_map]
  have fall : ¬ (1 ≤ is.length ∧ is.length ≤ 6) → dealB is = false := fun n => by unfold dealB; rw [decide_eq_false n]; rfl
  refine w_dec (fun h1 => ?_) (fun h1 => ?_)
  · walk_at "go"
    refine w_decN (fun h2 => ?_) (fun h2 => ?_)
    · walk_at "go"
      exact bad (fall fun z => h2 (by omega)) G H j (Same.refl G)
    · walk_at "go"
      have hlen : 1 ≤ is.length ∧ is.length ≤ 6 := ⟨by omega, by omega⟩
      refine w_forLV rfl (fun n σ H => ∃ G1 y, J M G1 H ∧ Ex G G1 ∧ (∀ (m : Nat) (x : Itm), m < n → is[m]? = some x → itB x = true) ∧ σ = [some (.ref a), y]) (xs := is.map fun i => V.ref i.t) (sl_mono j.g ha) ?_ ?_ ?_ ?_
      · exact ⟨G, _, j, Same.refl G, fun m x h => absurd h (Nat.not_lt_zero m), rfl⟩
      · rintro n σ H _ ⟨G1, y, j, e, _⟩
        exact sl_mono j.g (sl_mono e ha)
      · rintro n x σ H hx ⟨G1, y, j, e, ok, rfl⟩
        rw [List.getElem?_map] at hx
        cases hn : is[n]? with
        | none => rw [hn] at hx; cases hx
        | some i =>
          rw [hn] at hx
          cases hx
          walk_at "go"
          refine w_sg i j ⟨rfl, (hi i (List.mem_of_getElem? hn)).ex e⟩ fun v M2 G2 H2 j2 e2 ⟨ev, em⟩ => ?_
          subst ev em
          refine w_bl ?_
          cases hb : itB i with
          | false =>
            refine w_nf ?_
            walk_at "go"
            refine bad ?_ _ _ j2 (e.trans e2)
            unfold dealB
            rw [not_all hn hb, Bool.and_false]
          | true =>
            refine w_nt ?_
            walk_at "go"
            refine ⟨G2, _, j2, e.trans e2, fun m x hm hx => ?_, rfl⟩
            by_cases q : m = n
            · subst q; rw [hn] at hx; cases hx; exact hb
            · exact ok m x (by omega) hx
      · rintro σ H ⟨G1, y, j, e, ok, rfl⟩
        rw [List.length_map] at ok
        walk_at "go"
        refine k _ _ _ _ j e ⟨rfl, rfl, ?_⟩
        unfold dealB
        rw [decide_eq_true hlen]
        refine List.all_eq_true.mpr fun x hx => ?_
        obtain ⟨m, hm⟩ := List.getElem?_of_mem hx
        exact ok m x (List.getElem?_eq_some_iff.mp hm).1 hm
  · walk_at "go"
    exact bad (fall fun z => h1 (by omega)) G H j (Same.refl G)
/-! ### _law_is_integer -/
abbrev s_law_is_integer : Stmt := top 28
abbrev n_law_is_integer : List Str := ["number", "low", "high"]
theorem sc_law_is_integer : FnScope n_law_is_integer ["number", "low", "high"] (defScope s_law_is_integer) := ⟨rfl, rfl, rfl, by decide +kernel, rfl, by decide +kernel, by decide +kernel⟩
def sp_law_is_integer (K : PySem.W.Frag) : Sp := Sg (α := V × Int × Int) (fun x vs _ _ => vs = [x.1, .int x.2.1, .int x.2.2] ∧ flatV x.1 = true) (fun x M _ v M' _ => v = .bl (inB x.2.1 x.2.2 x.1) ∧ M' = M)
theorem ok_law_is_integer {P : Program} {w : World} {K : PySem.W.Frag} {mg : Str → Option Value} {base : Heap}
    {f : Addr} {fd : FuncData} (D : Dn K mg "_law_is_integer" s_law_is_integer ["number", "low", "high"] f fd)
    (b_isinstance : mg "isinstance" = none)
    (b_bool : mg "bool" = none)
    (b_int : mg "int" = none) : Cal P w K mg base CX0 1 "_law_is_integer" (sp_law_is_integer K) := by
  refine D.ok sc_law_is_integer (fun vs H Q E h => ?_) fun cdv A outer s H vs Q E hr h => ?_
  · obtain ⟨x, M, G, j, ⟨rfl, _⟩, _⟩ := h; rfl
  obtain ⟨⟨x, lo, hi⟩, M, G, j, ⟨rfl, hx⟩, k⟩ := h
  dsimp only at hx k
  refine ⟨_, (pss_one (ps_ret (pe_and (pe_callB (call_isiK' (K := K) rfl) (by rfl) b_isinstance bt_isinstance (pa_cons (pv 0) (pa_cons (pe_bltn (v := .ty "int") (by rfl) b_int bt_int rfl) pa_nil))) (pe_and (pe_not (pe_callB (call_isiK' (K := K) rfl) (by rfl) b_isinstance bt_isinstance (pa_cons (pv 0) (pa_cons (pe_bltn (v := .ty "bool") (by rfl) b_bool bt_bool rfl) pa_nil)))) (pe_one (pe_chain op_le op_le (pv 1) (pv 0) (pv 2))))))), ?_⟩
  walk_at "start"
  have fin : ∀ b, b = inB lo hi x → Q (.bl b) H := fun b e => k _ _ _ _ j (Same.refl G) ⟨by rw [e], rfl⟩
  cases x with
  | non => walk_at "go"; exact fin _ rfl
  | bl b => walk_at "go"; exact fin _ rfl
  | str b => walk_at "go"; exact fin _ rfl
  | byt b => cases hx
  | flt b => cases hx
  | ref b => cases hx
  | ty b => cases hx
  | int b =>
    walk_at "go"
    refine w_dec (fun h1 => ?_) (fun h1 => ?_)
    · walk_at "go"
      refine fin _ ?_
      by_cases h2 : b ≤ hi
      · rw [decide_eq_true h2]; exact (decide_eq_true (show lo ≤ b ∧ b ≤ hi from ⟨h1, h2⟩)).symm
      · rw [decide_eq_false h2]; exact (decide_eq_false (show ¬ (lo ≤ b ∧ b ≤ hi) from fun z => h2 z.2)).symm
    · walk_at "go"
      exact fin _ (decide_eq_false (show ¬ (lo ≤ b ∧ b ≤ hi) from fun z => h1 z.1)).symm
/-! ### _law_is_op -/
abbrev s_law_is_op : Stmt := top 29
abbrev n_law_is_op : List Str := ["op"]
theorem sc_law_is_op : FnScope n_law_is_op ["op"] (defScope s_law_is_op) := ⟨rfl, rfl, rfl, by decide +kernel, rfl, by decide +kernel, by decide +kernel⟩
def sp_law_is_op (K : PySem.W.Frag) : Sp := Sg (α := Itm) (fun x vs _ G => vs = [.ref x.t] ∧ ItmAt K G x) (fun x M _ v M' _ => v = .bl (itB x) ∧ M' = M)
theorem keyB_in (x : V) : keyB x = inB 0 999 x := by
  cases x <;> first
    | rfl
    | exact decide_eq_decide.mpr ⟨fun h => ⟨h.1, by have := h.2; omega⟩, fun h => ⟨h.1, by have := h.2; omega⟩⟩
theorem opB_nokey {w : Str} {y : V} {r : List V} (h1 : ¬ w = "scan") (h2 : keyB y = false) : opB (.str w :: y :: r) = false := by
  cases r with
  | nil => rw [opB_two]; dsimp only; rw [h2, Bool.and_false]
  | cons z r =>
    cases r with
    | cons u r => exact opB_long
    | nil =>
      show (if w = "get" then false else wordB w y z) = false
      by_cases g : w = "get"
      · rw [if_pos g]
      · rw [if_neg g]; unfold wordB; rw [if_neg h1, h2]
        by_cases a : w = "add"
        · rw [if_pos a]; rfl
        · rw [if_neg a]
          by_cases b : w = "put" ∨ w = "need"
          · rw [if_pos b]; rfl
          · rw [if_neg b]
theorem ok_law_is_op {P : Program} {w : World} {K : PySem.W.Frag} {mg : Str → Option Value} {base : Heap}
    {f : Addr} {fd : FuncData} (D : Dn K mg "_law_is_op" s_law_is_op ["op"] f fd)
    (b_len : mg "len" = none)
    (b_isinstance : mg "isinstance" = none)
    (b_str : mg "str" = none)
    (b_tuple : mg "tuple" = none)
    (c_law_is_integer : Cal P w K mg base CX0 1 "_law_is_integer" (sp_law_is_integer K)) : Cal P w K mg base CX0 2 "_law_is_op" (sp_law_is_op K) := by
  refine D.ok sc_law_is_op (fun vs H Q E h => ?_) fun cdv A outer s H vs Q E hr h => ?_
  · obtain ⟨x, M, G, j, ⟨rfl, _⟩, _⟩ := h; rfl
  obtain ⟨⟨tp, t, vs⟩, M, G, j, ⟨rfl, hi⟩, k⟩ := h
  obtain ⟨ht, hf, hl⟩ := hi
  dsimp only at ht hf hl k
  refine ⟨_, (pss_cons (ps_if (PW.pt (pw_or (pt_not (pt_val (pe_callB (call_isiK' (K := K) rfl) (by rfl) b_isinstance bt_isinstance (pa_cons (pv 0) (pa_cons (pe_bltn (v := .ty "tuple") (by rfl) b_tuple bt_tuple rfl) pa_nil))))) (pw_or (pt_cmpR op_lt (pe_callB (call_uLenK (K := K) rfl) (by rfl) b_len PySem.boot_len (pa_cons (pv 0) pa_nil)) pe_int (nomark _)) (pw_or1 (pt_not (pt_val (pe_callB (call_isiK' (K := K) rfl) (by rfl) b_isinstance bt_isinstance (pa_cons (pe_ix (ix_uK (K := K) rfl) (pv 0) pe_int (fun _ _ => rfl)) (pa_cons (pe_bltn (v := .ty "str") (by rfl) b_str bt_str rfl) pa_nil)))))))))
(pss_one (ps_ret pe_bl))
pss_nil)
(pss_cons (ps_if (pt_cmpR (op_uEqK (K := K) rfl hr) (pe_ix (ix_uK (K := K) rfl) (pv 0) pe_int (fun _ _ => rfl)) pe_str (nomark _))
(pss_cons (ps_if (PW.pt (pw_or (pt_cmpR (op_uNeK (K := K) rfl hr) (pe_callB (call_uLenK (K := K) rfl) (by rfl) b_len PySem.boot_len (pa_cons (pv 0) pa_nil)) pe_int (nomark _)) (pw_or1 (pt_not (pt_val (pe_cal c_law_is_integer hr (by first | decide | omega) (by rfl) (pa_cons (pe_ix (ix_uK (K := K) rfl) (pv 0) pe_int (fun _ _ => rfl)) (pa_cons pe_int (pa_cons pe_int pa_nil)))))))))
(pss_one (ps_ret pe_bl))
pss_nil)
(pss_one (ps_ret (pe_cal c_law_is_integer hr (by first | decide | omega) (by rfl) (pa_cons (pe_ix (ix_uK (K := K) rfl) (pv 0) pe_int (fun _ _ => rfl)) (pa_cons (pe_ix (ix_uK (K := K) rfl) (pv 0) pe_int (fun _ _ => rfl)) (pa_cons pe_int pa_nil)))))))
pss_nil)
(pss_cons (ps_if (pt_not (pt_val (pe_cal c_law_is_integer hr (by first | decide | omega) (by rfl) (pa_cons (pe_ix (ix_uK (K := K) rfl) (pv 0) pe_int (fun _ _ => rfl)) (pa_cons pe_int (pa_cons pe_int pa_nil))))))
(pss_one (ps_ret pe_bl))
pss_nil)
(pss_cons (ps_if (pt_cmpR (op_uEqK (K := K) rfl hr) (pe_ix (ix_uK (K := K) rfl) (pv 0) pe_int (fun _ _ => rfl)) pe_str (nomark _))
(pss_one (ps_ret (pe_cmpR (op_uEqK (K := K) rfl hr) (pe_callB (call_uLenK (K := K) rfl) (by rfl) b_len PySem.boot_len (pa_cons (pv 0) pa_nil)) pe_int (nomark _))))
pss_nil)
(pss_cons (ps_if (pt_cmpR (op_uNeK (K := K) rfl hr) (pe_callB (call_uLenK (K := K) rfl) (by rfl) b_len PySem.boot_len (pa_cons (pv 0) pa_nil)) pe_int (nomark _))
(pss_one (ps_ret pe_bl))
pss_nil)
(pss_cons (ps_if (pt_cmpR (op_uEqK (K := K) rfl hr) (pe_ix (ix_uK (K := K) rfl) (pv 0) pe_int (fun _ _ => rfl)) pe_str (nomark _))
(pss_one (ps_ret (pe_cal c_law_is_integer hr (by first | decide | omega) (by rfl) (pa_cons (pe_ix (ix_uK (K := K) rfl) (pv 0) pe_int (fun _ _ => rfl)) (pa_cons (pe_un un_neg (pe_op op_pow pe_int pe_int)) (pa_cons (pe_op op_pow pe_int pe_int) pa_nil))))))
pss_nil)
(pss_cons (ps_if (PW.pt (pw_or (pt_cmpR (op_uEqK (K := K) rfl hr) (pe_ix (ix_uK (K := K) rfl) (pv 0) pe_int (fun _ _ => rfl)) pe_str (nomark _)) (pw_or1 (pt_cmpR (op_uEqK (K := K) rfl hr) (pe_ix (ix_uK (K := K) rfl) (pv 0) pe_int (fun _ _ => rfl)) pe_str (nomark _)))))
(pss_one (ps_ret (pe_or (pe_cmp (pc_isN (pe_ix (ix_uK (K := K) rfl) (pv 0) pe_int (fun _ _ => rfl)))) (pe_one (pe_cal c_law_is_integer hr (by first | decide | omega) (by rfl) (pa_cons (pe_ix (ix_uK (K := K) rfl) (pv 0) pe_int (fun _ _ => rfl)) (pa_cons (pe_un un_neg (pe_op op_pow pe_int pe_int)) (pa_cons (pe_op op_pow pe_int pe_int) pa_nil))))))))
pss_nil)
(pss_one (ps_ret pe_bl))))))))), ?_⟩
  walk_at "start"
  have fin : ∀ b, b = (tp && opB vs) → ∀ G' H', J M G' H' → Ex G G' → Q (.bl b) H' := fun b e G' H' j e' => k _ _ _ _ j e' ⟨by rw [e]; rfl, rfl⟩
  cases tp with
  | false =>
    have ht : SqL K G t vs := ht
    refine w_isi false (ty_L (sl_mono j.g ht)) (by rfl) ?_
    walk_at "go"
    exact fin _ rfl G H j (Same.refl G)
  | true =>
    have ht : SqT K G t vs := ht
    refine w_isi true (ty_T (st_mono j.g ht)) (by rfl) ?_
    walk_at "go"
    refine w_lenT j ht ?_
    walk_at "go"
    match vs, ht, hf, fin with
    | [], ht, hf, fin =>
      refine w_dT (by decide) ?_
      walk_at "go"
      exact fin _ rfl G H j (Same.refl G)
    | [x], ht, hf, fin =>
      refine w_dT (by simp) ?_
      walk_at "go"
      exact fin _ (by rw [opB_one]; rfl) G H j (Same.refl G)
    | x :: y :: r, ht, hf, fin =>
      refine w_dF (by simp only [List.length_cons]; omega) ?_
      walk_at "go"
      refine w_ixT j ht atI_0 ?_
      walk_at "go"
      by_cases hs : ∃ w, x = .str w
      case neg =>
        have hx := hf x List.mem_cons_self
        have no := opB_nostr (x := x) (r := y :: r) fun w e => hs ⟨w, e⟩
        cases x with
        | str w => exact absurd ⟨w, rfl⟩ hs
        | non => walk_at "go"; exact fin _ (by rw [no]; rfl) G H j (Same.refl G)
        | bl b => walk_at "go"; exact fin _ (by rw [no]; rfl) G H j (Same.refl G)
        | int b => walk_at "go"; exact fin _ (by rw [no]; rfl) G H j (Same.refl G)
        | byt b => cases hx
        | flt b => cases hx
        | ref b => cases hx
        | ty b => cases hx
      case pos =>
        obtain ⟨w, rfl⟩ := hs
        have hy : flatV y = true := hf y (List.mem_cons_of_mem _ List.mem_cons_self)
        walk_at "go"
        refine w_ixT j ht atI_0 ?_
        refine w_eqS rfl ?_
        walk_at "go"
        refine w_dec (fun hw => ?_) (fun hw => ?_)
        · walk_at "go"
          refine w_lenT j ht ?_
          walk_at "go"
          match r, ht, hf, fin with
          | [], ht, hf, fin =>
            refine w_nF (by simp) ?_
            walk_at "go"
            exact fin _ (by rw [opB_two]; dsimp only; rw [decide_eq_false (fun z => by rw [hw] at z; exact absurd z (by decide))]; rfl) G H j (Same.refl G)
          | z :: u :: r, ht, hf, fin =>
            refine w_nF (by simp only [List.length_cons]; omega) ?_
            walk_at "go"
            exact fin _ (by rw [opB_long]; rfl) G H j (Same.refl G)
          | [z], ht, hf, fin =>
            have hz : flatV z = true := hf z (List.mem_cons_of_mem _ (List.mem_cons_of_mem _ List.mem_cons_self))
            have fin : ∀ b, b = scanB y z → ∀ G' H', J M G' H' → Ex G G' → Q (.bl b) H' := fun b e => fin b (by rw [e]; subst hw; rfl)
            refine w_nT (by simp) ?_
            walk_at "go"
            refine w_ixT j ht (by rfl) ?_
            walk_at "go"
            refine w_sg (y, 0, 1000) j ⟨rfl, hy⟩ fun v M1 G1 H1 j1 e1 ⟨ev, em⟩ => ?_
            subst ev em
            refine w_bl ?_
            dsimp only
            cases hb : inB 0 1000 y with
            | false =>
              refine w_nf ?_
              walk_at "go"
              refine fin _ ?_ _ _ j1 e1
              cases y <;> first | rfl | (show false = (decide _ && _); rw [show decide _ = false from hb]; rfl)
            | true =>
              refine w_nt ?_
              obtain ⟨a, rfl⟩ : ∃ a, y = .int a := by cases y <;> first | exact ⟨_, rfl⟩ | exact absurd hb Bool.false_ne_true
              walk_at "go"
              refine w_ixT j1 (st_mono e1 ht) (by rfl) ?_
              walk_at "go"
              refine w_ixT j1 (st_mono e1 ht) (by rfl) ?_
              walk_at "go"
              refine w_sg (z, a, 1000) j1 ⟨rfl, hz⟩ fun v M2 G2 H2 j2 e2 ⟨ev, em⟩ => ?_
              subst ev em
              exact fin _ (by show inB a 1000 z = (decide _ && _); rw [show decide _ = true from hb]; rfl) _ _ j2 (e1.trans e2)
        · walk_at "go"
          refine w_ixT j ht (atI_nat (j := 1) rfl) ?_
          walk_at "go"
          refine w_sg (y, 0, 999) j ⟨rfl, hy⟩ fun v M1 G1 H1 j1 e1 ⟨ev, em⟩ => ?_
          subst ev em
          refine w_bl ?_
          dsimp only
          rw [← keyB_in]
          cases hk : keyB y with
          | false =>
            refine w_nf ?_
            walk_at "go"
            exact fin _ (by rw [opB_nokey hw hk]; rfl) _ _ j1 e1
          | true =>
            refine w_nt ?_
            walk_at "go"
            have ht1 := st_mono e1 ht
            refine w_ixT j1 ht1 atI_0 ?_
            refine w_eqS rfl ?_
            walk_at "go"
            refine w_dec (fun hg => ?_) (fun hg => ?_)
            · walk_at "go"
              refine w_lenT j1 ht1 ?_
              walk_at "go"
              refine fin _ ?_ _ _ j1 e1
              cases r with
              | nil => rw [opB_two]; dsimp only; rw [decide_eq_true hg, hk]; rfl
              | cons z r =>
                cases r with
                | nil => show _ = (true && (if w = "get" then false else wordB w y z)); rw [if_pos hg]; rfl
                | cons u r => rw [opB_long]; exact decide_eq_false (by simp only [List.length_cons]; omega)
            · walk_at "go"
              refine w_lenT j1 ht1 ?_
              walk_at "go"
              match r, ht1, hf, fin with
              | [], ht1, hf, fin =>
                refine w_nF (by simp) ?_
                walk_at "go"
                exact fin _ (by rw [opB_two]; dsimp only; rw [decide_eq_false hg]; rfl) _ _ j1 e1
              | z :: u :: r, ht1, hf, fin =>
                refine w_nF (by simp only [List.length_cons]; omega) ?_
                walk_at "go"
                exact fin _ (by rw [opB_long]; rfl) _ _ j1 e1
              | [z], ht1, hf, fin =>
                have hz : flatV z = true := hf z (List.mem_cons_of_mem _ (List.mem_cons_of_mem _ List.mem_cons_self))
                have fin : ∀ b, b = wordB w y z → ∀ G' H', J M1 G' H' → Ex G G' → Q (.bl b) H' := fun b e => fin b (by rw [e]; show _ = (true && (if w = "get" then false else wordB w y z)); rw [if_neg hg]; rfl)
                refine w_nT (by simp) ?_
                walk_at "go"
                refine w_ixT j1 ht1 atI_0 ?_
                refine w_eqS rfl ?_
                walk_at "go"
                refine w_dec (fun h2 => ?_) (fun h2 => ?_)
                · walk_at "go"
                  refine w_ixT j1 ht1 (by rfl) ?_
                  walk_at "go"
                  refine w_sg (z, -1000000000000000000, 1000000000000000000) j1 ⟨rfl, hz⟩ fun v M2 G2 H2 j2 e2 ⟨ev, em⟩ => ?_
                  subst ev em
                  exact fin _ (by unfold wordB; rw [if_neg hw, if_pos h2, hk]; rfl) _ _ j2 (e1.trans e2)
                · walk_at "go"
                  refine w_ixT j1 ht1 atI_0 ?_
                  refine w_eqS rfl ?_
                  walk_at "go"
                  refine w_dec (fun h3 => ?_) (fun h3 => ?_)
                  · refine w_T ?_
                    walk_at "go"
                    refine w_ixT j1 ht1 (by rfl) ?_
                    walk_at "go"
                    by_cases hn : z = .non
                    · refine w_dT hn ?_
                      exact fin _ (by unfold wordB; rw [if_neg hw, if_neg h2, if_pos (Or.inl h3), hk, decide_eq_true hn]; rfl) _ _ j1 e1
                    · refine w_dF hn ?_
                      walk_at "go"
                      refine w_ixT j1 ht1 (by rfl) ?_
                      walk_at "go"
                      refine w_sg (z, -1000000000000000000, 1000000000000000000) j1 ⟨rfl, hz⟩ fun v M2 G2 H2 j2 e2 ⟨ev, em⟩ => ?_
                      subst ev em
                      exact fin _ (by unfold wordB; rw [if_neg hw, if_neg h2, if_pos (Or.inl h3), hk, decide_eq_false hn]; rfl) _ _ j2 (e1.trans e2)
                  · walk_at "go"
                    refine w_ixT j1 ht1 atI_0 ?_
                    refine w_eqS rfl ?_
                    walk_at "go"
                    refine w_dec (fun h4 => ?_) (fun h4 => ?_)
                    · walk_at "go"
                      refine w_ixT j1 ht1 (by rfl) ?_
                      walk_at "go"
                      by_cases hn : z = .non
                      · refine w_dT hn ?_
                        exact fin _ (by unfold wordB; rw [if_neg hw, if_neg h2, if_pos (Or.inr h4), hk, decide_eq_true hn]; rfl) _ _ j1 e1
                      · refine w_dF hn ?_
                        walk_at "go"
                        refine w_ixT j1 ht1 (by rfl) ?_
                        walk_at "go"
                        refine w_sg (z, -1000000000000000000, 1000000000000000000) j1 ⟨rfl, hz⟩ fun v M2 G2 H2 j2 e2 ⟨ev, em⟩ => ?_
                        subst ev em
                        exact fin _ (by unfold wordB; rw [if_neg hw, if_neg h2, if_pos (Or.inr h4), hk, decide_eq_false hn]; rfl) _ _ j2 (e1.trans e2)
                    · walk_at "go"
                      exact fin _ (by unfold wordB; rw [if_neg hw, if_neg h2, if_neg (fun z => z.elim h3 h4)]) _ _ j1 e1
/-! ### _law_is_deal -/
abbrev s_law_is_deal : Stmt := top 30
abbrev n_law_is_deal : List Str := ["ops", "op"]
theorem sc_law_is_deal : FnScope n_law_is_deal ["ops"] (defScope s_law_is_deal) := ⟨rfl, rfl, rfl, by decide +kernel, rfl, by decide +kernel, by decide +kernel⟩
def sp_law_is_deal (K : PySem.W.Frag) : Sp := Sg (α := Addr × List Itm) (fun x vs _ G => vs = [.ref x.1] ∧ DealAt K G x.1 x.2) (fun x M _ v M' _ => v = .bl (dealB x.2) ∧ M' = M)
theorem ok_law_is_deal {P : Program} {w : World} {K : PySem.W.Frag} {mg : Str → Option Value} {base : Heap}
    {f : Addr} {fd : FuncData} (D : Dn K mg "_law_is_deal" s_law_is_deal ["ops"] f fd)
    (b_len : mg "len" = none)
    (c_law_is_op : Cal P w K mg base CX0 2 "_law_is_op" (sp_law_is_op K)) : Cal P w K mg base CX0 3 "_law_is_deal" (sp_law_is_deal K) := by
  refine D.ok sc_law_is_deal (fun vs H Q E h => ?_) fun cdv A outer s H vs Q E hr h => ?_
  · obtain ⟨x, M, G, j, ⟨rfl, _⟩, _⟩ := h; rfl
  obtain ⟨⟨a, is⟩, M, G, j, ⟨rfl, ha, hi, hl⟩, k⟩ := h
  dsimp only at ha hi hl k
  refine ⟨_, (pss_cons (ps_if (PW.pt (pw_or (pt_cmpR op_lt (pe_callB (call_uLenK (K := K) rfl) (by rfl) b_len PySem.boot_len (pa_cons (pv 0) pa_nil)) pe_int (nomark _)) (pw_or1 (pt_cmpR op_gt (pe_callB (call_uLenK (K := K) rfl) (by rfl) b_len PySem.boot_len (pa_cons (pv 0) pa_nil)) pe_int (nomark _)))))
(pss_one (ps_ret pe_bl))
pss_nil)
(pss_cons (ps_for PassesOwn.never rfl (pi_list (pv 0)) (pg_name (i := 1) sc_law_is_deal.nd rfl (Or.inl rfl))
(pss_one (ps_if (pt_not (pt_val (pe_cal c_law_is_op hr (by first | decide | omega) (by rfl) (pa_cons (pv 1) pa_nil))))
(pss_one (ps_ret pe_bl))
pss_nil)))
(pss_one (ps_ret pe_bl)))), ?_⟩
  walk_at "start"
  have fin : ∀ b, b = dealB is → ∀ G' H', J M G' H' → Ex G G' → Q (.bl b) H' := fun b e G' H' j e' => k _ _ _ _ j e' ⟨by rw [e], rfl⟩
  refine w_lenL j ha ?_
  walk_at "go"
  rw [List.length_map]
  have fall : ¬ (1 ≤ is.length ∧ is.length ≤ 6) → false = dealB is := fun n => by unfold dealB; rw [decide_eq_false n]; rfl
  refine w_dec (fun h1 => ?_) (fun h1 => ?_)
  · walk_at "go"
    exact fin _ (fall fun z => by omega) G H j (Same.refl G)
  · walk_at "go"
    refine w_lenL j ha ?_
    walk_at "go"
    rw [List.length_map]
    refine w_dec (fun h2 => ?_) (fun h2 => ?_)
    · walk_at "go"
      exact fin _ (fall fun z => by omega) G H j (Same.refl G)
    · walk_at "go"
      have hlen : 1 ≤ is.length ∧ is.length ≤ 6 := ⟨by omega, by omega⟩
      refine w_forLV rfl (fun n σ H => ∃ G1 y, J M G1 H ∧ Ex G G1 ∧ (∀ (m : Nat) (x : Itm), m < n → is[m]? = some x → itB x = true) ∧ σ = [some (.ref a), y]) (xs := is.map fun i => V.ref i.t) (sl_mono j.g ha) ?_ ?_ ?_ ?_
      · exact ⟨G, _, j, Same.refl G, fun m x h => absurd h (Nat.not_lt_zero m), rfl⟩
      · rintro n σ H _ ⟨G1, y, j, e, _⟩
        exact sl_mono j.g (sl_mono e ha)
      · rintro n x σ H hx ⟨G1, y, j, e, ok, rfl⟩
        rw [List.getElem?_map] at hx
        cases hn : is[n]? with
        | none => rw [hn] at hx; cases hx
        | some i =>
          rw [hn] at hx
          cases hx
          walk_at "go"
          refine w_sg i j ⟨rfl, (hi i (List.mem_of_getElem? hn)).ex e⟩ fun v M2 G2 H2 j2 e2 ⟨ev, em⟩ => ?_
          subst ev em
          refine w_bl ?_
          cases hb : itB i with
          | false =>
            refine w_nf ?_
            walk_at "go"
            refine fin _ ?_ _ _ j2 (e.trans e2)
            unfold dealB
            rw [not_all hn hb, Bool.and_false]
          | true =>
            refine w_nt ?_
            walk_at "go"
            refine ⟨G2, _, j2, e.trans e2, fun m x hm hx => ?_, rfl⟩
            by_cases q : m = n
            · subst q; rw [hn] at hx; cases hx; exact hb
            · exact ok m x (by omega) hx
      · rintro σ H ⟨G1, y, j, e, ok, rfl⟩
        rw [List.length_map] at ok
        walk_at "go"
        refine fin _ ?_ _ _ j e
        unfold dealB
        rw [decide_eq_true hlen]
        refine Eq.symm (List.all_eq_true.mpr fun x hx => ?_)
        obtain ⟨m, hm⟩ := List.getElem?_of_mem hx
        exact ok m x (List.getElem?_eq_some_iff.mp hm).1 hm
/-! ### data of any depth, both sides alike -/
def okD : Nat → PyData → Prop
  | _, .none => True
  | _, .bool _ => True
  | _, .int _ => True
  | _, .str _ => True
  | 0, .list _ => False
  | 0, .tuple _ => False
  | n + 1, .list xs => xs.length ≤ 100000 ∧ ∀ x ∈ xs, okD n x
  | n + 1, .tuple xs => xs.length ≤ 100000 ∧ ∀ x ∈ xs, okD n x
  | _, .dict _ => False
theorem dpAll_len {K : PySem.W.Frag} {G : Hp} : ∀ {xs : List V} {ds : List PyData}, DpAll K G xs ds → xs.length = ds.length
  | _, _, .nil => rfl
  | _, _, .cons _ t => by rw [List.length_cons, List.length_cons, dpAll_len t]
theorem dpAll_get {K : PySem.W.Frag} {G : Hp} : ∀ {xs : List V} {ds : List PyData} {i : Nat} {d : PyData}, DpAll K G xs ds → ds[i]? = some d → ∃ x, xs[i]? = some x ∧ Dp K G x d
  | _, _, _, _, .nil, e => by simp at e
  | _, _, 0, d, .cons h t, e => ⟨_, rfl, by have e := Option.some.inj e; subst e; exact h⟩
  | _, _, i + 1, d, .cons h t, e => by
    obtain ⟨x, h1, h2⟩ := dpAll_get (i := i) t (by simpa using e)
    exact ⟨x, by simpa using h1, h2⟩
mutual
theorem dp_mono {K : PySem.W.Frag} {G G' : Hp} (e : Same G G') : ∀ {v : V} {d : PyData}, Dp K G v d → Dp K G' v d
  | _, _, .non => .non
  | _, _, .bl b => .bl b
  | _, _, .int i => .int i
  | _, _, .str x => .str x
  | _, _, .lst h t => .lst (sl_mono e h) (dpAll_mono e t)
  | _, _, .tup h t => .tup (st_mono e h) (dpAll_mono e t)
theorem dpAll_mono {K : PySem.W.Frag} {G G' : Hp} (e : Same G G') : ∀ {vs : List V} {ds : List PyData}, DpAll K G vs ds → DpAll K G' vs ds
  | _, _, .nil => .nil
  | _, _, .cons h t => .cons (dp_mono e h) (dpAll_mono e t)
end
theorem dpAll_snoc {K : PySem.W.Frag} {G : Hp} : ∀ {xs : List V} {ds : List PyData} {x : V} {d : PyData}, DpAll K G xs ds → Dp K G x d → DpAll K G (xs ++ [x]) (ds ++ [d])
  | _, _, _, _, .nil, h => .cons h .nil
  | _, _, _, _, .cons a t, h => .cons a (dpAll_snoc t h)
theorem dpAll_of {K : PySem.W.Frag} {G : Hp} : ∀ {xs : List V} {ds : List PyData}, xs.length = ds.length → (∀ (i : Nat) (x : V) (d : PyData), xs[i]? = some x → ds[i]? = some d → Dp K G x d) → DpAll K G xs ds
  | [], [], _, _ => .nil
  | x :: xs, d :: ds, h, f => .cons (f 0 x d rfl rfl) (dpAll_of (by simpa using h) fun i y e h1 h2 => f (i + 1) y e (by simpa using h1) (by simpa using h2))
  | [], _ :: _, h, _ => by simp at h
  | _ :: _, [], h, _ => by simp at h
/-- a sequence of either kind -/
def SqB (K : PySem.W.Frag) (G : Hp) (a : Addr) (xs : List V) : Prop := SqL K G a xs ∨ SqT K G a xs
theorem w_ixB {K : PySem.W.Frag} {M G H : Hp} {a : Addr} {xs : List V} {m : Int} {v : V} {Q : VK} (j : J M G H) (h : SqB K G a xs) (e : atI xs m = some v) (q : Q v H) : uIx K (.ref a) (.int m) H Q :=
  h.elim (fun h => w_ixL j h e q) fun h => w_ixT j h e q
theorem w_lenB {K : PySem.W.Frag} {M G H : Hp} {a : Addr} {xs : List V} {Q : VK} (j : J M G H) (h : SqB K G a xs) (q : Q (.int xs.length) H) : uLen K [.ref a] H Q := h.elim (fun h => w_lenL j h q) fun h => w_lenT j h q
def spNo : Sp := fun _ _ _ _ => False
def spAll1 (K : PySem.W.Frag) (n : Nat) : Sp := Sg (α := Addr × Addr × List V × List V × List PyData) (fun x vs M G => vs = [.ref x.1, .ref x.2.1] ∧ SqB K G x.1 x.2.2.1 ∧ SqB K G x.2.1 x.2.2.2.1 ∧ DpAll K G x.2.2.1 x.2.2.2.2 ∧ DpAll K G x.2.2.2.1 x.2.2.2.2 ∧ x.2.2.2.2.length ≤ 100000 ∧ ∀ d ∈ x.2.2.2.2, okD n d)
      (fun x M _ v M' _ => v = .bl true ∧ M' = M)
def spAll (K : PySem.W.Frag) : Nat → Sp
  | 0 => spNo
  | n + 1 => spAll1 K n
def spEq (K : PySem.W.Frag) (n : Nat) : Sp := Sg (α := V × V × PyData) (fun x vs M G => vs = [x.1, x.2.1] ∧ Dp K G x.1 x.2.2 ∧ Dp K G x.2.1 x.2.2 ∧ okD n x.2.2) (fun x M _ v M' _ => v = .bl true ∧ M' = M)
theorem use_eq {K : PySem.W.Frag} {n : Nat} {M G H : Hp} {x y : V} {d : PyData} {Q : VK} {E : XK} (j : J M G H) (h1 : Dp K G x d) (h2 : Dp K G y d) (h3 : okD n d) (k : ∀ G' H', J M G' H' → Ex G G' → Q (.bl true) H') : spEq K n ([x, y] ++ []) H Q E :=
  w_sg (x, y, d) j ⟨rfl, h1, h2, h3⟩ fun v M' G' H' j' e ⟨ev, em⟩ => by subst ev em; exact k G' H' j' e
theorem use_all {K : PySem.W.Frag} {n : Nat} {M G H : Hp} {a b : Addr} {xs ys : List V} {ds : List PyData} {Q : VK} {E : XK} (j : J M G H) (h1 : SqB K G a xs) (h2 : SqB K G b ys) (h3 : DpAll K G xs ds) (h4 : DpAll K G ys ds) (h5 : ds.length ≤ 100000) (h6 : ∀ d ∈ ds, okD n d)
    (k : ∀ G' H', J M G' H' → Ex G G' → Q (.bl true) H') : spAll K (n + 1) ([.ref a, .ref b] ++ []) H Q E := by
  show spAll1 K n _ H Q E
  exact w_sg (a, b, xs, ys, ds) j ⟨rfl, h1, h2, h3, h4, h5, h6⟩ fun v M' G' H' j' e ⟨ev, em⟩ => by subst ev em; exact k G' H' j' e
/-! ### _law_all_equal -/
abbrev s_law_all_equal : Stmt := top 20
abbrev n_law_all_equal : List Str := ["actual", "due", "k"]
theorem sc_law_all_equal : FnScope n_law_all_equal ["actual", "due"] (defScope s_law_all_equal) := ⟨rfl, rfl, rfl, by decide +kernel, rfl, by decide +kernel, by decide +kernel⟩
theorem ok_law_all_equal {P : Program} {w : World} {K : PySem.W.Frag} {mg : Str → Option Value} {base : Heap} {f : Addr} {fd : FuncData} (D : Dn K mg "_law_all_equal" s_law_all_equal ["actual", "due"] f fd)
    (b_range : mg "range" = none) (b_len : mg "len" = none) (n : Nat) (c_law_equal : Cal P w K mg base CX0 (2 * n + 1) "_law_equal" (spEq K n)) : Cal P w K mg base CX0 (2 * n + 2) "_law_all_equal" (spAll K (n + 1)) := by
  refine D.ok sc_law_all_equal (fun vs H Q E h => ?_) fun cdv A outer s H vs Q E hr h => ?_
  · obtain ⟨x, M, G, j, ⟨rfl, _⟩, _⟩ := h; rfl
  obtain ⟨⟨a, b, xs, ys, ds⟩, M, G, j, ⟨rfl, ha, hb, hx, hy, hl, hok⟩, k⟩ := h
  dsimp only at ha hb hx hy hl hok k
  refine ⟨_, (pss_cons (ps_for PassesOwn.never rfl (pi_range1 (by rfl) b_range (pa_cons (pe_callB (call_uLenK (K := K) rfl) (by rfl) b_len PySem.boot_len (pa_cons (pv 1) pa_nil)) pa_nil)) (pg_name (i := 2) sc_law_all_equal.nd rfl (Or.inl rfl))
(pss_one (ps_if (pt_not (pt_val (pe_cal c_law_equal hr (by first | decide | omega) (by rfl) (pa_cons (pe_ix (ix_uK (K := K) rfl) (pv 0) (pv 2) (fun _ _ => rfl)) (pa_cons (pe_ix (ix_uK (K := K) rfl) (pv 1) (pv 2) (fun _ _ => rfl)) pa_nil)))))
(pss_one (ps_ret pe_bl))
pss_nil)))
(pss_one (ps_ret pe_bl))), ?_⟩
  walk_at "start"
  refine w_lenB j hb ?_
  walk_at "go"
  have hyl := dpAll_len hy
  refine w_rng (fun i σ H => ∃ G1 z, J M G1 H ∧ Ex G G1 ∧ σ = [some (.ref a), some (.ref b), z]) ⟨G, _, j, Same.refl G, rfl⟩ ?_ ?_ (by omega) (by omega)
  · rintro i σ H hi ⟨G1, z, j, e, rfl⟩
    have hi : i < ds.length := by rw [← hyl]; simpa using hi
    obtain ⟨x, hx1, hx2⟩ := dpAll_get hx (List.getElem?_eq_getElem hi)
    obtain ⟨y, hy1, hy2⟩ := dpAll_get hy (List.getElem?_eq_getElem hi)
    walk_at "go"
    refine w_ixB j (ha.imp (sl_mono e) (st_mono e)) (atI_nat hx1) ?_
    walk_at "go"
    refine w_ixB j (hb.imp (sl_mono e) (st_mono e)) (atI_nat hy1) ?_
    walk_at "go"
    refine use_eq j (dp_mono e hx2) (dp_mono e hy2) (hok _ (List.getElem_mem hi)) fun G2 H2 j2 e2 => ?_
    walk_at "go"
    exact ⟨G2, _, j2, e.trans e2, rfl⟩
  · rintro σ H ⟨G1, z, j, e, rfl⟩
    walk_at "go"
    exact k _ _ _ _ j e ⟨rfl, rfl⟩
/-! ### _law_equal -/
abbrev s_law_equal : Stmt := top 19
abbrev n_law_equal : List Str := ["actual", "due"]
theorem sc_law_equal : FnScope n_law_equal ["actual", "due"] (defScope s_law_equal) := ⟨rfl, rfl, rfl, by decide +kernel, rfl, by decide +kernel, by decide +kernel⟩
theorem ok_law_equal {P : Program} {w : World} {K : PySem.W.Frag} {mg : Str → Option Value} {base : Heap} {f : Addr} {fd : FuncData} (D : Dn K mg "_law_equal" s_law_equal ["actual", "due"] f fd)
    (b_isinstance : mg "isinstance" = none) (b_list : mg "list" = none) (b_tuple : mg "tuple" = none) (b_bool : mg "bool" = none) (b_int : mg "int" = none) (b_str : mg "str" = none) (b_len : mg "len" = none) (n : Nat)
    (c_law_all_equal : Cal P w K mg base CX0 (2 * n) "_law_all_equal" (spAll K n)) : Cal P w K mg base CX0 (2 * n + 1) "_law_equal" (spEq K n) := by
  refine D.ok sc_law_equal (fun vs H Q E h => ?_) fun cdv A outer s H vs Q E hr h => ?_
  · obtain ⟨x, M, G, j, ⟨rfl, _⟩, _⟩ := h; rfl
  obtain ⟨⟨x, y, d⟩, M, G, j, ⟨rfl, hx, hy, hok⟩, k⟩ := h
  dsimp only at hx hy hok k
  refine ⟨_, (pss_cons (ps_if (pt_val (pe_callB (call_isiK' (K := K) rfl) (by rfl) b_isinstance bt_isinstance (pa_cons (pv 1) (pa_cons (pe_bltn (v := .ty "list") (by rfl) b_list bt_list rfl) pa_nil))))
(pss_cons (ps_if (PW.pt (pw_or (pt_not (pt_val (pe_callB (call_isiK' (K := K) rfl) (by rfl) b_isinstance bt_isinstance (pa_cons (pv 0) (pa_cons (pe_bltn (v := .ty "list") (by rfl) b_list bt_list rfl) pa_nil))))) (pw_or1 (pt_cmpR (op_uNeK (K := K) rfl hr) (pe_callB (call_uLenK (K := K) rfl) (by rfl) b_len PySem.boot_len (pa_cons (pv 0) pa_nil)) (pe_callB (call_uLenK (K := K) rfl) (by rfl) b_len PySem.boot_len (pa_cons (pv 1) pa_nil)) (nomark _)))))
(pss_one (ps_ret pe_bl))
pss_nil)
(pss_one (ps_ret (pe_cal c_law_all_equal hr (by first | decide | omega) (by rfl) (pa_cons (pv 0) (pa_cons (pv 1) pa_nil))))))
pss_nil)
(pss_cons (ps_if (pt_val (pe_callB (call_isiK' (K := K) rfl) (by rfl) b_isinstance bt_isinstance (pa_cons (pv 1) (pa_cons (pe_bltn (v := .ty "tuple") (by rfl) b_tuple bt_tuple rfl) pa_nil))))
(pss_cons (ps_if (PW.pt (pw_or (pt_not (pt_val (pe_callB (call_isiK' (K := K) rfl) (by rfl) b_isinstance bt_isinstance (pa_cons (pv 0) (pa_cons (pe_bltn (v := .ty "tuple") (by rfl) b_tuple bt_tuple rfl) pa_nil))))) (pw_or1 (pt_cmpR (op_uNeK (K := K) rfl hr) (pe_callB (call_uLenK (K := K) rfl) (by rfl) b_len PySem.boot_len (pa_cons (pv 0) pa_nil)) (pe_callB (call_uLenK (K := K) rfl) (by rfl) b_len PySem.boot_len (pa_cons (pv 1) pa_nil)) (nomark _)))))
(pss_one (ps_ret pe_bl))
pss_nil)
(pss_one (ps_ret (pe_cal c_law_all_equal hr (by first | decide | omega) (by rfl) (pa_cons (pv 0) (pa_cons (pv 1) pa_nil))))))
pss_nil)
(pss_cons (ps_if (pt_val (pe_callB (call_isiK' (K := K) rfl) (by rfl) b_isinstance bt_isinstance (pa_cons (pv 1) (pa_cons (pe_bltn (v := .ty "bool") (by rfl) b_bool bt_bool rfl) pa_nil))))
(pss_one (ps_ret (pe_and (pe_callB (call_isiK' (K := K) rfl) (by rfl) b_isinstance bt_isinstance (pa_cons (pv 0) (pa_cons (pe_bltn (v := .ty "bool") (by rfl) b_bool bt_bool rfl) pa_nil))) (pe_one (pe_cmpR (op_uEqK (K := K) rfl hr) (pv 0) (pv 1) (nomark _))))))
pss_nil)
(pss_cons (ps_if (pt_val (pe_callB (call_isiK' (K := K) rfl) (by rfl) b_isinstance bt_isinstance (pa_cons (pv 1) (pa_cons (pe_bltn (v := .ty "int") (by rfl) b_int bt_int rfl) pa_nil))))
(pss_one (ps_ret (pe_and (pe_callB (call_isiK' (K := K) rfl) (by rfl) b_isinstance bt_isinstance (pa_cons (pv 0) (pa_cons (pe_bltn (v := .ty "int") (by rfl) b_int bt_int rfl) pa_nil))) (pe_and (pe_not (pe_callB (call_isiK' (K := K) rfl) (by rfl) b_isinstance bt_isinstance (pa_cons (pv 0) (pa_cons (pe_bltn (v := .ty "bool") (by rfl) b_bool bt_bool rfl) pa_nil)))) (pe_one (pe_cmpR (op_uEqK (K := K) rfl hr) (pv 0) (pv 1) (nomark _)))))))
pss_nil)
(pss_cons (ps_if (pt_val (pe_callB (call_isiK' (K := K) rfl) (by rfl) b_isinstance bt_isinstance (pa_cons (pv 1) (pa_cons (pe_bltn (v := .ty "str") (by rfl) b_str bt_str rfl) pa_nil))))
(pss_one (ps_ret (pe_and (pe_callB (call_isiK' (K := K) rfl) (by rfl) b_isinstance bt_isinstance (pa_cons (pv 0) (pa_cons (pe_bltn (v := .ty "str") (by rfl) b_str bt_str rfl) pa_nil))) (pe_one (pe_cmpR (op_uEqK (K := K) rfl hr) (pv 0) (pv 1) (nomark _))))))
pss_nil)
(pss_one (ps_ret (pe_cmp (pc_isN (pv 0)))))))))), ?_⟩
  walk_at "start"
  have fin : Q (.bl true) H := k _ _ _ _ j (Same.refl G) ⟨rfl, rfl⟩
  cases hy with
  | non =>
    cases hx
    walk_at "gx"
    exact fin
  | bl b =>
    cases hx
    walk_at "gx"
    refine w_eqV rfl (decide_eq_true rfl) ?_
    exact fin
  | int b =>
    cases hx
    walk_at "gx"
    rw [decide_eq_true rfl]
    exact fin
  | str b =>
    cases hx
    walk_at "gx"
    exact fin
  | lst hb hyl =>
    cases hx with
    | lst ha hxl =>
      cases n with
      | zero => cases hok
      | succ n =>
        walk_at "gx"
        refine w_isi true (ty_L (sl_mono j.g hb)) (by rfl) ?_
        walk_at "gx"
        refine w_isi true (ty_L (sl_mono j.g ha)) (by rfl) ?_
        walk_at "gx"
        refine w_lenL j ha ?_
        walk_at "gx"
        refine w_lenL j hb ?_
        walk_at "gx"
        rw [dpAll_len hxl, dpAll_len hyl, decide_eq_true rfl]
        refine w_F ?_
        walk_at "gx"
        exact use_all j (.inl ha) (.inl hb) hxl hyl hok.1 hok.2 fun G' H' j' e => k _ _ _ _ j' e ⟨rfl, rfl⟩
  | tup hb hyl =>
    cases hx with
    | tup ha hxl =>
      cases n with
      | zero => cases hok
      | succ n =>
        walk_at "gx"
        refine w_isi false (ty_T (st_mono j.g hb)) (by rfl) ?_
        walk_at "gx"
        refine w_isi true (ty_T (st_mono j.g hb)) (by rfl) ?_
        walk_at "gx"
        refine w_isi true (ty_T (st_mono j.g ha)) (by rfl) ?_
        walk_at "gx"
        refine w_lenT j ha ?_
        walk_at "gx"
        refine w_lenT j hb ?_
        walk_at "gx"
        rw [dpAll_len hxl, dpAll_len hyl, decide_eq_true rfl]
        refine w_F ?_
        walk_at "gx"
        exact use_all j (.inr ha) (.inr hb) hxl hyl hok.1 hok.2 fun G' H' j' e => k _ _ _ _ j' e ⟨rfl, rfl⟩
/-- both, at every depth -/
theorem ok_equal {P : Program} {w : World} {K : PySem.W.Frag} {mg : Str → Option Value} {base : Heap} {f g : Addr} {fd gd : FuncData} (D : Dn K mg "_law_equal" s_law_equal ["actual", "due"] f fd) (D2 : Dn K mg "_law_all_equal" s_law_all_equal ["actual", "due"] g gd)
    (b_isinstance : mg "isinstance" = none) (b_list : mg "list" = none) (b_tuple : mg "tuple" = none) (b_bool : mg "bool" = none) (b_int : mg "int" = none) (b_str : mg "str" = none) (b_len : mg "len" = none) (b_range : mg "range" = none) (n : Nat) :
    Cal P w K mg base CX0 (2 * n + 1) "_law_equal" (spEq K n) := by
  induction n with
  | zero => exact ok_law_equal D b_isinstance b_list b_tuple b_bool b_int b_str b_len 0 (D2.cal ⟨fun _ _ _ _ h => h.elim, fun _ _ _ _ _ _ _ _ _ _ _ _ _ h => h.elim⟩)
  | succ n ih => exact ok_law_equal D b_isinstance b_list b_tuple b_bool b_int b_str b_len (n + 1) (ok_law_all_equal D2 b_range b_len n ih)
/-! ### items as data -/
def pd : V → PyData
  | .bl b => .bool b
  | .int n => .int n
  | .str s => .str s
  | _ => .none
theorem dp_pd {K : PySem.W.Frag} {G : Hp} {v : V} (h : flatV v = true) : Dp K G v (pd v) := by
  cases v with
  | non => exact .non
  | bl b => exact .bl b
  | int b => exact .int b
  | str b => exact .str b
  | byt b => cases h
  | flt b => cases h
  | ref b => cases h
  | ty b => cases h
theorem dp_pds {K : PySem.W.Frag} {G : Hp} : ∀ {vs : List V}, (∀ v ∈ vs, flatV v = true) → DpAll K G vs (vs.map pd)
  | [], _ => .nil
  | _ :: _, h => .cons (dp_pd (h _ List.mem_cons_self)) (dp_pds fun v m => h v (List.mem_cons_of_mem _ m))
def itD (tp : Bool) (vs : List V) : PyData := match tp with
  | true => .tuple (vs.map pd)
  | false => .list (vs.map pd)
theorem ItmAt.dp {K : PySem.W.Frag} {G : Hp} {i : Itm} (h : ItmAt K G i) : Dp K G (.ref i.t) (itD i.tp i.vs) := by
  obtain ⟨tp, t, vs⟩ := i
  obtain ⟨h1, h2, h3⟩ := h
  cases tp with
  | true => exact .tup h1 (dp_pds h2)
  | false => exact .lst h1 (dp_pds h2)
theorem dp_itms {K : PySem.W.Frag} {G : Hp} : ∀ {is : List Itm}, (∀ i ∈ is, ItmAt K G i) → DpAll K G (is.map fun i => V.ref i.t) ((is.map fun (i : Itm) => (i.tp, i.vs)).map fun p => itD p.1 p.2)
  | [], _ => .nil
  | _ :: _, h => .cons (h _ List.mem_cons_self).dp (dp_itms fun i m => h i (List.mem_cons_of_mem _ m))
theorem okD_pd (v : V) (n : Nat) : okD n (pd v) := by cases v <;> cases n <;> trivial
theorem okD_it {tp : Bool} {vs : List V} (h : vs.length ≤ 4) : okD 1 (itD tp vs) := by
  cases tp with
  | true => exact ⟨by rw [List.length_map]; omega, fun x hx => by obtain ⟨v, _, rfl⟩ := List.mem_map.mp hx; exact okD_pd v 0⟩
  | false => exact ⟨by rw [List.length_map]; omega, fun x hx => by obtain ⟨v, _, rfl⟩ := List.mem_map.mp hx; exact okD_pd v 0⟩
theorem okD_itms {is : List Itm} (h : ∀ i ∈ is, i.vs.length ≤ 4) (l : is.length ≤ 100) : okD 2 (.list ((is.map fun (i : Itm) => (i.tp, i.vs)).map fun p => itD p.1 p.2)) := by
  refine ⟨by rw [List.length_map, List.length_map]; omega, fun x hx => ?_⟩
  obtain ⟨p, hp, rfl⟩ := List.mem_map.mp hx
  obtain ⟨i, hi, rfl⟩ := List.mem_map.mp hp
  exact okD_it (h i hi)
theorem all_map {α β : Type} (f : β → Bool) (g : α → β) : ∀ l : List α, (l.map g).all f = l.all fun x => f (g x)
  | [] => rfl
  | x :: r => by rw [List.map_cons, List.all_cons, List.all_cons, all_map f g r]
theorem dealB_same {is js : List Itm} (h : is.map (fun (i : Itm) => (i.tp, i.vs)) = js.map (fun (i : Itm) => (i.tp, i.vs))) : dealB is = dealB js := by
  have hl : is.length = js.length := by have := congrArg List.length h; rw [List.length_map, List.length_map] at this; exact this
  have ha : is.all itB = js.all itB := by
    have e : ∀ l : List Itm, l.all itB = (l.map fun (i : Itm) => (i.tp, i.vs)).all fun p => p.1 && opB p.2 := fun l => (all_map (fun p : Bool × List V => p.1 && opB p.2) (fun (i : Itm) => (i.tp, i.vs)) l).symm
    rw [e, e, h]
  unfold dealB
  rw [hl, ha]
theorem OpAt.itm {K : PySem.W.Frag} {G : Hp} {t : Addr} {op : Op} (h : OpAt G t op) : ItmAt K G ⟨true, t, opV op⟩ ∧ 2 ≤ (opV op).length ∧ (opV op).length ≤ 3 := by
  have ovf : ∀ o : Option Int, flatV (ov o) = true := fun o => by cases o <;> rfl
  refine ⟨⟨st_of h.1, fun v hv => ?_, ?_⟩, ?_, ?_⟩
  · cases op <;> simp only [opV, List.mem_cons, List.not_mem_nil, or_false] at hv
    · rcases hv with rfl | rfl <;> rfl
    · rcases hv with rfl | rfl | rfl <;> first | rfl | exact ovf _
    · rcases hv with rfl | rfl | rfl <;> rfl
    · rcases hv with rfl | rfl | rfl <;> first | rfl | exact ovf _
    · rcases hv with rfl | rfl | rfl <;> rfl
  · cases op <;> simp [opV]
  · cases op <;> simp [opV]
  · cases op <;> simp [opV]
def sp_law (K : PySem.W.Frag) : Sp := fun vs H Q _ => ∃ (a : Addr) (ns : List Int), vs = [.ref a] ∧ SqL K H a (ns.map V.int) ∧ ns.length ≤ 63 ∧ ∀ H', Q (.bl true) H'
/-! ### law -/
abbrev s_law : Stmt := top 34
abbrev n_law : List Str := ["script", "draws", "turn", "keys", "ops", "at", "kept", "refused", "answer", "e", "k"]
theorem sc_law : FnScope n_law ["script"] (defScope s_law) := ⟨rfl, rfl, rfl, by decide +kernel, rfl, by decide +kernel, by decide +kernel⟩
theorem ok_law {P : Program} {w : World} {K : PySem.W.Frag} {mg : Str → Option Value} {base : Heap} {f : Addr} {fd : FuncData} (D : Dn K mg "law" s_law ["script"] f fd)
    (b_range : mg "range" = none) (b_len : mg "len" = none) (b_isinstance : mg "isinstance" = none)
    {A_BadDeal A_BadRecord : Addr} (x_BadDeal : Xc K mg "BadDeal" A_BadDeal) (x_BadRecord : Xc K mg "BadRecord" A_BadRecord) (i_no : PySem.W.kitOne K (.ref A_BadDeal) (.ref A_BadRecord) = some false)
    (c_law_numbers : Cal P w K mg base CX0 2 "_law_numbers" (sp_law_numbers K)) (c_law_keys : Cal P w K mg base CX0 3 "_law_keys" (sp_law_keys K)) (c_law_draw : Cal P w K mg base CX0 2 "_law_draw" (sp_law_draw K))
    (c_law_op : Cal P w K mg base CX0 5 "_law_op" (sp_law_op K)) (c_law_spoilt : Cal P w K mg base CX0 4 "_law_spoilt" (sp_law_spoilt K)) (c_law_copy : Cal P w K mg base CX0 1 "_law_copy" (sp_law_copy K))
    (c_check_deal : Cal P w K mg base (L2.CX P w) 4 "check_deal" (sp_check_deal K A_BadDeal)) (c_law_is_deal : Cal P w K mg base CX0 3 "_law_is_deal" (sp_law_is_deal K))
    (c_law_equal : Cal P w K mg base CX0 5 "_law_equal" (spEq K 2)) : FnOk P w K mg base CX0 9 f fd ["script"] (sp_law K) := by
  refine D.fn.ok sc_law (fun vs H Q E h => ?_) fun cdv A outer s H vs Q E hr h => ?_
  · obtain ⟨a, ns, rfl, _⟩ := h; rfl
  obtain ⟨a, ns, rfl, ha, hl, k⟩ := h
  have j := J.start H
  refine ⟨_, (pss_cons (ps_set (i := 1) sc_law.nd rfl (Or.inr rfl) (pe_lst (pa_cons (pe_cal c_law_numbers hr (by first | decide | omega) (by rfl) (pa_cons (pv 0) pa_nil)) (pa_cons pe_int pa_nil))))
(pss_cons (ps_for PassesOwn.never rfl (pi_range1 (by rfl) b_range (pa_cons pe_int pa_nil)) (pg_name (i := 2) sc_law.nd rfl (Or.inl rfl))
(pss_cons (ps_set (i := 3) sc_law.nd rfl (Or.inr rfl) (pe_cal c_law_keys hr (by first | decide | omega) (by rfl) (pa_cons (pv 1) pa_nil)))
(pss_cons (ps_setLc (i := 4) (own := [("k", 10)]) (by rfl) sc_law.nd rfl rfl (sw_true rfl rfl rfl (by decide +kernel)) (pi_range1 (by rfl) b_range (pa_cons (pe_op op_mod (pe_cal c_law_draw hr (by first | decide | omega) (by rfl) (pa_cons (pv 1) pa_nil)) pe_int) pa_nil)) (blkOk_by (own := [("k", 10)]) (N := n_law) (sc := defScope s_law) (by decide +kernel)) (fun _ _ _ _ _ => pg_name (i := 10) sc_law.nd rfl (Or.inl rfl)) (fun _ _ _ _ _ => pts_nil) (fun _ _ _ _ _ => (pe_cal c_law_op hr (by first | decide | omega) (by rfl) (pa_cons (pv 1) (pa_cons (pv 3) pa_nil)))))
(pss_cons (ps_if (PW.pt (pw_and (pt_cmpR op_gt (pe_callB (call_uLenK (K := K) rfl) (by rfl) b_len PySem.boot_len (pa_cons (pv 4) pa_nil)) pe_int (nomark _)) (pw_and1 (pt_cmpR (op_uEqK (K := K) rfl hr) (pe_op op_mod (pe_cal c_law_draw hr (by first | decide | omega) (by rfl) (pa_cons (pv 1) pa_nil)) pe_int) pe_int (nomark _)))))
(pss_cons (ps_set (i := 5) sc_law.nd rfl (Or.inl rfl) (pe_op op_mod (pe_cal c_law_draw hr (by first | decide | omega) (by rfl) (pa_cons (pv 1) pa_nil)) (pe_callB (call_uLenK (K := K) rfl) (by rfl) b_len PySem.boot_len (pa_cons (pv 4) pa_nil))))
(pss_one (ps_asg (pe_cal c_law_spoilt hr (by first | decide | omega) (by rfl) (pa_cons (pv 1) (pa_cons (pe_ix (ix_uK (K := K) rfl) (pv 4) (pv 5) (fun _ _ => rfl)) pa_nil))) (pg_sub (pv 4) (pv 5) set_list))))
pss_nil)
(pss_cons (ps_set (i := 6) sc_law.nd rfl (Or.inl rfl) (pe_cal c_law_copy hr (by first | decide | omega) (by rfl) (pa_cons (pv 4) pa_nil)))
(pss_cons (ps_set (i := 7) sc_law.nd rfl (Or.inl rfl) pe_bl)
(pss_cons (ps_set (i := 8) sc_law.nd rfl (Or.inl rfl) pe_non)
(pss_cons (ps_tryA (i := 9) rfl rfl sc_law.nd rfl rfl ⟨by rfl, by decide, Or.inl x_BadDeal.gP⟩ takes0 (fun W pn xe tk _ =>
(pss_one (ps_set (i := 8) sc_law.nd rfl (Or.inl rfl) (pe_calX c_check_deal hr (by first | decide | omega) (by rfl) tk (pa_cons (pv 4) pa_nil)))))
(fun a oe cls d pn hz hf => pss_given (p := cls = .ref A_BadDeal ∧ d = none) fun q =>
(pss_one (ps_set (i := 7) sc_law.nd rfl (Or.inl rfl) (pe_not (pe_callB (call_isE x_BadDeal.excC (by obtain ⟨rfl, rfl⟩ := q; exact hz) hf) (by rfl) b_isinstance bt_isinstance (pa_cons (pv 9) (pa_cons (pe_gk (by rfl) x_BadRecord.g) pa_nil))))))))
(pss_one (ps_if (PW.pt (pw_or (pt_cmp (pc_notN (pv 8))) (pw_or (pt_cmpR (op_uEqK (K := K) rfl hr) (pv 7) (pe_cal c_law_is_deal hr (by first | decide | omega) (by rfl) (pa_cons (pv 6) pa_nil)) (nomark _)) (pw_or1 (pt_not (pt_val (pe_cal c_law_equal hr (by first | decide | omega) (by rfl) (pa_cons (pv 4) (pa_cons (pv 6) pa_nil)))))))))
(pss_one (ps_ret pe_bl))
pss_nil))))))))))
(pss_one (ps_ret pe_bl)))), ?_⟩
  walk_at "start"
  refine w_sg (a, ns) j ⟨rfl, ha, hl⟩ fun v M1 G1 H1 j1 e1 ⟨q, nums, ev, hq, hn, em⟩ => ?_
  subst ev em
  walk_at "go"
  refine w_newM j1 (by show 2 ≤ sizeLine; decide) fun p H2 j2 nM nG => ?_
  walk_at "go"
  have d2 : Dr K (upd (fun _ => none) p (.lst [.ref q, .int 0])) G1 p := ⟨q, nums, 0, upd_same, sl_of hq, hn, Int.le_refl _⟩
  refine w_rng (fun i σ H => ∃ M G x1 x2 x3 x4 x5 x6 x7 x8 x9, J M G H ∧ Dr K M G p ∧ σ = [some (.ref a), some (.ref p), x1, x2, x3, x4, x5, x6, x7, x8, x9]) ⟨_, G1, _, _, _, _, _, _, _, _, _, j2, d2, rfl⟩ ?_ ?_ (by decide) (by decide)
  · rintro i σ H _ ⟨M, G, x1, x2, x3, x4, x5, x6, x7, x8, x9, j, d, rfl⟩
    walk_at "go"
    refine use_dg j d fun v M1 G1 H1 ⟨t, ks, ev, hk⟩ j1 e1 d1 a1 => ?_
    subst ev
    walk_at "go"
    refine use_draw j1 d1 fun n M4 G4 H4 n0 n1 j4 e4 d4 a4 => ?_
    walk_at "go"
    have hp : 0 ≤ n % 8 ∧ n % 8 < 8 := ⟨Int.emod_nonneg _ (by decide), Int.emod_lt_of_pos _ (by decide)⟩
    generalize n % 8 = c at hp ⊢
    refine w_lcr j4 (fun L i acc M2 G2 => L ≠ p ∧ Ex G4 G2 ∧ Dr K M2 G2 p ∧ ∃ is : List Itm, acc = is.map (fun i => V.ref i.t) ∧ (∀ i ∈ is, ItmAt K G2 i ∧ i.tp = true ∧ 2 ≤ i.vs.length ∧ i.vs.length ≤ 3) ∧ is.length = i) ?_ (fun _ => rfl) ?_ ?_ (by omega) (by omega)
    · intro L h1 h2
      exact ⟨d4.ne h1, Same.refl _, d4.upd (d4.ne h1), [], rfl, fun d h => (nomatch h), rfl⟩
    · rintro L i acc M2 G2 H2 R hi j2 hL ⟨nL, e2, d2, is, rfl, his, hil⟩ hR
      walk_at "go"
      refine use_dk j2 d2 ((hk.ex e4).ex e2) fun v M3 G3 H3 ⟨u, op, ev, o⟩ j3 e3 d3 a3 => ?_
      subst ev
      refine hR _ _ ⟨M3, G3, j3, a3.at hL nL, sz_lt (by rw [List.length_map]; omega), nL, e2.trans e3, d3.upd nL, is ++ [⟨true, u, opV op⟩], by rw [List.map_append]; rfl, fun d hd => ?_, by rw [List.length_append, hil]; rfl⟩
      rcases List.mem_append.mp hd with hd | hd
      · exact ⟨(his d hd).1.ex e3, (his d hd).2⟩
      · rw [List.mem_singleton.mp hd]; exact ⟨(o.itm (K := K)).1, rfl, (o.itm (K := K)).2⟩
    rintro L acc M5 G5 H5 j5 hL ⟨nL, e5, d5, is, rfl, his, hlen⟩
    refine w_gName ?_
    refine w_seqP (fun σ H => ∃ (js : List Itm) (M : Hp) (G : Hp) (y5 : Option V), J M G H ∧ Dr K M G p ∧ M L = some (.lst (js.map fun i => V.ref i.t)) ∧ (∀ i ∈ js, ItmAt K G i) ∧ js.length ≤ 7 ∧ σ = [some (.ref a), some (.ref p), some (.int i), some (.ref t), some (.ref L), y5, x5, x6, x7, x8, x9]) ?_ fun rest => ?_
    · rintro σ H ⟨js, M6, G6, y5, j6, d6, hL6, his6, hlen6, rfl⟩
      have jS := j6.seal hL6
      have eS := Ex.new (o := .lst (js.map fun i => V.ref i.t)) (j6.out hL6)
      have hda : DealAt K (upd G6 L (.lst (js.map fun i => V.ref i.t))) L js := ⟨sl_of upd_same, fun i h => (his6 i h).ex eS, by omega⟩
      have dS := (d6.del nL).ex eS
      generalize upd G6 L (.lst (js.map fun i => V.ref i.t)) = G6' at jS hda dS
      walk_at "go"
      refine w_sg (L, js) jS ⟨rfl, hda⟩ fun v M7 G7 H7 j7 e7 ⟨⟨a2, js2, ev, hd2, hm⟩, em⟩ => ?_
      subst ev em
      have hda7 := hda.ex e7
      have dS7 := dS.ex e7
      with_reducible refine w_gName ?_
      with_reducible refine w_seq ?_
      with_reducible refine w_asg ?_
      with_reducible refine w_c ?_
      with_reducible refine w_gName ?_
      with_reducible refine w_seq ?_
      with_reducible refine w_asg ?_
      with_reducible refine w_c ?_
      with_reducible refine w_gName ?_
      with_reducible show tSeq (tTryA _ _ _ _ _ _) _ _ _ _
      refine w_seqP (fun σ H => ∃ (G8 : Hp) (y9 : Option V), J (del M6 L) G8 H ∧ Ex G7 G8 ∧ σ = [some (.ref a), some (.ref p), some (.int i), some (.ref t), some (.ref L), y5, some (.ref a2), some (.bl (!dealB js)), some .non, y9, x9]) ?_ fun rest2 => ?_
      · rintro σ H ⟨G8, y9, j8, e8, rfl⟩
        walk_at "go"
        refine w_nT rfl ?_
        walk_at "go"
        refine w_sg (a2, js2) j8 ⟨rfl, hd2.ex e8⟩ fun v M9 G9 H9 j9 e9 ⟨ev, em⟩ => ?_
        subst ev em
        dsimp only
        rw [dealB_same hm]
        refine w_eqV rfl (k := false) (by cases dealB js <;> rfl) ?_
        walk_at "go"
        have E9 := e8.trans e9
        have q1 : Dp K G9 (.ref L) (.list ((js.map fun (i : Itm) => (i.tp, i.vs)).map fun p => itD p.1 p.2)) := .lst (sl_mono E9 hda7.1) (dp_itms (hda7.ex E9).2.1)
        have q2 : Dp K G9 (.ref a2) (.list ((js.map fun (i : Itm) => (i.tp, i.vs)).map fun p => itD p.1 p.2)) := .lst (sl_mono E9 hd2.1) (by rw [← hm]; exact dp_itms (hd2.ex E9).2.1)
        refine use_eq j9 q1 q2 (okD_itms (fun i h => (hda7.2.1 i h).2.2) (by omega)) fun G10 H10 j10 e10 => ?_
        walk_at "go"
        exact ⟨_, G10, _, _, _, _, _, _, _, _, _, j10, (dS7.ex E9).ex e10, rfl⟩
      · walk_at "go"
        refine w_sx (L, js) j7 ⟨rfl, hda7⟩ (fun v M8 G8 H8 j8 e8 ⟨ev, em, hb⟩ => ?_) (fun C M8 G8 H8 j8 e8 ⟨ec, em, hb⟩ => ?_)
        · subst ev em
          with_reducible refine w_gName ?_
          exact rest2 _ _ ⟨G8, _, j8, e8, by dsimp only at hb; rw [hb]; rfl⟩
        · subst ec em
          refine w_caught x_BadDeal.exm fun ea hea => ⟨⟨rfl, rfl⟩, ?_⟩
          walk_at "go"
          refine w_isE i_no ?_
          refine w_bl ?_
          refine w_gName ?_
          exact rest2 _ _ ⟨G8, _, j8, e8, by dsimp only at hb; rw [hb]; rfl⟩
    · have skip : ∀ {M H : Hp} {G : Hp} {σ : L2.St}, J M G H → Ex G5 G → Dr K M G p → M L = some (.lst (is.map fun i => V.ref i.t)) → σ = [some (.ref a), some (.ref p), some (.int i), some (.ref t), some (.ref L), x4, x5, x6, x7, x8, x9] → ∃ (js : List Itm) (M : Hp) (G : Hp) (y5 : Option V), J M G H ∧ Dr K M G p ∧ M L = some (.lst (js.map fun i => V.ref i.t)) ∧ (∀ i ∈ js, ItmAt K G i) ∧ js.length ≤ 7 ∧ σ = [some (.ref a), some (.ref p), some (.int i), some (.ref t), some (.ref L), y5, x5, x6, x7, x8, x9] := fun j e d m eσ =>
        ⟨is, _, _, _, j, d, m, fun i h => (his i h).1.ex e, by omega, eσ⟩
      walk_at "go"
      refine w_lenM j5 hL ?_
      walk_at "go"
      rw [List.length_map]
      refine w_dec (fun h1 => ?_) (fun h1 => ?_)
      · walk_at "go"
        refine use_draw j5 d5 fun m M6 G6 H6 m0 m1 j6 e6 d6 a6 => ?_
        have hL6 := a6.at hL nL
        walk_at "go"
        refine w_dec (fun h2 => ?_) (fun h2 => ?_)
        · walk_at "go"
          refine use_draw j6 d6 fun m2 M7 G7 H7 m20 m21 j7 e7 d7 a7 => ?_
          have hL7 := a7.at hL6 nL
          walk_at "go"
          refine w_lenM j7 hL7 ?_
          walk_at "go"
          rw [List.length_map]
          have hpos : (0 : Int) < is.length := h1
          refine w_I hpos ?_
          have r0 := Int.emod_nonneg m2 (b := (is.length : Int)) (by omega)
          have r1 := Int.emod_lt_of_pos m2 hpos
          generalize m2 % (is.length : Int) = at_ at r0 r1 ⊢
          obtain ⟨n2, rfl⟩ := Int.eq_ofNat_of_zero_le r0
          have hn2 : n2 < is.length := by omega
          have hit := his _ (List.getElem_mem hn2)
          walk_at "go"
          refine w_ixM j7 hL7 (atI_nat (j := n2) (v := V.ref is[n2].t) (by rw [List.getElem?_map, List.getElem?_eq_getElem hn2]; rfl)) ?_
          walk_at "go"
          refine w_sg (p, is[n2]) j7 ⟨rfl, d7, (hit.1.ex e6).ex e7, hit.2⟩ fun v M8 G8 H8 j8 e8 ⟨⟨i8, ev, o8⟩, d8, a8⟩ => ?_
          subst ev
          have hL8 := a8.at hL7 nL
          walk_at "go"
          refine w_setM j8 hL8 (ix_at (j := n2) (by rw [List.length_map]; exact hn2)) fun H9 j9 => ?_
          refine rest _ _ ⟨is.set n2 i8, _, G8, _, j9, d8.upd nL, by rw [upd_same, List.map_set], fun x hx => ?_, by rw [List.length_set]; omega, rfl⟩
          rcases List.mem_or_eq_of_mem_set hx with hx | rfl
          · exact (((his x hx).1.ex e6).ex e7).ex e8
          · exact o8
        · exact rest _ _ (skip j6 e6 d6 hL6 rfl)
      · exact rest _ _ (skip j5 (Same.refl _) d5 hL rfl)
  · rintro σ H ⟨M, G, x1, x2, x3, x4, x5, x6, x7, x8, x9, j, d, rfl⟩
    walk_at "go"
    exact k H
/-! ### the end -/
set_option maxHeartbeats 16000000 in
theorem all_mk {l : PySem.W.OpenLaw} {w : World} {K : PySem.W.Frag} {h : Heap} {mg : Str → Option Value} {fa : Addr} (X : K.In h) (G : h.Ns mainGlobals mg) (hfa : mg "law" = some (.ref fa))
    {f0 : Addr} {od0 an0 : Option Addr} {sl0 : Array (Option Value)} {oc0 kV0 dc0 pm0 cd0 ct0 : Value}
    {f1 : Addr} {od1 an1 : Option Addr} {sl1 : Array (Option Value)} {oc1 kV1 dc1 pm1 cd1 ct1 : Value}
    {f2 : Addr} {od2 an2 : Option Addr} {sl2 : Array (Option Value)} {oc2 kV2 dc2 pm2 cd2 ct2 : Value}
    {f3 : Addr} {od3 an3 : Option Addr} {sl3 : Array (Option Value)} {oc3 kV3 dc3 pm3 cd3 ct3 : Value}
    {f4 : Addr} {od4 an4 : Option Addr} {sl4 : Array (Option Value)} {oc4 kV4 dc4 pm4 cd4 ct4 : Value}
    {f5 : Addr} {od5 an5 : Option Addr} {sl5 : Array (Option Value)} {oc5 kV5 dc5 pm5 cd5 ct5 : Value}
    {f6 : Addr} {od6 an6 : Option Addr} {sl6 : Array (Option Value)} {oc6 kV6 dc6 pm6 cd6 ct6 : Value}
    {f7 : Addr} {od7 an7 : Option Addr} {sl7 : Array (Option Value)} {oc7 kV7 dc7 pm7 cd7 ct7 : Value}
    {f8 : Addr} {od8 an8 : Option Addr} {sl8 : Array (Option Value)} {oc8 kV8 dc8 pm8 cd8 ct8 : Value}
    {f9 : Addr} {od9 an9 : Option Addr} {sl9 : Array (Option Value)} {oc9 kV9 dc9 pm9 cd9 ct9 : Value}
    {f10 : Addr} {od10 an10 : Option Addr} {sl10 : Array (Option Value)} {oc10 kV10 dc10 pm10 cd10 ct10 : Value}
    {f11 : Addr} {od11 an11 : Option Addr} {sl11 : Array (Option Value)} {oc11 kV11 dc11 pm11 cd11 ct11 : Value}
    {f12 : Addr} {od12 an12 : Option Addr} {sl12 : Array (Option Value)} {oc12 kV12 dc12 pm12 cd12 ct12 : Value}
    {f13 : Addr} {od13 an13 : Option Addr} {sl13 : Array (Option Value)} {oc13 kV13 dc13 pm13 cd13 ct13 : Value}
    {f14 : Addr} {od14 an14 : Option Addr} {sl14 : Array (Option Value)} {oc14 kV14 dc14 pm14 cd14 ct14 : Value}
    {f15 : Addr} {od15 an15 : Option Addr} {sl15 : Array (Option Value)} {oc15 kV15 dc15 pm15 cd15 ct15 : Value}
    {f16 : Addr} {od16 an16 : Option Addr} {sl16 : Array (Option Value)} {oc16 kV16 dc16 pm16 cd16 ct16 : Value}
    {f17 : Addr} {od17 an17 : Option Addr} {sl17 : Array (Option Value)} {oc17 kV17 dc17 pm17 cd17 ct17 : Value}
    {f18 : Addr} {od18 an18 : Option Addr} {sl18 : Array (Option Value)} {oc18 kV18 dc18 pm18 cd18 ct18 : Value}
    {f19 : Addr} {od19 an19 : Option Addr} {sl19 : Array (Option Value)} {oc19 kV19 dc19 pm19 cd19 ct19 : Value}
    {f20 : Addr} {od20 an20 : Option Addr} {sl20 : Array (Option Value)} {oc20 kV20 dc20 pm20 cd20 ct20 : Value}
    {f21 : Addr} {od21 an21 : Option Addr} {sl21 : Array (Option Value)} {oc21 kV21 dc21 pm21 cd21 ct21 : Value}
    {f22 : Addr} {od22 an22 : Option Addr} {sl22 : Array (Option Value)} {oc22 kV22 dc22 pm22 cd22 ct22 : Value}
    {A_BadDeal : Addr}
    {A_BadRecord : Addr}
    {t1 : Tok}
    {t2 : Tok}
    {t3 : Tok}
    (a0 : PySem.W.nsIn K mainGlobals "_law_mixed" = some (some (.ref f0)))
    (l0 : K.lookup f0 = some ⟨oc0, od0, .func (PySem.W.fnOf "_law_mixed" "_law_mixed" (defArgs s_law_mixed) (defBody s_law_mixed) (defScope s_law_mixed) .none kV0 dc0 pm0 an0 cd0 ct0), sl0⟩)
    (c0 : PySem.W.codeIn K cd0 "_law_mixed" = true) (k0 : PySem.W.keepIn K (.ref f0) = true)
    (a1 : PySem.W.nsIn K mainGlobals "_law_numbers" = some (some (.ref f1)))
    (l1 : K.lookup f1 = some ⟨oc1, od1, .func (PySem.W.fnOf "_law_numbers" "_law_numbers" (defArgs s_law_numbers) (defBody s_law_numbers) (defScope s_law_numbers) .none kV1 dc1 pm1 an1 cd1 ct1), sl1⟩)
    (c1 : PySem.W.codeIn K cd1 "_law_numbers" = true) (k1 : PySem.W.keepIn K (.ref f1) = true)
    (a2 : PySem.W.nsIn K mainGlobals "_law_draw" = some (some (.ref f2)))
    (l2 : K.lookup f2 = some ⟨oc2, od2, .func (PySem.W.fnOf "_law_draw" "_law_draw" (defArgs s_law_draw) (defBody s_law_draw) (defScope s_law_draw) .none kV2 dc2 pm2 an2 cd2 ct2), sl2⟩)
    (c2 : PySem.W.codeIn K cd2 "_law_draw" = true) (k2 : PySem.W.keepIn K (.ref f2) = true)
    (a3 : PySem.W.nsIn K mainGlobals "_law_keys" = some (some (.ref f3)))
    (l3 : K.lookup f3 = some ⟨oc3, od3, .func (PySem.W.fnOf "_law_keys" "_law_keys" (defArgs s_law_keys) (defBody s_law_keys) (defScope s_law_keys) .none kV3 dc3 pm3 an3 cd3 ct3), sl3⟩)
    (c3 : PySem.W.codeIn K cd3 "_law_keys" = true) (k3 : PySem.W.keepIn K (.ref f3) = true)
    (a4 : PySem.W.nsIn K mainGlobals "_law_copy" = some (some (.ref f4)))
    (l4 : K.lookup f4 = some ⟨oc4, od4, .func (PySem.W.fnOf "_law_copy" "_law_copy" (defArgs s_law_copy) (defBody s_law_copy) (defScope s_law_copy) .none kV4 dc4 pm4 an4 cd4 ct4), sl4⟩)
    (c4 : PySem.W.codeIn K cd4 "_law_copy" = true) (k4 : PySem.W.keepIn K (.ref f4) = true)
    (a5 : PySem.W.nsIn K mainGlobals "_law_key" = some (some (.ref f5)))
    (l5 : K.lookup f5 = some ⟨oc5, od5, .func (PySem.W.fnOf "_law_key" "_law_key" (defArgs s_law_key) (defBody s_law_key) (defScope s_law_key) .none kV5 dc5 pm5 an5 cd5 ct5), sl5⟩)
    (c5 : PySem.W.codeIn K cd5 "_law_key" = true) (k5 : PySem.W.keepIn K (.ref f5) = true)
    (a6 : PySem.W.nsIn K mainGlobals "_law_value" = some (some (.ref f6)))
    (l6 : K.lookup f6 = some ⟨oc6, od6, .func (PySem.W.fnOf "_law_value" "_law_value" (defArgs s_law_value) (defBody s_law_value) (defScope s_law_value) .none kV6 dc6 pm6 an6 cd6 ct6), sl6⟩)
    (c6 : PySem.W.codeIn K cd6 "_law_value" = true) (k6 : PySem.W.keepIn K (.ref f6) = true)
    (a7 : PySem.W.nsIn K mainGlobals "_law_worth" = some (some (.ref f7)))
    (l7 : K.lookup f7 = some ⟨oc7, od7, .func (PySem.W.fnOf "_law_worth" "_law_worth" (defArgs s_law_worth) (defBody s_law_worth) (defScope s_law_worth) .none kV7 dc7 pm7 an7 cd7 ct7), sl7⟩)
    (c7 : PySem.W.codeIn K cd7 "_law_worth" = true) (k7 : PySem.W.keepIn K (.ref f7) = true)
    (a8 : PySem.W.nsIn K mainGlobals "_law_op" = some (some (.ref f8)))
    (l8 : K.lookup f8 = some ⟨oc8, od8, .func (PySem.W.fnOf "_law_op" "_law_op" (defArgs s_law_op) (defBody s_law_op) (defScope s_law_op) .none kV8 dc8 pm8 an8 cd8 ct8), sl8⟩)
    (c8 : PySem.W.codeIn K cd8 "_law_op" = true) (k8 : PySem.W.keepIn K (.ref f8) = true)
    (a9 : PySem.W.nsIn K mainGlobals "_law_bad" = some (some (.ref f9)))
    (l9 : K.lookup f9 = some ⟨oc9, od9, .func (PySem.W.fnOf "_law_bad" "_law_bad" (defArgs s_law_bad) (defBody s_law_bad) (defScope s_law_bad) .none kV9 dc9 pm9 an9 cd9 ct9), sl9⟩)
    (c9 : PySem.W.codeIn K cd9 "_law_bad" = true) (k9 : PySem.W.keepIn K (.ref f9) = true)
    (a10 : PySem.W.nsIn K mainGlobals "_law_spoilt" = some (some (.ref f10)))
    (l10 : K.lookup f10 = some ⟨oc10, od10, .func (PySem.W.fnOf "_law_spoilt" "_law_spoilt" (defArgs s_law_spoilt) (defBody s_law_spoilt) (defScope s_law_spoilt) .none kV10 dc10 pm10 an10 cd10 ct10), sl10⟩)
    (c10 : PySem.W.codeIn K cd10 "_law_spoilt" = true) (k10 : PySem.W.keepIn K (.ref f10) = true)
    (a11 : PySem.W.nsIn K mainGlobals "is_plain_integer" = some (some (.ref f11)))
    (l11 : K.lookup f11 = some ⟨oc11, od11, .func (PySem.W.fnOf "is_plain_integer" "is_plain_integer" (defArgs s_is_plain_integer) (defBody s_is_plain_integer) (defScope s_is_plain_integer) .none kV11 dc11 pm11 an11 cd11 ct11), sl11⟩)
    (c11 : PySem.W.codeIn K cd11 "is_plain_integer" = true) (k11 : PySem.W.keepIn K (.ref f11) = true)
    (a12 : PySem.W.nsIn K mainGlobals "is_scan" = some (some (.ref f12)))
    (l12 : K.lookup f12 = some ⟨oc12, od12, .func (PySem.W.fnOf "is_scan" "is_scan" (defArgs s_is_scan) (defBody s_is_scan) (defScope s_is_scan) .none kV12 dc12 pm12 an12 cd12 ct12), sl12⟩)
    (c12 : PySem.W.codeIn K cd12 "is_scan" = true) (k12 : PySem.W.keepIn K (.ref f12) = true)
    (a13 : PySem.W.nsIn K mainGlobals "is_key" = some (some (.ref f13)))
    (l13 : K.lookup f13 = some ⟨oc13, od13, .func (PySem.W.fnOf "is_key" "is_key" (defArgs s_is_key) (defBody s_is_key) (defScope s_is_key) .none kV13 dc13 pm13 an13 cd13 ct13), sl13⟩)
    (c13 : PySem.W.codeIn K cd13 "is_key" = true) (k13 : PySem.W.keepIn K (.ref f13) = true)
    (a14 : PySem.W.nsIn K mainGlobals "is_value" = some (some (.ref f14)))
    (l14 : K.lookup f14 = some ⟨oc14, od14, .func (PySem.W.fnOf "is_value" "is_value" (defArgs s_is_value) (defBody s_is_value) (defScope s_is_value) .none kV14 dc14 pm14 an14 cd14 ct14), sl14⟩)
    (c14 : PySem.W.codeIn K cd14 "is_value" = true) (k14 : PySem.W.keepIn K (.ref f14) = true)
    (a15 : PySem.W.nsIn K mainGlobals "is_operation" = some (some (.ref f15)))
    (l15 : K.lookup f15 = some ⟨oc15, od15, .func (PySem.W.fnOf "is_operation" "is_operation" (defArgs s_is_operation) (defBody s_is_operation) (defScope s_is_operation) .none kV15 dc15 pm15 an15 cd15 ct15), sl15⟩)
    (c15 : PySem.W.codeIn K cd15 "is_operation" = true) (k15 : PySem.W.keepIn K (.ref f15) = true)
    (a16 : PySem.W.nsIn K mainGlobals "check_deal" = some (some (.ref f16)))
    (l16 : K.lookup f16 = some ⟨oc16, od16, .func (PySem.W.fnOf "check_deal" "check_deal" (defArgs s_check_deal) (defBody s_check_deal) (defScope s_check_deal) .none kV16 dc16 pm16 an16 cd16 ct16), sl16⟩)
    (c16 : PySem.W.codeIn K cd16 "check_deal" = true) (k16 : PySem.W.keepIn K (.ref f16) = true)
    (a17 : PySem.W.nsIn K mainGlobals "_law_is_integer" = some (some (.ref f17)))
    (l17 : K.lookup f17 = some ⟨oc17, od17, .func (PySem.W.fnOf "_law_is_integer" "_law_is_integer" (defArgs s_law_is_integer) (defBody s_law_is_integer) (defScope s_law_is_integer) .none kV17 dc17 pm17 an17 cd17 ct17), sl17⟩)
    (c17 : PySem.W.codeIn K cd17 "_law_is_integer" = true) (k17 : PySem.W.keepIn K (.ref f17) = true)
    (a18 : PySem.W.nsIn K mainGlobals "_law_is_op" = some (some (.ref f18)))
    (l18 : K.lookup f18 = some ⟨oc18, od18, .func (PySem.W.fnOf "_law_is_op" "_law_is_op" (defArgs s_law_is_op) (defBody s_law_is_op) (defScope s_law_is_op) .none kV18 dc18 pm18 an18 cd18 ct18), sl18⟩)
    (c18 : PySem.W.codeIn K cd18 "_law_is_op" = true) (k18 : PySem.W.keepIn K (.ref f18) = true)
    (a19 : PySem.W.nsIn K mainGlobals "_law_is_deal" = some (some (.ref f19)))
    (l19 : K.lookup f19 = some ⟨oc19, od19, .func (PySem.W.fnOf "_law_is_deal" "_law_is_deal" (defArgs s_law_is_deal) (defBody s_law_is_deal) (defScope s_law_is_deal) .none kV19 dc19 pm19 an19 cd19 ct19), sl19⟩)
    (c19 : PySem.W.codeIn K cd19 "_law_is_deal" = true) (k19 : PySem.W.keepIn K (.ref f19) = true)
    (a20 : PySem.W.nsIn K mainGlobals "_law_all_equal" = some (some (.ref f20)))
    (l20 : K.lookup f20 = some ⟨oc20, od20, .func (PySem.W.fnOf "_law_all_equal" "_law_all_equal" (defArgs s_law_all_equal) (defBody s_law_all_equal) (defScope s_law_all_equal) .none kV20 dc20 pm20 an20 cd20 ct20), sl20⟩)
    (c20 : PySem.W.codeIn K cd20 "_law_all_equal" = true) (k20 : PySem.W.keepIn K (.ref f20) = true)
    (a21 : PySem.W.nsIn K mainGlobals "_law_equal" = some (some (.ref f21)))
    (l21 : K.lookup f21 = some ⟨oc21, od21, .func (PySem.W.fnOf "_law_equal" "_law_equal" (defArgs s_law_equal) (defBody s_law_equal) (defScope s_law_equal) .none kV21 dc21 pm21 an21 cd21 ct21), sl21⟩)
    (c21 : PySem.W.codeIn K cd21 "_law_equal" = true) (k21 : PySem.W.keepIn K (.ref f21) = true)
    (a22 : PySem.W.nsIn K mainGlobals "law" = some (some (.ref f22)))
    (l22 : K.lookup f22 = some ⟨oc22, od22, .func (PySem.W.fnOf "law" "law" (defArgs s_law) (defBody s_law) (defScope s_law) .none kV22 dc22 pm22 an22 cd22 ct22), sl22⟩)
    (c22 : PySem.W.codeIn K cd22 "law" = true) (k22 : PySem.W.keepIn K (.ref f22) = true)
    (z_range : PySem.W.nsIn K mainGlobals "range" = some none)
    (z_len : PySem.W.nsIn K mainGlobals "len" = some none)
    (z_isinstance : PySem.W.nsIn K mainGlobals "isinstance" = some none)
    (z_list : PySem.W.nsIn K mainGlobals "list" = some none)
    (z_max : PySem.W.nsIn K mainGlobals "max" = some none)
    (z_min : PySem.W.nsIn K mainGlobals "min" = some none)
    (z_bool : PySem.W.nsIn K mainGlobals "bool" = some none)
    (z_int : PySem.W.nsIn K mainGlobals "int" = some none)
    (z_str : PySem.W.nsIn K mainGlobals "str" = some none)
    (z_tuple : PySem.W.nsIn K mainGlobals "tuple" = some none)
    (aX_BadDeal : PySem.W.nsIn K mainGlobals "BadDeal" = some (some (.ref A_BadDeal)))
    (xP_BadDeal : PySem.W.excIn K A_BadDeal [.type "ValueError", .type "Exception", .type "BaseException", .type "object"] "ValueError.__new__" = true)
    (kP_BadDeal : PySem.W.keepIn K (.ref A_BadDeal) = true)
    (bP_BadDeal : PySem.W.subIn K (.ref A_BadDeal) (.type "BaseException") = some true)
    (tP_BadDeal : PySem.W.typeIn K (.ref A_BadDeal) = some (.type "type"))
    (hD_BadDeal : PySem.W.hasDictIn K A_BadDeal = true)
    (sP_BadDeal : PySem.W.subIn K (.ref A_BadDeal) (.ref A_BadDeal) = some true)
    (hg_BadDeal : PySem.W.findIn K (.ref A_BadDeal) "__getattribute__" = some (some (.builtin "BaseException.__getattribute__")))
    (hk_BadDeal : PySem.W.findIn K (.ref A_BadDeal) "__getattr__" = some none)
    (ha_BadDeal : PySem.W.findIn K (.ref A_BadDeal) "__class__" = some (some (.builtin "object.__class__")))
    (hn_BadDeal : PySem.W.specialIn K (.builtin "object.__class__") "__get__" = some (some (.builtin "getset_descriptor.__get__")))
    (ht_BadDeal : PySem.W.takesIn K (.builtin "object.__class__") = some true)
    (hm_BadDeal : PySem.W.mroIn K A_BadDeal (.type "object") = some true)
    (aX_BadRecord : PySem.W.nsIn K mainGlobals "BadRecord" = some (some (.ref A_BadRecord)))
    (xP_BadRecord : PySem.W.excIn K A_BadRecord [.type "ValueError", .type "Exception", .type "BaseException", .type "object"] "ValueError.__new__" = true)
    (kP_BadRecord : PySem.W.keepIn K (.ref A_BadRecord) = true)
    (bP_BadRecord : PySem.W.subIn K (.ref A_BadRecord) (.type "BaseException") = some true)
    (tP_BadRecord : PySem.W.typeIn K (.ref A_BadRecord) = some (.type "type"))
    (hD_BadRecord : PySem.W.hasDictIn K A_BadRecord = true)
    (sP_BadRecord : PySem.W.subIn K (.ref A_BadRecord) (.ref A_BadRecord) = some true)
    (hg_BadRecord : PySem.W.findIn K (.ref A_BadRecord) "__getattribute__" = some (some (.builtin "BaseException.__getattribute__")))
    (hk_BadRecord : PySem.W.findIn K (.ref A_BadRecord) "__getattr__" = some none)
    (ha_BadRecord : PySem.W.findIn K (.ref A_BadRecord) "__class__" = some (some (.builtin "object.__class__")))
    (hn_BadRecord : PySem.W.specialIn K (.builtin "object.__class__") "__get__" = some (some (.builtin "getset_descriptor.__get__")))
    (ht_BadRecord : PySem.W.takesIn K (.builtin "object.__class__") = some true)
    (hm_BadRecord : PySem.W.mroIn K A_BadRecord (.type "object") = some true)
    (ki_BadDeal_BadRecord : PySem.W.kitOne K (.ref A_BadDeal) (.ref A_BadRecord) = some false)
    (q_KEYS : PySem.W.nsIn K mainGlobals "KEYS" = some (some (.int 1000 t1)))
    (q_LIMIT : PySem.W.nsIn K mainGlobals "LIMIT" = some (some (.int 1000000000000000000 t2)))
    (q_MOST_OPERATIONS : PySem.W.nsIn K mainGlobals "MOST_OPERATIONS" = some (some (.int 6 t3))) :
    ∃ fd : FuncData, (∀ (s : Shared) (v : Value), BindsTo s fd ⟨[v], []⟩ [("script", v)]) ∧ ∀ base : Heap, K.In base → base.Ns mainGlobals mg → FnOk l.prog w K mg base CX0 9 fa fd ["script"] (sp_law K) := by
  have e := hfa.symm.trans (PySem.W.mg_of X G a22)
  cases e
  have F0 := fun_mk (st := s_law_mixed) l0 c0 k0
  have B0 := F0.binds (ps := ["number", "k"]) fun _ _ _ _ _ _ us hl => match us, hl with | [_, _], _ => rfl
  have D_law_mixed : Dn K mg "_law_mixed" s_law_mixed ["number", "k"] f0 _ := ⟨F0, PySem.W.mg_of X G a0, k0, B0⟩
  have F1 := fun_mk (st := s_law_numbers) l1 c1 k1
  have B1 := F1.binds (ps := ["script"]) fun _ _ _ _ _ _ us hl => match us, hl with | [_], _ => rfl
  have D_law_numbers : Dn K mg "_law_numbers" s_law_numbers ["script"] f1 _ := ⟨F1, PySem.W.mg_of X G a1, k1, B1⟩
  have F2 := fun_mk (st := s_law_draw) l2 c2 k2
  have B2 := F2.binds (ps := ["draws"]) fun _ _ _ _ _ _ us hl => match us, hl with | [_], _ => rfl
  have D_law_draw : Dn K mg "_law_draw" s_law_draw ["draws"] f2 _ := ⟨F2, PySem.W.mg_of X G a2, k2, B2⟩
  have F3 := fun_mk (st := s_law_keys) l3 c3 k3
  have B3 := F3.binds (ps := ["draws"]) fun _ _ _ _ _ _ us hl => match us, hl with | [_], _ => rfl
  have D_law_keys : Dn K mg "_law_keys" s_law_keys ["draws"] f3 _ := ⟨F3, PySem.W.mg_of X G a3, k3, B3⟩
  have F4 := fun_mk (st := s_law_copy) l4 c4 k4
  have B4 := F4.binds (ps := ["ops"]) fun _ _ _ _ _ _ us hl => match us, hl with | [_], _ => rfl
  have D_law_copy : Dn K mg "_law_copy" s_law_copy ["ops"] f4 _ := ⟨F4, PySem.W.mg_of X G a4, k4, B4⟩
  have F5 := fun_mk (st := s_law_key) l5 c5 k5
  have B5 := F5.binds (ps := ["draws", "keys"]) fun _ _ _ _ _ _ us hl => match us, hl with | [_, _], _ => rfl
  have D_law_key : Dn K mg "_law_key" s_law_key ["draws", "keys"] f5 _ := ⟨F5, PySem.W.mg_of X G a5, k5, B5⟩
  have F6 := fun_mk (st := s_law_value) l6 c6 k6
  have B6 := F6.binds (ps := ["draws"]) fun _ _ _ _ _ _ us hl => match us, hl with | [_], _ => rfl
  have D_law_value : Dn K mg "_law_value" s_law_value ["draws"] f6 _ := ⟨F6, PySem.W.mg_of X G a6, k6, B6⟩
  have F7 := fun_mk (st := s_law_worth) l7 c7 k7
  have B7 := F7.binds (ps := ["draws"]) fun _ _ _ _ _ _ us hl => match us, hl with | [_], _ => rfl
  have D_law_worth : Dn K mg "_law_worth" s_law_worth ["draws"] f7 _ := ⟨F7, PySem.W.mg_of X G a7, k7, B7⟩
  have F8 := fun_mk (st := s_law_op) l8 c8 k8
  have B8 := F8.binds (ps := ["draws", "keys"]) fun _ _ _ _ _ _ us hl => match us, hl with | [_, _], _ => rfl
  have D_law_op : Dn K mg "_law_op" s_law_op ["draws", "keys"] f8 _ := ⟨F8, PySem.W.mg_of X G a8, k8, B8⟩
  have F9 := fun_mk (st := s_law_bad) l9 c9 k9
  have B9 := F9.binds (ps := ["draws"]) fun _ _ _ _ _ _ us hl => match us, hl with | [_], _ => rfl
  have D_law_bad : Dn K mg "_law_bad" s_law_bad ["draws"] f9 _ := ⟨F9, PySem.W.mg_of X G a9, k9, B9⟩
  have F10 := fun_mk (st := s_law_spoilt) l10 c10 k10
  have B10 := F10.binds (ps := ["draws", "op"]) fun _ _ _ _ _ _ us hl => match us, hl with | [_, _], _ => rfl
  have D_law_spoilt : Dn K mg "_law_spoilt" s_law_spoilt ["draws", "op"] f10 _ := ⟨F10, PySem.W.mg_of X G a10, k10, B10⟩
  have F11 := fun_mk (st := s_is_plain_integer) l11 c11 k11
  have B11 := F11.binds (ps := ["thing"]) fun _ _ _ _ _ _ us hl => match us, hl with | [_], _ => rfl
  have D_is_plain_integer : Dn K mg "is_plain_integer" s_is_plain_integer ["thing"] f11 _ := ⟨F11, PySem.W.mg_of X G a11, k11, B11⟩
  have F12 := fun_mk (st := s_is_scan) l12 c12 k12
  have B12 := F12.binds (ps := ["low", "high"]) fun _ _ _ _ _ _ us hl => match us, hl with | [_, _], _ => rfl
  have D_is_scan : Dn K mg "is_scan" s_is_scan ["low", "high"] f12 _ := ⟨F12, PySem.W.mg_of X G a12, k12, B12⟩
  have F13 := fun_mk (st := s_is_key) l13 c13 k13
  have B13 := F13.binds (ps := ["thing"]) fun _ _ _ _ _ _ us hl => match us, hl with | [_], _ => rfl
  have D_is_key : Dn K mg "is_key" s_is_key ["thing"] f13 _ := ⟨F13, PySem.W.mg_of X G a13, k13, B13⟩
  have F14 := fun_mk (st := s_is_value) l14 c14 k14
  have B14 := F14.binds (ps := ["thing"]) fun _ _ _ _ _ _ us hl => match us, hl with | [_], _ => rfl
  have D_is_value : Dn K mg "is_value" s_is_value ["thing"] f14 _ := ⟨F14, PySem.W.mg_of X G a14, k14, B14⟩
  have F15 := fun_mk (st := s_is_operation) l15 c15 k15
  have B15 := F15.binds (ps := ["thing"]) fun _ _ _ _ _ _ us hl => match us, hl with | [_], _ => rfl
  have D_is_operation : Dn K mg "is_operation" s_is_operation ["thing"] f15 _ := ⟨F15, PySem.W.mg_of X G a15, k15, B15⟩
  have F16 := fun_mk (st := s_check_deal) l16 c16 k16
  have B16 := F16.binds (ps := ["ops"]) fun _ _ _ _ _ _ us hl => match us, hl with | [_], _ => rfl
  have D_check_deal : Dn K mg "check_deal" s_check_deal ["ops"] f16 _ := ⟨F16, PySem.W.mg_of X G a16, k16, B16⟩
  have F17 := fun_mk (st := s_law_is_integer) l17 c17 k17
  have B17 := F17.binds (ps := ["number", "low", "high"]) fun _ _ _ _ _ _ us hl => match us, hl with | [_, _, _], _ => rfl
  have D_law_is_integer : Dn K mg "_law_is_integer" s_law_is_integer ["number", "low", "high"] f17 _ := ⟨F17, PySem.W.mg_of X G a17, k17, B17⟩
  have F18 := fun_mk (st := s_law_is_op) l18 c18 k18
  have B18 := F18.binds (ps := ["op"]) fun _ _ _ _ _ _ us hl => match us, hl with | [_], _ => rfl
  have D_law_is_op : Dn K mg "_law_is_op" s_law_is_op ["op"] f18 _ := ⟨F18, PySem.W.mg_of X G a18, k18, B18⟩
  have F19 := fun_mk (st := s_law_is_deal) l19 c19 k19
  have B19 := F19.binds (ps := ["ops"]) fun _ _ _ _ _ _ us hl => match us, hl with | [_], _ => rfl
  have D_law_is_deal : Dn K mg "_law_is_deal" s_law_is_deal ["ops"] f19 _ := ⟨F19, PySem.W.mg_of X G a19, k19, B19⟩
  have F20 := fun_mk (st := s_law_all_equal) l20 c20 k20
  have B20 := F20.binds (ps := ["actual", "due"]) fun _ _ _ _ _ _ us hl => match us, hl with | [_, _], _ => rfl
  have D_law_all_equal : Dn K mg "_law_all_equal" s_law_all_equal ["actual", "due"] f20 _ := ⟨F20, PySem.W.mg_of X G a20, k20, B20⟩
  have F21 := fun_mk (st := s_law_equal) l21 c21 k21
  have B21 := F21.binds (ps := ["actual", "due"]) fun _ _ _ _ _ _ us hl => match us, hl with | [_, _], _ => rfl
  have D_law_equal : Dn K mg "_law_equal" s_law_equal ["actual", "due"] f21 _ := ⟨F21, PySem.W.mg_of X G a21, k21, B21⟩
  have F22 := fun_mk (st := s_law) l22 c22 k22
  have B22 := F22.binds (ps := ["script"]) fun _ _ _ _ _ _ us hl => match us, hl with | [_], _ => rfl
  have D_law : Dn K mg "law" s_law ["script"] fa _ := ⟨F22, PySem.W.mg_of X G a22, k22, B22⟩
  have b_range := PySem.W.mg_none_of X G z_range
  have b_len := PySem.W.mg_none_of X G z_len
  have b_isinstance := PySem.W.mg_none_of X G z_isinstance
  have b_list := PySem.W.mg_none_of X G z_list
  have b_max := PySem.W.mg_none_of X G z_max
  have b_min := PySem.W.mg_none_of X G z_min
  have b_bool := PySem.W.mg_none_of X G z_bool
  have b_int := PySem.W.mg_none_of X G z_int
  have b_str := PySem.W.mg_none_of X G z_str
  have b_tuple := PySem.W.mg_none_of X G z_tuple
  have x_BadDeal : Xc K mg "BadDeal" A_BadDeal := ⟨PySem.W.mg_of X G aX_BadDeal, xP_BadDeal, kP_BadDeal, bP_BadDeal, tP_BadDeal, hD_BadDeal, sP_BadDeal, hg_BadDeal, hk_BadDeal, ha_BadDeal, hn_BadDeal, ht_BadDeal, hm_BadDeal⟩
  have x_BadRecord : Xc K mg "BadRecord" A_BadRecord := ⟨PySem.W.mg_of X G aX_BadRecord, xP_BadRecord, kP_BadRecord, bP_BadRecord, tP_BadRecord, hD_BadRecord, sP_BadRecord, hg_BadRecord, hk_BadRecord, ha_BadRecord, hn_BadRecord, ht_BadRecord, hm_BadRecord⟩
  have g_KEYS : ∃ u, mg "KEYS" = some u ∧ RelV (.int 1000) u := ⟨_, PySem.W.mg_of X G q_KEYS, _, rfl⟩
  have g_LIMIT : ∃ u, mg "LIMIT" = some u ∧ RelV (.int 1000000000000000000) u := ⟨_, PySem.W.mg_of X G q_LIMIT, _, rfl⟩
  have g_MOST_OPERATIONS : ∃ u, mg "MOST_OPERATIONS" = some u ∧ RelV (.int 6) u := ⟨_, PySem.W.mg_of X G q_MOST_OPERATIONS, _, rfl⟩
  refine ⟨PySem.W.fnOf "law" "law" (defArgs s_law) (defBody s_law) (defScope s_law) .none kV22 dc22 pm22 an22 cd22 ct22, fun s v => .of_eq rfl, fun base hb1 hb2 => ?_⟩
  have c_law_mixed := ok_law_mixed (P := l.prog) (w := w) (base := base) D_law_mixed
  have c_law_numbers := ok_law_numbers (P := l.prog) (w := w) (base := base) D_law_numbers b_range c_law_mixed
  have c_law_draw := ok_law_draw (P := l.prog) (w := w) (base := base) D_law_draw b_len c_law_mixed
  have c_law_keys := ok_law_keys (P := l.prog) (w := w) (base := base) D_law_keys b_range c_law_draw
  have c_law_copy := ok_law_copy (P := l.prog) (w := w) (base := base) D_law_copy b_isinstance b_list
  have c_law_key := ok_law_key (P := l.prog) (w := w) (base := base) D_law_key b_len c_law_draw
  have c_law_value := ok_law_value (P := l.prog) (w := w) (base := base) D_law_value c_law_draw
  have c_law_worth := ok_law_worth (P := l.prog) (w := w) (base := base) D_law_worth c_law_value c_law_draw
  have c_law_op := ok_law_op (P := l.prog) (w := w) (base := base) D_law_op b_max b_min c_law_worth c_law_key c_law_draw c_law_value
  have c_law_bad := ok_law_bad (P := l.prog) (w := w) (base := base) D_law_bad c_law_draw
  have c_law_spoilt := ok_law_spoilt (P := l.prog) (w := w) (base := base) D_law_spoilt b_list b_len c_law_bad c_law_draw
  have c_is_plain_integer := ok_is_plain_integer (P := l.prog) (w := w) (base := base) D_is_plain_integer b_isinstance b_bool b_int
  have c_is_scan := ok_is_scan (P := l.prog) (w := w) (base := base) D_is_scan g_KEYS c_is_plain_integer
  have c_is_key := ok_is_key (P := l.prog) (w := w) (base := base) D_is_key g_KEYS c_is_plain_integer
  have c_is_value := ok_is_value (P := l.prog) (w := w) (base := base) D_is_value g_LIMIT c_is_plain_integer
  have c_is_operation := ok_is_operation (P := l.prog) (w := w) (base := base) D_is_operation b_len b_isinstance b_str b_tuple c_is_value c_is_key c_is_scan
  have c_check_deal := ok_check_deal (P := l.prog) (w := w) (base := base) D_check_deal b_len b_isinstance b_list g_MOST_OPERATIONS x_BadDeal c_is_operation
  have c_law_is_integer := ok_law_is_integer (P := l.prog) (w := w) (base := base) D_law_is_integer b_isinstance b_bool b_int
  have c_law_is_op := ok_law_is_op (P := l.prog) (w := w) (base := base) D_law_is_op b_len b_isinstance b_str b_tuple c_law_is_integer
  have c_law_is_deal := ok_law_is_deal (P := l.prog) (w := w) (base := base) D_law_is_deal b_len c_law_is_op
  have c_law_equal := fun n => ok_equal (P := l.prog) (w := w) (base := base) D_law_equal D_law_all_equal b_isinstance b_list b_tuple b_bool b_int b_str b_len b_range n
  exact ok_law D_law b_range b_len b_isinstance x_BadDeal x_BadRecord ki_BadDeal_BadRecord c_law_numbers c_law_keys c_law_draw c_law_op c_law_spoilt c_law_copy c_check_deal c_law_is_deal (c_law_equal 2)
theorem walk {l : PySem.W.OpenLaw} {q : Program} {loose : List Str} {XP : (Str → Option Value) → Heap → Prop} {YP : World → Heap → Prop} {d : DefRec} {K : Params → PySem.W.Frag} (hn : l.most = some 63) (hdf : d.params.defaults = [])
    (hY : ∀ (w : World) (h : Heap), YP w h → (K w.params).In h)
    (F : ∀ (w : World) (mg : Str → Option Value) (fa : Addr) (h : Heap), (K w.params).In h → h.Ns mainGlobals mg → mg d.name = some (.ref fa) →
      ∃ fd : FuncData, (∀ (s : Shared) (u : Value), BindsTo s fd ⟨[u], []⟩ [("script", u)]) ∧ ∀ base : Heap, (K w.params).In base → base.Ns mainGlobals mg → FnOk l.prog w (K w.params) mg base CX0 9 fa fd ["script"] (sp_law (K w.params))) :
    PySem.W.WalkO q loose XP YP l.row.toRowW d [] (fun f vs => PySem.call f vs) :=
  L2.walk_of (n := 63) (k := 9) (x := "script") (CX := fun _ => CX0) (sp := fun w => sp_law (K w.params)) hn (by decide) hdf ⟨rfl, by decide, by decide⟩ hY F (fun _ _ a ns hl _ hS => ⟨a, ns, rfl, hS, hl, fun _ => rfl⟩) fun _ _ _ _ _ z => z
end Nz
open PySem PySem.W PyProof.Rows
set_option maxRecDepth 100000 in
set_option maxHeartbeats 0 in
theorem PySem.Challenge.cw_wholecloth_k01_deals_are_checked_holds : PySem.Challenge.rw_wholecloth_k01_deals_are_checked.Holds := by
  w_on; o_law; k_head; (case hw => w_witness2)
  k_fill
  refine Nz.walk (l := PySem.Challenge.rw_wholecloth_k01_deals_are_checked) rfl rfl (fun w h Y => PySem.W.kIn_of Y) ?F
  case F =>
    intro w mg fa h KX G hmg
    refine' Nz.all_mk KX G hmg ?a0 ?l0 ?c0 ?k0 ?a1 ?l1 ?c1 ?k1 ?a2 ?l2 ?c2 ?k2 ?a3 ?l3 ?c3 ?k3 ?a4 ?l4 ?c4 ?k4 ?a5 ?l5 ?c5 ?k5 ?a6 ?l6 ?c6 ?k6 ?a7 ?l7 ?c7 ?k7 ?a8 ?l8 ?c8 ?k8 ?a9 ?l9 ?c9 ?k9 ?a10 ?l10 ?c10 ?k10 ?a11 ?l11 ?c11 ?k11 ?a12 ?l12 ?c12 ?k12 ?a13 ?l13 ?c13 ?k13 ?a14 ?l14 ?c14 ?k14 ?a15 ?l15 ?c15 ?k15 ?a16 ?l16 ?c16 ?k16 ?a17 ?l17 ?c17 ?k17 ?a18 ?l18 ?c18 ?k18 ?a19 ?l19 ?c19 ?k19 ?a20 ?l20 ?c20 ?k20 ?a21 ?l21 ?c21 ?k21 ?a22 ?l22 ?c22 ?k22 ?z_range ?z_len ?z_isinstance ?z_list ?z_max ?z_min ?z_bool ?z_int ?z_str ?z_tuple ?aX_BadDeal ?xP_BadDeal ?kP_BadDeal ?bP_BadDeal ?tP_BadDeal ?hD_BadDeal ?sP_BadDeal ?hg_BadDeal ?hk_BadDeal ?ha_BadDeal ?hn_BadDeal ?ht_BadDeal ?hm_BadDeal ?aX_BadRecord ?xP_BadRecord ?kP_BadRecord ?bP_BadRecord ?tP_BadRecord ?hD_BadRecord ?sP_BadRecord ?hg_BadRecord ?hk_BadRecord ?ha_BadRecord ?hn_BadRecord ?ht_BadRecord ?hm_BadRecord ?ki_BadDeal_BadRecord ?q_KEYS ?q_LIMIT ?q_MOST_OPERATIONS
    (case a0 => k_is)
    (case l0 => k_is)
    (case c0 => k_is)
    (case k0 => k_is)
    (case a1 => k_is)
    (case l1 => k_is)
    (case c1 => k_is)
    (case k1 => k_is)
    (case a2 => k_is)
    (case l2 => k_is)
    (case c2 => k_is)
    (case k2 => k_is)
    (case a3 => k_is)
    (case l3 => k_is)
    (case c3 => k_is)
    (case k3 => k_is)
    (case a4 => k_is)
    (case l4 => k_is)
    (case c4 => k_is)
    (case k4 => k_is)
    (case a5 => k_is)
    (case l5 => k_is)
    (case c5 => k_is)
    (case k5 => k_is)
    (case a6 => k_is)
    (case l6 => k_is)
    (case c6 => k_is)
    (case k6 => k_is)
    (case a7 => k_is)
    (case l7 => k_is)
    (case c7 => k_is)
    (case k7 => k_is)
    (case a8 => k_is)
    (case l8 => k_is)
    (case c8 => k_is)
    (case k8 => k_is)
    (case a9 => k_is)
    (case l9 => k_is)
    (case c9 => k_is)
    (case k9 => k_is)
    (case a10 => k_is)
    (case l10 => k_is)
    (case c10 => k_is)
    (case k10 => k_is)
    (case a11 => k_is)
    (case l11 => k_is)
    (case c11 => k_is)
    (case k11 => k_is)
    (case a12 => k_is)
    (case l12 => k_is)
    (case c12 => k_is)
    (case k12 => k_is)
    (case a13 => k_is)
    (case l13 => k_is)
    (case c13 => k_is)
    (case k13 => k_is)
    (case a14 => k_is)
    (case l14 => k_is)
    (case c14 => k_is)
    (case k14 => k_is)
    (case a15 => k_is)
    (case l15 => k_is)
    (case c15 => k_is)
    (case k15 => k_is)
    (case a16 => k_is)
    (case l16 => k_is)
    (case c16 => k_is)
    (case k16 => k_is)
    (case a17 => k_is)
    (case l17 => k_is)
    (case c17 => k_is)
    (case k17 => k_is)
    (case a18 => k_is)
    (case l18 => k_is)
    (case c18 => k_is)
    (case k18 => k_is)
    (case a19 => k_is)
    (case l19 => k_is)
    (case c19 => k_is)
    (case k19 => k_is)
    (case a20 => k_is)
    (case l20 => k_is)
    (case c20 => k_is)
    (case k20 => k_is)
    (case a21 => k_is)
    (case l21 => k_is)
    (case c21 => k_is)
    (case k21 => k_is)
    (case a22 => k_is)
    (case l22 => k_is)
    (case c22 => k_is)
    (case k22 => k_is)
    (case z_range => k_is)
    (case z_len => k_is)
    (case z_isinstance => k_is)
    (case z_list => k_is)
    (case z_max => k_is)
    (case z_min => k_is)
    (case z_bool => k_is)
    (case z_int => k_is)
    (case z_str => k_is)
    (case z_tuple => k_is)
    (case aX_BadDeal => k_is)
    (case xP_BadDeal => k_exc)
    (case kP_BadDeal => k_is)
    (case bP_BadDeal => k_is)
    (case tP_BadDeal => k_is)
    (case hD_BadDeal => k_is)
    (case sP_BadDeal => first | rfl | k_is)
    (case hg_BadDeal => k_is)
    (case hk_BadDeal => k_is)
    (case ha_BadDeal => k_is)
    (case hn_BadDeal => k_is)
    (case ht_BadDeal => k_is)
    (case hm_BadDeal => k_is)
    (case aX_BadRecord => k_is)
    (case xP_BadRecord => k_exc)
    (case kP_BadRecord => k_is)
    (case bP_BadRecord => k_is)
    (case tP_BadRecord => k_is)
    (case hD_BadRecord => k_is)
    (case sP_BadRecord => first | rfl | k_is)
    (case hg_BadRecord => k_is)
    (case hk_BadRecord => k_is)
    (case ha_BadRecord => k_is)
    (case hn_BadRecord => k_is)
    (case ht_BadRecord => k_is)
    (case hm_BadRecord => k_is)
    (case ki_BadDeal_BadRecord => refine Nz.kit_no (by first | rfl | decide) ?_ ?_ ?_ <;> k_is)
    (case q_KEYS => k_is)
    (case q_LIMIT => k_is)
    (case q_MOST_OPERATIONS => k_is)
