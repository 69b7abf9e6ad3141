import PyProof.Rows.All
import Wide.All
import OpenK.AllK
import Wide.FinOn
import HandS.ForMost
import HandS.IsInst
import HandS.TupAny
import HandS.Flow
import HandS.SortInts
import HandS.More
import HandS.Exc
import HandS.TryOnly
import HandS.ExcOwn
import HandS.WordsExc
import HandS.ExcIs
import HandS.Strs
import HandS.SetBool
import HandS.TupSets
import HandS.SetFor
import HandS.Deep
import HandS.Property
import HandS.Zip
import HandS.SortKw
import HandS.Defaults
import KE.DataMinMax
import KE.SortData
import KE.DatumOrd
import PySem.Challenge.RW_wholecloth_k07_records_are_rebuilt
set_option Elab.async false
set_option linter.all false
set_option maxRecDepth 100000
set_option maxHeartbeats 4000000
/-! The walk's own layer: M (what is owned and may change), G (what stands for good), H (both). -/
namespace Nz
open PySem L2 PySem.Spec PyProof.Rows

/-! ### heaps -/
abbrev Ex (G G' : Hp) : Prop := Same G G'
structure J (M G H : Hp) : Prop where
  m : Same M H
  g : Same G H
  d : ∀ a o, M a = some o → G a = none
theorem upd_ne' {H : Hp} {a b : Addr} {o u : HO} (e : H b = some u) (h : b ≠ a) : upd H a o b = some u := by rw [upd_ne h]; exact e
theorem Ex.new {G : Hp} {t : Addr} {o : HO} (h : G t = none) : Ex G (upd G t o) := fun a u e => by
  rw [upd_ne (ne_of_none e h)]; exact e
section
variable {M G H : Hp} {t d : Addr} {o o' : HO}
theorem J.freeM (j : J M G H) (h : H t = none) : M t = none := j.m.free h
theorem J.freeG (j : J M G H) (h : H t = none) : G t = none := j.g.free h
theorem J.newG (j : J M G H) (h : H t = none) : J M (upd G t o) (upd H t o) where
  m := fun a u e => by rw [upd_ne (ne_of_none (j.m a u e) h)]; exact j.m a u e
  g := fun a u e => by
    by_cases q : a = t
    · subst q; rw [upd_same] at e ⊢; exact e
    · rw [upd_ne q] at e ⊢; exact j.g a u e
  d := fun a u e => by rw [upd_ne (ne_of_none (j.m a u e) h)]; exact j.d a u e
theorem J.newM (j : J M G H) (h : H t = none) : J (upd M t o) G (upd H t o) where
  g := fun a u e => by rw [upd_ne (ne_of_none (j.g a u e) h)]; exact j.g a u e
  m := fun a u e => by
    by_cases q : a = t
    · subst q; rw [upd_same] at e ⊢; exact e
    · rw [upd_ne q] at e ⊢; exact j.m a u e
  d := fun a u e => by
    by_cases q : a = t
    · subst q; exact j.freeG h
    · rw [upd_ne q] at e; exact j.d a u e
theorem J.put (j : J M G H) (h : M t = some o) : J (upd M t o') G (upd H t o') where
  g := fun a u e => by
    have q : a ≠ t := fun z => by subst z; rw [j.d a o h] at e; cases e
    rw [upd_ne q]; exact j.g a u e
  m := fun a u e => by
    by_cases q : a = t
    · subst q; rw [upd_same] at e ⊢; exact e
    · rw [upd_ne q] at e ⊢; exact j.m a u e
  d := fun a u e => by
    by_cases q : a = t
    · subst q; exact j.d a o h
    · rw [upd_ne q] at e; exact j.d a u e
theorem J.freeze (j : J (upd M t o) G H) (h : M t = none) : J M (upd G t o) H where
  m := fun a u e => j.m a u (by rw [upd_ne (ne_of_none e h)]; exact e)
  g := fun a u e => by
    by_cases q : a = t
    · subst q; rw [upd_same] at e; cases e; exact j.m a _ upd_same
    · rw [upd_ne q] at e; exact j.g a u e
  d := fun a u e => by
    have q : a ≠ t := ne_of_none e h
    rw [upd_ne q]; exact j.d a u (by rw [upd_ne q]; exact e)
theorem J.freezeG (j : J (upd M t o) G H) : G t = none := j.d t o upd_same
theorem J.ex (j : J M G H) {H' : Hp} (e : Same H H') : J M G H' := ⟨j.m.trans e, j.g.trans e, j.d⟩
theorem J.start (H : Hp) : J (fun _ => none) H H := ⟨fun _ _ e => (nomatch e), Same.refl H, fun _ _ e => (nomatch e)⟩
end

/-! ### reading along -/
theorem rd_same {G G' : Hp} {a : Addr} {u : HO} (e : Same G G') (h : Rd G a u) : Rd G' a u := by
  rcases h with h | ⟨o, h⟩
  · exact .inl (e a _ h)
  · exact .inr ⟨o, e a _ h⟩
section
variable {K : PySem.W.Frag} {G G' : Hp} {a : Addr} {xs : List V}
theorem sl_of (h : G a = some (.lst xs)) : SqL K G a xs := .inl (.inl h)
theorem st_of (h : G a = some (.tup xs)) : SqT K G a xs := .inl (.inl h)
theorem sl_mono (e : Same G G') (h : SqL K G a xs) : SqL K G' a xs := h.elim (fun h => .inl (rd_same e h)) .inr
theorem st_mono (e : Same G G') (h : SqT K G a xs) : SqT K G' a xs := h.elim (fun h => .inl (rd_same e h)) .inr
end

/-! ### M but for one cell -/
def Ag (p : Addr) (M M' : Hp) : Prop := ∀ b, b ≠ p → M' b = M b
theorem Ag.refl (p : Addr) (M : Hp) : Ag p M M := fun _ _ => rfl
theorem Ag.trans {p : Addr} {M M1 M2 : Hp} (a : Ag p M M1) (b : Ag p M1 M2) : Ag p M M2 := fun c h => (b c h).trans (a c h)
theorem Ag.upd {p : Addr} {M : Hp} {o : HO} : Ag p M (upd M p o) := fun _ h => upd_ne h

/-- M without a cell -/
def del (M : Hp) (L : Addr) : Hp := fun b => if b = L then none else M b
theorem del_same {M : Hp} {L : Addr} : del M L L = none := by unfold del; rw [if_pos rfl]
theorem del_ne {M : Hp} {L b : Addr} (h : b ≠ L) : del M L b = M b := by unfold del; rw [if_neg h]
theorem J.seal {M G H : Hp} {L : Addr} {o : HO} (j : J M G H) (h : M L = some o) : J (del M L) (upd G L o) H where
  m := fun a u e => by
    by_cases q : a = L
    · subst q; rw [del_same] at e; cases e
    · rw [del_ne q] at e; exact j.m a u e
  g := fun a u e => by
    by_cases q : a = L
    · subst q; rw [upd_same] at e; cases e; exact j.m _ _ h
    · rw [upd_ne q] at e; exact j.g a u e
  d := fun a u e => by
    by_cases q : a = L
    · subst q; rw [del_same] at e; cases e
    · rw [del_ne q] at e; rw [upd_ne q]; exact j.d a u e
theorem J.out {M G H : Hp} {L : Addr} {o : HO} (j : J M G H) (h : M L = some o) : G L = none := j.d L o h
theorem J.drop {M G H : Hp} (L : Addr) (j : J M G H) : J (del M L) G H where
  m := fun a u e => by
    by_cases q : a = L
    · subst q; rw [del_same] at e; cases e
    · rw [del_ne q] at e; exact j.m a u e
  g := j.g
  d := fun a u e => by
    by_cases q : a = L
    · subst q; rw [del_same] at e; cases e
    · rw [del_ne q] at e; exact j.d a u e
/-- what stood for good is owned again, where G0 knew nothing of it -/
theorem J.thaw {M G G0 H : Hp} {b : Addr} {u : HO} (j : J M G H) (e : Ex G0 G) (h : G b = some u) (hb : G0 b = none) : J (upd M b u) G0 H where
  m := fun a x q => by
    by_cases z : a = b
    · subst z; rw [upd_same] at q; cases q; exact j.g _ _ h
    · rw [upd_ne z] at q; exact j.m a x q
  g := fun a x q => j.g a x (e a x q)
  d := fun a x q => by
    by_cases z : a = b
    · subst z; exact hb
    · rw [upd_ne z] at q
      cases r : G0 a with
      | none => rfl
      | some y => have := j.d a x q; rw [e a y r] at this; cases this
theorem J.less {M G G0 H : Hp} (j : J M G H) (e : Ex G0 G) : J M G0 H where
  m := j.m
  g := fun a x q => j.g a x (e a x q)
  d := fun a x q => by
    cases r : G0 a with
    | none => rfl
    | some y => have := j.d a x q; rw [e a y r] at this; cases this
theorem J.own {M G H : Hp} {b : Addr} {u : HO} (j : J M G H) (h : H b = some u) (hb : G b = none) : J (upd M b u) G H where
  m := fun a x q => by
    by_cases z : a = b
    · subst z; rw [upd_same] at q; cases q; exact h
    · rw [upd_ne z] at q; exact j.m a x q
  g := j.g
  d := fun a x q => by
    by_cases z : a = b
    · subst z; exact hb
    · rw [upd_ne z] at q; exact j.d a x q
/-- M but for two cells -/
def Ag2 (p L : Addr) (M M' : Hp) : Prop := ∀ b, b ≠ p → b ≠ L → M' b = M b
theorem Ag2.refl (p L : Addr) (M : Hp) : Ag2 p L M M := fun _ _ _ => rfl
theorem Ag2.upd {p L : Addr} {M M' : Hp} {o : HO} (h : Ag2 p L M M') : Ag2 p L M (upd M' L o) := fun b h1 h2 => (upd_ne h2).trans (h b h1 h2)
theorem Ag2.ag {p L : Addr} {M M1 M2 : Hp} (h : Ag2 p L M M1) (a : Ag p M1 M2) : Ag2 p L M M2 := fun b h1 h2 => (a b h1).trans (h b h1 h2)
theorem Ag2.del {p L : Addr} {M M' : Hp} (h : Ag2 p L M M') (n : M L = none) : Ag p M (del M' L) := fun b h1 => by
  by_cases q : b = L
  · subst q; rw [del_same, n]
  · rw [del_ne q]; exact h b h1 q
theorem Ag.del_eq {L : Addr} {M M2 : Hp} (a : Ag L M M2) (n : M L = none) : del M2 L = M := by
  funext b
  by_cases q : b = L
  · subst q; rw [del_same, n]
  · rw [del_ne q]; exact a b q
theorem Ag.at {p b : Addr} {M M' : Hp} {o : HO} (a : Ag p M M') (e : M b = some o) (h : b ≠ p) : M' b = some o := (a b h).trans e

/-! ### promises: al: what is known of the arguments, then J; the end likewise -/
def Sg {α : Type} (pre : α → List V → Hp → Hp → Prop) (post : α → Hp → Hp → V → Hp → Hp → Prop) : Sp := fun vs H Q _ =>
  ∃ a M G, J M G H ∧ pre a vs M G ∧ ∀ v M' G' H', J M' G' H' → Ex G G' → post a M G v M' G' → Q v H'
theorem w_sg {α : Type} {pre : α → List V → Hp → Hp → Prop} {post : α → Hp → Hp → V → Hp → Hp → Prop} {vs : List V} {M G H : Hp} {Q : VK} {E : XK} (a : α) (j : J M G H) (hp : pre a vs M G)
    (k : ∀ v M' G' H', J M' G' H' → Ex G G' → post a M G v M' G' → Q v H') : Sg pre post vs H Q E := ⟨a, M, G, j, hp, k⟩

/-! ### a def under its name -/
structure Dn (K : PySem.W.Frag) (mg : Str → Option Value) (x : Str) (st : Stmt) (ps : List Str) (f : Addr) (fd : FuncData) : Prop where
  fn : Fun K x x st f fd
  mgf : mg x = some (.ref f)
  kp : PySem.W.keepIn K (.ref f) = true
  bn : Binds K fd ps []
structure Cal (P : Program) (w : World) (K : PySem.W.Frag) (mg : Str → Option Value) (base : Heap) (CX : CXT) (k : Nat) (x : Str) (sp : Sp) : Prop where
  ex : ∃ (f : Addr) (fd : FuncData) (ps : List Str), FnOk P w K mg base CX k f fd ps sp ∧ mg x = some (.ref f) ∧ PySem.W.keepIn K (.ref f) = true ∧ Binds K fd ps []
section
variable {P : Program} {w : World} {K : PySem.W.Frag} {mg : Str → Option Value} {base : Heap} {CX : CXT}
theorem Dn.cal {x : Str} {st : Stmt} {ps : List Str} {f : Addr} {fd : FuncData} {k : Nat} {sp : Sp} (D : Dn K mg x st ps f fd) (F : FnOk P w K mg base CX k f fd ps sp) : Cal P w K mg base CX k x sp := ⟨f, fd, ps, F, D.mgf, D.kp, D.bn⟩
theorem Cal.mono {x : Str} {j k : Nat} {sp : Sp} (c : Cal P w K mg base CX j x sp) (h : j ≤ k) : Cal P w K mg base CX k x sp := by
  obtain ⟨f, fd, ps, F, a, b, d⟩ := c.ex
  exact ⟨f, fd, ps, F.mono h, a, b, d⟩
/-- a def that lets nothing out: its body -/
theorem Dn.ok {x : Str} {st : Stmt} {ps : List Str} {f : Addr} {fd : FuncData} {N : List Str} {k : Nat} {sp : Sp} (D : Dn K mg x st ps f fd) (S : FnScope N ps (defScope st)) (len : ∀ vs H Q E, sp vs H Q E → vs.length = ps.length)
    (hbody : ∀ (cdv : Value) (A : Around) (outer : List Env) (s : Shared) (H : Hp) (vs : List V) (Q : VK) (E : XK), Room k (A.deeper (envOfC x (defScope st) s.heap.objs.size f cdv)) → sp vs H Q E →
      ∃ t, PSs (cxOf CX0 P w K mg base N x (defScope st) f cdv A outer s H E).nox (defBody st) t ∧ t { nx := fun _ H' => Q .non H', rt := Q } (start N vs) H) : Cal P w K mg base CX0 (k + 1) x sp :=
  D.cal (D.fn.ok S len hbody)
end
section
variable {X : Cx} {CX : CXT} {k j : Nat} {x : Str} {sp : Sp} {p pos : Pos} {e : Expr} {es : List Expr} {t : TA} {E : XK}
theorem pe_cal (c : Cal X.prog X.w X.K X.mg X.base CX0 k x sp) (hr : Room j X.A) (hk : k ≤ j) (hg : Gl X x) (ha : PA X (e :: es) t)
    (hdb : (x == ("__debug__" : Str)) = false := by decide) (he : starEach (e :: es) X.env = (false, eval e X.env) :: starEach es X.env := by rfl) (hpl : (backTo pos (starEach es X.env)).any (·.1) = false := by rfl) :
    PE X (.Call (.Name x p) (e :: es) [] pos) (tCall sp [] E0 t) := by
  obtain ⟨f, fd, ps, F, hm, kp, b⟩ := c.ex
  exact pe_call F (hr.mono hk) hg hm kp b .nil pass0 ha hdb he hpl
theorem pe_cal0 (c : Cal X.prog X.w X.K X.mg X.base CX0 k x sp) (hr : Room j X.A) (hk : k ≤ j) (hg : Gl X x)
    (hdb : (x == ("__debug__" : Str)) = false := by decide) : PE X (.Call (.Name x p) [] [] pos) (tCall sp [] E0 tNil) := by
  obtain ⟨f, fd, ps, F, hm, kp, b⟩ := c.ex
  exact pe_call0 F (hr.mono hk) hg hm kp b .nil pass0 hdb
/-! ### operators whatever their operands are -/
def uAdd (K : PySem.W.Frag) : R2 := fun x y H Q => rI0 (fun i j => .int (i + j)) x y H Q ∨ (rCat x y H Q ∨ rCatA K x y H Q)
theorem op_uAdd : OpR X (binaryOp .Add) (uAdd X.K) := op_add.or (op_cat.or op_catA)
def uEq (K : PySem.W.Frag) : R2 := fun x y H Q => rEq x y H Q ∨ rEqD K x y H Q
theorem op_uEq (hr : Room j X.A) : OpR X (compareOp .Eq) (uEq X.K) := op_eq.or (op_eqD hr.units)
def uNe (K : PySem.W.Frag) : R2 := fun x y H Q => rNe x y H Q ∨ rNeD K x y H Q
theorem op_uNe (hr : Room j X.A) : OpR X (compareOp .NotEq) (uNe X.K) := op_ne.or (op_neD hr.units)
def uIx (K : PySem.W.Frag) : R2 := fun x y H Q => rIxL K x y H Q ∨ rIxT K x y H Q
theorem ix_u : IxR X (uIx X.K) := ix_list.or ix_tup
def uSl (K : PySem.W.Frag) : V → Option Int → Option Int → Hp → VK → Prop := fun x lo hi H Q => rSlL K x lo hi H Q ∨ rSlA K x lo hi H Q
theorem sl_u : SlR X (uSl X.K) := sl_list.or sl_tupA
def uMul : R2 := fun x y H Q => rI CMul (fun i j => .int (i * j)) x y H Q ∨ rRep x y H Q
theorem op_uMul : OpR X (binaryOp .Mult) uMul := op_mul.or op_rep
def uLen (K : PySem.W.Frag) : List V → Hp → VK → Prop := fun xs H Q => (∃ p ys, xs = [.ref p] ∧ (SqL K H p ys ∨ SqT K H p ys) ∧ Q (.int ys.length) H) ∨ (∃ a kvs, xs = [V.ref a] ∧ H a = some (.dK kvs) ∧ Q (.int kvs.length) H)
theorem call_uLen : CallR X (.builtin "len") (uLen X.K) := call_len_seq.or call_lenD
end

theorem bt_int : bootBuiltins "int" = some (.type "int") := by decide +kernel
theorem bt_str : bootBuiltins "str" = some (.type "str") := by decide +kernel
theorem bt_bool : bootBuiltins "bool" = some (.type "bool") := by decide +kernel
theorem bt_list : bootBuiltins "list" = some (.type "list") := by decide +kernel
theorem bt_tuple : bootBuiltins "tuple" = some (.type "tuple") := by decide +kernel
theorem bt_dict : bootBuiltins "dict" = some (.type "dict") := by decide +kernel
theorem bt_set : bootBuiltins "set" = some (.type "set") := by decide +kernel
theorem bt_isinstance : bootBuiltins "isinstance" = some (.builtin "isinstance") := by decide +kernel
theorem bt_min : bootBuiltins "min" = some (.builtin "min") := by decide +kernel
theorem bt_max : bootBuiltins "max" = some (.builtin "max") := by decide +kernel
theorem bt_sorted : bootBuiltins "sorted" = some (.builtin "sorted") := by decide +kernel
theorem bt_sum : bootBuiltins "sum" = some (.builtin "sum") := by decide +kernel
theorem bt_abs : bootBuiltins "abs" = some (.builtin "abs") := by decide +kernel
theorem pe_gk {X : Cx} {x : Str} {pos : Pos} {v : V} (hg : Gl X x) (h : ∃ u, X.mg x = some u ∧ RelV v u) (hd : (x == ("__debug__" : Str)) = false := by decide) : PE X (.Name x pos) (tC v) := by
  obtain ⟨u, hm, r⟩ := h
  exact pe_glob hg hm r hd

section
variable {X : Cx} {j : Nat} {K : PySem.W.Frag}
theorem op_uAddK (h : X.K = K) : OpR X (binaryOp .Add) (uAdd K) := h ▸ op_uAdd
theorem op_uEqK (h : X.K = K) (hr : Room j X.A) : OpR X (compareOp .Eq) (uEq K) := h ▸ op_uEq hr
theorem op_uNeK (h : X.K = K) (hr : Room j X.A) : OpR X (compareOp .NotEq) (uNe K) := h ▸ op_uNe hr
theorem ix_uK (h : X.K = K) : IxR X (uIx K) := h ▸ ix_u
theorem sl_uK (h : X.K = K) : SlR X (uSl K) := h ▸ sl_u
theorem call_uLenK (h : X.K = K) : CallR X (.builtin "len") (uLen K) := h ▸ call_uLen
theorem call_isiK' (h : X.K = K) : CallR X (.builtin "isinstance") (rIsi K) := h ▸ call_isi
theorem op_inK (h : X.K = K) : OpR X (compareOp .In) (rIn K false) := h ▸ op_in_seq
theorem op_notInK (h : X.K = K) : OpR X (compareOp .NotIn) (rIn K true) := h ▸ op_notIn_seq
end

/-! ### the steps -/
section
variable {K : PySem.W.Frag} {M G H : Hp} {σ : L2.St} {i : Nat} {v x y : V} {ta tb tc te : TE} {r r' : R2} {Q : VK} {D : Ends} {t u : TS} {c c' : TT} {QB : Bool → Hp → Prop} {g : TG} {a b p : Addr} {xs ys : List V} {m n : Int} {QL : List V → Hp → Prop}
theorem w_var (h : σ[i]? = some (some v)) (q : Q v H) : tVar i σ H Q := ⟨v, h, q⟩
theorem w_c (q : Q v H) : tC v σ H Q := q
theorem w_op (h : ta σ H fun x H1 => tb σ H1 fun y H2 => r x y H2 Q) : tOp r ta tb σ H Q := h
theorem w_un {r : V → Hp → VK → Prop} (h : ta σ H fun x H1 => r x H1 Q) : tUn r ta σ H Q := h
theorem w_chain (h : ta σ H fun x H1 => tb σ H1 fun y H2 => r x y H2 fun z H3 => ∃ k, z = .bl k ∧ (if k = true then tc σ H3 fun w' H4 => r' y w' H4 Q else Q (.bl false) H3)) : tChain r r' ta tb tc σ H Q := h
theorem w_test (h : ta σ H fun x H' => ∃ k, x = .bl k ∧ QB k H') : tTest ta σ H QB := h
theorem w_tB (h : ta σ H fun x H' => ∃ k, x = .bl k ∧ QB k H') : tB ta σ H QB := h
theorem w_bl {P : Bool → Prop} {b : Bool} (q : P b) : ∃ k, V.bl b = .bl k ∧ P k := ⟨b, rfl, q⟩
theorem w_and (h : c σ H fun k H1 => if k = true then c' σ H1 QB else QB false H1) : tAnd c c' σ H QB := h
theorem w_or (h : c σ H fun k H1 => if k = true then QB true H1 else c' σ H1 QB) : tOr c c' σ H QB := h
theorem w_not (h : c σ H fun k H1 => QB (!k) H1) : tNot c σ H QB := h
theorem w_andV (h : ta σ H fun x H1 => ∃ k, x = .bl k ∧ if k = true then tb σ H1 Q else Q (.bl false) H1) : tAndV ta tb σ H Q := h
theorem w_orV (h : ta σ H fun x H1 => ∃ k, x = .bl k ∧ if k = true then Q (.bl true) H1 else tb σ H1 Q) : tOrV ta tb σ H Q := h
theorem w_notV (h : ta σ H fun x H1 => ∃ k, x = .bl k ∧ Q (.bl (!k)) H1) : tNotV ta σ H Q := h
theorem w_ifE (h : c σ H fun k H1 => if k = true then ta σ H1 Q else tb σ H1 Q) : tIf c ta tb σ H Q := h
theorem w_isN (h : ta σ H fun x H1 => Q (.bl (decide (x = .non))) H1) : tIsN ta σ H Q := h
theorem w_notN (h : ta σ H fun x H1 => Q (.bl (!decide (x = .non))) H1) : tNotN ta σ H Q := h
/- statements -/
theorem w_seq (h : t { D with nx := u D } σ H) : tSeq t u D σ H := h
theorem w_next (h : D.nx σ H) : tNext D σ H := h
theorem w_ret (h : te σ H D.rt) : tRet te D σ H := h
theorem w_retN (h : D.rt .non H) : tRetN D σ H := h
theorem w_if (h : c σ H fun b H1 => if b = true then t D σ H1 else u D σ H1) : tIfS c t u D σ H := h
theorem w_asg (h : te σ H fun x H1 => g x σ H1 D.nx) : tAsg te g D σ H := h
theorem w_drop (h : te σ H fun _ H1 => D.nx σ H1) : tDrop te D σ H := h
theorem w_gName {R : L2.St → Hp → Prop} (h : R (σ.set i (some v)) H) : gName i v σ H R := h
theorem w_gSub {s : TSet} {to ti : TE} {R : L2.St → Hp → Prop} (h : to σ H fun o H1 => ti σ H1 fun i H2 => s o i v H2 fun H3 => R σ H3) : gSub to ti s v σ H R := h
theorem w_gTup {gs : TGs} {R : L2.St → Hp → Prop} (j : J M G H) (h : SqT K G a xs) (l : xs.length = i) (q : gs xs σ H R) : gTup K i gs (.ref a) σ H R := ⟨a, xs, rfl, st_mono j.g h, l, q⟩
theorem w_gCons {g : TG} {gs : TGs} {R : L2.St → Hp → Prop} (q : g v σ H fun σ' H' => gs xs σ' H' R) : gCons g gs (v :: xs) σ H R := ⟨v, xs, rfl, q⟩
theorem w_gNil {R : L2.St → Hp → Prop} (q : R σ H) : gNil [] σ H R := ⟨rfl, q⟩
/- arguments, calls -/
theorem w_anil (q : QL [] H) : tNil σ H QL := q
theorem w_acons {tr : TA} (h : ta σ H fun x H1 => tr σ H1 fun xs H2 => QL (x :: xs) H2) : tCons ta tr σ H QL := h
theorem w_call {sp : Sp} {dvs : List V} {E : XK} {tr : TA} (h : tr σ H fun vs H1 => sp (vs ++ dvs) H1 Q E) : tCall sp dvs E tr σ H Q := h
theorem w_cb {r : List V → Hp → VK → Prop} {tr : TA} (h : tr σ H fun vs H1 => r vs H1 Q) : tCB r tr σ H Q := h
def NewO (o : HO) (n : Nat) (H : Hp) (Q : VK) : Prop := n ≤ sizeLine ∧ ∀ p, H p = none → Q (.ref p) (upd H p o)
theorem w_tup {tr : TA} (h : tr σ H fun xs H1 => NewO (.tup xs) xs.length H1 Q) : tTup tr σ H Q := h
theorem w_lst {tr : TA} (h : tr σ H fun xs H1 => NewO (.lst xs) xs.length H1 Q) : tLst tr σ H Q := h
theorem sz_le {n : Nat} (h : n ≤ 1000000) : n ≤ sizeLine := Nat.le_trans h (by decide)
theorem sz_lt {n : Nat} (h : n < 1000000) : n < sizeLine := Nat.lt_of_lt_of_le h (by decide)
/-- a new object that stands for good -/
theorem w_new {o : HO} {n : Nat} (j : J M G H) (z : n ≤ sizeLine) (k : ∀ p G' H', J M G' H' → Ex G G' → G' p = some o → G p = none → Q (.ref p) H') : NewO o n H Q :=
  ⟨z, fun p h => k p _ _ (j.newG h) (Ex.new (j.freeG h)) upd_same (j.freeG h)⟩
/-- .. that may change -/
theorem w_newM {o : HO} {n : Nat} (j : J M G H) (z : n ≤ sizeLine) (k : ∀ p H', J (upd M p o) G H' → M p = none → G p = none → Q (.ref p) H') : NewO o n H Q :=
  ⟨z, fun p h => k p _ (j.newM h) (j.freeM h) (j.freeG h)⟩
/- operators -/
theorem w_I0 {f : Int → Int → V} (q : Q (f m n) H) : rI0 f (.int m) (.int n) H Q := ⟨m, n, rfl, rfl, q⟩
theorem w_I {C : Int → Int → Prop} {f : Int → Int → V} (hc : C m n) (q : Q (f m n) H) : rI C f (.int m) (.int n) H Q := ⟨m, n, rfl, rfl, hc, q⟩
theorem w_U {f : Int → V} (q : Q (f m) H) : rU f (.int m) H Q := ⟨m, rfl, q⟩
theorem w_addI (q : Q (.int (m + n)) H) : uAdd K (.int m) (.int n) H Q := .inl (w_I0 q)
theorem w_mulI (hc : CMul m n) (q : Q (.int (m * n)) H) : uMul (.int m) (.int n) H Q := .inl (w_I hc q)
theorem w_eqI (q : Q (.bl (decide (m = n))) H) : uEq K (.int m) (.int n) H Q := .inl ⟨rfl, by
  have e : decide (V.int m = V.int n) = decide (m = n) := decide_eq_decide.mpr ⟨fun h => V.int.inj h, fun h => h ▸ rfl⟩
  rw [e]; exact q⟩
theorem w_neI (q : Q (.bl (!decide (m = n))) H) : uNe K (.int m) (.int n) H Q := .inl ⟨rfl, by
  have e : decide (V.int m = V.int n) = decide (m = n) := decide_eq_decide.mpr ⟨fun h => V.int.inj h, fun h => h ▸ rfl⟩
  rw [e]; exact q⟩
theorem w_eqV {k : Bool} (hs : scal x y = true) (e : decide (x = y) = k) (q : Q (.bl k) H) : uEq K x y H Q := .inl ⟨hs, by rw [e]; exact q⟩
theorem w_eqS {k : Bool} {s1 s2 : Str} (e : decide (s1 = s2) = k) (q : Q (.bl k) H) : uEq K (.str s1) (.str s2) H Q := .inl ⟨rfl, by
  have e' : decide (V.str s1 = V.str s2) = decide (s1 = s2) := decide_eq_decide.mpr ⟨fun h => V.str.inj h, fun h => h ▸ rfl⟩
  rw [e', e]; exact q⟩
theorem w_neV {k : Bool} (hs : scal x y = true) (e : (!decide (x = y)) = k) (q : Q (.bl k) H) : uNe K x y H Q := .inl ⟨hs, by rw [e]; exact q⟩
theorem w_ixL (j : J M G H) (h : SqL K G a xs) (e : atI xs m = some v) (q : Q v H) : uIx K (.ref a) (.int m) H Q := .inl ⟨a, xs, m, v, rfl, rfl, sl_mono j.g h, e, q⟩
theorem w_ixT (j : J M G H) (h : SqT K G a xs) (e : atI xs m = some v) (q : Q v H) : uIx K (.ref a) (.int m) H Q := .inr ⟨a, xs, m, v, rfl, rfl, st_mono j.g h, e, q⟩
theorem w_ixM (j : J M G H) (h : M a = some (.lst xs)) (e : atI xs m = some v) (q : Q v H) : uIx K (.ref a) (.int m) H Q := .inl ⟨a, xs, m, v, rfl, rfl, .inl (.inl (j.m a _ h)), e, q⟩
theorem w_lenL (j : J M G H) (h : SqL K G a xs) (q : Q (.int xs.length) H) : uLen K [.ref a] H Q := .inl ⟨a, xs, rfl, .inl (sl_mono j.g h), q⟩
theorem w_lenT (j : J M G H) (h : SqT K G a xs) (q : Q (.int xs.length) H) : uLen K [.ref a] H Q := .inl ⟨a, xs, rfl, .inr (st_mono j.g h), q⟩
theorem w_lenM (j : J M G H) (h : M a = some (.lst xs)) (q : Q (.int xs.length) H) : uLen K [.ref a] H Q := .inl ⟨a, xs, rfl, .inl (.inl (.inl (j.m a _ h))), q⟩
theorem w_setM {QH : Hp → Prop} {jx : Nat} (j : J M G H) (h : M a = some (.lst xs)) (e : ixN xs.length m = some jx) (q : ∀ H', J (upd M a (.lst (xs.set jx v))) G H' → QH H') : rSetL (.ref a) (.int m) v H QH :=
  ⟨a, xs, m, jx, rfl, rfl, j.m a _ h, e, q _ (j.put h)⟩
/- methods -/
theorem w_bm {T : String} {r : V → List V → Hp → VK → Prop} {tr : TA} (h : ta σ H fun x H1 => tyV K T x H1 ∧ tr σ H1 fun xs H2 => r x xs H2 Q) : tBM K T r ta tr σ H Q := h
theorem w_appendM (j : J M G H) (h : M a = some (.lst xs)) (z : xs.length < sizeLine) (q : ∀ H', J (upd M a (.lst (xs ++ [v]))) G H' → Q .non H') : rAppend (.ref a) [v] H Q :=
  ⟨a, xs, v, rfl, rfl, j.m a _ h, z, q _ (j.put h)⟩
theorem ty_listM (j : J M G H) (h : M a = some (.lst xs)) : tyV K "list" (.ref a) H := .inl ⟨rfl, xs, .inl (.inl (j.m a _ h))⟩
theorem ty_listG (j : J M G H) (h : SqL K G a xs) : tyV K "list" (.ref a) H := .inl ⟨rfl, xs, sl_mono j.g h⟩
/- two ways -/
theorem w_two {k : Bool} {A B : Prop} (h1 : k = true → A) (h2 : k = false → B) : if k = true then A else B := by
  cases k with
  | true => rw [if_pos rfl]; exact h1 rfl
  | false => rw [if_neg Bool.false_ne_true]; exact h2 rfl
theorem w_dec {p : Prop} [Decidable p] {A B : Prop} (h1 : p → A) (h2 : ¬ p → B) : if decide p = true then A else B := w_two (fun h => h1 (of_decide_eq_true h)) fun h => h2 (of_decide_eq_false h)
theorem w_decN {p : Prop} [Decidable p] {A B : Prop} (h1 : ¬ p → A) (h2 : p → B) : if (!decide p) = true then A else B := w_two (fun h => h1 (of_decide_eq_false (by simpa using h))) fun h => h2 (of_decide_eq_true (by simpa using h))
theorem w_T {A B : Prop} (h : A) : if true = true then A else B := by rw [if_pos rfl]; exact h
theorem w_F {A B : Prop} (h : B) : if false = true then A else B := by rw [if_neg Bool.false_ne_true]; exact h
theorem w_nt {A B : Prop} (h : B) : if (!true) = true then A else B := w_F h
theorem w_nf {A B : Prop} (h : A) : if (!false) = true then A else B := w_T h
theorem w_dT {p : Prop} [Decidable p] {A B : Prop} (h : p) (q : A) : if decide p = true then A else B := by rw [decide_eq_true h]; exact w_T q
theorem w_dF {p : Prop} [Decidable p] {A B : Prop} (h : ¬ p) (q : B) : if decide p = true then A else B := by rw [decide_eq_false h]; exact w_F q
theorem w_nT {p : Prop} [Decidable p] {A B : Prop} (h : p) (q : B) : if (!decide p) = true then A else B := by rw [decide_eq_true h]; exact w_F q
theorem w_nF {p : Prop} [Decidable p] {A B : Prop} (h : ¬ p) (q : A) : if (!decide p) = true then A else B := by rw [decide_eq_false h]; exact w_T q
/- loops -/
theorem w_forL {tl : TE} {a : Addr} (h : tl σ H fun v H1 => v = .ref a ∧ SqL K H1 a xs ∧ ∃ Pv : Nat → L2.St → Hp → Prop, Pv 0 σ H1 ∧ (∀ i σ H, i ≤ xs.length → Pv i σ H → SqL K H a xs) ∧
    (∀ i x σ H, xs[i]? = some x → Pv i σ H → g x σ H fun σ2 H2 => t { D with nx := Pv (i + 1), ct := Pv (i + 1), bk := D.nx } σ2 H2) ∧ ∀ σ H, Pv xs.length σ H → D.nx σ H)
    (mono : ∀ Q Q' : VK, (∀ v H, Q v H → Q' v H) → tl σ H Q → tl σ H Q') : tFor (iList K tl) g t D σ H := by
  refine mono _ _ (fun v H1 q => ?_) h
  obtain ⟨rfl, hs, Pv, h0, hl, hs', hd⟩ := q
  exact ⟨a, rfl, ⟨xs, hs⟩, for_list Pv h0 hl hs' hd⟩
theorem mono_var (Q Q' : VK) (h : ∀ v H, Q v H → Q' v H) (q : tVar i σ H Q) : tVar i σ H Q' := by
  obtain ⟨v, e, q⟩ := q
  exact ⟨v, e, h v H q⟩
/-- for x in xs, xs a local name -/
theorem w_forLV {s : Nat} {a : Addr} (e : σ[s]? = some (some (.ref a))) (Pv : Nat → L2.St → Hp → Prop) (hS : SqL K H a xs) (h0 : Pv 0 σ H) (hl : ∀ i σ H, i ≤ xs.length → Pv i σ H → SqL K H a xs)
    (hs : ∀ i x σ H, xs[i]? = some x → Pv i σ H → g x σ H fun σ2 H2 => t { D with nx := Pv (i + 1), ct := Pv (i + 1), bk := D.nx } σ2 H2) (hd : ∀ σ H, Pv xs.length σ H → D.nx σ H) : tFor (iList K (tVar s)) g t D σ H :=
  ⟨.ref a, e, a, rfl, ⟨xs, hS⟩, for_list Pv h0 hl hs hd⟩
theorem w_forTV {s : Nat} {a : Addr} (e : σ[s]? = some (some (.ref a))) (Pv : Nat → L2.St → Hp → Prop) (hS : SqT K H a xs) (h0 : Pv 0 σ H) (hl : ∀ i σ H, i ≤ xs.length → Pv i σ H → SqT K H a xs)
    (hs : ∀ i x σ H, xs[i]? = some x → Pv i σ H → g x σ H fun σ2 H2 => t { D with nx := Pv (i + 1), ct := Pv (i + 1), bk := D.nx } σ2 H2) (hd : ∀ σ H, Pv xs.length σ H → D.nx σ H) : tFor (iTup K (tVar s)) g t D σ H :=
  ⟨.ref a, e, a, rfl, ⟨xs, hS⟩, for_tup Pv h0 hl hs hd⟩
/-- for k in range(e) -/
def RngR (g : TG) (t : TS) (D : Ends) (σ : L2.St) : List V → Hp → Prop := fun vs H1 => ∃ j : Int, vs = [.int j] ∧ -(2 ^ 62) ≤ j ∧ j < 2 ^ 62 ∧ ∃ Pv : Nat → L2.St → Hp → Prop, Pv 0 σ H1 ∧
  (∀ i σ H, i < j.toNat → Pv i σ H → g (.int i) σ H fun σ2 H2 => t { D with nx := Pv (i + 1), ct := Pv (i + 1), bk := D.nx } σ2 H2) ∧ ∀ σ H, Pv j.toNat σ H → D.nx σ H
theorem RngR.go {vs : List V} (h : RngR g t D σ vs H) : ∃ j : Int, vs = [.int j] ∧ -(2 ^ 62) ≤ j ∧ j < 2 ^ 62 ∧ ∃ W : Nat → Nat → L2.St → Hp → Prop, (∃ m, W 0 m σ H) ∧ ∀ i m σ H, W i m σ H →
      ((Itr 0 j.toNat).stop i H ∧ D.nx σ H) ∨ ((Itr 0 j.toNat).go i H ∧ ∃ N : L2.St → Hp → Prop, (∀ σ' H', N σ' H' → ∃ m', m' < m ∧ W (i + 1) m' σ' H') ∧ ∀ x H', (Itr 0 j.toNat).yld i H x H' → g x σ H' fun σ2 H2 => t { D with nx := N, ct := N, bk := D.nx } σ2 H2) := by
  obtain ⟨jj, e, h1, h2, Pv, h0, hs, hd⟩ := h
  refine ⟨jj, e, h1, h2, for_range Pv h0 (fun i σ H hi p => ?_) hd⟩
  have q := hs i σ H hi p
  rw [Int.zero_add]; exact q
def RngD (g : TG) (t : TS) (D : Ends) (σ : L2.St) (vs : List V) (H : Hp) : Prop := ∃ j : Int, vs = [.int j] ∧ -(2 ^ 62) ≤ j ∧ j < 2 ^ 62 ∧ ∃ W : Nat → Nat → L2.St → Hp → Prop, (∃ m, W 0 m σ H) ∧ ∀ i m σ H, W i m σ H →
      ((Itr 0 j.toNat).stop i H ∧ D.nx σ H) ∨ ((Itr 0 j.toNat).go i H ∧ ∃ N : L2.St → Hp → Prop, (∀ σ' H', N σ' H' → ∃ m', m' < m ∧ W (i + 1) m' σ' H') ∧ ∀ x H', (Itr 0 j.toNat).yld i H x H' → g x σ H' fun σ2 H2 => t { D with nx := N, ct := N, bk := D.nx } σ2 H2)
theorem w_forR {ta : TA} (h : ta σ H fun vs H1 => RngD g t D σ vs H1) : tFor (iRng1 ta) g t D σ H := h
theorem w_rng (Pv : Nat → L2.St → Hp → Prop) (h0 : Pv 0 σ H)
    (hs : ∀ i σ H, i < m.toNat → Pv i σ H → g (.int i) σ H fun σ2 H2 => t { D with nx := Pv (i + 1), ct := Pv (i + 1), bk := D.nx } σ2 H2) (hd : ∀ σ H, Pv m.toNat σ H → D.nx σ H) (h1 : -(2 ^ 62) ≤ m := by first | decide | omega) (h2 : m < 2 ^ 62 := by first | decide | omega) :
    RngD g t D σ [.int m] H := RngR.go ⟨m, rfl, h1, h2, Pv, h0, hs, hd⟩
theorem w_appendU (j : J (upd M a (.lst xs)) G H) (z : xs.length < 1000000) (q : ∀ H', J (upd M a (.lst (xs ++ [v]))) G H' → Q .non H') : rAppend (.ref a) [v] H Q :=
  w_appendM j upd_same (sz_lt z) fun H' j' => q H' (by rw [upd_upd] at j'; exact j')
theorem w_appendA (j : J M G H) (h : M a = some (.lst xs)) (z : xs.length < 1000000) (q : ∀ H', J (upd M a (.lst (xs ++ [v]))) G H' → Q .non H') : rAppend (.ref a) [v] H Q := w_appendM j h (sz_lt z) q
theorem ty_listU (j : J (upd M a (.lst xs)) G H) : tyV K "list" (.ref a) H := ty_listM j upd_same
theorem map_snoc (ns : List Int) (n : Int) : ns.map V.int ++ [V.int n] = (ns ++ [n]).map V.int := by rw [List.map_append]; rfl
/-- list(xs), xs[a:b] of lists, xs + ys -/
theorem w_catL (h1 : H a = some (.lst xs)) (h2 : H b = some (.lst ys)) (k : NewO (.lst (xs ++ ys)) (xs.length + ys.length) H Q) : uAdd K (.ref a) (.ref b) H Q :=
  .inr (.inl ⟨a, b, xs, ys, rfl, rfl, h1, h2, k.1, k.2⟩)
theorem w_slL {lo hi : Option Int} (j : J M G H) (h : SqL K G a xs) (k : NewO (.lst (cutV xs lo hi)) 0 H Q) : uSl K (.ref a) lo hi H Q := .inl ⟨a, xs, rfl, sl_mono j.g h, k.2⟩
theorem w_slT {lo hi : Option Int} (j : J M G H) (h : SqT K G a xs) (k1 : HT.sIx xs.length 0 lo = 0 ∧ HT.sIx xs.length xs.length hi = xs.length → Q (.ref a) H)
    (k : ¬ (HT.sIx xs.length 0 lo = 0 ∧ HT.sIx xs.length xs.length hi = xs.length) → NewO (.tup (cutV xs lo hi)) 0 H Q) : uSl K (.ref a) lo hi H Q := .inr ⟨a, xs, rfl, st_mono j.g h, k1, fun h => (k h).2⟩
def PartX (x : V) (H : Hp) (Q : Option Int → Hp → Prop) : Prop := ∃ i, x = .int i ∧ Q (some i) H
theorem w_part {QO : Option Int → Hp → Prop} (h : te σ H fun x H1 => PartX x H1 QO) : tPart te σ H QO := h
theorem w_partX {QO : Option Int → Hp → Prop} (h : QO (some m) H) : PartX (.int m) H QO := ⟨m, rfl, h⟩
theorem w_nopart {QO : Option Int → Hp → Prop} (h : QO none H) : tNoPart σ H QO := h
theorem atI_0 {α : Type} {y : α} {ys : List α} : atI (y :: ys) 0 = some y := atI_nat (j := 0) rfl
theorem w_sl {r : V → Option Int → Option Int → Hp → VK → Prop} {tl th : TO} (h : te σ H fun x H1 => tl σ H1 fun l H2 => th σ H2 fun u H3 => r x l u H3 Q) : tSl r te tl th σ H Q := h
/-! comprehensions -/
variable {tt : TT} {vs : List Nat} {s : Nat}
/-- the block's end at one element: the new list stands at L as before, it gets y -/
def StepL (L : Addr) (acc : List V) (R : List V → Hp → Hp → Prop) (y : V) (H4 : Hp) : Prop := ∃ M4 G4, J M4 G4 H4 ∧ M4 L = some (.lst acc) ∧ acc.length < sizeLine ∧ R (acc ++ [y]) (upd M4 L (.lst (acc ++ [y]))) G4
def SkipL (L : Addr) (acc : List V) (R : List V → Hp → Hp → Prop) (H3 : Hp) : Prop := ∃ M3 G3, J M3 G3 H3 ∧ M3 L = some (.lst acc) ∧ R acc M3 G3
def LcI (P : Addr → Nat → List V → Hp → Hp → Prop) (L : Addr) (i : Nat) (H : Hp) : Prop := ∃ acc M1 G1, J M1 G1 H ∧ M1 L = some (.lst acc) ∧ P L i acc M1 G1
theorem StepL.go {P : Addr → Nat → List V → Hp → Hp → Prop} {L : Addr} {acc : List V} {k : Nat} (h : StepL L acc (P L k) y H) : ∃ acc', H L = some (.lst acc') ∧ acc'.length < sizeLine ∧ LcI P L k (upd H L (.lst (acc' ++ [y]))) := by
  obtain ⟨M4, G4, j, e, z, r⟩ := h
  exact ⟨acc, j.m _ _ e, z, acc ++ [y], _, _, j.put e, upd_same, r⟩
def LcD (J' : It) (g : TG) (tt : TT) (te : TE) (vs : List Nat) (σ : L2.St) (H1 : Hp) (Q : VK) : Prop := ∀ D, H1 D = none → ∃ W : Nat → Nat → Hp → Prop, (∃ m, W 0 m (upd H1 D (.lst []))) ∧ ∀ i m H, W i m H →
  (J'.stop i H ∧ Q (.ref D) H) ∨ (J'.go i H ∧ ∃ Nx : Hp → Prop, (∀ H', Nx H' → ∃ m', m' < m ∧ W (i + 1) m' H') ∧ ∀ x H', J'.yld i H x H' → g x (wipe σ vs) H' fun σ2 H2 => wipe σ2 vs = wipe σ vs ∧ tt σ2 H2 fun b H3 =>
    if b = true then te σ2 H3 fun y H4 => ∃ acc, H4 D = some (.lst acc) ∧ acc.length < sizeLine ∧ Nx (upd H4 D (.lst (acc ++ [y]))) else Nx H3)
def LcR (g : TG) (tt : TT) (te : TE) (vs : List Nat) (σ : L2.St) (vs' : List V) (H1 : Hp) (Q : VK) : Prop := ∃ j : Int, vs' = [.int j] ∧ -(2 ^ 62) ≤ j ∧ j < 2 ^ 62 ∧ LcD (Itr 0 j.toNat) g tt te vs σ H1 Q
def LcL (K : PySem.W.Frag) (g : TG) (tt : TT) (te : TE) (vs : List Nat) (σ : L2.St) (x : V) (H1 : Hp) (Q : VK) : Prop := ∃ a, x = .ref a ∧ (∃ xs, SqL K H1 a xs) ∧ LcD (Itl K a) g tt te vs σ H1 Q
theorem w_lcR {ta : TA} (h : ta σ H fun vs' H1 => LcR g tt te vs σ vs' H1 Q) : tLc (iRng1 ta) g tt te vs σ H Q := h
theorem w_lcL {tl : TE} (h : tl σ H fun x H1 => LcL K g tt te vs σ x H1 Q) : tLc (iList K tl) g tt te vs σ H Q := h
/-- [e for k in range(m)]; the element's reading must be monotone in what is wanted: it is given by its steps, so the law of the turn is asked for any wish that is weaker -/
theorem w_lcr (j : J M G H) (P : Addr → Nat → List V → Hp → Hp → Prop) (h0 : ∀ L, M L = none → G L = none → P L 0 [] (upd M L (.lst [])) G) (hw : ∀ x, wipe ((wipe σ vs).set s (some x)) vs = wipe σ vs)
    (hs : ∀ L i acc M1 G1 H1 (R : V → Hp → Prop), i < m.toNat → J M1 G1 H1 → M1 L = some (.lst acc) → P L i acc M1 G1 → (∀ y H4, StepL L acc (P L (i + 1)) y H4 → R y H4) → te ((wipe σ vs).set s (some (.int i))) H1 R)
    (hd : ∀ L acc M1 G1 H1, J M1 G1 H1 → M1 L = some (.lst acc) → P L m.toNat acc M1 G1 → Q (.ref L) H1) (h1 : -(2 ^ 62) ≤ m := by first | decide | omega) (h2 : m < 2 ^ 62 := by first | decide | omega) : LcR (gName s) tYes te vs σ [.int m] H Q := by
  refine ⟨m, rfl, h1, h2, fun L hL => lc_range (LcI P L) ⟨[], _, _, j.newM hL, upd_same, h0 L (j.freeM hL) (j.freeG hL)⟩ (fun i H1 hi p => ?_) fun H1 p => ?_⟩
  · obtain ⟨acc, M1, G1, j1, e, p⟩ := p
    rw [Int.zero_add]
    refine ⟨hw (.int i), ?_⟩
    refine w_T (B := LcI P L (i + 1) H1) ?_
    refine hs L i acc M1 G1 H1 _ hi j1 e p ?_
    intro y H4 q
    exact q.go
  · obtain ⟨acc, M1, G1, j1, e, p⟩ := p
    exact hd L acc M1 G1 H1 j1 e p
/-- [e for x in xs if t] -/
theorem w_lcl (j : J M G H) (P : Addr → Nat → List V → Hp → Hp → Prop) (hx : SqL K G a xs) (h0 : ∀ L, M L = none → G L = none → P L 0 [] (upd M L (.lst [])) G) (hG : ∀ L i acc M1 G1, P L i acc M1 G1 → Ex G G1) (hw : ∀ x, wipe ((wipe σ vs).set s (some x)) vs = wipe σ vs)
    (hs : ∀ L i x acc M1 G1 H1 (R : Bool → Hp → Prop), xs[i]? = some x → J M1 G1 H1 → M1 L = some (.lst acc) → P L i acc M1 G1 →
      (∀ b H3, (if b = true then te ((wipe σ vs).set s (some x)) H3 (fun y H4 => ∃ acc, H4 L = some (.lst acc) ∧ acc.length < sizeLine ∧ LcI P L (i + 1) (upd H4 L (.lst (acc ++ [y])))) else SkipL L acc (P L (i + 1)) H3) → R b H3) → tt ((wipe σ vs).set s (some x)) H1 R)
    (hd : ∀ L acc M1 G1 H1, J M1 G1 H1 → M1 L = some (.lst acc) → P L xs.length acc M1 G1 → Q (.ref L) H1) : LcL K (gName s) tt te vs σ (.ref a) H Q := by
  refine ⟨a, rfl, ⟨xs, sl_mono j.g hx⟩, fun L hL => lc_list (xs := xs) (LcI P L) ⟨[], _, _, j.newM hL, upd_same, h0 L (j.freeM hL) (j.freeG hL)⟩ (fun i H1 _ p => ?_) (fun i x H1 hi p => ?_) fun H1 p => ?_⟩
  · obtain ⟨acc, M1, G1, j1, e, p⟩ := p
    exact sl_mono ((hG _ _ _ _ _ p).trans j1.g) hx
  · obtain ⟨acc, M1, G1, j1, e, p⟩ := p
    refine ⟨hw _, ?_⟩
    refine hs L i x acc M1 G1 H1 _ hi j1 e p fun b H3 q => ?_
    cases b with
    | true => rw [if_pos rfl] at q ⊢; exact q
    | false =>
      rw [if_neg Bool.false_ne_true] at q ⊢
      obtain ⟨M3, G3, j3, e3, r⟩ := q
      exact ⟨acc, M3, G3, j3, e3, r⟩
  · obtain ⟨acc, M1, G1, j1, e, p⟩ := p
    exact hd L acc M1 G1 H1 j1 e p
theorem w_yes {R : Bool → Hp → Prop} (h : R true H) : tYes σ H R := h
/-! dicts -/
variable {kvs : List (Key × V)} {td ty tx tv : TE}
def Hd (M G : Hp) (a : Addr) (kvs : List (Key × V)) : Prop := M a = some (.dK kvs) ∨ Rd G a (.dK kvs)
theorem Hd.rd (j : J M G H) (h : Hd M G a kvs) : Rd H a (.dK kvs) := h.elim (fun h => .inl (j.m _ _ h)) (rd_same j.g)
theorem Hd.ofM (h : M a = some (.dK kvs)) : Hd M G a kvs := .inl h
theorem Hd.ofG (h : G a = some (.dK kvs)) : Hd M G a kvs := .inr (.inl h)
def GetA (x : V) (ty : TE) (σ : L2.St) (H1 : Hp) (Q : VK) : Prop := ∃ a, x = .ref a ∧ IsD H1 a ∧ ty σ H1 fun y H2 => ∃ o, DGet H2 a y o ∧ Q (o.getD .non) H2
def GetB (x : V) (ty tx : TE) (σ : L2.St) (H1 : Hp) (Q : VK) : Prop := ∃ a, x = .ref a ∧ IsD H1 a ∧ ty σ H1 fun y H2 => tx σ H2 fun z H3 => ∃ o, DGet H3 a y o ∧ Q (o.getD z) H3
def GetE (a : Addr) (y z : V) (H3 : Hp) (Q : VK) : Prop := ∃ o, DGet H3 a y o ∧ Q (o.getD z) H3
theorem w_dget1 (h : td σ H fun x H1 => GetA x ty σ H1 Q) : tDGet1 td ty σ H Q := h
theorem w_dget2 (h : td σ H fun x H1 => GetB x ty tx σ H1 Q) : tDGet2 td ty tx σ H Q := h
theorem w_getA (j : J M G H) (h : Hd M G a kvs) (q : ty σ H fun y H2 => GetE a y .non H2 Q) : GetA (.ref a) ty σ H Q := ⟨a, rfl, .inl ⟨kvs, h.rd j⟩, q⟩
theorem w_getB (j : J M G H) (h : Hd M G a kvs) (q : ty σ H fun y H2 => tx σ H2 fun z H3 => GetE a y z H3 Q) : GetB (.ref a) ty tx σ H Q := ⟨a, rfl, .inl ⟨kvs, h.rd j⟩, q⟩
theorem w_getE (j : J M G H) (h : Hd M G a kvs) (q : Q ((valV kvs (.inl m)).getD y) H) : GetE a (.int m) y H Q := ⟨_, .inl ⟨kvs, .inl m, h.rd j, rfl, rfl⟩, q⟩
def GetX (x y : V) (H2 : Hp) (Q : VK) : Prop := ∃ a v, x = .ref a ∧ DGet H2 a y (some v) ∧ Q v H2
theorem w_dget (h : td σ H fun x H1 => ty σ H1 fun y H2 => GetX x y H2 Q) : tDGet td ty σ H Q := h
theorem w_getX (j : J M G H) (h : Hd M G a kvs) (e : valV kvs (.inl m) = some v) (q : Q v H) : GetX (.ref a) (.int m) H Q := ⟨a, v, rfl, .inl ⟨kvs, .inl m, h.rd j, rfl, e.symm⟩, q⟩
def InX (neg : Bool) (x y : V) (H2 : Hp) (Q : VK) : Prop := ∃ a o, x = .ref a ∧ DGet H2 a y o ∧ Q (.bl (if neg then !o.isSome else o.isSome)) H2
theorem w_din (h : ty σ H fun y H1 => td σ H1 fun x H2 => InX false x y H2 Q) : tDIn ty td σ H Q := h
theorem w_dnotin (h : ty σ H fun y H1 => td σ H1 fun x H2 => InX true x y H2 Q) : tDNotIn ty td σ H Q := h
theorem w_inX (j : J M G H) (h : Hd M G a kvs) (q : Q (.bl (valV kvs (.inl m)).isSome) H) : InX false (.ref a) (.int m) H Q := ⟨a, _, rfl, .inl ⟨kvs, .inl m, h.rd j, rfl, rfl⟩, q⟩
theorem w_notinX (j : J M G H) (h : Hd M G a kvs) (q : Q (.bl (!(valV kvs (.inl m)).isSome)) H) : InX true (.ref a) (.int m) H Q := ⟨a, _, rfl, .inl ⟨kvs, .inl m, h.rd j, rfl, rfl⟩, q⟩
def PutX (x y v : V) (H3 : Hp) (R : Hp → Prop) : Prop := ∃ a H4, x = .ref a ∧ DPut H3 a y v H4 ∧ R H4
theorem w_dput (h : tv σ H fun v H1 => td σ H1 fun x H2 => ty σ H2 fun y H3 => PutX x y v H3 (D.nx σ)) : sDPut td ty tv D σ H := h
theorem w_putX {R : Hp → Prop} (j : J M G H) (h : M a = some (.dK kvs)) (z : kvs.length < 1000000) (q : ∀ H', J (upd M a (.dK (putK kvs (.inl m) v))) G H' → R H') : PutX (.ref a) (.int m) v H R :=
  ⟨a, _, rfl, .inl ⟨kvs, .inl m, j.m _ _ h, rfl, sz_lt z, rfl⟩, q _ (j.put h)⟩
def PopB (x : V) (ty tx : TE) (σ : L2.St) (H1 : Hp) (Q : VK) : Prop := ∃ a, x = .ref a ∧ IsD H1 a ∧ ty σ H1 fun y H2 => tx σ H2 fun z H3 => ∃ kvs k, H3 a = some (.dK kvs) ∧ y = kV k ∧
  (∀ v, valV kvs k = some v → Q v (upd H3 a (.dK (dropK kvs k)))) ∧ (valV kvs k = none → Q z H3)
def PopE (a : Addr) (y z : V) (H3 : Hp) (Q : VK) : Prop := ∃ kvs k, H3 a = some (.dK kvs) ∧ y = kV k ∧ (∀ v, valV kvs k = some v → Q v (upd H3 a (.dK (dropK kvs k)))) ∧ (valV kvs k = none → Q z H3)
theorem w_dpop2 (h : td σ H fun x H1 => PopB x ty tx σ H1 Q) : tDPop2 td ty tx σ H Q := h
theorem w_popB (j : J M G H) (h : M a = some (.dK kvs)) (q : ty σ H fun y H2 => tx σ H2 fun z H3 => PopE a y z H3 Q) : PopB (.ref a) ty tx σ H Q := ⟨a, rfl, .inl ⟨kvs, .inl (j.m _ _ h)⟩, q⟩
theorem dropK_none (h : valV kvs (.inl m : Key) = none) : dropK kvs (.inl m) = kvs := dropK_no (valV_not h)
theorem w_popE (j : J M G H) (h : M a = some (.dK kvs)) (q : ∀ v H', J (upd M a (.dK (dropK kvs (.inl m)))) G H' → Q v H') : PopE a (.int m) y H Q := by
  refine ⟨kvs, .inl m, j.m _ _ h, rfl, fun v _ => q v _ (j.put h), fun e => q y H ?_⟩
  rw [dropK_none e]
  have e2 : upd M a (.dK kvs) = M := by
    funext b; unfold upd; split
    · rename_i hb; rw [hb, h]
    · rfl
  rw [e2]; exact j
theorem w_lenD (j : J M G H) (h : M a = some (.dK kvs) ∨ G a = some (.dK kvs)) (q : Q (.int kvs.length) H) : uLen K [.ref a] H Q := .inr ⟨a, kvs, rfl, h.elim (j.m _ _) (j.g _ _), q⟩
/-- {} -/
theorem w_dnew (h : NewO (.dK []) 0 H Q) : tDNewK σ H Q := h.2
/-- isinstance -/
theorem w_isi (bb : Bool) {n cc : String} (h : TyX K H x (.type n)) (e : kitB n cc = some bb) (q : Q (.bl bb) H) : rIsi K [x, .ty cc] H Q := ⟨x, .ty cc, .type n, .type cc, bb, rfl, .ty cc, h, kit_ty e, q⟩
theorem ty_int : TyX K H (.int m) (.type "int") := .base (.int m)
theorem ty_bl {b : Bool} : TyX K H (.bl b) (.type "bool") := .base (.bl b)
theorem ty_str {z : Str} : TyX K H (.str z) (.type "str") := .base (.str z)
theorem ty_non : TyX K H .non (.type "NoneType") := .base .non
theorem ty_L (h : SqL K H a xs) : TyX K H (.ref a) (.type "list") := by
  rcases h with (h | ⟨o, h⟩) | ⟨o, _, _, h, c, _⟩
  · exact .base (.lst h)
  · exact .base (.frz h)
  · exact .kList h c
theorem ty_T (h : SqT K H a xs) : TyX K H (.ref a) (.type "tuple") := by
  rcases h with (h | ⟨o, h⟩) | ⟨o, _, _, h, c, _⟩
  · exact .base (.tup h)
  · exact .fTuple h
  · exact .kTuple h c
theorem ty_D (h : Rd H a (.dK kvs)) : TyX K H (.ref a) (.type "dict") := by
  rcases h with h | ⟨o, h⟩
  · exact .base (.dK h)
  · exact .fDict h
/-- dict(d), sorted(d), list(xs), tuple(xs) -/
def DictC (xs : List V) (H : Hp) (Q : VK) : Prop := ∃ (a : Addr) (kvs : List (Key × V)), xs = [.ref a] ∧ Rd H a (.dK kvs) ∧ ∀ p, H p = none → Q (.ref p) (upd H p (.dK kvs))
theorem w_dictC (j : J M G H) (h : Hd M G a kvs) (q : NewO (.dK kvs) 0 H Q) : DictC [.ref a] H Q := ⟨a, kvs, rfl, h.rd j, q.2⟩
def ListC (K : PySem.W.Frag) (xs : List V) (H : Hp) (Q : VK) : Prop := ∃ p ys, xs = [.ref p] ∧ (SqL K H p ys ∨ SqT K H p ys) ∧ ∀ l, H l = none → Q (.ref l) (upd H l (.lst ys))
theorem w_listC (h : SqL K H a xs ∨ SqT K H a xs) (q : NewO (.lst xs) 0 H Q) : ListC K [.ref a] H Q := ⟨a, xs, rfl, h, q.2⟩
def TupC (K : PySem.W.Frag) (xs : List V) (H : Hp) (Q : VK) : Prop := ∃ p ys, xs = [.ref p] ∧ ((SqL K H p ys ∧ ∀ l, H l = none → Q (.ref l) (upd H l (.tup ys))) ∨ (SqT K H p ys ∧ Q (.ref p) H))
theorem w_tupC (h : SqL K H a xs) (q : NewO (.tup xs) 0 H Q) : TupC K [.ref a] H Q := ⟨a, xs, rfl, .inl ⟨h, q.2⟩⟩
def SortD (xs : List V) (H : Hp) (Q : VK) : Prop := ∃ (a : Addr) (kvs : List (Key × V)) (ks : List Int), xs = [.ref a] ∧ Rd H a (.dK kvs) ∧ kvs.map (·.1) = ks.map Sum.inl ∧ ks.length < 64 ∧
    ∀ (ys : List Int) (p : Addr), ys.Perm ks → ys.Pairwise (· ≤ ·) → H p = none → Q (.ref p) (upd H p (.lst (ys.map V.int)))
theorem w_sortD {ks : List Int} (j : J M G H) (h : Hd M G a kvs) (e : kvs.map (·.1) = ks.map Sum.inl) (z : ks.length < 64) (q : ∀ ys : List Int, ys.Perm ks → ys.Pairwise (· ≤ ·) → NewO (.lst (ys.map V.int)) 0 H Q) : SortD [.ref a] H Q :=
  ⟨a, kvs, ks, rfl, h.rd j, e, z, fun ys p h1 h2 => (q ys h1 h2).2 p⟩
theorem w_cDict {tr : TA} (h : tr σ H fun vs H1 => DictC vs H1 Q) : tCB (fun xs H Q => ∃ (a : Addr) (kvs : List (Key × V)), xs = [.ref a] ∧ Rd H a (.dK kvs) ∧ ∀ p, H p = none → Q (.ref p) (upd H p (.dK kvs))) tr σ H Q := h
theorem w_cList {tr : TA} (h : tr σ H fun vs H1 => ListC K vs H1 Q) : tCB (fun xs H Q => ∃ p ys, xs = [.ref p] ∧ (SqL K H p ys ∨ SqT K H p ys) ∧ ∀ l, H l = none → Q (.ref l) (upd H l (.lst ys))) tr σ H Q := h
theorem w_cTup {tr : TA} (h : tr σ H fun vs H1 => TupC K vs H1 Q) : tCB (fun xs H Q => ∃ p ys, xs = [.ref p] ∧ ((SqL K H p ys ∧ ∀ l, H l = none → Q (.ref l) (upd H l (.tup ys))) ∨ (SqT K H p ys ∧ Q (.ref p) H))) tr σ H Q := h
theorem w_cSortD {tr : TA} (h : tr σ H fun vs H1 => SortD vs H1 Q) : tCB (fun xs H Q => ∃ (a : Addr) (kvs : List (Key × V)) (ks : List Int), xs = [.ref a] ∧ Rd H a (.dK kvs) ∧ kvs.map (·.1) = ks.map Sum.inl ∧ ks.length < 64 ∧
    ∀ (ys : List Int) (p : Addr), ys.Perm ks → ys.Pairwise (· ≤ ·) → H p = none → Q (.ref p) (upd H p (.lst (ys.map V.int)))) tr σ H Q := h
/-- x in xs, flat items -/
theorem w_inT {neg : Bool} (j : J M G H) (h : SqT K G a xs) (hx : flatV x = true) (hf : xs.all flatV = true) (q : Q (.bl (if neg then !inV x xs else inV x xs)) H) : rIn K neg x (.ref a) H Q := ⟨a, xs, rfl, .inr (st_mono j.g h), hx, hf, q⟩
theorem w_inL {neg : Bool} (j : J M G H) (h : SqL K G a xs) (hx : flatV x = true) (hf : xs.all flatV = true) (q : Q (.bl (if neg then !inV x xs else inV x xs)) H) : rIn K neg x (.ref a) H Q := ⟨a, xs, rfl, .inl (sl_mono j.g h), hx, hf, q⟩
end
section
variable {X : Cx} {K : PySem.W.Frag}
theorem call_listC (h : X.K = K) : CallR X (.type "list") (ListC K) := h ▸ call_list_of
theorem call_tupC (h : X.K = K) : CallR X (.type "tuple") (TupC K) := h ▸ call_tuple_of
theorem call_dictC : CallR X (.type "dict") DictC := call_dictD
theorem call_sortDC (hc : X.calm = true) : CallR X (.builtin "sorted") SortD := call_sortedDI hc
end
/-! ### errors of the program: raised, let through, caught -/
structure Xc (K : PySem.W.Frag) (mg : Str → Option Value) (x : Str) (C : Addr) : Prop where
  gP : mg x = some (.ref C)
  xP : PySem.W.excIn K C [.type "ValueError", .type "Exception", .type "BaseException", .type "object"] "ValueError.__new__" = true
  kP : PySem.W.keepIn K (.ref C) = true
  bP : PySem.W.subIn K (.ref C) (.type "BaseException") = some true
  tP : PySem.W.typeIn K (.ref C) = some (.type "type")
  hD : PySem.W.hasDictIn K C = true
  sP : PySem.W.subIn K (.ref C) (.ref C) = some true
  hg : PySem.W.findIn K (.ref C) "__getattribute__" = some (some (.builtin "BaseException.__getattribute__"))
  hk : PySem.W.findIn K (.ref C) "__getattr__" = some none
  ha : PySem.W.findIn K (.ref C) "__class__" = some (some (.builtin "object.__class__"))
  hn : PySem.W.specialIn K (.builtin "object.__class__") "__get__" = some (some (.builtin "getset_descriptor.__get__"))
  ht : PySem.W.takesIn K (.builtin "object.__class__") = some true
  hm : PySem.W.mroIn K C (.type "object") = some true
theorem Xc.excC {K : PySem.W.Frag} {mg : Str → Option Value} {x : Str} {C : Addr} (X : Xc K mg x C) : ExcC K C := ⟨X.hg, X.hk, X.bP, X.hD, X.ha, X.hn, X.ht, X.hm⟩
theorem Xc.exm {K : PySem.W.Frag} {mg : Str → Option Value} {x : Str} {C : Addr} (X : Xc K mg x C) : PySem.W.exmOne K (.ref C) (.ref C) = some true := PySem.W.exm_ref X.bP X.hD X.tP X.sP
theorem Xc.g {K : PySem.W.Frag} {mg : Str → Option Value} {x : Str} {C : Addr} (X : Xc K mg x C) : ∃ u, mg x = some u ∧ RelV (.ref C) u := ⟨_, X.gP, rfl⟩
/-- a promise that tells how it may raise -/
def Sx {α : Type} (pre : α → List V → Hp → Hp → Prop) (post : α → Hp → Hp → V → Hp → Hp → Prop) (exc : α → Hp → Hp → Addr → Hp → Hp → Prop) : Sp := fun vs H Q E =>
  ∃ a M G, J M G H ∧ pre a vs M G ∧ (∀ v M' G' H', J M' G' H' → Ex G G' → post a M G v M' G' → Q v H') ∧ ∀ C M' G' H', J M' G' H' → Ex G G' → exc a M G C M' G' → E (.ref C) none H'
theorem w_sx {α : Type} {pre : α → List V → Hp → Hp → Prop} {post : α → Hp → Hp → V → Hp → Hp → Prop} {exc : α → Hp → Hp → Addr → Hp → Hp → Prop} {vs : List V} {M G H : Hp} {Q : VK} {E : XK} (a : α) (j : J M G H) (hp : pre a vs M G)
    (k : ∀ v M' G' H', J M' G' H' → Ex G G' → post a M G v M' G' → Q v H') (kx : ∀ C M' G' H', J M' G' H' → Ex G G' → exc a M G C M' G' → E (.ref C) none H') : Sx pre post exc vs H Q E := ⟨a, M, G, j, hp, k, kx⟩
theorem Dn.okX {P : Program} {w : World} {K : PySem.W.Frag} {mg : Str → Option Value} {base : Heap} {x : Str} {st : Stmt} {ps : List Str} {f : Addr} {fd : FuncData} {N : List Str} {k : Nat} {sp : Sp} (D : Dn K mg x st ps f fd) (S : FnScope N ps (defScope st)) (len : ∀ vs H Q E, sp vs H Q E → vs.length = ps.length)
    (hbody : ∀ (cdv : Value) (A : Around) (outer : List Env) (s : Shared) (H : Hp) (vs : List V) (Q : VK) (E : XK), Room k (A.deeper (envOfC x (defScope st) s.heap.objs.size f cdv)) → sp vs H Q E →
      ∃ t, PSs (cxOf (L2.CX P w) P w K mg base N x (defScope st) f cdv A outer s H E) (defBody st) t ∧ t { nx := fun _ H' => Q .non H', rt := Q } (start N vs) H) : Cal P w K mg base (L2.CX P w) (k + 1) x sp :=
  D.cal (D.fn.okX S len hbody)
/-- a call of what may raise, where an error is wished for -/
theorem pe_calX {X : Cx} {k j : Nat} {x : Str} {sp : Sp} {p pos : Pos} {e : Expr} {es : List Expr} {t : TA} {W : WX} (c : Cal X.prog X.w X.K X.mg X.base (L2.CX X.prog X.w) k x sp) (hr : Room j X.A) (hk : k ≤ j) (hg : Gl X x) (tk : Takes X W) (ha : PA X (e :: es) t)
    (hdb : (x == ("__debug__" : Str)) = false := by decide) (he : starEach (e :: es) X.env = (false, eval e X.env) :: starEach es X.env := by rfl) (hpl : (backTo pos (starEach es X.env)).any (·.1) = false := by rfl) :
    PE X (.Call (.Name x p) (e :: es) [] pos) (tCallS sp (WE W) t) := by
  obtain ⟨f, fd, ps, F, hm, kp, b⟩ := c.ex
  exact pe_callS F (hr.mono hk) hg hm kp b (fun σ => passAt tk σ) ha hdb he hpl
theorem w_callS {sp : Sp} {E : L2.St → XK} {t : TA} {σ : L2.St} {H : Hp} {Q : VK} (h : t σ H fun vs H1 => sp vs H1 Q (E σ)) : tCallS sp E t σ H Q := h
def tRaiseA (C : Addr) (W : WX) : TS := fun _ σ H => W (.ref C) none σ H
theorem ps_raiseA {X : Cx} {W : WX} {x m : Str} {C : Addr} {j : Nat} {p p2 pos pos2 : Pos} (hc : X.calm = true) (tk : Takes X W) (h : Xc X.K X.mg x C) (hg : Gl X x) (hdb : (x == ("__debug__" : Str)) = false := by decide) :
    PS X (.Raise (some (.Call (.Name x p) [.Constant (.str m) j p2] [] pos)) none pos2) (tRaiseA C W) := ps_raise hc tk (pmk_own PySem.F.excBase_ValueError h.xP h.gP h.kP (raises_own h.bP h.tP) hg hdb)
theorem w_raise {C : Addr} {W : WX} {D : Ends} {σ : L2.St} {H : Hp} (h : W (.ref C) none σ H) : tRaiseA C W D σ H := h
def tTryA (K : PySem.W.Frag) (c : Value) (i : Nat) (tb : WX → TS) (ts : Addr → Value → Option Addr → TS) (Wout : WX) : TS := fun D σ H => tb (wAs K c i ts Wout D) D σ H
theorem w_tryA {K : PySem.W.Frag} {c : Value} {i : Nat} {tb : WX → TS} {ts : Addr → Value → Option Addr → TS} {Wout : WX} {D : Ends} {σ : L2.St} {H : Hp} (h : tb (wAs K c i ts Wout D) D σ H) : tTryA K c i tb ts Wout D σ H := h
theorem ps_tryA {X : Cx} {x n : Str} {c : Value} {i : Nat} {body suite : List Stmt} {b₀ : Stmt} {np pos pos' : Pos} {tb : WX → TS} {ts : Addr → Value → Option Addr → TS} {Wout : WX} (hs : X.stack = X.env :: X.outer) (hf : X.env.frame = some X.env.locals) (hN : X.N.Nodup) (hi : X.N[i]? = some n) (hln : X.env.kindOf n = some .local) (hc : Names X x c) (tk : Takes X Wout)
    (hb : ∀ (W : WX) (pn : List (Addr × Obj)) (xe : Value → Shared → Prop), Takes (X.tr pn xe) W → PassesOwn (model X.prog X.w) X.A X.env xe → PSs (X.tr pn xe) body (tb W))
    (hsu : ∀ (a : Addr) (oe : Obj) (cls : Value) (d : Option Addr) (pn : List (Addr × Obj)), Zc cls d oe → (∃ vs, oe.data = .fields vs) → PSs (X.suite a ((a, oe) :: pn)) (b₀ :: suite) (ts a cls d)) :
    PS X (.Try body [.ExceptHandler (some (.Name x np)) (some n) (b₀ :: suite) pos'] [] [] pos) (tTryA X.K c i tb ts Wout) := ps_try_as hs hf hN hi hln hc tk hb hsu
/-- a fact that the suite's rules want is asked of its reading -/
theorem pss_given {X : Cx} {b : List Stmt} {t : TS} {p : Prop} (h : p → PSs X b t) : PSs X b (fun D σ H => p ∧ t D σ H) := ⟨fun pins s σ H D I z => (h z.1).run pins s σ H D I z.2⟩
/-- what a caught error of the class C asks -/
theorem w_caught {K : PySem.W.Frag} {c : Value} {C : Addr} {i : Nat} {ts : Addr → Value → Option Addr → TS} {Wout : WX} {D : Ends} {σ : L2.St} {H : Hp} (e : PySem.W.exmOne K (.ref C) c = some true)
    (h : ∀ a, H a = none → ts a (.ref C) none { nx := fun σ' H' => D.nx (σ'.set i none) H', rt := D.rt, bk := fun σ' H' => D.bk (σ'.set i none) H', ct := fun σ' H' => D.ct (σ'.set i none) H' } (σ.set i (some (.ref a))) H) : wAs K c i ts Wout D (.ref C) none σ H :=
  ⟨true, e, fun _ => h, fun q => Bool.noConfusion q⟩
theorem w_isE {K : PySem.W.Frag} {D a C : Addr} {b : Bool} {H : Hp} {Q : VK} (e : PySem.W.kitOne K (.ref D) (.ref C) = some b) (q : Q (.bl b) H) : rIsE K D a [.ref a, .ref C] H Q := ⟨.ref C, .ref C, b, rfl, fun _ r => r, e, q⟩
theorem w_seqP {t : TS} {u : TS} {D : Ends} {σ : L2.St} {H : Hp} (Pm : L2.St → Hp → Prop) (rest : ∀ σ H, Pm σ H → u D σ H) (first : (∀ σ H, Pm σ H → u D σ H) → t { D with nx := u D } σ H) : tSeq t u D σ H := first rest
/-- a op1 b op2 c op3 d -/
def tChain3 (r1 r2 r3 : R2) (ta tb tc td : TE) : TE := fun σ H Q => ta σ H fun x H1 => tb σ H1 fun y H2 => r1 x y H2 fun z H3 => ∃ k, z = .bl k ∧
  (if k = true then tc σ H3 fun u H4 => r2 y u H4 fun z2 H5 => ∃ k2, z2 = .bl k2 ∧ (if k2 = true then td σ H5 fun v H6 => r3 u v H6 Q else Q (.bl false) H5) else Q (.bl false) H3)
theorem pe_chain3 {X : Cx} {o1 o2 o3 : CmpOp} {r1 r2 r3 : R2} {a b c d : Expr} {ta tb tc td : TE} {pos : Pos} (h1 : OpR X (compareOp o1) r1) (h2 : OpR X (compareOp o2) r2) (h3 : OpR X (compareOp o3) r3) (ha : PE X a ta) (hb : PE X b tb) (hc : PE X c tc) (hd : PE X d td)
    (hm : lastMarks [o1, o2, o3] [b, c, d] = false := by with_unfolding_all rfl) : PE X (.Compare a [o1, o2, o3] [b, c, d] pos) (tChain3 r1 r2 r3 ta tb tc td) := by
  refine ⟨fun pins s σ H Q I h => Compare_chain (thn (ha.run pins s σ H _ I h) fun v0 s1 ⟨x, H1, I1, q1, w1⟩ => chain_link (thn (hb.run pins s1 σ H1 _ I1 w1) fun u0 s2 ⟨y, H2, I2, q2, w2⟩ => thn (h1 pins s2 σ H2 x y v0 u0 _ I2 q1 q2 w2) fun e0 s3 ⟨z, H3, I3, q3, k, ez, w3⟩ => ?_)) hm⟩
  subst ez; cases q3
  refine wpAny_truthy_bool ?_
  cases k with
  | false => exact ite_ff ⟨.bl false, H3, I3, rfl, w3⟩
  | true =>
    refine ite_tt (chain_link (thn (hc.run pins s3 σ H3 _ I3 w3) fun u1 s4 ⟨y1, H4, I4, q4, w4⟩ => thn (h2 pins s4 σ H4 y y1 u0 u1 _ I4 q2 q4 w4) fun e1 s5 ⟨z1, H5, I5, q5, k1, ez1, w5⟩ => ?_))
    subst ez1; cases q5
    refine wpAny_truthy_bool ?_
    cases k1 with
    | false => exact ite_ff ⟨.bl false, H5, I5, rfl, w5⟩
    | true => exact ite_tt (chain_last (thn (hd.run pins s5 σ H5 _ I5 w5) fun u2 s6 ⟨y2, H6, I6, q6, w6⟩ => h3 pins s6 σ H6 y1 y2 u1 u2 Q I6 q4 q6 w6))
theorem w_chain3 {r1 r2 r3 : R2} {ta tb tc td : TE} {σ : L2.St} {H : Hp} {Q : VK} (h : ta σ H fun x H1 => tb σ H1 fun y H2 => r1 x y H2 fun z H3 => ∃ k, z = .bl k ∧
  (if k = true then tc σ H3 fun u H4 => r2 y u H4 fun z2 H5 => ∃ k2, z2 = .bl k2 ∧ (if k2 = true then td σ H5 fun v H6 => r3 u v H6 Q else Q (.bl false) H5) else Q (.bl false) H3)) : tChain3 r1 r2 r3 ta tb tc td σ H Q := h
/-- tuples that stand: what is behind + and a slice stands too -/
theorem w_catT {K : PySem.W.Frag} {M G H : Hp} {a b : Addr} {xs ys : List V} {Q : VK} (j : J M G H) (h1 : SqT K G a xs) (h2 : SqT K G b ys) (z : xs.length + ys.length ≤ 1000000)
    (k : ∀ p G' H', J M G' H' → Ex G G' → SqT K G' p (xs ++ ys) → Q (.ref p) H') : uAdd K (.ref a) (.ref b) H Q :=
  .inr (.inr ⟨a, b, xs, ys, rfl, rfl, st_mono j.g h1, st_mono j.g h2, sz_le z, fun e => k b G H j (Same.refl G) (by subst e; exact h2), fun _ e => k a G H j (Same.refl G) (by subst e; rw [List.append_nil]; exact h1),
    fun _ _ p hp => k p _ _ (j.newG hp) (Ex.new (j.freeG hp)) (st_of upd_same)⟩)
theorem cut_all {xs : List V} {lo hi : Option Int} (h : HT.sIx xs.length 0 lo = 0 ∧ HT.sIx xs.length xs.length hi = xs.length) : cutV xs lo hi = xs := by
  unfold cutV
  rw [h.1, h.2]
  simp
theorem w_slTG {K : PySem.W.Frag} {M G H : Hp} {a : Addr} {xs : List V} {lo hi : Option Int} {Q : VK} (j : J M G H) (h : SqT K G a xs)
    (k : ∀ p G' H', J M G' H' → Ex G G' → SqT K G' p (cutV xs lo hi) → Q (.ref p) H') : uSl K (.ref a) lo hi H Q :=
  w_slT j h (fun e => k a G H j (Same.refl G) (by rw [cut_all e]; exact h)) fun _ => ⟨Nat.zero_le _, fun p hp => k p _ _ (j.newG hp) (Ex.new (j.freeG hp)) (st_of upd_same)⟩
theorem cut_sub {xs : List V} {lo hi : Option Int} {v : V} (h : v ∈ cutV xs lo hi) : v ∈ xs := by
  unfold cutV at h
  first
    | exact List.mem_of_mem_drop (List.mem_of_mem_take h)
    | exact List.mem_of_mem_take (List.mem_of_mem_drop h)
theorem cut_len {xs : List V} {lo hi : Option Int} : (cutV xs lo hi).length ≤ xs.length := by
  unfold cutV
  simp only [List.length_take, List.length_drop]
  omega
theorem kit_no {K : PySem.W.Frag} {A B : Addr} (h0 : (Value.ref A == Value.ref B) = false) (h1 : PySem.W.isClsIn K B = true) (h2 : PySem.W.typeIn K (.ref B) = some (.type "type")) (h3 : PySem.W.subIn K (.ref A) (.ref B) = some false) : PySem.W.kitOne K (.ref A) (.ref B) = some false := by
  have e : ((PySem.W.clsIn K B).isSome && PySem.W.typeIn K (.ref B) == some (.type "type")) = true := by rw [show (PySem.W.clsIn K B).isSome = true from h1, h2]; rfl
  unfold PySem.W.kitOne
  rw [h0, if_neg Bool.false_ne_true]
  exact (if_pos e).trans h3
end Nz

namespace Nz
open PySem L2 PySem.Spec PyProof.Rows
local macro_rules
  | `(tactic| walk_at "v") => `(tactic| first
    | with_reducible refine w_asg ?_
    | ((with_reducible refine' w_var ?h ?_); (case h => rfl))
    | with_reducible refine w_c ?_
    | with_reducible refine w_op ?_
    | with_reducible refine w_if ?_
    | with_reducible refine w_test ?_
    | with_reducible refine w_bl ?_
    | with_reducible refine w_ret ?_
    | with_reducible refine w_gName ?_
    | with_reducible refine w_call ?_
    | with_reducible refine w_acons ?_
    | with_reducible refine w_anil ?_
    | with_reducible refine w_cDict ?_
    | with_reducible refine w_cList ?_
    | with_reducible refine w_cTup ?_
    | with_reducible refine w_cSortD ?_
    | with_reducible refine w_cb ?_
    | with_reducible refine w_next ?_
    | with_reducible refine w_drop ?_
    | with_reducible refine w_gSub ?_
    | with_reducible refine w_addI ?_
    | with_reducible refine w_I0 ?_
    | ((with_reducible refine' w_I ?hc ?_); (case hc => first | decide | exact ⟨by decide, by decide⟩ | exact ⟨by decide, by decide, by decide⟩))
    | ((with_reducible refine' w_mulI ?hc ?_); (case hc => first | exact .inr (by decide) | exact .inl (by decide)))
    | with_reducible refine w_eqI ?_
    | with_reducible refine w_neI ?_
    | with_reducible refine w_U ?_
    | with_reducible refine w_un ?_
    | with_reducible refine w_and ?_
    | with_reducible refine w_or ?_
    | with_reducible refine w_not ?_
    | with_reducible refine w_andV ?_
    | with_reducible refine w_orV ?_
    | with_reducible refine w_notV ?_
    | with_reducible refine w_ifE ?_
    | with_reducible refine w_isN ?_
    | with_reducible refine w_notN ?_
    | with_reducible refine w_tB ?_
    | with_reducible refine w_chain ?_
    | with_reducible refine w_chain3 ?_
    | with_reducible refine w_callS ?_
    | with_reducible refine w_raise ?_
    | with_reducible refine w_tryA ?_
    | with_reducible refine w_tup ?_
    | with_reducible refine w_lst ?_
    | with_reducible refine w_bm ?_
    | with_reducible refine w_sl ?_
    | with_reducible refine w_retN ?_
    | with_reducible refine w_forR ?_
    | ((with_reducible refine' w_eqS ?he ?_); (case he => first | exact decide_eq_true rfl | exact decide_eq_false (by decide +kernel)))
    | with_reducible refine w_T ?_
    | with_reducible refine w_nt ?_
    | with_reducible refine w_nf ?_
    | with_reducible refine w_F ?_
    | with_reducible refine w_part ?_
    | with_reducible refine w_partX ?_
    | with_reducible refine w_nopart ?_
    | with_reducible refine w_dget1 ?_
    | with_reducible refine w_dget2 ?_
    | with_reducible refine w_dget ?_
    | with_reducible refine w_din ?_
    | with_reducible refine w_dnotin ?_
    | with_reducible refine w_dput ?_
    | with_reducible refine w_dpop2 ?_
    | with_reducible refine w_dnew ?_
    | ((with_reducible refine' w_isi true ?hh ?e ?_); (case hh => first | exact ty_int | exact ty_bl | exact ty_str | exact ty_non); (case e => rfl))
    | ((with_reducible refine' w_isi false ?hh ?e ?_); (case hh => first | exact ty_int | exact ty_bl | exact ty_str | exact ty_non); (case e => rfl))
    | with_reducible refine w_lcR ?_
    | with_reducible refine w_lcL ?_)
local macro_rules
  | `(tactic| walk_at "w") => `(tactic| first | with_reducible refine w_seq ?_ | walk_at "v")
local macro_rules
  | `(tactic| walk_at "to") => `(tactic| ((repeat walk_at "v"); (try dsimp only [Int.reduceToNat, Int.reducePow, Int.reduceNeg, Int.reduceMul]); (with_reducible show tSeq _ _ _ _ _)))
local macro_rules
  | `(tactic| walk_at "go") => `(tactic| ((repeat walk_at "w"); (try dsimp only [Int.reduceToNat, Int.reducePow, Int.reduceNeg, Int.reduceMul])))
local macro_rules
  | `(tactic| walk_at "start") => `(tactic| ((try dsimp only [cxOf]); (repeat walk_at "w"); (try dsimp only [Int.reduceToNat, Int.reducePow, Int.reduceNeg, Int.reduceMul])))
local macro_rules
  | `(tactic| walk_at "ix") => `(tactic| first
    | refine w_ixT (by assumption) (st_of (by assumption)) (by rfl) ?_
    | refine w_ixL (by assumption) (sl_of (by assumption)) (by rfl) ?_
    | refine w_ixT (by assumption) (by assumption) (by rfl) ?_
    | refine w_ixL (by assumption) (by assumption) (by rfl) ?_
    | refine w_ixM (by assumption) (by assumption) (by rfl) ?_)
local macro_rules
  | `(tactic| walk_at "gx") => `(tactic| (repeat (first | walk_at "w" | walk_at "ix")); (try dsimp only [Int.reduceToNat, Int.reducePow, Int.reduceNeg, Int.reduceMul]))

def top (i : Nat) : Stmt := PySem.Challenge.pw_wholecloth_k07_records_are_rebuilt.main.body.getD i (.Pass ⟨0, 0, 0, 0⟩)
/-! ### classes: their facts, methods, makings, properties -/
theorem lk_ne {a k : Str} {b : V} {es : List (Str × V)} (h : ¬ a = k) : ((k, b) :: es).lookup a = es.lookup a := by
  have hb : (a == k) = false := beq_eq_false_iff_ne.mpr h
  simp only [List.lookup, hb]
theorem lk_eq {k : Str} {b : V} {es : List (Str × V)} : ((k, b) :: es).lookup k = some b := by
  have hb : (k == k) = true := beq_iff_eq.mpr rfl
  simp only [List.lookup, hb]
theorem pf_ne {f g : Str} {v x : V} {r r' : List (Str × V)} (h : ¬ g = f) (e : putF f v r = r') : putF f v ((g, x) :: r) = (g, x) :: r' := by
  show (if g = f then _ else _) = _
  rw [if_neg h, e]
theorem pf_eq {f : Str} {v x : V} {r : List (Str × V)} : putF f v ((f, x) :: r) = (f, v) :: r := if_pos rfl
theorem upd_self {M : Hp} {a : Addr} {o : HO} (h : M a = some o) : upd M a o = M := by
  funext b
  by_cases q : b = a
  · subst q; rw [upd_same, h]
  · rw [upd_ne q]
structure Dm (K : PySem.W.Frag) (C : Addr) (m q : Str) (st : Stmt) (ps : List Str) (f : Addr) (fd : FuncData) : Prop where
  fn : Fun K m q st f fd
  me : Meth K C m f
  bn : Binds K fd ps []
structure Di (K : PySem.W.Frag) (C : Addr) (q : Str) (st : Stmt) (ps : List Str) (f : Addr) (fd : FuncData) : Prop where
  fn : Fun K "__init__" q st f fd
  mke : Mk K C f
  bn : Binds K fd ps []
structure Dpr (K : PySem.W.Frag) (C : Addr) (m q : Str) (st : Stmt) (ps : List Str) (pf f : Addr) (fd : FuncData) : Prop where
  fn : Fun K m q st f fd
  pr : PropOf K C m pf f
  bn : Binds K fd ps []
structure CalM (P : Program) (w : World) (K : PySem.W.Frag) (mg : Str → Option Value) (base : Heap) (CX : CXT) (k : Nat) (C : Addr) (m : Str) (sp : Sp) : Prop where
  ex : ∃ (f : Addr) (fd : FuncData) (ps : List Str), FnOk P w K mg base CX k f fd ps sp ∧ Meth K C m f ∧ Binds K fd ps []
structure CalI (P : Program) (w : World) (K : PySem.W.Frag) (mg : Str → Option Value) (base : Heap) (CX : CXT) (k : Nat) (C : Addr) (sp : Sp) : Prop where
  ex : ∃ (f : Addr) (fd : FuncData) (ps : List Str), FnOk P w K mg base CX k f fd ps sp ∧ Mk K C f ∧ Binds K fd ps []
structure CalP (P : Program) (w : World) (K : PySem.W.Frag) (mg : Str → Option Value) (base : Heap) (CX : CXT) (k : Nat) (C : Addr) (m : Str) (sp : Sp) : Prop where
  ex : ∃ (p f : Addr) (fd : FuncData) (ps : List Str), FnOk P w K mg base CX k f fd ps sp ∧ PropOf K C m p f ∧ Binds K fd ps []
section
variable {P : Program} {w : World} {K : PySem.W.Frag} {mg : Str → Option Value} {base : Heap} {C : Addr} {m q : Str} {st : Stmt} {ps : List Str} {f pf : Addr} {fd : FuncData} {N : List Str} {k : Nat} {sp : Sp}
theorem Dm.ok (D : Dm K C m q st ps f fd) (S : FnScope N ps (defScope st)) (len : ∀ vs H Q E, sp vs H Q E → vs.length = ps.length)
    (hbody : ∀ (cdv : Value) (A : Around) (outer : List Env) (s : Shared) (H : Hp) (vs : List V) (Q : VK) (E : XK), Room k (A.deeper (envOfC q (defScope st) s.heap.objs.size f cdv)) → sp vs H Q E →
      ∃ t, PSs (cxOf CX0 P w K mg base N q (defScope st) f cdv A outer s H E).nox (defBody st) t ∧ t { nx := fun _ H' => Q .non H', rt := Q } (start N vs) H) : CalM P w K mg base CX0 (k + 1) C m sp :=
  ⟨f, fd, ps, D.fn.ok S len hbody, D.me, D.bn⟩
theorem Dm.okX (D : Dm K C m q st ps f fd) (S : FnScope N ps (defScope st)) (len : ∀ vs H Q E, sp vs H Q E → vs.length = ps.length)
    (hbody : ∀ (cdv : Value) (A : Around) (outer : List Env) (s : Shared) (H : Hp) (vs : List V) (Q : VK) (E : XK), Room k (A.deeper (envOfC q (defScope st) s.heap.objs.size f cdv)) → sp vs H Q E →
      ∃ t, PSs (cxOf (L2.CX P w) P w K mg base N q (defScope st) f cdv A outer s H E) (defBody st) t ∧ t { nx := fun _ H' => Q .non H', rt := Q } (start N vs) H) : CalM P w K mg base (L2.CX P w) (k + 1) C m sp :=
  ⟨f, fd, ps, D.fn.okX S len hbody, D.me, D.bn⟩
theorem Di.ok (D : Di K C q st ps f fd) (S : FnScope N ps (defScope st)) (len : ∀ vs H Q E, sp vs H Q E → vs.length = ps.length)
    (hbody : ∀ (cdv : Value) (A : Around) (outer : List Env) (s : Shared) (H : Hp) (vs : List V) (Q : VK) (E : XK), Room k (A.deeper (envOfC q (defScope st) s.heap.objs.size f cdv)) → sp vs H Q E →
      ∃ t, PSs (cxOf CX0 P w K mg base N q (defScope st) f cdv A outer s H E).nox (defBody st) t ∧ t { nx := fun _ H' => Q .non H', rt := Q } (start N vs) H) : CalI P w K mg base CX0 (k + 1) C sp :=
  ⟨f, fd, ps, D.fn.ok S len hbody, D.mke, D.bn⟩
theorem Dpr.ok (D : Dpr K C m q st ps pf f fd) (S : FnScope N ps (defScope st)) (len : ∀ vs H Q E, sp vs H Q E → vs.length = ps.length)
    (hbody : ∀ (cdv : Value) (A : Around) (outer : List Env) (s : Shared) (H : Hp) (vs : List V) (Q : VK) (E : XK), Room k (A.deeper (envOfC q (defScope st) s.heap.objs.size f cdv)) → sp vs H Q E →
      ∃ t, PSs (cxOf CX0 P w K mg base N q (defScope st) f cdv A outer s H E).nox (defBody st) t ∧ t { nx := fun _ H' => Q .non H', rt := Q } (start N vs) H) : CalP P w K mg base CX0 (k + 1) C m sp :=
  ⟨pf, f, fd, ps, D.fn.ok S len hbody, D.pr, D.bn⟩
end
section
variable {X : Cx} {k j : Nat} {C : Addr} {m x : Str} {sp : Sp} {p pos apos : Pos} {o e : Expr} {es : List Expr} {ta : TE} {t : TA}
theorem pe_calM (c : CalM X.prog X.w X.K X.mg X.base CX0 k C m sp) (cl : Cls X.K C) (hr : Room j X.A) (hk : k ≤ j) (ho : PE X o ta) (ha : PA X (e :: es) t) {pl : Sem Bool}
    (hst : starEach (e :: es) X.env = (false, eval e X.env) :: starEach es X.env := by rfl) (hpl : (backTo pos (starEach es X.env)).any (·.1) = false := by rfl)
    (ht : eval (.Call (.Attribute o m apos) (e :: es) [] pos) X.env = (do
      let ov ← eval o X.env
      standAt apos.atName
      let (f, first) ← holding [ov] (getMethod ov m pl)
      callWith pos f first (backTo pos (starEach (e :: es) X.env)) (backToKw pos (keywordEach [] X.env))) := by rfl) :
    PE X (.Call (.Attribute o m apos) (e :: es) [] pos) (tMeth C m sp [] E0 ta t) := by
  obtain ⟨f, fd, ps, F, me, b⟩ := c.ex
  exact pe_meth ho cl me F (hr.mono hk) b .nil pass0 ha hst hpl ht
theorem pe_calM0 (c : CalM X.prog X.w X.K X.mg X.base CX0 k C m sp) (cl : Cls X.K C) (hr : Room j X.A) (hk : k ≤ j) (ho : PE X o ta) {pl : Sem Bool}
    (ht : eval (.Call (.Attribute o m apos) [] [] pos) X.env = (do
      let ov ← eval o X.env
      standAt apos.atName
      let (f, first) ← holding [ov] (getMethod ov m pl)
      callWith pos f first (backTo pos (starEach [] X.env)) (backToKw pos (keywordEach [] X.env))) := by rfl) :
    PE X (.Call (.Attribute o m apos) [] [] pos) (tMeth C m sp [] E0 ta tNil) := by
  obtain ⟨f, fd, ps, F, me, b⟩ := c.ex
  exact pe_meth0 ho cl me F (hr.mono hk) b .nil pass0 ht
theorem pe_calI (c : CalI X.prog X.w X.K X.mg X.base CX0 k C sp) (gC : X.mg x = some (.ref C)) (hr : Room j X.A) (hk : k + 1 ≤ j) (hg : Gl X x) (ha : PA X (e :: es) t)
    (hdb : (x == ("__debug__" : Str)) = false := by decide) (he : starEach (e :: es) X.env = (false, eval e X.env) :: starEach es X.env := by rfl) (hpl : (backTo pos (starEach es X.env)).any (·.1) = false := by rfl) :
    PE X (.Call (.Name x p) (e :: es) [] pos) (tMake C sp [] E0 t) := by
  obtain ⟨f, fd, ps, F, mk, b⟩ := c.ex
  exact pe_make mk F (hr.mono hk) hg gC b .nil pass0 ha hdb he hpl
theorem pe_calI0 (c : CalI X.prog X.w X.K X.mg X.base CX0 k C sp) (gC : X.mg x = some (.ref C)) (hr : Room j X.A) (hk : k + 1 ≤ j) (hg : Gl X x)
    (hdb : (x == ("__debug__" : Str)) = false := by decide) : PE X (.Call (.Name x p) [] [] pos) (tMake C sp [] E0 tNil) := by
  obtain ⟨f, fd, ps, F, mk, b⟩ := c.ex
  exact pe_make0 mk F (hr.mono hk) hg gC b .nil pass0 hdb
theorem pe_calP (c : CalP X.prog X.w X.K X.mg X.base CX0 k C m sp) (cl : Cls X.K C) (hr : Room j X.A) (hk : k + 1 ≤ j) (ho : PE X o ta)
    (hab : attributeBase o m X.env (eval o X.env) = eval o X.env) : PE X (.Attribute o m pos) (tProp C sp [] E0 ta) := by
  obtain ⟨q, f, fd, ps, F, pr, b⟩ := c.ex
  exact pe_prop ho cl pr F (hr.mono hk) b .nil pass0 hab
end
/-! the steps -/
section
variable {K : PySem.W.Frag} {M G H : Hp} {σ : L2.St} {x y v : V} {ta tv : TE} {tr : TA} {Q : VK} {D : Ends} {a C dx : Addr} {fs : List (Str × V)} {f m : Str} {sp : Sp} {dvs : List V} {E : XK}
def FldX (K : PySem.W.Frag) (f : Str) (x : V) (H1 : Hp) (Q : VK) : Prop := ∃ a C dx fs v, x = .ref a ∧ H1 a = some (.ins C dx fs) ∧ Cls K C ∧ NoAttr K C f ∧ fs.lookup f = some v ∧ Q v H1
theorem w_fld (h : ta σ H fun x H1 => FldX K f x H1 Q) : tFld K ta f σ H Q := h
theorem w_fldM (j : J M G H) (h : M a = some (.ins C dx fs)) (c : Cls K C) (n : NoAttr K C f) (l : fs.lookup f = some v) (q : Q v H) : FldX K f (.ref a) H Q := ⟨a, C, dx, fs, v, rfl, j.m _ _ h, c, n, l, q⟩
theorem w_fldG (j : J M G H) (h : G a = some (.ins C dx fs)) (c : Cls K C) (n : NoAttr K C f) (l : fs.lookup f = some v) (q : Q v H) : FldX K f (.ref a) H Q := ⟨a, C, dx, fs, v, rfl, j.g _ _ h, c, n, l, q⟩
def SetX (K : PySem.W.Frag) (f : Str) (x y : V) (H2 : Hp) (R : Hp → Prop) : Prop := ∃ a C dx fs, x = .ref a ∧ H2 a = some (.ins C dx fs) ∧ Cls K C ∧ NoAttr K C f ∧ fs.length < 1000 ∧ R (upd H2 a (.ins C dx (putF f y fs)))
theorem w_sfld (h : tv σ H fun y H1 => ta σ H1 fun x H2 => SetX K f x y H2 (D.nx σ)) : sFld K ta tv f D σ H := h
theorem w_setX {R : Hp → Prop} (j : J M G H) (h : M a = some (.ins C dx fs)) (c : Cls K C) (n : NoAttr K C f) (l : fs.length < 1000) (q : ∀ H', J (upd M a (.ins C dx (putF f y fs))) G H' → R H') : SetX K f (.ref a) y H R :=
  ⟨a, C, dx, fs, rfl, j.m _ _ h, c, n, l, q _ (j.put h)⟩
def MethX (C : Addr) (m : Str) (sp : Sp) (dvs : List V) (E : XK) (t : TA) (σ : L2.St) (x : V) (H1 : Hp) (Q : VK) : Prop := ∃ a dx fs, x = .ref a ∧ H1 a = some (.ins C dx fs) ∧ fs.lookup m = none ∧ t σ H1 fun vs H2 => sp (x :: (vs ++ dvs)) H2 Q E
theorem w_meth (h : ta σ H fun x H1 => MethX C m sp dvs E tr σ x H1 Q) : tMeth C m sp dvs E ta tr σ H Q := h
theorem w_methM (j : J M G H) (h : M a = some (.ins C dx fs)) (l : fs.lookup m = none) (q : tr σ H fun vs H2 => sp (.ref a :: (vs ++ dvs)) H2 Q E) : MethX C m sp dvs E tr σ (.ref a) H Q := ⟨a, dx, fs, rfl, j.m _ _ h, l, q⟩
theorem w_methG (j : J M G H) (h : G a = some (.ins C dx fs)) (l : fs.lookup m = none) (q : tr σ H fun vs H2 => sp (.ref a :: (vs ++ dvs)) H2 Q E) : MethX C m sp dvs E tr σ (.ref a) H Q := ⟨a, dx, fs, rfl, j.g _ _ h, l, q⟩
def PropX (C : Addr) (sp : Sp) (dvs : List V) (E : XK) (x : V) (H1 : Hp) (Q : VK) : Prop := ∃ a dx fs, x = .ref a ∧ H1 a = some (.ins C dx fs) ∧ sp (.ref a :: dvs) H1 Q E
theorem w_prop (h : ta σ H fun x H1 => PropX C sp dvs E x H1 Q) : tProp C sp dvs E ta σ H Q := h
theorem w_propM (j : J M G H) (h : M a = some (.ins C dx fs)) (q : sp (.ref a :: dvs) H Q E) : PropX C sp dvs E (.ref a) H Q := ⟨a, dx, fs, rfl, j.m _ _ h, q⟩
theorem w_propG (j : J M G H) (h : G a = some (.ins C dx fs)) (q : sp (.ref a :: dvs) H Q E) : PropX C sp dvs E (.ref a) H Q := ⟨a, dx, fs, rfl, j.g _ _ h, q⟩
/-- C(..): what is asked behind the arguments -/
def MakeX (C : Addr) (sp : Sp) (dvs : List V) (E : XK) (vs : List V) (H1 : Hp) (Q : VK) : Prop := ∀ x dx, H1 x = none → H1 dx = none → dx ≠ x →
  sp (.ref x :: (vs ++ dvs)) (upd (upd H1 dx (.own x)) x (.ins C dx [])) (fun v H2 => v = .non ∧ Q (.ref x) H2) E
theorem w_make (h : tr σ H fun vs H1 => MakeX C sp dvs E vs H1 Q) : tMake C sp dvs E tr σ H Q := h
/-- a new instance, owned; its dict stands nowhere in M, G -/
theorem w_makeX {vs : List V} (j : J M G H) (q : ∀ x dx H', J (upd M x (.ins C dx [])) G H' → M x = none → G x = none → sp (.ref x :: (vs ++ dvs)) H' (fun v H2 => v = .non ∧ Q (.ref x) H2) E) : MakeX C sp dvs E vs H Q := by
  intro x dx hx hd ne
  have j1 : J M G (upd H dx (.own x)) := ⟨fun a o e => by rw [upd_ne (ne_of_none (j.m a o e) hd)]; exact j.m a o e, fun a o e => by rw [upd_ne (ne_of_none (j.g a o e) hd)]; exact j.g a o e, j.d⟩
  exact q x dx _ (j1.newM (by rw [upd_ne ne.symm]; exact hx)) (j.freeM hx) (j.freeG hx)
end
/-! zip of two lists, as far as both go -/
def ZipX (K : PySem.W.Frag) (g : TG) (t : TS) (D : Ends) (σ : L2.St) (vs : List V) (H1 : Hp) : Prop := ∃ a b xs ys, vs = [.ref a, .ref b] ∧ SqL K H1 a xs ∧ SqL K H1 b ys ∧ ∃ W : Nat → Nat → L2.St → Hp → Prop, (∃ m, W 0 m σ H1) ∧ ∀ i m σ H, W i m σ H →
      ((Itz K a b).stop i H ∧ D.nx σ H) ∨ ((Itz K a b).go i H ∧ ∃ N : L2.St → Hp → Prop, (∀ σ' H', N σ' H' → ∃ m', m' < m ∧ W (i + 1) m' σ' H') ∧ ∀ v H', (Itz K a b).yld i H v H' → g v σ H' fun σ2 H2 => t { D with nx := N, ct := N, bk := D.nx } σ2 H2)
theorem w_forZ {K : PySem.W.Frag} {ta : TA} {g : TG} {t : TS} {D : Ends} {σ : L2.St} {H : Hp} (h : ta σ H fun vs H1 => ZipX K g t D σ vs H1) : tFor (iZip K ta) g t D σ H := h
theorem w_zip {K : PySem.W.Frag} {a b : Addr} {xs ys : List V} {g : TG} {tb : TS} {D : Ends} {σ : L2.St} {H : Hp} (Pv : Nat → L2.St → Hp → Prop) (h0 : Pv 0 σ H) (hq : ∀ i σ H, Pv i σ H → SqL K H a xs ∧ SqL K H b ys)
    (hs : ∀ (i : Nat) (x y : V) (T : Addr) (σ : L2.St) (H : Hp), xs[i]? = some x → ys[i]? = some y → Pv i σ H → H T = none → g (.ref T) σ (upd H T (.tup [x, y])) fun σ2 H2 => tb { D with nx := Pv (i + 1), ct := Pv (i + 1), bk := D.nx } σ2 H2) (hd : ∀ σ H, Pv (min xs.length ys.length) σ H → D.nx σ H) :
    ZipX K g tb D σ [.ref a, .ref b] H := by
  obtain ⟨q1, q2⟩ := hq 0 σ H h0
  refine ⟨a, b, xs, ys, rfl, q1, q2, fun i m σ H => m = min xs.length ys.length - i ∧ i ≤ min xs.length ys.length ∧ Pv i σ H, ⟨_, rfl, Nat.zero_le _, h0⟩, ?_⟩
  rintro i m σ H ⟨rfl, hi, p⟩
  obtain ⟨qx, qy⟩ := hq i σ H p
  by_cases hlt : i < min xs.length ys.length
  · have hx : xs[i]? = some xs[i] := List.getElem?_eq_getElem (by omega)
    have hy : ys[i]? = some ys[i] := List.getElem?_eq_getElem (by omega)
    refine .inr ⟨⟨xs, ys, _, _, qx, qy, hx, hy⟩, Pv (i + 1), fun σ' H' p' => ⟨min xs.length ys.length - (i + 1), by omega, rfl, hlt, p'⟩, fun v H' y => ?_⟩
    obtain ⟨T, x', y', rfl, hT, rfl, f1, f2⟩ := y
    exact hs i x' y' T σ H (f1 xs qx) (f2 ys qy) p hT
  · have e : i = min xs.length ys.length := by omega
    subst e
    exact .inl ⟨⟨xs, ys, qx, qy, by omega⟩, hd σ H p⟩
/-! for x in e, e a list -/
def ForX (K : PySem.W.Frag) (g : TG) (t : TS) (D : Ends) (σ : L2.St) (x : V) (H1 : Hp) : Prop := ∃ a, x = .ref a ∧ (∃ xs, SqL K H1 a xs) ∧ ∃ W : Nat → Nat → L2.St → Hp → Prop, (∃ m, W 0 m σ H1) ∧ ∀ i m σ H, W i m σ H →
      ((Itl K a).stop i H ∧ D.nx σ H) ∨ ((Itl K a).go i H ∧ ∃ N : L2.St → Hp → Prop, (∀ σ' H', N σ' H' → ∃ m', m' < m ∧ W (i + 1) m' σ' H') ∧ ∀ x H', (Itl K a).yld i H x H' → g x σ H' fun σ2 H2 => t { D with nx := N, ct := N, bk := D.nx } σ2 H2)
theorem w_forE {K : PySem.W.Frag} {tl : TE} {g : TG} {t : TS} {D : Ends} {σ : L2.St} {H : Hp} (h : tl σ H fun x H1 => ForX K g t D σ x H1) : tFor (iList K tl) g t D σ H := h
theorem w_forX {K : PySem.W.Frag} {a : Addr} {xs : List V} {g : TG} {t : TS} {D : Ends} {σ : L2.St} {H : Hp} (Pv : Nat → L2.St → Hp → Prop) (h0 : Pv 0 σ H) (hl : ∀ i σ H, i ≤ xs.length → Pv i σ H → SqL K H a xs)
    (hs : ∀ i x σ H, xs[i]? = some x → Pv i σ H → g x σ H fun σ2 H2 => t { D with nx := Pv (i + 1), ct := Pv (i + 1), bk := D.nx } σ2 H2) (hd : ∀ σ H, Pv xs.length σ H → D.nx σ H) : ForX K g t D σ (.ref a) H :=
  ⟨a, rfl, ⟨xs, hl 0 σ H (Nat.zero_le _) h0⟩, for_list Pv h0 hl hs hd⟩
local macro_rules
  | `(tactic| walk_at "v") => `(tactic| first
    | with_reducible refine w_fld ?_
    | with_reducible refine w_sfld ?_
    | with_reducible refine w_meth ?_
    | with_reducible refine w_prop ?_
    | with_reducible refine w_make ?_
    | with_reducible refine w_forZ ?_
    | with_reducible refine w_forE (tl := tFld _ _ _) ?_
    | with_reducible refine w_forE (tl := tOp _ _ _) ?_
    | with_reducible refine w_forE (tl := tCB _ _) ?_
    | with_reducible refine w_forE (tl := tLst _) ?_)
def ForTX (K : PySem.W.Frag) (g : TG) (t : TS) (D : Ends) (σ : L2.St) (x : V) (H1 : Hp) : Prop := ∃ a, x = .ref a ∧ (∃ xs, SqT K H1 a xs) ∧ ∃ W : Nat → Nat → L2.St → Hp → Prop, (∃ m, W 0 m σ H1) ∧ ∀ i m σ H, W i m σ H →
      ((Itt K a).stop i H ∧ D.nx σ H) ∨ ((Itt K a).go i H ∧ ∃ N : L2.St → Hp → Prop, (∀ σ' H', N σ' H' → ∃ m', m' < m ∧ W (i + 1) m' σ' H') ∧ ∀ x H', (Itt K a).yld i H x H' → g x σ H' fun σ2 H2 => t { D with nx := N, ct := N, bk := D.nx } σ2 H2)
theorem w_forTE {K : PySem.W.Frag} {tl : TE} {g : TG} {t : TS} {D : Ends} {σ : L2.St} {H : Hp} (h : tl σ H fun x H1 => ForTX K g t D σ x H1) : tFor (iTup K tl) g t D σ H := h
theorem w_forTX {K : PySem.W.Frag} {a : Addr} {xs : List V} {g : TG} {t : TS} {D : Ends} {σ : L2.St} {H : Hp} (Pv : Nat → L2.St → Hp → Prop) (h0 : Pv 0 σ H) (hl : ∀ i σ H, i ≤ xs.length → Pv i σ H → SqT K H a xs)
    (hs : ∀ i x σ H, xs[i]? = some x → Pv i σ H → g x σ H fun σ2 H2 => t { D with nx := Pv (i + 1), ct := Pv (i + 1), bk := D.nx } σ2 H2) (hd : ∀ σ H, Pv xs.length σ H → D.nx σ H) : ForTX K g t D σ (.ref a) H :=
  ⟨a, rfl, ⟨xs, hl 0 σ H (Nat.zero_le _) h0⟩, for_tup Pv h0 hl hs hd⟩
local macro_rules
  | `(tactic| walk_at "v") => `(tactic| first
    | with_reducible refine w_forTE (tl := tFld _ _ _) ?_
    | with_reducible refine w_forTE (tl := tOp _ _ _) ?_
    | with_reducible refine w_forTE (tl := tC _) ?_
    | with_reducible refine w_forE (tl := tC _) ?_
    | with_reducible refine w_forTE (tl := tCall _ _ _ _) ?_
    | with_reducible refine w_forE (tl := tCall _ _ _ _) ?_)
/-! ### records -/
/-- x is True, x is False, whatever x is -/
def rIsB : R2 := fun x y H Q => ∃ b, y = .bl b ∧ Q (.bl (decide (x = .bl b))) H
theorem op_isB {X : Cx} : OpR X (compareOp .Is) rIsB := by
  intro pins s σ H x y v u Q I rx ry h
  obtain ⟨b, rfl, q⟩ := h
  cases (show u = Value.bool b from ry)
  have ne : ∀ {v : Value}, plainIs v (.bool b) = true → v ≠ .bool b → x ≠ .bl b → wpAny (model X.prog X.w) X.A (compareOp .Is v (.bool b)) (EP X pins σ Q) X.xe s := fun hp hv hx =>
    wpAny_is_other hp hv ⟨.bl false, H, I, rfl, by rw [decide_eq_false hx] at q; exact q⟩
  cases x with
  | bl a =>
    cases (show v = Value.bool a from rx)
    by_cases e : a = b
    · subst e
      exact wpAny_is_self rfl ⟨.bl true, H, I, rfl, by simpa using q⟩
    · exact ne rfl (fun z => e (Value.bool.inj z)) fun z => e (V.bl.inj z)
  | non => cases (show v = Value.none from rx); exact ne rfl (fun z => nomatch z) fun z => nomatch z
  | int i => obtain ⟨t, rfl⟩ := (show ∃ t, v = Value.int i t from rx); exact ne rfl (fun z => nomatch z) fun z => nomatch z
  | str i => obtain ⟨t, rfl⟩ := (show ∃ t, v = Value.str i t from rx); exact ne rfl (fun z => nomatch z) fun z => nomatch z
  | byt i => obtain ⟨t, rfl⟩ := (show ∃ t, v = Value.bytes i t from rx); exact ne rfl (fun z => nomatch z) fun z => nomatch z
  | flt i => obtain ⟨t, rfl⟩ := (show ∃ t, v = Value.float i t from rx); exact ne rfl (fun z => nomatch z) fun z => nomatch z
  | ref i => cases (show v = Value.ref i from rx); exact ne rfl (fun z => nomatch z) fun z => nomatch z
  | ty i => cases (show v = Value.type i from rx); exact ne rfl (fun z => nomatch z) fun z => nomatch z
theorem w_isB {x : V} {b : Bool} {H : Hp} {Q : VK} (q : Q (.bl (decide (x = .bl b))) H) : rIsB x (.bl b) H Q := ⟨b, rfl, q⟩
inductive Rc where
  | non
  | bl (b : Bool)
  | int (i : Int)
  | str (s : Str)
  | tup (xs : List Rc)
  | oth
def WD : List Str := ["decided", "read", "away", "busy", "rows", "prepare", "prepared", "stale", "decide", "missing", "drop", "finish", "split", "none", "unknown", "next", "time", "counter", "table", "members", "follower", "candidate", "leader", "ask", "vote", "copy", "base", "got", "make", "term", "entry"]
def idxW (s : Str) : List Str → Nat
  | [] => 0
  | x :: r => if x = s then 0 else idxW s r + 1
theorem idxW_at {s : Str} : ∀ {l : List Str}, s ∈ l → l[idxW s l]? = some s ∧ ∀ m, m < idxW s l → l[m]? ≠ some s
  | [], h => by cases h
  | x :: r, h => by
    by_cases e : x = s
    · subst e
      rw [show idxW x (x :: r) = 0 from if_pos rfl]
      exact ⟨rfl, fun m hm => absurd hm (Nat.not_lt_zero m)⟩
    · rw [show idxW s (x :: r) = idxW s r + 1 from if_neg e]
      have hr : s ∈ r := by
        rcases List.mem_cons.mp h with h | h
        · exact absurd h.symm e
        · exact h
      obtain ⟨h1, h2⟩ := idxW_at hr
      refine ⟨by simpa using h1, fun m hm => ?_⟩
      cases m with
      | zero => intro z; exact e (Option.some.inj z)
      | succ m => simpa using h2 m (by omega)
def idx (s : Str) : Nat := idxW s WD
mutual
def cellsM : Rc → List Int
  | .non => [1]
  | .bl b => [2 + if b = true then 1 else 0]
  | .int i => [0, i]
  | .str s => [4, (idx s : Int)]
  | .tup xs => 5 :: (xs.length : Int) :: cellsL xs
  | .oth => []
def cellsL : List Rc → List Int
  | [] => []
  | x :: r => cellsM x ++ cellsL r
end
mutual
def goodM (n : Nat) : Rc → Bool
  | .non => true
  | .bl _ => true
  | .int _ => true
  | .str s => decide (s ∈ WD)
  | .tup xs => match n with
    | 0 => false
    | n + 1 => goodL n xs
  | .oth => false
def goodL (n : Nat) : List Rc → Bool
  | [] => true
  | x :: r => goodM n x && goodL n r
end
mutual
/-- nothing strange within -/
def pureM : Rc → Bool
  | .str s => decide (s ∈ WD)
  | .tup xs => pureL xs
  | .oth => false
  | .non => true
  | .bl _ => true
  | .int _ => true
def pureL : List Rc → Bool
  | [] => true
  | x :: r => pureM x && pureL r
end
mutual
def depthM : Rc → Nat
  | .tup xs => 1 + depthL xs
  | .str _ => 0
  | .oth => 0
  | .non => 0
  | .bl _ => 0
  | .int _ => 0
def depthL : List Rc → Nat
  | [] => 0
  | x :: r => max (depthM x) (depthL r)
end
mutual
theorem good_iff : ∀ (n : Nat) (r : Rc), goodM n r = (pureM r && decide (depthM r ≤ n))
  | n, .non => by simp [goodM, pureM, depthM]
  | n, .bl _ => by simp [goodM, pureM, depthM]
  | n, .int _ => by simp [goodM, pureM, depthM]
  | n, .str s => by simp [goodM, pureM, depthM]
  | n, .oth => by simp [goodM, pureM]
  | 0, .tup xs => by
    have h : ¬ (depthM (.tup xs) ≤ 0) := by simp only [depthM]; omega
    rw [decide_eq_false h, Bool.and_false]
    simp only [goodM]
  | n + 1, .tup xs => by
    simp only [goodM, pureM, depthM]
    rw [goods_iff n xs]
    congr 1
    exact decide_eq_decide.mpr (by omega)
theorem goods_iff : ∀ (n : Nat) (xs : List Rc), goodL n xs = (pureL xs && decide (depthL xs ≤ n))
  | n, [] => by simp [goodL, pureL, depthL]
  | n, x :: r => by
    have e : decide (depthL (x :: r) ≤ n) = (decide (depthM x ≤ n) && decide (depthL r ≤ n)) := by
      rw [← Bool.decide_and]; exact decide_eq_decide.mpr (by rw [depthL]; omega)
    rw [e, goodL, pureL, good_iff n x, goods_iff n r]
    cases pureM x <;> cases pureL r <;> cases decide (depthM x ≤ n) <;> cases decide (depthL r ≤ n) <;> rfl
end
mutual
inductive RcAt (K : PySem.W.Frag) (G : Hp) : V → Rc → Prop
  | non : RcAt K G .non .non
  | bl (b : Bool) : RcAt K G (.bl b) (.bl b)
  | int (i : Int) : RcAt K G (.int i) (.int i)
  | str (s : Str) : RcAt K G (.str s) (.str s)
  | tup {a : Addr} {xs : List V} {rs : List Rc} : SqT K G a xs → RcsAt K G xs rs → RcAt K G (.ref a) (.tup rs)
  | lst {a : Addr} {xs : List V} : SqL K G a xs → RcAt K G (.ref a) .oth
  | dic {a : Addr} {kvs : List (Key × V)} : Rd G a (.dK kvs) → RcAt K G (.ref a) .oth
inductive RcsAt (K : PySem.W.Frag) (G : Hp) : List V → List Rc → Prop
  | nil : RcsAt K G [] []
  | cons {v : V} {vs : List V} {r : Rc} {rs : List Rc} : RcAt K G v r → RcsAt K G vs rs → RcsAt K G (v :: vs) (r :: rs)
end
mutual
theorem RcAt.ex {K : PySem.W.Frag} {G G' : Hp} (e : Ex G G') : ∀ {v : V} {r : Rc}, RcAt K G v r → RcAt K G' v r
  | _, _, .non => .non
  | _, _, .bl b => .bl b
  | _, _, .int i => .int i
  | _, _, .str x => .str x
  | _, _, .tup h t => .tup (st_mono e h) (RcsAt.ex e t)
  | _, _, .lst h => .lst (sl_mono e h)
  | _, _, .dic h => .dic (rd_same e h)
theorem RcsAt.ex {K : PySem.W.Frag} {G G' : Hp} (e : Ex G G') : ∀ {vs : List V} {rs : List Rc}, RcsAt K G vs rs → RcsAt K G' vs rs
  | _, _, .nil => .nil
  | _, _, .cons h t => .cons (RcAt.ex e h) (RcsAt.ex e t)
end
theorem RcsAt.len {K : PySem.W.Frag} {G : Hp} : ∀ {vs : List V} {rs : List Rc}, RcsAt K G vs rs → vs.length = rs.length
  | _, _, .nil => rfl
  | _, _, .cons _ t => by rw [List.length_cons, List.length_cons, t.len]
theorem RcsAt.get {K : PySem.W.Frag} {G : Hp} : ∀ {vs : List V} {rs : List Rc} {i : Nat} {v : V}, RcsAt K G vs rs → vs[i]? = some v → ∃ r, rs[i]? = some r ∧ RcAt K G v r
  | _, _, _, _, .nil, e => by simp at e
  | _, _, 0, _, .cons h t, e => ⟨_, rfl, by have e := Option.some.inj e; subst e; exact h⟩
  | _, _, i + 1, _, .cons h t, e => by
    obtain ⟨x, h1, h2⟩ := t.get (i := i) (by simpa using e)
    exact ⟨x, by simpa using h1, h2⟩
theorem RcsAt.snoc {K : PySem.W.Frag} {G : Hp} {v : V} {r : Rc} (h : RcAt K G v r) : ∀ {vs : List V} {rs : List Rc}, RcsAt K G vs rs → RcsAt K G (vs ++ [v]) (rs ++ [r])
  | _, _, .nil => .cons h .nil
  | _, _, .cons a t => .cons a (t.snoc h)
theorem cellsL_append : ∀ (xs ys : List Rc), cellsL (xs ++ ys) = cellsL xs ++ cellsL ys
  | [], ys => rfl
  | x :: r, ys => by rw [List.cons_append, cellsL, cellsL, cellsL_append r ys, List.append_assoc]
theorem goodL_append (n : Nat) : ∀ (xs ys : List Rc), goodL n (xs ++ ys) = (goodL n xs && goodL n ys)
  | [], ys => by rw [List.nil_append, goodL, Bool.true_and]
  | x :: r, ys => by rw [List.cons_append, goodL, goodL, goodL_append n r ys, Bool.and_assoc]
theorem pureL_append : ∀ (xs ys : List Rc), pureL (xs ++ ys) = (pureL xs && pureL ys)
  | [], ys => by rw [List.nil_append, pureL, Bool.true_and]
  | x :: r, ys => by rw [List.cons_append, pureL, pureL, pureL_append r ys, Bool.and_assoc]
theorem depthL_append : ∀ (xs ys : List Rc), depthL (xs ++ ys) = max (depthL xs) (depthL ys)
  | [], ys => by rw [List.nil_append, depthL]; omega
  | x :: r, ys => by rw [List.cons_append, depthL, depthL, depthL_append r ys]; omega
theorem cells_get {xs : List Rc} {i : Nat} {r : Rc} (h : xs[i]? = some r) : xs.take (i + 1) = xs.take i ++ [r] ∧ (cellsL (xs.take i)).length + (cellsM r).length ≤ (cellsL xs).length := by
  have e : xs.take (i + 1) = xs.take i ++ [r] := by rw [List.take_add_one, h]; rfl
  refine ⟨e, ?_⟩
  have e2 : xs = xs.take (i + 1) ++ xs.drop (i + 1) := (List.take_append_drop _ _).symm
  have e3 : cellsL xs = cellsL (xs.take i) ++ cellsM r ++ cellsL (xs.drop (i + 1)) := by
    conv => lhs; rw [e2, e]
    rw [cellsL_append, cellsL_append]
    simp only [cellsL, List.append_nil]
  rw [e3, List.length_append, List.length_append]; omega
theorem in_WD {s : Str} : inV (.str s) (WD.map V.str) = decide (s ∈ WD) := by
  have h : ∀ l : List Str, inV (.str s) (l.map V.str) = decide (s ∈ l) := fun l => by
    induction l with
    | nil => rfl
    | cons x r ih =>
      show (eqV (.str x) (.str s) || inV (.str s) (r.map V.str)) = _
      rw [ih]
      show ((x == s) || decide (s ∈ r)) = _
      by_cases e : x = s
      · subst e; simp
      · rw [beq_eq_false_iff_ne.mpr e, Bool.false_or]
        exact decide_eq_decide.mpr ⟨fun h => List.mem_cons_of_mem _ h, fun h => (List.mem_cons.mp h).elim (fun z => absurd z.symm e) id⟩
  exact h WD
theorem flat_WD : (WD.map V.str).all flatV = true := by
  rw [List.all_map]; exact List.all_eq_true.mpr fun x _ => rfl
def spNone : Sp := fun _ _ _ _ => False
/-! ### cells read -/
def partsM (f : Nat → Option (Rc × Nat)) : Nat → Nat → Option (List Rc × Nat)
  | 0, at_ => some ([], at_)
  | k + 1, at_ => (f at_).bind fun x => (partsM f k x.2).map fun y => (x.1 :: y.1, y.2)
/-- the tuple whose length stands at a place -/
def tupQ (cs : List Int) (at_ : Nat) (f : Option (Nat → Option (Rc × Nat))) : Option (Rc × Nat) :=
  (cs[at_]?).bind fun len => if 0 ≤ len ∧ len ≤ (cs.length : Int) - (at_ + 1) then (f.bind fun f => (partsM f len.toNat (at_ + 1)).map fun y => (.tup y.1, y.2)) else none
def wordQ (cs : List Int) (at_ : Nat) : Option Str := (cs[at_]?).bind fun i => if 0 ≤ i ∧ i < 31 then WD[i.toNat]? else none
def leafQ (cs : List Int) (at_ : Nat) (f : Option (Nat → Option (Rc × Nat))) : Option (Rc × Nat) :=
  (cs[at_]?).bind fun t => if t = 0 then (cs[at_ + 1]?).map fun i => (.int i, at_ + 2) else if t = 1 then some (.non, at_ + 1) else if t = 2 then some (.bl false, at_ + 1) else if t = 3 then some (.bl true, at_ + 1)
    else if t = 4 then (wordQ cs (at_ + 1)).map fun s => (.str s, at_ + 2) else if t = 5 then tupQ cs (at_ + 1) f else none
def qM (cs : List Int) : Nat → Nat → Option (Rc × Nat)
  | 0, at_ => leafQ cs at_ none
  | n + 1, at_ => leafQ cs at_ (some fun a => qM cs n a)
def recQ (cs : List Int) : Nat → Option (Nat → Option (Rc × Nat))
  | 0 => none
  | n + 1 => some fun a => qM cs n a
theorem qM_eq (cs : List Int) (n at_ : Nat) : qM cs n at_ = leafQ cs at_ (recQ cs n) := by cases n <;> rfl
theorem partsM_snoc (f : Nat → Option (Rc × Nat)) : ∀ (k at_ : Nat), partsM f (k + 1) at_ = (partsM f k at_).bind fun y => (f y.2).map fun x => (y.1 ++ [x.1], x.2)
  | 0, at_ => by
    show ((f at_).bind fun x => (some ([], x.2)).map fun y => (x.1 :: y.1, y.2)) = (some ([], at_)).bind fun y => (f y.2).map fun x => (y.1 ++ [x.1], x.2)
    show _ = (f at_).map fun x => ([] ++ [x.1], x.2)
    cases f at_ <;> rfl
  | k + 1, at_ => by
    rw [partsM]
    rw [show partsM f (k + 1) at_ = (f at_).bind fun x => (partsM f k x.2).map fun y => (x.1 :: y.1, y.2) from rfl]
    cases h : f at_ with
    | none => rfl
    | some x =>
      show (partsM f (k + 1) x.2).map (fun y => (x.1 :: y.1, y.2)) = ((partsM f k x.2).map fun y => (x.1 :: y.1, y.2)).bind fun y => (f y.2).map fun x => (y.1 ++ [x.1], x.2)
      rw [partsM_snoc f k x.2]
      cases partsM f k x.2 with
      | none => rfl
      | some y => 
        show ((f y.2).map fun x => (y.1 ++ [x.1], x.2)).map _ = (f y.2).map _
        cases f y.2 <;> rfl
theorem partsM_bad {f : Nat → Option (Rc × Nat)} {k i at_ : Nat} {y : List Rc × Nat} (h1 : partsM f i at_ = some y) (h2 : f y.2 = none) (h3 : i < k) : partsM f k at_ = none := by
  induction k with
  | zero => omega
  | succ k ih =>
    rw [partsM_snoc]
    by_cases e : i = k
    · subst e; rw [h1]; show (f y.2).map _ = none; rw [h2]; rfl
    · rw [ih (by omega)]; rfl
/-- a cell as it may be spoilt -/
def CellV (K : PySem.W.Frag) (G : Hp) (v : V) : Prop := flatV v = true ∨ ∃ a, v = .ref a ∧ SqT K G a [.int 1]
theorem CellV.ex {K : PySem.W.Frag} {G G' : Hp} {v : V} (h : CellV K G v) (e : Ex G G') : CellV K G' v := h.imp id fun ⟨a, h1, h2⟩ => ⟨a, h1, st_mono e h2⟩
theorem ints_ix {cs : List Int} {at_ : Nat} {i : Int} (h : cs[at_]? = some i) : atI (cs.map V.int) at_ = some (.int i) := atI_nat (by rw [List.getElem?_map, h]; rfl)
/-- the record of cells, if they are those of exactly one -/
def rebM (cs : List Int) : Option Rc := (qM cs 30 0).bind fun x => if x.2 = cs.length then some x.1 else none
def CellsAt (K : PySem.W.Frag) (G : Hp) (t : Addr) (xs : List V) : Prop := G t = some (.lst xs) ∧ ∀ v ∈ xs, CellV K G v
theorem CellsAt.ex {K : PySem.W.Frag} {G G' : Hp} {t : Addr} {xs : List V} (h : CellsAt K G t xs) (e : Ex G G') : CellsAt K G' t xs := ⟨e _ _ h.1, fun v m => (h.2 v m).ex e⟩
/-! ### operators between truth values and whole numbers -/
namespace BI
open PySem
theorem lt_bool_int (a : Bool) (b : Int) (u : Tok) : Gives (Builtin.«int.__lt__» ⟨[.bool a, .int b u], []⟩) (.val (Value.bool (decide ((if a = true then (1 : Int) else 0) < b)))) :=
  .of_wp fun M A E s Q h => by obtain ⟨hp, g, d, tk, os⟩ := s; wp_walk; exact ⟨_, rfl, h⟩
theorem gt_bool_int (a : Bool) (b : Int) (u : Tok) : Gives (Builtin.«int.__gt__» ⟨[.bool a, .int b u], []⟩) (.val (Value.bool (decide ((if a = true then (1 : Int) else 0) > b)))) :=
  .of_wp fun M A E s Q h => by obtain ⟨hp, g, d, tk, os⟩ := s; wp_walk; exact ⟨_, rfl, h⟩
theorem ge_bool_int (a : Bool) (b : Int) (u : Tok) : Gives (Builtin.«int.__ge__» ⟨[.bool a, .int b u], []⟩) (.val (Value.bool (decide ((if a = true then (1 : Int) else 0) ≥ b)))) :=
  .of_wp fun M A E s Q h => by obtain ⟨hp, g, d, tk, os⟩ := s; wp_walk; exact ⟨_, rfl, h⟩
theorem range_new_bool (b : Bool) (hsub : isSubtype (.type "range") (.type "range") = pure true) :
    Meets (Builtin.«range.__new__» ⟨[.type "range", .bool b], []⟩) (fun _ R s => R (.ok (.ret (Value.ref s.heap.objs.size))) { s with heap := s.heap.push { cls := Value.type "range", data := Data.fields #[Value.int 0 s.toks, Value.int (if b = true then 1 else 0) (s.toks + 1), Value.int 1 (s.toks + 1 + 1)] }, toks := s.toks + 1 + 1 + 1 }) :=
  .of_wp fun prog w A R s h => by obtain ⟨hp, g, d, tk, os⟩ := s; wp_walk; exact ⟨_, rfl, h⟩
section
variable {prog : Program} {w : World} {A : Around} {E : Value → Shared → Prop} {s : Shared} {Q : Value → Shared → Prop}
theorem c_lt {a : Bool} {b : Int} {u : Tok} (h : Q (.bool (decide ((if a = true then (1 : Int) else 0) < b))) s) : wpAny (model prog w) A (compareOp .Lt (.bool a) (.int b u)) Q E s :=
  SeqAt.rc_left_or (op := .Lt) rfl (typeIs_int s b u) (by decide) F.sub_int_bool F.slot_bool_lt (call_gives F.slot_bool_lt rfl F.entry_int_lt (F.args_int_lt_2 _ _) (lt_bool_int a b u) ⟨nofun, h⟩) (.inl rfl)
theorem c_gt {a : Bool} {b : Int} {u : Tok} (h : Q (.bool (decide ((if a = true then (1 : Int) else 0) > b))) s) : wpAny (model prog w) A (compareOp .Gt (.bool a) (.int b u)) Q E s :=
  SeqAt.rc_left_or (op := .Gt) rfl (typeIs_int s b u) (by decide) F.sub_int_bool F.slot_bool_gt (call_gives F.slot_bool_gt rfl F.entry_int_gt (F.args_int_gt_2 _ _) (gt_bool_int a b u) ⟨nofun, h⟩) (.inl rfl)
theorem c_le {a : Bool} {b : Int} {u : Tok} (h : Q (.bool (decide (b ≤ if a = true then (1 : Int) else 0))) s) : wpAny (model prog w) A (compareOp .LtE (.int b u) (.bool a)) Q E s :=
  SeqAt.rc_sub_first_or (op := .LtE) (typeIs_int s b u) rfl (by decide) F.sub_bool_int F.slot_bool_ge_refl (call_gives F.slot_bool_ge_refl rfl F.entry_int_ge (F.args_int_ge_2 _ _) (ge_bool_int a b u) ⟨nofun, h⟩) (.inl rfl)
theorem call_range_b {b : Bool} (h : Q (.ref s.heap.objs.size) { s with heap := s.heap.push { cls := .type "range", data := .fields #[.int 0 s.toks, .int (if b = true then 1 else 0) (s.toks + 1), .int 1 (s.toks + 1 + 1)] }, toks := s.toks + 1 + 1 + 1 }) :
    wpAny (model prog w) A (call (.type "range") [.bool b]) Q E s :=
  callType_new F.called_range (by decide) (F.typeCall_range_1 _) (F.newCall_range_1 _) (fun obj => F.initArgs_range_1 obj _) F.entry_range_new (range_new_bool b F.called_range.sub) ⟨⟨_, Heap.get?_push_size _ rfl, rfl⟩, h⟩
theorem getItem_b {t : Addr} {items : Array Value} {b : Bool} {j : Nat} {x : Value} (ht : IsTup s.heap t items)
    (hj : seqIndex? (if b = true then 1 else 0) items.size = some j) (hx : items[j]? = some x) (h : Q x s) : wpAny (model prog w) A (getItem (.ref t) (.bool b)) Q E s := by
  unfold getItem
  try with_reducible refine wpAny_holding ?_
  first | refine wpAny_bind (wpAny_pure ?_) | skip
  refine wpAny_bind (wpAny_sequenceKey ht.typeIs (by decide) ?_)
  refine wpAny_bind (wpAny_callSpecial?_slot (name := Str.ofString "__getitem__") ht.typeIs slot_tuple_getitem
    (wpAny_call_entry slot_tuple_getitem ht.typeIs entry_tuple_getitem ?_ (args_tuple_getitem _ _)))
  show wpAny _ _ (Builtin.Tuple.tupleItemsOf (.ref t) >>= _) _ _ s
  refine wpAny_bind (tupleItemsOf_ ht ?_)
  refine wpAny_bind (wpAny_typeOf (v := .bool b) (T := "bool") rfl ?_)
  rw [if_neg (by decide)]
  refine wpAny_bind (wpAny_specialOf (v := .bool b) (T := "bool") rfl F.slot_bool_index.lookup ?_)
  rw [if_neg (by simp)]
  refine wpAny_bind (wpAny_of_eq (a := if b = true then 1 else 0) rfl ?_)
  rw [if_neg (by cases b <;> simp)]
  simp only [hj, Option.bind_some, hx]
  exact wpAny_pure ⟨_, rfl, wpAny_pure h⟩
end
end BI
/-- a number, True and False counted as 1 and 0 -/
def iv : V → Option Int
  | .int i => some i
  | .bl b => some (if b = true then 1 else 0)
  | _ => none
section
variable {X : Cx}
/-- as by whole numbers, the left one, the right one perhaps True or False -/
def rIvL (f : Int → Int → V) : R2 := fun x y H Q => ∃ i j, iv x = some i ∧ y = .int j ∧ Q (f i j) H
def rIvR (f : Int → Int → V) : R2 := fun x y H Q => ∃ i j, x = .int i ∧ iv y = some j ∧ Q (f i j) H
theorem iv_cases {x : V} {i : Int} (h : iv x = some i) : x = .int i ∨ ∃ b, x = .bl b ∧ i = if b = true then 1 else 0 := by
  cases x with
  | int j => exact .inl (by rw [Option.some.inj h])
  | bl b => exact .inr ⟨b, rfl, (Option.some.inj h).symm⟩
  | non => cases h
  | str b => cases h
  | byt b => cases h
  | flt b => cases h
  | ref b => cases h
  | ty b => cases h
theorem op_ltB : OpR X (compareOp .Lt) (rIvL fun i j => .bl (decide (i < j))) := by
  intro pins s σ H x y v u Q I rx ry ⟨i, j, hx, ey, q⟩
  rcases iv_cases hx with rfl | ⟨b, rfl, rfl⟩
  · exact op_lt pins s σ H _ _ v u Q I rx ry ⟨i, j, rfl, ey, q⟩
  · subst ey
    cases (show v = Value.bool b from rx)
    obtain ⟨t, rfl⟩ := (show ∃ t, u = Value.int j t from ry)
    exact BI.c_lt ⟨.bl _, H, I, rfl, q⟩
theorem op_gtB : OpR X (compareOp .Gt) (rIvL fun i j => .bl (decide (i > j))) := by
  intro pins s σ H x y v u Q I rx ry ⟨i, j, hx, ey, q⟩
  rcases iv_cases hx with rfl | ⟨b, rfl, rfl⟩
  · exact op_gt pins s σ H _ _ v u Q I rx ry ⟨i, j, rfl, ey, q⟩
  · subst ey
    cases (show v = Value.bool b from rx)
    obtain ⟨t, rfl⟩ := (show ∃ t, u = Value.int j t from ry)
    exact BI.c_gt ⟨.bl _, H, I, rfl, q⟩
theorem op_leB : OpR X (compareOp .LtE) (rIvR fun i j => .bl (decide (i ≤ j))) := by
  intro pins s σ H x y v u Q I rx ry ⟨i, j, ex, hy, q⟩
  rcases iv_cases hy with rfl | ⟨b, rfl, rfl⟩
  · exact op_le pins s σ H _ _ v u Q I rx ry ⟨i, j, ex, rfl, q⟩
  · subst ex
    cases (show u = Value.bool b from ry)
    obtain ⟨t, rfl⟩ := (show ∃ t, v = Value.int i t from rx)
    exact BI.c_le ⟨.bl _, H, I, rfl, q⟩
theorem op_subB : OpR X (binaryOp .Sub) (rIvL fun i j => .int (i - j)) := by
  intro pins s σ H x y v u Q I rx ry ⟨i, j, hx, ey, q⟩
  rcases iv_cases hx with rfl | ⟨b, rfl, rfl⟩
  · exact op_sub pins s σ H _ _ v u Q I rx ry ⟨i, j, rfl, ey, q⟩
  · subst ey
    cases (show v = Value.bool b from rx)
    obtain ⟨t, rfl⟩ := (show ∃ t, u = Value.int j t from ry)
    exact PySem.IntBool.sub_bool_int ⟨.int _, H, I.tok _, ⟨_, rfl⟩, q⟩
def rIxTB (K : PySem.W.Frag) : R2 := fun x y H Q => ∃ a xs m v, x = .ref a ∧ iv y = some m ∧ SqT K H a xs ∧ atI xs m = some v ∧ Q v H
theorem ix_tupB {K : PySem.W.Frag} (hK : X.K = K) : IxR X (rIxTB K) := by
  subst hK
  intro value slice pins s σ H x y v u Q I rx ry h hs
  obtain ⟨p, xs, i, z, rfl, hy, hq, he, q⟩ := h
  rcases iv_cases hy with rfl | ⟨b, rfl, rfl⟩
  · exact ix_tup value slice pins s σ H _ _ v u Q I rx ry ⟨p, xs, i, z, rfl, rfl, hq, he, q⟩ hs
  · cases rx
    cases (show u = Value.bool b from ry)
    obtain ⟨its, r, pl, hz⟩ := I.tuple hq
    obtain ⟨j, h1, h2, h3, h4, h5⟩ := atI_get he
    obtain ⟨w, ew, rw'⟩ := r.get h2
    have hl := r.length
    have fin : EP X pins σ Q w s := ⟨z, H, I, rw', q⟩
    exact subscriptTail_builtinR (x := w) pl.typeIs slot_tuple_getitem.lookup
      (BI.getItem_b (j := j) (Q := fun r s' => r = w ∧ EP X pins σ Q r s') pl (by rw [List.size_toArray, ← hl]; exact h1) (by simpa using ew) ⟨rfl, fin⟩) hs
def iRngB (ta : TA) : TI := fun σ H R => ta σ H fun vs H1 => ∃ x j, vs = [x] ∧ iv x = some j ∧ -(2 ^ 62) ≤ j ∧ j < 2 ^ 62 ∧ R (Itr 0 j.toNat) H1
theorem pi_rangeB {tg : Expr} {a : Expr} {ta : TA} {p pos : Pos} (hg : Gl X "range") (hm : X.mg "range" = none) (ha : PA X [a] ta) (hs : starEach [a] X.env = [(false, eval a X.env)] := by rfl) : PI X tg (.Call (.Name "range" p) [a] [] pos) (iRngB ta) := by
  refine ⟨fun pins s σ H R I h => ?_⟩
  refine Call_ (ld_blt I hg hm boot_range (PyProof.Rows.callWith_type1 (thn (ha.run pos pins s σ H _ I h) fun us s1 ⟨vs, H1, I1, r1, q1⟩ => ?_) hs rfl))
  obtain ⟨x, j, e, hx, q1, q2, q⟩ := q1
  subst e
  cases r1 with
  | cons r rr =>
    cases rr
    rcases iv_cases hx with rfl | ⟨b, rfl, rfl⟩
    · obtain ⟨t, rfl⟩ := r
      exact call_range_1 (range_it I1 (by omega) (by omega) q1 q2 (by simpa using q))
    · cases r
      exact BI.call_range_b (range_it I1 (by omega) (by omega) q1 q2 (by simpa using q))
end
/-! ### data of any depth, both sides alike -/
def okD : Nat → PyData → Prop
  | _, .none => True
  | _, .bool _ => True
  | _, .int _ => True
  | _, .str _ => True
  | 0, .list _ => False
  | 0, .tuple _ => False
  | n + 1, .list xs => xs.length ≤ 100000 ∧ ∀ x ∈ xs, okD n x
  | n + 1, .tuple xs => xs.length ≤ 100000 ∧ ∀ x ∈ xs, okD n x
  | _, .dict _ => False
theorem dpAll_len {K : PySem.W.Frag} {G : Hp} : ∀ {xs : List V} {ds : List PyData}, DpAll K G xs ds → xs.length = ds.length
  | _, _, .nil => rfl
  | _, _, .cons _ t => by rw [List.length_cons, List.length_cons, dpAll_len t]
theorem dpAll_get {K : PySem.W.Frag} {G : Hp} : ∀ {xs : List V} {ds : List PyData} {i : Nat} {d : PyData}, DpAll K G xs ds → ds[i]? = some d → ∃ x, xs[i]? = some x ∧ Dp K G x d
  | _, _, _, _, .nil, e => by simp at e
  | _, _, 0, d, .cons h t, e => ⟨_, rfl, by have e := Option.some.inj e; subst e; exact h⟩
  | _, _, i + 1, d, .cons h t, e => by
    obtain ⟨x, h1, h2⟩ := dpAll_get (i := i) t (by simpa using e)
    exact ⟨x, by simpa using h1, h2⟩
mutual
theorem dp_mono {K : PySem.W.Frag} {G G' : Hp} (e : Same G G') : ∀ {v : V} {d : PyData}, Dp K G v d → Dp K G' v d
  | _, _, .non => .non
  | _, _, .bl b => .bl b
  | _, _, .int i => .int i
  | _, _, .str x => .str x
  | _, _, .lst h t => .lst (sl_mono e h) (dpAll_mono e t)
  | _, _, .tup h t => .tup (st_mono e h) (dpAll_mono e t)
theorem dpAll_mono {K : PySem.W.Frag} {G G' : Hp} (e : Same G G') : ∀ {vs : List V} {ds : List PyData}, DpAll K G vs ds → DpAll K G' vs ds
  | _, _, .nil => .nil
  | _, _, .cons h t => .cons (dp_mono e h) (dpAll_mono e t)
end
theorem dpAll_snoc {K : PySem.W.Frag} {G : Hp} : ∀ {xs : List V} {ds : List PyData} {x : V} {d : PyData}, DpAll K G xs ds → Dp K G x d → DpAll K G (xs ++ [x]) (ds ++ [d])
  | _, _, _, _, .nil, h => .cons h .nil
  | _, _, _, _, .cons a t, h => .cons a (dpAll_snoc t h)
theorem dpAll_of {K : PySem.W.Frag} {G : Hp} : ∀ {xs : List V} {ds : List PyData}, xs.length = ds.length → (∀ (i : Nat) (x : V) (d : PyData), xs[i]? = some x → ds[i]? = some d → Dp K G x d) → DpAll K G xs ds
  | [], [], _, _ => .nil
  | x :: xs, d :: ds, h, f => .cons (f 0 x d rfl rfl) (dpAll_of (by simpa using h) fun i y e h1 h2 => f (i + 1) y e (by simpa using h1) (by simpa using h2))
  | [], _ :: _, h, _ => by simp at h
  | _ :: _, [], h, _ => by simp at h
/-- a sequence of either kind -/
def SqB (K : PySem.W.Frag) (G : Hp) (a : Addr) (xs : List V) : Prop := SqL K G a xs ∨ SqT K G a xs
theorem w_ixB {K : PySem.W.Frag} {M G H : Hp} {a : Addr} {xs : List V} {m : Int} {v : V} {Q : VK} (j : J M G H) (h : SqB K G a xs) (e : atI xs m = some v) (q : Q v H) : uIx K (.ref a) (.int m) H Q :=
  h.elim (fun h => w_ixL j h e q) fun h => w_ixT j h e q
theorem w_lenB {K : PySem.W.Frag} {M G H : Hp} {a : Addr} {xs : List V} {Q : VK} (j : J M G H) (h : SqB K G a xs) (q : Q (.int xs.length) H) : uLen K [.ref a] H Q := h.elim (fun h => w_lenL j h q) fun h => w_lenT j h q
def spNo : Sp := fun _ _ _ _ => False
def spAll1 (K : PySem.W.Frag) (n : Nat) : Sp := Sg (α := Addr × Addr × List V × List V × List PyData) (fun x vs M G => vs = [.ref x.1, .ref x.2.1] ∧ SqB K G x.1 x.2.2.1 ∧ SqB K G x.2.1 x.2.2.2.1 ∧ DpAll K G x.2.2.1 x.2.2.2.2 ∧ DpAll K G x.2.2.2.1 x.2.2.2.2 ∧ x.2.2.2.2.length ≤ 100000 ∧ ∀ d ∈ x.2.2.2.2, okD n d)
      (fun x M _ v M' _ => v = .bl true ∧ M' = M)
def spAll (K : PySem.W.Frag) : Nat → Sp
  | 0 => spNo
  | n + 1 => spAll1 K n
def spEq (K : PySem.W.Frag) (n : Nat) : Sp := Sg (α := V × V × PyData) (fun x vs M G => vs = [x.1, x.2.1] ∧ Dp K G x.1 x.2.2 ∧ Dp K G x.2.1 x.2.2 ∧ okD n x.2.2) (fun x M _ v M' _ => v = .bl true ∧ M' = M)
theorem use_eq {K : PySem.W.Frag} {n : Nat} {M G H : Hp} {x y : V} {d : PyData} {Q : VK} {E : XK} (j : J M G H) (h1 : Dp K G x d) (h2 : Dp K G y d) (h3 : okD n d) (k : ∀ G' H', J M G' H' → Ex G G' → Q (.bl true) H') : spEq K n ([x, y] ++ []) H Q E :=
  w_sg (x, y, d) j ⟨rfl, h1, h2, h3⟩ fun v M' G' H' j' e ⟨ev, em⟩ => by subst ev em; exact k G' H' j' e
theorem use_all {K : PySem.W.Frag} {n : Nat} {M G H : Hp} {a b : Addr} {xs ys : List V} {ds : List PyData} {Q : VK} {E : XK} (j : J M G H) (h1 : SqB K G a xs) (h2 : SqB K G b ys) (h3 : DpAll K G xs ds) (h4 : DpAll K G ys ds) (h5 : ds.length ≤ 100000) (h6 : ∀ d ∈ ds, okD n d)
    (k : ∀ G' H', J M G' H' → Ex G G' → Q (.bl true) H') : spAll K (n + 1) ([.ref a, .ref b] ++ []) H Q E := by
  show spAll1 K n _ H Q E
  exact w_sg (a, b, xs, ys, ds) j ⟨rfl, h1, h2, h3, h4, h5, h6⟩ fun v M' G' H' j' e ⟨ev, em⟩ => by subst ev em; exact k G' H' j' e
/-! ### the law's own reading of cells -/
def rcOf : V → Rc
  | .int i => .int i
  | .bl b => .bl b
  | _ => .non
def lwV (vs : List V) : Nat → Nat → Option (Rc × Nat)
  | 0, _ => none
  | n + 1, at_ => (vs[at_]?).bind fun t => (iv t).bind fun tag => if tag = 1 then some (.non, at_ + 1) else if tag = 2 then some (.bl false, at_ + 1) else if tag = 3 then some (.bl true, at_ + 1) else
    (vs[at_ + 1]?).bind fun nv => (iv nv).bind fun num => if tag = 0 then some (rcOf nv, at_ + 2) else if tag = 4 ∧ 0 ≤ num ∧ num < 31 then (WD[num.toNat]?).map fun s => (.str s, at_ + 2) else
      if tag ≠ 5 ∨ num < 0 ∨ num > (vs.length : Int) then none else (partsM (fun a => lwV vs n a) num.toNat (at_ + 2)).map fun y => (.tup y.1, y.2)
theorem parts_mono {f g : Nat → Option (Rc × Nat)} {D : Nat} (h : ∀ a r p, f a = some (r, p) → depthM r ≤ D → g a = some (r, p)) : ∀ (k a : Nat) (ps : List Rc) (p : Nat), partsM f k a = some (ps, p) → depthL ps ≤ D → partsM g k a = some (ps, p)
  | 0, a, ps, p, e, _ => e
  | k + 1, a, ps, p, e, hd => by
    rw [partsM] at e ⊢
    cases q : f a with
    | none => rw [q] at e; cases e
    | some x =>
      obtain ⟨r, p1⟩ := x
      rw [q] at e
      replace e : (partsM f k p1).map (fun y => (r :: y.1, y.2)) = some (ps, p) := e
      cases q2 : partsM f k p1 with
      | none => rw [q2] at e; cases e
      | some y =>
        obtain ⟨ps1, p2⟩ := y
        rw [q2] at e
        have e := Option.some.inj e
        cases e
        replace hd : max (depthM r) (depthL ps1) ≤ D := hd
        rw [h a r p1 q (by omega)]
        show (partsM g k p1).map (fun y => (r :: y.1, y.2)) = _
        rw [parts_mono h k p1 ps1 p2 q2 (by omega)]; rfl
theorem parts_all {f : Nat → Option (Rc × Nat)} {N : Nat} {P : Rc → Prop} (h : ∀ a r p, f a = some (r, p) → a < p ∧ p ≤ N ∧ P r) : ∀ (k a : Nat) (ps : List Rc) (p : Nat), partsM f k a = some (ps, p) → a ≤ N → a + k ≤ p ∧ p ≤ N ∧ ps.length = k ∧ ∀ r ∈ ps, P r
  | 0, a, ps, p, e, ha => by
    have e := Option.some.inj e
    cases e
    exact ⟨Nat.le_refl _, ha, rfl, fun r h => nomatch h⟩
  | k + 1, a, ps, p, e, ha => by
    rw [partsM] at e
    cases q : f a with
    | none => rw [q] at e; cases e
    | some x =>
      obtain ⟨r, p1⟩ := x
      rw [q] at e
      replace e : (partsM f k p1).map (fun y => (r :: y.1, y.2)) = some (ps, p) := e
      cases q2 : partsM f k p1 with
      | none => rw [q2] at e; cases e
      | some y =>
        obtain ⟨ps1, p2⟩ := y
        rw [q2] at e
        have e := Option.some.inj e
        cases e
        obtain ⟨h1, h2, h3⟩ := h a r p1 q
        obtain ⟨g1, g2, g3, g4⟩ := parts_all h k p1 ps1 p2 q2 h2
        refine ⟨by omega, g2, by rw [List.length_cons, g3], fun x hx => ?_⟩
        rcases List.mem_cons.mp hx with rfl | hx
        · exact h3
        · exact g4 x hx
theorem depthL_le {D : Nat} : ∀ {ps : List Rc}, (∀ r ∈ ps, depthM r ≤ D) → depthL ps ≤ D
  | [], _ => Nat.zero_le _
  | r :: ps, h => by
    have h1 := h r List.mem_cons_self
    have h2 := depthL_le (ps := ps) fun x m => h x (List.mem_cons_of_mem _ m)
    rw [depthL]; omega
/-- what a tag means, whatever the parts are read by -/
theorem lw_cases {vs : List V} {n at_ : Nat} {r : Rc} {p : Nat} (h : lwV vs (n + 1) at_ = some (r, p)) : ∃ t tag, vs[at_]? = some t ∧ iv t = some tag ∧
    ((tag = 1 ∧ r = .non ∧ p = at_ + 1) ∨ (tag = 2 ∧ r = .bl false ∧ p = at_ + 1) ∨ (tag = 3 ∧ r = .bl true ∧ p = at_ + 1) ∨
     ∃ nv num, vs[at_ + 1]? = some nv ∧ iv nv = some num ∧ ((tag = 0 ∧ r = rcOf nv ∧ p = at_ + 2) ∨ (tag = 4 ∧ 0 ≤ num ∧ num < 31 ∧ ∃ s, WD[num.toNat]? = some s ∧ r = .str s ∧ p = at_ + 2) ∨
       (tag = 5 ∧ 0 ≤ num ∧ num ≤ vs.length ∧ ∃ ps, partsM (fun a => lwV vs n a) num.toNat (at_ + 2) = some (ps, p) ∧ r = .tup ps))) := by
  rw [lwV] at h
  cases q : vs[at_]? with
  | none => rw [q] at h; cases h
  | some t =>
    rw [q] at h
    replace h := h
    simp only [Option.bind_some] at h
    cases q2 : iv t with
    | none => rw [q2] at h; cases h
    | some tag =>
      rw [q2] at h
      simp only [Option.bind_some] at h
      refine ⟨t, tag, rfl, q2, ?_⟩
      by_cases h1 : tag = 1
      · rw [if_pos h1] at h; cases h; exact .inl ⟨h1, rfl, rfl⟩
      rw [if_neg h1] at h
      by_cases h2 : tag = 2
      · rw [if_pos h2] at h; cases h; exact .inr (.inl ⟨h2, rfl, rfl⟩)
      rw [if_neg h2] at h
      by_cases h3 : tag = 3
      · rw [if_pos h3] at h; cases h; exact .inr (.inr (.inl ⟨h3, rfl, rfl⟩))
      rw [if_neg h3] at h
      refine .inr (.inr (.inr ?_))
      cases q3 : vs[at_ + 1]? with
      | none => rw [q3] at h; cases h
      | some nv =>
        rw [q3] at h
        simp only [Option.bind_some] at h
        cases q4 : iv nv with
        | none => rw [q4] at h; cases h
        | some num =>
          rw [q4] at h
          simp only [Option.bind_some] at h
          refine ⟨nv, num, rfl, q4, ?_⟩
          by_cases h0 : tag = 0
          · rw [if_pos h0] at h; cases h; exact .inl ⟨h0, rfl, rfl⟩
          rw [if_neg h0] at h
          by_cases h4 : tag = 4 ∧ 0 ≤ num ∧ num < 31
          · rw [if_pos h4] at h
            cases q5 : WD[num.toNat]? with
            | none => rw [q5] at h; cases h
            | some s => rw [q5] at h; cases h; exact .inr (.inl ⟨h4.1, h4.2.1, h4.2.2, s, rfl, rfl, rfl⟩)
          rw [if_neg h4] at h
          by_cases h5 : tag ≠ 5 ∨ num < 0 ∨ num > (vs.length : Int)
          · rw [if_pos h5] at h; cases h
          rw [if_neg h5] at h
          cases q5 : partsM (fun a => lwV vs n a) num.toNat (at_ + 2) with
          | none => rw [q5] at h; cases h
          | some y =>
            rw [q5] at h
            cases h
            exact .inr (.inr ⟨by omega, by omega, by omega, y.1, rfl, rfl⟩)
theorem lw_ok (vs : List V) : ∀ (n at_ : Nat) (r : Rc) (p : Nat), lwV vs n at_ = some (r, p) → at_ < p ∧ p ≤ vs.length ∧ depthM r ≤ n ∧ pureM r = true
  | 0, at_, r, p, h => by cases h
  | n + 1, at_, r, p, h => by
    obtain ⟨t, tag, h1, h2, h3⟩ := lw_cases h
    have l1 := (List.getElem?_eq_some_iff.mp h1).1
    rcases h3 with ⟨_, rfl, rfl⟩ | ⟨_, rfl, rfl⟩ | ⟨_, rfl, rfl⟩ | ⟨nv, num, h4, h5, h6⟩
    · exact ⟨by omega, by omega, Nat.zero_le _, rfl⟩
    · exact ⟨by omega, by omega, Nat.zero_le _, rfl⟩
    · exact ⟨by omega, by omega, Nat.zero_le _, rfl⟩
    have l2 := (List.getElem?_eq_some_iff.mp h4).1
    rcases h6 with ⟨_, rfl, rfl⟩ | ⟨_, _, _, s, hs, rfl, rfl⟩ | ⟨_, n0, n1, ps, hp, rfl⟩
    · have : depthM (rcOf nv) = 0 ∧ pureM (rcOf nv) = true := by cases nv <;> exact ⟨rfl, rfl⟩
      exact ⟨by omega, by omega, by omega, this.2⟩
    · exact ⟨by omega, by omega, Nat.zero_le _, decide_eq_true (List.mem_of_getElem? hs)⟩
    · obtain ⟨g1, g2, g3, g4⟩ := parts_all (N := vs.length) (P := fun r => depthM r ≤ n ∧ pureM r = true) (fun a r p e => by obtain ⟨x1, x2, x3, x4⟩ := lw_ok vs n a r p e; exact ⟨x1, x2, x3, x4⟩) _ _ _ _ hp (by omega)
      refine ⟨by omega, g2, ?_, ?_⟩
      · rw [depthM]; have := depthL_le (D := n) fun r m => (g4 r m).1; omega
      · rw [pureM]
        have : ∀ {qs : List Rc}, (∀ r ∈ qs, pureM r = true) → pureL qs = true := fun {qs} => by
          induction qs with
          | nil => intro _; rfl
          | cons x r ih => intro h; rw [pureL, h x List.mem_cons_self, ih fun y m => h y (List.mem_cons_of_mem _ m)]; rfl
        exact this fun r m => (g4 r m).2
theorem lw_q {cs : List Int} : ∀ (n at_ : Nat) (r : Rc) (p : Nat), lwV (cs.map V.int) n at_ = some (r, p) → ∀ m, depthM r ≤ m → qM cs m at_ = some (r, p)
  | 0, at_, r, p, h, _, _ => by cases h
  | n + 1, at_, r, p, h, m, hm => by
    obtain ⟨t, tag, h1, h2, h3⟩ := lw_cases h
    have gi : ∀ {i : Nat} {v : V} {z : Int}, (cs.map V.int)[i]? = some v → iv v = some z → cs[i]? = some z ∧ v = .int z := fun {i v z} e1 e2 => by
      rw [List.getElem?_map] at e1
      cases q : cs[i]? with
      | none => rw [q] at e1; cases e1
      | some y => rw [q] at e1; have e1 := Option.some.inj e1; subst e1; cases e2; exact ⟨rfl, rfl⟩
    obtain ⟨c1, rfl⟩ := gi h1 h2
    rw [qM_eq]
    unfold leafQ
    rw [c1]
    show (if tag = 0 then (cs[at_ + 1]?).map fun i => (Rc.int i, at_ + 2) else if tag = 1 then some (Rc.non, at_ + 1) else if tag = 2 then some (Rc.bl false, at_ + 1) else if tag = 3 then some (Rc.bl true, at_ + 1)
      else if tag = 4 then (wordQ cs (at_ + 1)).map fun s => (Rc.str s, at_ + 2) else if tag = 5 then tupQ cs (at_ + 1) (recQ cs m) else none) = some (r, p)
    rcases h3 with ⟨rfl, rfl, rfl⟩ | ⟨rfl, rfl, rfl⟩ | ⟨rfl, rfl, rfl⟩ | ⟨nv, num, h4, h5, h6⟩
    · rfl
    · rfl
    · rfl
    obtain ⟨c2, rfl⟩ := gi h4 h5
    rcases h6 with ⟨rfl, rfl, rfl⟩ | ⟨rfl, n0, n1, s, hs, rfl, rfl⟩ | ⟨rfl, n0, n1, ps, hp, rfl⟩
    · rw [if_pos rfl, c2]; rfl
    · show (wordQ cs (at_ + 1)).map _ = _
      unfold wordQ
      rw [c2]
      show (if 0 ≤ num ∧ num < 31 then WD[num.toNat]? else none).map _ = _
      rw [if_pos ⟨n0, n1⟩, hs]; rfl
    · show tupQ cs (at_ + 1) (recQ cs m) = _
      unfold tupQ
      rw [c2]
      have l2 := (List.getElem?_eq_some_iff.mp c2).1
      obtain ⟨g1, g2, g3, g4⟩ := parts_all (N := (cs.map V.int).length) (P := fun r => True) (fun a r p e => by obtain ⟨x1, x2, x3, x4⟩ := lw_ok _ n a r p e; exact ⟨x1, x2, trivial⟩) _ _ _ _ hp (by rw [List.length_map]; omega)
      rw [List.length_map] at g2
      show (if 0 ≤ num ∧ num ≤ (cs.length : Int) - ((at_ + 1 : Nat) + 1) then ((recQ cs m).bind fun f => (partsM f num.toNat (at_ + 1 + 1)).map fun y => (Rc.tup y.1, y.2)) else none) = _
      rw [if_pos ⟨n0, by omega⟩]
      rw [depthM] at hm
      cases m with
      | zero => omega
      | succ m =>
        show (partsM (fun a => qM cs m a) num.toNat (at_ + 1 + 1)).map _ = _
        rw [parts_mono (f := fun a => lwV (cs.map V.int) n a) (D := m) (fun a r p e hd => lw_q n a r p e m hd) _ _ ps p hp (by omega)]; rfl
theorem q_lw {cs : List Int} : ∀ (m at_ : Nat) (r : Rc) (p : Nat), qM cs m at_ = some (r, p) → at_ < p ∧ p ≤ cs.length ∧ depthM r ≤ m ∧ ∀ n, depthM r < n → lwV (cs.map V.int) n at_ = some (r, p) := by
  intro m
  induction m with
  | zero => ?_
  | succ m ih => ?_
  all_goals
    intro at_ r p h
    rw [qM_eq] at h
    unfold leafQ at h
    cases c1 : cs[at_]? with
    | none => rw [c1] at h; cases h
    | some tag =>
      rw [c1] at h
      have l1 := (List.getElem?_eq_some_iff.mp c1).1
      have v1 : (cs.map V.int)[at_]? = some (.int tag) := by rw [List.getElem?_map, c1]; rfl
      simp only [Option.bind_some] at h
      have lw1 : ∀ n, lwV (cs.map V.int) (n + 1) at_ = if tag = 1 then some (.non, at_ + 1) else if tag = 2 then some (.bl false, at_ + 1) else if tag = 3 then some (.bl true, at_ + 1) else
          ((cs.map V.int)[at_ + 1]?).bind fun nv => (iv nv).bind fun num => if tag = 0 then some (rcOf nv, at_ + 2) else if tag = 4 ∧ 0 ≤ num ∧ num < 31 then (WD[num.toNat]?).map fun s => (.str s, at_ + 2) else
            if tag ≠ 5 ∨ num < 0 ∨ num > ((cs.map V.int).length : Int) then none else (partsM (fun a => lwV (cs.map V.int) n a) num.toNat (at_ + 2)).map fun y => (.tup y.1, y.2) := fun n => by rw [lwV, v1]; rfl
      have lw2 : ∀ n num, cs[at_ + 1]? = some num → ¬ tag = 1 → ¬ tag = 2 → ¬ tag = 3 → lwV (cs.map V.int) (n + 1) at_ = if tag = 0 then some (.int num, at_ + 2) else if tag = 4 ∧ 0 ≤ num ∧ num < 31 then (WD[num.toNat]?).map fun s => (.str s, at_ + 2) else
            if tag ≠ 5 ∨ num < 0 ∨ num > ((cs.map V.int).length : Int) then none else (partsM (fun a => lwV (cs.map V.int) n a) num.toNat (at_ + 2)).map fun y => (.tup y.1, y.2) := fun n num hn a b c => by
        rw [lw1, if_neg a, if_neg b, if_neg c, List.getElem?_map, hn]; rfl
      by_cases h0 : tag = 0
      · rw [if_pos h0] at h
        cases c2 : cs[at_ + 1]? with
        | none => rw [c2] at h; cases h
        | some num =>
          rw [c2] at h
          cases h
          have l2 := (List.getElem?_eq_some_iff.mp c2).1
          refine ⟨by omega, by omega, Nat.zero_le _, fun n hn => ?_⟩
          cases n with
          | zero => omega
          | succ n => rw [lw2 n num c2 (by omega) (by omega) (by omega), if_pos h0]
      rw [if_neg h0] at h
      by_cases h1 : tag = 1
      · rw [if_pos h1] at h
        cases h
        refine ⟨by omega, by omega, Nat.zero_le _, fun n hn => ?_⟩
        cases n with
        | zero => omega
        | succ n => rw [lw1, if_pos h1]
      rw [if_neg h1] at h
      by_cases h2 : tag = 2
      · rw [if_pos h2] at h
        cases h
        refine ⟨by omega, by omega, Nat.zero_le _, fun n hn => ?_⟩
        cases n with
        | zero => omega
        | succ n => rw [lw1, if_neg h1, if_pos h2]
      rw [if_neg h2] at h
      by_cases h3 : tag = 3
      · rw [if_pos h3] at h
        cases h
        refine ⟨by omega, by omega, Nat.zero_le _, fun n hn => ?_⟩
        cases n with
        | zero => omega
        | succ n => rw [lw1, if_neg h1, if_neg h2, if_pos h3]
      rw [if_neg h3] at h
      by_cases h4 : tag = 4
      · rw [if_pos h4] at h
        unfold wordQ at h
        cases c2 : cs[at_ + 1]? with
        | none => rw [c2] at h; cases h
        | some num =>
          rw [c2] at h
          simp only [Option.bind_some] at h
          have l2 := (List.getElem?_eq_some_iff.mp c2).1
          by_cases hn : 0 ≤ num ∧ num < 31
          · rw [if_pos hn] at h
            cases q : WD[num.toNat]? with
            | none => rw [q] at h; cases h
            | some s =>
              rw [q] at h
              cases h
              refine ⟨by omega, by omega, Nat.zero_le _, fun n hn2 => ?_⟩
              cases n with
              | zero => omega
              | succ n => rw [lw2 n num c2 h1 h2 h3, if_neg h0, if_pos ⟨h4, hn⟩, q]; rfl
          · rw [if_neg hn] at h; cases h
      rw [if_neg h4] at h
      by_cases h5 : tag = 5
      · rw [if_pos h5] at h
        unfold tupQ at h
        cases c2 : cs[at_ + 1]? with
        | none => rw [c2] at h; cases h
        | some num =>
          rw [c2] at h
          simp only [Option.bind_some] at h
          have l2 := (List.getElem?_eq_some_iff.mp c2).1
          by_cases hg : 0 ≤ num ∧ num ≤ (cs.length : Int) - ((at_ + 1 : Nat) + 1)
          · rw [if_pos hg] at h
            first
              | (cases h; done)
              | (replace h : (partsM (fun a => qM cs m a) num.toNat (at_ + 1 + 1)).map (fun y => (Rc.tup y.1, y.2)) = some (r, p) := h
                 cases q : partsM (fun a => qM cs m a) num.toNat (at_ + 1 + 1) with
                 | none => rw [q] at h; cases h
                 | some y =>
                   obtain ⟨ps, p1⟩ := y
                   rw [q] at h
                   have h := Option.some.inj h
                   cases h
                   obtain ⟨g1, g2, g3, g4⟩ := parts_all (N := cs.length) (P := fun r => depthM r ≤ m) (fun a r p e => by obtain ⟨x1, x2, x3, x4⟩ := ih a r p e; exact ⟨x1, x2, x3⟩) _ _ _ _ q (by omega)
                   have dl := depthL_le g4
                   refine ⟨by omega, g2, by show 1 + depthL ps ≤ m + 1; omega, fun n hn2 => ?_⟩
                   replace hn2 : 1 + depthL ps < n := hn2
                   cases n with
                   | zero => omega
                   | succ n =>
                     rw [lw2 n num c2 h1 h2 h3, if_neg h0, if_neg (fun z => h4 z.1), if_neg (by rw [List.length_map]; omega)]
                     rw [parts_mono (f := fun a => qM cs m a) (g := fun a => lwV (cs.map V.int) n a) (D := n - 1) (fun a r p e hd => (ih a r p e).2.2.2 n (by omega)) _ _ ps p1 q (by omega)]; rfl)
          · rw [if_neg hg] at h; cases h
      · rw [if_neg h5] at h; cases h
/-- both sides agree on what is the cells of a record -/
theorem reb_lw {cs : List Int} {r : Rc} : rebM cs = some r ↔ (lwV (cs.map V.int) 35 0 = some (r, cs.length) ∧ depthM r ≤ 30) := by
  unfold rebM
  constructor
  · intro h
    cases q : qM cs 30 0 with
    | none => rw [q] at h; cases h
    | some x =>
      obtain ⟨r', p⟩ := x
      rw [q] at h
      replace h : (if p = cs.length then some r' else none) = some r := h
      split at h
      · rename_i e
        have h := Option.some.inj h
        subst h e
        obtain ⟨_, _, h3, h4⟩ := q_lw 30 0 r' _ q
        exact ⟨h4 35 (by omega), h3⟩
      · cases h
  · rintro ⟨h1, h2⟩
    rw [lw_q 35 0 r cs.length h1 30 h2]
    show (if cs.length = cs.length then some r else none) = some r
    rw [if_pos rfl]
/-! ### _law_parse -/
abbrev s_law_parse : Stmt := top 30
abbrev n_law_parse : List Str := ["cells", "at", "depth", "tag", "number", "parts", "k", "step"]
theorem sc_law_parse : FnScope n_law_parse ["cells", "at", "depth"] (defScope s_law_parse) := ⟨rfl, rfl, rfl, by decide +kernel, rfl, by decide +kernel, by decide +kernel⟩
def spPar (K : PySem.W.Frag) (n : Nat) : Sp := Sg (α := Addr × List V × Nat) (fun x vs _ G => vs = [.ref x.1, .int x.2.2, .int (35 - (n : Int))] ∧ SqL K G x.1 x.2.1 ∧ (∀ v ∈ x.2.1, CellV K G v) ∧ x.2.1.length ≤ 100000 ∧ n ≤ 35)
  (fun x M _ v M' G' => M' = M ∧ (match lwV x.2.1 n x.2.2 with | none => v = .non | some (r, p) => ∃ t u, v = .ref t ∧ G' t = some (.lst [u, .int (p : Nat)]) ∧ RcAt K G' u r))
def spParP (K : PySem.W.Frag) : Nat → Sp
  | 0 => spNone
  | n + 1 => spPar K n
def sp_law_parse (K : PySem.W.Frag) : Sp := spPar K 35
theorem w_ivLI {f : Int → Int → V} {m n : Int} {H : Hp} {Q : VK} (q : Q (f m n) H) : rIvL f (.int m) (.int n) H Q := ⟨m, n, rfl, rfl, q⟩
theorem w_ivL {f : Int → Int → V} {x : V} {m n : Int} {H : Hp} {Q : VK} (e : iv x = some m) (q : Q (f m n) H) : rIvL f x (.int n) H Q := ⟨m, n, e, rfl, q⟩
theorem w_ivR {f : Int → Int → V} {x : V} {m n : Int} {H : Hp} {Q : VK} (e : iv x = some m) (q : Q (f n m) H) : rIvR f (.int n) x H Q := ⟨n, m, rfl, e, q⟩
theorem w_eqB {K : PySem.W.Frag} {x : V} {m n : Int} {H : Hp} {Q : VK} (e : iv x = some m) (q : Q (.bl (decide (m = n))) H) : uEq K x (.int n) H Q := by
  rcases iv_cases e with rfl | ⟨b, rfl, rfl⟩
  · exact w_eqI q
  · refine .inr ⟨.bool b, .int n, .bl b, .int n, rfl, rfl, ?_⟩
    have h : PyData.eqv (.bool b) (.int n) = decide ((if b = true then (1 : Int) else 0) = n) := by
      rw [show PyData.eqv (.bool b) (.int n) = ((if b = true then (1 : Int) else 0) == n) from rfl]
      by_cases h : (if b = true then (1 : Int) else 0) = n
      · rw [decide_eq_true h, beq_iff_eq.mpr h]
      · rw [decide_eq_false h, beq_eq_false_iff_ne.mpr h]
    rw [h]; exact q
theorem w_neB {K : PySem.W.Frag} {x : V} {m n : Int} {H : Hp} {Q : VK} (e : iv x = some m) (q : Q (.bl (!decide (m = n))) H) : uNe K x (.int n) H Q := by
  rcases iv_cases e with rfl | ⟨b, rfl, rfl⟩
  · exact w_neI q
  · refine .inr ⟨.bool b, .int n, .bl b, .int n, rfl, rfl, ?_⟩
    have h : PyData.eqv (.bool b) (.int n) = decide ((if b = true then (1 : Int) else 0) = n) := by
      rw [show PyData.eqv (.bool b) (.int n) = ((if b = true then (1 : Int) else 0) == n) from rfl]
      by_cases h : (if b = true then (1 : Int) else 0) = n
      · rw [decide_eq_true h, beq_iff_eq.mpr h]
      · rw [decide_eq_false h, beq_eq_false_iff_ne.mpr h]
    rw [h]; exact q
def RngBD (g : TG) (t : TS) (D : Ends) (σ : L2.St) (vs : List V) (H : Hp) : Prop := ∃ x j, vs = [x] ∧ iv x = some j ∧ -(2 ^ 62) ≤ j ∧ j < 2 ^ 62 ∧ ∃ W : Nat → Nat → L2.St → Hp → Prop, (∃ m, W 0 m σ H) ∧ ∀ i m σ H, W i m σ H →
      ((Itr 0 j.toNat).stop i H ∧ D.nx σ H) ∨ ((Itr 0 j.toNat).go i H ∧ ∃ N : L2.St → Hp → Prop, (∀ σ' H', N σ' H' → ∃ m', m' < m ∧ W (i + 1) m' σ' H') ∧ ∀ x H', (Itr 0 j.toNat).yld i H x H' → g x σ H' fun σ2 H2 => t { D with nx := N, ct := N, bk := D.nx } σ2 H2)
theorem w_forRB {ta : TA} {g : TG} {t : TS} {D : Ends} {σ : L2.St} {H : Hp} (h : ta σ H fun vs H1 => RngBD g t D σ vs H1) : tFor (iRngB ta) g t D σ H := h
theorem w_rngB {g : TG} {t : TS} {D : Ends} {σ : L2.St} {H : Hp} {x : V} {m : Int} (hx : iv x = some m) (h : RngD g t D σ [.int m] H) : RngBD g t D σ [x] H := by
  obtain ⟨j, e, h1, h2, h3⟩ := h
  cases e
  exact ⟨x, m, rfl, hx, h1, h2, h3⟩
/-- isinstance(x, int) of a cell -/
theorem w_isiC {K : PySem.W.Frag} {G H : Hp} {x : V} {Q : VK} (h : CellV K G x) (e : Ex G H) (q : Q (.bl (iv x).isSome) H) : rIsi K [x, .ty "int"] H Q := by
  rcases h with h | ⟨a, rfl, ha⟩
  · cases x with
    | non => exact w_isi false ty_non (by rfl) q
    | bl b => exact w_isi true ty_bl (by rfl) q
    | int b => exact w_isi true ty_int (by rfl) q
    | str b => exact w_isi false ty_str (by rfl) q
    | byt b => cases h
    | flt b => cases h
    | ref b => cases h
    | ty b => cases h
  · exact w_isi false (ty_T (st_mono e ha)) (by rfl) q
theorem rc_of {K : PySem.W.Frag} {G : Hp} {x : V} {m : Int} (h : iv x = some m) : RcAt K G x (rcOf x) := by
  rcases iv_cases h with rfl | ⟨b, rfl, _⟩
  · exact .int _
  · exact .bl _
theorem aux_parse {P : Program} {w : World} {K : PySem.W.Frag} {mg : Str → Option Value} {base : Heap}
    {f : Addr} {fd : FuncData} (D : Dn K mg "_law_parse" s_law_parse ["cells", "at", "depth"] f fd)
    (b_tuple : mg "tuple" = none)
    (b_range : mg "range" = none)
    (b_len : mg "len" = none)
    (b_isinstance : mg "isinstance" = none)
    (b_int : mg "int" = none)
    {a_WORDS : Addr} (g_WORDS : ∃ u, mg "WORDS" = some u ∧ RelV (.ref a_WORDS) u) (k_WORDS : ∀ H, SqT K H a_WORDS [V.str "decided", V.str "read", V.str "away", V.str "busy", V.str "rows", V.str "prepare", V.str "prepared", V.str "stale", V.str "decide", V.str "missing", V.str "drop", V.str "finish", V.str "split", V.str "none", V.str "unknown", V.str "next", V.str "time", V.str "counter", V.str "table", V.str "members", V.str "follower", V.str "candidate", V.str "leader", V.str "ask", V.str "vote", V.str "copy", V.str "base", V.str "got", V.str "make", V.str "term", V.str "entry"])
    (n : Nat) (c_law_parse : Cal P w K mg base CX0 (n + 1) "_law_parse" (spParP K n)) : Cal P w K mg base CX0 (n + 2) "_law_parse" (spPar K n) := by
  refine D.ok sc_law_parse (fun vs H Q E h => ?_) fun cdv A outer s H vs Q E hr h => ?_
  · obtain ⟨x, M, G, j, ⟨rfl, _⟩, _⟩ := h; rfl
  obtain ⟨⟨a, xs, at_⟩, M, G, j, ⟨rfl, ha, hc, hz, hn⟩, k⟩ := h
  dsimp only at ha hc hz hn k
  refine ⟨_, (pss_cons (ps_if (PW.pt (pw_or (pt_cmpR op_ge (pv 1) (pe_callB (call_uLenK (K := K) rfl) (by rfl) b_len PySem.boot_len (pa_cons (pv 0) pa_nil)) (nomark _)) (pw_or1 (pt_cmpR op_gtB (pv 2) pe_int (nomark _)))))
(pss_one (ps_ret pe_non))
pss_nil)
(pss_cons (ps_set (i := 3) sc_law_parse.nd rfl (Or.inl rfl) (pe_ix (ix_uK (K := K) rfl) (pv 0) (pv 1) (fun _ _ => rfl)))
(pss_cons (ps_if (pt_not (pt_val (pe_callB (call_isiK' (K := K) rfl) (by rfl) b_isinstance bt_isinstance (pa_cons (pv 3) (pa_cons (pe_bltn (v := .ty "int") (by rfl) b_int bt_int rfl) pa_nil)))))
(pss_one (ps_ret pe_non))
pss_nil)
(pss_cons (ps_if (PW.pt (pw_or (pt_cmpR (op_uEqK (K := K) rfl hr) (pv 3) pe_int (nomark _)) (pw_or (pt_cmpR (op_uEqK (K := K) rfl hr) (pv 3) pe_int (nomark _)) (pw_or1 (pt_cmpR (op_uEqK (K := K) rfl hr) (pv 3) pe_int (nomark _))))))
(pss_one (ps_ret (pe_lst (pa_cons (pe_ix (ix_uK (K := K) rfl) (pe_lst (pa_cons pe_non (pa_cons pe_bl (pa_cons pe_bl pa_nil)))) (pe_op op_subB (pv 3) pe_int) (fun _ _ => rfl)) (pa_cons (pe_op (op_uAddK (K := K) rfl) (pv 1) pe_int) pa_nil)))))
pss_nil)
(pss_cons (ps_if (pt_cmpR op_ge (pe_op (op_uAddK (K := K) rfl) (pv 1) pe_int) (pe_callB (call_uLenK (K := K) rfl) (by rfl) b_len PySem.boot_len (pa_cons (pv 0) pa_nil)) (nomark _))
(pss_one (ps_ret pe_non))
pss_nil)
(pss_cons (ps_set (i := 4) sc_law_parse.nd rfl (Or.inl rfl) (pe_ix (ix_uK (K := K) rfl) (pv 0) (pe_op (op_uAddK (K := K) rfl) (pv 1) pe_int) (fun _ _ => rfl)))
(pss_cons (ps_if (pt_not (pt_val (pe_callB (call_isiK' (K := K) rfl) (by rfl) b_isinstance bt_isinstance (pa_cons (pv 4) (pa_cons (pe_bltn (v := .ty "int") (by rfl) b_int bt_int rfl) pa_nil)))))
(pss_one (ps_ret pe_non))
pss_nil)
(pss_cons (ps_if (pt_cmpR (op_uEqK (K := K) rfl hr) (pv 3) pe_int (nomark _))
(pss_one (ps_ret (pe_lst (pa_cons (pv 4) (pa_cons (pe_op (op_uAddK (K := K) rfl) (pv 1) pe_int) pa_nil)))))
pss_nil)
(pss_cons (ps_if (PW.pt (pw_and (pt_cmpR (op_uEqK (K := K) rfl hr) (pv 3) pe_int (nomark _)) (pw_and1 (pt_chain op_leB op_ltB pe_int (pv 4) (pe_callB (call_uLenK (K := K) rfl) (by rfl) b_len PySem.boot_len (pa_cons (pe_gk (by rfl) g_WORDS) pa_nil))))))
(pss_one (ps_ret (pe_lst (pa_cons (pe_ix (ix_tupB (K := K) rfl) (pe_gk (by rfl) g_WORDS) (pv 4) (fun _ _ => rfl)) (pa_cons (pe_op (op_uAddK (K := K) rfl) (pv 1) pe_int) pa_nil)))))
pss_nil)
(pss_cons (ps_if (PW.pt (pw_or (pt_cmpR (op_uNeK (K := K) rfl hr) (pv 3) pe_int (nomark _)) (pw_or (pt_cmpR op_ltB (pv 4) pe_int (nomark _)) (pw_or1 (pt_cmpR op_gtB (pv 4) (pe_callB (call_uLenK (K := K) rfl) (by rfl) b_len PySem.boot_len (pa_cons (pv 0) pa_nil)) (nomark _))))))
(pss_one (ps_ret pe_non))
pss_nil)
(pss_cons (ps_set (i := 5) sc_law_parse.nd rfl (Or.inl rfl) (pe_lst pa_nil))
(pss_cons (ps_set (i := 1) sc_law_parse.nd rfl (Or.inl rfl) (pe_op (op_uAddK (K := K) rfl) (pv 1) pe_int))
(pss_cons (ps_for PassesOwn.never rfl (pi_rangeB (by rfl) b_range (pa_cons (pv 4) pa_nil)) (pg_name (i := 6) sc_law_parse.nd rfl (Or.inl rfl))
(pss_cons (ps_set (i := 7) sc_law_parse.nd rfl (Or.inl rfl) (pe_cal c_law_parse hr (by first | decide | omega) (by rfl) (pa_cons (pv 0) (pa_cons (pv 1) (pa_cons (pe_op (op_uAddK (K := K) rfl) (pv 2) pe_int) pa_nil)))))
(pss_cons (ps_if (pt_cmp (pc_isN (pv 7)))
(pss_one (ps_ret pe_non))
pss_nil)
(pss_cons (ps_expr (pe_bm PySem.F.plainAttrs_list PySem.F.slot_list_append PySem.F.type_list_append mt_append (pv 5) (pa_cons (pe_ix (ix_uK (K := K) rfl) (pv 7) pe_int (fun _ _ => rfl)) pa_nil)))
(pss_one (ps_set (i := 1) sc_law_parse.nd rfl (Or.inl rfl) (pe_ix (ix_uK (K := K) rfl) (pv 7) pe_int (fun _ _ => rfl))))))))
(pss_one (ps_ret (pe_lst (pa_cons (pe_callTy (call_tupC (K := K) rfl) (by rfl) b_tuple bt_tuple (pa_cons (pv 5) pa_nil)) (pa_cons (pv 1) pa_nil)))))))))))))))))), ?_⟩
  have nofin : lwV xs n at_ = none → ∀ G' H, J M G' H → Ex G G' → Q .non H := fun e G' H j e1 => k _ _ _ _ j e1 ⟨rfl, by rw [e]⟩
  have fin : ∀ {r : Rc} {p : Nat} {u : V}, lwV xs n at_ = some (r, p) → ∀ G' H, J M G' H → Ex G G' → RcAt K G' u r → NewO (.lst [u, .int (p : Nat)]) [u, V.int (p : Nat)].length H Q := fun e G' H j e1 hr =>
    w_new j (by show 2 ≤ sizeLine; decide) fun t G2 H2 j2 e2 ht _ => k _ _ _ _ j2 (e1.trans e2) ⟨rfl, by rw [e]; exact ⟨t, _, rfl, ht, hr.ex e2⟩⟩
  walk_at "start"
  refine w_lenL j ha ?_
  walk_at "go"
  refine w_dec (fun h1 => ?_) (fun h1 => ?_)
  · walk_at "go"
    refine nofin ?_ _ _ j (Same.refl G)
    cases n with
    | zero => rfl
    | succ n => rw [lwV, List.getElem?_eq_none (by omega)]; rfl
  walk_at "go"
  refine w_ivLI ?_
  walk_at "go"
  cases n with
  | zero =>
    refine w_dT (by omega) ?_
    walk_at "go"
    exact nofin rfl _ _ j (Same.refl G)
  | succ n =>
    refine w_dF (by omega) ?_
    walk_at "go"
    have hl : at_ < xs.length := by omega
    have ht := List.getElem?_eq_getElem hl
    refine w_ixL j ha (atI_nat ht) ?_
    walk_at "go"
    have ct := hc _ (List.getElem_mem hl)
    generalize xs[at_] = t at ht ct
    refine w_isiC ct j.g ?_
    refine w_bl ?_
    cases q2 : iv t with
    | none =>
      refine w_nf ?_
      walk_at "go"
      exact nofin (by rw [lwV, ht]; simp only [Option.bind_some]; rw [q2]; rfl) _ _ j (Same.refl G)
    | some tag =>
      refine w_nt ?_
      walk_at "go"
      have lw1 : lwV xs (n + 1) at_ = if tag = 1 then some (.non, at_ + 1) else if tag = 2 then some (.bl false, at_ + 1) else if tag = 3 then some (.bl true, at_ + 1) else
        (xs[at_ + 1]?).bind fun nv => (iv nv).bind fun num => if tag = 0 then some (rcOf nv, at_ + 2) else if tag = 4 ∧ 0 ≤ num ∧ num < 31 then (WD[num.toNat]?).map fun s => (.str s, at_ + 2) else
          if tag ≠ 5 ∨ num < 0 ∨ num > (xs.length : Int) then none else (partsM (fun a => lwV xs n a) num.toNat (at_ + 2)).map fun y => (.tup y.1, y.2) := by
        rw [lwV, ht]; simp only [Option.bind_some]; rw [q2]; rfl
      refine w_eqB q2 ?_
      walk_at "go"
      refine w_dec (fun t1 => ?_) (fun t1 => ?_)
      · walk_at "go"
        subst t1
        refine w_new j (by show 3 ≤ sizeLine; decide) fun L G1 H1 j1 e4 hL _ => ?_
        walk_at "go"
        refine w_ivL q2 ?_
        refine w_ixL (v := .non) j1 (sl_of hL) (by rfl) ?_
        walk_at "go"
        exact fin (r := .non) (u := .non) (p := at_ + 1) (by rw [lw1]; rfl) _ _ j1 e4 .non
      rw [if_neg t1] at lw1
      walk_at "go"
      refine w_eqB q2 ?_
      walk_at "go"
      refine w_dec (fun t2 => ?_) (fun t2 => ?_)
      · walk_at "go"
        subst t2
        refine w_new j (by show 3 ≤ sizeLine; decide) fun L G1 H1 j1 e4 hL _ => ?_
        walk_at "go"
        refine w_ivL q2 ?_
        refine w_ixL (v := (.bl false)) j1 (sl_of hL) (by rfl) ?_
        walk_at "go"
        exact fin (r := (.bl false)) (u := (.bl false)) (p := at_ + 1) (by rw [lw1]; rfl) _ _ j1 e4 (.bl _)
      rw [if_neg t2] at lw1
      walk_at "go"
      refine w_eqB q2 ?_
      walk_at "go"
      refine w_dec (fun t3 => ?_) (fun t3 => ?_)
      · walk_at "go"
        subst t3
        refine w_new j (by show 3 ≤ sizeLine; decide) fun L G1 H1 j1 e4 hL _ => ?_
        walk_at "go"
        refine w_ivL q2 ?_
        refine w_ixL (v := (.bl true)) j1 (sl_of hL) (by rfl) ?_
        walk_at "go"
        exact fin (r := (.bl true)) (u := (.bl true)) (p := at_ + 1) (by rw [lw1]; rfl) _ _ j1 e4 (.bl _)
      rw [if_neg t3] at lw1
      walk_at "go"
      refine w_lenL j ha ?_
      walk_at "go"
      refine w_dec (fun h2 => ?_) (fun h2 => ?_)
      · walk_at "go"
        exact nofin (by rw [lw1, List.getElem?_eq_none (by omega)]; rfl) _ _ j (Same.refl G)
      walk_at "go"
      have hl2 : at_ + 1 < xs.length := by omega
      have hn2 := List.getElem?_eq_getElem hl2
      refine w_ixL j ha (atI_nat (j := at_ + 1) hn2) ?_
      walk_at "go"
      have cn := hc _ (List.getElem_mem hl2)
      generalize xs[at_ + 1] = nv at hn2 cn
      rw [hn2] at lw1
      simp only [Option.bind_some] at lw1
      refine w_isiC cn j.g ?_
      refine w_bl ?_
      cases q3 : iv nv with
      | none =>
        refine w_nf ?_
        walk_at "go"
        rw [q3] at lw1
        exact nofin lw1 _ _ j (Same.refl G)
      | some num =>
        refine w_nt ?_
        walk_at "go"
        rw [q3] at lw1
        simp only [Option.bind_some] at lw1
        refine w_eqB q2 ?_
        walk_at "go"
        refine w_dec (fun t0 => ?_) (fun t0 => ?_)
        · walk_at "go"
          rw [if_pos t0] at lw1
          exact fin (r := rcOf nv) (p := at_ + 2) lw1 _ _ j (Same.refl G) (rc_of q3)
        rw [if_neg t0] at lw1
        walk_at "go"
        refine w_eqB q2 ?_
        walk_at "go"
        refine w_dec (fun t4 => ?_) (fun t4 => ?_)
        · walk_at "go"
          refine w_ivR q3 ?_
          refine w_bl ?_
          have not5 : ¬ tag = 5 := by omega
          refine w_dec (fun n0 => ?_) (fun n0 => ?_)
          · walk_at "go"
            refine w_lenT (xs := WD.map V.str) j (k_WORDS G) ?_
            refine w_ivL q3 ?_
            walk_at "go"
            show if decide (num < ((31 : Nat) : Int)) = true then _ else _
            refine w_dec (fun n1 => ?_) (fun n1 => ?_)
            · walk_at "go"
              rw [if_pos ⟨t4, n0, by omega⟩] at lw1
              obtain ⟨m, rfl⟩ := Int.eq_ofNat_of_zero_le n0
              have hl3 : m < WD.length := by show m < 31; omega
              have e3 := List.getElem?_eq_getElem hl3
              refine ⟨_, WD.map V.str, (m : Int), .str WD[m], rfl, q3, k_WORDS _, atI_nat (by rw [List.getElem?_map, e3]; rfl), ?_⟩
              walk_at "go"
              exact fin (r := .str WD[m]) (p := at_ + 2) (by rw [lw1, show ((m : Nat) : Int).toNat = m from rfl, e3]; rfl) _ _ j (Same.refl G) (.str _)
            · walk_at "go"
              rw [if_neg (fun z => n1 (by omega)), if_pos (.inl not5)] at lw1
              refine w_neB q2 ?_
              walk_at "go"
              refine w_nF not5 ?_
              walk_at "go"
              exact nofin lw1 _ _ j (Same.refl G)
          · walk_at "go"
            rw [if_neg (fun z => n0 z.2.1), if_pos (.inl not5)] at lw1
            refine w_neB q2 ?_
            walk_at "go"
            refine w_nF not5 ?_
            walk_at "go"
            exact nofin lw1 _ _ j (Same.refl G)
        rw [if_neg (fun z => t4 z.1)] at lw1
        walk_at "go"
        refine w_neB q2 ?_
        walk_at "go"
        refine w_decN (fun t5 => ?_) (fun t5 => ?_)
        · walk_at "go"
          rw [if_pos (.inl t5)] at lw1
          exact nofin lw1 _ _ j (Same.refl G)
        walk_at "go"
        refine w_ivL q3 ?_
        walk_at "go"
        refine w_dec (fun n0 => ?_) (fun n0 => ?_)
        · walk_at "go"
          rw [if_pos (.inr (.inl n0))] at lw1
          exact nofin lw1 _ _ j (Same.refl G)
        walk_at "go"
        refine w_lenL j ha ?_
        refine w_ivL q3 ?_
        walk_at "go"
        refine w_dec (fun n1 => ?_) (fun n1 => ?_)
        · walk_at "go"
          rw [if_pos (.inr (.inr n1))] at lw1
          exact nofin lw1 _ _ j (Same.refl G)
        rw [if_neg (by omega)] at lw1
        walk_at "go"
        refine w_newM j (Nat.zero_le _) fun L H2 j2 nL gL => ?_
        walk_at "go"
        refine w_forRB ?_
        walk_at "go"
        refine w_rngB q3 ?_
        refine w_rng (fun q σ H => ∃ G2 vs rs pl x6 x7, J (upd M L (.lst vs)) G2 H ∧ Ex G G2 ∧ RcsAt K G2 vs rs ∧ rs.length = q ∧ partsM (fun a => lwV xs n a) q (at_ + 2) = some (rs, pl) ∧ σ = [some (.ref a), some (.int (pl : Nat)), some (.int (35 - ((n + 1 : Nat) : Int))), some t, some nv, some (.ref L), x6, x7])
          ⟨G, [], [], at_ + 2, _, _, j2, Same.refl _, .nil, rfl, rfl, rfl⟩ ?_ ?_ (by omega) (by omega)
        · rintro q σ H hq ⟨G2, vs, rs, pl, x6, x7, j3, e3, hrs, hl, hp, rfl⟩
          walk_at "go"
          show spPar K n _ _ _ _
          refine w_sg (a, xs, pl) j3 ⟨by show [V.ref a, .int pl, V.int (35 - ((n + 1 : Nat) : Int) + 1)] ++ [] = [V.ref a, .int pl, .int (35 - (n : Int))]; rw [show 35 - ((n + 1 : Nat) : Int) + 1 = 35 - (n : Int) by omega]; rfl, sl_mono e3 ha, fun v m => (hc v m).ex e3, hz, by omega⟩ fun v M3 G3 H3 j4 e4 ⟨em, hv⟩ => ?_
          subst em
          dsimp only at hv
          cases q5 : lwV xs n pl with
          | none =>
            rw [q5] at hv
            cases hv
            walk_at "go"
            refine w_dT rfl ?_
            walk_at "go"
            refine nofin ?_ _ _ (show J M G3 H3 from ?_) (e3.trans e4)
            · rw [lw1, partsM_bad hp q5 (by omega)]; rfl
            · have j5 := j4.drop L
              rwa [show del (upd M L _) L = M from by
                funext b
                by_cases q : b = L
                · subst q; rw [del_same, nL]
                · rw [del_ne q, upd_ne q]] at j5
          | some y =>
            obtain ⟨r, p⟩ := y
            rw [q5] at hv
            obtain ⟨T, u, rfl, hT, hr⟩ := hv
            walk_at "go"
            refine w_dF (fun z => nomatch z) ?_
            walk_at "go"
            refine ⟨ty_listU j4, ?_⟩
            walk_at "go"
            refine w_ixL j4 (sl_of hT) (by rfl) ?_
            walk_at "go"
            refine w_appendU j4 (by rw [hrs.len]; omega) fun H5 j5 => ?_
            walk_at "go"
            refine w_ixL j5 (sl_of hT) (by rfl) ?_
            walk_at "go"
            refine ⟨G3, _, rs ++ [r], p, _, _, j5, e3.trans e4, (hrs.ex e4).snoc hr, by rw [List.length_append, hl]; rfl, ?_, rfl⟩
            rw [partsM_snoc, hp]
            show (lwV xs n pl).map _ = _
            rw [q5]; rfl
        · rintro σ H ⟨G2, vs, rs, pl, x6, x7, j3, e3, hrs, hl, hp, rfl⟩
          walk_at "go"
          refine w_tupC (xs := vs) (.inl (.inl (j3.m _ _ upd_same))) (w_new j3 (Nat.zero_le _) fun T G4 H4 j4 e4 hT _ => ?_)
          walk_at "go"
          have j6 := j4.drop L
          rw [show del (upd M L (.lst vs)) L = M from by
                funext b
                by_cases q : b = L
                · subst q; rw [del_same, nL]
                · rw [del_ne q, upd_ne q]] at j6
          exact fin (r := .tup rs) (p := pl) (by rw [lw1, hp]; rfl) _ _ j6 (e3.trans e4) (.tup (st_of hT) (hrs.ex e4))
theorem ok_law_parse {P : Program} {w : World} {K : PySem.W.Frag} {mg : Str → Option Value} {base : Heap}
    {f : Addr} {fd : FuncData} (D : Dn K mg "_law_parse" s_law_parse ["cells", "at", "depth"] f fd)
    (b_tuple : mg "tuple" = none)
    (b_range : mg "range" = none)
    (b_len : mg "len" = none)
    (b_isinstance : mg "isinstance" = none)
    (b_int : mg "int" = none)
    {a_WORDS : Addr} (g_WORDS : ∃ u, mg "WORDS" = some u ∧ RelV (.ref a_WORDS) u) (k_WORDS : ∀ H, SqT K H a_WORDS [V.str "decided", V.str "read", V.str "away", V.str "busy", V.str "rows", V.str "prepare", V.str "prepared", V.str "stale", V.str "decide", V.str "missing", V.str "drop", V.str "finish", V.str "split", V.str "none", V.str "unknown", V.str "next", V.str "time", V.str "counter", V.str "table", V.str "members", V.str "follower", V.str "candidate", V.str "leader", V.str "ask", V.str "vote", V.str "copy", V.str "base", V.str "got", V.str "make", V.str "term", V.str "entry"]) : Cal P w K mg base CX0 37 "_law_parse" (sp_law_parse K) := by
  have all : ∀ n, Cal P w K mg base CX0 (n + 2) "_law_parse" (spPar K n) := fun n => by
    induction n with
    | zero => exact aux_parse D b_tuple b_range b_len b_isinstance b_int g_WORDS k_WORDS 0 (D.cal ⟨fun _ _ _ _ h => h.elim, fun _ _ _ _ _ _ _ _ _ _ _ _ _ h => h.elim⟩)
    | succ n ih => exact aux_parse D b_tuple b_range b_len b_isinstance b_int g_WORDS k_WORDS (n + 1) ih
  exact all 35
/-! ### _law_rebuilt -/
abbrev s_law_rebuilt : Stmt := top 32
abbrev n_law_rebuilt : List Str := ["cells", "step"]
theorem sc_law_rebuilt : FnScope n_law_rebuilt ["cells"] (defScope s_law_rebuilt) := ⟨rfl, rfl, rfl, by decide +kernel, rfl, by decide +kernel, by decide +kernel⟩
def lawReb (xs : List V) : Option Rc := (lwV xs 35 0).bind fun x => if x.2 = xs.length then some x.1 else none
def sp_law_rebuilt (K : PySem.W.Frag) : Sp := Sg (α := Addr × List V) (fun x vs _ G => vs = [.ref x.1] ∧ SqL K G x.1 x.2 ∧ (∀ v ∈ x.2, CellV K G v) ∧ x.2.length ≤ 100000)
  (fun x M _ v M' G' => M' = M ∧ (match lawReb x.2 with | none => v = .non | some r => ∃ t u, v = .ref t ∧ G' t = some (.lst [u]) ∧ RcAt K G' u r))
theorem ok_law_rebuilt {P : Program} {w : World} {K : PySem.W.Frag} {mg : Str → Option Value} {base : Heap}
    {f : Addr} {fd : FuncData} (D : Dn K mg "_law_rebuilt" s_law_rebuilt ["cells"] f fd)
    (b_len : mg "len" = none)
    (c_law_parse : Cal P w K mg base CX0 37 "_law_parse" (sp_law_parse K)) : Cal P w K mg base CX0 38 "_law_rebuilt" (sp_law_rebuilt K) := by
  refine D.ok sc_law_rebuilt (fun vs H Q E h => ?_) fun cdv A outer s H vs Q E hr h => ?_
  · obtain ⟨x, M, G, j, ⟨rfl, _⟩, _⟩ := h; rfl
  obtain ⟨⟨a, xs⟩, M, G, j, ⟨rfl, ha, hc, hz⟩, k⟩ := h
  dsimp only at ha hc hz k
  refine ⟨_, (pss_cons (ps_set (i := 1) sc_law_rebuilt.nd rfl (Or.inl rfl) (pe_cal c_law_parse hr (by first | decide | omega) (by rfl) (pa_cons (pv 0) (pa_cons pe_int (pa_cons pe_int pa_nil)))))
(pss_cons (ps_if (PW.pt (pw_or (pt_cmp (pc_isN (pv 1))) (pw_or1 (pt_cmpR (op_uNeK (K := K) rfl hr) (pe_ix (ix_uK (K := K) rfl) (pv 1) pe_int (fun _ _ => rfl)) (pe_callB (call_uLenK (K := K) rfl) (by rfl) b_len PySem.boot_len (pa_cons (pv 0) pa_nil)) (nomark _)))))
(pss_one (ps_ret pe_non))
pss_nil)
(pss_one (ps_ret (pe_lst (pa_cons (pe_ix (ix_uK (K := K) rfl) (pv 1) pe_int (fun _ _ => rfl)) pa_nil)))))), ?_⟩
  walk_at "start"
  show spPar K 35 _ _ _ _
  refine w_sg (a, xs, 0) j ⟨rfl, ha, hc, hz, Nat.le_refl _⟩ fun v M3 G3 H3 j4 e4 ⟨em, hv⟩ => ?_
  subst em
  dsimp only at hv
  cases q5 : lwV xs 35 0 with
  | none =>
    rw [q5] at hv
    cases hv
    walk_at "go"
    refine w_dT rfl ?_
    refine w_T ?_
    walk_at "go"
    exact k _ _ _ _ j4 e4 ⟨rfl, by unfold lawReb; rw [q5]; rfl⟩
  | some y =>
    obtain ⟨r, p⟩ := y
    rw [q5] at hv
    obtain ⟨T, u, rfl, hT, hr⟩ := hv
    have lr : lawReb xs = if p = xs.length then some r else none := by unfold lawReb; rw [q5]; rfl
    walk_at "go"
    refine w_dF (fun z => nomatch z) ?_
    walk_at "go"
    refine w_ixL j4 (sl_of hT) (by rfl) ?_
    walk_at "go"
    refine w_lenL j4 (sl_mono e4 ha) ?_
    walk_at "go"
    refine w_decN (fun h => ?_) (fun h => ?_)
    · walk_at "go"
      exact k _ _ _ _ j4 e4 ⟨rfl, by rw [lr, if_neg (by omega)]⟩
    · walk_at "go"
      refine w_ixL j4 (sl_of hT) (by rfl) ?_
      walk_at "go"
      exact w_new j4 (by show 1 ≤ sizeLine; decide) fun t G5 H5 j5 e5 ht _ => k _ _ _ _ j5 (e4.trans e5) ⟨rfl, by rw [lr, if_pos (by omega)]; exact ⟨t, u, rfl, ht, hr.ex e5⟩⟩
/-! ### cell_at -/
abbrev s_cell_at : Stmt := top 15
abbrev n_cell_at : List Str := ["cells", "at"]
theorem sc_cell_at : FnScope n_cell_at ["cells", "at"] (defScope s_cell_at) := ⟨rfl, rfl, rfl, by decide +kernel, rfl, by decide +kernel, by decide +kernel⟩
def sp_cell_at (K : PySem.W.Frag) (C : Addr) : Sp := Sx (α := Addr × List Int × Nat) (fun x vs _ G => vs = [.ref x.1, .int x.2.2] ∧ SqL K G x.1 (x.2.1.map V.int))
  (fun x M _ v M' _ => M' = M ∧ ∃ i, x.2.1[x.2.2]? = some i ∧ v = .int i) (fun x M _ c M' _ => c = C ∧ M' = M ∧ x.2.1[x.2.2]? = none)
theorem ok_cell_at {P : Program} {w : World} {K : PySem.W.Frag} {mg : Str → Option Value} {base : Heap}
    {f : Addr} {fd : FuncData} (D : Dn K mg "cell_at" s_cell_at ["cells", "at"] f fd)
    (b_len : mg "len" = none)
    {A_BadRecord : Addr} (x_BadRecord : Xc K mg "BadRecord" A_BadRecord) : Cal P w K mg base (L2.CX P w) 1 "cell_at" (sp_cell_at K A_BadRecord) := by
  refine D.okX sc_cell_at (fun vs H Q E h => ?_) fun cdv A outer s H vs Q E hr h => ?_
  · obtain ⟨x, M, G, j, ⟨rfl, _⟩, _⟩ := h; rfl
  obtain ⟨⟨a, cs, at_⟩, M, G, j, ⟨rfl, ha⟩, k, kx⟩ := h
  dsimp only at ha k kx
  refine ⟨_, (pss_cons (ps_if (pt_cmpR op_ge (pv 1) (pe_callB (call_uLenK (K := K) rfl) (by rfl) b_len PySem.boot_len (pa_cons (pv 0) pa_nil)) (nomark _))
(pss_one (ps_raiseA rfl (takes_of rfl rfl rfl rfl) x_BadRecord (by rfl)))
pss_nil)
(pss_one (ps_ret (pe_ix (ix_uK (K := K) rfl) (pv 0) (pv 1) (fun _ _ => rfl))))), ?_⟩
  walk_at "start"
  refine w_lenL j ha ?_
  walk_at "go"
  rw [List.length_map]
  refine w_dec (fun h => ?_) (fun h => ?_)
  · walk_at "go"
    exact kx _ _ _ _ j (Same.refl G) ⟨rfl, rfl, List.getElem?_eq_none (by omega)⟩
  · walk_at "go"
    have hl : at_ < cs.length := by omega
    have e := List.getElem?_eq_getElem hl
    refine w_ixL j ha (ints_ix e) ?_
    exact k _ _ _ _ j (Same.refl G) ⟨rfl, _, e, rfl⟩
/-! ### tuple_at -/
abbrev s_tuple_at : Stmt := top 17
abbrev n_tuple_at : List Str := ["cells", "at", "room", "length", "place", "parts", "_", "part"]
theorem sc_tuple_at : FnScope n_tuple_at ["cells", "at", "room"] (defScope s_tuple_at) := ⟨rfl, rfl, rfl, by decide +kernel, rfl, by decide +kernel, by decide +kernel⟩
def spRecA (K : PySem.W.Frag) (C : Addr) (n : Nat) : Sp := Sx (α := Addr × List Int × Nat) (fun x vs _ G => vs = [.ref x.1, .int x.2.2, .int n] ∧ SqL K G x.1 (x.2.1.map V.int) ∧ x.2.1.length ≤ 100000)
  (fun x M _ v M' G' => M' = M ∧ ∃ t u r p, v = .ref t ∧ G' t = some (.tup [u, .int (p : Nat)]) ∧ RcAt K G' u r ∧ qM x.2.1 n x.2.2 = some (r, p)) (fun x M _ c M' _ => c = C ∧ M' = M ∧ qM x.2.1 n x.2.2 = none)
def spRecAP (K : PySem.W.Frag) (C : Addr) : Nat → Sp
  | 0 => spNone
  | n + 1 => spRecA K C n
def spTupA (K : PySem.W.Frag) (C : Addr) (n : Nat) : Sp := Sx (α := Addr × List Int × Nat) (fun x vs _ G => vs = [.ref x.1, .int x.2.2, .int n] ∧ SqL K G x.1 (x.2.1.map V.int) ∧ x.2.1.length ≤ 100000)
  (fun x M _ v M' G' => M' = M ∧ ∃ t u r p, v = .ref t ∧ G' t = some (.tup [u, .int (p : Nat)]) ∧ RcAt K G' u r ∧ tupQ x.2.1 x.2.2 (recQ x.2.1 n) = some (r, p)) (fun x M _ c M' _ => c = C ∧ M' = M ∧ tupQ x.2.1 x.2.2 (recQ x.2.1 n) = none)
def sp_tuple_at (K : PySem.W.Frag) (C : Addr) : Sp := spTupA K C 30
def sp_record_at (K : PySem.W.Frag) (C : Addr) : Sp := spRecA K C 30
theorem aux_tuple {P : Program} {w : World} {K : PySem.W.Frag} {mg : Str → Option Value} {base : Heap}
    {f : Addr} {fd : FuncData} (D : Dn K mg "tuple_at" s_tuple_at ["cells", "at", "room"] f fd)
    (b_tuple : mg "tuple" = none)
    (b_range : mg "range" = none)
    (b_len : mg "len" = none)
    {A_BadRecord : Addr} (x_BadRecord : Xc K mg "BadRecord" A_BadRecord)
    (c_cell_at : Cal P w K mg base (L2.CX P w) 1 "cell_at" (sp_cell_at K A_BadRecord))
    (n : Nat) (c_record_at : Cal P w K mg base (L2.CX P w) (2 * n + 1) "record_at" (spRecAP K A_BadRecord n)) : Cal P w K mg base (L2.CX P w) (2 * n + 2) "tuple_at" (spTupA K A_BadRecord n) := by
  refine D.okX sc_tuple_at (fun vs H Q E h => ?_) fun cdv A outer s H vs Q E hr h => ?_
  · obtain ⟨x, M, G, j, ⟨rfl, _⟩, _⟩ := h; rfl
  obtain ⟨⟨a, cs, at_⟩, M, G, j, ⟨rfl, ha, hz⟩, k, kx⟩ := h
  dsimp only at ha hz k kx
  refine ⟨_, (pss_cons (ps_set (i := 3) sc_tuple_at.nd rfl (Or.inl rfl) (pe_calX c_cell_at hr (by first | decide | omega) (by rfl) (takes_of rfl rfl rfl rfl) (pa_cons (pv 0) (pa_cons (pv 1) pa_nil))))
(pss_cons (ps_set (i := 4) sc_tuple_at.nd rfl (Or.inl rfl) (pe_op (op_uAddK (K := K) rfl) (pv 1) pe_int))
(pss_cons (ps_if (pt_not (pt_chain op_le op_le pe_int (pv 3) (pe_op op_sub (pe_callB (call_uLenK (K := K) rfl) (by rfl) b_len PySem.boot_len (pa_cons (pv 0) pa_nil)) (pv 4))))
(pss_one (ps_raiseA rfl (takes_of rfl rfl rfl rfl) x_BadRecord (by rfl)))
pss_nil)
(pss_cons (ps_if (pt_cmpR (op_uEqK (K := K) rfl hr) (pv 2) pe_int (nomark _))
(pss_one (ps_raiseA rfl (takes_of rfl rfl rfl rfl) x_BadRecord (by rfl)))
pss_nil)
(pss_cons (ps_set (i := 5) sc_tuple_at.nd rfl (Or.inl rfl) (pe_lst pa_nil))
(pss_cons (ps_for (passes_of rfl) rfl (pi_range1 (by rfl) b_range (pa_cons (pv 3) pa_nil)) (pg_name (i := 6) sc_tuple_at.nd rfl (Or.inl rfl))
(pss_cons (ps_asg (pe_calX c_record_at hr (by first | decide | omega) (by rfl) (takes_of rfl rfl rfl rfl) (pa_cons (pv 0) (pa_cons (pv 4) (pa_cons (pe_op op_sub (pv 2) pe_int) pa_nil)))) (pg_tup rfl (pgs_cons (pg_name (i := 7) sc_tuple_at.nd rfl (Or.inl rfl)) (pgs_cons (pg_name (i := 4) sc_tuple_at.nd rfl (Or.inl rfl)) pgs_nil))))
(pss_one (ps_expr (pe_bm PySem.F.plainAttrs_list PySem.F.slot_list_append PySem.F.type_list_append mt_append (pv 5) (pa_cons (pv 7) pa_nil))))))
(pss_one (ps_ret (pe_tup (pa_cons (pe_callTy (call_tupC (K := K) rfl) (by rfl) b_tuple bt_tuple (pa_cons (pv 5) pa_nil)) (pa_cons (pv 4) pa_nil))))))))))), ?_⟩
  walk_at "start"
  refine w_sx (a, cs, at_) j ⟨rfl, ha⟩ (fun v M1 G1 H1 j1 e1 ⟨em, i, hi, ev⟩ => ?_) fun c M1 G1 H1 j1 e1 ⟨ec, em, hi⟩ => ?_
  · subst ev em
    dsimp only at hi
    walk_at "go"
    have ha1 := sl_mono e1 ha
    have bad : tupQ cs at_ (recQ cs n) = none → ∀ G' H, J M1 G' H → Ex G1 G' → E (.ref A_BadRecord) none H := fun n G' H j e => kx _ _ _ _ j (e1.trans e) ⟨rfl, rfl, n⟩
    have tq : tupQ cs at_ (recQ cs n) = if 0 ≤ i ∧ i ≤ (cs.length : Int) - (at_ + 1) then ((recQ cs n).bind fun f => (partsM f i.toNat (at_ + 1)).map fun y => (.tup y.1, y.2)) else none := by unfold tupQ; rw [hi]; rfl
    have noG : ¬ (0 ≤ i ∧ i ≤ (cs.length : Int) - (at_ + 1)) → tupQ cs at_ (recQ cs n) = none := fun z => by rw [tq, if_neg z]
    refine w_dec (fun h1 => ?_) (fun h1 => ?_)
    · walk_at "go"
      refine w_lenL j1 ha1 ?_
      walk_at "go"
      rw [List.length_map]
      refine w_decN (fun h2 => ?_) (fun h2 => ?_)
      · walk_at "go"
        exact bad (noG (by omega)) _ _ j1 (Same.refl _)
      · walk_at "go"
        have hg : 0 ≤ i ∧ i ≤ (cs.length : Int) - (at_ + 1) := ⟨h1, by omega⟩
        rw [if_pos hg] at tq
        cases n with
        | zero =>
          refine w_dT rfl ?_
          walk_at "go"
          exact bad tq _ _ j1 (Same.refl _)
        | succ n =>
          refine w_dF (by omega) ?_
          walk_at "go"
          refine w_newM j1 (Nat.zero_le _) fun L H2 j2 nL gL => ?_
          walk_at "go"
          have tq : tupQ cs at_ (recQ cs (n + 1)) = (partsM (fun a => qM cs n a) i.toNat (at_ + 1)).map fun y => (.tup y.1, y.2) := tq
          refine w_rng (fun q σ H => ∃ G2 vs rs pl x6 x7, J (upd M1 L (.lst vs)) G2 H ∧ Ex G1 G2 ∧ RcsAt K G2 vs rs ∧ rs.length = q ∧ partsM (fun a => qM cs n a) q (at_ + 1) = some (rs, pl) ∧ σ = [some (.ref a), some (.int at_), some (.int ((n + 1 : Nat) : Int)), some (.int i), some (.int (pl : Nat)), some (.ref L), x6, x7])
            ⟨G1, [], [], at_ + 1, _, _, j2, Same.refl _, .nil, rfl, rfl, rfl⟩ ?_ ?_ (by omega) (by omega)
          · rintro q σ H hq ⟨G2, vs, rs, pl, x6, x7, j3, e3, hrs, hl, hp, rfl⟩
            walk_at "go"
            show spRecA K A_BadRecord n _ _ _ _
            refine w_sx (a, cs, pl) j3 ⟨by show [V.ref a, .int pl, V.int (((n + 1 : Nat) : Int) - 1)] ++ [] = [V.ref a, .int pl, .int n]; rw [show ((n + 1 : Nat) : Int) - 1 = n by omega]; rfl, sl_mono e3 ha1, hz⟩ (fun v M3 G3 H3 j4 e4 ⟨em, t, u, r, p, ev, ht, hr, hqm⟩ => ?_) fun c M3 G3 H3 j4 e4 ⟨ec, em, hqm⟩ => ?_
            · subst ev em
              refine w_gTup j4 (st_of ht) rfl ?_
              refine w_gCons (w_gName (w_gCons (w_gName (w_gNil ?_))))
              walk_at "go"
              refine ⟨ty_listU j4, ?_⟩
              walk_at "go"
              refine w_appendU j4 (by rw [hrs.len]; omega) fun H5 j5 => ?_
              refine ⟨G3, _, rs ++ [r], p, _, _, j5, e3.trans e4, (hrs.ex e4).snoc hr, by rw [List.length_append, hl]; rfl, ?_, rfl⟩
              rw [partsM_snoc, hp]
              show (qM cs n pl).map _ = _
              dsimp only at hqm
              rw [hqm]; rfl
            · subst ec em
              refine bad ?_ _ _ (show J M1 G3 H3 from ?_) (e3.trans e4)
              · rw [tq, partsM_bad hp hqm (by omega)]; rfl
              · have j5 := j4.drop L
                rwa [show del (upd M1 L _) L = M1 from by
                  funext b
                  by_cases q : b = L
                  · subst q; rw [del_same, nL]
                  · rw [del_ne q, upd_ne q]] at j5
          · rintro σ H ⟨G2, vs, rs, pl, x6, x7, j3, e3, hrs, hl, hp, rfl⟩
            walk_at "go"
            refine w_tupC (xs := vs) (.inl (.inl (j3.m _ _ upd_same))) (w_new j3 (Nat.zero_le _) fun T G4 H4 j4 e4 hT _ => ?_)
            walk_at "go"
            refine w_new j4 (by show 2 ≤ sizeLine; decide) fun U G5 H5 j5 e5 hU _ => ?_
            have j6 := j5.drop L
            rw [show del (upd M1 L (.lst vs)) L = M1 from by
                  funext b
                  by_cases q : b = L
                  · subst q; rw [del_same, nL]
                  · rw [del_ne q, upd_ne q]] at j6
            exact k _ _ _ _ j6 (e1.trans (e3.trans (e4.trans e5))) ⟨rfl, U, _, .tup rs, pl, rfl, hU, .tup (st_of (e5 _ _ hT)) (hrs.ex (e4.trans e5)), by rw [tq, hp]; rfl⟩
    · walk_at "go"
      exact bad (noG (by omega)) _ _ j1 (Same.refl _)
  · subst ec em
    exact kx _ _ _ _ j1 e1 ⟨rfl, rfl, by unfold tupQ; dsimp only at hi; rw [hi]; rfl⟩
/-! ### word_at -/
abbrev s_word_at : Stmt := top 16
abbrev n_word_at : List Str := ["cells", "at", "index"]
theorem sc_word_at : FnScope n_word_at ["cells", "at"] (defScope s_word_at) := ⟨rfl, rfl, rfl, by decide +kernel, rfl, by decide +kernel, by decide +kernel⟩
def sp_word_at (K : PySem.W.Frag) (C : Addr) : Sp := Sx (α := Addr × List Int × Nat) (fun x vs _ G => vs = [.ref x.1, .int x.2.2] ∧ SqL K G x.1 (x.2.1.map V.int))
  (fun x M _ v M' _ => M' = M ∧ ∃ s, wordQ x.2.1 x.2.2 = some s ∧ s ∈ WD ∧ v = .str s) (fun x M _ c M' _ => c = C ∧ M' = M ∧ wordQ x.2.1 x.2.2 = none)
theorem ok_word_at {P : Program} {w : World} {K : PySem.W.Frag} {mg : Str → Option Value} {base : Heap}
    {f : Addr} {fd : FuncData} (D : Dn K mg "word_at" s_word_at ["cells", "at"] f fd)
    (b_len : mg "len" = none)
    {a_WORDS : Addr} (g_WORDS : ∃ u, mg "WORDS" = some u ∧ RelV (.ref a_WORDS) u) (k_WORDS : ∀ H, SqT K H a_WORDS [V.str "decided", V.str "read", V.str "away", V.str "busy", V.str "rows", V.str "prepare", V.str "prepared", V.str "stale", V.str "decide", V.str "missing", V.str "drop", V.str "finish", V.str "split", V.str "none", V.str "unknown", V.str "next", V.str "time", V.str "counter", V.str "table", V.str "members", V.str "follower", V.str "candidate", V.str "leader", V.str "ask", V.str "vote", V.str "copy", V.str "base", V.str "got", V.str "make", V.str "term", V.str "entry"])
    {A_BadRecord : Addr} (x_BadRecord : Xc K mg "BadRecord" A_BadRecord)
    (c_cell_at : Cal P w K mg base (L2.CX P w) 1 "cell_at" (sp_cell_at K A_BadRecord)) : Cal P w K mg base (L2.CX P w) 2 "word_at" (sp_word_at K A_BadRecord) := by
  refine D.okX sc_word_at (fun vs H Q E h => ?_) fun cdv A outer s H vs Q E hr h => ?_
  · obtain ⟨x, M, G, j, ⟨rfl, _⟩, _⟩ := h; rfl
  obtain ⟨⟨a, cs, at_⟩, M, G, j, ⟨rfl, ha⟩, k, kx⟩ := h
  dsimp only at ha k kx
  refine ⟨_, (pss_cons (ps_set (i := 2) sc_word_at.nd rfl (Or.inl rfl) (pe_calX c_cell_at hr (by first | decide | omega) (by rfl) (takes_of rfl rfl rfl rfl) (pa_cons (pv 0) (pa_cons (pv 1) pa_nil))))
(pss_cons (ps_if (pt_not (pt_chain op_le op_lt pe_int (pv 2) (pe_callB (call_uLenK (K := K) rfl) (by rfl) b_len PySem.boot_len (pa_cons (pe_gk (by rfl) g_WORDS) pa_nil))))
(pss_one (ps_raiseA rfl (takes_of rfl rfl rfl rfl) x_BadRecord (by rfl)))
pss_nil)
(pss_one (ps_ret (pe_ix (ix_uK (K := K) rfl) (pe_gk (by rfl) g_WORDS) (pv 2) (fun _ _ => rfl)))))), ?_⟩
  walk_at "start"
  refine w_sx (a, cs, at_) j ⟨rfl, ha⟩ (fun v M1 G1 H1 j1 e1 ⟨em, i, hi, ev⟩ => ?_) fun c M1 G1 H1 j1 e1 ⟨ec, em, hi⟩ => ?_
  · subst ev em
    dsimp only at hi
    walk_at "go"
    have bad : ¬ (0 ≤ i ∧ i < 31) → ∀ H, J M1 G1 H → E (.ref A_BadRecord) none H := fun n H j => kx _ _ _ _ j e1 ⟨rfl, rfl, by unfold wordQ; rw [hi]; exact if_neg n⟩
    refine w_dec (fun h1 => ?_) (fun h1 => ?_)
    · walk_at "go"
      refine w_lenT (xs := WD.map V.str) j1 (k_WORDS G1) ?_
      walk_at "go"
      show if (!decide (i < ((31 : Nat) : Int))) = true then _ else _
      refine w_decN (fun h2 => ?_) (fun h2 => ?_)
      · walk_at "go"
        exact bad (by omega) _ j1
      · walk_at "go"
        obtain ⟨m, rfl⟩ := Int.eq_ofNat_of_zero_le h1
        have hl : m < WD.length := by show m < 31; omega
        have e := List.getElem?_eq_getElem hl
        refine w_ixT (xs := WD.map V.str) (v := .str WD[m]) j1 (k_WORDS G1) (atI_nat (by rw [List.getElem?_map, e]; rfl)) ?_
        exact k _ _ _ _ j1 e1 ⟨rfl, _, by unfold wordQ; rw [hi]; show (if 0 ≤ (m : Int) ∧ (m : Int) < 31 then WD[m]? else none) = _; rw [if_pos ⟨h1, by omega⟩]; exact e, List.getElem_mem hl, rfl⟩
    · walk_at "go"
      exact bad (by omega) _ j1
  · subst ec em
    exact kx _ _ _ _ j1 e1 ⟨rfl, rfl, by unfold wordQ; dsimp only at hi; rw [hi]; rfl⟩
/-! ### record_at -/
abbrev s_record_at : Stmt := top 18
abbrev n_record_at : List Str := ["cells", "at", "room", "kind"]
theorem sc_record_at : FnScope n_record_at ["cells", "at", "room"] (defScope s_record_at) := ⟨rfl, rfl, rfl, by decide +kernel, rfl, by decide +kernel, by decide +kernel⟩
theorem aux_record_at {P : Program} {w : World} {K : PySem.W.Frag} {mg : Str → Option Value} {base : Heap}
    {f : Addr} {fd : FuncData} (D : Dn K mg "record_at" s_record_at ["cells", "at", "room"] f fd)
    (g_TUPLE : ∃ u, mg "TUPLE" = some u ∧ RelV (.int 5) u)
    (g_WORD : ∃ u, mg "WORD" = some u ∧ RelV (.int 4) u)
    (g_TRUE : ∃ u, mg "TRUE" = some u ∧ RelV (.int 3) u)
    (g_FALSE : ∃ u, mg "FALSE" = some u ∧ RelV (.int 2) u)
    (g_NONE : ∃ u, mg "NONE" = some u ∧ RelV (.int 1) u)
    (g_INTEGER : ∃ u, mg "INTEGER" = some u ∧ RelV (.int 0) u)
    {A_BadRecord : Addr} (x_BadRecord : Xc K mg "BadRecord" A_BadRecord)
    (c_word_at : Cal P w K mg base (L2.CX P w) 2 "word_at" (sp_word_at K A_BadRecord))
    (c_cell_at : Cal P w K mg base (L2.CX P w) 1 "cell_at" (sp_cell_at K A_BadRecord))
    (n : Nat) (c_tuple_at : Cal P w K mg base (L2.CX P w) (2 * n + 2) "tuple_at" (spTupA K A_BadRecord n)) : Cal P w K mg base (L2.CX P w) (2 * n + 3) "record_at" (spRecA K A_BadRecord n) := by
  refine D.okX sc_record_at (fun vs H Q E h => ?_) fun cdv A outer s H vs Q E hr h => ?_
  · obtain ⟨x, M, G, j, ⟨rfl, _⟩, _⟩ := h; rfl
  obtain ⟨⟨a, cs, at_⟩, M, G, j, ⟨rfl, ha, hz⟩, k, kx⟩ := h
  dsimp only at ha hz k kx
  refine ⟨_, (pss_cons (ps_set (i := 3) sc_record_at.nd rfl (Or.inl rfl) (pe_calX c_cell_at hr (by first | decide | omega) (by rfl) (takes_of rfl rfl rfl rfl) (pa_cons (pv 0) (pa_cons (pv 1) pa_nil))))
(pss_cons (ps_if (pt_cmpR (op_uEqK (K := K) rfl hr) (pv 3) (pe_gk (by rfl) g_INTEGER) (nomark _))
(pss_one (ps_ret (pe_tup (pa_cons (pe_calX c_cell_at hr (by first | decide | omega) (by rfl) (takes_of rfl rfl rfl rfl) (pa_cons (pv 0) (pa_cons (pe_op (op_uAddK (K := K) rfl) (pv 1) pe_int) pa_nil))) (pa_cons (pe_op (op_uAddK (K := K) rfl) (pv 1) pe_int) pa_nil)))))
pss_nil)
(pss_cons (ps_if (pt_cmpR (op_uEqK (K := K) rfl hr) (pv 3) (pe_gk (by rfl) g_NONE) (nomark _))
(pss_one (ps_ret (pe_tup (pa_cons pe_non (pa_cons (pe_op (op_uAddK (K := K) rfl) (pv 1) pe_int) pa_nil)))))
pss_nil)
(pss_cons (ps_if (pt_cmpR (op_uEqK (K := K) rfl hr) (pv 3) (pe_gk (by rfl) g_FALSE) (nomark _))
(pss_one (ps_ret (pe_tup (pa_cons pe_bl (pa_cons (pe_op (op_uAddK (K := K) rfl) (pv 1) pe_int) pa_nil)))))
pss_nil)
(pss_cons (ps_if (pt_cmpR (op_uEqK (K := K) rfl hr) (pv 3) (pe_gk (by rfl) g_TRUE) (nomark _))
(pss_one (ps_ret (pe_tup (pa_cons pe_bl (pa_cons (pe_op (op_uAddK (K := K) rfl) (pv 1) pe_int) pa_nil)))))
pss_nil)
(pss_cons (ps_if (pt_cmpR (op_uEqK (K := K) rfl hr) (pv 3) (pe_gk (by rfl) g_WORD) (nomark _))
(pss_one (ps_ret (pe_tup (pa_cons (pe_calX c_word_at hr (by first | decide | omega) (by rfl) (takes_of rfl rfl rfl rfl) (pa_cons (pv 0) (pa_cons (pe_op (op_uAddK (K := K) rfl) (pv 1) pe_int) pa_nil))) (pa_cons (pe_op (op_uAddK (K := K) rfl) (pv 1) pe_int) pa_nil)))))
pss_nil)
(pss_cons (ps_if (pt_cmpR (op_uEqK (K := K) rfl hr) (pv 3) (pe_gk (by rfl) g_TUPLE) (nomark _))
(pss_one (ps_ret (pe_calX c_tuple_at hr (by first | decide | omega) (by rfl) (takes_of rfl rfl rfl rfl) (pa_cons (pv 0) (pa_cons (pe_op (op_uAddK (K := K) rfl) (pv 1) pe_int) (pa_cons (pv 2) pa_nil))))))
pss_nil)
(pss_one (ps_raiseA rfl (takes_of rfl rfl rfl rfl) x_BadRecord (by rfl)))))))))), ?_⟩
  walk_at "start"
  have qe := qM_eq cs n at_
  refine w_sx (a, cs, at_) j ⟨rfl, ha⟩ (fun v M1 G1 H1 j1 e1 ⟨em, i, hi, ev⟩ => ?_) fun c M1 G1 H1 j1 e1 ⟨ec, em, hi⟩ => ?_
  · subst ev em
    dsimp only at hi
    walk_at "go"
    have ha1 := sl_mono e1 ha
    unfold leafQ at qe
    rw [hi] at qe
    replace qe : qM cs n at_ = if i = 0 then (cs[at_ + 1]?).map fun i => (.int i, at_ + 2) else if i = 1 then some (.non, at_ + 1) else if i = 2 then some (.bl false, at_ + 1) else if i = 3 then some (.bl true, at_ + 1)
      else if i = 4 then (wordQ cs (at_ + 1)).map fun s => (.str s, at_ + 2) else if i = 5 then tupQ cs (at_ + 1) (recQ cs n) else none := qe
    have bad : qM cs n at_ = none → ∀ G' H, J M1 G' H → Ex G1 G' → E (.ref A_BadRecord) none H := fun n G' H j e => kx _ _ _ _ j (e1.trans e) ⟨rfl, rfl, n⟩
    have fin : ∀ (u : V) (r : Rc) (p : Nat) (G' H : Hp), J M1 G' H → Ex G1 G' → RcAt K G' u r → qM cs n at_ = some (r, p) → NewO (.tup [u, .int p]) [u, V.int p].length H Q := fun u r p G' H j e hr hq =>
      w_new j (by show 2 ≤ sizeLine; decide) fun t G2 H2 j2 e2 ht _ => k _ _ _ _ j2 (e1.trans (e.trans e2)) ⟨rfl, t, u, r, p, rfl, ht, hr.ex e2, hq⟩
    refine w_dec (fun h0 => ?_) (fun h0 => ?_)
    · walk_at "go"
      rw [if_pos h0] at qe
      refine w_sx (a, cs, at_ + 1) j1 ⟨rfl, ha1⟩ (fun v M2 G2 H2 j2 e2 ⟨em, i2, hi2, ev⟩ => ?_) fun c M2 G2 H2 j2 e2 ⟨ec, em, hi2⟩ => ?_
      · subst ev em
        walk_at "go"
        dsimp only at hi2
        exact fin (.int i2) (.int i2) (at_ + 2) _ _ j2 e2 (.int _) (by rw [qe, hi2]; rfl)
      · subst ec em
        dsimp only at hi2
        exact bad (by rw [qe, hi2]; rfl) _ _ j2 e2
    · rw [if_neg h0] at qe
      walk_at "go"
      refine w_dec (fun h1 => ?_) (fun h1 => ?_)
      · rw [if_pos h1] at qe
        walk_at "go"
        exact fin .non .non (at_ + 1) _ _ j1 (Same.refl _) .non qe
      · rw [if_neg h1] at qe
        walk_at "go"
        refine w_dec (fun h2 => ?_) (fun h2 => ?_)
        · rw [if_pos h2] at qe
          walk_at "go"
          exact fin (.bl false) (.bl false) (at_ + 1) _ _ j1 (Same.refl _) (.bl _) qe
        · rw [if_neg h2] at qe
          walk_at "go"
          refine w_dec (fun h3 => ?_) (fun h3 => ?_)
          · rw [if_pos h3] at qe
            walk_at "go"
            exact fin (.bl true) (.bl true) (at_ + 1) _ _ j1 (Same.refl _) (.bl _) qe
          · rw [if_neg h3] at qe
            walk_at "go"
            refine w_dec (fun h4 => ?_) (fun h4 => ?_)
            · rw [if_pos h4] at qe
              walk_at "go"
              refine w_sx (a, cs, at_ + 1) j1 ⟨rfl, ha1⟩ (fun v M2 G2 H2 j2 e2 ⟨em, s2, hi2, hw, ev⟩ => ?_) fun c M2 G2 H2 j2 e2 ⟨ec, em, hi2⟩ => ?_
              · subst ev em
                walk_at "go"
                dsimp only at hi2
                exact fin (.str s2) (.str s2) (at_ + 2) _ _ j2 e2 (.str _) (by rw [qe, hi2]; rfl)
              · subst ec em
                dsimp only at hi2
                exact bad (by rw [qe, hi2]; rfl) _ _ j2 e2
            · rw [if_neg h4] at qe
              walk_at "go"
              refine w_dec (fun h5 => ?_) (fun h5 => ?_)
              · rw [if_pos h5] at qe
                walk_at "go"
                show spTupA K A_BadRecord n _ _ _ _
                refine w_sx (a, cs, at_ + 1) j1 ⟨rfl, ha1, hz⟩ (fun v M2 G2 H2 j2 e2 ⟨em, t, u, r, p, ev, ht, hr, hq⟩ => ?_) fun c M2 G2 H2 j2 e2 ⟨ec, em, hq⟩ => ?_
                · subst ev em
                  exact k _ _ _ _ j2 (e1.trans e2) ⟨rfl, t, u, r, p, rfl, ht, hr, by rw [← hq]; exact qe⟩
                · subst ec em
                  exact bad (by rw [qe]; exact hq) _ _ j2 e2
              · rw [if_neg h5] at qe
                walk_at "go"
                exact bad qe _ _ j1 (Same.refl _)
  · subst ec em
    exact kx _ _ _ _ j1 e1 ⟨rfl, rfl, by dsimp only at hi ⊢; rw [qe]; unfold leafQ; rw [hi]; rfl⟩
theorem all_record {P : Program} {w : World} {K : PySem.W.Frag} {mg : Str → Option Value} {base : Heap}
    {f : Addr} {fd : FuncData} (D : Dn K mg "record_at" s_record_at ["cells", "at", "room"] f fd)
    (g_TUPLE : ∃ u, mg "TUPLE" = some u ∧ RelV (.int 5) u)
    (g_WORD : ∃ u, mg "WORD" = some u ∧ RelV (.int 4) u)
    (g_TRUE : ∃ u, mg "TRUE" = some u ∧ RelV (.int 3) u)
    (g_FALSE : ∃ u, mg "FALSE" = some u ∧ RelV (.int 2) u)
    (g_NONE : ∃ u, mg "NONE" = some u ∧ RelV (.int 1) u)
    (g_INTEGER : ∃ u, mg "INTEGER" = some u ∧ RelV (.int 0) u)
    {A_BadRecord : Addr} (x_BadRecord : Xc K mg "BadRecord" A_BadRecord)
    (c_word_at : Cal P w K mg base (L2.CX P w) 2 "word_at" (sp_word_at K A_BadRecord))
    (c_cell_at : Cal P w K mg base (L2.CX P w) 1 "cell_at" (sp_cell_at K A_BadRecord))
    (tup : ∀ n, Cal P w K mg base (L2.CX P w) (2 * n + 1) "record_at" (spRecAP K A_BadRecord n) → Cal P w K mg base (L2.CX P w) (2 * n + 2) "tuple_at" (spTupA K A_BadRecord n)) : Cal P w K mg base (L2.CX P w) 63 "record_at" (sp_record_at K A_BadRecord) := by
  have all : ∀ n, Cal P w K mg base (L2.CX P w) (2 * n + 3) "record_at" (spRecA K A_BadRecord n) := fun n => by
    induction n with
    | zero => exact aux_record_at D g_TUPLE g_WORD g_TRUE g_FALSE g_NONE g_INTEGER x_BadRecord c_word_at c_cell_at 0 (tup 0 (D.cal ⟨fun _ _ _ _ h => h.elim, fun _ _ _ _ _ _ _ _ _ _ _ _ _ h => h.elim⟩))
    | succ n ih => exact aux_record_at D g_TUPLE g_WORD g_TRUE g_FALSE g_NONE g_INTEGER x_BadRecord c_word_at c_cell_at (n + 1) (tup (n + 1) ih)
  exact all 30
def isI : V → Bool
  | .int _ => true
  | _ => false
/-! ### is_plain_integer -/
abbrev s_is_plain_integer : Stmt := top 5
abbrev n_is_plain_integer : List Str := ["thing"]
theorem sc_is_plain_integer : FnScope n_is_plain_integer ["thing"] (defScope s_is_plain_integer) := ⟨rfl, rfl, rfl, by decide +kernel, rfl, by decide +kernel, by decide +kernel⟩
def sp_is_plain_integer (K : PySem.W.Frag) : Sp := Sg (α := V) (fun x vs _ G => vs = [x] ∧ CellV K G x) (fun x M _ v M' _ => v = .bl (isI x) ∧ M' = M)
theorem ok_is_plain_integer {P : Program} {w : World} {K : PySem.W.Frag} {mg : Str → Option Value} {base : Heap}
    {f : Addr} {fd : FuncData} (D : Dn K mg "is_plain_integer" s_is_plain_integer ["thing"] f fd)
    (b_isinstance : mg "isinstance" = none)
    (b_bool : mg "bool" = none)
    (b_int : mg "int" = none) : Cal P w K mg base CX0 1 "is_plain_integer" (sp_is_plain_integer K) := by
  refine D.ok sc_is_plain_integer (fun vs H Q E h => ?_) fun cdv A outer s H vs Q E hr h => ?_
  · obtain ⟨x, M, G, j, ⟨rfl, _⟩, _⟩ := h; rfl
  obtain ⟨x, M, G, j, ⟨rfl, hx⟩, k⟩ := h
  refine ⟨_, (pss_one (ps_ret (pe_and (pe_callB (call_isiK' (K := K) rfl) (by rfl) b_isinstance bt_isinstance (pa_cons (pv 0) (pa_cons (pe_bltn (v := .ty "int") (by rfl) b_int bt_int rfl) pa_nil))) (pe_one (pe_not (pe_callB (call_isiK' (K := K) rfl) (by rfl) b_isinstance bt_isinstance (pa_cons (pv 0) (pa_cons (pe_bltn (v := .ty "bool") (by rfl) b_bool bt_bool rfl) pa_nil)))))))), ?_⟩
  walk_at "start"
  have fin : ∀ b, b = isI x → Q (.bl b) H := fun b e => k _ _ _ _ j (Same.refl G) ⟨by rw [e], rfl⟩
  rcases hx with hx | ⟨a, rfl, hx⟩
  · cases x with
    | non => walk_at "go"; exact fin _ rfl
    | bl b => walk_at "go"; exact fin _ rfl
    | int b => walk_at "go"; exact fin _ rfl
    | str b => walk_at "go"; exact fin _ rfl
    | byt b => cases hx
    | flt b => cases hx
    | ref b => cases hx
    | ty b => cases hx
  · refine w_isi false (ty_T (st_mono j.g hx)) (by rfl) ?_
    walk_at "go"
    exact fin _ rfl
/-! ### rebuild -/
abbrev s_rebuild : Stmt := top 19
abbrev n_rebuild : List Str := ["cells", "cell", "record", "behind"]
theorem sc_rebuild : FnScope n_rebuild ["cells"] (defScope s_rebuild) := ⟨rfl, rfl, rfl, by decide +kernel, rfl, by decide +kernel, by decide +kernel⟩
theorem all_ints : ∀ {vs : List V}, (∀ v ∈ vs, isI v = true) → ∃ cs : List Int, vs = cs.map V.int
  | [], _ => ⟨[], rfl⟩
  | v :: r, h => by
    obtain ⟨cs, e⟩ := all_ints (vs := r) fun x m => h x (List.mem_cons_of_mem _ m)
    have hv := h v List.mem_cons_self
    cases v with
    | int i => exact ⟨i :: cs, by rw [e]; rfl⟩
    | non => cases hv
    | bl b => cases hv
    | str b => cases hv
    | byt b => cases hv
    | flt b => cases hv
    | ref b => cases hv
    | ty b => cases hv
def sp_rebuild (K : PySem.W.Frag) (C : Addr) : Sp := Sx (α := Addr × List V) (fun x vs _ G => vs = [.ref x.1] ∧ SqL K G x.1 x.2 ∧ (∀ v ∈ x.2, CellV K G v) ∧ x.2.length ≤ 100000)
  (fun x M _ v M' G' => M' = M ∧ ∃ cs r, x.2 = cs.map V.int ∧ rebM cs = some r ∧ RcAt K G' v r) (fun x M _ c M' _ => c = C ∧ M' = M ∧ ∀ cs, x.2 = cs.map V.int → rebM cs = none)
theorem ok_rebuild {P : Program} {w : World} {K : PySem.W.Frag} {mg : Str → Option Value} {base : Heap}
    {f : Addr} {fd : FuncData} (D : Dn K mg "rebuild" s_rebuild ["cells"] f fd)
    (b_len : mg "len" = none)
    (b_isinstance : mg "isinstance" = none)
    (b_list : mg "list" = none)
    (g_DEEPEST : ∃ u, mg "DEEPEST" = some u ∧ RelV (.int 30) u)
    {A_BadRecord : Addr} (x_BadRecord : Xc K mg "BadRecord" A_BadRecord)
    (c_record_at : Cal P w K mg base (L2.CX P w) 63 "record_at" (sp_record_at K A_BadRecord))
    (c_is_plain_integer : Cal P w K mg base CX0 1 "is_plain_integer" (sp_is_plain_integer K)) : Cal P w K mg base (L2.CX P w) 64 "rebuild" (sp_rebuild K A_BadRecord) := by
  refine D.okX sc_rebuild (fun vs H Q E h => ?_) fun cdv A outer s H vs Q E hr h => ?_
  · obtain ⟨x, M, G, j, ⟨rfl, _⟩, _⟩ := h; rfl
  obtain ⟨⟨a, xs⟩, M, G, j, ⟨rfl, ha, hc, hz⟩, k, kx⟩ := h
  dsimp only at ha hc hz k kx
  refine ⟨_, (pss_cons (ps_if (pt_not (pt_val (pe_callB (call_isiK' (K := K) rfl) (by rfl) b_isinstance bt_isinstance (pa_cons (pv 0) (pa_cons (pe_bltn (v := .ty "list") (by rfl) b_list bt_list rfl) pa_nil)))))
(pss_one (ps_raiseA rfl (takes_of rfl rfl rfl rfl) x_BadRecord (by rfl)))
pss_nil)
(pss_cons (ps_for (passes_of rfl) rfl (pi_list (pv 0)) (pg_name (i := 1) sc_rebuild.nd rfl (Or.inl rfl))
(pss_one (ps_if (pt_not (pt_val (pe_cal c_is_plain_integer hr (by first | decide | omega) (by rfl) (pa_cons (pv 1) pa_nil))))
(pss_one (ps_raiseA rfl (takes_of rfl rfl rfl rfl) x_BadRecord (by rfl)))
pss_nil)))
(pss_cons (ps_asg (pe_calX c_record_at hr (by first | decide | omega) (by rfl) (takes_of rfl rfl rfl rfl) (pa_cons (pv 0) (pa_cons pe_int (pa_cons (pe_gk (by rfl) g_DEEPEST) pa_nil)))) (pg_tup rfl (pgs_cons (pg_name (i := 2) sc_rebuild.nd rfl (Or.inl rfl)) (pgs_cons (pg_name (i := 3) sc_rebuild.nd rfl (Or.inl rfl)) pgs_nil))))
(pss_cons (ps_if (pt_cmpR (op_uNeK (K := K) rfl hr) (pv 3) (pe_callB (call_uLenK (K := K) rfl) (by rfl) b_len PySem.boot_len (pa_cons (pv 0) pa_nil)) (nomark _))
(pss_one (ps_raiseA rfl (takes_of rfl rfl rfl rfl) x_BadRecord (by rfl)))
pss_nil)
(pss_one (ps_ret (pv 2))))))), ?_⟩
  walk_at "start"
  refine w_isi true (ty_L (sl_mono j.g ha)) (by rfl) ?_
  walk_at "go"
  refine w_forLV rfl (xs := xs) (fun n σ H => ∃ G1 x1 x2 x3, J M G1 H ∧ Ex G G1 ∧ (∀ m v, m < n → xs[m]? = some v → isI v = true) ∧ σ = [some (.ref a), x1, x2, x3]) (sl_mono j.g ha) ⟨G, _, _, _, j, Same.refl G, fun m v h => absurd h (Nat.not_lt_zero m), rfl⟩ ?_ ?_ ?_
  · rintro n σ H _ ⟨G1, x1, x2, x3, j, e, _⟩
    exact sl_mono j.g (sl_mono e ha)
  · rintro n v σ H hv ⟨G1, x1, x2, x3, j, e, ok, rfl⟩
    walk_at "go"
    refine w_sg v j ⟨rfl, (hc v (List.mem_of_getElem? hv)).ex e⟩ fun u M2 G2 H2 j2 e2 ⟨ev, em⟩ => ?_
    subst ev em
    refine w_bl ?_
    cases hb : isI v with
    | false =>
      refine w_nf ?_
      walk_at "go"
      refine kx _ _ _ _ j2 (e.trans e2) ⟨rfl, rfl, fun cs hcs => ?_⟩
      rw [hcs, List.getElem?_map] at hv
      cases q : cs[n]? with
      | none => rw [q] at hv; cases hv
      | some i => rw [q] at hv; have hv := Option.some.inj hv; subst hv; cases hb
    | true =>
      refine w_nt ?_
      walk_at "go"
      refine ⟨G2, _, x2, x3, j2, e.trans e2, fun m u hm hu => ?_, rfl⟩
      by_cases q : m = n
      · subst q; rw [hv] at hu; cases hu; exact hb
      · exact ok m u (by omega) hu
  · rintro σ H ⟨G1, x1, x2, x3, j, e, ok, rfl⟩
    obtain ⟨cs, rfl⟩ := all_ints (vs := xs) fun v hv => by
      obtain ⟨m, hm⟩ := List.getElem?_of_mem hv
      exact ok m v (List.getElem?_eq_some_iff.mp hm).1 hm
    rw [List.length_map] at hz
    walk_at "go"
    have inj : ∀ cs', cs.map V.int = cs'.map V.int → cs' = cs := fun cs' h => by
      have hi : Function.Injective V.int := fun x y z => V.int.inj z
      exact (List.map_inj_right (fun x y z => V.int.inj z)).mp h.symm
    show spRecA K A_BadRecord 30 _ _ _ _
    refine w_sx (a, cs, 0) j ⟨rfl, sl_mono e ha, hz⟩ (fun v M2 G2 H2 j2 e2 ⟨em, t, u, r, p, ev, ht, hr, hq⟩ => ?_) fun c M2 G2 H2 j2 e2 ⟨ec, em, hq⟩ => ?_
    · subst ev em
      refine w_gTup j2 (st_of ht) rfl ?_
      refine w_gCons (w_gName (w_gCons (w_gName (w_gNil ?_))))
      walk_at "go"
      refine w_lenL j2 (sl_mono e2 (sl_mono e ha)) ?_
      walk_at "go"
      rw [List.length_map]
      dsimp only at hq
      have rb : rebM cs = if p = cs.length then some r else none := by unfold rebM; rw [hq]; rfl
      refine w_decN (fun h => ?_) (fun h => ?_)
      · walk_at "go"
        exact kx _ _ _ _ j2 (e.trans e2) ⟨rfl, rfl, fun cs' h2 => by rw [inj cs' h2, rb, if_neg (by omega)]⟩
      · walk_at "go"
        exact k _ _ _ _ j2 (e.trans e2) ⟨rfl, cs, r, rfl, by rw [rb, if_pos (by omega)], hr⟩
    · subst ec em
      refine kx _ _ _ _ j2 (e.trans e2) ⟨rfl, rfl, fun cs' h2 => ?_⟩
      rw [inj cs' h2]
      unfold rebM
      dsimp only at hq
      rw [hq]; rfl
/-! ### _law_all_equal -/
abbrev s_law_all_equal : Stmt := top 25
abbrev n_law_all_equal : List Str := ["actual", "due", "k"]
theorem sc_law_all_equal : FnScope n_law_all_equal ["actual", "due"] (defScope s_law_all_equal) := ⟨rfl, rfl, rfl, by decide +kernel, rfl, by decide +kernel, by decide +kernel⟩
theorem ok_law_all_equal {P : Program} {w : World} {K : PySem.W.Frag} {mg : Str → Option Value} {base : Heap} {f : Addr} {fd : FuncData} (D : Dn K mg "_law_all_equal" s_law_all_equal ["actual", "due"] f fd)
    (b_range : mg "range" = none) (b_len : mg "len" = none) (n : Nat) (c_law_equal : Cal P w K mg base CX0 (2 * n + 1) "_law_equal" (spEq K n)) : Cal P w K mg base CX0 (2 * n + 2) "_law_all_equal" (spAll K (n + 1)) := by
  refine D.ok sc_law_all_equal (fun vs H Q E h => ?_) fun cdv A outer s H vs Q E hr h => ?_
  · obtain ⟨x, M, G, j, ⟨rfl, _⟩, _⟩ := h; rfl
  obtain ⟨⟨a, b, xs, ys, ds⟩, M, G, j, ⟨rfl, ha, hb, hx, hy, hl, hok⟩, k⟩ := h
  dsimp only at ha hb hx hy hl hok k
  refine ⟨_, (pss_cons (ps_for PassesOwn.never rfl (pi_range1 (by rfl) b_range (pa_cons (pe_callB (call_uLenK (K := K) rfl) (by rfl) b_len PySem.boot_len (pa_cons (pv 1) pa_nil)) pa_nil)) (pg_name (i := 2) sc_law_all_equal.nd rfl (Or.inl rfl))
(pss_one (ps_if (pt_not (pt_val (pe_cal c_law_equal hr (by first | decide | omega) (by rfl) (pa_cons (pe_ix (ix_uK (K := K) rfl) (pv 0) (pv 2) (fun _ _ => rfl)) (pa_cons (pe_ix (ix_uK (K := K) rfl) (pv 1) (pv 2) (fun _ _ => rfl)) pa_nil)))))
(pss_one (ps_ret pe_bl))
pss_nil)))
(pss_one (ps_ret pe_bl))), ?_⟩
  walk_at "start"
  refine w_lenB j hb ?_
  walk_at "go"
  have hyl := dpAll_len hy
  refine w_rng (fun i σ H => ∃ G1 z, J M G1 H ∧ Ex G G1 ∧ σ = [some (.ref a), some (.ref b), z]) ⟨G, _, j, Same.refl G, rfl⟩ ?_ ?_ (by omega) (by omega)
  · rintro i σ H hi ⟨G1, z, j, e, rfl⟩
    have hi : i < ds.length := by rw [← hyl]; simpa using hi
    obtain ⟨x, hx1, hx2⟩ := dpAll_get hx (List.getElem?_eq_getElem hi)
    obtain ⟨y, hy1, hy2⟩ := dpAll_get hy (List.getElem?_eq_getElem hi)
    walk_at "go"
    refine w_ixB j (ha.imp (sl_mono e) (st_mono e)) (atI_nat hx1) ?_
    walk_at "go"
    refine w_ixB j (hb.imp (sl_mono e) (st_mono e)) (atI_nat hy1) ?_
    walk_at "go"
    refine use_eq j (dp_mono e hx2) (dp_mono e hy2) (hok _ (List.getElem_mem hi)) fun G2 H2 j2 e2 => ?_
    walk_at "go"
    exact ⟨G2, _, j2, e.trans e2, rfl⟩
  · rintro σ H ⟨G1, z, j, e, rfl⟩
    walk_at "go"
    exact k _ _ _ _ j e ⟨rfl, rfl⟩
/-! ### _law_equal -/
abbrev s_law_equal : Stmt := top 24
abbrev n_law_equal : List Str := ["actual", "due"]
theorem sc_law_equal : FnScope n_law_equal ["actual", "due"] (defScope s_law_equal) := ⟨rfl, rfl, rfl, by decide +kernel, rfl, by decide +kernel, by decide +kernel⟩
theorem ok_law_equal {P : Program} {w : World} {K : PySem.W.Frag} {mg : Str → Option Value} {base : Heap} {f : Addr} {fd : FuncData} (D : Dn K mg "_law_equal" s_law_equal ["actual", "due"] f fd)
    (b_isinstance : mg "isinstance" = none) (b_list : mg "list" = none) (b_tuple : mg "tuple" = none) (b_bool : mg "bool" = none) (b_int : mg "int" = none) (b_str : mg "str" = none) (b_len : mg "len" = none) (n : Nat)
    (c_law_all_equal : Cal P w K mg base CX0 (2 * n) "_law_all_equal" (spAll K n)) : Cal P w K mg base CX0 (2 * n + 1) "_law_equal" (spEq K n) := by
  refine D.ok sc_law_equal (fun vs H Q E h => ?_) fun cdv A outer s H vs Q E hr h => ?_
  · obtain ⟨x, M, G, j, ⟨rfl, _⟩, _⟩ := h; rfl
  obtain ⟨⟨x, y, d⟩, M, G, j, ⟨rfl, hx, hy, hok⟩, k⟩ := h
  dsimp only at hx hy hok k
  refine ⟨_, (pss_cons (ps_if (pt_val (pe_callB (call_isiK' (K := K) rfl) (by rfl) b_isinstance bt_isinstance (pa_cons (pv 1) (pa_cons (pe_bltn (v := .ty "list") (by rfl) b_list bt_list rfl) pa_nil))))
(pss_cons (ps_if (PW.pt (pw_or (pt_not (pt_val (pe_callB (call_isiK' (K := K) rfl) (by rfl) b_isinstance bt_isinstance (pa_cons (pv 0) (pa_cons (pe_bltn (v := .ty "list") (by rfl) b_list bt_list rfl) pa_nil))))) (pw_or1 (pt_cmpR (op_uNeK (K := K) rfl hr) (pe_callB (call_uLenK (K := K) rfl) (by rfl) b_len PySem.boot_len (pa_cons (pv 0) pa_nil)) (pe_callB (call_uLenK (K := K) rfl) (by rfl) b_len PySem.boot_len (pa_cons (pv 1) pa_nil)) (nomark _)))))
(pss_one (ps_ret pe_bl))
pss_nil)
(pss_one (ps_ret (pe_cal c_law_all_equal hr (by first | decide | omega) (by rfl) (pa_cons (pv 0) (pa_cons (pv 1) pa_nil))))))
pss_nil)
(pss_cons (ps_if (pt_val (pe_callB (call_isiK' (K := K) rfl) (by rfl) b_isinstance bt_isinstance (pa_cons (pv 1) (pa_cons (pe_bltn (v := .ty "tuple") (by rfl) b_tuple bt_tuple rfl) pa_nil))))
(pss_cons (ps_if (PW.pt (pw_or (pt_not (pt_val (pe_callB (call_isiK' (K := K) rfl) (by rfl) b_isinstance bt_isinstance (pa_cons (pv 0) (pa_cons (pe_bltn (v := .ty "tuple") (by rfl) b_tuple bt_tuple rfl) pa_nil))))) (pw_or1 (pt_cmpR (op_uNeK (K := K) rfl hr) (pe_callB (call_uLenK (K := K) rfl) (by rfl) b_len PySem.boot_len (pa_cons (pv 0) pa_nil)) (pe_callB (call_uLenK (K := K) rfl) (by rfl) b_len PySem.boot_len (pa_cons (pv 1) pa_nil)) (nomark _)))))
(pss_one (ps_ret pe_bl))
pss_nil)
(pss_one (ps_ret (pe_cal c_law_all_equal hr (by first | decide | omega) (by rfl) (pa_cons (pv 0) (pa_cons (pv 1) pa_nil))))))
pss_nil)
(pss_cons (ps_if (pt_val (pe_callB (call_isiK' (K := K) rfl) (by rfl) b_isinstance bt_isinstance (pa_cons (pv 1) (pa_cons (pe_bltn (v := .ty "bool") (by rfl) b_bool bt_bool rfl) pa_nil))))
(pss_one (ps_ret (pe_and (pe_callB (call_isiK' (K := K) rfl) (by rfl) b_isinstance bt_isinstance (pa_cons (pv 0) (pa_cons (pe_bltn (v := .ty "bool") (by rfl) b_bool bt_bool rfl) pa_nil))) (pe_one (pe_cmpR (op_uEqK (K := K) rfl hr) (pv 0) (pv 1) (nomark _))))))
pss_nil)
(pss_cons (ps_if (pt_val (pe_callB (call_isiK' (K := K) rfl) (by rfl) b_isinstance bt_isinstance (pa_cons (pv 1) (pa_cons (pe_bltn (v := .ty "int") (by rfl) b_int bt_int rfl) pa_nil))))
(pss_one (ps_ret (pe_and (pe_callB (call_isiK' (K := K) rfl) (by rfl) b_isinstance bt_isinstance (pa_cons (pv 0) (pa_cons (pe_bltn (v := .ty "int") (by rfl) b_int bt_int rfl) pa_nil))) (pe_and (pe_not (pe_callB (call_isiK' (K := K) rfl) (by rfl) b_isinstance bt_isinstance (pa_cons (pv 0) (pa_cons (pe_bltn (v := .ty "bool") (by rfl) b_bool bt_bool rfl) pa_nil)))) (pe_one (pe_cmpR (op_uEqK (K := K) rfl hr) (pv 0) (pv 1) (nomark _)))))))
pss_nil)
(pss_cons (ps_if (pt_val (pe_callB (call_isiK' (K := K) rfl) (by rfl) b_isinstance bt_isinstance (pa_cons (pv 1) (pa_cons (pe_bltn (v := .ty "str") (by rfl) b_str bt_str rfl) pa_nil))))
(pss_one (ps_ret (pe_and (pe_callB (call_isiK' (K := K) rfl) (by rfl) b_isinstance bt_isinstance (pa_cons (pv 0) (pa_cons (pe_bltn (v := .ty "str") (by rfl) b_str bt_str rfl) pa_nil))) (pe_one (pe_cmpR (op_uEqK (K := K) rfl hr) (pv 0) (pv 1) (nomark _))))))
pss_nil)
(pss_one (ps_ret (pe_cmp (pc_isN (pv 0)))))))))), ?_⟩
  walk_at "start"
  have fin : Q (.bl true) H := k _ _ _ _ j (Same.refl G) ⟨rfl, rfl⟩
  cases hy with
  | non =>
    cases hx
    walk_at "gx"
    exact fin
  | bl b =>
    cases hx
    walk_at "gx"
    refine w_eqV rfl (decide_eq_true rfl) ?_
    exact fin
  | int b =>
    cases hx
    walk_at "gx"
    rw [decide_eq_true rfl]
    exact fin
  | str b =>
    cases hx
    walk_at "gx"
    exact fin
  | lst hb hyl =>
    cases hx with
    | lst ha hxl =>
      cases n with
      | zero => cases hok
      | succ n =>
        walk_at "gx"
        refine w_isi true (ty_L (sl_mono j.g hb)) (by rfl) ?_
        walk_at "gx"
        refine w_isi true (ty_L (sl_mono j.g ha)) (by rfl) ?_
        walk_at "gx"
        refine w_lenL j ha ?_
        walk_at "gx"
        refine w_lenL j hb ?_
        walk_at "gx"
        rw [dpAll_len hxl, dpAll_len hyl, decide_eq_true rfl]
        refine w_F ?_
        walk_at "gx"
        exact use_all j (.inl ha) (.inl hb) hxl hyl hok.1 hok.2 fun G' H' j' e => k _ _ _ _ j' e ⟨rfl, rfl⟩
  | tup hb hyl =>
    cases hx with
    | tup ha hxl =>
      cases n with
      | zero => cases hok
      | succ n =>
        walk_at "gx"
        refine w_isi false (ty_T (st_mono j.g hb)) (by rfl) ?_
        walk_at "gx"
        refine w_isi true (ty_T (st_mono j.g hb)) (by rfl) ?_
        walk_at "gx"
        refine w_isi true (ty_T (st_mono j.g ha)) (by rfl) ?_
        walk_at "gx"
        refine w_lenT j ha ?_
        walk_at "gx"
        refine w_lenT j hb ?_
        walk_at "gx"
        rw [dpAll_len hxl, dpAll_len hyl, decide_eq_true rfl]
        refine w_F ?_
        walk_at "gx"
        exact use_all j (.inr ha) (.inr hb) hxl hyl hok.1 hok.2 fun G' H' j' e => k _ _ _ _ j' e ⟨rfl, rfl⟩
/-- both, at every depth -/
theorem ok_equal {P : Program} {w : World} {K : PySem.W.Frag} {mg : Str → Option Value} {base : Heap} {f g : Addr} {fd gd : FuncData} (D : Dn K mg "_law_equal" s_law_equal ["actual", "due"] f fd) (D2 : Dn K mg "_law_all_equal" s_law_all_equal ["actual", "due"] g gd)
    (b_isinstance : mg "isinstance" = none) (b_list : mg "list" = none) (b_tuple : mg "tuple" = none) (b_bool : mg "bool" = none) (b_int : mg "int" = none) (b_str : mg "str" = none) (b_len : mg "len" = none) (b_range : mg "range" = none) (n : Nat) :
    Cal P w K mg base CX0 (2 * n + 1) "_law_equal" (spEq K n) := by
  induction n with
  | zero => exact ok_law_equal D b_isinstance b_list b_tuple b_bool b_int b_str b_len 0 (D2.cal ⟨fun _ _ _ _ h => h.elim, fun _ _ _ _ _ _ _ _ _ _ _ _ _ h => h.elim⟩)
  | succ n ih => exact ok_law_equal D b_isinstance b_list b_tuple b_bool b_int b_str b_len (n + 1) (ok_law_all_equal D2 b_range b_len n ih)
/-! ### _law_depth -/
abbrev s_law_depth : Stmt := top 31
abbrev n_law_depth : List Str := ["record", "depth", "part"]
theorem sc_law_depth : FnScope n_law_depth ["record"] (defScope s_law_depth) := ⟨rfl, rfl, rfl, by decide +kernel, rfl, by decide +kernel, by decide +kernel⟩
def spDep (K : PySem.W.Frag) (n : Nat) : Sp := Sg (α := V × Rc) (fun x vs _ G => vs = [x.1] ∧ RcAt K G x.1 x.2 ∧ depthM x.2 ≤ n) (fun x M _ v M' _ => M' = M ∧ v = .int (depthM x.2))
def spDepP (K : PySem.W.Frag) : Nat → Sp
  | 0 => spNone
  | n + 1 => spDep K n
def sp_law_depth (K : PySem.W.Frag) : Sp := spDep K 40
theorem depth_at {xs : List Rc} {i : Nat} {r : Rc} (h : xs[i]? = some r) : depthL (xs.take (i + 1)) = max (depthL (xs.take i)) (depthM r) ∧ depthM r ≤ depthL xs := by
  constructor
  · rw [List.take_add_one, h]
    show depthL (xs.take i ++ [r]) = _
    rw [depthL_append, depthL, depthL]; omega
  · have e : depthL xs = max (depthL (xs.take (i + 1))) (depthL (xs.drop (i + 1))) := by rw [← depthL_append, List.take_append_drop]
    rw [e, List.take_add_one, h]
    show _ ≤ max (depthL (xs.take i ++ [r])) _
    rw [depthL_append, depthL, depthL]; omega
theorem aux_depth {P : Program} {w : World} {K : PySem.W.Frag} {mg : Str → Option Value} {base : Heap}
    {f : Addr} {fd : FuncData} (D : Dn K mg "_law_depth" s_law_depth ["record"] f fd)
    (b_isinstance : mg "isinstance" = none)
    (b_tuple : mg "tuple" = none)
    (b_max : mg "max" = none)
    (n : Nat) (c_law_depth : Cal P w K mg base CX0 (n + 1) "_law_depth" (spDepP K n)) : Cal P w K mg base CX0 (n + 2) "_law_depth" (spDep K n) := by
  refine D.ok sc_law_depth (fun vs H Q E h => ?_) fun cdv A outer s H vs Q E hr h => ?_
  · obtain ⟨x, M, G, j, ⟨rfl, _⟩, _⟩ := h; rfl
  obtain ⟨⟨v, r⟩, M, G, j, ⟨rfl, hv, hd⟩, k⟩ := h
  dsimp only at hv hd k
  refine ⟨_, (pss_cons (ps_set (i := 1) sc_law_depth.nd rfl (Or.inl rfl) pe_int)
(pss_cons (ps_if (pt_val (pe_callB (call_isiK' (K := K) rfl) (by rfl) b_isinstance bt_isinstance (pa_cons (pv 0) (pa_cons (pe_bltn (v := .ty "tuple") (by rfl) b_tuple bt_tuple rfl) pa_nil))))
(pss_cons (ps_set (i := 1) sc_law_depth.nd rfl (Or.inl rfl) pe_int)
(pss_one (ps_for PassesOwn.never rfl (pi_tup (pv 0)) (pg_name (i := 2) sc_law_depth.nd rfl (Or.inl rfl))
(pss_one (ps_set (i := 1) sc_law_depth.nd rfl (Or.inl rfl) (pe_callB (call_max2 rfl) (by rfl) b_max bt_max (pa_cons (pv 1) (pa_cons (pe_op (op_uAddK (K := K) rfl) pe_int (pe_cal c_law_depth hr (by first | decide | omega) (by rfl) (pa_cons (pv 2) pa_nil))) pa_nil))))))))
pss_nil)
(pss_one (ps_ret (pv 1))))), ?_⟩
  walk_at "start"
  have leaf : depthM r = 0 → Q (.int 0) H := fun h => k _ _ _ _ j (Same.refl G) ⟨rfl, by rw [h]; rfl⟩
  cases hv with
  | non => walk_at "go"; exact leaf rfl
  | bl b => walk_at "go"; exact leaf rfl
  | int i => walk_at "go"; exact leaf rfl
  | str x => walk_at "go"; exact leaf rfl
  | lst h1 =>
    refine w_isi false (ty_L (sl_mono j.g h1)) (by rfl) ?_
    walk_at "go"
    exact leaf rfl
  | dic h1 =>
    refine w_isi false (ty_D (rd_same j.g h1)) (by rfl) ?_
    walk_at "go"
    exact leaf rfl
  | @tup a xs rs h1 h2 =>
    refine w_isi true (ty_T (st_mono j.g h1)) (by rfl) ?_
    walk_at "go"
    cases n with
    | zero => rw [depthM] at hd; omega
    | succ n =>
      rw [depthM] at hd
      have zl := h2.len
      refine w_forTV rfl (xs := xs) (fun i σ H => ∃ G1 x4, J M G1 H ∧ Ex G G1 ∧ σ = [some (.ref a), some (.int ((1 + depthL (rs.take i) : Nat) : Int)), x4]) (st_mono j.g h1) ?_ ?_ ?_ ?_
      · exact ⟨G, _, j, Same.refl G, by rw [List.take_zero]; rfl⟩
      · rintro i σ H _ ⟨G1, x4, j, e, rfl⟩
        exact st_mono j.g (st_mono e h1)
      · rintro i x σ H hi ⟨G1, x4, j, e, rfl⟩
        obtain ⟨r, hr1, hr2⟩ := h2.get hi
        obtain ⟨t1, t2⟩ := depth_at hr1
        walk_at "go"
        show spDep K n _ _ _ _
        refine w_sg (x, r) j ⟨rfl, hr2.ex e, by dsimp only; omega⟩ fun v' M1 G2 H2 j2 e2 ⟨em, ev⟩ => ?_
        subst ev em
        walk_at "go"
        refine ⟨_, _, rfl, ?_⟩
        walk_at "go"
        refine ⟨G2, some x, j2, e.trans e2, ?_⟩
        have e3 : (if (1 + (depthM r : Int)) > ((1 + depthL (rs.take i) : Nat) : Int) then 1 + (depthM r : Int) else ((1 + depthL (rs.take i) : Nat) : Int)) = ((1 + depthL (rs.take (i + 1)) : Nat) : Int) := by
          rw [t1]
          split <;> omega
        rw [← e3]; rfl
      · rintro σ H ⟨G1, x4, j, e, rfl⟩
        rw [zl, List.take_length]
        walk_at "go"
        exact k _ _ _ _ j e ⟨rfl, by rw [depthM]⟩
theorem ok_law_depth {P : Program} {w : World} {K : PySem.W.Frag} {mg : Str → Option Value} {base : Heap}
    {f : Addr} {fd : FuncData} (D : Dn K mg "_law_depth" s_law_depth ["record"] f fd)
    (b_isinstance : mg "isinstance" = none)
    (b_tuple : mg "tuple" = none)
    (b_max : mg "max" = none) : Cal P w K mg base CX0 42 "_law_depth" (sp_law_depth K) := by
  have all : ∀ n, Cal P w K mg base CX0 (n + 2) "_law_depth" (spDep K n) := fun n => by
    induction n with
    | zero => exact aux_depth D b_isinstance b_tuple b_max 0 (D.cal ⟨fun _ _ _ _ h => h.elim, fun _ _ _ _ _ _ _ _ _ _ _ _ _ h => h.elim⟩)
    | succ n ih => exact aux_depth D b_isinstance b_tuple b_max (n + 1) ih
  exact all 40
/-! ### _law_numbered -/
abbrev s_law_numbered : Stmt := top 34
abbrev n_law_numbered : List Str := ["cells", "cell"]
theorem sc_law_numbered : FnScope n_law_numbered ["cells"] (defScope s_law_numbered) := ⟨rfl, rfl, rfl, by decide +kernel, rfl, by decide +kernel, by decide +kernel⟩
def sp_law_numbered (K : PySem.W.Frag) : Sp := Sg (α := Addr × List V) (fun x vs _ G => vs = [.ref x.1] ∧ SqL K G x.1 x.2 ∧ (∀ v ∈ x.2, CellV K G v)) (fun x M _ v M' _ => M' = M ∧ v = .bl (x.2.all isI))
theorem all_take {f : V → Bool} {xs : List V} (h : ∀ m v, m < xs.length → xs[m]? = some v → f v = true) : xs.all f = true := List.all_eq_true.mpr fun v hv => by
  obtain ⟨m, hm⟩ := List.getElem?_of_mem hv
  exact h m v (List.getElem?_eq_some_iff.mp hm).1 hm
theorem all_bad {f : V → Bool} {xs : List V} {v : V} (h : v ∈ xs) (n : f v = false) : xs.all f = false := by
  cases e : xs.all f with
  | false => rfl
  | true => have := List.all_eq_true.mp e v h; rw [n] at this; cases this
theorem ok_law_numbered {P : Program} {w : World} {K : PySem.W.Frag} {mg : Str → Option Value} {base : Heap}
    {f : Addr} {fd : FuncData} (D : Dn K mg "_law_numbered" s_law_numbered ["cells"] f fd)
    (b_isinstance : mg "isinstance" = none)
    (b_bool : mg "bool" = none)
    (b_int : mg "int" = none) : Cal P w K mg base CX0 1 "_law_numbered" (sp_law_numbered K) := by
  refine D.ok sc_law_numbered (fun vs H Q E h => ?_) fun cdv A outer s H vs Q E hr h => ?_
  · obtain ⟨x, M, G, j, ⟨rfl, _⟩, _⟩ := h; rfl
  obtain ⟨⟨a, xs⟩, M, G, j, ⟨rfl, ha, hc⟩, k⟩ := h
  dsimp only at ha hc k
  refine ⟨_, (pss_cons (ps_for PassesOwn.never rfl (pi_list (pv 0)) (pg_name (i := 1) sc_law_numbered.nd rfl (Or.inl rfl))
(pss_one (ps_if (PW.pt (pw_or (pt_not (pt_val (pe_callB (call_isiK' (K := K) rfl) (by rfl) b_isinstance bt_isinstance (pa_cons (pv 1) (pa_cons (pe_bltn (v := .ty "int") (by rfl) b_int bt_int rfl) pa_nil))))) (pw_or1 (pt_val (pe_callB (call_isiK' (K := K) rfl) (by rfl) b_isinstance bt_isinstance (pa_cons (pv 1) (pa_cons (pe_bltn (v := .ty "bool") (by rfl) b_bool bt_bool rfl) pa_nil)))))))
(pss_one (ps_ret pe_bl))
pss_nil)))
(pss_one (ps_ret pe_bl))), ?_⟩
  walk_at "start"
  refine w_forLV rfl (xs := xs) (fun n σ H => ∃ x1, J M G H ∧ (∀ m v, m < n → xs[m]? = some v → isI v = true) ∧ σ = [some (.ref a), x1]) (sl_mono j.g ha) ⟨_, j, fun m v h => absurd h (Nat.not_lt_zero m), rfl⟩ ?_ ?_ ?_
  · rintro n σ H _ ⟨x1, j, _⟩
    exact sl_mono j.g ha
  · rintro n v σ H hv ⟨x1, j, ok, rfl⟩
    have cv := hc v (List.mem_of_getElem? hv)
    have bad : isI v = false → Q (.bl false) H := fun e => k _ _ _ _ j (Same.refl G) ⟨rfl, by rw [all_bad (List.mem_of_getElem? hv) e]⟩
    have nx : isI v = true → ∃ x1', J M G H ∧ (∀ m u, m < n + 1 → xs[m]? = some u → isI u = true) ∧ ([some (.ref a), some v] : L2.St) = [some (.ref a), x1'] := fun e => ⟨_, j, fun m u hm hu => by
      by_cases q : m = n
      · subst q; rw [hv] at hu; cases hu; exact e
      · exact ok m u (by omega) hu, rfl⟩
    walk_at "go"
    rcases cv with cv | ⟨b, rfl, hb⟩
    · cases v with
      | non => walk_at "go"; exact bad rfl
      | bl b => walk_at "go"; exact bad rfl
      | int b => walk_at "go"; exact nx rfl
      | str b => walk_at "go"; exact bad rfl
      | byt b => cases cv
      | flt b => cases cv
      | ref b => cases cv
      | ty b => cases cv
    · refine w_isi false (ty_T (st_mono j.g hb)) (by rfl) ?_
      walk_at "go"
      exact bad rfl
  · rintro σ H ⟨x1, j, ok, rfl⟩
    walk_at "go"
    exact k _ _ _ _ j (Same.refl G) ⟨rfl, by rw [all_take ok]⟩
/-! ### records and cells as data -/
mutual
def dR : Rc → PyData
  | .non => .none
  | .bl b => .bool b
  | .int i => .int i
  | .str s => .str s
  | .tup xs => .tuple (dL xs)
  | .oth => .none
def dL : List Rc → List PyData
  | [] => []
  | x :: r => dR x :: dL r
end
theorem dL_map : ∀ xs : List Rc, dL xs = xs.map dR
  | [] => rfl
  | x :: r => by rw [dL, dL_map r]; rfl
mutual
theorem RcAt.dp {K : PySem.W.Frag} {G : Hp} : ∀ {v : V} {r : Rc}, RcAt K G v r → pureM r = true → Dp K G v (dR r)
  | _, _, .non, _ => .non
  | _, _, .bl b, _ => .bl b
  | _, _, .int i, _ => .int i
  | _, _, .str x, _ => .str x
  | _, _, .tup h t, p => .tup h (RcsAt.dp t (by rw [pureM] at p; exact p))
  | _, _, .lst h, p => by cases p
  | _, _, .dic h, p => by cases p
theorem RcsAt.dp {K : PySem.W.Frag} {G : Hp} : ∀ {vs : List V} {rs : List Rc}, RcsAt K G vs rs → pureL rs = true → DpAll K G vs (dL rs)
  | _, _, .nil, _ => .nil
  | _, _, .cons h t, p => by
    rw [pureL, Bool.and_eq_true] at p
    exact .cons (RcAt.dp h p.1) (RcsAt.dp t p.2)
end
theorem okD_q {cs : List Int} (hz : cs.length ≤ 100000) : ∀ (m at_ : Nat) (r : Rc) (p : Nat), qM cs m at_ = some (r, p) → okD m (dR r) ∧ pureM r = true := by
  intro m
  induction m with
  | zero => ?_
  | succ m ih => ?_
  all_goals
    intro at_ r p h
    have hlt := q_lw _ at_ r p h
    rw [qM_eq] at h
    unfold leafQ at h
    cases c1 : cs[at_]? with
    | none => rw [c1] at h; cases h
    | some tag =>
      rw [c1] at h
      simp only [Option.bind_some] at h
      by_cases h0 : tag = 0
      · rw [if_pos h0] at h
        cases c2 : cs[at_ + 1]? with
        | none => rw [c2] at h; cases h
        | some num => rw [c2] at h; cases h; exact ⟨trivial, rfl⟩
      rw [if_neg h0] at h
      by_cases h1 : tag = 1
      · rw [if_pos h1] at h; cases h; exact ⟨trivial, rfl⟩
      rw [if_neg h1] at h
      by_cases h2 : tag = 2
      · rw [if_pos h2] at h; cases h; exact ⟨trivial, rfl⟩
      rw [if_neg h2] at h
      by_cases h3 : tag = 3
      · rw [if_pos h3] at h; cases h; exact ⟨trivial, rfl⟩
      rw [if_neg h3] at h
      by_cases h4 : tag = 4
      · rw [if_pos h4] at h
        unfold wordQ at h
        cases c2 : cs[at_ + 1]? with
        | none => rw [c2] at h; cases h
        | some num =>
          rw [c2] at h
          simp only [Option.bind_some] at h
          split at h
          · cases q : WD[num.toNat]? with
            | none => rw [q] at h; cases h
            | some s => rw [q] at h; cases h; exact ⟨trivial, decide_eq_true (List.mem_of_getElem? q)⟩
          · cases h
      rw [if_neg h4] at h
      by_cases h5 : tag = 5
      · rw [if_pos h5] at h
        unfold tupQ at h
        cases c2 : cs[at_ + 1]? with
        | none => rw [c2] at h; cases h
        | some num =>
          rw [c2] at h
          have l2 := (List.getElem?_eq_some_iff.mp c2).1
          simp only [Option.bind_some] at h
          by_cases hg : 0 ≤ num ∧ num ≤ (cs.length : Int) - ((at_ + 1 : Nat) + 1)
          · rw [if_pos hg] at h
            first
              | (cases h; done)
              | (replace h : (partsM (fun a => qM cs m a) num.toNat (at_ + 1 + 1)).map (fun y => (Rc.tup y.1, y.2)) = some (r, p) := h
                 cases q : partsM (fun a => qM cs m a) num.toNat (at_ + 1 + 1) with
                 | none => rw [q] at h; cases h
                 | some y =>
                   obtain ⟨ps, p1⟩ := y
                   rw [q] at h
                   have h := Option.some.inj h
                   cases h
                   obtain ⟨g1, g2, g3, g4⟩ := parts_all (N := cs.length) (P := fun r => okD m (dR r) ∧ pureM r = true) (fun a r p e => by obtain ⟨x1, x2, x3, x4⟩ := q_lw m a r p e; exact ⟨x1, x2, ih a r p e⟩) _ _ _ _ q (by omega)
                   have e1 : dR (.tup ps) = .tuple (ps.map dR) := by rw [dR, dL_map]
                   refine ⟨?_, ?_⟩
                   · show okD (m + 1) (dR (.tup ps))
                     rw [e1]
                     exact ⟨by rw [List.length_map]; omega, fun x hx => by obtain ⟨r, hr, rfl⟩ := List.mem_map.mp hx; exact (g4 r hr).1⟩
                   · show pureM (.tup ps) = true
                     rw [pureM]
                     have : ∀ {qs : List Rc}, (∀ r ∈ qs, pureM r = true) → pureL qs = true := fun {qs} => by
                       induction qs with
                       | nil => intro _; rfl
                       | cons x r ih => intro h; rw [pureL, h x List.mem_cons_self, ih fun y m => h y (List.mem_cons_of_mem _ m)]; rfl
                     exact this fun r m => (g4 r m).2)
          · rw [if_neg hg] at h; cases h
      · rw [if_neg h5] at h; cases h
theorem reb_q {cs : List Int} {r : Rc} (h : rebM cs = some r) : qM cs 30 0 = some (r, cs.length) := by
  unfold rebM at h
  cases q : qM cs 30 0 with
  | none => rw [q] at h; cases h
  | some x =>
    obtain ⟨r', p⟩ := x
    rw [q] at h
    replace h : (if p = cs.length then some r' else none) = some r := h
    split at h
    · rename_i e; have h := Option.some.inj h; subst h e; rfl
    · cases h
def cdV : V → PyData
  | .bl b => .bool b
  | .int n => .int n
  | .str s => .str s
  | .ref _ => .tuple [.int 1]
  | _ => .none
theorem CellV.dp {K : PySem.W.Frag} {G : Hp} {v : V} (h : CellV K G v) : Dp K G v (cdV v) := by
  rcases h with h | ⟨a, rfl, ha⟩
  · cases v with
    | non => exact .non
    | bl b => exact .bl b
    | int b => exact .int b
    | str b => exact .str b
    | byt b => cases h
    | flt b => cases h
    | ref b => cases h
    | ty b => cases h
  · exact .tup ha (.cons (.int 1) .nil)
theorem cells_dp {K : PySem.W.Frag} {G : Hp} : ∀ {xs : List V}, (∀ v ∈ xs, CellV K G v) → DpAll K G xs (xs.map cdV)
  | [], _ => .nil
  | v :: r, h => .cons (h v List.mem_cons_self).dp (cells_dp fun x m => h x (List.mem_cons_of_mem _ m))
theorem okD_cells {n : Nat} {xs : List V} (h : xs.length ≤ 100000) : okD (n + 2) (.list (xs.map cdV)) := by
  refine ⟨by rw [List.length_map]; exact h, fun x hx => ?_⟩
  obtain ⟨v, _, rfl⟩ := List.mem_map.mp hx
  cases v with
  | ref a => exact ⟨by show 1 ≤ 100000; decide, fun x hx => by rw [List.mem_singleton.mp hx]; cases n <;> trivial⟩
  | non => trivial
  | bl b => trivial
  | int b => trivial
  | str b => trivial
  | byt b => trivial
  | flt b => trivial
  | ty b => trivial
theorem ints_inj {cs cs' : List Int} (h : cs.map V.int = cs'.map V.int) : cs' = cs := (List.map_inj_right (fun x y z => V.int.inj z)).mp h.symm
/-! ### _law_asked -/
abbrev s_law_asked : Stmt := top 35
abbrev n_law_asked : List Str := ["cells", "due", "handed", "refused", "record", "e"]
theorem sc_law_asked : FnScope n_law_asked ["cells"] (defScope s_law_asked) := ⟨rfl, rfl, rfl, by decide +kernel, rfl, by decide +kernel, by decide +kernel⟩
def sp_law_asked (K : PySem.W.Frag) : Sp := Sg (α := Addr × List V) (fun x vs _ G => vs = [.ref x.1] ∧ CellsAt K G x.1 x.2 ∧ x.2.length ≤ 30000) (fun x M _ v M' _ => M' = M ∧ v = .bl true)
theorem law_reb_some {xs : List V} {r : Rc} (h : lawReb xs = some r) : lwV xs 35 0 = some (r, xs.length) := by
  unfold lawReb at h
  cases q : lwV xs 35 0 with
  | none => rw [q] at h; cases h
  | some x =>
    obtain ⟨r', p⟩ := x
    rw [q] at h
    replace h : (if p = xs.length then some r' else none) = some r := h
    split at h
    · rename_i e; have h := Option.some.inj h; subst h e; rfl
    · cases h
theorem law_reb_none {xs : List V} (h : lawReb xs = none) : ∀ cs : List Int, xs = cs.map V.int → rebM cs = none := fun cs e => by
  cases q : rebM cs with
  | none => rfl
  | some r =>
    obtain ⟨h1, h2⟩ := reb_lw.mp q
    subst e
    unfold lawReb at h
    rw [h1] at h
    replace h : (if cs.length = (cs.map V.int).length then some r else none) = none := h
    rw [if_pos (by rw [List.length_map])] at h
    cases h
/-- what is due -/
def Due (K : PySem.W.Frag) (G : Hp) (xs : List V) (v : V) : Prop := (∃ cs r t u, xs = cs.map V.int ∧ rebM cs = some r ∧ v = .ref t ∧ G t = some (.lst [u]) ∧ RcAt K G u r) ∨ (v = .non ∧ ∀ cs : List Int, xs = cs.map V.int → rebM cs = none)
theorem Due.ex {K : PySem.W.Frag} {G G' : Hp} {xs : List V} {v : V} (h : Due K G xs v) (e : Ex G G') : Due K G' xs v := by
  rcases h with ⟨cs, r, t, u, h1, h2, h3, h4, h5⟩ | h
  · exact .inl ⟨cs, r, t, u, h1, h2, h3, e _ _ h4, h5.ex e⟩
  · exact .inr h
theorem ok_law_asked {P : Program} {w : World} {K : PySem.W.Frag} {mg : Str → Option Value} {base : Heap}
    {f : Addr} {fd : FuncData} (D : Dn K mg "_law_asked" s_law_asked ["cells"] f fd)
    (b_isinstance : mg "isinstance" = none)
    (b_list : mg "list" = none)
    {A_BadRecord : Addr} (x_BadRecord : Xc K mg "BadRecord" A_BadRecord)
    {A_BadDeal : Addr} (x_BadDeal : Xc K mg "BadDeal" A_BadDeal)
    (i_BadRecord_BadDeal : PySem.W.kitOne K (.ref A_BadRecord) (.ref A_BadDeal) = some false)
    (c_law_equal : Cal P w K mg base CX0 61 "_law_equal" (spEq K 30))
    (c_rebuild : Cal P w K mg base (L2.CX P w) 64 "rebuild" (sp_rebuild K A_BadRecord))
    (c_law_numbered : Cal P w K mg base CX0 1 "_law_numbered" (sp_law_numbered K))
    (c_law_depth : Cal P w K mg base CX0 42 "_law_depth" (sp_law_depth K))
    (c_law_rebuilt : Cal P w K mg base CX0 38 "_law_rebuilt" (sp_law_rebuilt K)) : Cal P w K mg base CX0 65 "_law_asked" (sp_law_asked K) := by
  refine D.ok sc_law_asked (fun vs H Q E h => ?_) fun cdv A outer s H vs Q E hr h => ?_
  · obtain ⟨x, M, G, j, ⟨rfl, _⟩, _⟩ := h; rfl
  obtain ⟨⟨a, xs⟩, M, G, j, ⟨rfl, ⟨ha, hc⟩, hz⟩, k⟩ := h
  dsimp only at ha hc hz k
  refine ⟨_, (pss_cons (ps_set (i := 1) sc_law_asked.nd rfl (Or.inl rfl) (pe_cal c_law_rebuilt hr (by first | decide | omega) (by rfl) (pa_cons (pv 0) pa_nil)))
(pss_cons (ps_if (PW.pt (pw_and (pt_cmp (pc_notN (pv 1))) (pw_and1 (PW.pt (pw_or (pt_cmpR op_gt (pe_cal c_law_depth hr (by first | decide | omega) (by rfl) (pa_cons (pe_ix (ix_uK (K := K) rfl) (pv 1) pe_int (fun _ _ => rfl)) pa_nil)) pe_int (nomark _)) (pw_or1 (pt_not (pt_val (pe_cal c_law_numbered hr (by first | decide | omega) (by rfl) (pa_cons (pv 0) pa_nil))))))))))
(pss_one (ps_set (i := 1) sc_law_asked.nd rfl (Or.inl rfl) pe_non))
pss_nil)
(pss_cons (ps_set (i := 2) sc_law_asked.nd rfl (Or.inl rfl) (pe_callTy (call_listC (K := K) rfl) (by rfl) b_list bt_list (pa_cons (pv 0) pa_nil)))
(pss_cons (ps_set (i := 3) sc_law_asked.nd rfl (Or.inl rfl) pe_bl)
(pss_cons (ps_set (i := 4) sc_law_asked.nd rfl (Or.inl rfl) pe_non)
(pss_cons (ps_tryA (i := 5) rfl rfl sc_law_asked.nd rfl rfl ⟨by rfl, by decide, Or.inl x_BadRecord.gP⟩ takes0 (fun W pn xe tk _ =>
(pss_one (ps_set (i := 4) sc_law_asked.nd rfl (Or.inl rfl) (pe_calX c_rebuild hr (by first | decide | omega) (by rfl) tk (pa_cons (pv 2) pa_nil)))))
(fun a oe cls d pn hz hf => pss_given (p := cls = .ref A_BadRecord ∧ d = none) fun q =>
(pss_one (ps_set (i := 3) sc_law_asked.nd rfl (Or.inl rfl) (pe_not (pe_callB (call_isE x_BadRecord.excC (by obtain ⟨rfl, rfl⟩ := q; exact hz) hf) (by rfl) b_isinstance bt_isinstance (pa_cons (pv 5) (pa_cons (pe_gk (by rfl) x_BadDeal.g) pa_nil))))))))
(pss_cons (ps_if (PW.pt (pw_or (pt_cmpR (op_uNeK (K := K) rfl hr) (pv 3) (pe_cmp (pc_isN (pv 1))) (nomark _)) (pw_or1 (pt_not (pt_val (pe_cal c_law_equal hr (by first | decide | omega) (by rfl) (pa_cons (pv 2) (pa_cons (pv 0) pa_nil))))))))
(pss_one (ps_ret pe_bl))
pss_nil)
(pss_one (ps_ret (pe_or (pe_cmp (pc_isN (pv 1))) (pe_one (pe_cal c_law_equal hr (by first | decide | omega) (by rfl) (pa_cons (pv 4) (pa_cons (pe_ix (ix_uK (K := K) rfl) (pv 1) pe_int (fun _ _ => rfl)) pa_nil)))))))))))))), ?_⟩
  walk_at "start"
  refine w_sg (a, xs) j ⟨rfl, sl_of ha, hc, by show xs.length ≤ 100000; omega⟩ fun v M1 G1 H1 j1 e1 ⟨em, hv⟩ => ?_
  subst em
  dsimp only at hv
  walk_at "to"
  refine w_seqP (fun σ H => ∃ G2 v, J M1 G2 H ∧ Ex G1 G2 ∧ Due K G2 xs v ∧ σ = [some (.ref a), some v, none, none, none, none]) ?_ fun rest => ?_
  · rintro σ H ⟨G2, v, j2, e2, hd, rfl⟩
    have E2 := e1.trans e2
    walk_at "go"
    refine w_listC (xs := xs) (.inl (sl_of (j2.g _ _ (E2 _ _ ha)))) (w_new j2 (Nat.zero_le _) fun hh G3 H3 j3 e3 hhd _ => ?_)
    have E3 := E2.trans e3
    with_reducible refine w_gName ?_
    with_reducible refine w_seq ?_
    with_reducible refine w_asg ?_
    with_reducible refine w_c ?_
    with_reducible refine w_gName ?_
    with_reducible refine w_seq ?_
    with_reducible refine w_asg ?_
    with_reducible refine w_c ?_
    with_reducible refine w_gName ?_
    with_reducible show tSeq (tTryA _ _ _ _ _ _) _ _ _ _
    refine w_seqP (fun σ H => ∃ (G4 : Hp) (v4 : V) (y5 : Option V), J M1 G4 H ∧ Ex G3 G4 ∧
      ((∃ cs r t u, xs = cs.map V.int ∧ rebM cs = some r ∧ v = .ref t ∧ G4 t = some (.lst [u]) ∧ RcAt K G4 u r ∧ RcAt K G4 v4 r ∧ σ = [some (.ref a), some v, some (.ref hh), some (.bl false), some v4, y5]) ∨
        (v = .non ∧ σ = [some (.ref a), some v, some (.ref hh), some (.bl true), some v4, y5]))) ?_ fun rest2 => ?_
    · rintro σ H ⟨G4, v4, y5, j4, e4, hcase⟩
      have q1 : Dp K G4 (.ref hh) (.list (xs.map cdV)) := .lst (sl_of (e4 _ _ hhd)) (cells_dp fun v m => (hc v m).ex (E3.trans e4))
      have q2 : Dp K G4 (.ref a) (.list (xs.map cdV)) := .lst (sl_of (e4 _ _ (E3 _ _ ha))) (cells_dp fun v m => (hc v m).ex (E3.trans e4))
      rcases hcase with ⟨cs, r, t, u, rfl, hr, rfl, ht, hu, hv4, rfl⟩ | ⟨rfl, rfl⟩
      · walk_at "go"
        refine w_neV (k := false) rfl (by rw [decide_eq_false (p := V.ref t = V.non) (fun z => nomatch z)]; rfl) ?_
        walk_at "go"
        refine use_eq (n := 30) j4 q1 q2 (okD_cells (n := 28) (by omega)) fun G5 H5 j5 e5 => ?_
        walk_at "go"
        refine w_dF (fun z => nomatch z) ?_
        walk_at "go"
        refine w_ixL j5 (sl_of (e5 _ _ ht)) (by rfl) ?_
        obtain ⟨o1, o2⟩ := okD_q (by rw [List.length_map] at hz; omega) 30 0 r _ (reb_q hr)
        exact use_eq (n := 30) j5 ((hv4.ex e5).dp o2) ((hu.ex e5).dp o2) o1 fun G6 H6 j6 e6 => k _ _ _ _ j6 ((E3.trans e4).trans (e5.trans e6)) ⟨rfl, rfl⟩
      · walk_at "go"
        refine w_neV (k := false) rfl (by rw [decide_eq_true (p := V.non = V.non) rfl]; rfl) ?_
        walk_at "go"
        refine use_eq (n := 30) j4 q1 q2 (okD_cells (n := 28) (by omega)) fun G5 H5 j5 e5 => ?_
        walk_at "go"
        refine w_dT rfl ?_
        exact k _ _ _ _ j5 ((E3.trans e4).trans e5) ⟨rfl, rfl⟩
    · walk_at "go"
      refine w_sx (hh, xs) j3 ⟨rfl, sl_of hhd, fun v m => (hc v m).ex E3, by show xs.length ≤ 100000; omega⟩ (fun v' M4 G4 H4 j4 e4 ⟨em, cs, r, h1, h2, h3⟩ => ?_) (fun C M4 G4 H4 j4 e4 ⟨ec, em, hno⟩ => ?_)
      · subst em
        dsimp only at h1
        with_reducible refine w_gName ?_
        rcases hd with ⟨cs', r', t, u, g1, g2, g3, g4, g5⟩ | ⟨g1, g2⟩
        · have ee := ints_inj (h1.symm.trans g1)
          subst ee
          have er := Option.some.inj (h2.symm.trans g2)
          subst er
          exact rest2 _ _ ⟨G4, v', none, j4, e4, .inl ⟨cs', r, t, u, g1, h2, g3, e4 _ _ (e3 _ _ g4), (g5.ex e3).ex e4, h3, rfl⟩⟩
        · rw [g2 cs h1] at h2; cases h2
      · subst ec em
        refine w_caught x_BadRecord.exm fun ea hea => ⟨⟨rfl, rfl⟩, ?_⟩
        walk_at "go"
        refine w_isE i_BadRecord_BadDeal ?_
        refine w_bl ?_
        refine w_gName ?_
        rcases hd with ⟨cs', r', t, u, g1, g2, g3, g4, g5⟩ | ⟨g1, g2⟩
        · dsimp only at hno
          rw [hno cs' g1] at g2; cases g2
        · exact rest2 _ _ ⟨G4, .non, none, j4, e4, .inr ⟨g1, rfl⟩⟩
  · walk_at "go"
    cases q5 : lawReb xs with
    | none =>
      rw [q5] at hv
      cases hv
      refine w_nT rfl ?_
      repeat walk_at "v"
      exact rest _ _ ⟨G1, .non, j1, Same.refl _, .inr ⟨rfl, law_reb_none q5⟩, rfl⟩
    | some r =>
      rw [q5] at hv
      obtain ⟨t, u, rfl, ht, hu⟩ := hv
      have hlw := law_reb_some q5
      obtain ⟨_, _, hd35, hpure⟩ := lw_ok _ _ _ _ _ hlw
      refine w_nF (fun z => nomatch z) ?_
      walk_at "go"
      refine w_ixL j1 (sl_of ht) (by rfl) ?_
      walk_at "go"
      show spDep K 40 _ _ _ _
      refine w_sg (u, r) j1 ⟨rfl, hu, by dsimp only; omega⟩ fun v' M2 G2 H2 j2 e2 ⟨em, ev⟩ => ?_
      subst ev em
      walk_at "go"
      have noR : (∀ cs : List Int, xs = cs.map V.int → rebM cs = none) → ∀ (G3 H3 : Hp), J M2 G3 H3 → Ex G1 G3 → ∃ G2 v, J M2 G2 H3 ∧ Ex G1 G2 ∧ Due K G2 xs v ∧ ([some (.ref a), some .non, none, none, none, none] : L2.St) = [some (.ref a), some v, none, none, none, none] := fun h G3 H3 j e => ⟨G3, .non, j, e, .inr ⟨rfl, h⟩, rfl⟩
      refine w_dec (fun h => ?_) (fun h => ?_)
      · repeat walk_at "v"
        refine rest _ _ (noR (fun cs e => ?_) _ _ j2 e2)
        cases q : rebM cs with
        | none => rfl
        | some r' =>
          obtain ⟨h1, h2⟩ := reb_lw.mp q
          subst e
          rw [h1] at hlw
          have e3 := (Prod.mk.inj (Option.some.inj hlw)).1
          subst e3
          omega
      · walk_at "go"
        refine w_sg (a, xs) j2 ⟨rfl, sl_of (e2 _ _ (e1 _ _ ha)), fun v m => (hc v m).ex (e1.trans e2)⟩ fun v' M3 G3 H3 j3 e3 ⟨em, ev⟩ => ?_
        subst ev em
        dsimp only
        refine w_bl ?_
        cases hb : xs.all isI with
        | false =>
          refine w_nf ?_
          repeat walk_at "v"
          refine rest _ _ (noR (fun cs e => ?_) _ _ j3 (e2.trans e3))
          subst e
          rw [List.all_map] at hb
          have : cs.all (isI ∘ V.int) = true := List.all_eq_true.mpr fun x _ => rfl
          rw [this] at hb; cases hb
        | true =>
          refine w_nt ?_
          repeat walk_at "v"
          obtain ⟨cs, rfl⟩ := all_ints (vs := xs) (List.all_eq_true.mp hb)
          rw [List.length_map] at hlw
          exact rest _ _ ⟨G3, .ref t, j3, e2.trans e3, .inl ⟨cs, r, t, u, rfl, reb_lw.mpr ⟨hlw, by omega⟩, rfl, e3 _ _ (e2 _ _ ht), (hu.ex e2).ex e3⟩, rfl⟩
/-! ### _law_mixed -/
abbrev s_law_mixed : Stmt := top 21
abbrev n_law_mixed : List Str := ["number", "k", "step"]
theorem sc_law_mixed : FnScope n_law_mixed ["number", "k"] (defScope s_law_mixed) := ⟨rfl, rfl, rfl, by decide +kernel, rfl, by decide +kernel, by decide +kernel⟩
def mixed (n k : Int) : Int :=
  ((n * 48271 + k * 69621 + 12345) % 2147483647 * ((n * 48271 + k * 69621 + 12345) % 2147483647 / 65536 + 3) + k) % 2147483647
theorem mixed_b (n k : Int) : 0 ≤ mixed n k ∧ mixed n k < 2147483647 := by
  unfold mixed
  exact ⟨Int.emod_nonneg _ (by decide), Int.emod_lt_of_pos _ (by decide)⟩
def sp_law_mixed (K : PySem.W.Frag) : Sp := Sg (α := Int × Int) (fun a vs _ _ => vs = [.int a.1, .int a.2]) (fun a M _ v M' _ => v = .int (mixed a.1 a.2) ∧ M' = M)
theorem ok_law_mixed {P : Program} {w : World} {K : PySem.W.Frag} {mg : Str → Option Value} {base : Heap}
    {f : Addr} {fd : FuncData} (D : Dn K mg "_law_mixed" s_law_mixed ["number", "k"] f fd) : Cal P w K mg base CX0 1 "_law_mixed" (sp_law_mixed K) := by
  refine D.ok sc_law_mixed (fun vs H Q E h => ?_) fun cdv A outer s H vs Q E hr h => ?_
  · obtain ⟨a, M, G, j, rfl, _⟩ := h; rfl
  obtain ⟨⟨n, k⟩, M, G, j, rfl, q⟩ := h
  refine ⟨_, (pss_cons (ps_set (i := 2) sc_law_mixed.nd rfl (Or.inl rfl) (pe_op op_mod (pe_op (op_uAddK (K := K) rfl) (pe_op (op_uAddK (K := K) rfl) (pe_op op_uMul (pv 0) pe_int) (pe_op op_uMul (pv 1) pe_int)) pe_int) pe_int))
(pss_one (ps_ret (pe_op op_mod (pe_op (op_uAddK (K := K) rfl) (pe_op op_uMul (pv 2) (pe_op (op_uAddK (K := K) rfl) (pe_op op_fdiv (pv 2) pe_int) pe_int)) (pv 1)) pe_int)))), ?_⟩
  walk_at "start"
  refine w_mulI (.inl ?_) ?_
  · have h1 := Int.emod_nonneg (n * 48271 + k * 69621 + 12345) (b := 2147483647) (by decide)
    have h2 := Int.emod_lt_of_pos (n * 48271 + k * 69621 + 12345) (b := 2147483647) (by decide)
    omega
  walk_at "go"
  exact q _ _ _ _ j (Same.refl G) ⟨rfl, rfl⟩
/-! ### _law_numbers -/
abbrev s_law_numbers : Stmt := top 22
abbrev n_law_numbers : List Str := ["script", "numbers", "cell", "rest", "k"]
theorem sc_law_numbers : FnScope n_law_numbers ["script"] (defScope s_law_numbers) := ⟨rfl, rfl, rfl, by decide +kernel, rfl, by decide +kernel, by decide +kernel⟩
def sp_law_numbers (K : PySem.W.Frag) : Sp := Sg (α := Addr × List Int) (fun a vs M G => vs = [.ref a.1] ∧ SqL K G a.1 (a.2.map V.int) ∧ a.2.length ≤ 63)
  (fun a M _ v M' G' => ∃ (t : Addr) (ns : List Int), v = .ref t ∧ G' t = some (.lst (ns.map V.int)) ∧ (∀ n ∈ ns, 0 ≤ n ∧ n < 1000000) ∧ M' = M)
theorem nums_snoc {ns : List Int} {n : Int} (h : ∀ n ∈ ns, 0 ≤ n ∧ n < 1000000) (hn : 0 ≤ n ∧ n < 1000000) : ∀ m ∈ ns ++ [n], 0 ≤ m ∧ m < 1000000 := by
  intro m hm
  rcases List.mem_append.mp hm with hm | hm
  · exact h m hm
  · rw [List.mem_singleton.mp hm]; exact hn
theorem mod_b (n : Int) : 0 ≤ n % 1000000 ∧ n % 1000000 < 1000000 := ⟨Int.emod_nonneg _ (by decide), Int.emod_lt_of_pos _ (by decide)⟩
/-- between the turns: d holds at most m numbers -/
def NumsI (M G : Hp) (a d : Addr) (m : Nat) (σ : L2.St) (H : Hp) : Prop := ∃ (ns : List Int) (G1 : Hp) (x y z : Option V), J (upd M d (.lst (ns.map V.int))) G1 H ∧ Ex G G1 ∧ (∀ n ∈ ns, 0 ≤ n ∧ n < 1000000) ∧ ns.length ≤ m ∧
  σ = [some (.ref a), some (.ref d), x, y, z]
def NumsJ (M G : Hp) (a d : Addr) (m : Nat) (c : Int) (σ : L2.St) (H : Hp) : Prop := ∃ (ns : List Int) (G1 : Hp) (y z : Option V), J (upd M d (.lst (ns.map V.int))) G1 H ∧ Ex G G1 ∧ (∀ n ∈ ns, 0 ≤ n ∧ n < 1000000) ∧ ns.length ≤ m ∧
  σ = [some (.ref a), some (.ref d), some (.int c), y, z]
def NumsR (M G : Hp) (a d : Addr) (m : Nat) (c : Int) (σ : L2.St) (H : Hp) : Prop := ∃ (ns : List Int) (G1 : Hp) (r : Int) (z : Option V), J (upd M d (.lst (ns.map V.int))) G1 H ∧ Ex G G1 ∧ (∀ n ∈ ns, 0 ≤ n ∧ n < 1000000) ∧ ns.length ≤ m ∧
  σ = [some (.ref a), some (.ref d), some (.int c), some (.int r), z]
theorem ok_law_numbers {P : Program} {w : World} {K : PySem.W.Frag} {mg : Str → Option Value} {base : Heap}
    {f : Addr} {fd : FuncData} (D : Dn K mg "_law_numbers" s_law_numbers ["script"] f fd)
    (b_range : mg "range" = none)
    (c_law_mixed : Cal P w K mg base CX0 1 "_law_mixed" (sp_law_mixed K)) : Cal P w K mg base CX0 2 "_law_numbers" (sp_law_numbers K) := by
  refine D.ok sc_law_numbers (fun vs H Q E h => ?_) fun cdv A outer s H vs Q E hr h => ?_
  · obtain ⟨a, M, G, j, ⟨rfl, _⟩, _⟩ := h; rfl
  obtain ⟨⟨a, cs⟩, M, G, j, ⟨rfl, ha, hl⟩, k⟩ := h
  refine ⟨_, (pss_cons (ps_set (i := 1) sc_law_numbers.nd rfl (Or.inl rfl) (pe_lst pa_nil))
(pss_cons (ps_for PassesOwn.never rfl (pi_list (pv 0)) (pg_name (i := 2) sc_law_numbers.nd rfl (Or.inl rfl))
(pss_one (ps_if (pt_cmpR op_ge (pv 2) (pe_op op_pow pe_int pe_int) (nomark _))
(pss_cons (ps_set (i := 3) sc_law_numbers.nd rfl (Or.inl rfl) (pv 2))
(pss_one (ps_for PassesOwn.never rfl (pi_range1 (by rfl) b_range (pa_cons pe_int pa_nil)) (pg_name (i := 4) sc_law_numbers.nd rfl (Or.inl rfl))
(pss_one (ps_if (pt_cmpR op_gt (pv 3) pe_int (nomark _))
(pss_cons (ps_expr (pe_bm PySem.F.plainAttrs_list PySem.F.slot_list_append PySem.F.type_list_append mt_append (pv 1) (pa_cons (pe_op op_mod (pv 3) pe_int) pa_nil)))
(pss_one (ps_set (i := 3) sc_law_numbers.nd rfl (Or.inl rfl) (pe_op op_fdiv (pv 3) pe_int))))
pss_nil)))))
(pss_cons (ps_expr (pe_bm PySem.F.plainAttrs_list PySem.F.slot_list_append PySem.F.type_list_append mt_append (pv 1) (pa_cons (pe_op op_mod (pv 2) pe_int) pa_nil)))
(pss_one (ps_for PassesOwn.never rfl (pi_range1 (by rfl) b_range (pa_cons pe_int pa_nil)) (pg_name (i := 4) sc_law_numbers.nd rfl (Or.inl rfl))
(pss_one (ps_expr (pe_bm PySem.F.plainAttrs_list PySem.F.slot_list_append PySem.F.type_list_append mt_append (pv 1) (pa_cons (pe_op op_mod (pe_cal c_law_mixed hr (by first | decide | omega) (by rfl) (pa_cons (pe_cal c_law_mixed hr (by first | decide | omega) (by rfl) (pa_cons (pe_op op_mod (pv 2) pe_int) (pa_cons (pv 4) pa_nil))) (pa_cons (pe_op (op_uAddK (K := K) rfl) (pv 4) pe_int) pa_nil))) pe_int) pa_nil))))))))))
(pss_one (ps_ret (pv 1))))), ?_⟩
  walk_at "start"
  refine w_newM j (by decide) fun d H1 j1 nM nG => ?_
  walk_at "go"
  refine w_forLV rfl (NumsI M G a d ∘ (60 * ·)) (xs := cs.map V.int) (sl_mono j1.g ha) ⟨[], G, _, _, _, j1, Same.refl G, by simp, Nat.le_refl _, rfl⟩ (fun i σ H _ ⟨ns, G1, _, _, _, j, e, _⟩ => sl_mono (e.trans j.g) ha) ?_ ?_
  · rintro i x σ H hi ⟨ns, G1, x0, y0, z0, j, e, hn, hz, rfl⟩
    dsimp only at ha hl
    obtain ⟨c, rfl⟩ : ∃ c, x = V.int c := by
      rw [List.getElem?_map] at hi
      cases h : cs[i]? with
      | none => rw [h] at hi; cases hi
      | some c => rw [h] at hi; exact ⟨c, (Option.some.inj hi).symm⟩
    have hi' : i < 63 := by
      have := (List.getElem?_eq_some_iff.mp hi).1
      rw [List.length_map] at this; omega
    dsimp only at hz
    walk_at "go"
    refine w_dec (fun h1 => ?_) (fun h1 => ?_)
    · walk_at "go"
      refine w_rng (fun t => NumsR M G a d (60 * i + t) c) ⟨ns, G1, c, _, j, e, hn, hz, rfl⟩ ?_ ?_
      · rintro t σ H ht ⟨ns, G1, r, z, j, e, hn, hz, rfl⟩
        have ht : t < 60 := ht
        walk_at "go"
        refine w_dec (fun h2 => ?_) (fun h2 => ?_)
        · walk_at "go"
          refine ⟨ty_listU j, ?_⟩
          walk_at "go"
          refine w_appendU j (by rw [List.length_map]; omega) fun H' j' => ?_
          walk_at "go"
          exact ⟨ns ++ [r % 1000000], G1, r / 1000000, _, by rw [← map_snoc]; exact j', e, nums_snoc hn (mod_b r), by rw [List.length_append, List.length_singleton]; omega, rfl⟩
        · walk_at "go"
          exact ⟨ns, G1, r, _, j, e, hn, by omega, rfl⟩
      · rintro σ H ⟨ns, G1, r, z, j, e, hn, hz, rfl⟩
        exact ⟨ns, G1, _, _, _, j, e, hn, hz, rfl⟩
    · walk_at "go"
      refine ⟨ty_listU j, ?_⟩
      walk_at "go"
      refine w_appendU j (by rw [List.length_map]; omega) fun H' j' => ?_
      rw [map_snoc] at j'
      walk_at "go"
      refine w_rng (fun t => NumsJ M G a d (60 * i + 1 + t) c) ⟨ns ++ [c % 1000000], G1, _, _, j', e, nums_snoc hn (mod_b c), by rw [List.length_append, List.length_singleton]; omega, rfl⟩ ?_ ?_
      · rintro t σ H ht ⟨ns, G1, y, z, j, e, hn, hz, rfl⟩
        have ht : t < 5 := ht
        walk_at "go"
        refine ⟨ty_listU j, ?_⟩
        walk_at "go"
        refine w_sg (_, _) j rfl fun v M' G' H' j2 e2 ⟨ev, em⟩ => ?_
        subst ev em
        walk_at "go"
        refine w_sg (_, _) j2 rfl fun v M' G' H' j3 e3 ⟨ev, em⟩ => ?_
        subst ev em
        walk_at "go"
        refine w_appendU j3 (by rw [List.length_map]; omega) fun H' j' => ?_
        rw [map_snoc] at j'
        exact ⟨_, _, _, _, j', (e.trans e2).trans e3, nums_snoc hn (mod_b _), by rw [List.length_append, List.length_singleton]; omega, rfl⟩
      · rintro σ H ⟨ns, G1, y, z, j, e, hn, hz, rfl⟩
        exact ⟨ns, G1, _, _, _, j, e, hn, by show ns.length ≤ 60 * (i + 1); have : ns.length ≤ 60 * i + 1 + 5 := hz; omega, rfl⟩
  · rintro σ H ⟨ns, G1, x, y, z, j, e, hn, hz, rfl⟩
    walk_at "go"
    exact k _ _ _ _ (j.freeze nM) (e.trans (Ex.new j.freezeG)) ⟨d, ns, rfl, upd_same, hn, rfl⟩
/-! ### _law_cells -/
abbrev s_law_cells : Stmt := top 27
abbrev n_law_cells : List Str := ["record", "cells", "part"]
theorem sc_law_cells : FnScope n_law_cells ["record"] (defScope s_law_cells) := ⟨rfl, rfl, rfl, by decide +kernel, rfl, by decide +kernel, by decide +kernel⟩
def spCl (K : PySem.W.Frag) (n : Nat) : Sp := Sg (α := V × Rc) (fun x vs _ G => vs = [x.1] ∧ RcAt K G x.1 x.2 ∧ pureM x.2 = true ∧ depthM x.2 ≤ n ∧ (cellsM x.2).length ≤ 100000)
  (fun x M _ v M' G' => M' = M ∧ ∃ p, v = .ref p ∧ G' p = some (.lst ((cellsM x.2).map V.int)))
def spClP (K : PySem.W.Frag) : Nat → Sp
  | 0 => spNone
  | n + 1 => spCl K n
def sp_law_cells (K : PySem.W.Frag) : Sp := spCl K 30
theorem pureL_at : ∀ {xs : List Rc} {i : Nat} {r : Rc}, xs[i]? = some r → pureL xs = true → pureM r = true
  | [], i, r, h, _ => by simp at h
  | x :: xs, 0, r, h, g => by
    have h := Option.some.inj h
    subst h
    rw [pureL, Bool.and_eq_true] at g; exact g.1
  | x :: xs, i + 1, r, h, g => by
    rw [pureL, Bool.and_eq_true] at g
    exact pureL_at (i := i) (by simpa using h) g.2
theorem depthL_at : ∀ {xs : List Rc} {i : Nat} {r : Rc}, xs[i]? = some r → depthM r ≤ depthL xs
  | [], i, r, h => by simp at h
  | x :: xs, 0, r, h => by
    have h := Option.some.inj h
    subst h
    rw [depthL]; omega
  | x :: xs, i + 1, r, h => by
    have := depthL_at (xs := xs) (i := i) (r := r) (by simpa using h)
    rw [depthL]; omega
theorem aux_cells {P : Program} {w : World} {K : PySem.W.Frag} {mg : Str → Option Value} {base : Heap}
    {f : Addr} {fd : FuncData} (D : Dn K mg "_law_cells" s_law_cells ["record"] f fd)
    (b_len : mg "len" = none)
    (b_isinstance : mg "isinstance" = none)
    (b_str : mg "str" = none)
    (b_int : mg "int" = none)
    (b_bool : mg "bool" = none)
    {a_WORDS : Addr} (g_WORDS : ∃ u, mg "WORDS" = some u ∧ RelV (.ref a_WORDS) u) (k_WORDS : ∀ H, SqT K H a_WORDS [V.str "decided", V.str "read", V.str "away", V.str "busy", V.str "rows", V.str "prepare", V.str "prepared", V.str "stale", V.str "decide", V.str "missing", V.str "drop", V.str "finish", V.str "split", V.str "none", V.str "unknown", V.str "next", V.str "time", V.str "counter", V.str "table", V.str "members", V.str "follower", V.str "candidate", V.str "leader", V.str "ask", V.str "vote", V.str "copy", V.str "base", V.str "got", V.str "make", V.str "term", V.str "entry"])
    (t_WORDS : ∃ o, K.lookup a_WORDS = some o ∧ o.cls = .type "tuple" ∧ o.dict = none)
    (n : Nat) (c_law_cells : Cal P w K mg base CX0 (n + 1) "_law_cells" (spClP K n)) : Cal P w K mg base CX0 (n + 2) "_law_cells" (spCl K n) := by
  refine D.ok sc_law_cells (fun vs H Q E h => ?_) fun cdv A outer s H vs Q E hr h => ?_
  · obtain ⟨x, M, G, j, ⟨rfl, _⟩, _⟩ := h; rfl
  obtain ⟨⟨v, r⟩, M, G, j, ⟨rfl, hv, hp, hd, hs⟩, k⟩ := h
  dsimp only at hv hp hd hs k
  refine ⟨_, (pss_cons (ps_if (pt_cmp (pc_isN (pv 0)))
(pss_one (ps_ret (pe_lst (pa_cons pe_int pa_nil))))
pss_nil)
(pss_cons (ps_if (pt_val (pe_callB (call_isiK' (K := K) rfl) (by rfl) b_isinstance bt_isinstance (pa_cons (pv 0) (pa_cons (pe_bltn (v := .ty "bool") (by rfl) b_bool bt_bool rfl) pa_nil))))
(pss_one (ps_ret (pe_lst (pa_cons (pe_op (op_uAddK (K := K) rfl) pe_int (pe_callTy call_int1 (by rfl) b_int bt_int (pa_cons (pv 0) pa_nil))) pa_nil))))
pss_nil)
(pss_cons (ps_if (pt_val (pe_callB (call_isiK' (K := K) rfl) (by rfl) b_isinstance bt_isinstance (pa_cons (pv 0) (pa_cons (pe_bltn (v := .ty "int") (by rfl) b_int bt_int rfl) pa_nil))))
(pss_one (ps_ret (pe_lst (pa_cons pe_int (pa_cons (pv 0) pa_nil)))))
pss_nil)
(pss_cons (ps_if (pt_val (pe_callB (call_isiK' (K := K) rfl) (by rfl) b_isinstance bt_isinstance (pa_cons (pv 0) (pa_cons (pe_bltn (v := .ty "str") (by rfl) b_str bt_str rfl) pa_nil))))
(pss_one (ps_ret (pe_lst (pa_cons pe_int (pa_cons (pe_bm PySem.F.plainAttrs_tuple PySem.F.slot_tuple_index PySem.F.type_tuple_index mt_tup_index (pe_gk (by rfl) g_WORDS) (pa_cons (pv 0) pa_nil)) pa_nil)))))
pss_nil)
(pss_cons (ps_set (i := 1) sc_law_cells.nd rfl (Or.inl rfl) (pe_lst (pa_cons pe_int (pa_cons (pe_callB (call_uLenK (K := K) rfl) (by rfl) b_len PySem.boot_len (pa_cons (pv 0) pa_nil)) pa_nil))))
(pss_cons (ps_for PassesOwn.never rfl (pi_tup (pv 0)) (pg_name (i := 2) sc_law_cells.nd rfl (Or.inl rfl))
(pss_one (ps_set (i := 1) sc_law_cells.nd rfl (Or.inl rfl) (pe_op (op_uAddK (K := K) rfl) (pv 1) (pe_cal c_law_cells hr (by first | decide | omega) (by rfl) (pa_cons (pv 2) pa_nil))))))
(pss_one (ps_ret (pv 1))))))))), ?_⟩
  walk_at "start"
  cases hv with
  | non =>
    refine w_dT rfl ?_
    walk_at "go"
    exact w_new j (by show 1 ≤ sizeLine; decide) fun t G2 H2 j2 e2 ht _ => k _ _ _ _ j2 e2 ⟨rfl, t, rfl, ht⟩
  | bl b =>
    refine w_dF (fun z => nomatch z) ?_
    walk_at "go"
    refine .inr ⟨b, rfl, ?_⟩
    walk_at "go"
    exact w_new j (by show 1 ≤ sizeLine; decide) fun t G2 H2 j2 e2 ht _ => k _ _ _ _ j2 e2 ⟨rfl, t, rfl, ht⟩
  | int i =>
    refine w_dF (fun z => nomatch z) ?_
    walk_at "go"
    exact w_new j (by show 2 ≤ sizeLine; decide) fun t G2 H2 j2 e2 ht _ => k _ _ _ _ j2 e2 ⟨rfl, t, rfl, ht⟩
  | str x =>
    refine w_dF (fun z => nomatch z) ?_
    walk_at "go"
    refine ⟨.inr (.inl ⟨rfl, t_WORDS⟩), ?_⟩
    walk_at "go"
    obtain ⟨h1, h2⟩ := idxW_at (of_decide_eq_true (show decide (x ∈ WD) = true from hp))
    refine ⟨_, WD, x, idx x, rfl, rfl, k_WORDS _, h1, h2, ?_⟩
    walk_at "go"
    exact w_new j (by show 2 ≤ sizeLine; decide) fun t G2 H2 j2 e2 ht _ => k _ _ _ _ j2 e2 ⟨rfl, t, rfl, ht⟩
  | lst h1 => cases hp
  | dic h1 => cases hp
  | @tup a xs rs h1 h2 =>
    refine w_dF (fun z => nomatch z) ?_
    walk_at "go"
    refine w_isi false (ty_T (st_mono j.g h1)) (by rfl) ?_
    walk_at "go"
    refine w_isi false (ty_T (st_mono j.g h1)) (by rfl) ?_
    walk_at "go"
    refine w_isi false (ty_T (st_mono j.g h1)) (by rfl) ?_
    walk_at "go"
    refine w_lenT j h1 ?_
    walk_at "go"
    refine w_new j (by show 2 ≤ sizeLine; decide) fun L G1 H1 j1 e1 hL _ => ?_
    walk_at "go"
    cases n with
    | zero => rw [depthM] at hd; omega
    | succ n =>
      have hs : 2 + (cellsL rs).length ≤ 100000 := by
        have e : (cellsM (.tup rs)).length = 2 + (cellsL rs).length := by rw [cellsM, List.length_cons, List.length_cons]; omega
        rw [← e]; exact hs
      rw [depthM] at hd
      rw [pureM] at hp
      have zl := h2.len
      refine w_forTV rfl (xs := xs) (fun i σ H => ∃ G1 c x4, J M G1 H ∧ Ex G G1 ∧ G1 c = some (.lst ((5 :: (rs.length : Int) :: cellsL (rs.take i)).map V.int)) ∧ σ = [some (.ref a), some (.ref c), x4]) (st_mono j1.g (st_mono e1 h1)) ?_ ?_ ?_ ?_
      · exact ⟨G1, L, _, j1, e1, by rw [List.take_zero, ← zl]; exact hL, rfl⟩
      · rintro i σ H _ ⟨G1, c, x4, j, e, hc, rfl⟩
        exact st_mono j.g (st_mono e h1)
      · rintro i x σ H hi ⟨G1, c, x4, j, e, hc, rfl⟩
        obtain ⟨r, hr1, hr2⟩ := h2.get hi
        obtain ⟨t1, t2⟩ := cells_get hr1
        walk_at "go"
        show spCl K n _ _ _ _
        refine w_sg (x, r) j ⟨rfl, hr2.ex e, pureL_at hr1 hp, by have := depthL_at hr1; dsimp only; omega, by dsimp only; omega⟩ fun v' M1 G2 H2 j2 e2 ⟨em, p, ev, hp2⟩ => ?_
        subst ev em
        refine w_catL (j2.g _ _ (e2 _ _ hc)) (j2.g _ _ hp2) (w_new j2 ?_ fun c2 G3 H3 j3 e3 hc2 _ => ?_)
        · rw [List.length_map, List.length_map, List.length_cons, List.length_cons]
          dsimp only
          exact sz_le (by omega)
        · refine ⟨G3, c2, _, j3, e.trans (e2.trans e3), ?_, rfl⟩
          rw [hc2, ← List.map_append, t1, cellsL_append]
          simp only [cellsL, List.append_nil, List.cons_append]
      · rintro σ H ⟨G1, c, x4, j, e, hc, rfl⟩
        rw [zl, List.take_length] at hc
        walk_at "go"
        exact k _ _ _ _ j e ⟨rfl, c, rfl, by rw [hc, cellsM]⟩
theorem ok_law_cells {P : Program} {w : World} {K : PySem.W.Frag} {mg : Str → Option Value} {base : Heap}
    {f : Addr} {fd : FuncData} (D : Dn K mg "_law_cells" s_law_cells ["record"] f fd)
    (b_len : mg "len" = none)
    (b_isinstance : mg "isinstance" = none)
    (b_str : mg "str" = none)
    (b_int : mg "int" = none)
    (b_bool : mg "bool" = none)
    {a_WORDS : Addr} (g_WORDS : ∃ u, mg "WORDS" = some u ∧ RelV (.ref a_WORDS) u) (k_WORDS : ∀ H, SqT K H a_WORDS [V.str "decided", V.str "read", V.str "away", V.str "busy", V.str "rows", V.str "prepare", V.str "prepared", V.str "stale", V.str "decide", V.str "missing", V.str "drop", V.str "finish", V.str "split", V.str "none", V.str "unknown", V.str "next", V.str "time", V.str "counter", V.str "table", V.str "members", V.str "follower", V.str "candidate", V.str "leader", V.str "ask", V.str "vote", V.str "copy", V.str "base", V.str "got", V.str "make", V.str "term", V.str "entry"])
    (t_WORDS : ∃ o, K.lookup a_WORDS = some o ∧ o.cls = .type "tuple" ∧ o.dict = none) : Cal P w K mg base CX0 32 "_law_cells" (sp_law_cells K) := by
  have all : ∀ n, Cal P w K mg base CX0 (n + 2) "_law_cells" (spCl K n) := fun n => by
    induction n with
    | zero => exact aux_cells D b_len b_isinstance b_str b_int b_bool g_WORDS k_WORDS t_WORDS 0 (D.cal ⟨fun _ _ _ _ h => h.elim, fun _ _ _ _ _ _ _ _ _ _ _ _ _ h => h.elim⟩)
    | succ n ih => exact aux_cells D b_len b_isinstance b_str b_int b_bool g_WORDS k_WORDS t_WORDS (n + 1) ih
  exact all 30
/-! ### _law_draw -/
abbrev s_law_draw : Stmt := top 23
abbrev n_law_draw : List Str := ["draws", "at", "first"]
theorem sc_law_draw : FnScope n_law_draw ["draws"] (defScope s_law_draw) := ⟨rfl, rfl, rfl, by decide +kernel, rfl, by decide +kernel, by decide +kernel⟩
/-- the law's draws: a list of the numbers and of the place -/
def Dr (K : PySem.W.Frag) (M G : Hp) (p : Addr) : Prop :=
  ∃ (q : Addr) (ns : List Int) (at_ : Int), M p = some (.lst [.ref q, .int at_]) ∧ SqL K G q (ns.map V.int) ∧ (∀ n ∈ ns, 0 ≤ n ∧ n < 1000000) ∧ 0 ≤ at_
theorem Dr.ex {K : PySem.W.Frag} {M G G' : Hp} {p : Addr} (d : Dr K M G p) (e : Ex G G') : Dr K M G' p := by
  obtain ⟨q, ns, at_, h1, h2, h3⟩ := d
  exact ⟨q, ns, at_, h1, sl_mono e h2, h3⟩
theorem Dr.upd {K : PySem.W.Frag} {M G : Hp} {p d : Addr} {o : HO} (h : Dr K M G p) (e : d ≠ p) : Dr K (upd M d o) G p := by
  obtain ⟨q, ns, at_, h1, h2, h3⟩ := h
  exact ⟨q, ns, at_, upd_ne' h1 e.symm, h2, h3⟩
theorem Dr.del {K : PySem.W.Frag} {M G : Hp} {p d : Addr} (h : Dr K M G p) (e : d ≠ p) : Dr K (del M d) G p := by
  obtain ⟨q, ns, at_, h1, h2, h3⟩ := h
  exact ⟨q, ns, at_, (del_ne e.symm).trans h1, h2, h3⟩
theorem Dr.ne {K : PySem.W.Frag} {M G : Hp} {p d : Addr} (h : Dr K M G p) (e : M d = none) : d ≠ p := by
  obtain ⟨q, ns, at_, h1, h2, h3⟩ := h
  exact (ne_of_none h1 e).symm
def sp_law_draw (K : PySem.W.Frag) : Sp := Sg (α := Addr) (fun p vs M G => vs = [.ref p] ∧ Dr K M G p)
  (fun p M _ v M' G' => ∃ n : Int, v = .int n ∧ 0 ≤ n ∧ n < 1000000 ∧ Dr K M' G' p ∧ Ag p M M')
theorem atI_map {ns : List Int} {i : Int} (h0 : 0 ≤ i) (h1 : i < ns.length) : ∃ n, n ∈ ns ∧ atI (ns.map V.int) i = some (.int n) := by
  obtain ⟨k, rfl⟩ : ∃ k : Nat, i = k := ⟨i.toNat, by omega⟩
  have hk : k < ns.length := by omega
  refine ⟨ns[k], List.getElem_mem hk, atI_nat ?_⟩
  rw [List.getElem?_map, List.getElem?_eq_getElem hk]; rfl
theorem use_draw {K : PySem.W.Frag} {M G H : Hp} {p : Addr} {Q : VK} {E : XK} (j : J M G H) (d : Dr K M G p)
    (k : ∀ (n : Int) (M' G' H' : Hp), 0 ≤ n → n < 1000000 → J M' G' H' → Ex G G' → Dr K M' G' p → Ag p M M' → Q (.int n) H') : sp_law_draw K ([.ref p] ++ []) H Q E :=
  w_sg p j ⟨rfl, d⟩ fun v M' G' H' j' e ⟨n, ev, h0, h1, d', ag⟩ => by subst ev; exact k n M' G' H' h0 h1 j' e d' ag
/-- what a def that draws promises: a value of which Pv holds -/
def Dg (K : PySem.W.Frag) (Pv : V → Hp → Prop) : Sp := Sg (α := Addr) (fun p vs M G => vs = [.ref p] ∧ Dr K M G p) (fun p M _ v M' G' => Pv v G' ∧ Dr K M' G' p ∧ Ag p M M')
theorem use_dg {K : PySem.W.Frag} {M G H : Hp} {p : Addr} {Q : VK} {E : XK} {Pv : V → Hp → Prop} (j : J M G H) (d : Dr K M G p)
    (k : ∀ (v : V) (M' G' H' : Hp), Pv v G' → J M' G' H' → Ex G G' → Dr K M' G' p → Ag p M M' → Q v H') : Dg K Pv ([.ref p] ++ []) H Q E :=
  w_sg p j ⟨rfl, d⟩ fun v M' G' H' j' e ⟨h, d', ag⟩ => k v M' G' H' h j' e d' ag
/-- .. with the law's keys -/
def KeysAt (K : PySem.W.Frag) (G : Hp) (t : Addr) (ks : List Int) : Prop := SqL K G t (ks.map V.int) ∧ (∀ k ∈ ks, 0 ≤ k ∧ k < 1000) ∧ 3 ≤ ks.length ∧ ks.length ≤ 15
theorem KeysAt.ex {K : PySem.W.Frag} {G G' : Hp} {t : Addr} {ks : List Int} (h : KeysAt K G t ks) (e : Ex G G') : KeysAt K G' t ks := ⟨sl_mono e h.1, h.2⟩
def Dk (K : PySem.W.Frag) (Pv : V → Hp → Prop) : Sp := Sg (α := Addr × Addr × List Int) (fun a vs M G => vs = [.ref a.1, .ref a.2.1] ∧ Dr K M G a.1 ∧ KeysAt K G a.2.1 a.2.2) (fun a M _ v M' G' => Pv v G' ∧ Dr K M' G' a.1 ∧ Ag a.1 M M')
theorem use_dk {K : PySem.W.Frag} {M G H : Hp} {p t : Addr} {ks : List Int} {Q : VK} {E : XK} {Pv : V → Hp → Prop} (j : J M G H) (d : Dr K M G p) (hk : KeysAt K G t ks)
    (k : ∀ (v : V) (M' G' H' : Hp), Pv v G' → J M' G' H' → Ex G G' → Dr K M' G' p → Ag p M M' → Q v H') : Dk K Pv ([.ref p, .ref t] ++ []) H Q E :=
  w_sg (p, t, ks) j ⟨rfl, d, hk⟩ fun v M' G' H' j' e ⟨h, d', ag⟩ => k v M' G' H' h j' e d' ag
theorem ok_law_draw {P : Program} {w : World} {K : PySem.W.Frag} {mg : Str → Option Value} {base : Heap}
    {f : Addr} {fd : FuncData} (D : Dn K mg "_law_draw" s_law_draw ["draws"] f fd)
    (b_len : mg "len" = none)
    (c_law_mixed : Cal P w K mg base CX0 1 "_law_mixed" (sp_law_mixed K)) : Cal P w K mg base CX0 2 "_law_draw" (sp_law_draw K) := by
  refine D.ok sc_law_draw (fun vs H Q E h => ?_) fun cdv A outer s H vs Q E hr h => ?_
  · obtain ⟨p, M, G, j, ⟨rfl, _⟩, _⟩ := h; rfl
  obtain ⟨p, M, G, j, ⟨rfl, q, ns, at_, hp, hq, hn, h0⟩, k⟩ := h
  refine ⟨_, (pss_cons (ps_set (i := 1) sc_law_draw.nd rfl (Or.inl rfl) (pe_ix (ix_uK (K := K) rfl) (pv 0) pe_int (fun _ _ => rfl)))
(pss_cons (ps_asg (pe_op (op_uAddK (K := K) rfl) (pv 1) pe_int) (pg_sub (pv 0) pe_int set_list))
(pss_cons (ps_if (pt_cmpR op_lt (pv 1) (pe_callB (call_uLenK (K := K) rfl) (by rfl) b_len PySem.boot_len (pa_cons (pe_ix (ix_uK (K := K) rfl) (pv 0) pe_int (fun _ _ => rfl)) pa_nil)) (nomark _))
(pss_one (ps_ret (pe_ix (ix_uK (K := K) rfl) (pe_ix (ix_uK (K := K) rfl) (pv 0) pe_int (fun _ _ => rfl)) (pv 1) (fun _ _ => rfl))))
pss_nil)
(pss_cons (ps_set (i := 2) sc_law_draw.nd rfl (Or.inl rfl) (pe_op (op_uAddK (K := K) rfl) pe_int (pv 1)))
(pss_cons (ps_if (pt_cmpR op_gt (pe_callB (call_uLenK (K := K) rfl) (by rfl) b_len PySem.boot_len (pa_cons (pe_ix (ix_uK (K := K) rfl) (pv 0) pe_int (fun _ _ => rfl)) pa_nil)) pe_int (nomark _))
(pss_one (ps_set (i := 2) sc_law_draw.nd rfl (Or.inl rfl) (pe_op (op_uAddK (K := K) rfl) (pv 2) (pe_op op_uMul pe_int (pe_ix (ix_uK (K := K) rfl) (pe_ix (ix_uK (K := K) rfl) (pv 0) pe_int (fun _ _ => rfl)) pe_int (fun _ _ => rfl))))))
pss_nil)
(pss_one (ps_ret (pe_op op_mod (pe_cal c_law_mixed hr (by first | decide | omega) (by rfl) (pa_cons (pe_cal c_law_mixed hr (by first | decide | omega) (by rfl) (pa_cons (pv 2) (pa_cons (pv 1) pa_nil))) (pa_cons pe_int pa_nil))) pe_int)))))))), ?_⟩
  walk_at "start"
  refine w_ixM j hp (by rfl) ?_
  walk_at "go"
  refine w_setM j hp (by rfl) fun H1 j1 => ?_
  walk_at "go"
  refine w_ixM j1 upd_same (by rfl) ?_
  walk_at "go"
  refine w_lenL j1 hq ?_
  walk_at "go"
  have dr : Dr K (upd M p (.lst [.ref q, .int (at_ + 1)])) G p := ⟨q, ns, _, upd_same, hq, hn, by omega⟩
  refine w_dec (fun hlt => ?_) (fun hlt => ?_)
  · walk_at "go"
    refine w_ixM j1 upd_same (by rfl) ?_
    walk_at "go"
    rw [List.length_map] at hlt
    obtain ⟨n, hm, e⟩ := atI_map h0 hlt
    refine w_ixL j1 hq e ?_
    exact k _ _ _ _ j1 (Same.refl G) ⟨n, rfl, (hn n hm).1, (hn n hm).2, dr, Ag.upd⟩
  · walk_at "go"
    refine w_ixM j1 upd_same (by rfl) ?_
    walk_at "go"
    refine w_lenL j1 hq ?_
    walk_at "go"
    refine w_dec (fun hl => ?_) (fun hl => ?_)
    · walk_at "go"
      refine w_ixM j1 upd_same (by rfl) ?_
      walk_at "go"
      rw [List.length_map] at hl
      obtain ⟨n, hm, e⟩ := atI_map (ns := ns) (i := 0) (by omega) hl
      refine w_ixL j1 hq e ?_
      walk_at "go"
      refine w_sg (_, _) j1 rfl fun v M' G' H' j2 e2 ⟨ev, em⟩ => ?_
      subst ev em
      walk_at "go"
      refine w_sg (_, _) j2 rfl fun v M' G' H' j3 e3 ⟨ev, em⟩ => ?_
      subst ev em
      walk_at "go"
      exact k _ _ _ _ j3 (e2.trans e3) ⟨_, rfl, Int.emod_nonneg _ (by decide), Int.emod_lt_of_pos _ (by decide), dr.ex (e2.trans e3), Ag.upd⟩
    · walk_at "go"
      refine w_sg (_, _) j1 rfl fun v M' G' H' j2 e2 ⟨ev, em⟩ => ?_
      subst ev em
      walk_at "go"
      refine w_sg (_, _) j2 rfl fun v M' G' H' j3 e3 ⟨ev, em⟩ => ?_
      subst ev em
      walk_at "go"
      exact k _ _ _ _ j3 (e2.trans e3) ⟨_, rfl, Int.emod_nonneg _ (by decide), Int.emod_lt_of_pos _ (by decide), dr.ex (e2.trans e3), Ag.upd⟩
/-! ### _law_words -/
abbrev s_law_words : Stmt := top 26
abbrev n_law_words : List Str := ["first", "second", "third"]
theorem sc_law_words : FnScope n_law_words [] (defScope s_law_words) := ⟨rfl, rfl, rfl, by decide +kernel, rfl, by decide +kernel, by decide +kernel⟩
def LW : List Str := ["read", "away", "busy", "rows", "prepare", "prepared", "stale", "decide", "decided", "missing", "drop", "finish", "split", "none", "unknown", "next", "time", "counter", "table", "members", "follower", "candidate", "leader", "ask", "vote", "copy", "base", "got", "make", "term", "entry"]
theorem LW_in : ∀ s ∈ LW, s ∈ WD := by decide +kernel
def sp_law_words (K : PySem.W.Frag) : Sp := Sg (α := Unit) (fun _ vs _ _ => vs = []) (fun _ M _ v M' G' => M' = M ∧ ∃ t, v = .ref t ∧ G' t = some (.lst (LW.map V.str)))
theorem ok_law_words {P : Program} {w : World} {K : PySem.W.Frag} {mg : Str → Option Value} {base : Heap}
    {f : Addr} {fd : FuncData} (D : Dn K mg "_law_words" s_law_words [] f fd) : Cal P w K mg base CX0 1 "_law_words" (sp_law_words K) := by
  refine D.ok sc_law_words (fun vs H Q E h => ?_) fun cdv A outer s H vs Q E hr h => ?_
  · obtain ⟨x, M, G, j, rfl, _⟩ := h; rfl
  obtain ⟨_, M, G, j, rfl, k⟩ := h
  refine ⟨_, (pss_cons (ps_set (i := 0) sc_law_words.nd rfl (Or.inl rfl) (pe_lst (pa_cons pe_str (pa_cons pe_str (pa_cons pe_str (pa_cons pe_str (pa_cons pe_str (pa_cons pe_str (pa_cons pe_str (pa_cons pe_str (pa_cons pe_str (pa_cons pe_str (pa_cons pe_str pa_nil)))))))))))))
(pss_cons (ps_set (i := 1) sc_law_words.nd rfl (Or.inl rfl) (pe_lst (pa_cons pe_str (pa_cons pe_str (pa_cons pe_str (pa_cons pe_str (pa_cons pe_str (pa_cons pe_str (pa_cons pe_str (pa_cons pe_str (pa_cons pe_str (pa_cons pe_str pa_nil))))))))))))
(pss_cons (ps_set (i := 2) sc_law_words.nd rfl (Or.inl rfl) (pe_lst (pa_cons pe_str (pa_cons pe_str (pa_cons pe_str (pa_cons pe_str (pa_cons pe_str (pa_cons pe_str (pa_cons pe_str (pa_cons pe_str (pa_cons pe_str (pa_cons pe_str pa_nil))))))))))))
(pss_one (ps_ret (pe_op (op_uAddK (K := K) rfl) (pe_op (op_uAddK (K := K) rfl) (pv 0) (pv 1)) (pv 2))))))), ?_⟩
  walk_at "start"
  refine w_new j (by show 11 ≤ sizeLine; decide) fun a G1 H1 j1 e1 ha _ => ?_
  walk_at "go"
  refine w_new j1 (by show 10 ≤ sizeLine; decide) fun b G2 H2 j2 e2 hb _ => ?_
  walk_at "go"
  refine w_new j2 (by show 10 ≤ sizeLine; decide) fun c G3 H3 j3 e3 hc _ => ?_
  walk_at "go"
  refine w_catL (j3.g _ _ (e3 _ _ (e2 _ _ ha))) (j3.g _ _ (e3 _ _ hb)) (w_new j3 (by show 21 ≤ sizeLine; decide) fun d G4 H4 j4 e4 hd _ => ?_)
  walk_at "go"
  refine w_catL (j4.g _ _ hd) (j4.g _ _ (e4 _ _ hc)) (w_new j4 (by show 31 ≤ sizeLine; decide) fun e G5 H5 j5 e5 he _ => ?_)
  exact k _ _ _ _ j5 ((e1.trans e2).trans ((e3.trans e4).trans e5)) ⟨rfl, e, rfl, he⟩
/-! ### _law_leaf -/
abbrev s_law_leaf : Stmt := top 28
abbrev n_law_leaf : List Str := ["draws", "pick", "words", "number"]
theorem sc_law_leaf : FnScope n_law_leaf ["draws"] (defScope s_law_leaf) := ⟨rfl, rfl, rfl, by decide +kernel, rfl, by decide +kernel, by decide +kernel⟩
def szB : Nat → Nat
  | 0 => 2
  | d + 1 => 2 + 4 * szB d
/-- a record of a depth, with all that the law draws -/
def RecD (K : PySem.W.Frag) (d : Nat) (v : V) (G : Hp) : Prop := ∃ r, RcAt K G v r ∧ pureM r = true ∧ depthM r ≤ d ∧ (cellsM r).length ≤ szB d
def sp_law_leaf (K : PySem.W.Frag) : Sp := Dg K (RecD K 0)
theorem ok_law_leaf {P : Program} {w : World} {K : PySem.W.Frag} {mg : Str → Option Value} {base : Heap}
    {f : Addr} {fd : FuncData} (D : Dn K mg "_law_leaf" s_law_leaf ["draws"] f fd)
    (b_len : mg "len" = none)
    (c_law_draw : Cal P w K mg base CX0 2 "_law_draw" (sp_law_draw K))
    (c_law_words : Cal P w K mg base CX0 1 "_law_words" (sp_law_words K)) : Cal P w K mg base CX0 3 "_law_leaf" (sp_law_leaf K) := by
  refine D.ok sc_law_leaf (fun vs H Q E h => ?_) fun cdv A outer s H vs Q E hr h => ?_
  · obtain ⟨p, M, G, j, ⟨rfl, _⟩, _⟩ := h; rfl
  obtain ⟨p, M, G, j, ⟨rfl, d⟩, k⟩ := h
  refine ⟨_, (pss_cons (ps_set (i := 1) sc_law_leaf.nd rfl (Or.inl rfl) (pe_op op_mod (pe_cal c_law_draw hr (by first | decide | omega) (by rfl) (pa_cons (pv 0) pa_nil)) pe_int))
(pss_cons (ps_if (pt_cmpR op_lt (pv 1) pe_int (nomark _))
(pss_one (ps_ret (pe_ix (ix_uK (K := K) rfl) (pe_lst (pa_cons pe_non (pa_cons pe_bl (pa_cons pe_bl pa_nil)))) (pv 1) (fun _ _ => rfl))))
pss_nil)
(pss_cons (ps_if (pt_cmpR op_lt (pv 1) pe_int (nomark _))
(pss_cons (ps_set (i := 2) sc_law_leaf.nd rfl (Or.inl rfl) (pe_cal0 c_law_words hr (by first | decide | omega) (by rfl)))
(pss_one (ps_ret (pe_ix (ix_uK (K := K) rfl) (pv 2) (pe_op op_mod (pe_cal c_law_draw hr (by first | decide | omega) (by rfl) (pa_cons (pv 0) pa_nil)) (pe_callB (call_uLenK (K := K) rfl) (by rfl) b_len PySem.boot_len (pa_cons (pv 2) pa_nil))) (fun _ _ => rfl)))))
pss_nil)
(pss_cons (ps_set (i := 3) sc_law_leaf.nd rfl (Or.inl rfl) (pe_cal c_law_draw hr (by first | decide | omega) (by rfl) (pa_cons (pv 0) pa_nil)))
(pss_cons (ps_if (pt_cmpR (op_uEqK (K := K) rfl hr) (pv 1) pe_int (nomark _))
(pss_one (ps_ret (pe_op op_sub (pv 3) pe_int)))
pss_nil)
(pss_cons (ps_if (pt_cmpR (op_uEqK (K := K) rfl hr) (pv 1) pe_int (nomark _))
(pss_one (ps_ret (pe_op op_uMul (pe_op op_sub (pv 3) pe_int) (pe_op op_pow pe_int pe_int))))
pss_nil)
(pss_one (ps_ret (pe_op op_mod (pv 3) pe_int))))))))), ?_⟩
  walk_at "start"
  refine use_draw j d fun n M1 G1 H1 n0 n1 j1 e1 d1 a1 => ?_
  walk_at "go"
  have hp : 0 ≤ n % 8 ∧ n % 8 < 8 := ⟨Int.emod_nonneg _ (by decide), Int.emod_lt_of_pos _ (by decide)⟩
  generalize n % 8 = pick at hp ⊢
  have fin : ∀ (M' G' H' : Hp) (v : V) (r : Rc), J M' G' H' → Ex G1 G' → Dr K M' G' p → Ag p M1 M' → RcAt K G' v r → pureM r = true → depthM r = 0 → (cellsM r).length ≤ 2 → Q v H' := fun M' G' H' v r j e d a h1 h2 h3 h4 => k _ _ _ _ j (e1.trans e) ⟨⟨r, h1, h2, Nat.le_of_eq h3, h4⟩, d, a1.trans a⟩
  refine w_dec (fun h => ?_) (fun h => ?_)
  · walk_at "go"
    refine w_new j1 (by show 3 ≤ sizeLine; decide) fun L G2 H2 j2 e2 hL _ => ?_
    walk_at "go"
    have : pick = 0 ∨ pick = 1 ∨ pick = 2 := by omega
    rcases this with rfl | rfl | rfl
    · exact w_ixL j2 (sl_of hL) (by rfl) (fin _ _ _ _ .non j2 e2 (d1.ex e2) (Ag.refl _ _) .non rfl rfl (by decide))
    · exact w_ixL j2 (sl_of hL) (by rfl) (fin _ _ _ _ (.bl false) j2 e2 (d1.ex e2) (Ag.refl _ _) (.bl _) rfl rfl (by decide))
    · exact w_ixL j2 (sl_of hL) (by rfl) (fin _ _ _ _ (.bl true) j2 e2 (d1.ex e2) (Ag.refl _ _) (.bl _) rfl rfl (by decide))
  · walk_at "go"
    refine w_dec (fun h2 => ?_) (fun h2 => ?_)
    · walk_at "go"
      refine w_sg () j1 rfl fun v M2 G2 H2 j2 e2 ⟨em, t, ev, ht⟩ => ?_
      subst ev em
      walk_at "go"
      refine use_draw j2 (d1.ex e2) fun m M3 G3 H3 _ _ j3 e3 d3 a3 => ?_
      walk_at "go"
      refine w_lenL j3 (sl_of (e3 _ _ ht)) ?_
      walk_at "go"
      rw [List.length_map]
      walk_at "go"
      have hl : LW.length = 31 := rfl
      have m1 : 0 ≤ m % (31 : Int) := Int.emod_nonneg _ (by decide)
      have m2 : m % (31 : Int) < 31 := Int.emod_lt_of_pos _ (by decide)
      obtain ⟨q, hq⟩ : ∃ q : Nat, m % (LW.length : Int) = q ∧ q < LW.length := ⟨(m % (31 : Int)).toNat, by rw [hl]; omega, by rw [hl]; omega⟩
      refine w_ixL j3 (sl_of (e3 _ _ ht)) (v := .str LW[q]) (by rw [hq.1]; exact atI_nat (by rw [List.getElem?_map, List.getElem?_eq_getElem hq.2]; rfl)) ?_
      exact fin _ _ _ _ (.str LW[q]) j3 (e2.trans e3) d3 a3 (.str _) (decide_eq_true (LW_in _ (List.getElem_mem hq.2))) rfl (Nat.le_refl _)
    · walk_at "go"
      refine use_draw j1 d1 fun m M3 G3 H3 _ _ j3 e3 d3 a3 => ?_
      walk_at "go"
      have fi : ∀ i, Q (.int i) H3 := fun i => fin _ _ _ _ (.int i) j3 e3 d3 a3 (.int i) rfl rfl (Nat.le_refl _)
      refine w_dec (fun h3 => ?_) (fun h3 => ?_)
      · walk_at "go"
        exact fi _
      · walk_at "go"
        refine w_dec (fun h4 => ?_) (fun h4 => ?_)
        · walk_at "go"
          exact fi _
        · walk_at "go"
          exact fi _
/-! ### _law_record -/
abbrev s_law_record : Stmt := top 29
abbrev n_law_record : List Str := ["draws", "depth", "pick", "k"]
theorem sc_law_record : FnScope n_law_record ["draws", "depth"] (defScope s_law_record) := ⟨rfl, rfl, rfl, by decide +kernel, rfl, by decide +kernel, by decide +kernel⟩
def spRecd (K : PySem.W.Frag) (n : Nat) : Sp := Sg (α := Addr) (fun p vs M G => vs = [.ref p, .int n] ∧ Dr K M G p) (fun p M _ v M' G' => RecD K n v G' ∧ Dr K M' G' p ∧ Ag p M M')
def spRecdP (K : PySem.W.Frag) : Nat → Sp
  | 0 => spNone
  | n + 1 => spRecd K n
def sp_law_record (K : PySem.W.Frag) : Sp := spRecd K 4
theorem szB_le : ∀ d, szB 0 ≤ szB d
  | 0 => Nat.le_refl _
  | d + 1 => by have := szB_le d; show _ ≤ 2 + 4 * szB d; omega
theorem RecD.up {K : PySem.W.Frag} {d : Nat} {v : V} {G : Hp} (h : RecD K 0 v G) : RecD K d v G := by
  obtain ⟨r, h1, h2, h3, h4⟩ := h
  exact ⟨r, h1, h2, by omega, Nat.le_trans h4 (szB_le d)⟩
theorem aux_record {P : Program} {w : World} {K : PySem.W.Frag} {mg : Str → Option Value} {base : Heap}
    {f : Addr} {fd : FuncData} (D : Dn K mg "_law_record" s_law_record ["draws", "depth"] f fd)
    (b_tuple : mg "tuple" = none)
    (b_range : mg "range" = none)
    (c_law_leaf : Cal P w K mg base CX0 3 "_law_leaf" (sp_law_leaf K))
    (c_law_draw : Cal P w K mg base CX0 2 "_law_draw" (sp_law_draw K))
    (n : Nat) (c_law_record : Cal P w K mg base CX0 (n + 3) "_law_record" (spRecdP K n)) : Cal P w K mg base CX0 (n + 4) "_law_record" (spRecd K n) := by
  refine D.ok sc_law_record (fun vs H Q E h => ?_) fun cdv A outer s H vs Q E hr h => ?_
  · obtain ⟨p, M, G, j, ⟨rfl, _⟩, _⟩ := h; rfl
  obtain ⟨p, M, G, j, ⟨rfl, d⟩, k⟩ := h
  refine ⟨_, (pss_cons (ps_set (i := 2) sc_law_record.nd rfl (Or.inl rfl) (pe_op op_mod (pe_cal c_law_draw hr (by first | decide | omega) (by rfl) (pa_cons (pv 0) pa_nil)) pe_int))
(pss_cons (ps_if (PW.pt (pw_or (pt_cmpR (op_uEqK (K := K) rfl hr) (pv 1) pe_int (nomark _)) (pw_or1 (pt_cmpR op_lt (pv 2) pe_int (nomark _)))))
(pss_one (ps_ret (pe_cal c_law_leaf hr (by first | decide | omega) (by rfl) (pa_cons (pv 0) pa_nil))))
pss_nil)
(pss_one (ps_ret (pe_callTy (call_tupC (K := K) rfl) (by rfl) b_tuple bt_tuple (pa_cons (pe_lc (own := [("k", 3)]) (by rfl) sc_law_record.nd (pi_range1 (by rfl) b_range (pa_cons (pe_op op_sub (pv 2) pe_int) pa_nil)) (blkOk_by (own := [("k", 3)]) (N := n_law_record) (sc := defScope s_law_record) (by decide +kernel)) (fun _ _ _ _ _ => pg_name (i := 3) sc_law_record.nd rfl (Or.inl rfl)) (fun _ _ _ _ _ => pts_nil) (fun _ _ _ _ _ => (pe_cal c_law_record hr (by first | decide | omega) (by rfl) (pa_cons (pv 0) (pa_cons (pe_op op_sub (pv 1) pe_int) pa_nil))))) pa_nil)))))), ?_⟩
  walk_at "start"
  refine use_draw j d fun m M1 G1 H1 _ _ j1 e1 d1 a1 => ?_
  walk_at "go"
  have hp : 0 ≤ m % 8 ∧ m % 8 < 8 := ⟨Int.emod_nonneg _ (by decide), Int.emod_lt_of_pos _ (by decide)⟩
  generalize m % 8 = pick at hp ⊢
  have leaf : sp_law_leaf K ([.ref p] ++ []) H1 Q E0 := use_dg j1 d1 fun v M2 G2 H2 h j2 e2 d2 a2 => k _ _ _ _ j2 (e1.trans e2) ⟨h.up, d2, a1.trans a2⟩
  cases n with
  | zero =>
    refine w_dT rfl ?_
    refine w_T ?_
    walk_at "go"
    exact leaf
  | succ n =>
    refine w_dF (by omega) ?_
    walk_at "go"
    refine w_dec (fun h => ?_) (fun h => ?_)
    · walk_at "go"
      exact leaf
    · walk_at "go"
      refine w_lcr j1 (fun L i acc M2 G2 => M1 L = none ∧ L ≠ p ∧ Ex G1 G2 ∧ Dr K M2 G2 p ∧ Ag2 p L M1 M2 ∧ ∃ rs, RcsAt K G2 acc rs ∧ rs.length = i ∧ pureL rs = true ∧ depthL rs ≤ n ∧ (cellsL rs).length ≤ i * szB n) ?_ (fun _ => rfl) ?_ ?_ (by omega) (by omega)
      · intro L h1 h2
        exact ⟨h1, d1.ne h1, Same.refl _, d1.upd (d1.ne h1), (Ag2.refl p L M1).upd, [], .nil, rfl, rfl, Nat.zero_le _, Nat.zero_le _⟩
      · rintro L i acc M2 G2 H2 R hi j2 hL ⟨nL, nLp, e2, d2, a2, rs, hrs, hl, h1, h2, h3⟩ hR
        walk_at "go"
        show spRecd K n _ _ _ _
        refine w_sg p j2 ⟨by show [V.ref p, V.int (((n + 1 : Nat) : Int) - 1)] ++ [] = [V.ref p, .int n]; rw [show ((n + 1 : Nat) : Int) - 1 = n by omega]; rfl, d2⟩ fun v M3 G3 H3 j3 e3 ⟨⟨r, g1, g2, g3, g4⟩, d3, a3⟩ => ?_
        refine hR _ _ ⟨M3, G3, j3, (a3 _ nLp).trans hL, sz_lt (by rw [hrs.len]; omega), nL, nLp, e2.trans e3, d3.upd nLp, (a2.ag a3).upd, rs ++ [r], (hrs.ex e3).snoc g1, by rw [List.length_append, hl]; rfl, ?_, ?_, ?_⟩
        · rw [pureL_append, h1, pureL, g2]; rfl
        · rw [depthL_append, depthL, depthL]; omega
        · rw [cellsL_append, List.length_append, cellsL, cellsL, List.append_nil, Nat.succ_mul]; omega
      · rintro L acc M2 G2 H2 j2 hL ⟨nL, nLp, e2, d2, a2, rs, hrs, hl, h1, h2, h3⟩
        walk_at "go"
        refine w_tupC (xs := acc) (.inl (.inl (j2.m _ _ hL))) (w_new j2 (Nat.zero_le _) fun T G3 H3 j3 e3 hT _ => ?_)
        refine k _ _ _ _ (j3.drop L) (e1.trans (e2.trans e3)) ⟨⟨.tup rs, .tup (st_of hT) (hrs.ex e3), by rw [pureM]; exact h1, by rw [depthM]; omega, ?_⟩, (d2.del nLp).ex e3, a1.trans (a2.del nL)⟩
        rw [cellsM, List.length_cons, List.length_cons]
        have h4 : (pick - 3).toNat ≤ 4 := by omega
        have h5 : (pick - 3).toNat * szB n ≤ 4 * szB n := Nat.mul_le_mul_right _ h4
        show _ ≤ 2 + 4 * szB n
        omega
theorem ok_law_record {P : Program} {w : World} {K : PySem.W.Frag} {mg : Str → Option Value} {base : Heap}
    {f : Addr} {fd : FuncData} (D : Dn K mg "_law_record" s_law_record ["draws", "depth"] f fd)
    (b_tuple : mg "tuple" = none)
    (b_range : mg "range" = none)
    (c_law_leaf : Cal P w K mg base CX0 3 "_law_leaf" (sp_law_leaf K))
    (c_law_draw : Cal P w K mg base CX0 2 "_law_draw" (sp_law_draw K)) : Cal P w K mg base CX0 8 "_law_record" (sp_law_record K) := by
  have all : ∀ n, Cal P w K mg base CX0 (n + 4) "_law_record" (spRecd K n) := fun n => by
    induction n with
    | zero => exact aux_record D b_tuple b_range c_law_leaf c_law_draw 0 (D.cal ⟨fun _ _ _ _ h => h.elim, fun _ _ _ _ _ _ _ _ _ _ _ _ _ h => h.elim⟩)
    | succ n ih => exact aux_record D b_tuple b_range c_law_leaf c_law_draw (n + 1) ih
  exact all 4
/-! ### _law_spoilt -/
abbrev s_law_spoilt : Stmt := top 33
abbrev n_law_spoilt : List Str := ["draws", "cells", "pick", "at", "number", "strange"]
theorem sc_law_spoilt : FnScope n_law_spoilt ["draws", "cells"] (defScope s_law_spoilt) := ⟨rfl, rfl, rfl, by decide +kernel, rfl, by decide +kernel, by decide +kernel⟩
def sp_law_spoilt (K : PySem.W.Frag) : Sp := Sg (α := Addr × Addr × List V) (fun x vs M G => vs = [.ref x.1, .ref x.2.1] ∧ Dr K M G x.1 ∧ CellsAt K G x.2.1 x.2.2 ∧ 0 < x.2.2.length ∧ x.2.2.length ≤ 10000)
  (fun x M _ v M' G' => (∃ t xs, v = .ref t ∧ CellsAt K G' t xs ∧ xs.length ≤ 30000) ∧ Dr K M' G' x.1 ∧ Ag x.1 M M')
theorem ok_law_spoilt {P : Program} {w : World} {K : PySem.W.Frag} {mg : Str → Option Value} {base : Heap}
    {f : Addr} {fd : FuncData} (D : Dn K mg "_law_spoilt" s_law_spoilt ["draws", "cells"] f fd)
    (b_len : mg "len" = none)
    {a_WORDS : Addr} (g_WORDS : ∃ u, mg "WORDS" = some u ∧ RelV (.ref a_WORDS) u) (k_WORDS : ∀ H, SqT K H a_WORDS [V.str "decided", V.str "read", V.str "away", V.str "busy", V.str "rows", V.str "prepare", V.str "prepared", V.str "stale", V.str "decide", V.str "missing", V.str "drop", V.str "finish", V.str "split", V.str "none", V.str "unknown", V.str "next", V.str "time", V.str "counter", V.str "table", V.str "members", V.str "follower", V.str "candidate", V.str "leader", V.str "ask", V.str "vote", V.str "copy", V.str "base", V.str "got", V.str "make", V.str "term", V.str "entry"])
    (c_law_draw : Cal P w K mg base CX0 2 "_law_draw" (sp_law_draw K)) : Cal P w K mg base CX0 3 "_law_spoilt" (sp_law_spoilt K) := by
  refine D.ok sc_law_spoilt (fun vs H Q E h => ?_) fun cdv A outer s H vs Q E hr h => ?_
  · obtain ⟨x, M, G, j, ⟨rfl, _⟩, _⟩ := h; rfl
  obtain ⟨⟨p, a, xs⟩, M, G, j, ⟨rfl, d, ⟨ha, hc⟩, h0, hz⟩, k⟩ := h
  dsimp only at d ha hc h0 hz k
  refine ⟨_, (pss_cons (ps_set (i := 2) sc_law_spoilt.nd rfl (Or.inl rfl) (pe_op op_mod (pe_cal c_law_draw hr (by first | decide | omega) (by rfl) (pa_cons (pv 0) pa_nil)) pe_int))
(pss_cons (ps_set (i := 3) sc_law_spoilt.nd rfl (Or.inl rfl) (pe_op op_mod (pe_cal c_law_draw hr (by first | decide | omega) (by rfl) (pa_cons (pv 0) pa_nil)) (pe_callB (call_uLenK (K := K) rfl) (by rfl) b_len PySem.boot_len (pa_cons (pv 1) pa_nil))))
(pss_cons (ps_set (i := 4) sc_law_spoilt.nd rfl (Or.inl rfl) (pe_op op_sub (pe_op op_mod (pe_cal c_law_draw hr (by first | decide | omega) (by rfl) (pa_cons (pv 0) pa_nil)) pe_int) pe_int))
(pss_cons (ps_if (pt_cmpR (op_uEqK (K := K) rfl hr) (pv 4) pe_int (nomark _))
(pss_one (ps_set (i := 4) sc_law_spoilt.nd rfl (Or.inl rfl) (pe_op op_sub (pe_callB (call_uLenK (K := K) rfl) (by rfl) b_len PySem.boot_len (pa_cons (pe_gk (by rfl) g_WORDS) pa_nil)) pe_int)))
pss_nil)
(pss_cons (ps_if (pt_cmpR (op_uEqK (K := K) rfl hr) (pv 4) pe_int (nomark _))
(pss_one (ps_set (i := 4) sc_law_spoilt.nd rfl (Or.inl rfl) (pe_callB (call_uLenK (K := K) rfl) (by rfl) b_len PySem.boot_len (pa_cons (pe_gk (by rfl) g_WORDS) pa_nil))))
pss_nil)
(pss_cons (ps_if (PW.pt (pw_or (pt_cmpR (op_uEqK (K := K) rfl hr) (pv 2) pe_int (nomark _)) (pw_or1 (pt_cmpR (op_uEqK (K := K) rfl hr) (pv 2) pe_int (nomark _)))))
(pss_one (ps_ret (pe_op (op_uAddK (K := K) rfl) (pe_op (op_uAddK (K := K) rfl) (pe_slice (sl_uK (K := K) rfl) (pv 1) po_none (po_some (pv 3))) (pe_lst (pa_cons (pv 4) pa_nil))) (pe_slice (sl_uK (K := K) rfl) (pv 1) (po_some (pe_op (op_uAddK (K := K) rfl) (pv 3) pe_int)) po_none))))
pss_nil)
(pss_cons (ps_if (pt_cmpR (op_uEqK (K := K) rfl hr) (pv 2) pe_int (nomark _))
(pss_one (ps_ret (pe_op (op_uAddK (K := K) rfl) (pe_slice (sl_uK (K := K) rfl) (pv 1) po_none (po_some (pv 3))) (pe_slice (sl_uK (K := K) rfl) (pv 1) (po_some (pe_op (op_uAddK (K := K) rfl) (pv 3) pe_int)) po_none))))
pss_nil)
(pss_cons (ps_if (pt_cmpR (op_uEqK (K := K) rfl hr) (pv 2) pe_int (nomark _))
(pss_one (ps_ret (pe_op (op_uAddK (K := K) rfl) (pe_op (op_uAddK (K := K) rfl) (pe_slice (sl_uK (K := K) rfl) (pv 1) po_none (po_some (pv 3))) (pe_lst (pa_cons (pv 4) pa_nil))) (pe_slice (sl_uK (K := K) rfl) (pv 1) (po_some (pv 3)) po_none))))
pss_nil)
(pss_cons (ps_if (pt_cmpR (op_uEqK (K := K) rfl hr) (pv 2) pe_int (nomark _))
(pss_one (ps_ret (pe_slice (sl_uK (K := K) rfl) (pv 1) po_none (po_some (pv 3)))))
pss_nil)
(pss_cons (ps_if (pt_cmpR (op_uEqK (K := K) rfl hr) (pv 2) pe_int (nomark _))
(pss_one (ps_ret (pe_op (op_uAddK (K := K) rfl) (pv 1) (pe_slice (sl_uK (K := K) rfl) (pv 1) (po_some (pv 3)) po_none))))
pss_nil)
(pss_cons (ps_set (i := 5) sc_law_spoilt.nd rfl (Or.inl rfl) (pe_ix (ix_uK (K := K) rfl) (pe_lst (pa_cons pe_bl (pa_cons pe_bl (pa_cons pe_non (pa_cons pe_str (pa_cons (pe_tup (pa_cons pe_int pa_nil)) pa_nil)))))) (pe_op op_mod (pe_cal c_law_draw hr (by first | decide | omega) (by rfl) (pa_cons (pv 0) pa_nil)) pe_int) (fun _ _ => rfl)))
(pss_one (ps_ret (pe_op (op_uAddK (K := K) rfl) (pe_op (op_uAddK (K := K) rfl) (pe_slice (sl_uK (K := K) rfl) (pv 1) po_none (po_some (pv 3))) (pe_lst (pa_cons (pv 5) pa_nil))) (pe_slice (sl_uK (K := K) rfl) (pv 1) (po_some (pe_op (op_uAddK (K := K) rfl) (pv 3) pe_int)) po_none))))))))))))))), ?_⟩
  have h0 : (0 : Int) < xs.length := by omega
  walk_at "start"
  refine use_draw j d fun n1 M1 G1 H1 _ _ j1 e1 d1 a1 => ?_
  walk_at "go"
  refine use_draw j1 d1 fun n2 M2 G2 H2 _ _ j2 e2 d2 a2 => ?_
  walk_at "go"
  refine w_lenL j2 (sl_of (e2 _ _ (e1 _ _ ha))) ?_
  walk_at "go"
  refine w_I h0 ?_
  walk_at "go"
  refine use_draw j2 d2 fun n3 M3 G3 H3 _ _ j3 e3 d3 a3 => ?_
  have E3 := (e1.trans e2).trans e3
  have ha3 := E3 _ _ ha
  walk_at "to"
  have a123 := (a1.trans a2).trans a3
  generalize n2 % (xs.length : Int) = at_
  refine w_seqP (fun σ H => ∃ z : Int, J M3 G3 H ∧ σ = [some (.ref p), some (.ref a), some (.int (n1 % 7)), some (.int at_), some (.int z), none]) ?_ fun rest => ?_
  · rintro σ H ⟨z, j, rfl⟩
    with_reducible show tSeq (tIfS _ _ _) _ _ _ _
    refine w_seqP (fun σ H => ∃ z : Int, J M3 G3 H ∧ σ = [some (.ref p), some (.ref a), some (.int (n1 % 7)), some (.int at_), some (.int z), none]) ?_ fun rest2 => ?_
    · rintro σ H ⟨z, j, rfl⟩
      have cut : ∀ lo hi v, v ∈ cutV xs lo hi → CellV K G3 v := fun lo hi v m => (hc v (cut_sub m)).ex E3
      have cl : ∀ lo hi, (cutV xs lo hi).length ≤ xs.length := fun lo hi => cut_len
      -- a new list of cells, at the end
      have fin : ∀ (M' G' H' : Hp) (ys : List V) (n : Nat), J M' G' H' → Ex G3 G' → Dr K M' G' p → Ag p M3 M' → (∀ v ∈ ys, CellV K G' v) → ys.length ≤ 30000 → n ≤ 30000 → NewO (.lst ys) n H' Q := fun M' G' H' ys n j e d ag h1 h2 hn =>
        w_new j (sz_le (by omega)) fun t G4 H4 j4 e4 ht _ => k _ _ _ _ j4 (E3.trans (e.trans e4)) ⟨⟨t, ys, rfl, ⟨ht, fun v m => (h1 v m).ex e4⟩, h2⟩, d.ex e4, a123.trans ag⟩
      have one : ∀ (M' G' H' : Hp) (x : V) (lo hi lo2 : Option Int) (s1 s2 s3 : Addr) , J M' G' H' → Ex G3 G' → Dr K M' G' p → Ag p M3 M' → CellV K G' x → G' s3 = some (.lst (cutV xs lo hi ++ [x])) → G' s2 = some (.lst (cutV xs lo2 none)) → uAdd K (.ref s3) (.ref s2) H' Q := fun M' G' H' x lo hi lo2 s1 s2 s3 j e d ag hx h1 h2 => by
        refine w_catL (j.g _ _ h1) (j.g _ _ h2) (fin _ _ _ _ _ j e d ag (fun v m => ?_) ?_ ?_)
        · rcases List.mem_append.mp m with m | m
          · rcases List.mem_append.mp m with m | m
            · exact (cut _ _ v m).ex e
            · rw [List.mem_singleton.mp m]; exact hx
          · exact (cut _ _ v m).ex e
        · rw [List.length_append, List.length_append]; have := cl lo hi; have := cl lo2 none; simp; omega
        · rw [List.length_append]; have := cl lo hi; have := cl lo2 none; simp; omega
      have hpk : n1 % 7 = 0 ∨ n1 % 7 = 1 ∨ n1 % 7 = 2 ∨ n1 % 7 = 3 ∨ n1 % 7 = 4 ∨ n1 % 7 = 5 ∨ n1 % 7 = 6 := by omega
      generalize n1 % 7 = pick at hpk
      walk_at "go"
      rcases hpk with rfl | rfl | rfl | rfl | rfl | rfl | rfl
      · refine w_dT rfl ?_
        refine w_T ?_
        walk_at "go"
        refine w_slL j (sl_of ha3) (w_new j (Nat.zero_le _) fun s1 G4 H4 j4 e4 h1 _ => ?_)
        walk_at "go"
        refine w_new j4 (by show 1 ≤ sizeLine; decide) fun s2 G5 H5 j5 e5 h2 _ => ?_
        walk_at "go"
        refine w_catL (j5.g _ _ (e5 _ _ h1)) (j5.g _ _ h2) (w_new j5 (sz_le (by have := cl none (some at_); simp; omega)) fun s3 G6 H6 j6 e6 h3 _ => ?_)
        walk_at "go"
        refine w_slL j6 (sl_of (e6 _ _ (e5 _ _ (e4 _ _ ha3)))) (w_new j6 (Nat.zero_le _) fun s4 G7 H7 j7 e7 h4 _ => ?_)
        have e := (e4.trans e5).trans (e6.trans e7)
        exact one _ _ _ (.int z) none (some at_) (some (at_ + 1)) s1 s4 s3 j7 e (d3.ex e) (Ag.refl _ _) (.inl rfl) (e7 _ _ h3) h4
      · refine w_dF (by decide) ?_
        walk_at "go"
        refine w_dT rfl ?_
        walk_at "go"
        refine w_slL j (sl_of ha3) (w_new j (Nat.zero_le _) fun s1 G4 H4 j4 e4 h1 _ => ?_)
        walk_at "go"
        refine w_new j4 (by show 1 ≤ sizeLine; decide) fun s2 G5 H5 j5 e5 h2 _ => ?_
        walk_at "go"
        refine w_catL (j5.g _ _ (e5 _ _ h1)) (j5.g _ _ h2) (w_new j5 (sz_le (by have := cl none (some at_); simp; omega)) fun s3 G6 H6 j6 e6 h3 _ => ?_)
        walk_at "go"
        refine w_slL j6 (sl_of (e6 _ _ (e5 _ _ (e4 _ _ ha3)))) (w_new j6 (Nat.zero_le _) fun s4 G7 H7 j7 e7 h4 _ => ?_)
        have e := (e4.trans e5).trans (e6.trans e7)
        exact one _ _ _ (.int z) none (some at_) (some (at_ + 1)) s1 s4 s3 j7 e (d3.ex e) (Ag.refl _ _) (.inl rfl) (e7 _ _ h3) h4
      · refine w_dF (by decide) ?_
        walk_at "go"
        refine w_dF (by decide) ?_
        walk_at "go"
        refine w_dT rfl ?_
        walk_at "go"
        refine w_slL j (sl_of ha3) (w_new j (Nat.zero_le _) fun s1 G4 H4 j4 e4 h1 _ => ?_)
        walk_at "go"
        refine w_slL j4 (sl_of (e4 _ _ ha3)) (w_new j4 (Nat.zero_le _) fun s2 G5 H5 j5 e5 h2 _ => ?_)
        have e := e4.trans e5
        refine w_catL (j5.g _ _ (e5 _ _ h1)) (j5.g _ _ h2) (fin _ _ _ _ _ j5 e (d3.ex e) (Ag.refl _ _) (fun v m => ?_) ?_ ?_)
        · rcases List.mem_append.mp m with m | m
          · exact (cut _ _ v m).ex e
          · exact (cut _ _ v m).ex e
        · rw [List.length_append]; have := cl none (some at_); have := cl (some (at_ + 1)) none; omega
        · have := cl none (some at_); have := cl (some (at_ + 1)) none; omega
      · refine w_dF (by decide) ?_
        walk_at "go"
        refine w_dF (by decide) ?_
        walk_at "go"
        refine w_dF (by decide) ?_
        walk_at "go"
        refine w_dT rfl ?_
        walk_at "go"
        refine w_slL j (sl_of ha3) (w_new j (Nat.zero_le _) fun s1 G4 H4 j4 e4 h1 _ => ?_)
        walk_at "go"
        refine w_new j4 (by show 1 ≤ sizeLine; decide) fun s2 G5 H5 j5 e5 h2 _ => ?_
        walk_at "go"
        refine w_catL (j5.g _ _ (e5 _ _ h1)) (j5.g _ _ h2) (w_new j5 (sz_le (by have := cl none (some at_); simp; omega)) fun s3 G6 H6 j6 e6 h3 _ => ?_)
        walk_at "go"
        refine w_slL j6 (sl_of (e6 _ _ (e5 _ _ (e4 _ _ ha3)))) (w_new j6 (Nat.zero_le _) fun s4 G7 H7 j7 e7 h4 _ => ?_)
        have e := (e4.trans e5).trans (e6.trans e7)
        exact one _ _ _ (.int z) none (some at_) (some at_) s1 s4 s3 j7 e (d3.ex e) (Ag.refl _ _) (.inl rfl) (e7 _ _ h3) h4
      · refine w_dF (by decide) ?_
        walk_at "go"
        refine w_dF (by decide) ?_
        walk_at "go"
        refine w_dF (by decide) ?_
        walk_at "go"
        refine w_dF (by decide) ?_
        walk_at "go"
        refine w_dT rfl ?_
        walk_at "go"
        exact w_slL j (sl_of ha3) (fin _ _ _ _ _ j (Same.refl _) d3 (Ag.refl _ _) (fun v m => cut _ _ v m) (by have := cl none (some at_); omega) (Nat.zero_le _))
      · refine w_dF (by decide) ?_
        walk_at "go"
        refine w_dF (by decide) ?_
        walk_at "go"
        refine w_dF (by decide) ?_
        walk_at "go"
        refine w_dF (by decide) ?_
        walk_at "go"
        refine w_dF (by decide) ?_
        walk_at "go"
        refine w_dT rfl ?_
        walk_at "go"
        refine w_slL j (sl_of ha3) (w_new j (Nat.zero_le _) fun s1 G4 H4 j4 e4 h1 _ => ?_)
        refine w_catL (j4.g _ _ (e4 _ _ ha3)) (j4.g _ _ h1) (fin _ _ _ _ _ j4 e4 (d3.ex e4) (Ag.refl _ _) (fun v m => ?_) ?_ ?_)
        · rcases List.mem_append.mp m with m | m
          · exact (hc v m).ex (E3.trans e4)
          · exact (cut _ _ v m).ex e4
        · rw [List.length_append]; have := cl (some at_) none; omega
        · have := cl (some at_) none; omega
      · refine w_dF (by decide) ?_
        walk_at "go"
        refine w_dF (by decide) ?_
        walk_at "go"
        refine w_dF (by decide) ?_
        walk_at "go"
        refine w_dF (by decide) ?_
        walk_at "go"
        refine w_dF (by decide) ?_
        walk_at "go"
        refine w_dF (by decide) ?_
        walk_at "go"
        refine w_new j (by show 1 ≤ sizeLine; decide) fun T G4 H4 j4 e4 hT _ => ?_
        walk_at "go"
        refine w_new j4 (by show 5 ≤ sizeLine; decide) fun L G5 H5 j5 e5 hL _ => ?_
        walk_at "go"
        refine use_draw j5 (d3.ex (e4.trans e5)) fun n4 M6 G6 H6 _ _ j6 e6 d6 a6 => ?_
        walk_at "go"
        have e46 := (e4.trans e5).trans e6
        obtain ⟨x, hx, hxc⟩ : ∃ x, atI [V.bl true, .bl false, .non, .str "read", .ref T] (n4 % 5) = some x ∧ CellV K G6 x := by
          have : n4 % 5 = 0 ∨ n4 % 5 = 1 ∨ n4 % 5 = 2 ∨ n4 % 5 = 3 ∨ n4 % 5 = 4 := by omega
          rcases this with h | h | h | h | h <;> rw [h]
          · exact ⟨_, rfl, .inl rfl⟩
          · exact ⟨_, rfl, .inl rfl⟩
          · exact ⟨_, rfl, .inl rfl⟩
          · exact ⟨_, rfl, .inl rfl⟩
          · exact ⟨_, rfl, .inr ⟨T, rfl, st_of (e6 _ _ (e5 _ _ hT))⟩⟩
        refine w_ixL j6 (sl_of (e6 _ _ hL)) hx ?_
        walk_at "go"
        refine w_slL j6 (sl_of (e46 _ _ ha3)) (w_new j6 (Nat.zero_le _) fun s1 G7 H7 j7 e7 h1 _ => ?_)
        walk_at "go"
        refine w_new j7 (by show 1 ≤ sizeLine; decide) fun s2 G8 H8 j8 e8 h2 _ => ?_
        walk_at "go"
        refine w_catL (j8.g _ _ (e8 _ _ h1)) (j8.g _ _ h2) (w_new j8 (sz_le (by have := cl none (some at_); simp; omega)) fun s3 G9 H9 j9 e9 h3 _ => ?_)
        walk_at "go"
        refine w_slL j9 (sl_of (e9 _ _ (e8 _ _ (e7 _ _ (e46 _ _ ha3))))) (w_new j9 (Nat.zero_le _) fun s4 G10 H10 j10 e10 h4 _ => ?_)
        have e710 := (e7.trans e8).trans (e9.trans e10)
        exact one _ _ _ x none (some at_) (some (at_ + 1)) s1 s4 s3 j10 (e46.trans e710) (d6.ex e710) a6 (hxc.ex e710) (e10 _ _ h3) h4
    · walk_at "go"
      refine w_dec (fun h => ?_) (fun h => ?_)
      · walk_at "go"
        refine w_lenT (xs := WD.map V.str) j (k_WORDS G3) ?_
        repeat walk_at "v"
        exact rest2 _ _ ⟨_, j, rfl⟩
      · repeat walk_at "v"
        exact rest2 _ _ ⟨_, j, rfl⟩
  · walk_at "go"
    refine w_dec (fun h => ?_) (fun h => ?_)
    · walk_at "go"
      refine w_lenT (xs := WD.map V.str) j3 (k_WORDS G3) ?_
      repeat walk_at "v"
      exact rest _ _ ⟨_, j3, rfl⟩
    · repeat walk_at "v"
      exact rest _ _ ⟨_, j3, rfl⟩
def sp_law (K : PySem.W.Frag) : Sp := fun vs H Q _ => ∃ (a : Addr) (ns : List Int), vs = [.ref a] ∧ SqL K H a (ns.map V.int) ∧ ns.length ≤ 63 ∧ ∀ H', Q (.bl true) H'
/-! ### law -/
abbrev s_law : Stmt := top 36
abbrev n_law : List Str := ["script", "draws", "turn", "cells", "deep", "k"]
theorem sc_law : FnScope n_law ["script"] (defScope s_law) := ⟨rfl, rfl, rfl, by decide +kernel, rfl, by decide +kernel, by decide +kernel⟩
theorem int_cells {K : PySem.W.Frag} {G : Hp} {t : Addr} {cs : List Int} (h : G t = some (.lst (cs.map V.int))) : CellsAt K G t (cs.map V.int) := ⟨h, fun v m => by obtain ⟨i, _, rfl⟩ := List.mem_map.mp m; exact .inl rfl⟩
theorem cells_pos : ∀ (r : Rc), pureM r = true → 0 < (cellsM r).length := fun r h => by
  cases r with
  | oth => cases h
  | tup xs => rw [cellsM]; simp
  | non => simp [cellsM]
  | bl b => simp [cellsM]
  | int b => simp [cellsM]
  | str b => simp [cellsM]
theorem ok_law {P : Program} {w : World} {K : PySem.W.Frag} {mg : Str → Option Value} {base : Heap} {f : Addr} {fd : FuncData} (D : Dn K mg "law" s_law ["script"] f fd)
    (b_range : mg "range" = none) (b_len : mg "len" = none)
    (c_law_numbers : Cal P w K mg base CX0 2 "_law_numbers" (sp_law_numbers K)) (c_law_record : Cal P w K mg base CX0 8 "_law_record" (sp_law_record K)) (c_law_cells : Cal P w K mg base CX0 32 "_law_cells" (sp_law_cells K))
    (c_law_draw : Cal P w K mg base CX0 2 "_law_draw" (sp_law_draw K)) (c_law_spoilt : Cal P w K mg base CX0 3 "_law_spoilt" (sp_law_spoilt K)) (c_law_asked : Cal P w K mg base CX0 65 "_law_asked" (sp_law_asked K))
    (c_law_leaf : Cal P w K mg base CX0 3 "_law_leaf" (sp_law_leaf K)) : FnOk P w K mg base CX0 70 f fd ["script"] (sp_law K) := by
  refine D.fn.ok sc_law (fun vs H Q E h => ?_) fun cdv A outer s H vs Q E hr h => ?_
  · obtain ⟨a, ns, rfl, _⟩ := h; rfl
  obtain ⟨a, ns, rfl, ha, hl, k⟩ := h
  have j := J.start H
  refine ⟨_, (pss_cons (ps_set (i := 1) sc_law.nd rfl (Or.inr rfl) (pe_lst (pa_cons (pe_cal c_law_numbers hr (by first | decide | omega) (by rfl) (pa_cons (pv 0) pa_nil)) (pa_cons pe_int pa_nil))))
(pss_cons (ps_for PassesOwn.never rfl (pi_range1 (by rfl) b_range (pa_cons pe_int pa_nil)) (pg_name (i := 2) sc_law.nd rfl (Or.inl rfl))
(pss_cons (ps_set (i := 3) sc_law.nd rfl (Or.inl rfl) (pe_cal c_law_cells hr (by first | decide | omega) (by rfl) (pa_cons (pe_cal c_law_record hr (by first | decide | omega) (by rfl) (pa_cons (pv 1) (pa_cons pe_int pa_nil))) pa_nil)))
(pss_cons (ps_if (pt_cmpR op_gt (pe_op op_mod (pe_cal c_law_draw hr (by first | decide | omega) (by rfl) (pa_cons (pv 1) pa_nil)) pe_int) pe_int (nomark _))
(pss_one (ps_set (i := 3) sc_law.nd rfl (Or.inl rfl) (pe_cal c_law_spoilt hr (by first | decide | omega) (by rfl) (pa_cons (pv 1) (pa_cons (pv 3) pa_nil)))))
pss_nil)
(pss_cons (ps_if (pt_cmpR op_gt (pe_callB (call_uLenK (K := K) rfl) (by rfl) b_len PySem.boot_len (pa_cons (pv 3) pa_nil)) pe_int (nomark _))
(pss_one (ps_set (i := 3) sc_law.nd rfl (Or.inl rfl) (pe_slice (sl_uK (K := K) rfl) (pv 3) po_none (po_some pe_int))))
pss_nil)
(pss_one (ps_if (pt_not (pt_val (pe_cal c_law_asked hr (by first | decide | omega) (by rfl) (pa_cons (pv 3) pa_nil))))
(pss_one (ps_ret pe_bl))
pss_nil))))))
(pss_cons (ps_set (i := 4) sc_law.nd rfl (Or.inl rfl) (pe_op (op_uAddK (K := K) rfl) pe_int (pe_op op_mod (pe_cal c_law_draw hr (by first | decide | omega) (by rfl) (pa_cons (pv 1) pa_nil)) pe_int)))
(pss_cons (ps_if (pt_not (pt_val (pe_cal c_law_asked hr (by first | decide | omega) (by rfl) (pa_cons (pe_op (op_uAddK (K := K) rfl) (pe_op op_uMul (pe_lst (pa_cons pe_int (pa_cons pe_int pa_nil))) (pv 4)) (pe_cal c_law_cells hr (by first | decide | omega) (by rfl) (pa_cons (pe_cal c_law_leaf hr (by first | decide | omega) (by rfl) (pa_cons (pv 1) pa_nil)) pa_nil))) pa_nil))))
(pss_one (ps_ret pe_bl))
pss_nil)
(pss_one (ps_ret (pe_cal c_law_asked hr (by first | decide | omega) (by rfl) (pa_cons (pe_lc (own := [("k", 5)]) (by rfl) sc_law.nd (pi_range1 (by rfl) b_range (pa_cons (pe_op op_mod (pe_cal c_law_draw hr (by first | decide | omega) (by rfl) (pa_cons (pv 1) pa_nil)) pe_int) pa_nil)) (blkOk_by (own := [("k", 5)]) (N := n_law) (sc := defScope s_law) (by decide +kernel)) (fun _ _ _ _ _ => pg_name (i := 5) sc_law.nd rfl (Or.inl rfl)) (fun _ _ _ _ _ => pts_nil) (fun _ _ _ _ _ => (pe_op op_sub (pe_op op_mod (pe_cal c_law_draw hr (by first | decide | omega) (by rfl) (pa_cons (pv 1) pa_nil)) pe_int) pe_int))) pa_nil)))))))), ?_⟩
  walk_at "start"
  refine w_sg (a, ns) j ⟨rfl, ha, hl⟩ fun v M1 G1 H1 j1 e1 ⟨q, nums, ev, hq, hn, em⟩ => ?_
  subst ev em
  walk_at "go"
  refine w_newM j1 (by show 2 ≤ sizeLine; decide) fun p H2 j2 nM nG => ?_
  walk_at "go"
  have d2 : Dr K (upd (fun _ => none) p (.lst [.ref q, .int 0])) G1 p := ⟨q, nums, 0, upd_same, sl_of hq, hn, Int.le_refl _⟩
  refine w_rng (fun i σ H => ∃ M G x2 x3, J M G H ∧ Dr K M G p ∧ σ = [some (.ref a), some (.ref p), x2, x3, none, none]) ⟨_, G1, _, _, j2, d2, rfl⟩ ?_ ?_ (by decide) (by decide)
  · rintro i σ H _ ⟨M, G, x2, x3, j, d, rfl⟩
    walk_at "go"
    show spRecd K 4 _ _ _ _
    refine w_sg p j ⟨rfl, d⟩ fun v M1 G1 H1 j1 e1 ⟨⟨r, r1, r2, r3, r4⟩, d1, a1⟩ => ?_
    walk_at "go"
    have r4 : (cellsM r).length ≤ 682 := r4
    show spCl K 30 _ _ _ _
    refine w_sg (v, r) j1 ⟨rfl, r1, r2, by dsimp only; omega, by dsimp only; omega⟩ fun v' M2 G2 H2 j2 e2 ⟨em, t, ev, ht⟩ => ?_
    subst ev em
    dsimp only at ht
    with_reducible refine w_gName ?_
    with_reducible show tSeq (tIfS _ _ _) _ _ _ _
    refine w_seqP (fun σ H => ∃ M G t xs, J M G H ∧ Dr K M G p ∧ CellsAt K G t xs ∧ xs.length ≤ 30000 ∧ σ = [some (.ref a), some (.ref p), some (.int i), some (.ref t), none, none]) ?_ fun rest => ?_
    · rintro σ H ⟨M3, G3, t, xs, j3, d3, hx, hz, rfl⟩
      with_reducible show tSeq (tIfS _ _ _) _ _ _ _
      refine w_seqP (fun σ H => ∃ M G t xs, J M G H ∧ Dr K M G p ∧ CellsAt K G t xs ∧ xs.length ≤ 30000 ∧ σ = [some (.ref a), some (.ref p), some (.int i), some (.ref t), none, none]) ?_ fun rest2 => ?_
      · rintro σ H ⟨M3, G3, t, xs, j3, d3, hx, hz, rfl⟩
        walk_at "go"
        refine w_sg (t, xs) j3 ⟨rfl, hx, hz⟩ fun v M4 G4 H4 j4 e4 ⟨em, ev⟩ => ?_
        subst ev em
        walk_at "go"
        exact ⟨M4, G4, _, _, j4, d3.ex e4, rfl⟩
      · walk_at "go"
        refine w_lenL j3 (sl_of hx.1) ?_
        walk_at "go"
        refine w_dec (fun h => ?_) (fun h => ?_)
        · walk_at "go"
          refine w_slL j3 (sl_of hx.1) (w_new j3 (Nat.zero_le _) fun t2 G4 H4 j4 e4 ht2 _ => ?_)
          with_reducible refine w_gName ?_
          exact rest2 _ _ ⟨M3, G4, t2, _, j4, d3.ex e4, ⟨ht2, fun v m => (hx.2 v (cut_sub m)).ex e4⟩, by have := cut_len (xs := xs) (lo := none) (hi := some 60); omega, rfl⟩
        · with_reducible refine w_next ?_
          exact rest2 _ _ ⟨M3, G3, t, xs, j3, d3, hx, hz, rfl⟩
    · walk_at "go"
      refine use_draw j2 (d1.ex e2) fun n M3 G3 H3 _ _ j3 e3 d3 a3 => ?_
      walk_at "go"
      have hx : CellsAt K G3 t ((cellsM r).map V.int) := int_cells (e3 _ _ ht)
      refine w_dec (fun h => ?_) (fun h => ?_)
      · walk_at "go"
        refine w_sg (p, t, (cellsM r).map V.int) j3 ⟨rfl, d3, hx, by dsimp only; rw [List.length_map]; exact cells_pos r r2, by dsimp only; rw [List.length_map]; omega⟩ fun v M4 G4 H4 j4 e4 ⟨⟨t4, xs4, ev, h4, z4⟩, d4, _⟩ => ?_
        subst ev
        repeat walk_at "v"
        exact rest _ _ ⟨M4, G4, t4, xs4, j4, d4, h4, z4, rfl⟩
      · repeat walk_at "v"
        exact rest _ _ ⟨M3, G3, t, _, j3, d3, hx, by rw [List.length_map]; omega, rfl⟩
  · rintro σ H ⟨M, G, x2, x3, j, d, rfl⟩
    walk_at "go"
    refine use_draw j d fun n M3 G3 H3 _ _ j3 e3 d3 a3 => ?_
    walk_at "go"
    have b5 : 0 ≤ n % 5 ∧ n % 5 < 5 := ⟨Int.emod_nonneg _ (by decide), Int.emod_lt_of_pos _ (by decide)⟩
    refine w_new j3 (by show 2 ≤ sizeLine; decide) fun L G4 H4 j4 e4 hL _ => ?_
    walk_at "go"
    refine .inr ⟨L, 28 + n % 5, _, rfl, rfl, j4.g _ _ hL, by omega, by omega, sz_le (by show 2 * (28 + n % 5).toNat ≤ 1000000; omega), ?_⟩
    intro L5 hL5
    have j5 := j4.newG hL5 (o := .lst (List.replicate (28 + n % 5).toNat [V.int 5, .int 1]).flatten)
    have e5 : Ex G4 _ := Ex.new (o := .lst (List.replicate (28 + n % 5).toNat [V.int 5, .int 1]).flatten) (j4.freeG hL5)
    walk_at "go"
    refine use_dg j5 (d3.ex (e4.trans e5)) fun v M6 G6 H6 ⟨r, r1, r2, r3, r4⟩ j6 e6 d6 a6 => ?_
    walk_at "go"
    have r4 : (cellsM r).length ≤ 2 := r4
    show spCl K 30 _ _ _ _
    refine w_sg (v, r) j6 ⟨rfl, r1, r2, by dsimp only; omega, by dsimp only; omega⟩ fun v' M7 G7 H7 j7 e7 ⟨em, t, ev, ht⟩ => ?_
    subst ev em
    dsimp only at ht
    obtain ⟨cs, hcs, lcs⟩ : ∃ cs : List Int, (List.replicate (28 + n % 5).toNat [V.int 5, .int 1]).flatten = cs.map V.int ∧ cs.length ≤ 70 := by
      refine ⟨(List.replicate (28 + n % 5).toNat [5, 1]).flatten, ?_, ?_⟩
      · rw [List.map_flatten, List.map_replicate]; rfl
      · have : ∀ m : Nat, (List.replicate m ([5, 1] : List Int)).flatten.length = 2 * m := fun m => by
          induction m with
          | zero => rfl
          | succ m ih => rw [List.replicate_succ, List.flatten_cons, List.length_append, ih]; simp; omega
        rw [this]; omega
    refine w_catL (j7.g _ _ (e7 _ _ (e6 _ _ upd_same))) (j7.g _ _ ht) ?_
    rw [hcs, ← List.map_append]
    refine w_new j7 (sz_le (by rw [List.length_map, List.length_map]; omega)) fun T G8 H8 j8 e8 hT _ => ?_
    walk_at "go"
    refine w_sg (T, _) j8 ⟨rfl, int_cells hT, by dsimp only; rw [List.length_map, List.length_append]; omega⟩ fun v M9 G9 H9 j9 e9 ⟨em, ev⟩ => ?_
    subst ev em
    walk_at "go"
    have d9 := d6.ex ((e7.trans e8).trans e9)
    refine use_draw j9 d9 fun n2 M10 G10 H10 _ _ j10 e10 d10 a10 => ?_
    walk_at "go"
    have b21 : 0 ≤ n2 % 21 ∧ n2 % 21 < 21 := ⟨Int.emod_nonneg _ (by decide), Int.emod_lt_of_pos _ (by decide)⟩
    refine w_lcr j10 (fun L i acc M1 G1 => M10 L = none ∧ L ≠ p ∧ Ex G10 G1 ∧ Dr K M1 G1 p ∧ Ag2 p L M10 M1 ∧ (∃ ns : List Int, acc = ns.map V.int) ∧ acc.length = i) (fun L nL gL => ⟨nL, d10.ne nL, Same.refl _, d10.upd (d10.ne nL), (Ag2.refl p L M10).upd, ⟨[], rfl⟩, rfl⟩) (fun x => rfl) ?_ ?_ (by omega) (by omega)
    · rintro L i acc M4 G4 H4 R hi j4 hL ⟨nL3, nLp, e4, d4, a4, ⟨ns, rfl⟩, hlen⟩ hR
      walk_at "go"
      refine use_draw j4 d4 fun n3 M5 G5 H5 _ _ j5 e5 d5 a5 => ?_
      walk_at "go"
      exact hR _ _ ⟨M5, G5, j5, (a5 _ nLp).trans hL, sz_lt (by omega), nL3, nLp, e4.trans e5, d5.upd nLp, (a4.ag a5).upd, ⟨ns ++ [n3 % 8 - 1], by rw [List.map_append]; rfl⟩, by rw [List.length_append, hlen]; rfl⟩
    · rintro L acc M4 G4 H4 j4 hL ⟨nL3, nLp, e4, d4, a4, ⟨ns, rfl⟩, hlen⟩
      have j5 := j4.seal hL
      walk_at "go"
      refine w_sg (L, _) j5 ⟨rfl, int_cells upd_same, by dsimp only; omega⟩ fun v M9 G9 H9 j9 e9 ⟨em, ev⟩ => ?_
      subst ev
      exact k _
/-! ### the end -/
set_option maxHeartbeats 16000000 in
theorem all_mk {l : PySem.W.OpenLaw} {w : World} {K : PySem.W.Frag} {h : Heap} {mg : Str → Option Value} {fa : Addr} (X : K.In h) (G : h.Ns mainGlobals mg) (hfa : mg "law" = some (.ref fa))
    {f0 : Addr} {od0 an0 : Option Addr} {sl0 : Array (Option Value)} {oc0 kV0 dc0 pm0 cd0 ct0 : Value}
    {f1 : Addr} {od1 an1 : Option Addr} {sl1 : Array (Option Value)} {oc1 kV1 dc1 pm1 cd1 ct1 : Value}
    {f2 : Addr} {od2 an2 : Option Addr} {sl2 : Array (Option Value)} {oc2 kV2 dc2 pm2 cd2 ct2 : Value}
    {f3 : Addr} {od3 an3 : Option Addr} {sl3 : Array (Option Value)} {oc3 kV3 dc3 pm3 cd3 ct3 : Value}
    {f4 : Addr} {od4 an4 : Option Addr} {sl4 : Array (Option Value)} {oc4 kV4 dc4 pm4 cd4 ct4 : Value}
    {f5 : Addr} {od5 an5 : Option Addr} {sl5 : Array (Option Value)} {oc5 kV5 dc5 pm5 cd5 ct5 : Value}
    {f6 : Addr} {od6 an6 : Option Addr} {sl6 : Array (Option Value)} {oc6 kV6 dc6 pm6 cd6 ct6 : Value}
    {f7 : Addr} {od7 an7 : Option Addr} {sl7 : Array (Option Value)} {oc7 kV7 dc7 pm7 cd7 ct7 : Value}
    {f8 : Addr} {od8 an8 : Option Addr} {sl8 : Array (Option Value)} {oc8 kV8 dc8 pm8 cd8 ct8 : Value}
    {f9 : Addr} {od9 an9 : Option Addr} {sl9 : Array (Option Value)} {oc9 kV9 dc9 pm9 cd9 ct9 : Value}
    {f10 : Addr} {od10 an10 : Option Addr} {sl10 : Array (Option Value)} {oc10 kV10 dc10 pm10 cd10 ct10 : Value}
    {f11 : Addr} {od11 an11 : Option Addr} {sl11 : Array (Option Value)} {oc11 kV11 dc11 pm11 cd11 ct11 : Value}
    {f12 : Addr} {od12 an12 : Option Addr} {sl12 : Array (Option Value)} {oc12 kV12 dc12 pm12 cd12 ct12 : Value}
    {f13 : Addr} {od13 an13 : Option Addr} {sl13 : Array (Option Value)} {oc13 kV13 dc13 pm13 cd13 ct13 : Value}
    {f14 : Addr} {od14 an14 : Option Addr} {sl14 : Array (Option Value)} {oc14 kV14 dc14 pm14 cd14 ct14 : Value}
    {f15 : Addr} {od15 an15 : Option Addr} {sl15 : Array (Option Value)} {oc15 kV15 dc15 pm15 cd15 ct15 : Value}
    {f16 : Addr} {od16 an16 : Option Addr} {sl16 : Array (Option Value)} {oc16 kV16 dc16 pm16 cd16 ct16 : Value}
    {f17 : Addr} {od17 an17 : Option Addr} {sl17 : Array (Option Value)} {oc17 kV17 dc17 pm17 cd17 ct17 : Value}
    {f18 : Addr} {od18 an18 : Option Addr} {sl18 : Array (Option Value)} {oc18 kV18 dc18 pm18 cd18 ct18 : Value}
    {f19 : Addr} {od19 an19 : Option Addr} {sl19 : Array (Option Value)} {oc19 kV19 dc19 pm19 cd19 ct19 : Value}
    {f20 : Addr} {od20 an20 : Option Addr} {sl20 : Array (Option Value)} {oc20 kV20 dc20 pm20 cd20 ct20 : Value}
    {f21 : Addr} {od21 an21 : Option Addr} {sl21 : Array (Option Value)} {oc21 kV21 dc21 pm21 cd21 ct21 : Value}
    {A_BadRecord : Addr}
    {A_BadDeal : Addr}
    {t1 : Tok}
    {t2 : Tok}
    {t3 : Tok}
    {t4 : Tok}
    {t5 : Tok}
    {t6 : Tok}
    {t7 : Tok}
    {t8 : Tok}
    {t9 : Tok}
    {t10 : Tok}
    {t11 : Tok}
    {t12 : Tok}
    {t13 : Tok}
    {t14 : Tok}
    {t15 : Tok}
    {t16 : Tok}
    {t17 : Tok}
    {t18 : Tok}
    {t19 : Tok}
    {t20 : Tok}
    {t21 : Tok}
    {t22 : Tok}
    {t23 : Tok}
    {t24 : Tok}
    {t25 : Tok}
    {t26 : Tok}
    {t27 : Tok}
    {t28 : Tok}
    {t29 : Tok}
    {t30 : Tok}
    {t31 : Tok}
    {e_WORDS : Addr} {en_WORDS : Nat} {es_WORDS : Array (Option Value)}
    {t32 : Tok}
    {t33 : Tok}
    {t34 : Tok}
    {t35 : Tok}
    {t36 : Tok}
    {t37 : Tok}
    {t38 : Tok}
    (a0 : PySem.W.nsIn K mainGlobals "_law_parse" = some (some (.ref f0)))
    (l0 : K.lookup f0 = some ⟨oc0, od0, .func (PySem.W.fnOf "_law_parse" "_law_parse" (defArgs s_law_parse) (defBody s_law_parse) (defScope s_law_parse) .none kV0 dc0 pm0 an0 cd0 ct0), sl0⟩)
    (c0 : PySem.W.codeIn K cd0 "_law_parse" = true) (k0 : PySem.W.keepIn K (.ref f0) = true)
    (a1 : PySem.W.nsIn K mainGlobals "_law_rebuilt" = some (some (.ref f1)))
    (l1 : K.lookup f1 = some ⟨oc1, od1, .func (PySem.W.fnOf "_law_rebuilt" "_law_rebuilt" (defArgs s_law_rebuilt) (defBody s_law_rebuilt) (defScope s_law_rebuilt) .none kV1 dc1 pm1 an1 cd1 ct1), sl1⟩)
    (c1 : PySem.W.codeIn K cd1 "_law_rebuilt" = true) (k1 : PySem.W.keepIn K (.ref f1) = true)
    (a2 : PySem.W.nsIn K mainGlobals "cell_at" = some (some (.ref f2)))
    (l2 : K.lookup f2 = some ⟨oc2, od2, .func (PySem.W.fnOf "cell_at" "cell_at" (defArgs s_cell_at) (defBody s_cell_at) (defScope s_cell_at) .none kV2 dc2 pm2 an2 cd2 ct2), sl2⟩)
    (c2 : PySem.W.codeIn K cd2 "cell_at" = true) (k2 : PySem.W.keepIn K (.ref f2) = true)
    (a3 : PySem.W.nsIn K mainGlobals "tuple_at" = some (some (.ref f3)))
    (l3 : K.lookup f3 = some ⟨oc3, od3, .func (PySem.W.fnOf "tuple_at" "tuple_at" (defArgs s_tuple_at) (defBody s_tuple_at) (defScope s_tuple_at) .none kV3 dc3 pm3 an3 cd3 ct3), sl3⟩)
    (c3 : PySem.W.codeIn K cd3 "tuple_at" = true) (k3 : PySem.W.keepIn K (.ref f3) = true)
    (a4 : PySem.W.nsIn K mainGlobals "word_at" = some (some (.ref f4)))
    (l4 : K.lookup f4 = some ⟨oc4, od4, .func (PySem.W.fnOf "word_at" "word_at" (defArgs s_word_at) (defBody s_word_at) (defScope s_word_at) .none kV4 dc4 pm4 an4 cd4 ct4), sl4⟩)
    (c4 : PySem.W.codeIn K cd4 "word_at" = true) (k4 : PySem.W.keepIn K (.ref f4) = true)
    (a5 : PySem.W.nsIn K mainGlobals "record_at" = some (some (.ref f5)))
    (l5 : K.lookup f5 = some ⟨oc5, od5, .func (PySem.W.fnOf "record_at" "record_at" (defArgs s_record_at) (defBody s_record_at) (defScope s_record_at) .none kV5 dc5 pm5 an5 cd5 ct5), sl5⟩)
    (c5 : PySem.W.codeIn K cd5 "record_at" = true) (k5 : PySem.W.keepIn K (.ref f5) = true)
    (a6 : PySem.W.nsIn K mainGlobals "is_plain_integer" = some (some (.ref f6)))
    (l6 : K.lookup f6 = some ⟨oc6, od6, .func (PySem.W.fnOf "is_plain_integer" "is_plain_integer" (defArgs s_is_plain_integer) (defBody s_is_plain_integer) (defScope s_is_plain_integer) .none kV6 dc6 pm6 an6 cd6 ct6), sl6⟩)
    (c6 : PySem.W.codeIn K cd6 "is_plain_integer" = true) (k6 : PySem.W.keepIn K (.ref f6) = true)
    (a7 : PySem.W.nsIn K mainGlobals "rebuild" = some (some (.ref f7)))
    (l7 : K.lookup f7 = some ⟨oc7, od7, .func (PySem.W.fnOf "rebuild" "rebuild" (defArgs s_rebuild) (defBody s_rebuild) (defScope s_rebuild) .none kV7 dc7 pm7 an7 cd7 ct7), sl7⟩)
    (c7 : PySem.W.codeIn K cd7 "rebuild" = true) (k7 : PySem.W.keepIn K (.ref f7) = true)
    (a8 : PySem.W.nsIn K mainGlobals "_law_all_equal" = some (some (.ref f8)))
    (l8 : K.lookup f8 = some ⟨oc8, od8, .func (PySem.W.fnOf "_law_all_equal" "_law_all_equal" (defArgs s_law_all_equal) (defBody s_law_all_equal) (defScope s_law_all_equal) .none kV8 dc8 pm8 an8 cd8 ct8), sl8⟩)
    (c8 : PySem.W.codeIn K cd8 "_law_all_equal" = true) (k8 : PySem.W.keepIn K (.ref f8) = true)
    (a9 : PySem.W.nsIn K mainGlobals "_law_equal" = some (some (.ref f9)))
    (l9 : K.lookup f9 = some ⟨oc9, od9, .func (PySem.W.fnOf "_law_equal" "_law_equal" (defArgs s_law_equal) (defBody s_law_equal) (defScope s_law_equal) .none kV9 dc9 pm9 an9 cd9 ct9), sl9⟩)
    (c9 : PySem.W.codeIn K cd9 "_law_equal" = true) (k9 : PySem.W.keepIn K (.ref f9) = true)
    (a10 : PySem.W.nsIn K mainGlobals "_law_depth" = some (some (.ref f10)))
    (l10 : K.lookup f10 = some ⟨oc10, od10, .func (PySem.W.fnOf "_law_depth" "_law_depth" (defArgs s_law_depth) (defBody s_law_depth) (defScope s_law_depth) .none kV10 dc10 pm10 an10 cd10 ct10), sl10⟩)
    (c10 : PySem.W.codeIn K cd10 "_law_depth" = true) (k10 : PySem.W.keepIn K (.ref f10) = true)
    (a11 : PySem.W.nsIn K mainGlobals "_law_numbered" = some (some (.ref f11)))
    (l11 : K.lookup f11 = some ⟨oc11, od11, .func (PySem.W.fnOf "_law_numbered" "_law_numbered" (defArgs s_law_numbered) (defBody s_law_numbered) (defScope s_law_numbered) .none kV11 dc11 pm11 an11 cd11 ct11), sl11⟩)
    (c11 : PySem.W.codeIn K cd11 "_law_numbered" = true) (k11 : PySem.W.keepIn K (.ref f11) = true)
    (a12 : PySem.W.nsIn K mainGlobals "_law_asked" = some (some (.ref f12)))
    (l12 : K.lookup f12 = some ⟨oc12, od12, .func (PySem.W.fnOf "_law_asked" "_law_asked" (defArgs s_law_asked) (defBody s_law_asked) (defScope s_law_asked) .none kV12 dc12 pm12 an12 cd12 ct12), sl12⟩)
    (c12 : PySem.W.codeIn K cd12 "_law_asked" = true) (k12 : PySem.W.keepIn K (.ref f12) = true)
    (a13 : PySem.W.nsIn K mainGlobals "_law_mixed" = some (some (.ref f13)))
    (l13 : K.lookup f13 = some ⟨oc13, od13, .func (PySem.W.fnOf "_law_mixed" "_law_mixed" (defArgs s_law_mixed) (defBody s_law_mixed) (defScope s_law_mixed) .none kV13 dc13 pm13 an13 cd13 ct13), sl13⟩)
    (c13 : PySem.W.codeIn K cd13 "_law_mixed" = true) (k13 : PySem.W.keepIn K (.ref f13) = true)
    (a14 : PySem.W.nsIn K mainGlobals "_law_numbers" = some (some (.ref f14)))
    (l14 : K.lookup f14 = some ⟨oc14, od14, .func (PySem.W.fnOf "_law_numbers" "_law_numbers" (defArgs s_law_numbers) (defBody s_law_numbers) (defScope s_law_numbers) .none kV14 dc14 pm14 an14 cd14 ct14), sl14⟩)
    (c14 : PySem.W.codeIn K cd14 "_law_numbers" = true) (k14 : PySem.W.keepIn K (.ref f14) = true)
    (a15 : PySem.W.nsIn K mainGlobals "_law_cells" = some (some (.ref f15)))
    (l15 : K.lookup f15 = some ⟨oc15, od15, .func (PySem.W.fnOf "_law_cells" "_law_cells" (defArgs s_law_cells) (defBody s_law_cells) (defScope s_law_cells) .none kV15 dc15 pm15 an15 cd15 ct15), sl15⟩)
    (c15 : PySem.W.codeIn K cd15 "_law_cells" = true) (k15 : PySem.W.keepIn K (.ref f15) = true)
    (a16 : PySem.W.nsIn K mainGlobals "_law_draw" = some (some (.ref f16)))
    (l16 : K.lookup f16 = some ⟨oc16, od16, .func (PySem.W.fnOf "_law_draw" "_law_draw" (defArgs s_law_draw) (defBody s_law_draw) (defScope s_law_draw) .none kV16 dc16 pm16 an16 cd16 ct16), sl16⟩)
    (c16 : PySem.W.codeIn K cd16 "_law_draw" = true) (k16 : PySem.W.keepIn K (.ref f16) = true)
    (a17 : PySem.W.nsIn K mainGlobals "_law_words" = some (some (.ref f17)))
    (l17 : K.lookup f17 = some ⟨oc17, od17, .func (PySem.W.fnOf "_law_words" "_law_words" (defArgs s_law_words) (defBody s_law_words) (defScope s_law_words) .none kV17 dc17 pm17 an17 cd17 ct17), sl17⟩)
    (c17 : PySem.W.codeIn K cd17 "_law_words" = true) (k17 : PySem.W.keepIn K (.ref f17) = true)
    (a18 : PySem.W.nsIn K mainGlobals "_law_leaf" = some (some (.ref f18)))
    (l18 : K.lookup f18 = some ⟨oc18, od18, .func (PySem.W.fnOf "_law_leaf" "_law_leaf" (defArgs s_law_leaf) (defBody s_law_leaf) (defScope s_law_leaf) .none kV18 dc18 pm18 an18 cd18 ct18), sl18⟩)
    (c18 : PySem.W.codeIn K cd18 "_law_leaf" = true) (k18 : PySem.W.keepIn K (.ref f18) = true)
    (a19 : PySem.W.nsIn K mainGlobals "_law_record" = some (some (.ref f19)))
    (l19 : K.lookup f19 = some ⟨oc19, od19, .func (PySem.W.fnOf "_law_record" "_law_record" (defArgs s_law_record) (defBody s_law_record) (defScope s_law_record) .none kV19 dc19 pm19 an19 cd19 ct19), sl19⟩)
    (c19 : PySem.W.codeIn K cd19 "_law_record" = true) (k19 : PySem.W.keepIn K (.ref f19) = true)
    (a20 : PySem.W.nsIn K mainGlobals "_law_spoilt" = some (some (.ref f20)))
    (l20 : K.lookup f20 = some ⟨oc20, od20, .func (PySem.W.fnOf "_law_spoilt" "_law_spoilt" (defArgs s_law_spoilt) (defBody s_law_spoilt) (defScope s_law_spoilt) .none kV20 dc20 pm20 an20 cd20 ct20), sl20⟩)
    (c20 : PySem.W.codeIn K cd20 "_law_spoilt" = true) (k20 : PySem.W.keepIn K (.ref f20) = true)
    (a21 : PySem.W.nsIn K mainGlobals "law" = some (some (.ref f21)))
    (l21 : K.lookup f21 = some ⟨oc21, od21, .func (PySem.W.fnOf "law" "law" (defArgs s_law) (defBody s_law) (defScope s_law) .none kV21 dc21 pm21 an21 cd21 ct21), sl21⟩)
    (c21 : PySem.W.codeIn K cd21 "law" = true) (k21 : PySem.W.keepIn K (.ref f21) = true)
    (z_tuple : PySem.W.nsIn K mainGlobals "tuple" = some none)
    (z_range : PySem.W.nsIn K mainGlobals "range" = some none)
    (z_len : PySem.W.nsIn K mainGlobals "len" = some none)
    (z_isinstance : PySem.W.nsIn K mainGlobals "isinstance" = some none)
    (z_int : PySem.W.nsIn K mainGlobals "int" = some none)
    (z_bool : PySem.W.nsIn K mainGlobals "bool" = some none)
    (z_list : PySem.W.nsIn K mainGlobals "list" = some none)
    (z_str : PySem.W.nsIn K mainGlobals "str" = some none)
    (z_max : PySem.W.nsIn K mainGlobals "max" = some none)
    (aX_BadRecord : PySem.W.nsIn K mainGlobals "BadRecord" = some (some (.ref A_BadRecord)))
    (xP_BadRecord : PySem.W.excIn K A_BadRecord [.type "ValueError", .type "Exception", .type "BaseException", .type "object"] "ValueError.__new__" = true)
    (kP_BadRecord : PySem.W.keepIn K (.ref A_BadRecord) = true)
    (bP_BadRecord : PySem.W.subIn K (.ref A_BadRecord) (.type "BaseException") = some true)
    (tP_BadRecord : PySem.W.typeIn K (.ref A_BadRecord) = some (.type "type"))
    (hD_BadRecord : PySem.W.hasDictIn K A_BadRecord = true)
    (sP_BadRecord : PySem.W.subIn K (.ref A_BadRecord) (.ref A_BadRecord) = some true)
    (hg_BadRecord : PySem.W.findIn K (.ref A_BadRecord) "__getattribute__" = some (some (.builtin "BaseException.__getattribute__")))
    (hk_BadRecord : PySem.W.findIn K (.ref A_BadRecord) "__getattr__" = some none)
    (ha_BadRecord : PySem.W.findIn K (.ref A_BadRecord) "__class__" = some (some (.builtin "object.__class__")))
    (hn_BadRecord : PySem.W.specialIn K (.builtin "object.__class__") "__get__" = some (some (.builtin "getset_descriptor.__get__")))
    (ht_BadRecord : PySem.W.takesIn K (.builtin "object.__class__") = some true)
    (hm_BadRecord : PySem.W.mroIn K A_BadRecord (.type "object") = some true)
    (aX_BadDeal : PySem.W.nsIn K mainGlobals "BadDeal" = some (some (.ref A_BadDeal)))
    (xP_BadDeal : PySem.W.excIn K A_BadDeal [.type "ValueError", .type "Exception", .type "BaseException", .type "object"] "ValueError.__new__" = true)
    (kP_BadDeal : PySem.W.keepIn K (.ref A_BadDeal) = true)
    (bP_BadDeal : PySem.W.subIn K (.ref A_BadDeal) (.type "BaseException") = some true)
    (tP_BadDeal : PySem.W.typeIn K (.ref A_BadDeal) = some (.type "type"))
    (hD_BadDeal : PySem.W.hasDictIn K A_BadDeal = true)
    (sP_BadDeal : PySem.W.subIn K (.ref A_BadDeal) (.ref A_BadDeal) = some true)
    (hg_BadDeal : PySem.W.findIn K (.ref A_BadDeal) "__getattribute__" = some (some (.builtin "BaseException.__getattribute__")))
    (hk_BadDeal : PySem.W.findIn K (.ref A_BadDeal) "__getattr__" = some none)
    (ha_BadDeal : PySem.W.findIn K (.ref A_BadDeal) "__class__" = some (some (.builtin "object.__class__")))
    (hn_BadDeal : PySem.W.specialIn K (.builtin "object.__class__") "__get__" = some (some (.builtin "getset_descriptor.__get__")))
    (ht_BadDeal : PySem.W.takesIn K (.builtin "object.__class__") = some true)
    (hm_BadDeal : PySem.W.mroIn K A_BadDeal (.type "object") = some true)
    (ki_BadRecord_BadDeal : PySem.W.kitOne K (.ref A_BadRecord) (.ref A_BadDeal) = some false)
    (q_WORDS : PySem.W.nsIn K mainGlobals "WORDS" = some (some (.ref e_WORDS)))
    (w_WORDS : K.lookup e_WORDS = some ⟨.type "tuple", none, .seq #[Value.str "decided" t1, Value.str "read" t2, Value.str "away" t3, Value.str "busy" t4, Value.str "rows" t5, Value.str "prepare" t6, Value.str "prepared" t7, Value.str "stale" t8, Value.str "decide" t9, Value.str "missing" t10, Value.str "drop" t11, Value.str "finish" t12, Value.str "split" t13, Value.str "none" t14, Value.str "unknown" t15, Value.str "next" t16, Value.str "time" t17, Value.str "counter" t18, Value.str "table" t19, Value.str "members" t20, Value.str "follower" t21, Value.str "candidate" t22, Value.str "leader" t23, Value.str "ask" t24, Value.str "vote" t25, Value.str "copy" t26, Value.str "base" t27, Value.str "got" t28, Value.str "make" t29, Value.str "term" t30, Value.str "entry" t31] en_WORDS, es_WORDS⟩)
    (q_TUPLE : PySem.W.nsIn K mainGlobals "TUPLE" = some (some (.int 5 t32)))
    (q_WORD : PySem.W.nsIn K mainGlobals "WORD" = some (some (.int 4 t33)))
    (q_TRUE : PySem.W.nsIn K mainGlobals "TRUE" = some (some (.int 3 t34)))
    (q_FALSE : PySem.W.nsIn K mainGlobals "FALSE" = some (some (.int 2 t35)))
    (q_NONE : PySem.W.nsIn K mainGlobals "NONE" = some (some (.int 1 t36)))
    (q_INTEGER : PySem.W.nsIn K mainGlobals "INTEGER" = some (some (.int 0 t37)))
    (q_DEEPEST : PySem.W.nsIn K mainGlobals "DEEPEST" = some (some (.int 30 t38))) :
    ∃ fd : FuncData, (∀ (s : Shared) (v : Value), BindsTo s fd ⟨[v], []⟩ [("script", v)]) ∧ ∀ base : Heap, K.In base → base.Ns mainGlobals mg → FnOk l.prog w K mg base CX0 70 fa fd ["script"] (sp_law K) := by
  have e := hfa.symm.trans (PySem.W.mg_of X G a21)
  cases e
  have F0 := fun_mk (st := s_law_parse) l0 c0 k0
  have B0 := F0.binds (ps := ["cells", "at", "depth"]) fun _ _ _ _ _ _ us hl => match us, hl with | [_, _, _], _ => rfl
  have D_law_parse : Dn K mg "_law_parse" s_law_parse ["cells", "at", "depth"] f0 _ := ⟨F0, PySem.W.mg_of X G a0, k0, B0⟩
  have F1 := fun_mk (st := s_law_rebuilt) l1 c1 k1
  have B1 := F1.binds (ps := ["cells"]) fun _ _ _ _ _ _ us hl => match us, hl with | [_], _ => rfl
  have D_law_rebuilt : Dn K mg "_law_rebuilt" s_law_rebuilt ["cells"] f1 _ := ⟨F1, PySem.W.mg_of X G a1, k1, B1⟩
  have F2 := fun_mk (st := s_cell_at) l2 c2 k2
  have B2 := F2.binds (ps := ["cells", "at"]) fun _ _ _ _ _ _ us hl => match us, hl with | [_, _], _ => rfl
  have D_cell_at : Dn K mg "cell_at" s_cell_at ["cells", "at"] f2 _ := ⟨F2, PySem.W.mg_of X G a2, k2, B2⟩
  have F3 := fun_mk (st := s_tuple_at) l3 c3 k3
  have B3 := F3.binds (ps := ["cells", "at", "room"]) fun _ _ _ _ _ _ us hl => match us, hl with | [_, _, _], _ => rfl
  have D_tuple_at : Dn K mg "tuple_at" s_tuple_at ["cells", "at", "room"] f3 _ := ⟨F3, PySem.W.mg_of X G a3, k3, B3⟩
  have F4 := fun_mk (st := s_word_at) l4 c4 k4
  have B4 := F4.binds (ps := ["cells", "at"]) fun _ _ _ _ _ _ us hl => match us, hl with | [_, _], _ => rfl
  have D_word_at : Dn K mg "word_at" s_word_at ["cells", "at"] f4 _ := ⟨F4, PySem.W.mg_of X G a4, k4, B4⟩
  have F5 := fun_mk (st := s_record_at) l5 c5 k5
  have B5 := F5.binds (ps := ["cells", "at", "room"]) fun _ _ _ _ _ _ us hl => match us, hl with | [_, _, _], _ => rfl
  have D_record_at : Dn K mg "record_at" s_record_at ["cells", "at", "room"] f5 _ := ⟨F5, PySem.W.mg_of X G a5, k5, B5⟩
  have F6 := fun_mk (st := s_is_plain_integer) l6 c6 k6
  have B6 := F6.binds (ps := ["thing"]) fun _ _ _ _ _ _ us hl => match us, hl with | [_], _ => rfl
  have D_is_plain_integer : Dn K mg "is_plain_integer" s_is_plain_integer ["thing"] f6 _ := ⟨F6, PySem.W.mg_of X G a6, k6, B6⟩
  have F7 := fun_mk (st := s_rebuild) l7 c7 k7
  have B7 := F7.binds (ps := ["cells"]) fun _ _ _ _ _ _ us hl => match us, hl with | [_], _ => rfl
  have D_rebuild : Dn K mg "rebuild" s_rebuild ["cells"] f7 _ := ⟨F7, PySem.W.mg_of X G a7, k7, B7⟩
  have F8 := fun_mk (st := s_law_all_equal) l8 c8 k8
  have B8 := F8.binds (ps := ["actual", "due"]) fun _ _ _ _ _ _ us hl => match us, hl with | [_, _], _ => rfl
  have D_law_all_equal : Dn K mg "_law_all_equal" s_law_all_equal ["actual", "due"] f8 _ := ⟨F8, PySem.W.mg_of X G a8, k8, B8⟩
  have F9 := fun_mk (st := s_law_equal) l9 c9 k9
  have B9 := F9.binds (ps := ["actual", "due"]) fun _ _ _ _ _ _ us hl => match us, hl with | [_, _], _ => rfl
  have D_law_equal : Dn K mg "_law_equal" s_law_equal ["actual", "due"] f9 _ := ⟨F9, PySem.W.mg_of X G a9, k9, B9⟩
  have F10 := fun_mk (st := s_law_depth) l10 c10 k10
  have B10 := F10.binds (ps := ["record"]) fun _ _ _ _ _ _ us hl => match us, hl with | [_], _ => rfl
  have D_law_depth : Dn K mg "_law_depth" s_law_depth ["record"] f10 _ := ⟨F10, PySem.W.mg_of X G a10, k10, B10⟩
  have F11 := fun_mk (st := s_law_numbered) l11 c11 k11
  have B11 := F11.binds (ps := ["cells"]) fun _ _ _ _ _ _ us hl => match us, hl with | [_], _ => rfl
  have D_law_numbered : Dn K mg "_law_numbered" s_law_numbered ["cells"] f11 _ := ⟨F11, PySem.W.mg_of X G a11, k11, B11⟩
  have F12 := fun_mk (st := s_law_asked) l12 c12 k12
  have B12 := F12.binds (ps := ["cells"]) fun _ _ _ _ _ _ us hl => match us, hl with | [_], _ => rfl
  have D_law_asked : Dn K mg "_law_asked" s_law_asked ["cells"] f12 _ := ⟨F12, PySem.W.mg_of X G a12, k12, B12⟩
  have F13 := fun_mk (st := s_law_mixed) l13 c13 k13
  have B13 := F13.binds (ps := ["number", "k"]) fun _ _ _ _ _ _ us hl => match us, hl with | [_, _], _ => rfl
  have D_law_mixed : Dn K mg "_law_mixed" s_law_mixed ["number", "k"] f13 _ := ⟨F13, PySem.W.mg_of X G a13, k13, B13⟩
  have F14 := fun_mk (st := s_law_numbers) l14 c14 k14
  have B14 := F14.binds (ps := ["script"]) fun _ _ _ _ _ _ us hl => match us, hl with | [_], _ => rfl
  have D_law_numbers : Dn K mg "_law_numbers" s_law_numbers ["script"] f14 _ := ⟨F14, PySem.W.mg_of X G a14, k14, B14⟩
  have F15 := fun_mk (st := s_law_cells) l15 c15 k15
  have B15 := F15.binds (ps := ["record"]) fun _ _ _ _ _ _ us hl => match us, hl with | [_], _ => rfl
  have D_law_cells : Dn K mg "_law_cells" s_law_cells ["record"] f15 _ := ⟨F15, PySem.W.mg_of X G a15, k15, B15⟩
  have F16 := fun_mk (st := s_law_draw) l16 c16 k16
  have B16 := F16.binds (ps := ["draws"]) fun _ _ _ _ _ _ us hl => match us, hl with | [_], _ => rfl
  have D_law_draw : Dn K mg "_law_draw" s_law_draw ["draws"] f16 _ := ⟨F16, PySem.W.mg_of X G a16, k16, B16⟩
  have F17 := fun_mk (st := s_law_words) l17 c17 k17
  have B17 := F17.binds (ps := ([] : List Str)) fun _ _ _ _ _ _ us hl => match us, hl with | [], _ => rfl
  have D_law_words : Dn K mg "_law_words" s_law_words ([] : List Str) f17 _ := ⟨F17, PySem.W.mg_of X G a17, k17, B17⟩
  have F18 := fun_mk (st := s_law_leaf) l18 c18 k18
  have B18 := F18.binds (ps := ["draws"]) fun _ _ _ _ _ _ us hl => match us, hl with | [_], _ => rfl
  have D_law_leaf : Dn K mg "_law_leaf" s_law_leaf ["draws"] f18 _ := ⟨F18, PySem.W.mg_of X G a18, k18, B18⟩
  have F19 := fun_mk (st := s_law_record) l19 c19 k19
  have B19 := F19.binds (ps := ["draws", "depth"]) fun _ _ _ _ _ _ us hl => match us, hl with | [_, _], _ => rfl
  have D_law_record : Dn K mg "_law_record" s_law_record ["draws", "depth"] f19 _ := ⟨F19, PySem.W.mg_of X G a19, k19, B19⟩
  have F20 := fun_mk (st := s_law_spoilt) l20 c20 k20
  have B20 := F20.binds (ps := ["draws", "cells"]) fun _ _ _ _ _ _ us hl => match us, hl with | [_, _], _ => rfl
  have D_law_spoilt : Dn K mg "_law_spoilt" s_law_spoilt ["draws", "cells"] f20 _ := ⟨F20, PySem.W.mg_of X G a20, k20, B20⟩
  have F21 := fun_mk (st := s_law) l21 c21 k21
  have B21 := F21.binds (ps := ["script"]) fun _ _ _ _ _ _ us hl => match us, hl with | [_], _ => rfl
  have D_law : Dn K mg "law" s_law ["script"] fa _ := ⟨F21, PySem.W.mg_of X G a21, k21, B21⟩
  have b_tuple := PySem.W.mg_none_of X G z_tuple
  have b_range := PySem.W.mg_none_of X G z_range
  have b_len := PySem.W.mg_none_of X G z_len
  have b_isinstance := PySem.W.mg_none_of X G z_isinstance
  have b_int := PySem.W.mg_none_of X G z_int
  have b_bool := PySem.W.mg_none_of X G z_bool
  have b_list := PySem.W.mg_none_of X G z_list
  have b_str := PySem.W.mg_none_of X G z_str
  have b_max := PySem.W.mg_none_of X G z_max
  have x_BadRecord : Xc K mg "BadRecord" A_BadRecord := ⟨PySem.W.mg_of X G aX_BadRecord, xP_BadRecord, kP_BadRecord, bP_BadRecord, tP_BadRecord, hD_BadRecord, sP_BadRecord, hg_BadRecord, hk_BadRecord, ha_BadRecord, hn_BadRecord, ht_BadRecord, hm_BadRecord⟩
  have x_BadDeal : Xc K mg "BadDeal" A_BadDeal := ⟨PySem.W.mg_of X G aX_BadDeal, xP_BadDeal, kP_BadDeal, bP_BadDeal, tP_BadDeal, hD_BadDeal, sP_BadDeal, hg_BadDeal, hk_BadDeal, ha_BadDeal, hn_BadDeal, ht_BadDeal, hm_BadDeal⟩
  have g_WORDS : ∃ u, mg "WORDS" = some u ∧ RelV (.ref e_WORDS) u := ⟨_, PySem.W.mg_of X G q_WORDS, rfl⟩
  have t_WORDS : ∃ o, K.lookup e_WORDS = some o ∧ o.cls = .type "tuple" ∧ o.dict = none := ⟨_, w_WORDS, rfl, rfl⟩
  have k_WORDS : ∀ H, SqT K H e_WORDS [V.str "decided", V.str "read", V.str "away", V.str "busy", V.str "rows", V.str "prepare", V.str "prepared", V.str "stale", V.str "decide", V.str "missing", V.str "drop", V.str "finish", V.str "split", V.str "none", V.str "unknown", V.str "next", V.str "time", V.str "counter", V.str "table", V.str "members", V.str "follower", V.str "candidate", V.str "leader", V.str "ask", V.str "vote", V.str "copy", V.str "base", V.str "got", V.str "make", V.str "term", V.str "entry"] := fun H => .inr ⟨_, _, _, w_WORDS, rfl, rfl, by show 31 ≤ sizeLine; decide, (.cons ⟨_, rfl⟩ (.cons ⟨_, rfl⟩ (.cons ⟨_, rfl⟩ (.cons ⟨_, rfl⟩ (.cons ⟨_, rfl⟩ (.cons ⟨_, rfl⟩ (.cons ⟨_, rfl⟩ (.cons ⟨_, rfl⟩ (.cons ⟨_, rfl⟩ (.cons ⟨_, rfl⟩ (.cons ⟨_, rfl⟩ (.cons ⟨_, rfl⟩ (.cons ⟨_, rfl⟩ (.cons ⟨_, rfl⟩ (.cons ⟨_, rfl⟩ (.cons ⟨_, rfl⟩ (.cons ⟨_, rfl⟩ (.cons ⟨_, rfl⟩ (.cons ⟨_, rfl⟩ (.cons ⟨_, rfl⟩ (.cons ⟨_, rfl⟩ (.cons ⟨_, rfl⟩ (.cons ⟨_, rfl⟩ (.cons ⟨_, rfl⟩ (.cons ⟨_, rfl⟩ (.cons ⟨_, rfl⟩ (.cons ⟨_, rfl⟩ (.cons ⟨_, rfl⟩ (.cons ⟨_, rfl⟩ (.cons ⟨_, rfl⟩ (.cons ⟨_, rfl⟩ .nil)))))))))))))))))))))))))))))))⟩
  have g_TUPLE : ∃ u, mg "TUPLE" = some u ∧ RelV (.int 5) u := ⟨_, PySem.W.mg_of X G q_TUPLE, _, rfl⟩
  have g_WORD : ∃ u, mg "WORD" = some u ∧ RelV (.int 4) u := ⟨_, PySem.W.mg_of X G q_WORD, _, rfl⟩
  have g_TRUE : ∃ u, mg "TRUE" = some u ∧ RelV (.int 3) u := ⟨_, PySem.W.mg_of X G q_TRUE, _, rfl⟩
  have g_FALSE : ∃ u, mg "FALSE" = some u ∧ RelV (.int 2) u := ⟨_, PySem.W.mg_of X G q_FALSE, _, rfl⟩
  have g_NONE : ∃ u, mg "NONE" = some u ∧ RelV (.int 1) u := ⟨_, PySem.W.mg_of X G q_NONE, _, rfl⟩
  have g_INTEGER : ∃ u, mg "INTEGER" = some u ∧ RelV (.int 0) u := ⟨_, PySem.W.mg_of X G q_INTEGER, _, rfl⟩
  have g_DEEPEST : ∃ u, mg "DEEPEST" = some u ∧ RelV (.int 30) u := ⟨_, PySem.W.mg_of X G q_DEEPEST, _, rfl⟩
  refine ⟨PySem.W.fnOf "law" "law" (defArgs s_law) (defBody s_law) (defScope s_law) .none kV21 dc21 pm21 an21 cd21 ct21, fun s v => .of_eq rfl, fun base hb1 hb2 => ?_⟩
  have c_law_parse := ok_law_parse (P := l.prog) (w := w) (base := base) D_law_parse b_tuple b_range b_len b_isinstance b_int g_WORDS k_WORDS
  have c_law_rebuilt := ok_law_rebuilt (P := l.prog) (w := w) (base := base) D_law_rebuilt b_len c_law_parse
  have c_cell_at := ok_cell_at (P := l.prog) (w := w) (base := base) D_cell_at b_len x_BadRecord
  have c_word_at := ok_word_at (P := l.prog) (w := w) (base := base) D_word_at b_len g_WORDS k_WORDS x_BadRecord c_cell_at
  have c_record_at := all_record (P := l.prog) (w := w) (base := base) D_record_at g_TUPLE g_WORD g_TRUE g_FALSE g_NONE g_INTEGER x_BadRecord c_word_at c_cell_at fun n c => aux_tuple (P := l.prog) (w := w) (base := base) D_tuple_at b_tuple b_range b_len x_BadRecord c_cell_at n c
  have c_is_plain_integer := ok_is_plain_integer (P := l.prog) (w := w) (base := base) D_is_plain_integer b_isinstance b_bool b_int
  have c_rebuild := ok_rebuild (P := l.prog) (w := w) (base := base) D_rebuild b_len b_isinstance b_list g_DEEPEST x_BadRecord c_record_at c_is_plain_integer
  have c_law_equal := fun n => ok_equal (P := l.prog) (w := w) (base := base) D_law_equal D_law_all_equal b_isinstance b_list b_tuple b_bool b_int b_str b_len b_range n
  have c_law_depth := ok_law_depth (P := l.prog) (w := w) (base := base) D_law_depth b_isinstance b_tuple b_max
  have c_law_numbered := ok_law_numbered (P := l.prog) (w := w) (base := base) D_law_numbered b_isinstance b_bool b_int
  have c_law_asked := ok_law_asked (P := l.prog) (w := w) (base := base) D_law_asked b_isinstance b_list x_BadRecord x_BadDeal ki_BadRecord_BadDeal (c_law_equal 30) c_rebuild c_law_numbered c_law_depth c_law_rebuilt
  have c_law_mixed := ok_law_mixed (P := l.prog) (w := w) (base := base) D_law_mixed
  have c_law_numbers := ok_law_numbers (P := l.prog) (w := w) (base := base) D_law_numbers b_range c_law_mixed
  have c_law_cells := ok_law_cells (P := l.prog) (w := w) (base := base) D_law_cells b_len b_isinstance b_str b_int b_bool g_WORDS k_WORDS t_WORDS
  have c_law_draw := ok_law_draw (P := l.prog) (w := w) (base := base) D_law_draw b_len c_law_mixed
  have c_law_words := ok_law_words (P := l.prog) (w := w) (base := base) D_law_words
  have c_law_leaf := ok_law_leaf (P := l.prog) (w := w) (base := base) D_law_leaf b_len c_law_draw c_law_words
  have c_law_record := ok_law_record (P := l.prog) (w := w) (base := base) D_law_record b_tuple b_range c_law_leaf c_law_draw
  have c_law_spoilt := ok_law_spoilt (P := l.prog) (w := w) (base := base) D_law_spoilt b_len g_WORDS k_WORDS c_law_draw
  exact ok_law D_law b_range b_len c_law_numbers c_law_record c_law_cells c_law_draw c_law_spoilt c_law_asked c_law_leaf
theorem walk {l : PySem.W.OpenLaw} {q : Program} {loose : List Str} {XP : (Str → Option Value) → Heap → Prop} {YP : World → Heap → Prop} {d : DefRec} {K : Params → PySem.W.Frag} (hn : l.most = some 63) (hdf : d.params.defaults = [])
    (hY : ∀ (w : World) (h : Heap), YP w h → (K w.params).In h)
    (F : ∀ (w : World) (mg : Str → Option Value) (fa : Addr) (h : Heap), (K w.params).In h → h.Ns mainGlobals mg → mg d.name = some (.ref fa) →
      ∃ fd : FuncData, (∀ (s : Shared) (u : Value), BindsTo s fd ⟨[u], []⟩ [("script", u)]) ∧ ∀ base : Heap, (K w.params).In base → base.Ns mainGlobals mg → FnOk l.prog w (K w.params) mg base CX0 70 fa fd ["script"] (sp_law (K w.params))) :
    PySem.W.WalkO q loose XP YP l.row.toRowW d [] (fun f vs => PySem.call f vs) :=
  L2.walk_of (n := 63) (k := 70) (x := "script") (CX := fun _ => CX0) (sp := fun w => sp_law (K w.params)) hn (by decide) hdf ⟨rfl, by decide, by decide⟩ hY F (fun _ _ a ns hl _ hS => ⟨a, ns, rfl, hS, hl, fun _ => rfl⟩) fun _ _ _ _ _ z => z
end Nz
open PySem PySem.W PyProof.Rows
set_option maxRecDepth 100000 in
set_option maxHeartbeats 0 in
theorem PySem.Challenge.cw_wholecloth_k07_records_are_rebuilt_holds : PySem.Challenge.rw_wholecloth_k07_records_are_rebuilt.Holds := by
  w_on; o_law; k_head; (case hw => w_witness2)
  k_fill
  refine Nz.walk (l := PySem.Challenge.rw_wholecloth_k07_records_are_rebuilt) rfl rfl (fun w h Y => PySem.W.kIn_of Y) ?F
  case F =>
    intro w mg fa h KX G hmg
    refine' Nz.all_mk KX G hmg ?a0 ?l0 ?c0 ?k0 ?a1 ?l1 ?c1 ?k1 ?a2 ?l2 ?c2 ?k2 ?a3 ?l3 ?c3 ?k3 ?a4 ?l4 ?c4 ?k4 ?a5 ?l5 ?c5 ?k5 ?a6 ?l6 ?c6 ?k6 ?a7 ?l7 ?c7 ?k7 ?a8 ?l8 ?c8 ?k8 ?a9 ?l9 ?c9 ?k9 ?a10 ?l10 ?c10 ?k10 ?a11 ?l11 ?c11 ?k11 ?a12 ?l12 ?c12 ?k12 ?a13 ?l13 ?c13 ?k13 ?a14 ?l14 ?c14 ?k14 ?a15 ?l15 ?c15 ?k15 ?a16 ?l16 ?c16 ?k16 ?a17 ?l17 ?c17 ?k17 ?a18 ?l18 ?c18 ?k18 ?a19 ?l19 ?c19 ?k19 ?a20 ?l20 ?c20 ?k20 ?a21 ?l21 ?c21 ?k21 ?z_tuple ?z_range ?z_len ?z_isinstance ?z_int ?z_bool ?z_list ?z_str ?z_max ?aX_BadRecord ?xP_BadRecord ?kP_BadRecord ?bP_BadRecord ?tP_BadRecord ?hD_BadRecord ?sP_BadRecord ?hg_BadRecord ?hk_BadRecord ?ha_BadRecord ?hn_BadRecord ?ht_BadRecord ?hm_BadRecord ?aX_BadDeal ?xP_BadDeal ?kP_BadDeal ?bP_BadDeal ?tP_BadDeal ?hD_BadDeal ?sP_BadDeal ?hg_BadDeal ?hk_BadDeal ?ha_BadDeal ?hn_BadDeal ?ht_BadDeal ?hm_BadDeal ?ki_BadRecord_BadDeal ?q_WORDS ?w_WORDS ?q_TUPLE ?q_WORD ?q_TRUE ?q_FALSE ?q_NONE ?q_INTEGER ?q_DEEPEST
    (case a0 => k_is)
    (case l0 => k_is)
    (case c0 => k_is)
    (case k0 => k_is)
    (case a1 => k_is)
    (case l1 => k_is)
    (case c1 => k_is)
    (case k1 => k_is)
    (case a2 => k_is)
    (case l2 => k_is)
    (case c2 => k_is)
    (case k2 => k_is)
    (case a3 => k_is)
    (case l3 => k_is)
    (case c3 => k_is)
    (case k3 => k_is)
    (case a4 => k_is)
    (case l4 => k_is)
    (case c4 => k_is)
    (case k4 => k_is)
    (case a5 => k_is)
    (case l5 => k_is)
    (case c5 => k_is)
    (case k5 => k_is)
    (case a6 => k_is)
    (case l6 => k_is)
    (case c6 => k_is)
    (case k6 => k_is)
    (case a7 => k_is)
    (case l7 => k_is)
    (case c7 => k_is)
    (case k7 => k_is)
    (case a8 => k_is)
    (case l8 => k_is)
    (case c8 => k_is)
    (case k8 => k_is)
    (case a9 => k_is)
    (case l9 => k_is)
    (case c9 => k_is)
    (case k9 => k_is)
    (case a10 => k_is)
    (case l10 => k_is)
    (case c10 => k_is)
    (case k10 => k_is)
    (case a11 => k_is)
    (case l11 => k_is)
    (case c11 => k_is)
    (case k11 => k_is)
    (case a12 => k_is)
    (case l12 => k_is)
    (case c12 => k_is)
    (case k12 => k_is)
    (case a13 => k_is)
    (case l13 => k_is)
    (case c13 => k_is)
    (case k13 => k_is)
    (case a14 => k_is)
    (case l14 => k_is)
    (case c14 => k_is)
    (case k14 => k_is)
    (case a15 => k_is)
    (case l15 => k_is)
    (case c15 => k_is)
    (case k15 => k_is)
    (case a16 => k_is)
    (case l16 => k_is)
    (case c16 => k_is)
    (case k16 => k_is)
    (case a17 => k_is)
    (case l17 => k_is)
    (case c17 => k_is)
    (case k17 => k_is)
    (case a18 => k_is)
    (case l18 => k_is)
    (case c18 => k_is)
    (case k18 => k_is)
    (case a19 => k_is)
    (case l19 => k_is)
    (case c19 => k_is)
    (case k19 => k_is)
    (case a20 => k_is)
    (case l20 => k_is)
    (case c20 => k_is)
    (case k20 => k_is)
    (case a21 => k_is)
    (case l21 => k_is)
    (case c21 => k_is)
    (case k21 => k_is)
    (case z_tuple => k_is)
    (case z_range => k_is)
    (case z_len => k_is)
    (case z_isinstance => k_is)
    (case z_int => k_is)
    (case z_bool => k_is)
    (case z_list => k_is)
    (case z_str => k_is)
    (case z_max => k_is)
    (case aX_BadRecord => k_is)
    (case xP_BadRecord => k_exc)
    (case kP_BadRecord => k_is)
    (case bP_BadRecord => k_is)
    (case tP_BadRecord => k_is)
    (case hD_BadRecord => k_is)
    (case sP_BadRecord => first | rfl | k_is)
    (case hg_BadRecord => k_is)
    (case hk_BadRecord => k_is)
    (case ha_BadRecord => k_is)
    (case hn_BadRecord => k_is)
    (case ht_BadRecord => k_is)
    (case hm_BadRecord => k_is)
    (case aX_BadDeal => k_is)
    (case xP_BadDeal => k_exc)
    (case kP_BadDeal => k_is)
    (case bP_BadDeal => k_is)
    (case tP_BadDeal => k_is)
    (case hD_BadDeal => k_is)
    (case sP_BadDeal => first | rfl | k_is)
    (case hg_BadDeal => k_is)
    (case hk_BadDeal => k_is)
    (case ha_BadDeal => k_is)
    (case hn_BadDeal => k_is)
    (case ht_BadDeal => k_is)
    (case hm_BadDeal => k_is)
    (case ki_BadRecord_BadDeal => refine Nz.kit_no (by first | rfl | decide) ?_ ?_ ?_ <;> k_is)
    (case q_WORDS => k_is)
    (case w_WORDS => k_is)
    (case q_TUPLE => k_is)
    (case q_WORD => k_is)
    (case q_TRUE => k_is)
    (case q_FALSE => k_is)
    (case q_NONE => k_is)
    (case q_INTEGER => k_is)
    (case q_DEEPEST => k_is)
