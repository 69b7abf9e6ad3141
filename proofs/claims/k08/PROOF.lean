import PyProof.Rows.All
import Wide.All
import OpenK.AllK
import Wide.FinOn
import HandS.ForMost
import HandS.IsInst
import HandS.TupAny
import HandS.Flow
import HandS.SortInts
import HandS.More
import HandS.Exc
import HandS.TryOnly
import HandS.ExcOwn
import HandS.WordsExc
import HandS.ExcIs
import HandS.Strs
import HandS.SetBool
import HandS.TupSets
import HandS.SetFor
import HandS.Deep
import HandS.Property
import HandS.Zip
import HandS.SortKw
import HandS.Defaults
import KE.DataMinMax
import KE.SortData
import KE.DatumOrd
import PySem.Challenge.RW_wholecloth_k08_disk
set_option Elab.async false
set_option linter.all false
set_option maxRecDepth 100000
set_option maxHeartbeats 4000000
/-! The walk's own layer: M (what is owned and may change), G (what stands for good), H (both). -/
namespace Nz
open PySem L2 PySem.Spec PyProof.Rows

/-! ### heaps -/
abbrev Ex (G G' : Hp) : Prop := Same G G'
structure J (M G H : Hp) : Prop where
  m : Same M H
  g : Same G H
  d : ∀ a o, M a = some o → G a = none
theorem upd_ne' {H : Hp} {a b : Addr} {o u : HO} (e : H b = some u) (h : b ≠ a) : upd H a o b = some u := by rw [upd_ne h]; exact e
theorem Ex.new {G : Hp} {t : Addr} {o : HO} (h : G t = none) : Ex G (upd G t o) := fun a u e => by
  rw [upd_ne (ne_of_none e h)]; exact e
section
variable {M G H : Hp} {t d : Addr} {o o' : HO}
theorem J.freeM (j : J M G H) (h : H t = none) : M t = none := j.m.free h
theorem J.freeG (j : J M G H) (h : H t = none) : G t = none := j.g.free h
theorem J.newG (j : J M G H) (h : H t = none) : J M (upd G t o) (upd H t o) where
  m := fun a u e => by rw [upd_ne (ne_of_none (j.m a u e) h)]; exact j.m a u e
  g := fun a u e => by
    by_cases q : a = t
    · subst q; rw [upd_same] at e ⊢; exact e
    · rw [upd_ne q] at e ⊢; exact j.g a u e
  d := fun a u e => by rw [upd_ne (ne_of_none (j.m a u e) h)]; exact j.d a u e
theorem J.newM (j : J M G H) (h : H t = none) : J (upd M t o) G (upd H t o) where
  g := fun a u e => by rw [upd_ne (ne_of_none (j.g a u e) h)]; exact j.g a u e
  m := fun a u e => by
    by_cases q : a = t
    · subst q; rw [upd_same] at e ⊢; exact e
    · rw [upd_ne q] at e ⊢; exact j.m a u e
  d := fun a u e => by
    by_cases q : a = t
    · subst q; exact j.freeG h
    · rw [upd_ne q] at e; exact j.d a u e
theorem J.put (j : J M G H) (h : M t = some o) : J (upd M t o') G (upd H t o') where
  g := fun a u e => by
    have q : a ≠ t := fun z => by subst z; rw [j.d a o h] at e; cases e
    rw [upd_ne q]; exact j.g a u e
  m := fun a u e => by
    by_cases q : a = t
    · subst q; rw [upd_same] at e ⊢; exact e
    · rw [upd_ne q] at e ⊢; exact j.m a u e
  d := fun a u e => by
    by_cases q : a = t
    · subst q; exact j.d a o h
    · rw [upd_ne q] at e; exact j.d a u e
theorem J.freeze (j : J (upd M t o) G H) (h : M t = none) : J M (upd G t o) H where
  m := fun a u e => j.m a u (by rw [upd_ne (ne_of_none e h)]; exact e)
  g := fun a u e => by
    by_cases q : a = t
    · subst q; rw [upd_same] at e; cases e; exact j.m a _ upd_same
    · rw [upd_ne q] at e; exact j.g a u e
  d := fun a u e => by
    have q : a ≠ t := ne_of_none e h
    rw [upd_ne q]; exact j.d a u (by rw [upd_ne q]; exact e)
theorem J.freezeG (j : J (upd M t o) G H) : G t = none := j.d t o upd_same
theorem J.ex (j : J M G H) {H' : Hp} (e : Same H H') : J M G H' := ⟨j.m.trans e, j.g.trans e, j.d⟩
theorem J.start (H : Hp) : J (fun _ => none) H H := ⟨fun _ _ e => (nomatch e), Same.refl H, fun _ _ e => (nomatch e)⟩
end

/-! ### reading along -/
theorem rd_same {G G' : Hp} {a : Addr} {u : HO} (e : Same G G') (h : Rd G a u) : Rd G' a u := by
  rcases h with h | ⟨o, h⟩
  · exact .inl (e a _ h)
  · exact .inr ⟨o, e a _ h⟩
section
variable {K : PySem.W.Frag} {G G' : Hp} {a : Addr} {xs : List V}
theorem sl_of (h : G a = some (.lst xs)) : SqL K G a xs := .inl (.inl h)
theorem st_of (h : G a = some (.tup xs)) : SqT K G a xs := .inl (.inl h)
theorem sl_mono (e : Same G G') (h : SqL K G a xs) : SqL K G' a xs := h.elim (fun h => .inl (rd_same e h)) .inr
theorem st_mono (e : Same G G') (h : SqT K G a xs) : SqT K G' a xs := h.elim (fun h => .inl (rd_same e h)) .inr
end

/-! ### M but for one cell -/
def Ag (p : Addr) (M M' : Hp) : Prop := ∀ b, b ≠ p → M' b = M b
theorem Ag.refl (p : Addr) (M : Hp) : Ag p M M := fun _ _ => rfl
theorem Ag.trans {p : Addr} {M M1 M2 : Hp} (a : Ag p M M1) (b : Ag p M1 M2) : Ag p M M2 := fun c h => (b c h).trans (a c h)
theorem Ag.upd {p : Addr} {M : Hp} {o : HO} : Ag p M (upd M p o) := fun _ h => upd_ne h

/-- M without a cell -/
def del (M : Hp) (L : Addr) : Hp := fun b => if b = L then none else M b
theorem del_same {M : Hp} {L : Addr} : del M L L = none := by unfold del; rw [if_pos rfl]
theorem del_ne {M : Hp} {L b : Addr} (h : b ≠ L) : del M L b = M b := by unfold del; rw [if_neg h]
theorem J.seal {M G H : Hp} {L : Addr} {o : HO} (j : J M G H) (h : M L = some o) : J (del M L) (upd G L o) H where
  m := fun a u e => by
    by_cases q : a = L
    · subst q; rw [del_same] at e; cases e
    · rw [del_ne q] at e; exact j.m a u e
  g := fun a u e => by
    by_cases q : a = L
    · subst q; rw [upd_same] at e; cases e; exact j.m _ _ h
    · rw [upd_ne q] at e; exact j.g a u e
  d := fun a u e => by
    by_cases q : a = L
    · subst q; rw [del_same] at e; cases e
    · rw [del_ne q] at e; rw [upd_ne q]; exact j.d a u e
theorem J.out {M G H : Hp} {L : Addr} {o : HO} (j : J M G H) (h : M L = some o) : G L = none := j.d L o h
theorem J.drop {M G H : Hp} (L : Addr) (j : J M G H) : J (del M L) G H where
  m := fun a u e => by
    by_cases q : a = L
    · subst q; rw [del_same] at e; cases e
    · rw [del_ne q] at e; exact j.m a u e
  g := j.g
  d := fun a u e => by
    by_cases q : a = L
    · subst q; rw [del_same] at e; cases e
    · rw [del_ne q] at e; exact j.d a u e
/-- what stood for good is owned again, where G0 knew nothing of it -/
theorem J.thaw {M G G0 H : Hp} {b : Addr} {u : HO} (j : J M G H) (e : Ex G0 G) (h : G b = some u) (hb : G0 b = none) : J (upd M b u) G0 H where
  m := fun a x q => by
    by_cases z : a = b
    · subst z; rw [upd_same] at q; cases q; exact j.g _ _ h
    · rw [upd_ne z] at q; exact j.m a x q
  g := fun a x q => j.g a x (e a x q)
  d := fun a x q => by
    by_cases z : a = b
    · subst z; exact hb
    · rw [upd_ne z] at q
      cases r : G0 a with
      | none => rfl
      | some y => have := j.d a x q; rw [e a y r] at this; cases this
theorem J.less {M G G0 H : Hp} (j : J M G H) (e : Ex G0 G) : J M G0 H where
  m := j.m
  g := fun a x q => j.g a x (e a x q)
  d := fun a x q => by
    cases r : G0 a with
    | none => rfl
    | some y => have := j.d a x q; rw [e a y r] at this; cases this
theorem J.own {M G H : Hp} {b : Addr} {u : HO} (j : J M G H) (h : H b = some u) (hb : G b = none) : J (upd M b u) G H where
  m := fun a x q => by
    by_cases z : a = b
    · subst z; rw [upd_same] at q; cases q; exact h
    · rw [upd_ne z] at q; exact j.m a x q
  g := j.g
  d := fun a x q => by
    by_cases z : a = b
    · subst z; exact hb
    · rw [upd_ne z] at q; exact j.d a x q
/-- M but for two cells -/
def Ag2 (p L : Addr) (M M' : Hp) : Prop := ∀ b, b ≠ p → b ≠ L → M' b = M b
theorem Ag2.refl (p L : Addr) (M : Hp) : Ag2 p L M M := fun _ _ _ => rfl
theorem Ag2.upd {p L : Addr} {M M' : Hp} {o : HO} (h : Ag2 p L M M') : Ag2 p L M (upd M' L o) := fun b h1 h2 => (upd_ne h2).trans (h b h1 h2)
theorem Ag2.ag {p L : Addr} {M M1 M2 : Hp} (h : Ag2 p L M M1) (a : Ag p M1 M2) : Ag2 p L M M2 := fun b h1 h2 => (a b h1).trans (h b h1 h2)
theorem Ag2.del {p L : Addr} {M M' : Hp} (h : Ag2 p L M M') (n : M L = none) : Ag p M (del M' L) := fun b h1 => by
  by_cases q : b = L
  · subst q; rw [del_same, n]
  · rw [del_ne q]; exact h b h1 q
theorem Ag.del_eq {L : Addr} {M M2 : Hp} (a : Ag L M M2) (n : M L = none) : del M2 L = M := by
  funext b
  by_cases q : b = L
  · subst q; rw [del_same, n]
  · rw [del_ne q]; exact a b q
theorem Ag.at {p b : Addr} {M M' : Hp} {o : HO} (a : Ag p M M') (e : M b = some o) (h : b ≠ p) : M' b = some o := (a b h).trans e

/-! ### promises: al: what is known of the arguments, then J; the end likewise -/
def Sg {α : Type} (pre : α → List V → Hp → Hp → Prop) (post : α → Hp → Hp → V → Hp → Hp → Prop) : Sp := fun vs H Q _ =>
  ∃ a M G, J M G H ∧ pre a vs M G ∧ ∀ v M' G' H', J M' G' H' → Ex G G' → post a M G v M' G' → Q v H'
theorem w_sg {α : Type} {pre : α → List V → Hp → Hp → Prop} {post : α → Hp → Hp → V → Hp → Hp → Prop} {vs : List V} {M G H : Hp} {Q : VK} {E : XK} (a : α) (j : J M G H) (hp : pre a vs M G)
    (k : ∀ v M' G' H', J M' G' H' → Ex G G' → post a M G v M' G' → Q v H') : Sg pre post vs H Q E := ⟨a, M, G, j, hp, k⟩

/-! ### a def under its name -/
structure Dn (K : PySem.W.Frag) (mg : Str → Option Value) (x : Str) (st : Stmt) (ps : List Str) (f : Addr) (fd : FuncData) : Prop where
  fn : Fun K x x st f fd
  mgf : mg x = some (.ref f)
  kp : PySem.W.keepIn K (.ref f) = true
  bn : Binds K fd ps []
structure Cal (P : Program) (w : World) (K : PySem.W.Frag) (mg : Str → Option Value) (base : Heap) (CX : CXT) (k : Nat) (x : Str) (sp : Sp) : Prop where
  ex : ∃ (f : Addr) (fd : FuncData) (ps : List Str), FnOk P w K mg base CX k f fd ps sp ∧ mg x = some (.ref f) ∧ PySem.W.keepIn K (.ref f) = true ∧ Binds K fd ps []
section
variable {P : Program} {w : World} {K : PySem.W.Frag} {mg : Str → Option Value} {base : Heap} {CX : CXT}
theorem Dn.cal {x : Str} {st : Stmt} {ps : List Str} {f : Addr} {fd : FuncData} {k : Nat} {sp : Sp} (D : Dn K mg x st ps f fd) (F : FnOk P w K mg base CX k f fd ps sp) : Cal P w K mg base CX k x sp := ⟨f, fd, ps, F, D.mgf, D.kp, D.bn⟩
theorem Cal.mono {x : Str} {j k : Nat} {sp : Sp} (c : Cal P w K mg base CX j x sp) (h : j ≤ k) : Cal P w K mg base CX k x sp := by
  obtain ⟨f, fd, ps, F, a, b, d⟩ := c.ex
  exact ⟨f, fd, ps, F.mono h, a, b, d⟩
/-- a def that lets nothing out: its body -/
theorem Dn.ok {x : Str} {st : Stmt} {ps : List Str} {f : Addr} {fd : FuncData} {N : List Str} {k : Nat} {sp : Sp} (D : Dn K mg x st ps f fd) (S : FnScope N ps (defScope st)) (len : ∀ vs H Q E, sp vs H Q E → vs.length = ps.length)
    (hbody : ∀ (cdv : Value) (A : Around) (outer : List Env) (s : Shared) (H : Hp) (vs : List V) (Q : VK) (E : XK), Room k (A.deeper (envOfC x (defScope st) s.heap.objs.size f cdv)) → sp vs H Q E →
      ∃ t, PSs (cxOf CX0 P w K mg base N x (defScope st) f cdv A outer s H E).nox (defBody st) t ∧ t { nx := fun _ H' => Q .non H', rt := Q } (start N vs) H) : Cal P w K mg base CX0 (k + 1) x sp :=
  D.cal (D.fn.ok S len hbody)
end
section
variable {X : Cx} {CX : CXT} {k j : Nat} {x : Str} {sp : Sp} {p pos : Pos} {e : Expr} {es : List Expr} {t : TA} {E : XK}
theorem pe_cal (c : Cal X.prog X.w X.K X.mg X.base CX0 k x sp) (hr : Room j X.A) (hk : k ≤ j) (hg : Gl X x) (ha : PA X (e :: es) t)
    (hdb : (x == ("__debug__" : Str)) = false := by decide) (he : starEach (e :: es) X.env = (false, eval e X.env) :: starEach es X.env := by rfl) (hpl : (backTo pos (starEach es X.env)).any (·.1) = false := by rfl) :
    PE X (.Call (.Name x p) (e :: es) [] pos) (tCall sp [] E0 t) := by
  obtain ⟨f, fd, ps, F, hm, kp, b⟩ := c.ex
  exact pe_call F (hr.mono hk) hg hm kp b .nil pass0 ha hdb he hpl
theorem pe_cal0 (c : Cal X.prog X.w X.K X.mg X.base CX0 k x sp) (hr : Room j X.A) (hk : k ≤ j) (hg : Gl X x)
    (hdb : (x == ("__debug__" : Str)) = false := by decide) : PE X (.Call (.Name x p) [] [] pos) (tCall sp [] E0 tNil) := by
  obtain ⟨f, fd, ps, F, hm, kp, b⟩ := c.ex
  exact pe_call0 F (hr.mono hk) hg hm kp b .nil pass0 hdb
/-! ### operators whatever their operands are -/
def uAdd (K : PySem.W.Frag) : R2 := fun x y H Q => rI0 (fun i j => .int (i + j)) x y H Q ∨ (rCat x y H Q ∨ rCatA K x y H Q)
theorem op_uAdd : OpR X (binaryOp .Add) (uAdd X.K) := op_add.or (op_cat.or op_catA)
def uEq (K : PySem.W.Frag) : R2 := fun x y H Q => rEq x y H Q ∨ rEqD K x y H Q
theorem op_uEq (hr : Room j X.A) : OpR X (compareOp .Eq) (uEq X.K) := op_eq.or (op_eqD hr.units)
def uNe (K : PySem.W.Frag) : R2 := fun x y H Q => rNe x y H Q ∨ rNeD K x y H Q
theorem op_uNe (hr : Room j X.A) : OpR X (compareOp .NotEq) (uNe X.K) := op_ne.or (op_neD hr.units)
def uIx (K : PySem.W.Frag) : R2 := fun x y H Q => rIxL K x y H Q ∨ rIxT K x y H Q
theorem ix_u : IxR X (uIx X.K) := ix_list.or ix_tup
def uSl (K : PySem.W.Frag) : V → Option Int → Option Int → Hp → VK → Prop := fun x lo hi H Q => rSlL K x lo hi H Q ∨ rSlA K x lo hi H Q
theorem sl_u : SlR X (uSl X.K) := sl_list.or sl_tupA
def uMul : R2 := fun x y H Q => rI CMul (fun i j => .int (i * j)) x y H Q ∨ rRep x y H Q
theorem op_uMul : OpR X (binaryOp .Mult) uMul := op_mul.or op_rep
def uLen (K : PySem.W.Frag) : List V → Hp → VK → Prop := fun xs H Q => (∃ p ys, xs = [.ref p] ∧ (SqL K H p ys ∨ SqT K H p ys) ∧ Q (.int ys.length) H) ∨ (∃ a kvs, xs = [V.ref a] ∧ H a = some (.dK kvs) ∧ Q (.int kvs.length) H)
theorem call_uLen : CallR X (.builtin "len") (uLen X.K) := call_len_seq.or call_lenD
end

theorem bt_int : bootBuiltins "int" = some (.type "int") := by decide +kernel
theorem bt_str : bootBuiltins "str" = some (.type "str") := by decide +kernel
theorem bt_bool : bootBuiltins "bool" = some (.type "bool") := by decide +kernel
theorem bt_list : bootBuiltins "list" = some (.type "list") := by decide +kernel
theorem bt_tuple : bootBuiltins "tuple" = some (.type "tuple") := by decide +kernel
theorem bt_dict : bootBuiltins "dict" = some (.type "dict") := by decide +kernel
theorem bt_set : bootBuiltins "set" = some (.type "set") := by decide +kernel
theorem bt_isinstance : bootBuiltins "isinstance" = some (.builtin "isinstance") := by decide +kernel
theorem bt_min : bootBuiltins "min" = some (.builtin "min") := by decide +kernel
theorem bt_max : bootBuiltins "max" = some (.builtin "max") := by decide +kernel
theorem bt_sorted : bootBuiltins "sorted" = some (.builtin "sorted") := by decide +kernel
theorem bt_sum : bootBuiltins "sum" = some (.builtin "sum") := by decide +kernel
theorem bt_abs : bootBuiltins "abs" = some (.builtin "abs") := by decide +kernel
theorem pe_gk {X : Cx} {x : Str} {pos : Pos} {v : V} (hg : Gl X x) (h : ∃ u, X.mg x = some u ∧ RelV v u) (hd : (x == ("__debug__" : Str)) = false := by decide) : PE X (.Name x pos) (tC v) := by
  obtain ⟨u, hm, r⟩ := h
  exact pe_glob hg hm r hd

section
variable {X : Cx} {j : Nat} {K : PySem.W.Frag}
theorem op_uAddK (h : X.K = K) : OpR X (binaryOp .Add) (uAdd K) := h ▸ op_uAdd
theorem op_uEqK (h : X.K = K) (hr : Room j X.A) : OpR X (compareOp .Eq) (uEq K) := h ▸ op_uEq hr
theorem op_uNeK (h : X.K = K) (hr : Room j X.A) : OpR X (compareOp .NotEq) (uNe K) := h ▸ op_uNe hr
theorem ix_uK (h : X.K = K) : IxR X (uIx K) := h ▸ ix_u
theorem sl_uK (h : X.K = K) : SlR X (uSl K) := h ▸ sl_u
theorem call_uLenK (h : X.K = K) : CallR X (.builtin "len") (uLen K) := h ▸ call_uLen
theorem call_isiK' (h : X.K = K) : CallR X (.builtin "isinstance") (rIsi K) := h ▸ call_isi
theorem op_inK (h : X.K = K) : OpR X (compareOp .In) (rIn K false) := h ▸ op_in_seq
theorem op_notInK (h : X.K = K) : OpR X (compareOp .NotIn) (rIn K true) := h ▸ op_notIn_seq
end

/-! ### the steps -/
section
variable {K : PySem.W.Frag} {M G H : Hp} {σ : L2.St} {i : Nat} {v x y : V} {ta tb tc te : TE} {r r' : R2} {Q : VK} {D : Ends} {t u : TS} {c c' : TT} {QB : Bool → Hp → Prop} {g : TG} {a b p : Addr} {xs ys : List V} {m n : Int} {QL : List V → Hp → Prop}
theorem w_var (h : σ[i]? = some (some v)) (q : Q v H) : tVar i σ H Q := ⟨v, h, q⟩
theorem w_c (q : Q v H) : tC v σ H Q := q
theorem w_op (h : ta σ H fun x H1 => tb σ H1 fun y H2 => r x y H2 Q) : tOp r ta tb σ H Q := h
theorem w_un {r : V → Hp → VK → Prop} (h : ta σ H fun x H1 => r x H1 Q) : tUn r ta σ H Q := h
theorem w_chain (h : ta σ H fun x H1 => tb σ H1 fun y H2 => r x y H2 fun z H3 => ∃ k, z = .bl k ∧ (if k = true then tc σ H3 fun w' H4 => r' y w' H4 Q else Q (.bl false) H3)) : tChain r r' ta tb tc σ H Q := h
theorem w_test (h : ta σ H fun x H' => ∃ k, x = .bl k ∧ QB k H') : tTest ta σ H QB := h
theorem w_tB (h : ta σ H fun x H' => ∃ k, x = .bl k ∧ QB k H') : tB ta σ H QB := h
theorem w_bl {P : Bool → Prop} {b : Bool} (q : P b) : ∃ k, V.bl b = .bl k ∧ P k := ⟨b, rfl, q⟩
theorem w_and (h : c σ H fun k H1 => if k = true then c' σ H1 QB else QB false H1) : tAnd c c' σ H QB := h
theorem w_or (h : c σ H fun k H1 => if k = true then QB true H1 else c' σ H1 QB) : tOr c c' σ H QB := h
theorem w_not (h : c σ H fun k H1 => QB (!k) H1) : tNot c σ H QB := h
theorem w_andV (h : ta σ H fun x H1 => ∃ k, x = .bl k ∧ if k = true then tb σ H1 Q else Q (.bl false) H1) : tAndV ta tb σ H Q := h
theorem w_orV (h : ta σ H fun x H1 => ∃ k, x = .bl k ∧ if k = true then Q (.bl true) H1 else tb σ H1 Q) : tOrV ta tb σ H Q := h
theorem w_notV (h : ta σ H fun x H1 => ∃ k, x = .bl k ∧ Q (.bl (!k)) H1) : tNotV ta σ H Q := h
theorem w_ifE (h : c σ H fun k H1 => if k = true then ta σ H1 Q else tb σ H1 Q) : tIf c ta tb σ H Q := h
theorem w_isN (h : ta σ H fun x H1 => Q (.bl (decide (x = .non))) H1) : tIsN ta σ H Q := h
theorem w_notN (h : ta σ H fun x H1 => Q (.bl (!decide (x = .non))) H1) : tNotN ta σ H Q := h
/- statements -/
theorem w_seq (h : t { D with nx := u D } σ H) : tSeq t u D σ H := h
theorem w_next (h : D.nx σ H) : tNext D σ H := h
theorem w_ret (h : te σ H D.rt) : tRet te D σ H := h
theorem w_retN (h : D.rt .non H) : tRetN D σ H := h
theorem w_if (h : c σ H fun b H1 => if b = true then t D σ H1 else u D σ H1) : tIfS c t u D σ H := h
theorem w_asg (h : te σ H fun x H1 => g x σ H1 D.nx) : tAsg te g D σ H := h
theorem w_drop (h : te σ H fun _ H1 => D.nx σ H1) : tDrop te D σ H := h
theorem w_gName {R : L2.St → Hp → Prop} (h : R (σ.set i (some v)) H) : gName i v σ H R := h
theorem w_gSub {s : TSet} {to ti : TE} {R : L2.St → Hp → Prop} (h : to σ H fun o H1 => ti σ H1 fun i H2 => s o i v H2 fun H3 => R σ H3) : gSub to ti s v σ H R := h
theorem w_gTup {gs : TGs} {R : L2.St → Hp → Prop} (j : J M G H) (h : SqT K G a xs) (l : xs.length = i) (q : gs xs σ H R) : gTup K i gs (.ref a) σ H R := ⟨a, xs, rfl, st_mono j.g h, l, q⟩
theorem w_gCons {g : TG} {gs : TGs} {R : L2.St → Hp → Prop} (q : g v σ H fun σ' H' => gs xs σ' H' R) : gCons g gs (v :: xs) σ H R := ⟨v, xs, rfl, q⟩
theorem w_gNil {R : L2.St → Hp → Prop} (q : R σ H) : gNil [] σ H R := ⟨rfl, q⟩
/- arguments, calls -/
theorem w_anil (q : QL [] H) : tNil σ H QL := q
theorem w_acons {tr : TA} (h : ta σ H fun x H1 => tr σ H1 fun xs H2 => QL (x :: xs) H2) : tCons ta tr σ H QL := h
theorem w_call {sp : Sp} {dvs : List V} {E : XK} {tr : TA} (h : tr σ H fun vs H1 => sp (vs ++ dvs) H1 Q E) : tCall sp dvs E tr σ H Q := h
theorem w_cb {r : List V → Hp → VK → Prop} {tr : TA} (h : tr σ H fun vs H1 => r vs H1 Q) : tCB r tr σ H Q := h
def NewO (o : HO) (n : Nat) (H : Hp) (Q : VK) : Prop := n ≤ sizeLine ∧ ∀ p, H p = none → Q (.ref p) (upd H p o)
theorem w_tup {tr : TA} (h : tr σ H fun xs H1 => NewO (.tup xs) xs.length H1 Q) : tTup tr σ H Q := h
theorem w_lst {tr : TA} (h : tr σ H fun xs H1 => NewO (.lst xs) xs.length H1 Q) : tLst tr σ H Q := h
theorem sz_le {n : Nat} (h : n ≤ 1000000) : n ≤ sizeLine := Nat.le_trans h (by decide)
theorem sz_lt {n : Nat} (h : n < 1000000) : n < sizeLine := Nat.lt_of_lt_of_le h (by decide)
/-- a new object that stands for good -/
theorem w_new {o : HO} {n : Nat} (j : J M G H) (z : n ≤ sizeLine) (k : ∀ p G' H', J M G' H' → Ex G G' → G' p = some o → G p = none → Q (.ref p) H') : NewO o n H Q :=
  ⟨z, fun p h => k p _ _ (j.newG h) (Ex.new (j.freeG h)) upd_same (j.freeG h)⟩
/-- .. that may change -/
theorem w_newM {o : HO} {n : Nat} (j : J M G H) (z : n ≤ sizeLine) (k : ∀ p H', J (upd M p o) G H' → M p = none → G p = none → Q (.ref p) H') : NewO o n H Q :=
  ⟨z, fun p h => k p _ (j.newM h) (j.freeM h) (j.freeG h)⟩
/- operators -/
theorem w_I0 {f : Int → Int → V} (q : Q (f m n) H) : rI0 f (.int m) (.int n) H Q := ⟨m, n, rfl, rfl, q⟩
theorem w_I {C : Int → Int → Prop} {f : Int → Int → V} (hc : C m n) (q : Q (f m n) H) : rI C f (.int m) (.int n) H Q := ⟨m, n, rfl, rfl, hc, q⟩
theorem w_U {f : Int → V} (q : Q (f m) H) : rU f (.int m) H Q := ⟨m, rfl, q⟩
theorem w_addI (q : Q (.int (m + n)) H) : uAdd K (.int m) (.int n) H Q := .inl (w_I0 q)
theorem w_mulI (hc : CMul m n) (q : Q (.int (m * n)) H) : uMul (.int m) (.int n) H Q := .inl (w_I hc q)
theorem w_eqI (q : Q (.bl (decide (m = n))) H) : uEq K (.int m) (.int n) H Q := .inl ⟨rfl, by
  have e : decide (V.int m = V.int n) = decide (m = n) := decide_eq_decide.mpr ⟨fun h => V.int.inj h, fun h => h ▸ rfl⟩
  rw [e]; exact q⟩
theorem w_neI (q : Q (.bl (!decide (m = n))) H) : uNe K (.int m) (.int n) H Q := .inl ⟨rfl, by
  have e : decide (V.int m = V.int n) = decide (m = n) := decide_eq_decide.mpr ⟨fun h => V.int.inj h, fun h => h ▸ rfl⟩
  rw [e]; exact q⟩
theorem w_eqV {k : Bool} (hs : scal x y = true) (e : decide (x = y) = k) (q : Q (.bl k) H) : uEq K x y H Q := .inl ⟨hs, by rw [e]; exact q⟩
theorem w_eqS {k : Bool} {s1 s2 : Str} (e : decide (s1 = s2) = k) (q : Q (.bl k) H) : uEq K (.str s1) (.str s2) H Q := .inl ⟨rfl, by
  have e' : decide (V.str s1 = V.str s2) = decide (s1 = s2) := decide_eq_decide.mpr ⟨fun h => V.str.inj h, fun h => h ▸ rfl⟩
  rw [e', e]; exact q⟩
theorem w_neV {k : Bool} (hs : scal x y = true) (e : (!decide (x = y)) = k) (q : Q (.bl k) H) : uNe K x y H Q := .inl ⟨hs, by rw [e]; exact q⟩
theorem w_ixL (j : J M G H) (h : SqL K G a xs) (e : atI xs m = some v) (q : Q v H) : uIx K (.ref a) (.int m) H Q := .inl ⟨a, xs, m, v, rfl, rfl, sl_mono j.g h, e, q⟩
theorem w_ixT (j : J M G H) (h : SqT K G a xs) (e : atI xs m = some v) (q : Q v H) : uIx K (.ref a) (.int m) H Q := .inr ⟨a, xs, m, v, rfl, rfl, st_mono j.g h, e, q⟩
theorem w_ixM (j : J M G H) (h : M a = some (.lst xs)) (e : atI xs m = some v) (q : Q v H) : uIx K (.ref a) (.int m) H Q := .inl ⟨a, xs, m, v, rfl, rfl, .inl (.inl (j.m a _ h)), e, q⟩
theorem w_lenL (j : J M G H) (h : SqL K G a xs) (q : Q (.int xs.length) H) : uLen K [.ref a] H Q := .inl ⟨a, xs, rfl, .inl (sl_mono j.g h), q⟩
theorem w_lenT (j : J M G H) (h : SqT K G a xs) (q : Q (.int xs.length) H) : uLen K [.ref a] H Q := .inl ⟨a, xs, rfl, .inr (st_mono j.g h), q⟩
theorem w_lenM (j : J M G H) (h : M a = some (.lst xs)) (q : Q (.int xs.length) H) : uLen K [.ref a] H Q := .inl ⟨a, xs, rfl, .inl (.inl (.inl (j.m a _ h))), q⟩
theorem w_setM {QH : Hp → Prop} {jx : Nat} (j : J M G H) (h : M a = some (.lst xs)) (e : ixN xs.length m = some jx) (q : ∀ H', J (upd M a (.lst (xs.set jx v))) G H' → QH H') : rSetL (.ref a) (.int m) v H QH :=
  ⟨a, xs, m, jx, rfl, rfl, j.m a _ h, e, q _ (j.put h)⟩
/- methods -/
theorem w_bm {T : String} {r : V → List V → Hp → VK → Prop} {tr : TA} (h : ta σ H fun x H1 => tyV K T x H1 ∧ tr σ H1 fun xs H2 => r x xs H2 Q) : tBM K T r ta tr σ H Q := h
theorem w_appendM (j : J M G H) (h : M a = some (.lst xs)) (z : xs.length < sizeLine) (q : ∀ H', J (upd M a (.lst (xs ++ [v]))) G H' → Q .non H') : rAppend (.ref a) [v] H Q :=
  ⟨a, xs, v, rfl, rfl, j.m a _ h, z, q _ (j.put h)⟩
theorem ty_listM (j : J M G H) (h : M a = some (.lst xs)) : tyV K "list" (.ref a) H := .inl ⟨rfl, xs, .inl (.inl (j.m a _ h))⟩
theorem ty_listG (j : J M G H) (h : SqL K G a xs) : tyV K "list" (.ref a) H := .inl ⟨rfl, xs, sl_mono j.g h⟩
/- two ways -/
theorem w_two {k : Bool} {A B : Prop} (h1 : k = true → A) (h2 : k = false → B) : if k = true then A else B := by
  cases k with
  | true => rw [if_pos rfl]; exact h1 rfl
  | false => rw [if_neg Bool.false_ne_true]; exact h2 rfl
theorem w_dec {p : Prop} [Decidable p] {A B : Prop} (h1 : p → A) (h2 : ¬ p → B) : if decide p = true then A else B := w_two (fun h => h1 (of_decide_eq_true h)) fun h => h2 (of_decide_eq_false h)
theorem w_decN {p : Prop} [Decidable p] {A B : Prop} (h1 : ¬ p → A) (h2 : p → B) : if (!decide p) = true then A else B := w_two (fun h => h1 (of_decide_eq_false (by simpa using h))) fun h => h2 (of_decide_eq_true (by simpa using h))
theorem w_T {A B : Prop} (h : A) : if true = true then A else B := by rw [if_pos rfl]; exact h
theorem w_F {A B : Prop} (h : B) : if false = true then A else B := by rw [if_neg Bool.false_ne_true]; exact h
theorem w_nt {A B : Prop} (h : B) : if (!true) = true then A else B := w_F h
theorem w_nf {A B : Prop} (h : A) : if (!false) = true then A else B := w_T h
theorem w_dT {p : Prop} [Decidable p] {A B : Prop} (h : p) (q : A) : if decide p = true then A else B := by rw [decide_eq_true h]; exact w_T q
theorem w_dF {p : Prop} [Decidable p] {A B : Prop} (h : ¬ p) (q : B) : if decide p = true then A else B := by rw [decide_eq_false h]; exact w_F q
theorem w_nT {p : Prop} [Decidable p] {A B : Prop} (h : p) (q : B) : if (!decide p) = true then A else B := by rw [decide_eq_true h]; exact w_F q
theorem w_nF {p : Prop} [Decidable p] {A B : Prop} (h : ¬ p) (q : A) : if (!decide p) = true then A else B := by rw [decide_eq_false h]; exact w_T q
/- loops -/
theorem w_forL {tl : TE} {a : Addr} (h : tl σ H fun v H1 => v = .ref a ∧ SqL K H1 a xs ∧ ∃ Pv : Nat → L2.St → Hp → Prop, Pv 0 σ H1 ∧ (∀ i σ H, i ≤ xs.length → Pv i σ H → SqL K H a xs) ∧
    (∀ i x σ H, xs[i]? = some x → Pv i σ H → g x σ H fun σ2 H2 => t { D with nx := Pv (i + 1), ct := Pv (i + 1), bk := D.nx } σ2 H2) ∧ ∀ σ H, Pv xs.length σ H → D.nx σ H)
    (mono : ∀ Q Q' : VK, (∀ v H, Q v H → Q' v H) → tl σ H Q → tl σ H Q') : tFor (iList K tl) g t D σ H := by
  refine mono _ _ (fun v H1 q => ?_) h
  obtain ⟨rfl, hs, Pv, h0, hl, hs', hd⟩ := q
  exact ⟨a, rfl, ⟨xs, hs⟩, for_list Pv h0 hl hs' hd⟩
theorem mono_var (Q Q' : VK) (h : ∀ v H, Q v H → Q' v H) (q : tVar i σ H Q) : tVar i σ H Q' := by
  obtain ⟨v, e, q⟩ := q
  exact ⟨v, e, h v H q⟩
/-- for x in xs, xs a local name -/
theorem w_forLV {s : Nat} {a : Addr} (e : σ[s]? = some (some (.ref a))) (Pv : Nat → L2.St → Hp → Prop) (hS : SqL K H a xs) (h0 : Pv 0 σ H) (hl : ∀ i σ H, i ≤ xs.length → Pv i σ H → SqL K H a xs)
    (hs : ∀ i x σ H, xs[i]? = some x → Pv i σ H → g x σ H fun σ2 H2 => t { D with nx := Pv (i + 1), ct := Pv (i + 1), bk := D.nx } σ2 H2) (hd : ∀ σ H, Pv xs.length σ H → D.nx σ H) : tFor (iList K (tVar s)) g t D σ H :=
  ⟨.ref a, e, a, rfl, ⟨xs, hS⟩, for_list Pv h0 hl hs hd⟩
theorem w_forTV {s : Nat} {a : Addr} (e : σ[s]? = some (some (.ref a))) (Pv : Nat → L2.St → Hp → Prop) (hS : SqT K H a xs) (h0 : Pv 0 σ H) (hl : ∀ i σ H, i ≤ xs.length → Pv i σ H → SqT K H a xs)
    (hs : ∀ i x σ H, xs[i]? = some x → Pv i σ H → g x σ H fun σ2 H2 => t { D with nx := Pv (i + 1), ct := Pv (i + 1), bk := D.nx } σ2 H2) (hd : ∀ σ H, Pv xs.length σ H → D.nx σ H) : tFor (iTup K (tVar s)) g t D σ H :=
  ⟨.ref a, e, a, rfl, ⟨xs, hS⟩, for_tup Pv h0 hl hs hd⟩
/-- for k in range(e) -/
def RngR (g : TG) (t : TS) (D : Ends) (σ : L2.St) : List V → Hp → Prop := fun vs H1 => ∃ j : Int, vs = [.int j] ∧ -(2 ^ 62) ≤ j ∧ j < 2 ^ 62 ∧ ∃ Pv : Nat → L2.St → Hp → Prop, Pv 0 σ H1 ∧
  (∀ i σ H, i < j.toNat → Pv i σ H → g (.int i) σ H fun σ2 H2 => t { D with nx := Pv (i + 1), ct := Pv (i + 1), bk := D.nx } σ2 H2) ∧ ∀ σ H, Pv j.toNat σ H → D.nx σ H
theorem RngR.go {vs : List V} (h : RngR g t D σ vs H) : ∃ j : Int, vs = [.int j] ∧ -(2 ^ 62) ≤ j ∧ j < 2 ^ 62 ∧ ∃ W : Nat → Nat → L2.St → Hp → Prop, (∃ m, W 0 m σ H) ∧ ∀ i m σ H, W i m σ H →
      ((Itr 0 j.toNat).stop i H ∧ D.nx σ H) ∨ ((Itr 0 j.toNat).go i H ∧ ∃ N : L2.St → Hp → Prop, (∀ σ' H', N σ' H' → ∃ m', m' < m ∧ W (i + 1) m' σ' H') ∧ ∀ x H', (Itr 0 j.toNat).yld i H x H' → g x σ H' fun σ2 H2 => t { D with nx := N, ct := N, bk := D.nx } σ2 H2) := by
  obtain ⟨jj, e, h1, h2, Pv, h0, hs, hd⟩ := h
  refine ⟨jj, e, h1, h2, for_range Pv h0 (fun i σ H hi p => ?_) hd⟩
  have q := hs i σ H hi p
  rw [Int.zero_add]; exact q
def RngD (g : TG) (t : TS) (D : Ends) (σ : L2.St) (vs : List V) (H : Hp) : Prop := ∃ j : Int, vs = [.int j] ∧ -(2 ^ 62) ≤ j ∧ j < 2 ^ 62 ∧ ∃ W : Nat → Nat → L2.St → Hp → Prop, (∃ m, W 0 m σ H) ∧ ∀ i m σ H, W i m σ H →
      ((Itr 0 j.toNat).stop i H ∧ D.nx σ H) ∨ ((Itr 0 j.toNat).go i H ∧ ∃ N : L2.St → Hp → Prop, (∀ σ' H', N σ' H' → ∃ m', m' < m ∧ W (i + 1) m' σ' H') ∧ ∀ x H', (Itr 0 j.toNat).yld i H x H' → g x σ H' fun σ2 H2 => t { D with nx := N, ct := N, bk := D.nx } σ2 H2)
theorem w_forR {ta : TA} (h : ta σ H fun vs H1 => RngD g t D σ vs H1) : tFor (iRng1 ta) g t D σ H := h
theorem w_rng (Pv : Nat → L2.St → Hp → Prop) (h0 : Pv 0 σ H)
    (hs : ∀ i σ H, i < m.toNat → Pv i σ H → g (.int i) σ H fun σ2 H2 => t { D with nx := Pv (i + 1), ct := Pv (i + 1), bk := D.nx } σ2 H2) (hd : ∀ σ H, Pv m.toNat σ H → D.nx σ H) (h1 : -(2 ^ 62) ≤ m := by first | decide | omega) (h2 : m < 2 ^ 62 := by first | decide | omega) :
    RngD g t D σ [.int m] H := RngR.go ⟨m, rfl, h1, h2, Pv, h0, hs, hd⟩
theorem w_appendU (j : J (upd M a (.lst xs)) G H) (z : xs.length < 1000000) (q : ∀ H', J (upd M a (.lst (xs ++ [v]))) G H' → Q .non H') : rAppend (.ref a) [v] H Q :=
  w_appendM j upd_same (sz_lt z) fun H' j' => q H' (by rw [upd_upd] at j'; exact j')
theorem w_appendA (j : J M G H) (h : M a = some (.lst xs)) (z : xs.length < 1000000) (q : ∀ H', J (upd M a (.lst (xs ++ [v]))) G H' → Q .non H') : rAppend (.ref a) [v] H Q := w_appendM j h (sz_lt z) q
theorem ty_listU (j : J (upd M a (.lst xs)) G H) : tyV K "list" (.ref a) H := ty_listM j upd_same
theorem map_snoc (ns : List Int) (n : Int) : ns.map V.int ++ [V.int n] = (ns ++ [n]).map V.int := by rw [List.map_append]; rfl
/-- list(xs), xs[a:b] of lists, xs + ys -/
theorem w_catL (h1 : H a = some (.lst xs)) (h2 : H b = some (.lst ys)) (k : NewO (.lst (xs ++ ys)) (xs.length + ys.length) H Q) : uAdd K (.ref a) (.ref b) H Q :=
  .inr (.inl ⟨a, b, xs, ys, rfl, rfl, h1, h2, k.1, k.2⟩)
theorem w_slL {lo hi : Option Int} (j : J M G H) (h : SqL K G a xs) (k : NewO (.lst (cutV xs lo hi)) 0 H Q) : uSl K (.ref a) lo hi H Q := .inl ⟨a, xs, rfl, sl_mono j.g h, k.2⟩
theorem w_slT {lo hi : Option Int} (j : J M G H) (h : SqT K G a xs) (k1 : HT.sIx xs.length 0 lo = 0 ∧ HT.sIx xs.length xs.length hi = xs.length → Q (.ref a) H)
    (k : ¬ (HT.sIx xs.length 0 lo = 0 ∧ HT.sIx xs.length xs.length hi = xs.length) → NewO (.tup (cutV xs lo hi)) 0 H Q) : uSl K (.ref a) lo hi H Q := .inr ⟨a, xs, rfl, st_mono j.g h, k1, fun h => (k h).2⟩
def PartX (x : V) (H : Hp) (Q : Option Int → Hp → Prop) : Prop := ∃ i, x = .int i ∧ Q (some i) H
theorem w_part {QO : Option Int → Hp → Prop} (h : te σ H fun x H1 => PartX x H1 QO) : tPart te σ H QO := h
theorem w_partX {QO : Option Int → Hp → Prop} (h : QO (some m) H) : PartX (.int m) H QO := ⟨m, rfl, h⟩
theorem w_nopart {QO : Option Int → Hp → Prop} (h : QO none H) : tNoPart σ H QO := h
theorem atI_0 {α : Type} {y : α} {ys : List α} : atI (y :: ys) 0 = some y := atI_nat (j := 0) rfl
theorem w_sl {r : V → Option Int → Option Int → Hp → VK → Prop} {tl th : TO} (h : te σ H fun x H1 => tl σ H1 fun l H2 => th σ H2 fun u H3 => r x l u H3 Q) : tSl r te tl th σ H Q := h
/-! comprehensions -/
variable {tt : TT} {vs : List Nat} {s : Nat}
/-- the block's end at one element: the new list stands at L as before, it gets y -/
def StepL (L : Addr) (acc : List V) (R : List V → Hp → Hp → Prop) (y : V) (H4 : Hp) : Prop := ∃ M4 G4, J M4 G4 H4 ∧ M4 L = some (.lst acc) ∧ acc.length < sizeLine ∧ R (acc ++ [y]) (upd M4 L (.lst (acc ++ [y]))) G4
def SkipL (L : Addr) (acc : List V) (R : List V → Hp → Hp → Prop) (H3 : Hp) : Prop := ∃ M3 G3, J M3 G3 H3 ∧ M3 L = some (.lst acc) ∧ R acc M3 G3
def LcI (P : Addr → Nat → List V → Hp → Hp → Prop) (L : Addr) (i : Nat) (H : Hp) : Prop := ∃ acc M1 G1, J M1 G1 H ∧ M1 L = some (.lst acc) ∧ P L i acc M1 G1
theorem StepL.go {P : Addr → Nat → List V → Hp → Hp → Prop} {L : Addr} {acc : List V} {k : Nat} (h : StepL L acc (P L k) y H) : ∃ acc', H L = some (.lst acc') ∧ acc'.length < sizeLine ∧ LcI P L k (upd H L (.lst (acc' ++ [y]))) := by
  obtain ⟨M4, G4, j, e, z, r⟩ := h
  exact ⟨acc, j.m _ _ e, z, acc ++ [y], _, _, j.put e, upd_same, r⟩
def LcD (J' : It) (g : TG) (tt : TT) (te : TE) (vs : List Nat) (σ : L2.St) (H1 : Hp) (Q : VK) : Prop := ∀ D, H1 D = none → ∃ W : Nat → Nat → Hp → Prop, (∃ m, W 0 m (upd H1 D (.lst []))) ∧ ∀ i m H, W i m H →
  (J'.stop i H ∧ Q (.ref D) H) ∨ (J'.go i H ∧ ∃ Nx : Hp → Prop, (∀ H', Nx H' → ∃ m', m' < m ∧ W (i + 1) m' H') ∧ ∀ x H', J'.yld i H x H' → g x (wipe σ vs) H' fun σ2 H2 => wipe σ2 vs = wipe σ vs ∧ tt σ2 H2 fun b H3 =>
    if b = true then te σ2 H3 fun y H4 => ∃ acc, H4 D = some (.lst acc) ∧ acc.length < sizeLine ∧ Nx (upd H4 D (.lst (acc ++ [y]))) else Nx H3)
def LcR (g : TG) (tt : TT) (te : TE) (vs : List Nat) (σ : L2.St) (vs' : List V) (H1 : Hp) (Q : VK) : Prop := ∃ j : Int, vs' = [.int j] ∧ -(2 ^ 62) ≤ j ∧ j < 2 ^ 62 ∧ LcD (Itr 0 j.toNat) g tt te vs σ H1 Q
def LcL (K : PySem.W.Frag) (g : TG) (tt : TT) (te : TE) (vs : List Nat) (σ : L2.St) (x : V) (H1 : Hp) (Q : VK) : Prop := ∃ a, x = .ref a ∧ (∃ xs, SqL K H1 a xs) ∧ LcD (Itl K a) g tt te vs σ H1 Q
theorem w_lcR {ta : TA} (h : ta σ H fun vs' H1 => LcR g tt te vs σ vs' H1 Q) : tLc (iRng1 ta) g tt te vs σ H Q := h
theorem w_lcL {tl : TE} (h : tl σ H fun x H1 => LcL K g tt te vs σ x H1 Q) : tLc (iList K tl) g tt te vs σ H Q := h
/-- [e for k in range(m)]; the element's reading must be monotone in what is wanted: it is given by its steps, so the law of the turn is asked for any wish that is weaker -/
theorem w_lcr (j : J M G H) (P : Addr → Nat → List V → Hp → Hp → Prop) (h0 : ∀ L, M L = none → G L = none → P L 0 [] (upd M L (.lst [])) G) (hw : ∀ x, wipe ((wipe σ vs).set s (some x)) vs = wipe σ vs)
    (hs : ∀ L i acc M1 G1 H1 (R : V → Hp → Prop), i < m.toNat → J M1 G1 H1 → M1 L = some (.lst acc) → P L i acc M1 G1 → (∀ y H4, StepL L acc (P L (i + 1)) y H4 → R y H4) → te ((wipe σ vs).set s (some (.int i))) H1 R)
    (hd : ∀ L acc M1 G1 H1, J M1 G1 H1 → M1 L = some (.lst acc) → P L m.toNat acc M1 G1 → Q (.ref L) H1) (h1 : -(2 ^ 62) ≤ m := by first | decide | omega) (h2 : m < 2 ^ 62 := by first | decide | omega) : LcR (gName s) tYes te vs σ [.int m] H Q := by
  refine ⟨m, rfl, h1, h2, fun L hL => lc_range (LcI P L) ⟨[], _, _, j.newM hL, upd_same, h0 L (j.freeM hL) (j.freeG hL)⟩ (fun i H1 hi p => ?_) fun H1 p => ?_⟩
  · obtain ⟨acc, M1, G1, j1, e, p⟩ := p
    rw [Int.zero_add]
    refine ⟨hw (.int i), ?_⟩
    refine w_T (B := LcI P L (i + 1) H1) ?_
    refine hs L i acc M1 G1 H1 _ hi j1 e p ?_
    intro y H4 q
    exact q.go
  · obtain ⟨acc, M1, G1, j1, e, p⟩ := p
    exact hd L acc M1 G1 H1 j1 e p
/-- [e for x in xs if t] -/
theorem w_lcl (j : J M G H) (P : Addr → Nat → List V → Hp → Hp → Prop) (hx : SqL K G a xs) (h0 : ∀ L, M L = none → G L = none → P L 0 [] (upd M L (.lst [])) G) (hG : ∀ L i acc M1 G1, P L i acc M1 G1 → Ex G G1) (hw : ∀ x, wipe ((wipe σ vs).set s (some x)) vs = wipe σ vs)
    (hs : ∀ L i x acc M1 G1 H1 (R : Bool → Hp → Prop), xs[i]? = some x → J M1 G1 H1 → M1 L = some (.lst acc) → P L i acc M1 G1 →
      (∀ b H3, (if b = true then te ((wipe σ vs).set s (some x)) H3 (fun y H4 => ∃ acc, H4 L = some (.lst acc) ∧ acc.length < sizeLine ∧ LcI P L (i + 1) (upd H4 L (.lst (acc ++ [y])))) else SkipL L acc (P L (i + 1)) H3) → R b H3) → tt ((wipe σ vs).set s (some x)) H1 R)
    (hd : ∀ L acc M1 G1 H1, J M1 G1 H1 → M1 L = some (.lst acc) → P L xs.length acc M1 G1 → Q (.ref L) H1) : LcL K (gName s) tt te vs σ (.ref a) H Q := by
  refine ⟨a, rfl, ⟨xs, sl_mono j.g hx⟩, fun L hL => lc_list (xs := xs) (LcI P L) ⟨[], _, _, j.newM hL, upd_same, h0 L (j.freeM hL) (j.freeG hL)⟩ (fun i H1 _ p => ?_) (fun i x H1 hi p => ?_) fun H1 p => ?_⟩
  · obtain ⟨acc, M1, G1, j1, e, p⟩ := p
    exact sl_mono ((hG _ _ _ _ _ p).trans j1.g) hx
  · obtain ⟨acc, M1, G1, j1, e, p⟩ := p
    refine ⟨hw _, ?_⟩
    refine hs L i x acc M1 G1 H1 _ hi j1 e p fun b H3 q => ?_
    cases b with
    | true => rw [if_pos rfl] at q ⊢; exact q
    | false =>
      rw [if_neg Bool.false_ne_true] at q ⊢
      obtain ⟨M3, G3, j3, e3, r⟩ := q
      exact ⟨acc, M3, G3, j3, e3, r⟩
  · obtain ⟨acc, M1, G1, j1, e, p⟩ := p
    exact hd L acc M1 G1 H1 j1 e p
theorem w_yes {R : Bool → Hp → Prop} (h : R true H) : tYes σ H R := h
/-! dicts -/
variable {kvs : List (Key × V)} {td ty tx tv : TE}
def Hd (M G : Hp) (a : Addr) (kvs : List (Key × V)) : Prop := M a = some (.dK kvs) ∨ Rd G a (.dK kvs)
theorem Hd.rd (j : J M G H) (h : Hd M G a kvs) : Rd H a (.dK kvs) := h.elim (fun h => .inl (j.m _ _ h)) (rd_same j.g)
theorem Hd.ofM (h : M a = some (.dK kvs)) : Hd M G a kvs := .inl h
theorem Hd.ofG (h : G a = some (.dK kvs)) : Hd M G a kvs := .inr (.inl h)
def GetA (x : V) (ty : TE) (σ : L2.St) (H1 : Hp) (Q : VK) : Prop := ∃ a, x = .ref a ∧ IsD H1 a ∧ ty σ H1 fun y H2 => ∃ o, DGet H2 a y o ∧ Q (o.getD .non) H2
def GetB (x : V) (ty tx : TE) (σ : L2.St) (H1 : Hp) (Q : VK) : Prop := ∃ a, x = .ref a ∧ IsD H1 a ∧ ty σ H1 fun y H2 => tx σ H2 fun z H3 => ∃ o, DGet H3 a y o ∧ Q (o.getD z) H3
def GetE (a : Addr) (y z : V) (H3 : Hp) (Q : VK) : Prop := ∃ o, DGet H3 a y o ∧ Q (o.getD z) H3
theorem w_dget1 (h : td σ H fun x H1 => GetA x ty σ H1 Q) : tDGet1 td ty σ H Q := h
theorem w_dget2 (h : td σ H fun x H1 => GetB x ty tx σ H1 Q) : tDGet2 td ty tx σ H Q := h
theorem w_getA (j : J M G H) (h : Hd M G a kvs) (q : ty σ H fun y H2 => GetE a y .non H2 Q) : GetA (.ref a) ty σ H Q := ⟨a, rfl, .inl ⟨kvs, h.rd j⟩, q⟩
theorem w_getB (j : J M G H) (h : Hd M G a kvs) (q : ty σ H fun y H2 => tx σ H2 fun z H3 => GetE a y z H3 Q) : GetB (.ref a) ty tx σ H Q := ⟨a, rfl, .inl ⟨kvs, h.rd j⟩, q⟩
theorem w_getE (j : J M G H) (h : Hd M G a kvs) (q : Q ((valV kvs (.inl m)).getD y) H) : GetE a (.int m) y H Q := ⟨_, .inl ⟨kvs, .inl m, h.rd j, rfl, rfl⟩, q⟩
def GetX (x y : V) (H2 : Hp) (Q : VK) : Prop := ∃ a v, x = .ref a ∧ DGet H2 a y (some v) ∧ Q v H2
theorem w_dget (h : td σ H fun x H1 => ty σ H1 fun y H2 => GetX x y H2 Q) : tDGet td ty σ H Q := h
theorem w_getX (j : J M G H) (h : Hd M G a kvs) (e : valV kvs (.inl m) = some v) (q : Q v H) : GetX (.ref a) (.int m) H Q := ⟨a, v, rfl, .inl ⟨kvs, .inl m, h.rd j, rfl, e.symm⟩, q⟩
def InX (neg : Bool) (x y : V) (H2 : Hp) (Q : VK) : Prop := ∃ a o, x = .ref a ∧ DGet H2 a y o ∧ Q (.bl (if neg then !o.isSome else o.isSome)) H2
theorem w_din (h : ty σ H fun y H1 => td σ H1 fun x H2 => InX false x y H2 Q) : tDIn ty td σ H Q := h
theorem w_dnotin (h : ty σ H fun y H1 => td σ H1 fun x H2 => InX true x y H2 Q) : tDNotIn ty td σ H Q := h
theorem w_inX (j : J M G H) (h : Hd M G a kvs) (q : Q (.bl (valV kvs (.inl m)).isSome) H) : InX false (.ref a) (.int m) H Q := ⟨a, _, rfl, .inl ⟨kvs, .inl m, h.rd j, rfl, rfl⟩, q⟩
theorem w_notinX (j : J M G H) (h : Hd M G a kvs) (q : Q (.bl (!(valV kvs (.inl m)).isSome)) H) : InX true (.ref a) (.int m) H Q := ⟨a, _, rfl, .inl ⟨kvs, .inl m, h.rd j, rfl, rfl⟩, q⟩
def PutX (x y v : V) (H3 : Hp) (R : Hp → Prop) : Prop := ∃ a H4, x = .ref a ∧ DPut H3 a y v H4 ∧ R H4
theorem w_dput (h : tv σ H fun v H1 => td σ H1 fun x H2 => ty σ H2 fun y H3 => PutX x y v H3 (D.nx σ)) : sDPut td ty tv D σ H := h
theorem w_putX {R : Hp → Prop} (j : J M G H) (h : M a = some (.dK kvs)) (z : kvs.length < 1000000) (q : ∀ H', J (upd M a (.dK (putK kvs (.inl m) v))) G H' → R H') : PutX (.ref a) (.int m) v H R :=
  ⟨a, _, rfl, .inl ⟨kvs, .inl m, j.m _ _ h, rfl, sz_lt z, rfl⟩, q _ (j.put h)⟩
def PopB (x : V) (ty tx : TE) (σ : L2.St) (H1 : Hp) (Q : VK) : Prop := ∃ a, x = .ref a ∧ IsD H1 a ∧ ty σ H1 fun y H2 => tx σ H2 fun z H3 => ∃ kvs k, H3 a = some (.dK kvs) ∧ y = kV k ∧
  (∀ v, valV kvs k = some v → Q v (upd H3 a (.dK (dropK kvs k)))) ∧ (valV kvs k = none → Q z H3)
def PopE (a : Addr) (y z : V) (H3 : Hp) (Q : VK) : Prop := ∃ kvs k, H3 a = some (.dK kvs) ∧ y = kV k ∧ (∀ v, valV kvs k = some v → Q v (upd H3 a (.dK (dropK kvs k)))) ∧ (valV kvs k = none → Q z H3)
theorem w_dpop2 (h : td σ H fun x H1 => PopB x ty tx σ H1 Q) : tDPop2 td ty tx σ H Q := h
theorem w_popB (j : J M G H) (h : M a = some (.dK kvs)) (q : ty σ H fun y H2 => tx σ H2 fun z H3 => PopE a y z H3 Q) : PopB (.ref a) ty tx σ H Q := ⟨a, rfl, .inl ⟨kvs, .inl (j.m _ _ h)⟩, q⟩
theorem dropK_none (h : valV kvs (.inl m : Key) = none) : dropK kvs (.inl m) = kvs := dropK_no (valV_not h)
theorem w_popE (j : J M G H) (h : M a = some (.dK kvs)) (q : ∀ v H', J (upd M a (.dK (dropK kvs (.inl m)))) G H' → Q v H') : PopE a (.int m) y H Q := by
  refine ⟨kvs, .inl m, j.m _ _ h, rfl, fun v _ => q v _ (j.put h), fun e => q y H ?_⟩
  rw [dropK_none e]
  have e2 : upd M a (.dK kvs) = M := by
    funext b; unfold upd; split
    · rename_i hb; rw [hb, h]
    · rfl
  rw [e2]; exact j
theorem w_lenD (j : J M G H) (h : M a = some (.dK kvs) ∨ G a = some (.dK kvs)) (q : Q (.int kvs.length) H) : uLen K [.ref a] H Q := .inr ⟨a, kvs, rfl, h.elim (j.m _ _) (j.g _ _), q⟩
/-- {} -/
theorem w_dnew (h : NewO (.dK []) 0 H Q) : tDNewK σ H Q := h.2
/-- isinstance -/
theorem w_isi (bb : Bool) {n cc : String} (h : TyX K H x (.type n)) (e : kitB n cc = some bb) (q : Q (.bl bb) H) : rIsi K [x, .ty cc] H Q := ⟨x, .ty cc, .type n, .type cc, bb, rfl, .ty cc, h, kit_ty e, q⟩
theorem ty_int : TyX K H (.int m) (.type "int") := .base (.int m)
theorem ty_bl {b : Bool} : TyX K H (.bl b) (.type "bool") := .base (.bl b)
theorem ty_str {z : Str} : TyX K H (.str z) (.type "str") := .base (.str z)
theorem ty_non : TyX K H .non (.type "NoneType") := .base .non
theorem ty_L (h : SqL K H a xs) : TyX K H (.ref a) (.type "list") := by
  rcases h with (h | ⟨o, h⟩) | ⟨o, _, _, h, c, _⟩
  · exact .base (.lst h)
  · exact .base (.frz h)
  · exact .kList h c
theorem ty_T (h : SqT K H a xs) : TyX K H (.ref a) (.type "tuple") := by
  rcases h with (h | ⟨o, h⟩) | ⟨o, _, _, h, c, _⟩
  · exact .base (.tup h)
  · exact .fTuple h
  · exact .kTuple h c
theorem ty_D (h : Rd H a (.dK kvs)) : TyX K H (.ref a) (.type "dict") := by
  rcases h with h | ⟨o, h⟩
  · exact .base (.dK h)
  · exact .fDict h
/-- dict(d), sorted(d), list(xs), tuple(xs) -/
def DictC (xs : List V) (H : Hp) (Q : VK) : Prop := ∃ (a : Addr) (kvs : List (Key × V)), xs = [.ref a] ∧ Rd H a (.dK kvs) ∧ ∀ p, H p = none → Q (.ref p) (upd H p (.dK kvs))
theorem w_dictC (j : J M G H) (h : Hd M G a kvs) (q : NewO (.dK kvs) 0 H Q) : DictC [.ref a] H Q := ⟨a, kvs, rfl, h.rd j, q.2⟩
def ListC (K : PySem.W.Frag) (xs : List V) (H : Hp) (Q : VK) : Prop := ∃ p ys, xs = [.ref p] ∧ (SqL K H p ys ∨ SqT K H p ys) ∧ ∀ l, H l = none → Q (.ref l) (upd H l (.lst ys))
theorem w_listC (h : SqL K H a xs ∨ SqT K H a xs) (q : NewO (.lst xs) 0 H Q) : ListC K [.ref a] H Q := ⟨a, xs, rfl, h, q.2⟩
def TupC (K : PySem.W.Frag) (xs : List V) (H : Hp) (Q : VK) : Prop := ∃ p ys, xs = [.ref p] ∧ ((SqL K H p ys ∧ ∀ l, H l = none → Q (.ref l) (upd H l (.tup ys))) ∨ (SqT K H p ys ∧ Q (.ref p) H))
theorem w_tupC (h : SqL K H a xs) (q : NewO (.tup xs) 0 H Q) : TupC K [.ref a] H Q := ⟨a, xs, rfl, .inl ⟨h, q.2⟩⟩
def SortD (xs : List V) (H : Hp) (Q : VK) : Prop := ∃ (a : Addr) (kvs : List (Key × V)) (ks : List Int), xs = [.ref a] ∧ Rd H a (.dK kvs) ∧ kvs.map (·.1) = ks.map Sum.inl ∧ ks.length < 64 ∧
    ∀ (ys : List Int) (p : Addr), ys.Perm ks → ys.Pairwise (· ≤ ·) → H p = none → Q (.ref p) (upd H p (.lst (ys.map V.int)))
theorem w_sortD {ks : List Int} (j : J M G H) (h : Hd M G a kvs) (e : kvs.map (·.1) = ks.map Sum.inl) (z : ks.length < 64) (q : ∀ ys : List Int, ys.Perm ks → ys.Pairwise (· ≤ ·) → NewO (.lst (ys.map V.int)) 0 H Q) : SortD [.ref a] H Q :=
  ⟨a, kvs, ks, rfl, h.rd j, e, z, fun ys p h1 h2 => (q ys h1 h2).2 p⟩
theorem w_cDict {tr : TA} (h : tr σ H fun vs H1 => DictC vs H1 Q) : tCB (fun xs H Q => ∃ (a : Addr) (kvs : List (Key × V)), xs = [.ref a] ∧ Rd H a (.dK kvs) ∧ ∀ p, H p = none → Q (.ref p) (upd H p (.dK kvs))) tr σ H Q := h
theorem w_cList {tr : TA} (h : tr σ H fun vs H1 => ListC K vs H1 Q) : tCB (fun xs H Q => ∃ p ys, xs = [.ref p] ∧ (SqL K H p ys ∨ SqT K H p ys) ∧ ∀ l, H l = none → Q (.ref l) (upd H l (.lst ys))) tr σ H Q := h
theorem w_cTup {tr : TA} (h : tr σ H fun vs H1 => TupC K vs H1 Q) : tCB (fun xs H Q => ∃ p ys, xs = [.ref p] ∧ ((SqL K H p ys ∧ ∀ l, H l = none → Q (.ref l) (upd H l (.tup ys))) ∨ (SqT K H p ys ∧ Q (.ref p) H))) tr σ H Q := h
theorem w_cSortD {tr : TA} (h : tr σ H fun vs H1 => SortD vs H1 Q) : tCB (fun xs H Q => ∃ (a : Addr) (kvs : List (Key × V)) (ks : List Int), xs = [.ref a] ∧ Rd H a (.dK kvs) ∧ kvs.map (·.1) = ks.map Sum.inl ∧ ks.length < 64 ∧
    ∀ (ys : List Int) (p : Addr), ys.Perm ks → ys.Pairwise (· ≤ ·) → H p = none → Q (.ref p) (upd H p (.lst (ys.map V.int)))) tr σ H Q := h
/-- x in xs, flat items -/
theorem w_inT {neg : Bool} (j : J M G H) (h : SqT K G a xs) (hx : flatV x = true) (hf : xs.all flatV = true) (q : Q (.bl (if neg then !inV x xs else inV x xs)) H) : rIn K neg x (.ref a) H Q := ⟨a, xs, rfl, .inr (st_mono j.g h), hx, hf, q⟩
theorem w_inL {neg : Bool} (j : J M G H) (h : SqL K G a xs) (hx : flatV x = true) (hf : xs.all flatV = true) (q : Q (.bl (if neg then !inV x xs else inV x xs)) H) : rIn K neg x (.ref a) H Q := ⟨a, xs, rfl, .inl (sl_mono j.g h), hx, hf, q⟩
end
section
variable {X : Cx} {K : PySem.W.Frag}
theorem call_listC (h : X.K = K) : CallR X (.type "list") (ListC K) := h ▸ call_list_of
theorem call_tupC (h : X.K = K) : CallR X (.type "tuple") (TupC K) := h ▸ call_tuple_of
theorem call_dictC : CallR X (.type "dict") DictC := call_dictD
theorem call_sortDC (hc : X.calm = true) : CallR X (.builtin "sorted") SortD := call_sortedDI hc
end
/-! ### errors of the program: raised, let through, caught -/
structure Xc (K : PySem.W.Frag) (mg : Str → Option Value) (x : Str) (C : Addr) : Prop where
  gP : mg x = some (.ref C)
  xP : PySem.W.excIn K C [.type "ValueError", .type "Exception", .type "BaseException", .type "object"] "ValueError.__new__" = true
  kP : PySem.W.keepIn K (.ref C) = true
  bP : PySem.W.subIn K (.ref C) (.type "BaseException") = some true
  tP : PySem.W.typeIn K (.ref C) = some (.type "type")
  hD : PySem.W.hasDictIn K C = true
  sP : PySem.W.subIn K (.ref C) (.ref C) = some true
  hg : PySem.W.findIn K (.ref C) "__getattribute__" = some (some (.builtin "BaseException.__getattribute__"))
  hk : PySem.W.findIn K (.ref C) "__getattr__" = some none
  ha : PySem.W.findIn K (.ref C) "__class__" = some (some (.builtin "object.__class__"))
  hn : PySem.W.specialIn K (.builtin "object.__class__") "__get__" = some (some (.builtin "getset_descriptor.__get__"))
  ht : PySem.W.takesIn K (.builtin "object.__class__") = some true
  hm : PySem.W.mroIn K C (.type "object") = some true
theorem Xc.excC {K : PySem.W.Frag} {mg : Str → Option Value} {x : Str} {C : Addr} (X : Xc K mg x C) : ExcC K C := ⟨X.hg, X.hk, X.bP, X.hD, X.ha, X.hn, X.ht, X.hm⟩
theorem Xc.exm {K : PySem.W.Frag} {mg : Str → Option Value} {x : Str} {C : Addr} (X : Xc K mg x C) : PySem.W.exmOne K (.ref C) (.ref C) = some true := PySem.W.exm_ref X.bP X.hD X.tP X.sP
theorem Xc.g {K : PySem.W.Frag} {mg : Str → Option Value} {x : Str} {C : Addr} (X : Xc K mg x C) : ∃ u, mg x = some u ∧ RelV (.ref C) u := ⟨_, X.gP, rfl⟩
/-- a promise that tells how it may raise -/
def Sx {α : Type} (pre : α → List V → Hp → Hp → Prop) (post : α → Hp → Hp → V → Hp → Hp → Prop) (exc : α → Hp → Hp → Addr → Hp → Hp → Prop) : Sp := fun vs H Q E =>
  ∃ a M G, J M G H ∧ pre a vs M G ∧ (∀ v M' G' H', J M' G' H' → Ex G G' → post a M G v M' G' → Q v H') ∧ ∀ C M' G' H', J M' G' H' → Ex G G' → exc a M G C M' G' → E (.ref C) none H'
theorem w_sx {α : Type} {pre : α → List V → Hp → Hp → Prop} {post : α → Hp → Hp → V → Hp → Hp → Prop} {exc : α → Hp → Hp → Addr → Hp → Hp → Prop} {vs : List V} {M G H : Hp} {Q : VK} {E : XK} (a : α) (j : J M G H) (hp : pre a vs M G)
    (k : ∀ v M' G' H', J M' G' H' → Ex G G' → post a M G v M' G' → Q v H') (kx : ∀ C M' G' H', J M' G' H' → Ex G G' → exc a M G C M' G' → E (.ref C) none H') : Sx pre post exc vs H Q E := ⟨a, M, G, j, hp, k, kx⟩
theorem Dn.okX {P : Program} {w : World} {K : PySem.W.Frag} {mg : Str → Option Value} {base : Heap} {x : Str} {st : Stmt} {ps : List Str} {f : Addr} {fd : FuncData} {N : List Str} {k : Nat} {sp : Sp} (D : Dn K mg x st ps f fd) (S : FnScope N ps (defScope st)) (len : ∀ vs H Q E, sp vs H Q E → vs.length = ps.length)
    (hbody : ∀ (cdv : Value) (A : Around) (outer : List Env) (s : Shared) (H : Hp) (vs : List V) (Q : VK) (E : XK), Room k (A.deeper (envOfC x (defScope st) s.heap.objs.size f cdv)) → sp vs H Q E →
      ∃ t, PSs (cxOf (L2.CX P w) P w K mg base N x (defScope st) f cdv A outer s H E) (defBody st) t ∧ t { nx := fun _ H' => Q .non H', rt := Q } (start N vs) H) : Cal P w K mg base (L2.CX P w) (k + 1) x sp :=
  D.cal (D.fn.okX S len hbody)
/-- a call of what may raise, where an error is wished for -/
theorem pe_calX {X : Cx} {k j : Nat} {x : Str} {sp : Sp} {p pos : Pos} {e : Expr} {es : List Expr} {t : TA} {W : WX} (c : Cal X.prog X.w X.K X.mg X.base (L2.CX X.prog X.w) k x sp) (hr : Room j X.A) (hk : k ≤ j) (hg : Gl X x) (tk : Takes X W) (ha : PA X (e :: es) t)
    (hdb : (x == ("__debug__" : Str)) = false := by decide) (he : starEach (e :: es) X.env = (false, eval e X.env) :: starEach es X.env := by rfl) (hpl : (backTo pos (starEach es X.env)).any (·.1) = false := by rfl) :
    PE X (.Call (.Name x p) (e :: es) [] pos) (tCallS sp (WE W) t) := by
  obtain ⟨f, fd, ps, F, hm, kp, b⟩ := c.ex
  exact pe_callS F (hr.mono hk) hg hm kp b (fun σ => passAt tk σ) ha hdb he hpl
theorem w_callS {sp : Sp} {E : L2.St → XK} {t : TA} {σ : L2.St} {H : Hp} {Q : VK} (h : t σ H fun vs H1 => sp vs H1 Q (E σ)) : tCallS sp E t σ H Q := h
def tRaiseA (C : Addr) (W : WX) : TS := fun _ σ H => W (.ref C) none σ H
theorem ps_raiseA {X : Cx} {W : WX} {x m : Str} {C : Addr} {j : Nat} {p p2 pos pos2 : Pos} (hc : X.calm = true) (tk : Takes X W) (h : Xc X.K X.mg x C) (hg : Gl X x) (hdb : (x == ("__debug__" : Str)) = false := by decide) :
    PS X (.Raise (some (.Call (.Name x p) [.Constant (.str m) j p2] [] pos)) none pos2) (tRaiseA C W) := ps_raise hc tk (pmk_own PySem.F.excBase_ValueError h.xP h.gP h.kP (raises_own h.bP h.tP) hg hdb)
theorem w_raise {C : Addr} {W : WX} {D : Ends} {σ : L2.St} {H : Hp} (h : W (.ref C) none σ H) : tRaiseA C W D σ H := h
def tTryA (K : PySem.W.Frag) (c : Value) (i : Nat) (tb : WX → TS) (ts : Addr → Value → Option Addr → TS) (Wout : WX) : TS := fun D σ H => tb (wAs K c i ts Wout D) D σ H
theorem w_tryA {K : PySem.W.Frag} {c : Value} {i : Nat} {tb : WX → TS} {ts : Addr → Value → Option Addr → TS} {Wout : WX} {D : Ends} {σ : L2.St} {H : Hp} (h : tb (wAs K c i ts Wout D) D σ H) : tTryA K c i tb ts Wout D σ H := h
theorem ps_tryA {X : Cx} {x n : Str} {c : Value} {i : Nat} {body suite : List Stmt} {b₀ : Stmt} {np pos pos' : Pos} {tb : WX → TS} {ts : Addr → Value → Option Addr → TS} {Wout : WX} (hs : X.stack = X.env :: X.outer) (hf : X.env.frame = some X.env.locals) (hN : X.N.Nodup) (hi : X.N[i]? = some n) (hln : X.env.kindOf n = some .local) (hc : Names X x c) (tk : Takes X Wout)
    (hb : ∀ (W : WX) (pn : List (Addr × Obj)) (xe : Value → Shared → Prop), Takes (X.tr pn xe) W → PassesOwn (model X.prog X.w) X.A X.env xe → PSs (X.tr pn xe) body (tb W))
    (hsu : ∀ (a : Addr) (oe : Obj) (cls : Value) (d : Option Addr) (pn : List (Addr × Obj)), Zc cls d oe → (∃ vs, oe.data = .fields vs) → PSs (X.suite a ((a, oe) :: pn)) (b₀ :: suite) (ts a cls d)) :
    PS X (.Try body [.ExceptHandler (some (.Name x np)) (some n) (b₀ :: suite) pos'] [] [] pos) (tTryA X.K c i tb ts Wout) := ps_try_as hs hf hN hi hln hc tk hb hsu
/-- a fact that the suite's rules want is asked of its reading -/
theorem pss_given {X : Cx} {b : List Stmt} {t : TS} {p : Prop} (h : p → PSs X b t) : PSs X b (fun D σ H => p ∧ t D σ H) := ⟨fun pins s σ H D I z => (h z.1).run pins s σ H D I z.2⟩
/-- what a caught error of the class C asks -/
theorem w_caught {K : PySem.W.Frag} {c : Value} {C : Addr} {i : Nat} {ts : Addr → Value → Option Addr → TS} {Wout : WX} {D : Ends} {σ : L2.St} {H : Hp} (e : PySem.W.exmOne K (.ref C) c = some true)
    (h : ∀ a, H a = none → ts a (.ref C) none { nx := fun σ' H' => D.nx (σ'.set i none) H', rt := D.rt, bk := fun σ' H' => D.bk (σ'.set i none) H', ct := fun σ' H' => D.ct (σ'.set i none) H' } (σ.set i (some (.ref a))) H) : wAs K c i ts Wout D (.ref C) none σ H :=
  ⟨true, e, fun _ => h, fun q => Bool.noConfusion q⟩
theorem w_isE {K : PySem.W.Frag} {D a C : Addr} {b : Bool} {H : Hp} {Q : VK} (e : PySem.W.kitOne K (.ref D) (.ref C) = some b) (q : Q (.bl b) H) : rIsE K D a [.ref a, .ref C] H Q := ⟨.ref C, .ref C, b, rfl, fun _ r => r, e, q⟩
theorem w_seqP {t : TS} {u : TS} {D : Ends} {σ : L2.St} {H : Hp} (Pm : L2.St → Hp → Prop) (rest : ∀ σ H, Pm σ H → u D σ H) (first : (∀ σ H, Pm σ H → u D σ H) → t { D with nx := u D } σ H) : tSeq t u D σ H := first rest
/-- a op1 b op2 c op3 d -/
def tChain3 (r1 r2 r3 : R2) (ta tb tc td : TE) : TE := fun σ H Q => ta σ H fun x H1 => tb σ H1 fun y H2 => r1 x y H2 fun z H3 => ∃ k, z = .bl k ∧
  (if k = true then tc σ H3 fun u H4 => r2 y u H4 fun z2 H5 => ∃ k2, z2 = .bl k2 ∧ (if k2 = true then td σ H5 fun v H6 => r3 u v H6 Q else Q (.bl false) H5) else Q (.bl false) H3)
theorem pe_chain3 {X : Cx} {o1 o2 o3 : CmpOp} {r1 r2 r3 : R2} {a b c d : Expr} {ta tb tc td : TE} {pos : Pos} (h1 : OpR X (compareOp o1) r1) (h2 : OpR X (compareOp o2) r2) (h3 : OpR X (compareOp o3) r3) (ha : PE X a ta) (hb : PE X b tb) (hc : PE X c tc) (hd : PE X d td)
    (hm : lastMarks [o1, o2, o3] [b, c, d] = false := by with_unfolding_all rfl) : PE X (.Compare a [o1, o2, o3] [b, c, d] pos) (tChain3 r1 r2 r3 ta tb tc td) := by
  refine ⟨fun pins s σ H Q I h => Compare_chain (thn (ha.run pins s σ H _ I h) fun v0 s1 ⟨x, H1, I1, q1, w1⟩ => chain_link (thn (hb.run pins s1 σ H1 _ I1 w1) fun u0 s2 ⟨y, H2, I2, q2, w2⟩ => thn (h1 pins s2 σ H2 x y v0 u0 _ I2 q1 q2 w2) fun e0 s3 ⟨z, H3, I3, q3, k, ez, w3⟩ => ?_)) hm⟩
  subst ez; cases q3
  refine wpAny_truthy_bool ?_
  cases k with
  | false => exact ite_ff ⟨.bl false, H3, I3, rfl, w3⟩
  | true =>
    refine ite_tt (chain_link (thn (hc.run pins s3 σ H3 _ I3 w3) fun u1 s4 ⟨y1, H4, I4, q4, w4⟩ => thn (h2 pins s4 σ H4 y y1 u0 u1 _ I4 q2 q4 w4) fun e1 s5 ⟨z1, H5, I5, q5, k1, ez1, w5⟩ => ?_))
    subst ez1; cases q5
    refine wpAny_truthy_bool ?_
    cases k1 with
    | false => exact ite_ff ⟨.bl false, H5, I5, rfl, w5⟩
    | true => exact ite_tt (chain_last (thn (hd.run pins s5 σ H5 _ I5 w5) fun u2 s6 ⟨y2, H6, I6, q6, w6⟩ => h3 pins s6 σ H6 y1 y2 u1 u2 Q I6 q4 q6 w6))
theorem w_chain3 {r1 r2 r3 : R2} {ta tb tc td : TE} {σ : L2.St} {H : Hp} {Q : VK} (h : ta σ H fun x H1 => tb σ H1 fun y H2 => r1 x y H2 fun z H3 => ∃ k, z = .bl k ∧
  (if k = true then tc σ H3 fun u H4 => r2 y u H4 fun z2 H5 => ∃ k2, z2 = .bl k2 ∧ (if k2 = true then td σ H5 fun v H6 => r3 u v H6 Q else Q (.bl false) H5) else Q (.bl false) H3)) : tChain3 r1 r2 r3 ta tb tc td σ H Q := h
/-- tuples that stand: what is behind + and a slice stands too -/
theorem w_catT {K : PySem.W.Frag} {M G H : Hp} {a b : Addr} {xs ys : List V} {Q : VK} (j : J M G H) (h1 : SqT K G a xs) (h2 : SqT K G b ys) (z : xs.length + ys.length ≤ 1000000)
    (k : ∀ p G' H', J M G' H' → Ex G G' → SqT K G' p (xs ++ ys) → Q (.ref p) H') : uAdd K (.ref a) (.ref b) H Q :=
  .inr (.inr ⟨a, b, xs, ys, rfl, rfl, st_mono j.g h1, st_mono j.g h2, sz_le z, fun e => k b G H j (Same.refl G) (by subst e; exact h2), fun _ e => k a G H j (Same.refl G) (by subst e; rw [List.append_nil]; exact h1),
    fun _ _ p hp => k p _ _ (j.newG hp) (Ex.new (j.freeG hp)) (st_of upd_same)⟩)
theorem cut_all {xs : List V} {lo hi : Option Int} (h : HT.sIx xs.length 0 lo = 0 ∧ HT.sIx xs.length xs.length hi = xs.length) : cutV xs lo hi = xs := by
  unfold cutV
  rw [h.1, h.2]
  simp
theorem w_slTG {K : PySem.W.Frag} {M G H : Hp} {a : Addr} {xs : List V} {lo hi : Option Int} {Q : VK} (j : J M G H) (h : SqT K G a xs)
    (k : ∀ p G' H', J M G' H' → Ex G G' → SqT K G' p (cutV xs lo hi) → Q (.ref p) H') : uSl K (.ref a) lo hi H Q :=
  w_slT j h (fun e => k a G H j (Same.refl G) (by rw [cut_all e]; exact h)) fun _ => ⟨Nat.zero_le _, fun p hp => k p _ _ (j.newG hp) (Ex.new (j.freeG hp)) (st_of upd_same)⟩
theorem cut_sub {xs : List V} {lo hi : Option Int} {v : V} (h : v ∈ cutV xs lo hi) : v ∈ xs := by
  unfold cutV at h
  first
    | exact List.mem_of_mem_drop (List.mem_of_mem_take h)
    | exact List.mem_of_mem_take (List.mem_of_mem_drop h)
theorem cut_len {xs : List V} {lo hi : Option Int} : (cutV xs lo hi).length ≤ xs.length := by
  unfold cutV
  simp only [List.length_take, List.length_drop]
  omega
theorem kit_no {K : PySem.W.Frag} {A B : Addr} (h0 : (Value.ref A == Value.ref B) = false) (h1 : PySem.W.isClsIn K B = true) (h2 : PySem.W.typeIn K (.ref B) = some (.type "type")) (h3 : PySem.W.subIn K (.ref A) (.ref B) = some false) : PySem.W.kitOne K (.ref A) (.ref B) = some false := by
  have e : ((PySem.W.clsIn K B).isSome && PySem.W.typeIn K (.ref B) == some (.type "type")) = true := by rw [show (PySem.W.clsIn K B).isSome = true from h1, h2]; rfl
  unfold PySem.W.kitOne
  rw [h0, if_neg Bool.false_ne_true]
  exact (if_pos e).trans h3
end Nz

namespace Nz
open PySem L2 PySem.Spec PyProof.Rows
local macro_rules
  | `(tactic| walk_at "v") => `(tactic| first
    | with_reducible refine w_asg ?_
    | ((with_reducible refine' w_var ?h ?_); (case h => rfl))
    | with_reducible refine w_c ?_
    | with_reducible refine w_op ?_
    | with_reducible refine w_if ?_
    | with_reducible refine w_test ?_
    | with_reducible refine w_bl ?_
    | with_reducible refine w_ret ?_
    | with_reducible refine w_gName ?_
    | with_reducible refine w_call ?_
    | with_reducible refine w_acons ?_
    | with_reducible refine w_anil ?_
    | with_reducible refine w_cDict ?_
    | with_reducible refine w_cList ?_
    | with_reducible refine w_cTup ?_
    | with_reducible refine w_cSortD ?_
    | with_reducible refine w_cb ?_
    | with_reducible refine w_next ?_
    | with_reducible refine w_drop ?_
    | with_reducible refine w_gSub ?_
    | with_reducible refine w_addI ?_
    | with_reducible refine w_I0 ?_
    | ((with_reducible refine' w_I ?hc ?_); (case hc => first | decide | exact ⟨by decide, by decide⟩ | exact ⟨by decide, by decide, by decide⟩))
    | ((with_reducible refine' w_mulI ?hc ?_); (case hc => first | exact .inr (by decide) | exact .inl (by decide)))
    | with_reducible refine w_eqI ?_
    | with_reducible refine w_neI ?_
    | with_reducible refine w_U ?_
    | with_reducible refine w_un ?_
    | with_reducible refine w_and ?_
    | with_reducible refine w_or ?_
    | with_reducible refine w_not ?_
    | with_reducible refine w_andV ?_
    | with_reducible refine w_orV ?_
    | with_reducible refine w_notV ?_
    | with_reducible refine w_ifE ?_
    | with_reducible refine w_isN ?_
    | with_reducible refine w_notN ?_
    | with_reducible refine w_tB ?_
    | with_reducible refine w_chain ?_
    | with_reducible refine w_chain3 ?_
    | with_reducible refine w_callS ?_
    | with_reducible refine w_raise ?_
    | with_reducible refine w_tryA ?_
    | with_reducible refine w_tup ?_
    | with_reducible refine w_lst ?_
    | with_reducible refine w_bm ?_
    | with_reducible refine w_sl ?_
    | with_reducible refine w_retN ?_
    | with_reducible refine w_forR ?_
    | ((with_reducible refine' w_eqS ?he ?_); (case he => first | exact decide_eq_true rfl | exact decide_eq_false (by decide +kernel)))
    | with_reducible refine w_T ?_
    | with_reducible refine w_nt ?_
    | with_reducible refine w_nf ?_
    | with_reducible refine w_F ?_
    | with_reducible refine w_part ?_
    | with_reducible refine w_partX ?_
    | with_reducible refine w_nopart ?_
    | with_reducible refine w_dget1 ?_
    | with_reducible refine w_dget2 ?_
    | with_reducible refine w_dget ?_
    | with_reducible refine w_din ?_
    | with_reducible refine w_dnotin ?_
    | with_reducible refine w_dput ?_
    | with_reducible refine w_dpop2 ?_
    | with_reducible refine w_dnew ?_
    | ((with_reducible refine' w_isi true ?hh ?e ?_); (case hh => first | exact ty_int | exact ty_bl | exact ty_str | exact ty_non); (case e => rfl))
    | ((with_reducible refine' w_isi false ?hh ?e ?_); (case hh => first | exact ty_int | exact ty_bl | exact ty_str | exact ty_non); (case e => rfl))
    | with_reducible refine w_lcR ?_
    | with_reducible refine w_lcL ?_)
local macro_rules
  | `(tactic| walk_at "w") => `(tactic| first | with_reducible refine w_seq ?_ | walk_at "v")
local macro_rules
  | `(tactic| walk_at "to") => `(tactic| ((repeat walk_at "v"); (try dsimp only [Int.reduceToNat, Int.reducePow, Int.reduceNeg, Int.reduceMul]); (with_reducible show tSeq _ _ _ _ _)))
local macro_rules
  | `(tactic| walk_at "go") => `(tactic| ((repeat walk_at "w"); (try dsimp only [Int.reduceToNat, Int.reducePow, Int.reduceNeg, Int.reduceMul])))
local macro_rules
  | `(tactic| walk_at "start") => `(tactic| ((try dsimp only [cxOf]); (repeat walk_at "w"); (try dsimp only [Int.reduceToNat, Int.reducePow, Int.reduceNeg, Int.reduceMul])))
local macro_rules
  | `(tactic| walk_at "ix") => `(tactic| first
    | refine w_ixT (by assumption) (st_of (by assumption)) (by rfl) ?_
    | refine w_ixL (by assumption) (sl_of (by assumption)) (by rfl) ?_
    | refine w_ixT (by assumption) (by assumption) (by rfl) ?_
    | refine w_ixL (by assumption) (by assumption) (by rfl) ?_
    | refine w_ixM (by assumption) (by assumption) (by rfl) ?_)
local macro_rules
  | `(tactic| walk_at "gx") => `(tactic| (repeat (first | walk_at "w" | walk_at "ix")); (try dsimp only [Int.reduceToNat, Int.reducePow, Int.reduceNeg, Int.reduceMul]))

def top (i : Nat) : Stmt := PySem.Challenge.pw_wholecloth_k08_disk.main.body.getD i (.Pass ⟨0, 0, 0, 0⟩)
/-! ### classes: their facts, methods, makings, properties -/
theorem lk_ne {a k : Str} {b : V} {es : List (Str × V)} (h : ¬ a = k) : ((k, b) :: es).lookup a = es.lookup a := by
  have hb : (a == k) = false := beq_eq_false_iff_ne.mpr h
  simp only [List.lookup, hb]
theorem lk_eq {k : Str} {b : V} {es : List (Str × V)} : ((k, b) :: es).lookup k = some b := by
  have hb : (k == k) = true := beq_iff_eq.mpr rfl
  simp only [List.lookup, hb]
theorem pf_ne {f g : Str} {v x : V} {r r' : List (Str × V)} (h : ¬ g = f) (e : putF f v r = r') : putF f v ((g, x) :: r) = (g, x) :: r' := by
  show (if g = f then _ else _) = _
  rw [if_neg h, e]
theorem pf_eq {f : Str} {v x : V} {r : List (Str × V)} : putF f v ((f, x) :: r) = (f, v) :: r := if_pos rfl
structure Dm (K : PySem.W.Frag) (C : Addr) (m q : Str) (st : Stmt) (ps : List Str) (f : Addr) (fd : FuncData) : Prop where
  fn : Fun K m q st f fd
  me : Meth K C m f
  bn : Binds K fd ps []
structure Di (K : PySem.W.Frag) (C : Addr) (q : Str) (st : Stmt) (ps : List Str) (f : Addr) (fd : FuncData) : Prop where
  fn : Fun K "__init__" q st f fd
  mke : Mk K C f
  bn : Binds K fd ps []
structure Dpr (K : PySem.W.Frag) (C : Addr) (m q : Str) (st : Stmt) (ps : List Str) (pf f : Addr) (fd : FuncData) : Prop where
  fn : Fun K m q st f fd
  pr : PropOf K C m pf f
  bn : Binds K fd ps []
structure CalM (P : Program) (w : World) (K : PySem.W.Frag) (mg : Str → Option Value) (base : Heap) (CX : CXT) (k : Nat) (C : Addr) (m : Str) (sp : Sp) : Prop where
  ex : ∃ (f : Addr) (fd : FuncData) (ps : List Str), FnOk P w K mg base CX k f fd ps sp ∧ Meth K C m f ∧ Binds K fd ps []
structure CalI (P : Program) (w : World) (K : PySem.W.Frag) (mg : Str → Option Value) (base : Heap) (CX : CXT) (k : Nat) (C : Addr) (sp : Sp) : Prop where
  ex : ∃ (f : Addr) (fd : FuncData) (ps : List Str), FnOk P w K mg base CX k f fd ps sp ∧ Mk K C f ∧ Binds K fd ps []
structure CalP (P : Program) (w : World) (K : PySem.W.Frag) (mg : Str → Option Value) (base : Heap) (CX : CXT) (k : Nat) (C : Addr) (m : Str) (sp : Sp) : Prop where
  ex : ∃ (p f : Addr) (fd : FuncData) (ps : List Str), FnOk P w K mg base CX k f fd ps sp ∧ PropOf K C m p f ∧ Binds K fd ps []
section
variable {P : Program} {w : World} {K : PySem.W.Frag} {mg : Str → Option Value} {base : Heap} {C : Addr} {m q : Str} {st : Stmt} {ps : List Str} {f pf : Addr} {fd : FuncData} {N : List Str} {k : Nat} {sp : Sp}
theorem Dm.ok (D : Dm K C m q st ps f fd) (S : FnScope N ps (defScope st)) (len : ∀ vs H Q E, sp vs H Q E → vs.length = ps.length)
    (hbody : ∀ (cdv : Value) (A : Around) (outer : List Env) (s : Shared) (H : Hp) (vs : List V) (Q : VK) (E : XK), Room k (A.deeper (envOfC q (defScope st) s.heap.objs.size f cdv)) → sp vs H Q E →
      ∃ t, PSs (cxOf CX0 P w K mg base N q (defScope st) f cdv A outer s H E).nox (defBody st) t ∧ t { nx := fun _ H' => Q .non H', rt := Q } (start N vs) H) : CalM P w K mg base CX0 (k + 1) C m sp :=
  ⟨f, fd, ps, D.fn.ok S len hbody, D.me, D.bn⟩
theorem Dm.okX (D : Dm K C m q st ps f fd) (S : FnScope N ps (defScope st)) (len : ∀ vs H Q E, sp vs H Q E → vs.length = ps.length)
    (hbody : ∀ (cdv : Value) (A : Around) (outer : List Env) (s : Shared) (H : Hp) (vs : List V) (Q : VK) (E : XK), Room k (A.deeper (envOfC q (defScope st) s.heap.objs.size f cdv)) → sp vs H Q E →
      ∃ t, PSs (cxOf (L2.CX P w) P w K mg base N q (defScope st) f cdv A outer s H E) (defBody st) t ∧ t { nx := fun _ H' => Q .non H', rt := Q } (start N vs) H) : CalM P w K mg base (L2.CX P w) (k + 1) C m sp :=
  ⟨f, fd, ps, D.fn.okX S len hbody, D.me, D.bn⟩
theorem Di.ok (D : Di K C q st ps f fd) (S : FnScope N ps (defScope st)) (len : ∀ vs H Q E, sp vs H Q E → vs.length = ps.length)
    (hbody : ∀ (cdv : Value) (A : Around) (outer : List Env) (s : Shared) (H : Hp) (vs : List V) (Q : VK) (E : XK), Room k (A.deeper (envOfC q (defScope st) s.heap.objs.size f cdv)) → sp vs H Q E →
      ∃ t, PSs (cxOf CX0 P w K mg base N q (defScope st) f cdv A outer s H E).nox (defBody st) t ∧ t { nx := fun _ H' => Q .non H', rt := Q } (start N vs) H) : CalI P w K mg base CX0 (k + 1) C sp :=
  ⟨f, fd, ps, D.fn.ok S len hbody, D.mke, D.bn⟩
theorem Dpr.ok (D : Dpr K C m q st ps pf f fd) (S : FnScope N ps (defScope st)) (len : ∀ vs H Q E, sp vs H Q E → vs.length = ps.length)
    (hbody : ∀ (cdv : Value) (A : Around) (outer : List Env) (s : Shared) (H : Hp) (vs : List V) (Q : VK) (E : XK), Room k (A.deeper (envOfC q (defScope st) s.heap.objs.size f cdv)) → sp vs H Q E →
      ∃ t, PSs (cxOf CX0 P w K mg base N q (defScope st) f cdv A outer s H E).nox (defBody st) t ∧ t { nx := fun _ H' => Q .non H', rt := Q } (start N vs) H) : CalP P w K mg base CX0 (k + 1) C m sp :=
  ⟨pf, f, fd, ps, D.fn.ok S len hbody, D.pr, D.bn⟩
end
section
variable {X : Cx} {k j : Nat} {C : Addr} {m x : Str} {sp : Sp} {p pos apos : Pos} {o e : Expr} {es : List Expr} {ta : TE} {t : TA}
theorem pe_calM (c : CalM X.prog X.w X.K X.mg X.base CX0 k C m sp) (cl : Cls X.K C) (hr : Room j X.A) (hk : k ≤ j) (ho : PE X o ta) (ha : PA X (e :: es) t) {pl : Sem Bool}
    (hst : starEach (e :: es) X.env = (false, eval e X.env) :: starEach es X.env := by rfl) (hpl : (backTo pos (starEach es X.env)).any (·.1) = false := by rfl)
    (ht : eval (.Call (.Attribute o m apos) (e :: es) [] pos) X.env = (do
      let ov ← eval o X.env
      standAt apos.atName
      let (f, first) ← holding [ov] (getMethod ov m pl)
      callWith pos f first (backTo pos (starEach (e :: es) X.env)) (backToKw pos (keywordEach [] X.env))) := by rfl) :
    PE X (.Call (.Attribute o m apos) (e :: es) [] pos) (tMeth C m sp [] E0 ta t) := by
  obtain ⟨f, fd, ps, F, me, b⟩ := c.ex
  exact pe_meth ho cl me F (hr.mono hk) b .nil pass0 ha hst hpl ht
theorem pe_calM0 (c : CalM X.prog X.w X.K X.mg X.base CX0 k C m sp) (cl : Cls X.K C) (hr : Room j X.A) (hk : k ≤ j) (ho : PE X o ta) {pl : Sem Bool}
    (ht : eval (.Call (.Attribute o m apos) [] [] pos) X.env = (do
      let ov ← eval o X.env
      standAt apos.atName
      let (f, first) ← holding [ov] (getMethod ov m pl)
      callWith pos f first (backTo pos (starEach [] X.env)) (backToKw pos (keywordEach [] X.env))) := by rfl) :
    PE X (.Call (.Attribute o m apos) [] [] pos) (tMeth C m sp [] E0 ta tNil) := by
  obtain ⟨f, fd, ps, F, me, b⟩ := c.ex
  exact pe_meth0 ho cl me F (hr.mono hk) b .nil pass0 ht
theorem pe_calI (c : CalI X.prog X.w X.K X.mg X.base CX0 k C sp) (gC : X.mg x = some (.ref C)) (hr : Room j X.A) (hk : k + 1 ≤ j) (hg : Gl X x) (ha : PA X (e :: es) t)
    (hdb : (x == ("__debug__" : Str)) = false := by decide) (he : starEach (e :: es) X.env = (false, eval e X.env) :: starEach es X.env := by rfl) (hpl : (backTo pos (starEach es X.env)).any (·.1) = false := by rfl) :
    PE X (.Call (.Name x p) (e :: es) [] pos) (tMake C sp [] E0 t) := by
  obtain ⟨f, fd, ps, F, mk, b⟩ := c.ex
  exact pe_make mk F (hr.mono hk) hg gC b .nil pass0 ha hdb he hpl
theorem pe_calI0 (c : CalI X.prog X.w X.K X.mg X.base CX0 k C sp) (gC : X.mg x = some (.ref C)) (hr : Room j X.A) (hk : k + 1 ≤ j) (hg : Gl X x)
    (hdb : (x == ("__debug__" : Str)) = false := by decide) : PE X (.Call (.Name x p) [] [] pos) (tMake C sp [] E0 tNil) := by
  obtain ⟨f, fd, ps, F, mk, b⟩ := c.ex
  exact pe_make0 mk F (hr.mono hk) hg gC b .nil pass0 hdb
theorem pe_calP (c : CalP X.prog X.w X.K X.mg X.base CX0 k C m sp) (cl : Cls X.K C) (hr : Room j X.A) (hk : k + 1 ≤ j) (ho : PE X o ta)
    (hab : attributeBase o m X.env (eval o X.env) = eval o X.env) : PE X (.Attribute o m pos) (tProp C sp [] E0 ta) := by
  obtain ⟨q, f, fd, ps, F, pr, b⟩ := c.ex
  exact pe_prop ho cl pr F (hr.mono hk) b .nil pass0 hab
end
/-! the steps -/
section
variable {K : PySem.W.Frag} {M G H : Hp} {σ : L2.St} {x y v : V} {ta tv : TE} {tr : TA} {Q : VK} {D : Ends} {a C dx : Addr} {fs : List (Str × V)} {f m : Str} {sp : Sp} {dvs : List V} {E : XK}
def FldX (K : PySem.W.Frag) (f : Str) (x : V) (H1 : Hp) (Q : VK) : Prop := ∃ a C dx fs v, x = .ref a ∧ H1 a = some (.ins C dx fs) ∧ Cls K C ∧ NoAttr K C f ∧ fs.lookup f = some v ∧ Q v H1
theorem w_fld (h : ta σ H fun x H1 => FldX K f x H1 Q) : tFld K ta f σ H Q := h
theorem w_fldM (j : J M G H) (h : M a = some (.ins C dx fs)) (c : Cls K C) (n : NoAttr K C f) (l : fs.lookup f = some v) (q : Q v H) : FldX K f (.ref a) H Q := ⟨a, C, dx, fs, v, rfl, j.m _ _ h, c, n, l, q⟩
theorem w_fldG (j : J M G H) (h : G a = some (.ins C dx fs)) (c : Cls K C) (n : NoAttr K C f) (l : fs.lookup f = some v) (q : Q v H) : FldX K f (.ref a) H Q := ⟨a, C, dx, fs, v, rfl, j.g _ _ h, c, n, l, q⟩
def SetX (K : PySem.W.Frag) (f : Str) (x y : V) (H2 : Hp) (R : Hp → Prop) : Prop := ∃ a C dx fs, x = .ref a ∧ H2 a = some (.ins C dx fs) ∧ Cls K C ∧ NoAttr K C f ∧ fs.length < 1000 ∧ R (upd H2 a (.ins C dx (putF f y fs)))
theorem w_sfld (h : tv σ H fun y H1 => ta σ H1 fun x H2 => SetX K f x y H2 (D.nx σ)) : sFld K ta tv f D σ H := h
theorem w_setX {R : Hp → Prop} (j : J M G H) (h : M a = some (.ins C dx fs)) (c : Cls K C) (n : NoAttr K C f) (l : fs.length < 1000) (q : ∀ H', J (upd M a (.ins C dx (putF f y fs))) G H' → R H') : SetX K f (.ref a) y H R :=
  ⟨a, C, dx, fs, rfl, j.m _ _ h, c, n, l, q _ (j.put h)⟩
def MethX (C : Addr) (m : Str) (sp : Sp) (dvs : List V) (E : XK) (t : TA) (σ : L2.St) (x : V) (H1 : Hp) (Q : VK) : Prop := ∃ a dx fs, x = .ref a ∧ H1 a = some (.ins C dx fs) ∧ fs.lookup m = none ∧ t σ H1 fun vs H2 => sp (x :: (vs ++ dvs)) H2 Q E
theorem w_meth (h : ta σ H fun x H1 => MethX C m sp dvs E tr σ x H1 Q) : tMeth C m sp dvs E ta tr σ H Q := h
theorem w_methM (j : J M G H) (h : M a = some (.ins C dx fs)) (l : fs.lookup m = none) (q : tr σ H fun vs H2 => sp (.ref a :: (vs ++ dvs)) H2 Q E) : MethX C m sp dvs E tr σ (.ref a) H Q := ⟨a, dx, fs, rfl, j.m _ _ h, l, q⟩
theorem w_methG (j : J M G H) (h : G a = some (.ins C dx fs)) (l : fs.lookup m = none) (q : tr σ H fun vs H2 => sp (.ref a :: (vs ++ dvs)) H2 Q E) : MethX C m sp dvs E tr σ (.ref a) H Q := ⟨a, dx, fs, rfl, j.g _ _ h, l, q⟩
def PropX (C : Addr) (sp : Sp) (dvs : List V) (E : XK) (x : V) (H1 : Hp) (Q : VK) : Prop := ∃ a dx fs, x = .ref a ∧ H1 a = some (.ins C dx fs) ∧ sp (.ref a :: dvs) H1 Q E
theorem w_prop (h : ta σ H fun x H1 => PropX C sp dvs E x H1 Q) : tProp C sp dvs E ta σ H Q := h
theorem w_propM (j : J M G H) (h : M a = some (.ins C dx fs)) (q : sp (.ref a :: dvs) H Q E) : PropX C sp dvs E (.ref a) H Q := ⟨a, dx, fs, rfl, j.m _ _ h, q⟩
theorem w_propG (j : J M G H) (h : G a = some (.ins C dx fs)) (q : sp (.ref a :: dvs) H Q E) : PropX C sp dvs E (.ref a) H Q := ⟨a, dx, fs, rfl, j.g _ _ h, q⟩
/-- C(..): what is asked behind the arguments -/
def MakeX (C : Addr) (sp : Sp) (dvs : List V) (E : XK) (vs : List V) (H1 : Hp) (Q : VK) : Prop := ∀ x dx, H1 x = none → H1 dx = none → dx ≠ x →
  sp (.ref x :: (vs ++ dvs)) (upd (upd H1 dx (.own x)) x (.ins C dx [])) (fun v H2 => v = .non ∧ Q (.ref x) H2) E
theorem w_make (h : tr σ H fun vs H1 => MakeX C sp dvs E vs H1 Q) : tMake C sp dvs E tr σ H Q := h
/-- a new instance, owned; its dict stands nowhere in M, G -/
theorem w_makeX {vs : List V} (j : J M G H) (q : ∀ x dx H', J (upd M x (.ins C dx [])) G H' → M x = none → G x = none → sp (.ref x :: (vs ++ dvs)) H' (fun v H2 => v = .non ∧ Q (.ref x) H2) E) : MakeX C sp dvs E vs H Q := by
  intro x dx hx hd ne
  have j1 : J M G (upd H dx (.own x)) := ⟨fun a o e => by rw [upd_ne (ne_of_none (j.m a o e) hd)]; exact j.m a o e, fun a o e => by rw [upd_ne (ne_of_none (j.g a o e) hd)]; exact j.g a o e, j.d⟩
  exact q x dx _ (j1.newM (by rw [upd_ne ne.symm]; exact hx)) (j.freeM hx) (j.freeG hx)
end
/-! zip of two lists, as far as both go -/
def ZipX (K : PySem.W.Frag) (g : TG) (t : TS) (D : Ends) (σ : L2.St) (vs : List V) (H1 : Hp) : Prop := ∃ a b xs ys, vs = [.ref a, .ref b] ∧ SqL K H1 a xs ∧ SqL K H1 b ys ∧ ∃ W : Nat → Nat → L2.St → Hp → Prop, (∃ m, W 0 m σ H1) ∧ ∀ i m σ H, W i m σ H →
      ((Itz K a b).stop i H ∧ D.nx σ H) ∨ ((Itz K a b).go i H ∧ ∃ N : L2.St → Hp → Prop, (∀ σ' H', N σ' H' → ∃ m', m' < m ∧ W (i + 1) m' σ' H') ∧ ∀ v H', (Itz K a b).yld i H v H' → g v σ H' fun σ2 H2 => t { D with nx := N, ct := N, bk := D.nx } σ2 H2)
theorem w_forZ {K : PySem.W.Frag} {ta : TA} {g : TG} {t : TS} {D : Ends} {σ : L2.St} {H : Hp} (h : ta σ H fun vs H1 => ZipX K g t D σ vs H1) : tFor (iZip K ta) g t D σ H := h
theorem w_zip {K : PySem.W.Frag} {a b : Addr} {xs ys : List V} {g : TG} {tb : TS} {D : Ends} {σ : L2.St} {H : Hp} (Pv : Nat → L2.St → Hp → Prop) (h0 : Pv 0 σ H) (hq : ∀ i σ H, Pv i σ H → SqL K H a xs ∧ SqL K H b ys)
    (hs : ∀ (i : Nat) (x y : V) (T : Addr) (σ : L2.St) (H : Hp), xs[i]? = some x → ys[i]? = some y → Pv i σ H → H T = none → g (.ref T) σ (upd H T (.tup [x, y])) fun σ2 H2 => tb { D with nx := Pv (i + 1), ct := Pv (i + 1), bk := D.nx } σ2 H2) (hd : ∀ σ H, Pv (min xs.length ys.length) σ H → D.nx σ H) :
    ZipX K g tb D σ [.ref a, .ref b] H := by
  obtain ⟨q1, q2⟩ := hq 0 σ H h0
  refine ⟨a, b, xs, ys, rfl, q1, q2, fun i m σ H => m = min xs.length ys.length - i ∧ i ≤ min xs.length ys.length ∧ Pv i σ H, ⟨_, rfl, Nat.zero_le _, h0⟩, ?_⟩
  rintro i m σ H ⟨rfl, hi, p⟩
  obtain ⟨qx, qy⟩ := hq i σ H p
  by_cases hlt : i < min xs.length ys.length
  · have hx : xs[i]? = some xs[i] := List.getElem?_eq_getElem (by omega)
    have hy : ys[i]? = some ys[i] := List.getElem?_eq_getElem (by omega)
    refine .inr ⟨⟨xs, ys, _, _, qx, qy, hx, hy⟩, Pv (i + 1), fun σ' H' p' => ⟨min xs.length ys.length - (i + 1), by omega, rfl, hlt, p'⟩, fun v H' y => ?_⟩
    obtain ⟨T, x', y', rfl, hT, rfl, f1, f2⟩ := y
    exact hs i x' y' T σ H (f1 xs qx) (f2 ys qy) p hT
  · have e : i = min xs.length ys.length := by omega
    subst e
    exact .inl ⟨⟨xs, ys, qx, qy, by omega⟩, hd σ H p⟩
/-! for x in e, e a list -/
def ForX (K : PySem.W.Frag) (g : TG) (t : TS) (D : Ends) (σ : L2.St) (x : V) (H1 : Hp) : Prop := ∃ a, x = .ref a ∧ (∃ xs, SqL K H1 a xs) ∧ ∃ W : Nat → Nat → L2.St → Hp → Prop, (∃ m, W 0 m σ H1) ∧ ∀ i m σ H, W i m σ H →
      ((Itl K a).stop i H ∧ D.nx σ H) ∨ ((Itl K a).go i H ∧ ∃ N : L2.St → Hp → Prop, (∀ σ' H', N σ' H' → ∃ m', m' < m ∧ W (i + 1) m' σ' H') ∧ ∀ x H', (Itl K a).yld i H x H' → g x σ H' fun σ2 H2 => t { D with nx := N, ct := N, bk := D.nx } σ2 H2)
theorem w_forE {K : PySem.W.Frag} {tl : TE} {g : TG} {t : TS} {D : Ends} {σ : L2.St} {H : Hp} (h : tl σ H fun x H1 => ForX K g t D σ x H1) : tFor (iList K tl) g t D σ H := h
theorem w_forX {K : PySem.W.Frag} {a : Addr} {xs : List V} {g : TG} {t : TS} {D : Ends} {σ : L2.St} {H : Hp} (Pv : Nat → L2.St → Hp → Prop) (h0 : Pv 0 σ H) (hl : ∀ i σ H, i ≤ xs.length → Pv i σ H → SqL K H a xs)
    (hs : ∀ i x σ H, xs[i]? = some x → Pv i σ H → g x σ H fun σ2 H2 => t { D with nx := Pv (i + 1), ct := Pv (i + 1), bk := D.nx } σ2 H2) (hd : ∀ σ H, Pv xs.length σ H → D.nx σ H) : ForX K g t D σ (.ref a) H :=
  ⟨a, rfl, ⟨xs, hl 0 σ H (Nat.zero_le _) h0⟩, for_list Pv h0 hl hs hd⟩
local macro_rules
  | `(tactic| walk_at "v") => `(tactic| first
    | with_reducible refine w_fld ?_
    | with_reducible refine w_sfld ?_
    | with_reducible refine w_meth ?_
    | with_reducible refine w_prop ?_
    | with_reducible refine w_make ?_
    | with_reducible refine w_forZ ?_
    | with_reducible refine w_forE (tl := tFld _ _ _) ?_
    | with_reducible refine w_forE (tl := tOp _ _ _) ?_
    | with_reducible refine w_forE (tl := tCB _ _) ?_
    | with_reducible refine w_forE (tl := tLst _) ?_)
def ForTX (K : PySem.W.Frag) (g : TG) (t : TS) (D : Ends) (σ : L2.St) (x : V) (H1 : Hp) : Prop := ∃ a, x = .ref a ∧ (∃ xs, SqT K H1 a xs) ∧ ∃ W : Nat → Nat → L2.St → Hp → Prop, (∃ m, W 0 m σ H1) ∧ ∀ i m σ H, W i m σ H →
      ((Itt K a).stop i H ∧ D.nx σ H) ∨ ((Itt K a).go i H ∧ ∃ N : L2.St → Hp → Prop, (∀ σ' H', N σ' H' → ∃ m', m' < m ∧ W (i + 1) m' σ' H') ∧ ∀ x H', (Itt K a).yld i H x H' → g x σ H' fun σ2 H2 => t { D with nx := N, ct := N, bk := D.nx } σ2 H2)
theorem w_forTE {K : PySem.W.Frag} {tl : TE} {g : TG} {t : TS} {D : Ends} {σ : L2.St} {H : Hp} (h : tl σ H fun x H1 => ForTX K g t D σ x H1) : tFor (iTup K tl) g t D σ H := h
theorem w_forTX {K : PySem.W.Frag} {a : Addr} {xs : List V} {g : TG} {t : TS} {D : Ends} {σ : L2.St} {H : Hp} (Pv : Nat → L2.St → Hp → Prop) (h0 : Pv 0 σ H) (hl : ∀ i σ H, i ≤ xs.length → Pv i σ H → SqT K H a xs)
    (hs : ∀ i x σ H, xs[i]? = some x → Pv i σ H → g x σ H fun σ2 H2 => t { D with nx := Pv (i + 1), ct := Pv (i + 1), bk := D.nx } σ2 H2) (hd : ∀ σ H, Pv xs.length σ H → D.nx σ H) : ForTX K g t D σ (.ref a) H :=
  ⟨a, rfl, ⟨xs, hl 0 σ H (Nat.zero_le _) h0⟩, for_tup Pv h0 hl hs hd⟩
local macro_rules
  | `(tactic| walk_at "v") => `(tactic| first
    | with_reducible refine w_forTE (tl := tFld _ _ _) ?_
    | with_reducible refine w_forTE (tl := tOp _ _ _) ?_
    | with_reducible refine w_forTE (tl := tC _) ?_
    | with_reducible refine w_forE (tl := tC _) ?_
    | with_reducible refine w_forTE (tl := tCall _ _ _ _) ?_
    | with_reducible refine w_forE (tl := tCall _ _ _ _) ?_)
/-! ### class Disk -/
structure Tx_Disk (K : PySem.W.Frag) (mg : Str → Option Value) (C : Addr) : Prop where
  cl : Cls K C
  gC : mg "Disk" = some (.ref C)
  n_blocks : NoAttr K C "blocks"
  n_cache : NoAttr K C "cache"
  n_fresh : NoAttr K C "fresh"
  n_reach : NoAttr K C "reach"
def fl_Disk (x0 x1 x2 x3 : V) : List (Str × V) := [("blocks", x0), ("cache", x1), ("fresh", x2), ("reach", x3)]
theorem fl_Disk_blocks {x0 x1 x2 x3 : V} : (fl_Disk x0 x1 x2 x3).lookup ("blocks" : Str) = some x0 := lk_eq
theorem sf_Disk_blocks {x0 x1 x2 x3 y : V} : putF "blocks" y (fl_Disk x0 x1 x2 x3) = fl_Disk y x1 x2 x3 := pf_eq
theorem fl_Disk_cache {x0 x1 x2 x3 : V} : (fl_Disk x0 x1 x2 x3).lookup ("cache" : Str) = some x1 := (lk_ne (by decide +kernel : ¬ (("cache" : Str) = "blocks"))).trans (lk_eq)
theorem sf_Disk_cache {x0 x1 x2 x3 y : V} : putF "cache" y (fl_Disk x0 x1 x2 x3) = fl_Disk x0 y x2 x3 := pf_ne (by decide +kernel : ¬ (("blocks" : Str) = "cache")) (pf_eq)
theorem fl_Disk_fresh {x0 x1 x2 x3 : V} : (fl_Disk x0 x1 x2 x3).lookup ("fresh" : Str) = some x2 := (lk_ne (by decide +kernel : ¬ (("fresh" : Str) = "blocks"))).trans ((lk_ne (by decide +kernel : ¬ (("fresh" : Str) = "cache"))).trans (lk_eq))
theorem sf_Disk_fresh {x0 x1 x2 x3 y : V} : putF "fresh" y (fl_Disk x0 x1 x2 x3) = fl_Disk x0 x1 y x3 := pf_ne (by decide +kernel : ¬ (("blocks" : Str) = "fresh")) (pf_ne (by decide +kernel : ¬ (("cache" : Str) = "fresh")) (pf_eq))
theorem fl_Disk_reach {x0 x1 x2 x3 : V} : (fl_Disk x0 x1 x2 x3).lookup ("reach" : Str) = some x3 := (lk_ne (by decide +kernel : ¬ (("reach" : Str) = "blocks"))).trans ((lk_ne (by decide +kernel : ¬ (("reach" : Str) = "cache"))).trans ((lk_ne (by decide +kernel : ¬ (("reach" : Str) = "fresh"))).trans (lk_eq)))
theorem sf_Disk_reach {x0 x1 x2 x3 y : V} : putF "reach" y (fl_Disk x0 x1 x2 x3) = fl_Disk x0 x1 x2 y := pf_ne (by decide +kernel : ¬ (("blocks" : Str) = "reach")) (pf_ne (by decide +kernel : ¬ (("cache" : Str) = "reach")) (pf_ne (by decide +kernel : ¬ (("fresh" : Str) = "reach")) (pf_eq)))
theorem no_Disk {x0 x1 x2 x3 : V} {m : Str} (h_blocks : ¬ m = "blocks") (h_cache : ¬ m = "cache") (h_fresh : ¬ m = "fresh") (h_reach : ¬ m = "reach") : (fl_Disk x0 x1 x2 x3).lookup m = none := (lk_ne h_blocks).trans ((lk_ne h_cache).trans ((lk_ne h_fresh).trans ((lk_ne h_reach).trans (rfl))))
theorem nf_Disk_blocks {x0 : V} : putF "blocks" x0 ([] : List (Str × V)) = ([("blocks", x0)] : List (Str × V)) := rfl
theorem nf_Disk_cache {x0 x1 : V} : putF "cache" x1 ([("blocks", x0)] : List (Str × V)) = ([("blocks", x0), ("cache", x1)] : List (Str × V)) := pf_ne (by decide +kernel : ¬ (("blocks" : Str) = "cache")) (rfl)
theorem nf_Disk_fresh {x0 x1 x2 : V} : putF "fresh" x2 ([("blocks", x0), ("cache", x1)] : List (Str × V)) = ([("blocks", x0), ("cache", x1), ("fresh", x2)] : List (Str × V)) := pf_ne (by decide +kernel : ¬ (("blocks" : Str) = "fresh")) (pf_ne (by decide +kernel : ¬ (("cache" : Str) = "fresh")) (rfl))
theorem nf_Disk_reach {x0 x1 x2 x3 : V} : putF "reach" x3 ([("blocks", x0), ("cache", x1), ("fresh", x2)] : List (Str × V)) = ([("blocks", x0), ("cache", x1), ("fresh", x2), ("reach", x3)] : List (Str × V)) := pf_ne (by decide +kernel : ¬ (("blocks" : Str) = "reach")) (pf_ne (by decide +kernel : ¬ (("cache" : Str) = "reach")) (pf_ne (by decide +kernel : ¬ (("fresh" : Str) = "reach")) (rfl)))
/-! ### disks -/
structure DS where
  kb : List (Key × V)
  ca : List (Int × V)
  kf : List (Key × V)
  r : Int
structure DA where
  p : Addr
  b : Addr
  c : Addr
  f : Addr
  dx : Addr
inductive PrsAt (G : Hp) : List V → List (Int × V) → Prop
  | nil : PrsAt G [] []
  | cons {t : Addr} {n : Int} {v : V} {xs : List V} {qs : List (Int × V)} : G t = some (.tup [.int n, v]) → PrsAt G xs qs → PrsAt G (.ref t :: xs) ((n, v) :: qs)
theorem PrsAt.ex {G G' : Hp} (e : Ex G G') : ∀ {xs : List V} {qs : List (Int × V)}, PrsAt G xs qs → PrsAt G' xs qs
  | _, _, .nil => .nil
  | _, _, .cons h t => .cons (e _ _ h) (t.ex e)
theorem PrsAt.len {G : Hp} : ∀ {xs : List V} {qs : List (Int × V)}, PrsAt G xs qs → xs.length = qs.length
  | _, _, .nil => rfl
  | _, _, .cons _ t => by rw [List.length_cons, List.length_cons, t.len]
theorem PrsAt.snoc {G : Hp} {t : Addr} {n : Int} {v : V} (h : G t = some (.tup [.int n, v])) : ∀ {xs : List V} {qs : List (Int × V)}, PrsAt G xs qs → PrsAt G (xs ++ [.ref t]) (qs ++ [(n, v)])
  | _, _, .nil => .cons h .nil
  | _, _, .cons h' t => .cons h' (t.snoc h)
theorem PrsAt.get {G : Hp} : ∀ {xs : List V} {qs : List (Int × V)} {i : Nat} {x : V}, PrsAt G xs qs → xs[i]? = some x → ∃ t n v, x = .ref t ∧ G t = some (.tup [.int n, v]) ∧ qs[i]? = some (n, v)
  | _, _, _, _, .nil, e => by simp at e
  | _, _, 0, _, .cons h _, e => by
    have e := Option.some.inj e
    exact ⟨_, _, _, e.symm, h, rfl⟩
  | _, _, i + 1, _, .cons _ t, e => by
    obtain ⟨a, n, v, h1, h2, h3⟩ := t.get (i := i) (by simpa using e)
    exact ⟨a, n, v, h1, h2, by simpa using h3⟩
theorem PrsAt.at {G : Hp} {xs : List V} {qs : List (Int × V)} {i : Nat} (h : PrsAt G xs qs) (hi : i < qs.length) : ∃ t, xs[i]? = some (.ref t) ∧ G t = some (.tup [.int qs[i].1, qs[i].2]) := by
  have hx : i < xs.length := by rw [h.len]; exact hi
  obtain ⟨t, n, v, h1, h2, h3⟩ := h.get (List.getElem?_eq_getElem hx)
  have e := List.getElem?_eq_getElem hi
  rw [h3] at e
  have e := Option.some.inj e
  refine ⟨t, by rw [List.getElem?_eq_getElem hx, h1], ?_⟩
  rw [← e]; exact h2
def putC (kv : List (Key × V)) (q : Int × V) : List (Key × V) := putK kv (.inl q.1) q.2
def fateC (kb : List (Key × V)) (z : (Int × V) × Int) : List (Key × V) := if z.2 = 1 then putC kb z.1 else if z.2 = 2 then putK kb (.inl z.1.1) .non else kb
def selC (n : Int) (b : V) (q : Int × V) : V := if q.1 = n then q.2 else b
def lookM (s : DS) (n : Int) : V := (valV s.kf (.inl n)).getD ((valV s.kb (.inl n)).getD .non)
def seenM (kb : List (Key × V)) (ca : List (Int × V)) (n : Int) : V := ca.foldl (selC n) ((valV kb (.inl n)).getD .non)
theorem sel_put (n : Int) (b : V) : ∀ (ca : List (Int × V)) (kf : List (Key × V)), ca.foldl (selC n) ((valV kf (.inl n)).getD b) = (valV (ca.foldl putC kf) (.inl n)).getD b
  | [], kf => rfl
  | q :: r, kf => by
    rw [List.foldl_cons, List.foldl_cons, ← sel_put n b r (putC kf q)]
    congr 1
    unfold selC putC
    rw [valV_put]
    by_cases h : q.1 = n
    · rw [if_pos h, if_pos (by rw [h])]; rfl
    · rw [if_neg h, if_neg (fun z => h (Sum.inl.inj z).symm)]
theorem seen_look {s : DS} (h : s.kf = s.ca.foldl putC []) (n : Int) : lookM s n = seenM s.kb s.ca n := by
  unfold lookM seenM
  rw [h, ← sel_put n _ s.ca []]
  rfl
def AllB (P : V → Prop) (kv : List (Key × V)) : Prop := ∀ k v, valV kv k = some v → P v
theorem AllB.nil {P : V → Prop} : AllB P [] := fun k v h => by cases h
theorem AllB.put {P : V → Prop} {kv : List (Key × V)} (h : AllB P kv) (k : Key) {v : V} (hv : P v) : AllB P (putK kv k v) := fun j u e => by
  rw [valV_put] at e
  split at e
  · exact Option.some.inj e ▸ hv
  · exact h _ _ e
theorem AllB.puts {P : V → Prop} : ∀ {ca : List (Int × V)} {kv : List (Key × V)}, AllB P kv → (∀ q ∈ ca, P q.2) → AllB P (ca.foldl putC kv)
  | [], _, h, _ => h
  | q :: r, kv, h, hq => AllB.puts (ca := r) (h.put _ (hq q List.mem_cons_self)) fun x m => hq x (List.mem_cons_of_mem _ m)
theorem AllB.fate {P : V → Prop} {kv : List (Key × V)} {z : (Int × V) × Int} (h : AllB P kv) (hv : P z.1.2) (h0 : P .non) : AllB P (fateC kv z) := by
  unfold fateC
  split
  · exact h.put _ hv
  · split
    · exact h.put _ h0
    · exact h
theorem AllB.fates {P : V → Prop} (h0 : P .non) : ∀ {zs : List ((Int × V) × Int)} {kv : List (Key × V)}, AllB P kv → (∀ z ∈ zs, P z.1.2) → AllB P (zs.foldl fateC kv)
  | [], _, h, _ => h
  | q :: r, kv, h, hq => AllB.fates h0 (zs := r) (h.fate (hq q List.mem_cons_self) h0) fun x m => hq x (List.mem_cons_of_mem _ m)
theorem putK_len' (c : List (Key × V)) (k : Key) (x : V) : (putK c k x).length ≤ c.length + 1 := by
  unfold putK
  split
  · rw [List.length_map]; omega
  · rw [List.length_append]; exact Nat.le_refl _
theorem puts_len : ∀ (ca : List (Int × V)) (kv : List (Key × V)), (ca.foldl putC kv).length ≤ kv.length + ca.length
  | [], _ => Nat.le_refl _
  | q :: r, kv => by
    have h := puts_len r (putC kv q)
    have h2 : (putC kv q).length ≤ kv.length + 1 := putK_len' _ _ _
    rw [List.foldl_cons, List.length_cons]; omega
theorem fate_len (kv : List (Key × V)) (z : (Int × V) × Int) : (fateC kv z).length ≤ kv.length + 1 := by
  unfold fateC
  split
  · exact putK_len' _ _ _
  · split
    · exact putK_len' _ _ _
    · exact Nat.le_succ _
theorem fates_len : ∀ (zs : List ((Int × V) × Int)) (kv : List (Key × V)), (zs.foldl fateC kv).length ≤ kv.length + zs.length
  | [], _ => Nat.le_refl _
  | q :: r, kv => by
    have h := fates_len r (fateC kv q)
    have h2 := fate_len kv q
    rw [List.foldl_cons, List.length_cons]; omega
/-- the disk stands in a heap N, its tuples in G -/
structure DkAt (C : Addr) (N G : Hp) (d : DA) (s : DS) : Prop where
  op : N d.p = some (.ins C d.dx (fl_Disk (.ref d.b) (.ref d.c) (.ref d.f) (.int s.r)))
  ob : N d.b = some (.dK s.kb)
  oc : ∃ xs, N d.c = some (.lst xs) ∧ PrsAt G xs s.ca
  of : N d.f = some (.dK s.kf)
  bf : d.b ≠ d.f
def Fr (d : DA) (M M' : Hp) : Prop := ∀ a o, M a = some o → a ≠ d.p → a ≠ d.b → a ≠ d.c → a ≠ d.f → M' a = some o
theorem Fr.refl {d : DA} {M : Hp} : Fr d M M := fun _ _ e _ _ _ _ => e
def Sub (N M G : Hp) : Prop := ∀ a o, N a = some o → M a = some o ∨ G a = some o
theorem Sub.m {M G : Hp} : Sub M M G := fun _ _ e => .inl e
theorem Sub.g {M G : Hp} : Sub G M G := fun _ _ e => .inr e
theorem Sub.hp {N M G H : Hp} (s : Sub N M G) (j : J M G H) : Same N H := fun a o e => (s a o e).elim (j.m a o) (j.g a o)
theorem Sub.hd {N M G : Hp} {a : Addr} {kvs : List (Key × V)} (s : Sub N M G) (h : N a = some (.dK kvs)) : Hd M G a kvs := (s _ _ h).elim .inl fun h => .inr (.inl h)
theorem DkAt.ex {C : Addr} {N G G' : Hp} {d : DA} {s : DS} (h : DkAt C N G d s) (e : Ex G G') : DkAt C N G' d s := by
  obtain ⟨xs, h1, h2⟩ := h.oc
  exact ⟨h.op, h.ob, ⟨xs, h1, h2.ex e⟩, h.of, h.bf⟩
/-- kinds that differ -/
theorem ne_k {H : Hp} {a b : Addr} {o u : HO} (h1 : H a = some o) (h2 : H b = some u) (h : o ≠ u) : a ≠ b := fun z => by subst z; rw [h1] at h2; exact h (Option.some.inj h2)
theorem w_fldS {K : PySem.W.Frag} {N M G H : Hp} {a C dx : Addr} {fs : List (Str × V)} {f : Str} {v : V} {Q : VK} (j : J M G H) (s : Sub N M G) (h : N a = some (.ins C dx fs)) (c : Cls K C) (n : NoAttr K C f) (l : fs.lookup f = some v) (q : Q v H) : FldX K f (.ref a) H Q :=
  ⟨a, C, dx, fs, v, rfl, s.hp j _ _ h, c, n, l, q⟩
theorem w_lenS {K : PySem.W.Frag} {N M G H : Hp} {a : Addr} {xs : List V} {Q : VK} (j : J M G H) (s : Sub N M G) (h : N a = some (.lst xs)) (q : Q (.int xs.length) H) : uLen K [.ref a] H Q := .inl ⟨a, xs, rfl, .inl (.inl (.inl (s.hp j _ _ h))), q⟩
theorem w_ixS {K : PySem.W.Frag} {N M G H : Hp} {a : Addr} {xs : List V} {m : Int} {v : V} {Q : VK} (j : J M G H) (s : Sub N M G) (h : N a = some (.lst xs)) (e : atI xs m = some v) (q : Q v H) : uIx K (.ref a) (.int m) H Q :=
  .inl ⟨a, xs, m, v, rfl, rfl, .inl (.inl (s.hp j _ _ h)), e, q⟩
theorem w_methS {C dx : Addr} {N M G H : Hp} {a : Addr} {fs : List (Str × V)} {m : Str} {sp : Sp} {dvs : List V} {E : XK} {tr : TA} {σ : L2.St} {Q : VK} (j : J M G H) (s : Sub N M G) (h : N a = some (.ins C dx fs)) (l : fs.lookup m = none) (q : tr σ H fun vs H2 => sp (.ref a :: (vs ++ dvs)) H2 Q E) :
    MethX C m sp dvs E tr σ (.ref a) H Q := ⟨a, dx, fs, rfl, s.hp j _ _ h, l, q⟩
theorem w_propS {C dx : Addr} {N M G H : Hp} {a : Addr} {fs : List (Str × V)} {sp : Sp} {dvs : List V} {E : XK} {Q : VK} (j : J M G H) (s : Sub N M G) (h : N a = some (.ins C dx fs)) (q : sp (.ref a :: dvs) H Q E) : PropX C sp dvs E (.ref a) H Q := ⟨a, dx, fs, rfl, s.hp j _ _ h, q⟩
theorem upd_self {M : Hp} {a : Addr} {o : HO} (h : M a = some o) : upd M a o = M := by
  funext b
  by_cases q : b = a
  · subst q; rw [upd_same, h]
  · rw [upd_ne q]
theorem take_one' {α : Type} {l : List α} {i : Nat} {x : α} (h : l[i]? = some x) : l.take (i + 1) = l.take i ++ [x] := by rw [List.take_add_one, h]; rfl
theorem putF_len (f : Str) (v : V) : ∀ fs : List (Str × V), (putF f v fs).length ≤ fs.length + 1
  | [] => Nat.le_refl _
  | (g, x) :: r => by
    show (if g = f then (g, v) :: r else (g, x) :: putF f v r).length ≤ _
    split
    · simp
    · have := putF_len f v r; simp; omega
/-! ### Disk.wipe -/
abbrev s_Disk_wipe : Stmt := inClass (top 3) 1
abbrev n_Disk_wipe : List Str := ["self"]
theorem sc_Disk_wipe : FnScope n_Disk_wipe ["self"] (defScope s_Disk_wipe) := ⟨rfl, rfl, rfl, by decide +kernel, rfl, by decide +kernel, by decide +kernel⟩
def DkNew (C : Addr) (x : Addr × Addr) (M : Hp) (v : V) (M' G' : Hp) : Prop := v = .non ∧ ∃ b c f, DkAt C M' G' ⟨x.1, b, c, f, x.2⟩ ⟨[], [], [], 0⟩ ∧ (∀ a o, M a = some o → a ≠ x.1 → M' a = some o) ∧ M b = none ∧ M c = none ∧ M f = none
def sp_Disk_wipe (K : PySem.W.Frag) (C : Addr) : Sp := Sg (α := Addr × Addr) (fun x vs M _ => vs = [.ref x.1] ∧ ∃ fs, M x.1 = some (.ins C x.2 fs) ∧ (fs = [] ∨ ∃ x0 x1 x2 x3, fs = fl_Disk x0 x1 x2 x3)) (fun x M _ v M' G' => DkNew C x M v M' G')
theorem ok_Disk_wipe {P : Program} {w : World} {K : PySem.W.Frag} {mg : Str → Option Value} {base : Heap}
    {C_Disk : Addr} (T_Disk : Tx_Disk K mg C_Disk)
    {f : Addr} {fd : FuncData} (D : Dm K C_Disk "wipe" "Disk.wipe" s_Disk_wipe ["self"] f fd) : CalM P w K mg base CX0 1 C_Disk "wipe" (sp_Disk_wipe K C_Disk) := by
  refine D.ok sc_Disk_wipe (fun vs H Q E h => ?_) fun cdv A outer s H vs Q E hr h => ?_
  · obtain ⟨x, M, G, j, ⟨rfl, _⟩, _⟩ := h; rfl
  obtain ⟨⟨p, dx⟩, M, G, j, ⟨rfl, fs, hp, hfs⟩, k⟩ := h
  dsimp only at hp k
  refine ⟨_, (pss_cons (ps_fld (pv 0) pe_dnewK rfl)
(pss_cons (ps_fld (pv 0) (pe_lst pa_nil) rfl)
(pss_cons (ps_fld (pv 0) pe_dnewK rfl)
(pss_one (ps_fld (pv 0) pe_int rfl))))), ?_⟩
  have hl : fs.length ≤ 4 := by rcases hfs with rfl | ⟨_, _, _, _, rfl⟩ <;> first | exact Nat.zero_le _ | exact Nat.le_refl _
  walk_at "start"
  refine w_newM j (Nat.zero_le _) fun b H1 j1 nb gb => ?_
  walk_at "go"
  have pb : p ≠ b := ne_of_none hp nb
  refine w_setX j1 (upd_ne' hp pb) T_Disk.cl T_Disk.n_blocks (by omega) fun H2 j2 => ?_
  walk_at "go"
  refine w_newM j2 (Nat.zero_le _) fun c H3 j3 nc gc => ?_
  walk_at "go"
  have pc : p ≠ c := fun z => by subst z; rw [upd_same] at nc; cases nc
  have l1 := putF_len "blocks" (.ref b) fs
  refine w_setX j3 (upd_ne' upd_same pc) T_Disk.cl T_Disk.n_cache (by omega) fun H4 j4 => ?_
  walk_at "go"
  refine w_newM j4 (Nat.zero_le _) fun f H5 j5 nf gf => ?_
  walk_at "go"
  have pf : p ≠ f := fun z => by subst z; rw [upd_same] at nf; cases nf
  have l2 := putF_len "cache" (.ref c) (putF "blocks" (.ref b) fs)
  refine w_setX j5 (upd_ne' upd_same pf) T_Disk.cl T_Disk.n_fresh (by omega) fun H6 j6 => ?_
  walk_at "go"
  have l3 := putF_len "fresh" (.ref f) (putF "cache" (.ref c) (putF "blocks" (.ref b) fs))
  refine w_setX j6 upd_same T_Disk.cl T_Disk.n_reach (by omega) fun H7 j7 => ?_
  walk_at "go"
  have nc' : M c = none := by
    have h := nc
    rw [upd_ne pc.symm] at h
    by_cases q : c = b
    · subst q; rw [upd_same] at h; cases h
    · rwa [upd_ne q] at h
  have cb : c ≠ b := fun q => by subst q; rw [upd_ne pc.symm, upd_same] at nc; cases nc
  have fc : f ≠ c := fun q => by subst q; rw [upd_ne pf.symm, upd_same] at nf; cases nf
  have fb : f ≠ b := fun q => by subst q; rw [upd_ne pf.symm, upd_ne fc, upd_ne pf.symm, upd_same] at nf; cases nf
  have nf' : M f = none := by
    have h := nf
    rwa [upd_ne pf.symm, upd_ne fc, upd_ne pf.symm, upd_ne fb] at h
  have ef : putF "reach" (.int 0) (putF "fresh" (.ref f) (putF "cache" (.ref c) (putF "blocks" (.ref b) fs))) = fl_Disk (.ref b) (.ref c) (.ref f) (.int 0) := by
    rcases hfs with rfl | ⟨_, _, _, _, rfl⟩
    · rw [nf_Disk_blocks, nf_Disk_cache, nf_Disk_fresh, nf_Disk_reach]; rfl
    · rw [sf_Disk_blocks, sf_Disk_cache, sf_Disk_fresh, sf_Disk_reach]
  refine k _ _ _ _ j7 (Same.refl G) ⟨rfl, b, c, f, ⟨?_, ?_, ⟨[], ?_, .nil⟩, ?_, fb.symm⟩, fun a o e n => ?_, nb, nc', nf'⟩
  · rw [← ef]; exact upd_same
  · rw [upd_ne pb.symm, upd_ne pb.symm, upd_ne fb.symm, upd_ne pb.symm, upd_ne cb.symm, upd_ne pb.symm, upd_same]
  · rw [upd_ne pc.symm, upd_ne pc.symm, upd_ne fc.symm, upd_ne pc.symm, upd_same]
  · rw [upd_ne pf.symm, upd_ne pf.symm, upd_same]
  · have na := ne_of_none e nb
    have nc2 := ne_of_none e nc'
    have nf2 := ne_of_none e nf'
    rw [upd_ne n, upd_ne n, upd_ne nf2, upd_ne n, upd_ne nc2, upd_ne n, upd_ne na]; exact e
/-! ### Disk.__init__ -/
abbrev s_Disk___init__ : Stmt := inClass (top 3) 0
abbrev n_Disk___init__ : List Str := ["self"]
theorem sc_Disk___init__ : FnScope n_Disk___init__ ["self"] (defScope s_Disk___init__) := ⟨rfl, rfl, rfl, by decide +kernel, rfl, by decide +kernel, by decide +kernel⟩
def sp_Disk___init__ (K : PySem.W.Frag) (C : Addr) : Sp := Sg (α := Addr × Addr) (fun x vs M _ => vs = [.ref x.1] ∧ M x.1 = some (.ins C x.2 [])) (fun x M _ v M' G' => DkNew C x M v M' G')
theorem ok_Disk___init__ {P : Program} {w : World} {K : PySem.W.Frag} {mg : Str → Option Value} {base : Heap}
    {C_Disk : Addr} (T_Disk : Tx_Disk K mg C_Disk)
    {f : Addr} {fd : FuncData} (D : Di K C_Disk "Disk.__init__" s_Disk___init__ ["self"] f fd)
    (c_Disk_wipe : CalM P w K mg base CX0 1 C_Disk "wipe" (sp_Disk_wipe K C_Disk)) : CalI P w K mg base CX0 2 C_Disk (sp_Disk___init__ K C_Disk) := by
  refine D.ok sc_Disk___init__ (fun vs H Q E h => ?_) fun cdv A outer s H vs Q E hr h => ?_
  · obtain ⟨x, M, G, j, ⟨rfl, _⟩, _⟩ := h; rfl
  obtain ⟨⟨p, dx⟩, M, G, j, ⟨rfl, hp⟩, k⟩ := h
  dsimp only at hp k
  refine ⟨_, (pss_one (ps_expr (pe_calM0 c_Disk_wipe T_Disk.cl hr (by first | decide | omega) (pv 0)))), ?_⟩
  walk_at "start"
  refine w_methM j hp rfl ?_
  walk_at "go"
  refine w_sg (p, dx) j ⟨rfl, [], hp, .inl rfl⟩ fun v M1 G1 H1 j1 e1 h1 => ?_
  walk_at "go"
  exact k _ _ _ _ j1 e1 ⟨rfl, h1.2⟩
/-! ### data of any depth, both sides alike -/
def okD : Nat → PyData → Prop
  | _, .none => True
  | _, .bool _ => True
  | _, .int _ => True
  | _, .str _ => True
  | 0, .list _ => False
  | 0, .tuple _ => False
  | n + 1, .list xs => xs.length ≤ 100000 ∧ ∀ x ∈ xs, okD n x
  | n + 1, .tuple xs => xs.length ≤ 100000 ∧ ∀ x ∈ xs, okD n x
  | _, .dict _ => False
theorem dpAll_len {K : PySem.W.Frag} {G : Hp} : ∀ {xs : List V} {ds : List PyData}, DpAll K G xs ds → xs.length = ds.length
  | _, _, .nil => rfl
  | _, _, .cons _ t => by rw [List.length_cons, List.length_cons, dpAll_len t]
theorem dpAll_get {K : PySem.W.Frag} {G : Hp} : ∀ {xs : List V} {ds : List PyData} {i : Nat} {d : PyData}, DpAll K G xs ds → ds[i]? = some d → ∃ x, xs[i]? = some x ∧ Dp K G x d
  | _, _, _, _, .nil, e => by simp at e
  | _, _, 0, d, .cons h t, e => ⟨_, rfl, by have e := Option.some.inj e; subst e; exact h⟩
  | _, _, i + 1, d, .cons h t, e => by
    obtain ⟨x, h1, h2⟩ := dpAll_get (i := i) t (by simpa using e)
    exact ⟨x, by simpa using h1, h2⟩
mutual
theorem dp_mono {K : PySem.W.Frag} {G G' : Hp} (e : Same G G') : ∀ {v : V} {d : PyData}, Dp K G v d → Dp K G' v d
  | _, _, .non => .non
  | _, _, .bl b => .bl b
  | _, _, .int i => .int i
  | _, _, .str x => .str x
  | _, _, .lst h t => .lst (sl_mono e h) (dpAll_mono e t)
  | _, _, .tup h t => .tup (st_mono e h) (dpAll_mono e t)
theorem dpAll_mono {K : PySem.W.Frag} {G G' : Hp} (e : Same G G') : ∀ {vs : List V} {ds : List PyData}, DpAll K G vs ds → DpAll K G' vs ds
  | _, _, .nil => .nil
  | _, _, .cons h t => .cons (dp_mono e h) (dpAll_mono e t)
end
theorem dpAll_snoc {K : PySem.W.Frag} {G : Hp} : ∀ {xs : List V} {ds : List PyData} {x : V} {d : PyData}, DpAll K G xs ds → Dp K G x d → DpAll K G (xs ++ [x]) (ds ++ [d])
  | _, _, _, _, .nil, h => .cons h .nil
  | _, _, _, _, .cons a t, h => .cons a (dpAll_snoc t h)
theorem dpAll_of {K : PySem.W.Frag} {G : Hp} : ∀ {xs : List V} {ds : List PyData}, xs.length = ds.length → (∀ (i : Nat) (x : V) (d : PyData), xs[i]? = some x → ds[i]? = some d → Dp K G x d) → DpAll K G xs ds
  | [], [], _, _ => .nil
  | x :: xs, d :: ds, h, f => .cons (f 0 x d rfl rfl) (dpAll_of (by simpa using h) fun i y e h1 h2 => f (i + 1) y e (by simpa using h1) (by simpa using h2))
  | [], _ :: _, h, _ => by simp at h
  | _ :: _, [], h, _ => by simp at h
/-- a sequence of either kind -/
def SqB (K : PySem.W.Frag) (G : Hp) (a : Addr) (xs : List V) : Prop := SqL K G a xs ∨ SqT K G a xs
theorem w_ixB {K : PySem.W.Frag} {M G H : Hp} {a : Addr} {xs : List V} {m : Int} {v : V} {Q : VK} (j : J M G H) (h : SqB K G a xs) (e : atI xs m = some v) (q : Q v H) : uIx K (.ref a) (.int m) H Q :=
  h.elim (fun h => w_ixL j h e q) fun h => w_ixT j h e q
theorem w_lenB {K : PySem.W.Frag} {M G H : Hp} {a : Addr} {xs : List V} {Q : VK} (j : J M G H) (h : SqB K G a xs) (q : Q (.int xs.length) H) : uLen K [.ref a] H Q := h.elim (fun h => w_lenL j h q) fun h => w_lenT j h q
def spNo : Sp := fun _ _ _ _ => False
def spAll1 (K : PySem.W.Frag) (n : Nat) : Sp := Sg (α := Addr × Addr × List V × List V × List PyData) (fun x vs M G => vs = [.ref x.1, .ref x.2.1] ∧ SqB K G x.1 x.2.2.1 ∧ SqB K G x.2.1 x.2.2.2.1 ∧ DpAll K G x.2.2.1 x.2.2.2.2 ∧ DpAll K G x.2.2.2.1 x.2.2.2.2 ∧ x.2.2.2.2.length ≤ 100000 ∧ ∀ d ∈ x.2.2.2.2, okD n d)
      (fun x M _ v M' _ => v = .bl true ∧ M' = M)
def spAll (K : PySem.W.Frag) : Nat → Sp
  | 0 => spNo
  | n + 1 => spAll1 K n
def spEq (K : PySem.W.Frag) (n : Nat) : Sp := Sg (α := V × V × PyData) (fun x vs M G => vs = [x.1, x.2.1] ∧ Dp K G x.1 x.2.2 ∧ Dp K G x.2.1 x.2.2 ∧ okD n x.2.2) (fun x M _ v M' _ => v = .bl true ∧ M' = M)
theorem use_eq {K : PySem.W.Frag} {n : Nat} {M G H : Hp} {x y : V} {d : PyData} {Q : VK} {E : XK} (j : J M G H) (h1 : Dp K G x d) (h2 : Dp K G y d) (h3 : okD n d) (k : ∀ G' H', J M G' H' → Ex G G' → Q (.bl true) H') : spEq K n ([x, y] ++ []) H Q E :=
  w_sg (x, y, d) j ⟨rfl, h1, h2, h3⟩ fun v M' G' H' j' e ⟨ev, em⟩ => by subst ev em; exact k G' H' j' e
theorem use_all {K : PySem.W.Frag} {n : Nat} {M G H : Hp} {a b : Addr} {xs ys : List V} {ds : List PyData} {Q : VK} {E : XK} (j : J M G H) (h1 : SqB K G a xs) (h2 : SqB K G b ys) (h3 : DpAll K G xs ds) (h4 : DpAll K G ys ds) (h5 : ds.length ≤ 100000) (h6 : ∀ d ∈ ds, okD n d)
    (k : ∀ G' H', J M G' H' → Ex G G' → Q (.bl true) H') : spAll K (n + 1) ([.ref a, .ref b] ++ []) H Q E := by
  show spAll1 K n _ H Q E
  exact w_sg (a, b, xs, ys, ds) j ⟨rfl, h1, h2, h3, h4, h5, h6⟩ fun v M' G' H' j' e ⟨ev, em⟩ => by subst ev em; exact k G' H' j' e
/-! ### _law_all_equal -/
abbrev s_law_all_equal : Stmt := top 9
abbrev n_law_all_equal : List Str := ["actual", "due", "k"]
theorem sc_law_all_equal : FnScope n_law_all_equal ["actual", "due"] (defScope s_law_all_equal) := ⟨rfl, rfl, rfl, by decide +kernel, rfl, by decide +kernel, by decide +kernel⟩
theorem ok_law_all_equal {P : Program} {w : World} {K : PySem.W.Frag} {mg : Str → Option Value} {base : Heap} {f : Addr} {fd : FuncData} (D : Dn K mg "_law_all_equal" s_law_all_equal ["actual", "due"] f fd)
    (b_range : mg "range" = none) (b_len : mg "len" = none) (n : Nat) (c_law_equal : Cal P w K mg base CX0 (2 * n + 1) "_law_equal" (spEq K n)) : Cal P w K mg base CX0 (2 * n + 2) "_law_all_equal" (spAll K (n + 1)) := by
  refine D.ok sc_law_all_equal (fun vs H Q E h => ?_) fun cdv A outer s H vs Q E hr h => ?_
  · obtain ⟨x, M, G, j, ⟨rfl, _⟩, _⟩ := h; rfl
  obtain ⟨⟨a, b, xs, ys, ds⟩, M, G, j, ⟨rfl, ha, hb, hx, hy, hl, hok⟩, k⟩ := h
  dsimp only at ha hb hx hy hl hok k
  refine ⟨_, (pss_cons (ps_for PassesOwn.never rfl (pi_range1 (by rfl) b_range (pa_cons (pe_callB (call_uLenK (K := K) rfl) (by rfl) b_len PySem.boot_len (pa_cons (pv 1) pa_nil)) pa_nil)) (pg_name (i := 2) sc_law_all_equal.nd rfl (Or.inl rfl))
(pss_one (ps_if (pt_not (pt_val (pe_cal c_law_equal hr (by first | decide | omega) (by rfl) (pa_cons (pe_ix (ix_uK (K := K) rfl) (pv 0) (pv 2) (fun _ _ => rfl)) (pa_cons (pe_ix (ix_uK (K := K) rfl) (pv 1) (pv 2) (fun _ _ => rfl)) pa_nil)))))
(pss_one (ps_ret pe_bl))
pss_nil)))
(pss_one (ps_ret pe_bl))), ?_⟩
  walk_at "start"
  refine w_lenB j hb ?_
  walk_at "go"
  have hyl := dpAll_len hy
  refine w_rng (fun i σ H => ∃ G1 z, J M G1 H ∧ Ex G G1 ∧ σ = [some (.ref a), some (.ref b), z]) ⟨G, _, j, Same.refl G, rfl⟩ ?_ ?_ (by omega) (by omega)
  · rintro i σ H hi ⟨G1, z, j, e, rfl⟩
    have hi : i < ds.length := by rw [← hyl]; simpa using hi
    obtain ⟨x, hx1, hx2⟩ := dpAll_get hx (List.getElem?_eq_getElem hi)
    obtain ⟨y, hy1, hy2⟩ := dpAll_get hy (List.getElem?_eq_getElem hi)
    walk_at "go"
    refine w_ixB j (ha.imp (sl_mono e) (st_mono e)) (atI_nat hx1) ?_
    walk_at "go"
    refine w_ixB j (hb.imp (sl_mono e) (st_mono e)) (atI_nat hy1) ?_
    walk_at "go"
    refine use_eq j (dp_mono e hx2) (dp_mono e hy2) (hok _ (List.getElem_mem hi)) fun G2 H2 j2 e2 => ?_
    walk_at "go"
    exact ⟨G2, _, j2, e.trans e2, rfl⟩
  · rintro σ H ⟨G1, z, j, e, rfl⟩
    walk_at "go"
    exact k _ _ _ _ j e ⟨rfl, rfl⟩
/-! ### _law_equal -/
abbrev s_law_equal : Stmt := top 8
abbrev n_law_equal : List Str := ["actual", "due"]
theorem sc_law_equal : FnScope n_law_equal ["actual", "due"] (defScope s_law_equal) := ⟨rfl, rfl, rfl, by decide +kernel, rfl, by decide +kernel, by decide +kernel⟩
theorem ok_law_equal {P : Program} {w : World} {K : PySem.W.Frag} {mg : Str → Option Value} {base : Heap} {f : Addr} {fd : FuncData} (D : Dn K mg "_law_equal" s_law_equal ["actual", "due"] f fd)
    (b_isinstance : mg "isinstance" = none) (b_list : mg "list" = none) (b_tuple : mg "tuple" = none) (b_bool : mg "bool" = none) (b_int : mg "int" = none) (b_str : mg "str" = none) (b_len : mg "len" = none) (n : Nat)
    (c_law_all_equal : Cal P w K mg base CX0 (2 * n) "_law_all_equal" (spAll K n)) : Cal P w K mg base CX0 (2 * n + 1) "_law_equal" (spEq K n) := by
  refine D.ok sc_law_equal (fun vs H Q E h => ?_) fun cdv A outer s H vs Q E hr h => ?_
  · obtain ⟨x, M, G, j, ⟨rfl, _⟩, _⟩ := h; rfl
  obtain ⟨⟨x, y, d⟩, M, G, j, ⟨rfl, hx, hy, hok⟩, k⟩ := h
  dsimp only at hx hy hok k
  refine ⟨_, (pss_cons (ps_if (pt_val (pe_callB (call_isiK' (K := K) rfl) (by rfl) b_isinstance bt_isinstance (pa_cons (pv 1) (pa_cons (pe_bltn (v := .ty "list") (by rfl) b_list bt_list rfl) pa_nil))))
(pss_cons (ps_if (PW.pt (pw_or (pt_not (pt_val (pe_callB (call_isiK' (K := K) rfl) (by rfl) b_isinstance bt_isinstance (pa_cons (pv 0) (pa_cons (pe_bltn (v := .ty "list") (by rfl) b_list bt_list rfl) pa_nil))))) (pw_or1 (pt_cmpR (op_uNeK (K := K) rfl hr) (pe_callB (call_uLenK (K := K) rfl) (by rfl) b_len PySem.boot_len (pa_cons (pv 0) pa_nil)) (pe_callB (call_uLenK (K := K) rfl) (by rfl) b_len PySem.boot_len (pa_cons (pv 1) pa_nil)) (nomark _)))))
(pss_one (ps_ret pe_bl))
pss_nil)
(pss_one (ps_ret (pe_cal c_law_all_equal hr (by first | decide | omega) (by rfl) (pa_cons (pv 0) (pa_cons (pv 1) pa_nil))))))
pss_nil)
(pss_cons (ps_if (pt_val (pe_callB (call_isiK' (K := K) rfl) (by rfl) b_isinstance bt_isinstance (pa_cons (pv 1) (pa_cons (pe_bltn (v := .ty "tuple") (by rfl) b_tuple bt_tuple rfl) pa_nil))))
(pss_cons (ps_if (PW.pt (pw_or (pt_not (pt_val (pe_callB (call_isiK' (K := K) rfl) (by rfl) b_isinstance bt_isinstance (pa_cons (pv 0) (pa_cons (pe_bltn (v := .ty "tuple") (by rfl) b_tuple bt_tuple rfl) pa_nil))))) (pw_or1 (pt_cmpR (op_uNeK (K := K) rfl hr) (pe_callB (call_uLenK (K := K) rfl) (by rfl) b_len PySem.boot_len (pa_cons (pv 0) pa_nil)) (pe_callB (call_uLenK (K := K) rfl) (by rfl) b_len PySem.boot_len (pa_cons (pv 1) pa_nil)) (nomark _)))))
(pss_one (ps_ret pe_bl))
pss_nil)
(pss_one (ps_ret (pe_cal c_law_all_equal hr (by first | decide | omega) (by rfl) (pa_cons (pv 0) (pa_cons (pv 1) pa_nil))))))
pss_nil)
(pss_cons (ps_if (pt_val (pe_callB (call_isiK' (K := K) rfl) (by rfl) b_isinstance bt_isinstance (pa_cons (pv 1) (pa_cons (pe_bltn (v := .ty "bool") (by rfl) b_bool bt_bool rfl) pa_nil))))
(pss_one (ps_ret (pe_and (pe_callB (call_isiK' (K := K) rfl) (by rfl) b_isinstance bt_isinstance (pa_cons (pv 0) (pa_cons (pe_bltn (v := .ty "bool") (by rfl) b_bool bt_bool rfl) pa_nil))) (pe_one (pe_cmpR (op_uEqK (K := K) rfl hr) (pv 0) (pv 1) (nomark _))))))
pss_nil)
(pss_cons (ps_if (pt_val (pe_callB (call_isiK' (K := K) rfl) (by rfl) b_isinstance bt_isinstance (pa_cons (pv 1) (pa_cons (pe_bltn (v := .ty "int") (by rfl) b_int bt_int rfl) pa_nil))))
(pss_one (ps_ret (pe_and (pe_callB (call_isiK' (K := K) rfl) (by rfl) b_isinstance bt_isinstance (pa_cons (pv 0) (pa_cons (pe_bltn (v := .ty "int") (by rfl) b_int bt_int rfl) pa_nil))) (pe_and (pe_not (pe_callB (call_isiK' (K := K) rfl) (by rfl) b_isinstance bt_isinstance (pa_cons (pv 0) (pa_cons (pe_bltn (v := .ty "bool") (by rfl) b_bool bt_bool rfl) pa_nil)))) (pe_one (pe_cmpR (op_uEqK (K := K) rfl hr) (pv 0) (pv 1) (nomark _)))))))
pss_nil)
(pss_cons (ps_if (pt_val (pe_callB (call_isiK' (K := K) rfl) (by rfl) b_isinstance bt_isinstance (pa_cons (pv 1) (pa_cons (pe_bltn (v := .ty "str") (by rfl) b_str bt_str rfl) pa_nil))))
(pss_one (ps_ret (pe_and (pe_callB (call_isiK' (K := K) rfl) (by rfl) b_isinstance bt_isinstance (pa_cons (pv 0) (pa_cons (pe_bltn (v := .ty "str") (by rfl) b_str bt_str rfl) pa_nil))) (pe_one (pe_cmpR (op_uEqK (K := K) rfl hr) (pv 0) (pv 1) (nomark _))))))
pss_nil)
(pss_one (ps_ret (pe_cmp (pc_isN (pv 0)))))))))), ?_⟩
  walk_at "start"
  have fin : Q (.bl true) H := k _ _ _ _ j (Same.refl G) ⟨rfl, rfl⟩
  cases hy with
  | non =>
    cases hx
    walk_at "gx"
    exact fin
  | bl b =>
    cases hx
    walk_at "gx"
    refine w_eqV rfl (decide_eq_true rfl) ?_
    exact fin
  | int b =>
    cases hx
    walk_at "gx"
    rw [decide_eq_true rfl]
    exact fin
  | str b =>
    cases hx
    walk_at "gx"
    exact fin
  | lst hb hyl =>
    cases hx with
    | lst ha hxl =>
      cases n with
      | zero => cases hok
      | succ n =>
        walk_at "gx"
        refine w_isi true (ty_L (sl_mono j.g hb)) (by rfl) ?_
        walk_at "gx"
        refine w_isi true (ty_L (sl_mono j.g ha)) (by rfl) ?_
        walk_at "gx"
        refine w_lenL j ha ?_
        walk_at "gx"
        refine w_lenL j hb ?_
        walk_at "gx"
        rw [dpAll_len hxl, dpAll_len hyl, decide_eq_true rfl]
        refine w_F ?_
        walk_at "gx"
        exact use_all j (.inl ha) (.inl hb) hxl hyl hok.1 hok.2 fun G' H' j' e => k _ _ _ _ j' e ⟨rfl, rfl⟩
  | tup hb hyl =>
    cases hx with
    | tup ha hxl =>
      cases n with
      | zero => cases hok
      | succ n =>
        walk_at "gx"
        refine w_isi false (ty_T (st_mono j.g hb)) (by rfl) ?_
        walk_at "gx"
        refine w_isi true (ty_T (st_mono j.g hb)) (by rfl) ?_
        walk_at "gx"
        refine w_isi true (ty_T (st_mono j.g ha)) (by rfl) ?_
        walk_at "gx"
        refine w_lenT j ha ?_
        walk_at "gx"
        refine w_lenT j hb ?_
        walk_at "gx"
        rw [dpAll_len hxl, dpAll_len hyl, decide_eq_true rfl]
        refine w_F ?_
        walk_at "gx"
        exact use_all j (.inr ha) (.inr hb) hxl hyl hok.1 hok.2 fun G' H' j' e => k _ _ _ _ j' e ⟨rfl, rfl⟩
/-- both, at every depth -/
theorem ok_equal {P : Program} {w : World} {K : PySem.W.Frag} {mg : Str → Option Value} {base : Heap} {f g : Addr} {fd gd : FuncData} (D : Dn K mg "_law_equal" s_law_equal ["actual", "due"] f fd) (D2 : Dn K mg "_law_all_equal" s_law_all_equal ["actual", "due"] g gd)
    (b_isinstance : mg "isinstance" = none) (b_list : mg "list" = none) (b_tuple : mg "tuple" = none) (b_bool : mg "bool" = none) (b_int : mg "int" = none) (b_str : mg "str" = none) (b_len : mg "len" = none) (b_range : mg "range" = none) (n : Nat) :
    Cal P w K mg base CX0 (2 * n + 1) "_law_equal" (spEq K n) := by
  induction n with
  | zero => exact ok_law_equal D b_isinstance b_list b_tuple b_bool b_int b_str b_len 0 (D2.cal ⟨fun _ _ _ _ h => h.elim, fun _ _ _ _ _ _ _ _ _ _ _ _ _ h => h.elim⟩)
  | succ n ih => exact ok_law_equal D b_isinstance b_list b_tuple b_bool b_int b_str b_len (n + 1) (ok_law_all_equal D2 b_range b_len n ih)
/-! ### Disk.waiting -/
abbrev s_Disk_waiting : Stmt := inClass (top 3) 9
abbrev n_Disk_waiting : List Str := ["self"]
theorem sc_Disk_waiting : FnScope n_Disk_waiting ["self"] (defScope s_Disk_waiting) := ⟨rfl, rfl, rfl, by decide +kernel, rfl, by decide +kernel, by decide +kernel⟩
def sp_Disk_waiting (K : PySem.W.Frag) (C : Addr) : Sp := Sg (α := Hp × DA × DS) (fun x vs M G => vs = [.ref x.2.1.p] ∧ DkAt C x.1 G x.2.1 x.2.2 ∧ Sub x.1 M G) (fun x M _ v M' _ => v = .int x.2.2.ca.length ∧ M' = M)
theorem ok_Disk_waiting {P : Program} {w : World} {K : PySem.W.Frag} {mg : Str → Option Value} {base : Heap}
    {C_Disk : Addr} (T_Disk : Tx_Disk K mg C_Disk)
    {f pf : Addr} {fd : FuncData} (D : Dpr K C_Disk "waiting" "Disk.waiting" s_Disk_waiting ["self"] pf f fd)
    (b_len : mg "len" = none) : CalP P w K mg base CX0 1 C_Disk "waiting" (sp_Disk_waiting K C_Disk) := by
  refine D.ok sc_Disk_waiting (fun vs H Q E h => ?_) fun cdv A outer s H vs Q E hr h => ?_
  · obtain ⟨x, M, G, j, ⟨rfl, _⟩, _⟩ := h; rfl
  obtain ⟨⟨N, d, s⟩, M, G, j, ⟨rfl, hd, sb⟩, k⟩ := h
  dsimp only at hd sb k
  refine ⟨_, (pss_one (ps_ret (pe_callB (call_uLenK (K := K) rfl) (by rfl) b_len PySem.boot_len (pa_cons (pe_fld (pv 0) rfl) pa_nil)))), ?_⟩
  obtain ⟨xs, hc, hx⟩ := hd.oc
  walk_at "start"
  refine w_fldS j sb hd.op T_Disk.cl T_Disk.n_cache fl_Disk_cache ?_
  walk_at "go"
  refine w_lenS j sb hc ?_
  exact k _ _ _ _ j (Same.refl G) ⟨by rw [hx.len], rfl⟩
/-! ### Disk.size -/
abbrev s_Disk_size : Stmt := inClass (top 3) 8
abbrev n_Disk_size : List Str := ["self"]
theorem sc_Disk_size : FnScope n_Disk_size ["self"] (defScope s_Disk_size) := ⟨rfl, rfl, rfl, by decide +kernel, rfl, by decide +kernel, by decide +kernel⟩
def sp_Disk_size (K : PySem.W.Frag) (C : Addr) : Sp := Sg (α := Hp × DA × DS) (fun x vs M G => vs = [.ref x.2.1.p] ∧ DkAt C x.1 G x.2.1 x.2.2 ∧ Sub x.1 M G) (fun x M _ v M' _ => v = .int x.2.2.r ∧ M' = M)
theorem ok_Disk_size {P : Program} {w : World} {K : PySem.W.Frag} {mg : Str → Option Value} {base : Heap}
    {C_Disk : Addr} (T_Disk : Tx_Disk K mg C_Disk)
    {f pf : Addr} {fd : FuncData} (D : Dpr K C_Disk "size" "Disk.size" s_Disk_size ["self"] pf f fd) : CalP P w K mg base CX0 1 C_Disk "size" (sp_Disk_size K C_Disk) := by
  refine D.ok sc_Disk_size (fun vs H Q E h => ?_) fun cdv A outer s H vs Q E hr h => ?_
  · obtain ⟨x, M, G, j, ⟨rfl, _⟩, _⟩ := h; rfl
  obtain ⟨⟨N, d, s⟩, M, G, j, ⟨rfl, hd, sb⟩, k⟩ := h
  dsimp only at hd sb k
  refine ⟨_, (pss_one (ps_ret (pe_fld (pv 0) rfl))), ?_⟩
  walk_at "start"
  refine w_fldS j sb hd.op T_Disk.cl T_Disk.n_reach fl_Disk_reach ?_
  exact k _ _ _ _ j (Same.refl G) ⟨rfl, rfl⟩
/-! ### Disk.look -/
abbrev s_Disk_look : Stmt := inClass (top 3) 6
abbrev n_Disk_look : List Str := ["self", "position"]
theorem sc_Disk_look : FnScope n_Disk_look ["self", "position"] (defScope s_Disk_look) := ⟨rfl, rfl, rfl, by decide +kernel, rfl, by decide +kernel, by decide +kernel⟩
def sp_Disk_look (K : PySem.W.Frag) (C : Addr) : Sp := Sg (α := Hp × DA × DS × Int) (fun x vs M G => vs = [.ref x.2.1.p, .int x.2.2.2] ∧ DkAt C x.1 G x.2.1 x.2.2.1 ∧ Sub x.1 M G)
  (fun x M _ v M' _ => v = lookM x.2.2.1 x.2.2.2 ∧ M' = M)
theorem ok_Disk_look {P : Program} {w : World} {K : PySem.W.Frag} {mg : Str → Option Value} {base : Heap}
    {C_Disk : Addr} (T_Disk : Tx_Disk K mg C_Disk)
    {f : Addr} {fd : FuncData} (D : Dm K C_Disk "look" "Disk.look" s_Disk_look ["self", "position"] f fd) : CalM P w K mg base CX0 1 C_Disk "look" (sp_Disk_look K C_Disk) := by
  refine D.ok sc_Disk_look (fun vs H Q E h => ?_) fun cdv A outer s H vs Q E hr h => ?_
  · obtain ⟨x, M, G, j, ⟨rfl, _⟩, _⟩ := h; rfl
  obtain ⟨⟨N, d, s, n⟩, M, G, j, ⟨rfl, hd, sb⟩, k⟩ := h
  dsimp only at hd sb k
  refine ⟨_, (pss_cons (ps_if (pt_cmp (pc_din (hu_of hr) (pv 1) (pe_fld (pv 0) rfl)))
(pss_one (ps_ret (pe_dget (hu_of hr) (pe_fld (pv 0) rfl) (pv 1) (fun _ _ => rfl))))
pss_nil)
(pss_one (ps_ret (pe_dget1 (hu_of hr) (pe_fld (pv 0) rfl) (pv 1) ⟨by rfl, by rfl, by rfl, by rfl⟩)))), ?_⟩
  walk_at "start"
  refine w_fldS j sb hd.op T_Disk.cl T_Disk.n_fresh fl_Disk_fresh ?_
  refine w_inX j (sb.hd hd.of) ?_
  refine w_bl ?_
  cases e : valV s.kf (.inl n : Key) with
  | some v =>
    refine w_T ?_
    walk_at "go"
    refine w_fldS j sb hd.op T_Disk.cl T_Disk.n_fresh fl_Disk_fresh ?_
    walk_at "go"
    refine w_getX j (sb.hd hd.of) e ?_
    exact k _ _ _ _ j (Same.refl G) ⟨by unfold lookM; rw [e]; rfl, rfl⟩
  | none =>
    refine w_F ?_
    walk_at "go"
    refine w_fldS j sb hd.op T_Disk.cl T_Disk.n_blocks fl_Disk_blocks ?_
    refine w_getA j (sb.hd hd.ob) ?_
    walk_at "go"
    refine w_getE j (sb.hd hd.ob) ?_
    exact k _ _ _ _ j (Same.refl G) ⟨by unfold lookM; rw [e]; rfl, rfl⟩
/-! ### the law's own model of a disk -/
structure MdAt (M G : Hp) (m q l : Addr) (kb : List (Key × V)) (ca : List (Int × V)) (r : Int) : Prop where
  om : M m = some (.lst [.ref q, .ref l, .int r, .bl true])
  oq : M q = some (.dK kb)
  ol : ∃ xs, G l = some (.lst xs) ∧ PrsAt G xs ca
theorem MdAt.ex {M G G' : Hp} {m q l : Addr} {kb : List (Key × V)} {ca : List (Int × V)} {r : Int} (h : MdAt M G m q l kb ca r) (e : Ex G G') : MdAt M G' m q l kb ca r := by
  obtain ⟨xs, h1, h2⟩ := h.ol
  exact ⟨h.om, h.oq, xs, e _ _ h1, h2.ex e⟩
theorem MdAt.mv {M M' G : Hp} {m q l : Addr} {kb : List (Key × V)} {ca : List (Int × V)} {r : Int} (h : MdAt M G m q l kb ca r) (h1 : M' m = M m) (h2 : M' q = M q) : MdAt M' G m q l kb ca r := ⟨h1.trans h.om, h2.trans h.oq, h.ol⟩
def BV (K : PySem.W.Frag) (G : Hp) (v : V) : Prop := ∃ d, L2.Dp K G v d ∧ okD 2 d
theorem BV.ex {K : PySem.W.Frag} {G G' : Hp} {v : V} (h : BV K G v) (e : Ex G G') : BV K G' v := by
  obtain ⟨d, h1, h2⟩ := h
  exact ⟨d, dp_mono e h1, h2⟩
theorem BV.non {K : PySem.W.Frag} {G : Hp} : BV K G .non := ⟨.none, .non, trivial⟩
theorem zip_ones : ∀ (ca : List (Int × V)) (kb : List (Key × V)), (ca.zip (List.replicate ca.length 1)).foldl fateC kb = ca.foldl putC kb
  | [], _ => rfl
  | q :: r, kb => by
    rw [List.length_cons, List.replicate_succ, List.zip_cons_cons, List.foldl_cons, List.foldl_cons]
    exact zip_ones r _
/-! ### _law_seen -/
abbrev s_law_seen : Stmt := top 10
abbrev n_law_seen : List Str := ["model", "position", "block", "pair"]
theorem sc_law_seen : FnScope n_law_seen ["model", "position"] (defScope s_law_seen) := ⟨rfl, rfl, rfl, by decide +kernel, rfl, by decide +kernel, by decide +kernel⟩
def sp_law_seen (K : PySem.W.Frag) : Sp := Sg (α := Addr × Addr × Addr × List (Key × V) × List (Int × V) × Int × Int) (fun x vs M G => vs = [.ref x.1, .int x.2.2.2.2.2.2] ∧ MdAt M G x.1 x.2.1 x.2.2.1 x.2.2.2.1 x.2.2.2.2.1 x.2.2.2.2.2.1)
  (fun x M _ v M' _ => v = seenM x.2.2.2.1 x.2.2.2.2.1 x.2.2.2.2.2.2 ∧ M' = M)
theorem ok_law_seen {P : Program} {w : World} {K : PySem.W.Frag} {mg : Str → Option Value} {base : Heap}
    {f : Addr} {fd : FuncData} (D : Dn K mg "_law_seen" s_law_seen ["model", "position"] f fd) : Cal P w K mg base CX0 1 "_law_seen" (sp_law_seen K) := by
  refine D.ok sc_law_seen (fun vs H Q E h => ?_) fun cdv A outer s H vs Q E hr h => ?_
  · obtain ⟨x, M, G, j, ⟨rfl, _⟩, _⟩ := h; rfl
  obtain ⟨⟨m, q, l, kb, ca, r, n⟩, M, G, j, ⟨rfl, hm⟩, k⟩ := h
  dsimp only at hm k
  refine ⟨_, (pss_cons (ps_set (i := 2) sc_law_seen.nd rfl (Or.inl rfl) (pe_dget1 (hu_of hr) (pe_ix (ix_uK (K := K) rfl) (pv 0) pe_int (fun _ _ => rfl)) (pv 1) ⟨by rfl, by rfl, by rfl, by rfl⟩))
(pss_cons (ps_for PassesOwn.never rfl (pi_list (pe_ix (ix_uK (K := K) rfl) (pv 0) pe_int (fun _ _ => rfl))) (pg_name (i := 3) sc_law_seen.nd rfl (Or.inl rfl))
(pss_one (ps_if (pt_cmpR (op_uEqK (K := K) rfl hr) (pe_ix (ix_uK (K := K) rfl) (pv 3) pe_int (fun _ _ => rfl)) (pv 1) (nomark _))
(pss_one (ps_set (i := 2) sc_law_seen.nd rfl (Or.inl rfl) (pe_ix (ix_uK (K := K) rfl) (pv 3) pe_int (fun _ _ => rfl))))
pss_nil)))
(pss_one (ps_ret (pv 2))))), ?_⟩
  obtain ⟨xs, hl, hx⟩ := hm.ol
  walk_at "start"
  refine w_ixM j hm.om (by rfl) ?_
  refine w_getA j (.inl hm.oq) ?_
  walk_at "go"
  refine w_getE j (.inl hm.oq) ?_
  walk_at "go"
  refine w_ixM j hm.om (by rfl) ?_
  refine w_forX (xs := xs) (fun i σ H => ∃ x1, J M G H ∧ σ = [some (.ref m), some (.int n), some ((ca.take i).foldl (selC n) ((valV kb (.inl n)).getD .non)), x1]) ⟨_, j, rfl⟩ ?_ ?_ ?_
  · rintro i σ H hi ⟨x1, j, rfl⟩
    exact .inl (.inl (j.g _ _ hl))
  · rintro i x σ H hi ⟨x1, j, rfl⟩
    obtain ⟨t, z, v, rfl, ht, hq⟩ := hx.get hi
    walk_at "go"
    refine w_ixT j (st_of ht) (by rfl) ?_
    walk_at "go"
    rw [take_one' hq, List.foldl_append]
    refine w_dec (fun h => ?_) (fun h => ?_)
    · walk_at "go"
      refine w_ixT j (st_of ht) (by rfl) ?_
      exact ⟨_, j, by rw [show List.foldl (selC n) ((ca.take i).foldl (selC n) ((valV kb (.inl n)).getD .non)) [(z, v)] = v from if_pos h]; rfl⟩
    · walk_at "go"
      exact ⟨_, j, by rw [show List.foldl (selC n) ((ca.take i).foldl (selC n) ((valV kb (.inl n)).getD .non)) [(z, v)] = _ from if_neg h]; rfl⟩
  · rintro σ H ⟨x1, j, rfl⟩
    rw [hx.len, List.take_length]
    walk_at "go"
    exact k _ _ _ _ j (Same.refl G) ⟨rfl, rfl⟩
/-! ### _law_agrees -/
abbrev s_law_agrees : Stmt := top 11
abbrev n_law_agrees : List Str := ["disk", "model", "position"]
theorem sc_law_agrees : FnScope n_law_agrees ["disk", "model"] (defScope s_law_agrees) := ⟨rfl, rfl, rfl, by decide +kernel, rfl, by decide +kernel, by decide +kernel⟩
def sp_law_agrees (K : PySem.W.Frag) (C : Addr) : Sp := Sg (α := Hp × DA × Addr × Addr × Addr × DS) (fun x vs M G => vs = [.ref x.2.1.p, .ref x.2.2.1] ∧ DkAt C x.1 G x.2.1 x.2.2.2.2.2 ∧ Sub x.1 M G ∧
    MdAt M G x.2.2.1 x.2.2.2.1 x.2.2.2.2.1 x.2.2.2.2.2.kb x.2.2.2.2.2.ca x.2.2.2.2.2.r ∧ x.2.2.2.2.2.kf = x.2.2.2.2.2.ca.foldl putC [] ∧ AllB (BV K G) x.2.2.2.2.2.kb ∧ (∀ y ∈ x.2.2.2.2.2.ca, BV K G y.2))
  (fun x M _ v M' _ => v = .bl true ∧ M' = M)
theorem bv_look {K : PySem.W.Frag} {G : Hp} {s : DS} (h : s.kf = s.ca.foldl putC []) (h1 : AllB (BV K G) s.kb) (h2 : ∀ y ∈ s.ca, BV K G y.2) (n : Int) : BV K G (lookM s n) := by
  unfold lookM
  cases e : valV s.kf (.inl n : Key) with
  | some v => exact (AllB.puts (P := BV K G) (ca := s.ca) (kv := []) AllB.nil h2) (.inl n) v (h ▸ e)
  | none =>
    cases e2 : valV s.kb (.inl n : Key) with
    | some v => exact h1 _ _ e2
    | none => exact BV.non
theorem ok_law_agrees {P : Program} {w : World} {K : PySem.W.Frag} {mg : Str → Option Value} {base : Heap}
    {C_Disk : Addr} (T_Disk : Tx_Disk K mg C_Disk)
    {f : Addr} {fd : FuncData} (D : Dn K mg "_law_agrees" s_law_agrees ["disk", "model"] f fd)
    (b_len : mg "len" = none)
    (c_law_equal : Cal P w K mg base CX0 5 "_law_equal" (spEq K 2))
    (c_law_seen : Cal P w K mg base CX0 1 "_law_seen" (sp_law_seen K))
    (c_Disk_look : CalM P w K mg base CX0 1 C_Disk "look" (sp_Disk_look K C_Disk))
    (c_Disk_size : CalP P w K mg base CX0 1 C_Disk "size" (sp_Disk_size K C_Disk))
    (c_Disk_waiting : CalP P w K mg base CX0 1 C_Disk "waiting" (sp_Disk_waiting K C_Disk)) : Cal P w K mg base CX0 6 "_law_agrees" (sp_law_agrees K C_Disk) := by
  refine D.ok sc_law_agrees (fun vs H Q E h => ?_) fun cdv A outer s H vs Q E hr h => ?_
  · obtain ⟨x, M, G, j, ⟨rfl, _⟩, _⟩ := h; rfl
  obtain ⟨⟨N, d, m, q, l, s⟩, M, G, j, ⟨rfl, hd, sb, hm, kf, v1, v2⟩, k⟩ := h
  dsimp only at hd sb hm kf v1 v2 k
  refine ⟨_, (pss_cons (ps_if (PW.pt (pw_or (pt_not (pt_val (pe_cal c_law_equal hr (by first | decide | omega) (by rfl) (pa_cons (pe_calP c_Disk_waiting T_Disk.cl hr (by first | decide | omega) (pv 0) (by rfl)) (pa_cons (pe_callB (call_uLenK (K := K) rfl) (by rfl) b_len PySem.boot_len (pa_cons (pe_ix (ix_uK (K := K) rfl) (pv 1) pe_int (fun _ _ => rfl)) pa_nil)) pa_nil))))) (pw_or1 (pt_not (pt_val (pe_cal c_law_equal hr (by first | decide | omega) (by rfl) (pa_cons (pe_calP c_Disk_size T_Disk.cl hr (by first | decide | omega) (pv 0) (by rfl)) (pa_cons (pe_ix (ix_uK (K := K) rfl) (pv 1) pe_int (fun _ _ => rfl)) pa_nil))))))))
(pss_one (ps_ret pe_bl))
pss_nil)
(pss_cons (ps_for PassesOwn.never rfl (pi_list (pe_lst (pa_cons pe_int (pa_cons pe_int (pa_cons pe_int (pa_cons pe_int (pa_cons pe_int (pa_cons pe_int (pa_cons pe_int (pa_cons pe_int (pa_cons pe_int (pa_cons pe_int (pa_cons pe_int (pa_cons pe_int (pa_cons pe_int (pa_cons pe_int pa_nil)))))))))))))))) (pg_name (i := 2) sc_law_agrees.nd rfl (Or.inl rfl))
(pss_one (ps_if (pt_not (pt_val (pe_cal c_law_equal hr (by first | decide | omega) (by rfl) (pa_cons (pe_calM c_Disk_look T_Disk.cl hr (by first | decide | omega) (pv 0) (pa_cons (pv 2) pa_nil)) (pa_cons (pe_cal c_law_seen hr (by first | decide | omega) (by rfl) (pa_cons (pv 1) (pa_cons (pv 2) pa_nil))) pa_nil)))))
(pss_one (ps_ret pe_bl))
pss_nil)))
(pss_one (ps_ret pe_bl)))), ?_⟩
  obtain ⟨xs, hl, hx⟩ := hm.ol
  have sbe : ∀ {G'}, Ex G G' → Sub N M G' := fun e a o h => (sb a o h).imp id (e a o)
  walk_at "start"
  refine w_propS j sb hd.op ?_
  refine w_sg (N, d, s) j ⟨rfl, hd, sb⟩ fun v M1 G1 H1 j1 e1 ⟨ev, em⟩ => ?_
  subst ev em
  walk_at "go"
  refine w_ixM j1 hm.om (by rfl) ?_
  walk_at "go"
  refine w_lenL j1 (sl_of (e1 _ _ hl)) ?_
  walk_at "go"
  rw [hx.len]
  refine use_eq (n := 2) j1 (.int _) (.int _) trivial fun G2 H2 j2 e2 => ?_
  have E2 := e1.trans e2
  walk_at "go"
  refine w_propS j2 (sbe E2) hd.op ?_
  refine w_sg (N, d, s) j2 ⟨rfl, hd.ex E2, sbe E2⟩ fun v M3 G3 H3 j3 e3 ⟨ev, em⟩ => ?_
  subst ev em
  walk_at "go"
  refine w_ixM j3 hm.om (by rfl) ?_
  walk_at "go"
  refine use_eq (n := 2) j3 (.int _) (.int _) trivial fun G4 H4 j4 e4 => ?_
  have E4 := (E2.trans e3).trans e4
  walk_at "go"
  refine w_new j4 (by show 14 ≤ sizeLine; decide) fun L G5 H5 j5 e5 hL _ => ?_
  have E5 := E4.trans e5
  refine w_forX (xs := ([0, 1, 2, 3, 4, 5, 6, 7, 8, 400, 401, 402, 403, 1000] : List Int).map V.int) (fun i σ H => ∃ G1 x1, J M3 G1 H ∧ Ex G5 G1 ∧ σ = [some (.ref d.p), some (.ref m), x1]) ⟨G5, _, j5, Same.refl _, rfl⟩ ?_ ?_ ?_
  · rintro i σ H hi ⟨G1, x1, j, e, rfl⟩
    exact .inl (.inl (j.g _ _ (e _ _ hL)))
  · rintro i x σ H hi ⟨G6, x1, j6, e6, rfl⟩
    have E6 := E5.trans e6
    obtain ⟨n, rfl⟩ : ∃ n : Int, x = V.int n := by
      rw [List.getElem?_map] at hi
      cases q : ([0, 1, 2, 3, 4, 5, 6, 7, 8, 400, 401, 402, 403, 1000] : List Int)[i]? with
      | none => rw [q] at hi; cases hi
      | some f => rw [q] at hi; exact ⟨f, (Option.some.inj hi).symm⟩
    walk_at "go"
    refine w_methS j6 (sbe E6) hd.op (no_Disk (by decide +kernel) (by decide +kernel) (by decide +kernel) (by decide +kernel)) ?_
    walk_at "go"
    refine w_sg (N, d, s, n) j6 ⟨rfl, hd.ex E6, sbe E6⟩ fun v M7 G7 H7 j7 e7 ⟨ev, em⟩ => ?_
    subst ev em
    walk_at "go"
    refine w_sg (m, q, l, s.kb, s.ca, s.r, n) j7 ⟨rfl, hm.ex (E6.trans e7)⟩ fun v M8 G8 H8 j8 e8 ⟨ev, em⟩ => ?_
    subst ev em
    obtain ⟨dd, h1, h2⟩ := (bv_look kf v1 v2 n).ex ((E6.trans e7).trans e8)
    dsimp only
    refine use_eq (n := 2) j8 h1 (by rw [← seen_look kf]; exact h1) h2 fun G9 H9 j9 e9 => ?_
    walk_at "go"
    exact ⟨G9, _, j9, ((e6.trans e7).trans e8).trans e9, rfl⟩
  · rintro σ H ⟨G6, x1, j6, e6, rfl⟩
    walk_at "go"
    exact k _ _ _ _ j6 (E5.trans e6) ⟨rfl, rfl⟩
/-! ### _law_mixed -/
abbrev s_law_mixed : Stmt := top 5
abbrev n_law_mixed : List Str := ["number", "k", "step"]
theorem sc_law_mixed : FnScope n_law_mixed ["number", "k"] (defScope s_law_mixed) := ⟨rfl, rfl, rfl, by decide +kernel, rfl, by decide +kernel, by decide +kernel⟩
def mixed (n k : Int) : Int :=
  ((n * 48271 + k * 69621 + 12345) % 2147483647 * ((n * 48271 + k * 69621 + 12345) % 2147483647 / 65536 + 3) + k) % 2147483647
theorem mixed_b (n k : Int) : 0 ≤ mixed n k ∧ mixed n k < 2147483647 := by
  unfold mixed
  exact ⟨Int.emod_nonneg _ (by decide), Int.emod_lt_of_pos _ (by decide)⟩
def sp_law_mixed (K : PySem.W.Frag) : Sp := Sg (α := Int × Int) (fun a vs _ _ => vs = [.int a.1, .int a.2]) (fun a M _ v M' _ => v = .int (mixed a.1 a.2) ∧ M' = M)
theorem ok_law_mixed {P : Program} {w : World} {K : PySem.W.Frag} {mg : Str → Option Value} {base : Heap}
    {f : Addr} {fd : FuncData} (D : Dn K mg "_law_mixed" s_law_mixed ["number", "k"] f fd) : Cal P w K mg base CX0 1 "_law_mixed" (sp_law_mixed K) := by
  refine D.ok sc_law_mixed (fun vs H Q E h => ?_) fun cdv A outer s H vs Q E hr h => ?_
  · obtain ⟨a, M, G, j, rfl, _⟩ := h; rfl
  obtain ⟨⟨n, k⟩, M, G, j, rfl, q⟩ := h
  refine ⟨_, (pss_cons (ps_set (i := 2) sc_law_mixed.nd rfl (Or.inl rfl) (pe_op op_mod (pe_op (op_uAddK (K := K) rfl) (pe_op (op_uAddK (K := K) rfl) (pe_op op_uMul (pv 0) pe_int) (pe_op op_uMul (pv 1) pe_int)) pe_int) pe_int))
(pss_one (ps_ret (pe_op op_mod (pe_op (op_uAddK (K := K) rfl) (pe_op op_uMul (pv 2) (pe_op (op_uAddK (K := K) rfl) (pe_op op_fdiv (pv 2) pe_int) pe_int)) (pv 1)) pe_int)))), ?_⟩
  walk_at "start"
  refine w_mulI (.inl ?_) ?_
  · have h1 := Int.emod_nonneg (n * 48271 + k * 69621 + 12345) (b := 2147483647) (by decide)
    have h2 := Int.emod_lt_of_pos (n * 48271 + k * 69621 + 12345) (b := 2147483647) (by decide)
    omega
  walk_at "go"
  exact q _ _ _ _ j (Same.refl G) ⟨rfl, rfl⟩
/-! ### _law_numbers -/
abbrev s_law_numbers : Stmt := top 6
abbrev n_law_numbers : List Str := ["script", "numbers", "cell", "rest", "k"]
theorem sc_law_numbers : FnScope n_law_numbers ["script"] (defScope s_law_numbers) := ⟨rfl, rfl, rfl, by decide +kernel, rfl, by decide +kernel, by decide +kernel⟩
def sp_law_numbers (K : PySem.W.Frag) : Sp := Sg (α := Addr × List Int) (fun a vs M G => vs = [.ref a.1] ∧ SqL K G a.1 (a.2.map V.int) ∧ a.2.length ≤ 63)
  (fun a M _ v M' G' => ∃ (t : Addr) (ns : List Int), v = .ref t ∧ G' t = some (.lst (ns.map V.int)) ∧ (∀ n ∈ ns, 0 ≤ n ∧ n < 1000000) ∧ M' = M)
theorem nums_snoc {ns : List Int} {n : Int} (h : ∀ n ∈ ns, 0 ≤ n ∧ n < 1000000) (hn : 0 ≤ n ∧ n < 1000000) : ∀ m ∈ ns ++ [n], 0 ≤ m ∧ m < 1000000 := by
  intro m hm
  rcases List.mem_append.mp hm with hm | hm
  · exact h m hm
  · rw [List.mem_singleton.mp hm]; exact hn
theorem mod_b (n : Int) : 0 ≤ n % 1000000 ∧ n % 1000000 < 1000000 := ⟨Int.emod_nonneg _ (by decide), Int.emod_lt_of_pos _ (by decide)⟩
/-- between the turns: d holds at most m numbers -/
def NumsI (M G : Hp) (a d : Addr) (m : Nat) (σ : L2.St) (H : Hp) : Prop := ∃ (ns : List Int) (G1 : Hp) (x y z : Option V), J (upd M d (.lst (ns.map V.int))) G1 H ∧ Ex G G1 ∧ (∀ n ∈ ns, 0 ≤ n ∧ n < 1000000) ∧ ns.length ≤ m ∧
  σ = [some (.ref a), some (.ref d), x, y, z]
def NumsJ (M G : Hp) (a d : Addr) (m : Nat) (c : Int) (σ : L2.St) (H : Hp) : Prop := ∃ (ns : List Int) (G1 : Hp) (y z : Option V), J (upd M d (.lst (ns.map V.int))) G1 H ∧ Ex G G1 ∧ (∀ n ∈ ns, 0 ≤ n ∧ n < 1000000) ∧ ns.length ≤ m ∧
  σ = [some (.ref a), some (.ref d), some (.int c), y, z]
def NumsR (M G : Hp) (a d : Addr) (m : Nat) (c : Int) (σ : L2.St) (H : Hp) : Prop := ∃ (ns : List Int) (G1 : Hp) (r : Int) (z : Option V), J (upd M d (.lst (ns.map V.int))) G1 H ∧ Ex G G1 ∧ (∀ n ∈ ns, 0 ≤ n ∧ n < 1000000) ∧ ns.length ≤ m ∧
  σ = [some (.ref a), some (.ref d), some (.int c), some (.int r), z]
theorem ok_law_numbers {P : Program} {w : World} {K : PySem.W.Frag} {mg : Str → Option Value} {base : Heap}
    {f : Addr} {fd : FuncData} (D : Dn K mg "_law_numbers" s_law_numbers ["script"] f fd)
    (b_range : mg "range" = none)
    (c_law_mixed : Cal P w K mg base CX0 1 "_law_mixed" (sp_law_mixed K)) : Cal P w K mg base CX0 2 "_law_numbers" (sp_law_numbers K) := by
  refine D.ok sc_law_numbers (fun vs H Q E h => ?_) fun cdv A outer s H vs Q E hr h => ?_
  · obtain ⟨a, M, G, j, ⟨rfl, _⟩, _⟩ := h; rfl
  obtain ⟨⟨a, cs⟩, M, G, j, ⟨rfl, ha, hl⟩, k⟩ := h
  refine ⟨_, (pss_cons (ps_set (i := 1) sc_law_numbers.nd rfl (Or.inl rfl) (pe_lst pa_nil))
(pss_cons (ps_for PassesOwn.never rfl (pi_list (pv 0)) (pg_name (i := 2) sc_law_numbers.nd rfl (Or.inl rfl))
(pss_one (ps_if (pt_cmpR op_ge (pv 2) (pe_op op_pow pe_int pe_int) (nomark _))
(pss_cons (ps_set (i := 3) sc_law_numbers.nd rfl (Or.inl rfl) (pv 2))
(pss_one (ps_for PassesOwn.never rfl (pi_range1 (by rfl) b_range (pa_cons pe_int pa_nil)) (pg_name (i := 4) sc_law_numbers.nd rfl (Or.inl rfl))
(pss_one (ps_if (pt_cmpR op_gt (pv 3) pe_int (nomark _))
(pss_cons (ps_expr (pe_bm PySem.F.plainAttrs_list PySem.F.slot_list_append PySem.F.type_list_append mt_append (pv 1) (pa_cons (pe_op op_mod (pv 3) pe_int) pa_nil)))
(pss_one (ps_set (i := 3) sc_law_numbers.nd rfl (Or.inl rfl) (pe_op op_fdiv (pv 3) pe_int))))
pss_nil)))))
(pss_cons (ps_expr (pe_bm PySem.F.plainAttrs_list PySem.F.slot_list_append PySem.F.type_list_append mt_append (pv 1) (pa_cons (pe_op op_mod (pv 2) pe_int) pa_nil)))
(pss_one (ps_for PassesOwn.never rfl (pi_range1 (by rfl) b_range (pa_cons pe_int pa_nil)) (pg_name (i := 4) sc_law_numbers.nd rfl (Or.inl rfl))
(pss_one (ps_expr (pe_bm PySem.F.plainAttrs_list PySem.F.slot_list_append PySem.F.type_list_append mt_append (pv 1) (pa_cons (pe_op op_mod (pe_cal c_law_mixed hr (by first | decide | omega) (by rfl) (pa_cons (pe_cal c_law_mixed hr (by first | decide | omega) (by rfl) (pa_cons (pe_op op_mod (pv 2) pe_int) (pa_cons (pv 4) pa_nil))) (pa_cons (pe_op (op_uAddK (K := K) rfl) (pv 4) pe_int) pa_nil))) pe_int) pa_nil))))))))))
(pss_one (ps_ret (pv 1))))), ?_⟩
  walk_at "start"
  refine w_newM j (by decide) fun d H1 j1 nM nG => ?_
  walk_at "go"
  refine w_forLV rfl (NumsI M G a d ∘ (60 * ·)) (xs := cs.map V.int) (sl_mono j1.g ha) ⟨[], G, _, _, _, j1, Same.refl G, by simp, Nat.le_refl _, rfl⟩ (fun i σ H _ ⟨ns, G1, _, _, _, j, e, _⟩ => sl_mono (e.trans j.g) ha) ?_ ?_
  · rintro i x σ H hi ⟨ns, G1, x0, y0, z0, j, e, hn, hz, rfl⟩
    dsimp only at ha hl
    obtain ⟨c, rfl⟩ : ∃ c, x = V.int c := by
      rw [List.getElem?_map] at hi
      cases h : cs[i]? with
      | none => rw [h] at hi; cases hi
      | some c => rw [h] at hi; exact ⟨c, (Option.some.inj hi).symm⟩
    have hi' : i < 63 := by
      have := (List.getElem?_eq_some_iff.mp hi).1
      rw [List.length_map] at this; omega
    dsimp only at hz
    walk_at "go"
    refine w_dec (fun h1 => ?_) (fun h1 => ?_)
    · walk_at "go"
      refine w_rng (fun t => NumsR M G a d (60 * i + t) c) ⟨ns, G1, c, _, j, e, hn, hz, rfl⟩ ?_ ?_
      · rintro t σ H ht ⟨ns, G1, r, z, j, e, hn, hz, rfl⟩
        have ht : t < 60 := ht
        walk_at "go"
        refine w_dec (fun h2 => ?_) (fun h2 => ?_)
        · walk_at "go"
          refine ⟨ty_listU j, ?_⟩
          walk_at "go"
          refine w_appendU j (by rw [List.length_map]; omega) fun H' j' => ?_
          walk_at "go"
          exact ⟨ns ++ [r % 1000000], G1, r / 1000000, _, by rw [← map_snoc]; exact j', e, nums_snoc hn (mod_b r), by rw [List.length_append, List.length_singleton]; omega, rfl⟩
        · walk_at "go"
          exact ⟨ns, G1, r, _, j, e, hn, by omega, rfl⟩
      · rintro σ H ⟨ns, G1, r, z, j, e, hn, hz, rfl⟩
        exact ⟨ns, G1, _, _, _, j, e, hn, hz, rfl⟩
    · walk_at "go"
      refine ⟨ty_listU j, ?_⟩
      walk_at "go"
      refine w_appendU j (by rw [List.length_map]; omega) fun H' j' => ?_
      rw [map_snoc] at j'
      walk_at "go"
      refine w_rng (fun t => NumsJ M G a d (60 * i + 1 + t) c) ⟨ns ++ [c % 1000000], G1, _, _, j', e, nums_snoc hn (mod_b c), by rw [List.length_append, List.length_singleton]; omega, rfl⟩ ?_ ?_
      · rintro t σ H ht ⟨ns, G1, y, z, j, e, hn, hz, rfl⟩
        have ht : t < 5 := ht
        walk_at "go"
        refine ⟨ty_listU j, ?_⟩
        walk_at "go"
        refine w_sg (_, _) j rfl fun v M' G' H' j2 e2 ⟨ev, em⟩ => ?_
        subst ev em
        walk_at "go"
        refine w_sg (_, _) j2 rfl fun v M' G' H' j3 e3 ⟨ev, em⟩ => ?_
        subst ev em
        walk_at "go"
        refine w_appendU j3 (by rw [List.length_map]; omega) fun H' j' => ?_
        rw [map_snoc] at j'
        exact ⟨_, _, _, _, j', (e.trans e2).trans e3, nums_snoc hn (mod_b _), by rw [List.length_append, List.length_singleton]; omega, rfl⟩
      · rintro σ H ⟨ns, G1, y, z, j, e, hn, hz, rfl⟩
        exact ⟨ns, G1, _, _, _, j, e, hn, by show ns.length ≤ 60 * (i + 1); have : ns.length ≤ 60 * i + 1 + 5 := hz; omega, rfl⟩
  · rintro σ H ⟨ns, G1, x, y, z, j, e, hn, hz, rfl⟩
    walk_at "go"
    exact k _ _ _ _ (j.freeze nM) (e.trans (Ex.new j.freezeG)) ⟨d, ns, rfl, upd_same, hn, rfl⟩
/-! ### _law_draw -/
abbrev s_law_draw : Stmt := top 7
abbrev n_law_draw : List Str := ["draws", "at", "first"]
theorem sc_law_draw : FnScope n_law_draw ["draws"] (defScope s_law_draw) := ⟨rfl, rfl, rfl, by decide +kernel, rfl, by decide +kernel, by decide +kernel⟩
/-- the law's draws: a list of the numbers and of the place -/
def Dr (K : PySem.W.Frag) (M G : Hp) (p : Addr) : Prop :=
  ∃ (q : Addr) (ns : List Int) (at_ : Int), M p = some (.lst [.ref q, .int at_]) ∧ SqL K G q (ns.map V.int) ∧ (∀ n ∈ ns, 0 ≤ n ∧ n < 1000000) ∧ 0 ≤ at_
theorem Dr.ex {K : PySem.W.Frag} {M G G' : Hp} {p : Addr} (d : Dr K M G p) (e : Ex G G') : Dr K M G' p := by
  obtain ⟨q, ns, at_, h1, h2, h3⟩ := d
  exact ⟨q, ns, at_, h1, sl_mono e h2, h3⟩
theorem Dr.upd {K : PySem.W.Frag} {M G : Hp} {p d : Addr} {o : HO} (h : Dr K M G p) (e : d ≠ p) : Dr K (upd M d o) G p := by
  obtain ⟨q, ns, at_, h1, h2, h3⟩ := h
  exact ⟨q, ns, at_, upd_ne' h1 e.symm, h2, h3⟩
theorem Dr.del {K : PySem.W.Frag} {M G : Hp} {p d : Addr} (h : Dr K M G p) (e : d ≠ p) : Dr K (del M d) G p := by
  obtain ⟨q, ns, at_, h1, h2, h3⟩ := h
  exact ⟨q, ns, at_, (del_ne e.symm).trans h1, h2, h3⟩
theorem Dr.ne {K : PySem.W.Frag} {M G : Hp} {p d : Addr} (h : Dr K M G p) (e : M d = none) : d ≠ p := by
  obtain ⟨q, ns, at_, h1, h2, h3⟩ := h
  exact (ne_of_none h1 e).symm
def sp_law_draw (K : PySem.W.Frag) : Sp := Sg (α := Addr) (fun p vs M G => vs = [.ref p] ∧ Dr K M G p)
  (fun p M _ v M' G' => ∃ n : Int, v = .int n ∧ 0 ≤ n ∧ n < 1000000 ∧ Dr K M' G' p ∧ Ag p M M')
theorem atI_map {ns : List Int} {i : Int} (h0 : 0 ≤ i) (h1 : i < ns.length) : ∃ n, n ∈ ns ∧ atI (ns.map V.int) i = some (.int n) := by
  obtain ⟨k, rfl⟩ : ∃ k : Nat, i = k := ⟨i.toNat, by omega⟩
  have hk : k < ns.length := by omega
  refine ⟨ns[k], List.getElem_mem hk, atI_nat ?_⟩
  rw [List.getElem?_map, List.getElem?_eq_getElem hk]; rfl
theorem use_draw {K : PySem.W.Frag} {M G H : Hp} {p : Addr} {Q : VK} {E : XK} (j : J M G H) (d : Dr K M G p)
    (k : ∀ (n : Int) (M' G' H' : Hp), 0 ≤ n → n < 1000000 → J M' G' H' → Ex G G' → Dr K M' G' p → Ag p M M' → Q (.int n) H') : sp_law_draw K ([.ref p] ++ []) H Q E :=
  w_sg p j ⟨rfl, d⟩ fun v M' G' H' j' e ⟨n, ev, h0, h1, d', ag⟩ => by subst ev; exact k n M' G' H' h0 h1 j' e d' ag
/-- what a def that draws promises: a value of which Pv holds -/
def Dg (K : PySem.W.Frag) (Pv : V → Hp → Prop) : Sp := Sg (α := Addr) (fun p vs M G => vs = [.ref p] ∧ Dr K M G p) (fun p M _ v M' G' => Pv v G' ∧ Dr K M' G' p ∧ Ag p M M')
theorem use_dg {K : PySem.W.Frag} {M G H : Hp} {p : Addr} {Q : VK} {E : XK} {Pv : V → Hp → Prop} (j : J M G H) (d : Dr K M G p)
    (k : ∀ (v : V) (M' G' H' : Hp), Pv v G' → J M' G' H' → Ex G G' → Dr K M' G' p → Ag p M M' → Q v H') : Dg K Pv ([.ref p] ++ []) H Q E :=
  w_sg p j ⟨rfl, d⟩ fun v M' G' H' j' e ⟨h, d', ag⟩ => k v M' G' H' h j' e d' ag
/-- .. with the law's keys -/
def KeysAt (K : PySem.W.Frag) (G : Hp) (t : Addr) (ks : List Int) : Prop := SqL K G t (ks.map V.int) ∧ (∀ k ∈ ks, 0 ≤ k ∧ k < 1000) ∧ 3 ≤ ks.length ∧ ks.length ≤ 15
theorem KeysAt.ex {K : PySem.W.Frag} {G G' : Hp} {t : Addr} {ks : List Int} (h : KeysAt K G t ks) (e : Ex G G') : KeysAt K G' t ks := ⟨sl_mono e h.1, h.2⟩
def Dk (K : PySem.W.Frag) (Pv : V → Hp → Prop) : Sp := Sg (α := Addr × Addr × List Int) (fun a vs M G => vs = [.ref a.1, .ref a.2.1] ∧ Dr K M G a.1 ∧ KeysAt K G a.2.1 a.2.2) (fun a M _ v M' G' => Pv v G' ∧ Dr K M' G' a.1 ∧ Ag a.1 M M')
theorem use_dk {K : PySem.W.Frag} {M G H : Hp} {p t : Addr} {ks : List Int} {Q : VK} {E : XK} {Pv : V → Hp → Prop} (j : J M G H) (d : Dr K M G p) (hk : KeysAt K G t ks)
    (k : ∀ (v : V) (M' G' H' : Hp), Pv v G' → J M' G' H' → Ex G G' → Dr K M' G' p → Ag p M M' → Q v H') : Dk K Pv ([.ref p, .ref t] ++ []) H Q E :=
  w_sg (p, t, ks) j ⟨rfl, d, hk⟩ fun v M' G' H' j' e ⟨h, d', ag⟩ => k v M' G' H' h j' e d' ag
theorem ok_law_draw {P : Program} {w : World} {K : PySem.W.Frag} {mg : Str → Option Value} {base : Heap}
    {f : Addr} {fd : FuncData} (D : Dn K mg "_law_draw" s_law_draw ["draws"] f fd)
    (b_len : mg "len" = none)
    (c_law_mixed : Cal P w K mg base CX0 1 "_law_mixed" (sp_law_mixed K)) : Cal P w K mg base CX0 2 "_law_draw" (sp_law_draw K) := by
  refine D.ok sc_law_draw (fun vs H Q E h => ?_) fun cdv A outer s H vs Q E hr h => ?_
  · obtain ⟨p, M, G, j, ⟨rfl, _⟩, _⟩ := h; rfl
  obtain ⟨p, M, G, j, ⟨rfl, q, ns, at_, hp, hq, hn, h0⟩, k⟩ := h
  refine ⟨_, (pss_cons (ps_set (i := 1) sc_law_draw.nd rfl (Or.inl rfl) (pe_ix (ix_uK (K := K) rfl) (pv 0) pe_int (fun _ _ => rfl)))
(pss_cons (ps_asg (pe_op (op_uAddK (K := K) rfl) (pv 1) pe_int) (pg_sub (pv 0) pe_int set_list))
(pss_cons (ps_if (pt_cmpR op_lt (pv 1) (pe_callB (call_uLenK (K := K) rfl) (by rfl) b_len PySem.boot_len (pa_cons (pe_ix (ix_uK (K := K) rfl) (pv 0) pe_int (fun _ _ => rfl)) pa_nil)) (nomark _))
(pss_one (ps_ret (pe_ix (ix_uK (K := K) rfl) (pe_ix (ix_uK (K := K) rfl) (pv 0) pe_int (fun _ _ => rfl)) (pv 1) (fun _ _ => rfl))))
pss_nil)
(pss_cons (ps_set (i := 2) sc_law_draw.nd rfl (Or.inl rfl) (pe_op (op_uAddK (K := K) rfl) pe_int (pv 1)))
(pss_cons (ps_if (pt_cmpR op_gt (pe_callB (call_uLenK (K := K) rfl) (by rfl) b_len PySem.boot_len (pa_cons (pe_ix (ix_uK (K := K) rfl) (pv 0) pe_int (fun _ _ => rfl)) pa_nil)) pe_int (nomark _))
(pss_one (ps_set (i := 2) sc_law_draw.nd rfl (Or.inl rfl) (pe_op (op_uAddK (K := K) rfl) (pv 2) (pe_op op_uMul pe_int (pe_ix (ix_uK (K := K) rfl) (pe_ix (ix_uK (K := K) rfl) (pv 0) pe_int (fun _ _ => rfl)) pe_int (fun _ _ => rfl))))))
pss_nil)
(pss_one (ps_ret (pe_op op_mod (pe_cal c_law_mixed hr (by first | decide | omega) (by rfl) (pa_cons (pe_cal c_law_mixed hr (by first | decide | omega) (by rfl) (pa_cons (pv 2) (pa_cons (pv 1) pa_nil))) (pa_cons pe_int pa_nil))) pe_int)))))))), ?_⟩
  walk_at "start"
  refine w_ixM j hp (by rfl) ?_
  walk_at "go"
  refine w_setM j hp (by rfl) fun H1 j1 => ?_
  walk_at "go"
  refine w_ixM j1 upd_same (by rfl) ?_
  walk_at "go"
  refine w_lenL j1 hq ?_
  walk_at "go"
  have dr : Dr K (upd M p (.lst [.ref q, .int (at_ + 1)])) G p := ⟨q, ns, _, upd_same, hq, hn, by omega⟩
  refine w_dec (fun hlt => ?_) (fun hlt => ?_)
  · walk_at "go"
    refine w_ixM j1 upd_same (by rfl) ?_
    walk_at "go"
    rw [List.length_map] at hlt
    obtain ⟨n, hm, e⟩ := atI_map h0 hlt
    refine w_ixL j1 hq e ?_
    exact k _ _ _ _ j1 (Same.refl G) ⟨n, rfl, (hn n hm).1, (hn n hm).2, dr, Ag.upd⟩
  · walk_at "go"
    refine w_ixM j1 upd_same (by rfl) ?_
    walk_at "go"
    refine w_lenL j1 hq ?_
    walk_at "go"
    refine w_dec (fun hl => ?_) (fun hl => ?_)
    · walk_at "go"
      refine w_ixM j1 upd_same (by rfl) ?_
      walk_at "go"
      rw [List.length_map] at hl
      obtain ⟨n, hm, e⟩ := atI_map (ns := ns) (i := 0) (by omega) hl
      refine w_ixL j1 hq e ?_
      walk_at "go"
      refine w_sg (_, _) j1 rfl fun v M' G' H' j2 e2 ⟨ev, em⟩ => ?_
      subst ev em
      walk_at "go"
      refine w_sg (_, _) j2 rfl fun v M' G' H' j3 e3 ⟨ev, em⟩ => ?_
      subst ev em
      walk_at "go"
      exact k _ _ _ _ j3 (e2.trans e3) ⟨_, rfl, Int.emod_nonneg _ (by decide), Int.emod_lt_of_pos _ (by decide), dr.ex (e2.trans e3), Ag.upd⟩
    · walk_at "go"
      refine w_sg (_, _) j1 rfl fun v M' G' H' j2 e2 ⟨ev, em⟩ => ?_
      subst ev em
      walk_at "go"
      refine w_sg (_, _) j2 rfl fun v M' G' H' j3 e3 ⟨ev, em⟩ => ?_
      subst ev em
      walk_at "go"
      exact k _ _ _ _ j3 (e2.trans e3) ⟨_, rfl, Int.emod_nonneg _ (by decide), Int.emod_lt_of_pos _ (by decide), dr.ex (e2.trans e3), Ag.upd⟩
/-! ### Disk.write -/
abbrev s_Disk_write : Stmt := inClass (top 3) 2
abbrev n_Disk_write : List Str := ["self", "position", "block"]
theorem sc_Disk_write : FnScope n_Disk_write ["self", "position", "block"] (defScope s_Disk_write) := ⟨rfl, rfl, rfl, by decide +kernel, rfl, by decide +kernel, by decide +kernel⟩
def wrS (s : DS) (n : Int) (v : V) : DS := ⟨s.kb, s.ca ++ [(n, v)], putK s.kf (.inl n) v, if n + 1 > s.r then n + 1 else s.r⟩
def sp_Disk_write (K : PySem.W.Frag) (C : Addr) : Sp := Sg (α := DA × DS × Int × V) (fun x vs M G => vs = [.ref x.1.p, .int x.2.2.1, x.2.2.2] ∧ DkAt C M G x.1 x.2.1 ∧ x.2.1.kf.length < 1000000 ∧ x.2.1.ca.length < 1000000)
  (fun x M _ v M' G' => v = .non ∧ DkAt C M' G' x.1 (wrS x.2.1 x.2.2.1 x.2.2.2) ∧ Fr x.1 M M')
theorem ok_Disk_write {P : Program} {w : World} {K : PySem.W.Frag} {mg : Str → Option Value} {base : Heap}
    {C_Disk : Addr} (T_Disk : Tx_Disk K mg C_Disk)
    {f : Addr} {fd : FuncData} (D : Dm K C_Disk "write" "Disk.write" s_Disk_write ["self", "position", "block"] f fd)
    (b_max : mg "max" = none) : CalM P w K mg base CX0 1 C_Disk "write" (sp_Disk_write K C_Disk) := by
  refine D.ok sc_Disk_write (fun vs H Q E h => ?_) fun cdv A outer s H vs Q E hr h => ?_
  · obtain ⟨x, M, G, j, ⟨rfl, _⟩, _⟩ := h; rfl
  obtain ⟨⟨d, s, n, v⟩, M, G, j, ⟨rfl, hd, z1, z2⟩, k⟩ := h
  dsimp only at hd z1 z2 k
  refine ⟨_, (pss_cons (ps_expr (pe_bm PySem.F.plainAttrs_list PySem.F.slot_list_append PySem.F.type_list_append mt_append (pe_fld (pv 0) rfl) (pa_cons (pe_tup (pa_cons (pv 1) (pa_cons (pv 2) pa_nil))) pa_nil)))
(pss_cons (ps_dput (hu_of hr) (pe_fld (pv 0) rfl) (pv 1) (pv 2) rfl)
(pss_one (ps_fld (pv 0) (pe_callB (call_max2 rfl) (by rfl) b_max bt_max (pa_cons (pe_fld (pv 0) rfl) (pa_cons (pe_op (op_uAddK (K := K) rfl) (pv 1) pe_int) pa_nil))) rfl)))), ?_⟩
  obtain ⟨xs, hc, hx⟩ := hd.oc
  have pb : d.p ≠ d.b := ne_k hd.op hd.ob (fun z => nomatch z)
  have pc : d.p ≠ d.c := ne_k hd.op hc (fun z => nomatch z)
  have pf : d.p ≠ d.f := ne_k hd.op hd.of (fun z => nomatch z)
  have bc : d.b ≠ d.c := ne_k hd.ob hc (fun z => nomatch z)
  have fc : d.f ≠ d.c := ne_k hd.of hc (fun z => nomatch z)
  have bf := hd.bf
  walk_at "start"
  refine w_fldM j hd.op T_Disk.cl T_Disk.n_cache fl_Disk_cache ?_
  refine ⟨ty_listM j hc, ?_⟩
  walk_at "go"
  refine w_new j (by show 2 ≤ sizeLine; decide) fun t G1 H1 j1 e1 ht _ => ?_
  walk_at "go"
  refine w_appendM j1 hc (sz_lt (by rw [hx.len]; exact z2)) fun H2 j2 => ?_
  walk_at "go"
  refine w_fldM j2 (upd_ne' hd.op pc) T_Disk.cl T_Disk.n_fresh fl_Disk_fresh ?_
  walk_at "go"
  refine w_putX j2 (upd_ne' hd.of fc) z1 fun H3 j3 => ?_
  walk_at "go"
  refine w_fldM j3 (upd_ne' (upd_ne' hd.op pc) pf) T_Disk.cl T_Disk.n_reach fl_Disk_reach ?_
  walk_at "go"
  refine ⟨_, _, rfl, ?_⟩
  walk_at "go"
  refine w_setX j3 (upd_ne' (upd_ne' hd.op pc) pf) T_Disk.cl T_Disk.n_reach (by show 4 < 1000; decide) fun H4 j4 => ?_
  walk_at "go"
  refine k _ _ _ _ j4 e1 ⟨rfl, ⟨?_, ?_, ⟨xs ++ [.ref t], ?_, (hx.ex e1).snoc ht⟩, ?_, bf⟩, fun a o e n1 n2 n3 n4 => ?_⟩
  · rw [sf_Disk_reach]; exact upd_same
  · rw [upd_ne pb.symm, upd_ne bf, upd_ne bc]; exact hd.ob
  · rw [upd_ne pc.symm, upd_ne fc.symm, upd_same]
  · rw [upd_ne pf.symm, upd_same]; rfl
  · rw [upd_ne n1, upd_ne n4, upd_ne n3]; exact e
structure St8 (K : PySem.W.Frag) (C : Addr) (M G : Hp) (p : Addr) (d : DA) (m q l : Addr) (s : DS) (n : Nat) : Prop where
  dr : Dr K M G p
  dk : DkAt C M G d s
  md : MdAt M G m q l s.kb s.ca s.r
  kf : s.kf = s.ca.foldl putC []
  v1 : AllB (BV K G) s.kb
  v2 : ∀ x ∈ s.ca, BV K G x.2
  sz : s.kb.length + s.ca.length ≤ n
  pc : p ≠ d.c
  pm : p ≠ m
  mc : m ≠ d.c
  qb : q ≠ d.b
  qf : q ≠ d.f
theorem St8.ex {K : PySem.W.Frag} {C : Addr} {M G G' : Hp} {p : Addr} {d : DA} {m q l : Addr} {s : DS} {n : Nat} (h : St8 K C M G p d m q l s n) (e : Ex G G') : St8 K C M G' p d m q l s n :=
  ⟨h.dr.ex e, h.dk.ex e, h.md.ex e, h.kf, fun k v x => (h.v1 k v x).ex e, fun x y => (h.v2 x y).ex e, h.sz, h.pc, h.pm, h.mc, h.qb, h.qf⟩
theorem Dr.at {K : PySem.W.Frag} {M G : Hp} {p : Addr} (h : Dr K M G p) : ∃ xs, M p = some (.lst xs) := by
  obtain ⟨q, ns, at_, h1, _⟩ := h
  exact ⟨_, h1⟩
theorem Dr.mv {K : PySem.W.Frag} {M M' G : Hp} {p : Addr} (h : Dr K M G p) (e : M' p = M p) : Dr K M' G p := by
  obtain ⟨q, ns, at_, h1, h2⟩ := h
  exact ⟨q, ns, at_, e.trans h1, h2⟩
theorem DkAt.mv {C : Addr} {N N' G : Hp} {d : DA} {s : DS} (h : DkAt C N G d s) (h1 : N' d.p = N d.p) (h2 : N' d.b = N d.b) (h3 : N' d.c = N d.c) (h4 : N' d.f = N d.f) : DkAt C N' G d s := by
  obtain ⟨xs, hc, hx⟩ := h.oc
  exact ⟨h1.trans h.op, h2.trans h.ob, ⟨xs, h3.trans hc, hx⟩, h4.trans h.of, h.bf⟩
/-- a draw changes the draws' own cell alone -/
theorem St8.ag {K : PySem.W.Frag} {C : Addr} {M M' G G' : Hp} {p : Addr} {d : DA} {m q l : Addr} {s : DS} {n : Nat} (h : St8 K C M G p d m q l s n) (e : Ex G G') (a : Ag p M M') (dr : Dr K M' G' p) : St8 K C M' G' p d m q l s n := by
  obtain ⟨ys, hp⟩ := h.dr.at
  obtain ⟨xs, hc, hx⟩ := h.dk.oc
  have n1 : d.p ≠ p := ne_k h.dk.op hp (fun z => nomatch z)
  have n2 : d.b ≠ p := ne_k h.dk.ob hp (fun z => nomatch z)
  have n3 : d.f ≠ p := ne_k h.dk.of hp (fun z => nomatch z)
  have n4 : q ≠ p := ne_k h.md.oq hp (fun z => nomatch z)
  exact ⟨dr, (h.dk.ex e).mv (a _ n1) (a _ n2) (a _ h.pc.symm) (a _ n3), (h.md.ex e).mv (a _ h.pm.symm) (a _ n4), h.kf, fun k v x => (h.v1 k v x).ex e, fun x y => (h.v2 x y).ex e, h.sz, h.pc, h.pm, h.mc, h.qb, h.qf⟩
theorem dp_ints {K : PySem.W.Frag} {G : Hp} : ∀ ns : List Int, DpAll K G (ns.map V.int) (ns.map PyData.int)
  | [] => .nil
  | n :: r => .cons (.int n) (dp_ints r)
theorem okD_ints {n : Nat} (ns : List Int) (h : ns.length ≤ 100000) : okD (n + 1) (.tuple (ns.map PyData.int)) :=
  ⟨by rw [List.length_map]; exact h, fun x hx => by obtain ⟨i, _, rfl⟩ := List.mem_map.mp hx; cases n <;> trivial⟩
theorem okD_blk {a b c e : Int} {ns : List Int} (h : ns.length ≤ 6) : okD 2 (.tuple [.int a, .int b, .int c, .int e, .tuple (ns.map PyData.int)]) := by
  refine ⟨by show 5 ≤ 100000; decide, fun x hx => ?_⟩
  simp only [List.mem_cons, List.not_mem_nil, or_false] at hx
  rcases hx with rfl | rfl | rfl | rfl | rfl
  · trivial
  · trivial
  · trivial
  · trivial
  · exact okD_ints ns (by omega)
theorem okD_intsL {n : Nat} (ns : List Int) (h : ns.length ≤ 100000) : okD (n + 1) (.list (ns.map PyData.int)) :=
  ⟨by rw [List.length_map]; exact h, fun x hx => by obtain ⟨i, _, rfl⟩ := List.mem_map.mp hx; cases n <;> trivial⟩
theorem cut_ints (fs : List Int) (lo hi : Option Int) : ∃ fs2 : List Int, cutV (fs.map V.int) lo hi = fs2.map V.int ∧ fs2.length ≤ fs.length := by
  unfold cutV
  rw [← List.map_drop, ← List.map_take]
  exact ⟨_, rfl, by rw [List.length_take, List.length_drop]; omega⟩
theorem DkAt.seal {C : Addr} {M G H : Hp} {d : DA} {s : DS} (j : J M G H) (h : DkAt C M G d s) : ∃ M' G', J M' G' H ∧ Ex G G' ∧ DkAt C G' G' d s ∧ ∀ a, a ≠ d.p → a ≠ d.b → a ≠ d.c → a ≠ d.f → M' a = M a := by
  obtain ⟨xs, hc, hx⟩ := h.oc
  have pb : d.p ≠ d.b := ne_k h.op h.ob (fun z => nomatch z)
  have pc : d.p ≠ d.c := ne_k h.op hc (fun z => nomatch z)
  have pf : d.p ≠ d.f := ne_k h.op h.of (fun z => nomatch z)
  have bc : d.b ≠ d.c := ne_k h.ob hc (fun z => nomatch z)
  have fc : d.f ≠ d.c := ne_k h.of hc (fun z => nomatch z)
  have j1 := j.seal h.op
  have h2 : del M d.p d.b = some (.dK s.kb) := (del_ne pb.symm).trans h.ob
  have j2 := j1.seal h2
  have h3 : del (del M d.p) d.b d.c = some (.lst xs) := (del_ne bc.symm).trans ((del_ne pc.symm).trans hc)
  have j3 := j2.seal h3
  have h4 : del (del (del M d.p) d.b) d.c d.f = some (.dK s.kf) := (del_ne fc).trans ((del_ne h.bf.symm).trans ((del_ne pf.symm).trans h.of))
  have j4 := j3.seal h4
  have e : Ex G _ := ((Ex.new (j.out h.op)).trans (Ex.new (j1.out h2))).trans ((Ex.new (j2.out h3)).trans (Ex.new (o := .dK s.kf) (j3.out h4)))
  refine ⟨_, _, j4, e, ⟨?_, ?_, ⟨xs, ?_, hx.ex e⟩, upd_same, h.bf⟩, fun a n1 n2 n3 n4 => ?_⟩
  · rw [upd_ne pf, upd_ne pc, upd_ne pb, upd_same]
  · rw [upd_ne h.bf, upd_ne bc, upd_same]
  · rw [upd_ne fc.symm, upd_same]
  · rw [del_ne n4, del_ne n3, del_ne n2, del_ne n1]
/-! ### _law_write -/
abbrev s_law_write : Stmt := top 12
abbrev n_law_write : List Str := ["draws", "disk", "model", "position", "cells", "block", "k"]
theorem sc_law_write : FnScope n_law_write ["draws", "disk", "model"] (defScope s_law_write) := ⟨rfl, rfl, rfl, by decide +kernel, rfl, by decide +kernel, by decide +kernel⟩
/-- what a deed promises: the state again -/
def DeedP (K : PySem.W.Frag) (C : Addr) : Sp := Sg (α := Addr × DA × Addr × Addr × Addr × DS × Nat) (fun x vs M G => vs = [.ref x.1, .ref x.2.1.p, .ref x.2.2.1] ∧ St8 K C M G x.1 x.2.1 x.2.2.1 x.2.2.2.1 x.2.2.2.2.1 x.2.2.2.2.2.1 x.2.2.2.2.2.2 ∧ x.2.2.2.2.2.2 < 90000)
  (fun x _ _ v M' G' => v = .non ∧ ∃ d q l s, d.p = x.2.1.p ∧ St8 K C M' G' x.1 d x.2.2.1 q l s (x.2.2.2.2.2.2 + 1))
def sp_law_write (K : PySem.W.Frag) (C : Addr) : Sp := DeedP K C
theorem ok_law_write {P : Program} {w : World} {K : PySem.W.Frag} {mg : Str → Option Value} {base : Heap}
    {C_Disk : Addr} (T_Disk : Tx_Disk K mg C_Disk)
    {f : Addr} {fd : FuncData} (D : Dn K mg "_law_write" s_law_write ["draws", "disk", "model"] f fd)
    (b_max : mg "max" = none)
    (b_tuple : mg "tuple" = none)
    (b_range : mg "range" = none)
    (c_Disk_write : CalM P w K mg base CX0 1 C_Disk "write" (sp_Disk_write K C_Disk))
    (c_law_draw : Cal P w K mg base CX0 2 "_law_draw" (sp_law_draw K)) : Cal P w K mg base CX0 3 "_law_write" (sp_law_write K C_Disk) := by
  refine D.ok sc_law_write (fun vs H Q E h => ?_) fun cdv A outer s H vs Q E hr h => ?_
  · obtain ⟨x, M, G, j, ⟨rfl, _⟩, _⟩ := h; rfl
  obtain ⟨⟨p, d, m, q, l, s, n⟩, M, G, j, ⟨rfl, S, zn⟩, k⟩ := h
  dsimp only at S zn k
  refine ⟨_, (pss_cons (ps_set (i := 3) sc_law_write.nd rfl (Or.inl rfl) (pe_op op_mod (pe_cal c_law_draw hr (by first | decide | omega) (by rfl) (pa_cons (pv 0) pa_nil)) pe_int))
(pss_cons (ps_if (pt_cmpR (op_uEqK (K := K) rfl hr) (pe_op op_mod (pe_cal c_law_draw hr (by first | decide | omega) (by rfl) (pa_cons (pv 0) pa_nil)) pe_int) pe_int (nomark _))
(pss_one (ps_set (i := 3) sc_law_write.nd rfl (Or.inl rfl) (pe_op (op_uAddK (K := K) rfl) pe_int (pe_op op_mod (pe_cal c_law_draw hr (by first | decide | omega) (by rfl) (pa_cons (pv 0) pa_nil)) pe_int))))
pss_nil)
(pss_cons (ps_set (i := 4) sc_law_write.nd rfl (Or.inl rfl) (pe_callTy (call_tupC (K := K) rfl) (by rfl) b_tuple bt_tuple (pa_cons (pe_lc (own := [("k", 6)]) (by rfl) sc_law_write.nd (pi_range1 (by rfl) b_range (pa_cons (pe_op (op_uAddK (K := K) rfl) pe_int (pe_op op_mod (pe_cal c_law_draw hr (by first | decide | omega) (by rfl) (pa_cons (pv 0) pa_nil)) pe_int)) pa_nil)) (blkOk_by (own := [("k", 6)]) (N := n_law_write) (sc := defScope s_law_write) (by decide +kernel)) (fun _ _ _ _ _ => pg_name (i := 6) sc_law_write.nd rfl (Or.inl rfl)) (fun _ _ _ _ _ => pts_nil) (fun _ _ _ _ _ => (pe_op op_sub (pe_cal c_law_draw hr (by first | decide | omega) (by rfl) (pa_cons (pv 0) pa_nil)) pe_int))) pa_nil)))
(pss_cons (ps_set (i := 5) sc_law_write.nd rfl (Or.inl rfl) (pe_tup (pa_cons (pe_op (op_uAddK (K := K) rfl) pe_int (pe_op op_mod (pe_cal c_law_draw hr (by first | decide | omega) (by rfl) (pa_cons (pv 0) pa_nil)) pe_int)) (pa_cons (pe_op op_mod (pe_cal c_law_draw hr (by first | decide | omega) (by rfl) (pa_cons (pv 0) pa_nil)) pe_int) (pa_cons pe_int (pa_cons pe_int (pa_cons (pv 4) pa_nil)))))))
(pss_cons (ps_expr (pe_calM c_Disk_write T_Disk.cl hr (by first | decide | omega) (pv 1) (pa_cons (pv 3) (pa_cons (pv 5) pa_nil))))
(pss_cons (ps_asg (pe_op (op_uAddK (K := K) rfl) (pe_ix (ix_uK (K := K) rfl) (pv 2) pe_int (fun _ _ => rfl)) (pe_lst (pa_cons (pe_tup (pa_cons (pv 3) (pa_cons (pv 5) pa_nil))) pa_nil))) (pg_sub (pv 2) pe_int set_list))
(pss_one (ps_asg (pe_callB (call_max2 rfl) (by rfl) b_max bt_max (pa_cons (pe_ix (ix_uK (K := K) rfl) (pv 2) pe_int (fun _ _ => rfl)) (pa_cons (pe_op (op_uAddK (K := K) rfl) (pv 3) pe_int) pa_nil))) (pg_sub (pv 2) pe_int set_list))))))))), ?_⟩
  walk_at "start"
  refine use_draw j S.dr fun n1 M1 G1 H1 _ _ j1 e1 d1 a1 => ?_
  have S1 := S.ag e1 a1 d1
  walk_at "to"
  refine w_seqP (fun σ H => ∃ (z : Int) (M' : Hp) (G' : Hp), J M' G' H ∧ St8 K C_Disk M' G' p d m q l s n ∧ Ex G G' ∧ σ = [some (.ref p), some (.ref d.p), some (.ref m), some (.int z), none, none, none]) ?_ fun rest => ?_
  · rintro σ H ⟨z, M2, G2, j2, S2, e2, rfl⟩
    walk_at "go"
    refine use_draw j2 S2.dr fun n2 M3 G3 H3 _ _ j3 e3 d3 a3 => ?_
    have S3 := S2.ag e3 a3 d3
    walk_at "go"
    have b2 : 0 ≤ n2 % 6 ∧ n2 % 6 < 6 := ⟨Int.emod_nonneg _ (by decide), Int.emod_lt_of_pos _ (by decide)⟩
    refine w_lcr j3 (fun L i acc M1 G1 => M3 L = none ∧ L ≠ p ∧ Ex G3 G1 ∧ Dr K M1 G1 p ∧ Ag2 p L M3 M1 ∧ (∃ ns : List Int, acc = ns.map V.int) ∧ acc.length = i) (fun L nL gL => ⟨nL, d3.ne nL, Same.refl _, d3.upd (d3.ne nL), (Ag2.refl p L M3).upd, ⟨[], rfl⟩, rfl⟩) (fun x => rfl) ?_ ?_ (by omega) (by omega)
    · rintro L i acc M4 G4 H4 R hi j4 hL ⟨nL3, nLp, e4, d4, a4, ⟨ns, rfl⟩, hlen⟩ hR
      walk_at "go"
      refine use_draw j4 d4 fun n3 M5 G5 H5 _ _ j5 e5 d5 a5 => ?_
      walk_at "go"
      exact hR _ _ ⟨M5, G5, j5, (a5 _ nLp).trans hL, sz_lt (by omega), nL3, nLp, e4.trans e5, d5.upd nLp, (a4.ag a5).upd, ⟨ns ++ [n3 - 500000], by rw [List.map_append]; rfl⟩, by rw [List.length_append, hlen]; rfl⟩
    · rintro L acc M4 G4 H4 j4 hL ⟨nL3, nLp, e4, d4, a4, ⟨ns, rfl⟩, hlen⟩
      walk_at "go"
      have hlen : ns.length ≤ 6 := by rw [List.length_map] at hlen; omega
      refine w_tupC (xs := ns.map V.int) (.inl (.inl (j4.m _ _ hL))) (w_new j4 (Nat.zero_le _) fun c G5 H5 j5 e5 hc _ => ?_)
      have E5 := e4.trans e5
      have j6 : J (del M4 L) G5 H5 := j5.drop L
      have a6 : Ag p M3 (del M4 L) := a4.del nL3
      have S6 := S3.ag E5 a6 ((d4.del nLp).ex e5)
      walk_at "go"
      refine use_draw j6 S6.dr fun n4 M7 G7 H7 _ _ j7 e7 d7 a7 => ?_
      have S7 := S6.ag e7 a7 d7
      walk_at "go"
      refine use_draw j7 S7.dr fun n5 M8 G8 H8 _ _ j8 e8 d8 a8 => ?_
      have S8 := S7.ag e8 a8 d8
      walk_at "go"
      refine w_new j8 (by show 5 ≤ sizeLine; decide) fun B G9 H9 j9 e9 hB _ => ?_
      have S9 := S8.ex e9
      walk_at "go"
      have hc9 := e9 _ _ (e8 _ _ (e7 _ _ hc))
      have bv : BV K G9 (.ref B) := ⟨_, .tup (st_of hB) (.cons (.int _) (.cons (.int _) (.cons (.int _) (.cons (.int _) (.cons (.tup (st_of hc9) (dp_ints ns)) .nil))))), okD_blk hlen⟩
      have zk : s.kf.length ≤ n := by rw [S9.kf]; have := puts_len s.ca []; have h2 := S9.sz; simp at this; omega
      have zc : s.ca.length ≤ n := by have := S9.sz; omega
      refine w_methM j9 S9.dk.op (no_Disk (by decide +kernel) (by decide +kernel) (by decide +kernel) (by decide +kernel)) ?_
      walk_at "go"
      refine w_sg (d, s, z, .ref B) j9 ⟨rfl, S9.dk, by show s.kf.length < 1000000; omega, by show s.ca.length < 1000000; omega⟩ fun v MA GA HA jA eA ⟨_, hdA, frA⟩ => ?_
      obtain ⟨xs, hl, hx⟩ := S9.md.ol
      have hmA : MA m = _ := frA _ _ S9.md.om (ne_k S9.md.om S9.dk.op (fun z => nomatch z)) (ne_k S9.md.om S9.dk.ob (fun z => nomatch z)) S9.mc (ne_k S9.md.om S9.dk.of (fun z => nomatch z))
      have hqA : MA q = _ := frA _ _ S9.md.oq (ne_k S9.md.oq S9.dk.op (fun z => nomatch z)) S9.qb (by obtain ⟨ys, hy, _⟩ := S9.dk.oc; exact ne_k S9.md.oq hy (fun z => nomatch z)) S9.qf
      have hpA : MA p = M8 p := by
        obtain ⟨ys, hy⟩ := S9.dr.at
        rw [frA _ _ hy (ne_k hy S9.dk.op (fun z => nomatch z)) (ne_k hy S9.dk.ob (fun z => nomatch z)) S9.pc (ne_k hy S9.dk.of (fun z => nomatch z)), hy]
      have drA := (S9.dr.mv hpA).ex eA
      walk_at "go"
      refine w_ixM jA hmA (by rfl) ?_
      walk_at "go"
      refine w_new jA (by show 2 ≤ sizeLine; decide) fun T GB HB jB eB hT _ => ?_
      walk_at "go"
      refine w_new jB (by show 1 ≤ sizeLine; decide) fun U GC HC jC eC hU _ => ?_
      have hlC := eC _ _ (eB _ _ (eA _ _ hl))
      refine w_catL (jC.g _ _ hlC) (jC.g _ _ hU) (w_new jC (sz_le (by rw [hx.len]; simp; omega)) fun l2 GD HD jD eD hl2 _ => ?_)
      walk_at "go"
      refine w_setM jD hmA (by rfl) fun HE jE => ?_
      walk_at "go"
      refine w_ixM jE upd_same (by rfl) ?_
      walk_at "go"
      refine ⟨_, _, rfl, ?_⟩
      walk_at "go"
      refine w_setM jE upd_same (by rfl) fun HF jF => ?_
      rw [upd_upd] at jF
      walk_at "go"
      have EA := (((eA.trans eB).trans eC).trans eD)
      have EAD := (eB.trans eC).trans eD
      have nqm : q ≠ m := ne_k hqA hmA (fun z => nomatch z)
      obtain ⟨ys, hy, _⟩ := hdA.oc
      have hyp := hpA.trans (show M8 p = M8 p from rfl)
      refine k _ _ _ _ jF ((e2.trans (e3.trans E5)).trans ((e7.trans e8).trans (e9.trans EA))) ⟨rfl, d, q, l2, wrS s z (.ref B), rfl, ?_, ?_, ?_, ?_, ?_, ?_, ?_, S9.pc, S9.pm, S9.mc, S9.qb, S9.qf⟩
      · exact (drA.ex EAD).upd S9.pm.symm
      · exact (hdA.ex EAD).mv (upd_ne (ne_k hdA.op hmA (fun z => nomatch z))) (upd_ne (ne_k hdA.ob hmA (fun z => nomatch z))) (upd_ne S9.mc.symm) (upd_ne (ne_k hdA.of hmA (fun z => nomatch z)))
      · exact ⟨upd_same, (upd_ne nqm).trans hqA, _, hl2, (hx.ex EA).snoc (eD _ _ (eC _ _ hT))⟩
      · show putK s.kf (.inl z) (.ref B) = (s.ca ++ [(z, V.ref B)]).foldl putC []
        rw [List.foldl_append, ← S9.kf]; rfl
      · exact fun k v x => (S9.v1 k v x).ex EA
      · intro x hxm
        rcases List.mem_append.mp hxm with hxm | hxm
        · exact (S9.v2 x hxm).ex EA
        · rw [List.mem_singleton.mp hxm]; exact bv.ex EA
      · show s.kb.length + (s.ca ++ [(z, V.ref B)]).length ≤ n + 1
        have := S9.sz
        rw [List.length_append]; simp; omega
  · walk_at "go"
    refine use_draw j1 S1.dr fun n2 M3 G3 H3 _ _ j3 e3 d3 a3 => ?_
    have S3 := S1.ag e3 a3 d3
    walk_at "go"
    refine w_dec (fun h => ?_) (fun h => ?_)
    · walk_at "go"
      refine use_draw j3 S3.dr fun n4 M4 G4 H4 _ _ j4 e4 d4 a4 => ?_
      have S4 := S3.ag e4 a4 d4
      repeat walk_at "v"
      exact rest _ _ ⟨_, _, _, j4, S4, (e1.trans e3).trans e4, rfl⟩
    · repeat walk_at "v"
      exact rest _ _ ⟨_, _, _, j3, S3, e1.trans e3, rfl⟩
/-! ### Disk.empty_cache -/
abbrev s_Disk_empty_cache : Stmt := inClass (top 3) 5
abbrev n_Disk_empty_cache : List Str := ["self"]
theorem sc_Disk_empty_cache : FnScope n_Disk_empty_cache ["self"] (defScope s_Disk_empty_cache) := ⟨rfl, rfl, rfl, by decide +kernel, rfl, by decide +kernel, by decide +kernel⟩
def sp_Disk_empty_cache (K : PySem.W.Frag) (C : Addr) : Sp := Sg (α := DA × DS) (fun x vs M G => vs = [.ref x.1.p] ∧ DkAt C M G x.1 x.2)
  (fun x M _ v M' G' => v = .non ∧ ∃ c f, DkAt C M' G' { x.1 with c := c, f := f } { x.2 with ca := [], kf := [] } ∧ Fr x.1 M M' ∧ M c = none ∧ M f = none)
theorem ok_Disk_empty_cache {P : Program} {w : World} {K : PySem.W.Frag} {mg : Str → Option Value} {base : Heap}
    {C_Disk : Addr} (T_Disk : Tx_Disk K mg C_Disk)
    {f : Addr} {fd : FuncData} (D : Dm K C_Disk "empty_cache" "Disk.empty_cache" s_Disk_empty_cache ["self"] f fd) : CalM P w K mg base CX0 1 C_Disk "empty_cache" (sp_Disk_empty_cache K C_Disk) := by
  refine D.ok sc_Disk_empty_cache (fun vs H Q E h => ?_) fun cdv A outer s H vs Q E hr h => ?_
  · obtain ⟨x, M, G, j, ⟨rfl, _⟩, _⟩ := h; rfl
  obtain ⟨⟨d, s⟩, M, G, j, ⟨rfl, hd⟩, k⟩ := h
  dsimp only at hd k
  refine ⟨_, (pss_cons (ps_fld (pv 0) (pe_lst pa_nil) rfl)
(pss_one (ps_fld (pv 0) pe_dnewK rfl))), ?_⟩
  walk_at "start"
  refine w_newM j (Nat.zero_le _) fun c H1 j1 nc gc => ?_
  walk_at "go"
  have pc : d.p ≠ c := ne_of_none hd.op nc
  refine w_setX j1 (upd_ne' hd.op pc) T_Disk.cl T_Disk.n_cache (by show 4 < 1000; decide) fun H2 j2 => ?_
  walk_at "go"
  refine w_newM j2 (Nat.zero_le _) fun f H3 j3 nf gf => ?_
  walk_at "go"
  have pf : d.p ≠ f := fun z => by subst z; rw [upd_same] at nf; cases nf
  refine w_setX j3 (upd_ne' upd_same pf) T_Disk.cl T_Disk.n_fresh (by rw [sf_Disk_cache]; show 4 < 1000; decide) fun H4 j4 => ?_
  walk_at "go"
  have fc : f ≠ c := fun q => by subst q; rw [upd_ne pf.symm, upd_same] at nf; cases nf
  have nf' : M f = none := by
    have h := nf
    rwa [upd_ne pf.symm, upd_ne fc] at h
  have pb : d.p ≠ d.b := ne_k hd.op hd.ob (fun z => nomatch z)
  have bc : d.b ≠ c := ne_of_none hd.ob nc
  have bf : d.b ≠ f := ne_of_none hd.ob nf'
  refine k _ _ _ _ j4 (Same.refl G) ⟨rfl, c, f, ⟨?_, ?_, ⟨[], ?_, .nil⟩, ?_, bf⟩, fun a o e n1 n2 n3 n4 => ?_, nc, nf'⟩
  · rw [sf_Disk_cache, sf_Disk_fresh]; exact upd_same
  · rw [upd_ne pb.symm, upd_ne bf, upd_ne pb.symm, upd_ne bc]; exact hd.ob
  · rw [upd_ne pc.symm, upd_ne fc.symm, upd_ne pc.symm, upd_same]
  · rw [upd_ne pf.symm, upd_same]
  · rw [upd_ne n1, upd_ne (ne_of_none e nf'), upd_ne n1, upd_ne (ne_of_none e nc)]; exact e
/-! ### Disk.sync -/
abbrev s_Disk_sync : Stmt := inClass (top 3) 3
abbrev n_Disk_sync : List Str := ["self", "position", "block"]
theorem sc_Disk_sync : FnScope n_Disk_sync ["self"] (defScope s_Disk_sync) := ⟨rfl, rfl, rfl, by decide +kernel, rfl, by decide +kernel, by decide +kernel⟩
def DkEnd (C : Addr) (d : DA) (s' : DS) (M : Hp) (v : V) (M' G' : Hp) : Prop := v = .non ∧ ∃ c f, DkAt C M' G' { d with c := c, f := f } s' ∧ Fr d M M' ∧ M c = none ∧ M f = none
def sp_Disk_sync (K : PySem.W.Frag) (C : Addr) : Sp := Sg (α := DA × DS) (fun x vs M G => vs = [.ref x.1.p] ∧ DkAt C M G x.1 x.2 ∧ x.2.kb.length + x.2.ca.length < 1000000)
  (fun x M _ v M' G' => DkEnd C x.1 ⟨x.2.ca.foldl putC x.2.kb, [], [], x.2.r⟩ M v M' G')
theorem ok_Disk_sync {P : Program} {w : World} {K : PySem.W.Frag} {mg : Str → Option Value} {base : Heap}
    {C_Disk : Addr} (T_Disk : Tx_Disk K mg C_Disk)
    {f : Addr} {fd : FuncData} (D : Dm K C_Disk "sync" "Disk.sync" s_Disk_sync ["self"] f fd)
    (c_Disk_empty_cache : CalM P w K mg base CX0 1 C_Disk "empty_cache" (sp_Disk_empty_cache K C_Disk)) : CalM P w K mg base CX0 2 C_Disk "sync" (sp_Disk_sync K C_Disk) := by
  refine D.ok sc_Disk_sync (fun vs H Q E h => ?_) fun cdv A outer s H vs Q E hr h => ?_
  · obtain ⟨x, M, G, j, ⟨rfl, _⟩, _⟩ := h; rfl
  obtain ⟨⟨d, s⟩, M, G, j, ⟨rfl, hd, z⟩, k⟩ := h
  dsimp only at hd z k
  refine ⟨_, (pss_cons (ps_for PassesOwn.never rfl (pi_list (pe_fld (pv 0) rfl)) (pg_tup rfl (pgs_cons (pg_name (i := 1) sc_Disk_sync.nd rfl (Or.inl rfl)) (pgs_cons (pg_name (i := 2) sc_Disk_sync.nd rfl (Or.inl rfl)) pgs_nil)))
(pss_one (ps_dput (hu_of hr) (pe_fld (pv 0) rfl) (pv 1) (pv 2) rfl)))
(pss_one (ps_expr (pe_calM0 c_Disk_empty_cache T_Disk.cl hr (by first | decide | omega) (pv 0))))), ?_⟩
  obtain ⟨xs, hc, hx⟩ := hd.oc
  have pb : d.p ≠ d.b := ne_k hd.op hd.ob (fun z => nomatch z)
  have bc : d.b ≠ d.c := ne_k hd.ob hc (fun z => nomatch z)
  have bf := hd.bf
  walk_at "start"
  refine w_fldM j hd.op T_Disk.cl T_Disk.n_cache fl_Disk_cache ?_
  refine w_forX (xs := xs) (fun i σ H => ∃ x1 x2, J (upd M d.b (.dK ((s.ca.take i).foldl putC s.kb))) G H ∧ σ = [some (.ref d.p), x1, x2]) ⟨_, _, by rw [List.take_zero, List.foldl_nil, upd_self hd.ob]; exact j, rfl⟩ ?_ ?_ ?_
  · rintro i σ H hi ⟨x1, x2, j, rfl⟩
    exact .inl (.inl (j.m _ _ (upd_ne' hc bc.symm)))
  · rintro i x σ H hi ⟨x1, x2, j, rfl⟩
    obtain ⟨t, n, v, rfl, ht, hq⟩ := hx.get hi
    refine w_gTup j (st_of ht) rfl ?_
    refine w_gCons (w_gName (w_gCons (w_gName (w_gNil ?_))))
    walk_at "go"
    refine w_fldM j (upd_ne' hd.op pb) T_Disk.cl T_Disk.n_blocks fl_Disk_blocks ?_
    walk_at "go"
    have l1 := puts_len (s.ca.take i) s.kb
    have l2 : (s.ca.take i).length ≤ s.ca.length := by rw [List.length_take]; omega
    refine w_putX j upd_same (by omega) fun H3 j3 => ?_
    refine ⟨_, _, ?_, rfl⟩
    rw [upd_upd] at j3
    rw [take_one' hq, List.foldl_append]
    exact j3
  · rintro σ H ⟨x1, x2, j, rfl⟩
    rw [hx.len, List.take_length] at j
    walk_at "go"
    have hd2 : DkAt C_Disk (upd M d.b (.dK (s.ca.foldl putC s.kb))) G d ⟨s.ca.foldl putC s.kb, s.ca, s.kf, s.r⟩ := ⟨upd_ne' hd.op pb, upd_same, ⟨xs, upd_ne' hc bc.symm, hx⟩, upd_ne' hd.of bf.symm, bf⟩
    refine w_methM j hd2.op (no_Disk (by decide +kernel) (by decide +kernel) (by decide +kernel) (by decide +kernel)) ?_
    walk_at "go"
    refine w_sg (d, _) j ⟨rfl, hd2⟩ fun v M1 G1 H1 j1 e1 ⟨_, c, f, h1, h2, h3, h4⟩ => ?_
    walk_at "go"
    refine k _ _ _ _ j1 e1 ⟨rfl, c, f, h1, fun a o e n1 n2 n3 n4 => h2 a o (upd_ne' e n2) n1 n2 n3 n4, ?_, ?_⟩
    · by_cases q : c = d.b
      · subst q; rw [upd_same] at h3; cases h3
      · rwa [upd_ne q] at h3
    · by_cases q : f = d.b
      · subst q; rw [upd_same] at h4; cases h4
      · rwa [upd_ne q] at h4
/-! ### _law_perform -/
abbrev s_law_perform : Stmt := top 13
abbrev n_law_perform : List Str := ["model", "fates", "k"]
theorem sc_law_perform : FnScope n_law_perform ["model", "fates"] (defScope s_law_perform) := ⟨rfl, rfl, rfl, by decide +kernel, rfl, by decide +kernel, by decide +kernel⟩
def sp_law_perform (K : PySem.W.Frag) : Sp := Sg (α := Addr × Addr × Addr × DS × Addr × List Int) (fun x vs M G => vs = [.ref x.1, .ref x.2.2.2.2.1] ∧ MdAt M G x.1 x.2.1 x.2.2.1 x.2.2.2.1.kb x.2.2.2.1.ca x.2.2.2.1.r ∧ SqL K G x.2.2.2.2.1 (x.2.2.2.2.2.map V.int) ∧ x.2.2.2.1.kb.length + x.2.2.2.1.ca.length < 1000000)
  (fun x M _ v M' G' => v = .non ∧ ∃ l, MdAt M' G' x.1 x.2.1 l ((x.2.2.2.1.ca.zip x.2.2.2.2.2).foldl fateC x.2.2.2.1.kb) [] x.2.2.2.1.r ∧ Ag2 x.1 x.2.1 M M')
theorem zip_take_big {α β : Type} {xs : List α} {ys : List β} {i : Nat} (h : ys.length ≤ i) : (xs.zip ys).take (i + 1) = (xs.zip ys).take i := by
  have l : (xs.zip ys).length ≤ i := by rw [List.length_zip]; omega
  rw [List.take_of_length_le l, List.take_of_length_le (by omega)]
theorem ok_law_perform {P : Program} {w : World} {K : PySem.W.Frag} {mg : Str → Option Value} {base : Heap}
    {f : Addr} {fd : FuncData} (D : Dn K mg "_law_perform" s_law_perform ["model", "fates"] f fd)
    (b_range : mg "range" = none)
    (b_len : mg "len" = none) : Cal P w K mg base CX0 1 "_law_perform" (sp_law_perform K) := by
  refine D.ok sc_law_perform (fun vs H Q E h => ?_) fun cdv A outer s H vs Q E hr h => ?_
  · obtain ⟨x, M, G, j, ⟨rfl, _⟩, _⟩ := h; rfl
  obtain ⟨⟨m, q, l, s, a, fs⟩, M, G, j, ⟨rfl, hm, ha, z⟩, k⟩ := h
  dsimp only at hm ha z k
  refine ⟨_, (pss_cons (ps_for PassesOwn.never rfl (pi_range1 (by rfl) b_range (pa_cons (pe_callB (call_uLenK (K := K) rfl) (by rfl) b_len PySem.boot_len (pa_cons (pe_ix (ix_uK (K := K) rfl) (pv 0) pe_int (fun _ _ => rfl)) pa_nil)) pa_nil)) (pg_name (i := 2) sc_law_perform.nd rfl (Or.inl rfl))
(pss_cons (ps_if (PW.pt (pw_and (pt_cmpR op_lt (pv 2) (pe_callB (call_uLenK (K := K) rfl) (by rfl) b_len PySem.boot_len (pa_cons (pv 1) pa_nil)) (nomark _)) (pw_and1 (pt_cmpR (op_uEqK (K := K) rfl hr) (pe_ix (ix_uK (K := K) rfl) (pv 1) (pv 2) (fun _ _ => rfl)) pe_int (nomark _)))))
(pss_one (ps_dput (hu_of hr) (pe_ix (ix_uK (K := K) rfl) (pv 0) pe_int (fun _ _ => rfl)) (pe_ix (ix_uK (K := K) rfl) (pe_ix (ix_uK (K := K) rfl) (pe_ix (ix_uK (K := K) rfl) (pv 0) pe_int (fun _ _ => rfl)) (pv 2) (fun _ _ => rfl)) pe_int (fun _ _ => rfl)) (pe_ix (ix_uK (K := K) rfl) (pe_ix (ix_uK (K := K) rfl) (pe_ix (ix_uK (K := K) rfl) (pv 0) pe_int (fun _ _ => rfl)) (pv 2) (fun _ _ => rfl)) pe_int (fun _ _ => rfl)) rfl))
pss_nil)
(pss_one (ps_if (PW.pt (pw_and (pt_cmpR op_lt (pv 2) (pe_callB (call_uLenK (K := K) rfl) (by rfl) b_len PySem.boot_len (pa_cons (pv 1) pa_nil)) (nomark _)) (pw_and1 (pt_cmpR (op_uEqK (K := K) rfl hr) (pe_ix (ix_uK (K := K) rfl) (pv 1) (pv 2) (fun _ _ => rfl)) pe_int (nomark _)))))
(pss_one (ps_dput (hu_of hr) (pe_ix (ix_uK (K := K) rfl) (pv 0) pe_int (fun _ _ => rfl)) (pe_ix (ix_uK (K := K) rfl) (pe_ix (ix_uK (K := K) rfl) (pe_ix (ix_uK (K := K) rfl) (pv 0) pe_int (fun _ _ => rfl)) (pv 2) (fun _ _ => rfl)) pe_int (fun _ _ => rfl)) pe_non rfl))
pss_nil))))
(pss_one (ps_asg (pe_lst pa_nil) (pg_sub (pv 0) pe_int set_list)))), ?_⟩
  obtain ⟨xs, hl, hx⟩ := hm.ol
  have nqm : q ≠ m := ne_k hm.oq hm.om (fun z => nomatch z)
  walk_at "start"
  refine w_ixM j hm.om (by rfl) ?_
  walk_at "go"
  refine w_lenL j (sl_of hl) ?_
  walk_at "go"
  have zl := hx.len
  refine w_rng (fun i σ H => ∃ x1, J (upd M q (.dK (((s.ca.zip fs).take i).foldl fateC s.kb))) G H ∧ σ = [some (.ref m), some (.ref a), x1]) ⟨_, by rw [List.take_zero, List.foldl_nil, upd_self hm.oq]; exact j, rfl⟩ ?_ ?_ (by omega) (by omega)
  · rintro i σ H hi ⟨x1, j, rfl⟩
    have hi : i < s.ca.length := by rw [← zl]; simpa using hi
    obtain ⟨t, hxt, ht⟩ := hx.at hi
    have hom := upd_ne' (o := .dK (((s.ca.zip fs).take i).foldl fateC s.kb)) hm.om nqm.symm
    have l1 := fates_len ((s.ca.zip fs).take i) s.kb
    have l2 : ((s.ca.zip fs).take i).length ≤ s.ca.length := by rw [List.length_take, List.length_zip]; omega
    have fin : ∀ kb H3, kb = ((s.ca.zip fs).take (i + 1)).foldl fateC s.kb → J (upd M q (.dK kb)) G H3 →
      ∃ x1, J (upd M q (.dK (((s.ca.zip fs).take (i + 1)).foldl fateC s.kb))) G H3 ∧ ([some (.ref m), some (.ref a), some (.int i)] : L2.St) = [some (.ref m), some (.ref a), x1] := fun kb H3 e j3 => by subst e; exact ⟨_, j3, rfl⟩
    walk_at "go"
    refine w_lenL j ha ?_
    walk_at "go"
    by_cases hlt : i < fs.length
    · have hz : (s.ca.zip fs)[i]? = some (s.ca[i], fs[i]) := by rw [List.getElem?_zip_eq_some]; exact ⟨List.getElem?_eq_getElem hi, List.getElem?_eq_getElem hlt⟩
      have hfx : (fs.map V.int)[i]? = some (.int fs[i]) := by rw [List.getElem?_map, List.getElem?_eq_getElem hlt]; rfl
      have step : ((s.ca.zip fs).take (i + 1)).foldl fateC s.kb = fateC (((s.ca.zip fs).take i).foldl fateC s.kb) (s.ca[i], fs[i]) := by rw [take_one' hz, List.foldl_append]; rfl
      refine w_dT (by rw [List.length_map]; omega) ?_
      walk_at "go"
      refine w_ixL j ha (atI_nat hfx) ?_
      walk_at "go"
      refine w_dec (fun h1 => ?_) (fun h1 => ?_)
      · walk_at "go"
        refine w_ixM j hom (by rfl) ?_
        walk_at "go"
        refine w_ixL j (sl_of hl) (atI_nat hxt) ?_
        walk_at "go"
        refine w_ixT j (st_of ht) (by rfl) ?_
        walk_at "go"
        refine w_ixM j hom (by rfl) ?_
        walk_at "go"
        refine w_ixM j hom (by rfl) ?_
        walk_at "go"
        refine w_ixL j (sl_of hl) (atI_nat hxt) ?_
        walk_at "go"
        refine w_ixT j (st_of ht) (by rfl) ?_
        walk_at "go"
        refine w_putX j upd_same (by omega) fun H3 j3 => ?_
        rw [upd_upd] at j3
        walk_at "go"
        refine w_lenL j3 ha ?_
        walk_at "go"
        refine w_dT (by rw [List.length_map]; omega) ?_
        walk_at "go"
        refine w_ixL j3 ha (atI_nat hfx) ?_
        walk_at "go"
        rw [h1]
        walk_at "go"
        refine w_dF (by decide) ?_
        walk_at "go"
        exact fin _ _ (by rw [step]; unfold fateC; rw [if_pos h1]; rfl) j3
      · walk_at "go"
        refine w_lenL j ha ?_
        walk_at "go"
        refine w_dT (by rw [List.length_map]; omega) ?_
        walk_at "go"
        refine w_ixL j ha (atI_nat hfx) ?_
        walk_at "go"
        refine w_dec (fun h2 => ?_) (fun h2 => ?_)
        · walk_at "go"
          refine w_ixM j hom (by rfl) ?_
          walk_at "go"
          refine w_ixM j hom (by rfl) ?_
          walk_at "go"
          refine w_ixL j (sl_of hl) (atI_nat hxt) ?_
          walk_at "go"
          refine w_ixT j (st_of ht) (by rfl) ?_
          walk_at "go"
          refine w_putX j upd_same (by omega) fun H3 j3 => ?_
          rw [upd_upd] at j3
          exact fin _ _ (by rw [step]; unfold fateC; rw [if_neg h1, if_pos h2]) j3
        · walk_at "go"
          exact fin _ _ (by rw [step]; unfold fateC; rw [if_neg h1, if_neg h2]) j
    · refine w_dF (by rw [List.length_map]; omega) ?_
      walk_at "go"
      refine w_lenL j ha ?_
      walk_at "go"
      refine w_dF (by rw [List.length_map]; omega) ?_
      walk_at "go"
      exact fin _ _ (by rw [zip_take_big (by omega)]) j
  · rintro σ H ⟨x1, j, rfl⟩
    have hlen : ((s.ca.zip fs).take (xs.length : Int).toNat) = s.ca.zip fs := List.take_of_length_le (by rw [List.length_zip, Int.toNat_natCast, zl]; omega)
    rw [hlen] at j
    walk_at "go"
    refine w_new j (Nat.zero_le _) fun U G2 H2 j2 e2 hU _ => ?_
    walk_at "go"
    refine w_setM j2 (upd_ne' hm.om nqm.symm) (by rfl) fun H3 j3 => ?_
    walk_at "go"
    refine k _ _ _ _ j3 e2 ⟨rfl, U, ⟨upd_same, (upd_ne nqm).trans upd_same, [], hU, .nil⟩, fun b n1 n2 => (upd_ne n1).trans (upd_ne n2)⟩
/-! ### Disk.crash -/
abbrev s_Disk_crash : Stmt := inClass (top 3) 4
abbrev n_Disk_crash : List Str := ["self", "fates", "position", "block", "fate"]
theorem sc_Disk_crash : FnScope n_Disk_crash ["self", "fates"] (defScope s_Disk_crash) := ⟨rfl, rfl, rfl, by decide +kernel, rfl, by decide +kernel, by decide +kernel⟩
def sp_Disk_crash (K : PySem.W.Frag) (C : Addr) : Sp := Sg (α := DA × DS × Addr × List Int) (fun x vs M G => vs = [.ref x.1.p, .ref x.2.2.1] ∧ DkAt C M G x.1 x.2.1 ∧ SqL K G x.2.2.1 (x.2.2.2.map V.int) ∧ x.2.1.kb.length + x.2.1.ca.length < 1000000)
  (fun x M _ v M' G' => DkEnd C x.1 ⟨(x.2.1.ca.zip x.2.2.2).foldl fateC x.2.1.kb, [], [], x.2.1.r⟩ M v M' G')
theorem ok_Disk_crash {P : Program} {w : World} {K : PySem.W.Frag} {mg : Str → Option Value} {base : Heap}
    {C_Disk : Addr} (T_Disk : Tx_Disk K mg C_Disk)
    {f : Addr} {fd : FuncData} (D : Dm K C_Disk "crash" "Disk.crash" s_Disk_crash ["self", "fates"] f fd)
    (b_zip : mg "zip" = none)
    (g_PERFORMED : ∃ u, mg "PERFORMED" = some u ∧ RelV (.int 1) u)
    (g_TORN : ∃ u, mg "TORN" = some u ∧ RelV (.int 2) u)
    (c_Disk_empty_cache : CalM P w K mg base CX0 1 C_Disk "empty_cache" (sp_Disk_empty_cache K C_Disk)) : CalM P w K mg base CX0 2 C_Disk "crash" (sp_Disk_crash K C_Disk) := by
  refine D.ok sc_Disk_crash (fun vs H Q E h => ?_) fun cdv A outer s H vs Q E hr h => ?_
  · obtain ⟨x, M, G, j, ⟨rfl, _⟩, _⟩ := h; rfl
  obtain ⟨⟨d, s, a, fs⟩, M, G, j, ⟨rfl, hd, ha, z⟩, k⟩ := h
  dsimp only at hd ha z k
  refine ⟨_, (pss_cons (ps_for PassesOwn.never rfl (pi_zip (by rfl) b_zip (pa_cons (pe_fld (pv 0) rfl) (pa_cons (pv 1) pa_nil))) (pg_tup rfl (pgs_cons (pg_tup rfl (pgs_cons (pg_name (i := 2) sc_Disk_crash.nd rfl (Or.inl rfl)) (pgs_cons (pg_name (i := 3) sc_Disk_crash.nd rfl (Or.inl rfl)) pgs_nil))) (pgs_cons (pg_name (i := 4) sc_Disk_crash.nd rfl (Or.inl rfl)) pgs_nil)))
(pss_one (ps_if (pt_cmpR (op_uEqK (K := K) rfl hr) (pv 4) (pe_gk (by rfl) g_PERFORMED) (nomark _))
(pss_one (ps_dput (hu_of hr) (pe_fld (pv 0) rfl) (pv 2) (pv 3) rfl))
(pss_one (ps_if (pt_cmpR (op_uEqK (K := K) rfl hr) (pv 4) (pe_gk (by rfl) g_TORN) (nomark _))
(pss_one (ps_dput (hu_of hr) (pe_fld (pv 0) rfl) (pv 2) pe_non rfl))
pss_nil)))))
(pss_one (ps_expr (pe_calM0 c_Disk_empty_cache T_Disk.cl hr (by first | decide | omega) (pv 0))))), ?_⟩
  obtain ⟨xs, hc, hx⟩ := hd.oc
  have pb : d.p ≠ d.b := ne_k hd.op hd.ob (fun z => nomatch z)
  have bc : d.b ≠ d.c := ne_k hd.ob hc (fun z => nomatch z)
  have bf := hd.bf
  walk_at "start"
  refine w_fldM j hd.op T_Disk.cl T_Disk.n_cache fl_Disk_cache ?_
  walk_at "go"
  refine w_zip (xs := xs) (ys := fs.map V.int) (fun i σ H => ∃ G1 x1 x2 x3, J (upd M d.b (.dK (((s.ca.zip fs).take i).foldl fateC s.kb))) G1 H ∧ Ex G G1 ∧ σ = [some (.ref d.p), some (.ref a), x1, x2, x3]) ⟨G, _, _, _, by rw [List.take_zero, List.foldl_nil, upd_self hd.ob]; exact j, Same.refl G, rfl⟩ ?_ ?_ ?_
  · rintro i σ H ⟨G1, x1, x2, x3, j, e, rfl⟩
    exact ⟨.inl (.inl (j.m _ _ (upd_ne' hc bc.symm))), sl_mono (e.trans j.g) ha⟩
  · rintro i x y T σ H hi hy ⟨G1, x1, x2, x3, j, e, rfl⟩ hT
    obtain ⟨t, n, v, rfl, ht, hq⟩ := hx.get hi
    obtain ⟨f, hf, rfl⟩ : ∃ f, fs[i]? = some f ∧ y = V.int f := by
      rw [List.getElem?_map] at hy
      cases q : fs[i]? with
      | none => rw [q] at hy; cases hy
      | some f => rw [q] at hy; exact ⟨f, rfl, (Option.some.inj hy).symm⟩
    have j2 := j.newG hT (o := .tup [.ref t, .int f])
    have e2 : Ex G1 (upd G1 T (.tup [.ref t, .int f])) := Ex.new (j.freeG hT)
    refine w_gTup j2 (st_of upd_same) rfl ?_
    refine w_gCons (w_gTup j2 (st_of ((e.trans e2) _ _ ht)) rfl (w_gCons (w_gName (w_gCons (w_gName (w_gNil (w_gCons (w_gName (w_gNil ?_)))))))))
    have l1 := fates_len ((s.ca.zip fs).take i) s.kb
    have l2 : ((s.ca.zip fs).take i).length ≤ s.ca.length := by rw [List.length_take, List.length_zip]; omega
    have hz : (s.ca.zip fs)[i]? = some ((n, v), f) := by
      rw [List.getElem?_zip_eq_some]; exact ⟨hq, hf⟩
    have fin : ∀ kb H3, kb = fateC (((s.ca.zip fs).take i).foldl fateC s.kb) ((n, v), f) → J (upd M d.b (.dK kb)) (upd G1 T (.tup [.ref t, .int f])) H3 →
      ∃ G1 x1 x2 x3, J (upd M d.b (.dK (((s.ca.zip fs).take (i + 1)).foldl fateC s.kb))) G1 H3 ∧ Ex G G1 ∧ ([some (.ref d.p), some (.ref a), some (.int n), some v, some (.int f)] : L2.St) = [some (.ref d.p), some (.ref a), x1, x2, x3] := fun kb H3 ek j3 =>
        ⟨_, _, _, _, by rw [take_one' hz, List.foldl_append]; subst ek; exact j3, e.trans e2, rfl⟩
    walk_at "go"
    refine w_dec (fun h => ?_) (fun h => ?_)
    · walk_at "go"
      refine w_fldM j2 (upd_ne' hd.op pb) T_Disk.cl T_Disk.n_blocks fl_Disk_blocks ?_
      walk_at "go"
      refine w_putX j2 upd_same (by omega) fun H3 j3 => ?_
      rw [upd_upd] at j3
      exact fin _ _ (by unfold fateC; rw [if_pos h]; rfl) j3
    · walk_at "go"
      refine w_dec (fun h2 => ?_) (fun h2 => ?_)
      · walk_at "go"
        refine w_fldM j2 (upd_ne' hd.op pb) T_Disk.cl T_Disk.n_blocks fl_Disk_blocks ?_
        walk_at "go"
        refine w_putX j2 upd_same (by omega) fun H3 j3 => ?_
        rw [upd_upd] at j3
        exact fin _ _ (by unfold fateC; rw [if_neg h, if_pos h2]) j3
      · walk_at "go"
        exact fin _ _ (by unfold fateC; rw [if_neg h, if_neg h2]) j2
  · rintro σ H ⟨G1, x1, x2, x3, j, e, rfl⟩
    have hlen : min xs.length (fs.map V.int).length = (s.ca.zip fs).length := by rw [List.length_map, hx.len, List.length_zip]
    rw [hlen, List.take_length] at j
    walk_at "go"
    have hd2 : DkAt C_Disk (upd M d.b (.dK ((s.ca.zip fs).foldl fateC s.kb))) G1 d ⟨(s.ca.zip fs).foldl fateC s.kb, s.ca, s.kf, s.r⟩ := ⟨upd_ne' hd.op pb, upd_same, ⟨xs, upd_ne' hc bc.symm, hx.ex e⟩, upd_ne' hd.of bf.symm, bf⟩
    refine w_methM j hd2.op (no_Disk (by decide +kernel) (by decide +kernel) (by decide +kernel) (by decide +kernel)) ?_
    walk_at "go"
    refine w_sg (d, _) j ⟨rfl, hd2⟩ fun v M1 G1 H1 j1 e1 ⟨_, c, f, h1, h2, h3, h4⟩ => ?_
    walk_at "go"
    refine k _ _ _ _ j1 (e.trans e1) ⟨rfl, c, f, h1, fun a o e n1 n2 n3 n4 => h2 a o (upd_ne' e n2) n1 n2 n3 n4, ?_, ?_⟩
    · by_cases q : c = d.b
      · subst q; rw [upd_same] at h3; cases h3
      · rwa [upd_ne q] at h3
    · by_cases q : f = d.b
      · subst q; rw [upd_same] at h4; cases h4
      · rwa [upd_ne q] at h4
/-! ### _law_deed -/
abbrev s_law_deed : Stmt := top 14
abbrev n_law_deed : List Str := ["draws", "disk", "model", "pick", "fates", "handed", "pair"]
theorem sc_law_deed : FnScope n_law_deed ["draws", "disk", "model"] (defScope s_law_deed) := ⟨rfl, rfl, rfl, by decide +kernel, rfl, by decide +kernel, by decide +kernel⟩
def sp_law_deed (K : PySem.W.Frag) (C : Addr) : Sp := DeedP K C
/-- behind a deed of the disk's own that ends with an empty cache, and the model's -/
theorem st8_end {K : PySem.W.Frag} {C : Addr} {M M1 M2 G G2 : Hp} {p : Addr} {d : DA} {m q l l2 c f : Addr} {s : DS} {n : Nat} {kb : List (Key × V)} (h : St8 K C M G p d m q l s n) (e : Ex G G2) (f1 : Fr d M M1) (nc : M c = none) (nf : M f = none)
    (hd : DkAt C M1 G2 ⟨d.p, d.b, c, f, d.dx⟩ (DS.mk kb [] [] s.r)) (hm : MdAt M2 G2 m q l2 kb [] s.r) (ag : Ag2 m q M1 M2) (hv : AllB (BV K G2) kb) (hn : kb.length ≤ n) : St8 K C M2 G2 p ⟨d.p, d.b, c, f, d.dx⟩ m q l2 (DS.mk kb [] [] s.r) (n + 1) := by
  obtain ⟨ys, hp⟩ := h.dr.at
  obtain ⟨xs, hc, _⟩ := hd.oc
  have np : M1 p = M p := by
    obtain ⟨zs, hcc, _⟩ := h.dk.oc
    rw [f1 p _ hp (ne_k hp h.dk.op (fun z => nomatch z)) (ne_k hp h.dk.ob (fun z => nomatch z)) h.pc (ne_k hp h.dk.of (fun z => nomatch z)), hp]
  have npq : p ≠ q := ne_k hp h.md.oq (fun z => nomatch z)
  have n1 : p ≠ c := ne_of_none hp nc
  have n2 : m ≠ c := ne_of_none h.md.om nc
  have n3 : q ≠ f := ne_of_none h.md.oq nf
  have m1 : d.p ≠ m := ne_k h.dk.op h.md.om (fun z => nomatch z)
  have m2 : d.p ≠ q := ne_k h.dk.op h.md.oq (fun z => nomatch z)
  have m3 : d.b ≠ m := ne_k h.dk.ob h.md.om (fun z => nomatch z)
  have m4 : c ≠ q := fun z => by subst z; rw [h.md.oq] at nc; cases nc
  have m5 : f ≠ m := fun z => by subst z; rw [h.md.om] at nf; cases nf
  refine ⟨((h.dr.mv np).ex e).mv (ag p h.pm npq), hd.mv (ag _ m1 m2) (ag _ m3 h.qb.symm) (ag _ n2.symm m4) (ag _ m5 n3.symm), hm, rfl, hv, fun x hx => (by cases hx), ?_, n1, h.pm, n2, h.qb, n3⟩
  show kb.length + 0 ≤ n + 1
  omega
theorem st8_fr {K : PySem.W.Frag} {C : Addr} {M M1 G G1 : Hp} {p : Addr} {d : DA} {m q l : Addr} {s : DS} {n : Nat} (h : St8 K C M G p d m q l s n) (e : Ex G G1) (f1 : Fr d M M1) : MdAt M1 G1 m q l s.kb s.ca s.r := by
  obtain ⟨zs, hcc, _⟩ := h.dk.oc
  refine (h.md.ex e).mv ?_ ?_
  · rw [f1 m _ h.md.om (ne_k h.md.om h.dk.op (fun z => nomatch z)) (ne_k h.md.om h.dk.ob (fun z => nomatch z)) h.mc (ne_k h.md.om h.dk.of (fun z => nomatch z)), h.md.om]
  · rw [f1 q _ h.md.oq (ne_k h.md.oq h.dk.op (fun z => nomatch z)) h.qb (ne_k h.md.oq hcc (fun z => nomatch z)) h.qf, h.md.oq]
theorem ok_law_deed {P : Program} {w : World} {K : PySem.W.Frag} {mg : Str → Option Value} {base : Heap}
    {C_Disk : Addr} (T_Disk : Tx_Disk K mg C_Disk)
    {f : Addr} {fd : FuncData} (D : Dn K mg "_law_deed" s_law_deed ["draws", "disk", "model"] f fd)
    (b_list : mg "list" = none)
    (b_len : mg "len" = none)
    (c_law_write : Cal P w K mg base CX0 3 "_law_write" (sp_law_write K C_Disk))
    (c_law_perform : Cal P w K mg base CX0 1 "_law_perform" (sp_law_perform K))
    (c_Disk_sync : CalM P w K mg base CX0 2 C_Disk "sync" (sp_Disk_sync K C_Disk))
    (c_law_equal : Cal P w K mg base CX0 5 "_law_equal" (spEq K 2))
    (c_Disk_crash : CalM P w K mg base CX0 2 C_Disk "crash" (sp_Disk_crash K C_Disk))
    (c_law_draw : Cal P w K mg base CX0 2 "_law_draw" (sp_law_draw K))
    (c_Disk_wipe : CalM P w K mg base CX0 1 C_Disk "wipe" (sp_Disk_wipe K C_Disk)) : Cal P w K mg base CX0 6 "_law_deed" (sp_law_deed K C_Disk) := by
  refine D.ok sc_law_deed (fun vs H Q E h => ?_) fun cdv A outer s H vs Q E hr h => ?_
  · obtain ⟨x, M, G, j, ⟨rfl, _⟩, _⟩ := h; rfl
  obtain ⟨⟨p, d, m, q, l, s, n⟩, M, G, j, ⟨rfl, S, zn⟩, k⟩ := h
  dsimp only at S zn k
  refine ⟨_, (pss_cons (ps_set (i := 3) sc_law_deed.nd rfl (Or.inl rfl) (pe_op op_mod (pe_cal c_law_draw hr (by first | decide | omega) (by rfl) (pa_cons (pv 0) pa_nil)) pe_int))
(pss_one (ps_if (pt_cmpR op_lt (pv 3) pe_int (nomark _))
(pss_one (ps_expr (pe_cal c_law_write hr (by first | decide | omega) (by rfl) (pa_cons (pv 0) (pa_cons (pv 1) (pa_cons (pv 2) pa_nil))))))
(pss_one (ps_if (pt_cmpR op_lt (pv 3) pe_int (nomark _))
(pss_cons (ps_expr (pe_calM0 c_Disk_sync T_Disk.cl hr (by first | decide | omega) (pv 1)))
(pss_one (ps_expr (pe_cal c_law_perform hr (by first | decide | omega) (by rfl) (pa_cons (pv 2) (pa_cons (pe_lc (own := [("pair", 6)]) (by rfl) sc_law_deed.nd (pi_list (pe_ix (ix_uK (K := K) rfl) (pv 2) pe_int (fun _ _ => rfl))) (blkOk_by (own := [("pair", 6)]) (N := n_law_deed) (sc := defScope s_law_deed) (by decide +kernel)) (fun _ _ _ _ _ => pg_name (i := 6) sc_law_deed.nd rfl (Or.inl rfl)) (fun _ _ _ _ _ => pts_nil) (fun _ _ _ _ _ => pe_int)) pa_nil))))))
(pss_one (ps_if (pt_cmpR op_lt (pv 3) pe_int (nomark _))
(pss_cons (ps_setLc (i := 4) (own := [("pair", 6)]) (by rfl) sc_law_deed.nd rfl rfl (sw_true rfl rfl rfl (by decide +kernel)) (pi_list (pe_ix (ix_uK (K := K) rfl) (pv 2) pe_int (fun _ _ => rfl))) (blkOk_by (own := [("pair", 6)]) (N := n_law_deed) (sc := defScope s_law_deed) (by decide +kernel)) (fun _ _ _ _ _ => pg_name (i := 6) sc_law_deed.nd rfl (Or.inl rfl)) (fun _ _ _ _ _ => pts_nil) (fun _ _ _ _ _ => (pe_op op_mod (pe_cal c_law_draw hr (by first | decide | omega) (by rfl) (pa_cons (pv 0) pa_nil)) pe_int)))
(pss_cons (ps_set (i := 4) sc_law_deed.nd rfl (Or.inl rfl) (pe_slice (sl_uK (K := K) rfl) (pv 4) po_none (po_some (pe_op op_sub (pe_callB (call_uLenK (K := K) rfl) (by rfl) b_len PySem.boot_len (pa_cons (pv 4) pa_nil)) (pe_op op_uMul (pe_op op_mod (pe_cal c_law_draw hr (by first | decide | omega) (by rfl) (pa_cons (pv 0) pa_nil)) pe_int) (pe_op op_fdiv (pe_callB (call_uLenK (K := K) rfl) (by rfl) b_len PySem.boot_len (pa_cons (pv 4) pa_nil)) pe_int))))))
(pss_cons (ps_set (i := 5) sc_law_deed.nd rfl (Or.inl rfl) (pe_callTy (call_listC (K := K) rfl) (by rfl) b_list bt_list (pa_cons (pv 4) pa_nil)))
(pss_cons (ps_expr (pe_calM c_Disk_crash T_Disk.cl hr (by first | decide | omega) (pv 1) (pa_cons (pv 5) pa_nil)))
(pss_cons (ps_expr (pe_cal c_law_perform hr (by first | decide | omega) (by rfl) (pa_cons (pv 2) (pa_cons (pv 4) pa_nil))))
(pss_one (ps_asg (pe_cal c_law_equal hr (by first | decide | omega) (by rfl) (pa_cons (pv 5) (pa_cons (pv 4) pa_nil))) (pg_sub (pv 2) pe_int set_list))))))))
(pss_one (ps_if (pt_cmpR (op_uEqK (K := K) rfl hr) (pe_op op_mod (pe_cal c_law_draw hr (by first | decide | omega) (by rfl) (pa_cons (pv 0) pa_nil)) pe_int) pe_int (nomark _))
(pss_cons (ps_expr (pe_calM0 c_Disk_wipe T_Disk.cl hr (by first | decide | omega) (pv 1)))
(pss_cons (ps_asg pe_dnewK (pg_sub (pv 2) pe_int set_list))
(pss_cons (ps_asg (pe_lst pa_nil) (pg_sub (pv 2) pe_int set_list))
(pss_one (ps_asg pe_int (pg_sub (pv 2) pe_int set_list))))))
pss_nil))))))))), ?_⟩
  walk_at "start"
  refine use_draw j S.dr fun n1 M1 G1 H1 _ _ j1 e1 d1 a1 => ?_
  have S1 := S.ag e1 a1 d1
  have noD : ∀ {m : Str} {x0 x1 x2 x3 : V}, ¬ m = "blocks" → ¬ m = "cache" → ¬ m = "fresh" → ¬ m = "reach" → (fl_Disk x0 x1 x2 x3).lookup m = none := no_Disk
  walk_at "go"
  refine w_dec (fun h => ?_) (fun h => ?_)
  · walk_at "go"
    show DeedP K C_Disk _ _ _ _
    refine w_sg (p, d, m, q, l, s, n) j1 ⟨rfl, S1, zn⟩ fun v M2 G2 H2 j2 e2 ⟨_, d', q', l', s', h1, h2⟩ => ?_
    walk_at "go"
    exact k _ _ _ _ j2 (e1.trans e2) ⟨rfl, d', q', l', s', h1, h2⟩
  walk_at "go"
  refine w_dec (fun h => ?_) (fun h => ?_)
  · walk_at "go"
    refine w_methM j1 S1.dk.op (no_Disk (by decide +kernel) (by decide +kernel) (by decide +kernel) (by decide +kernel)) ?_
    walk_at "go"
    have zs := S1.sz
    refine w_sg (d, s) j1 ⟨rfl, S1.dk, by show s.kb.length + s.ca.length < 1000000; omega⟩ fun v M2 G2 H2 j2 e2 ⟨_, c, f, hd2, fr2, nc, nf⟩ => ?_
    have md2 := st8_fr S1 e2 fr2
    obtain ⟨xs, hl, hx⟩ := md2.ol
    walk_at "go"
    refine w_ixM j2 md2.om (by rfl) ?_
    refine w_lcl (xs := xs) j2 (fun L i acc M G => M2 L = none ∧ Ex G2 G ∧ Ag L M2 M ∧ acc = (List.replicate i (1 : Int)).map V.int) (sl_of hl) (fun L nL gL => ⟨nL, Same.refl _, Ag.upd, rfl⟩) (fun L i acc M1 G1 h => h.2.1) (fun x => rfl) ?_ ?_
    · rintro L i x acc M3 G3 H3 R hi j3 hL ⟨nL, e3, a3, rfl⟩ hR
      have hi : i < xs.length := (List.getElem?_eq_some_iff.mp hi).1
      walk_at "go"
      refine w_yes ?_
      refine hR _ _ ?_
      refine w_T ?_
      walk_at "go"
      refine ⟨_, j3.m _ _ hL, sz_lt (by rw [List.length_map, List.length_replicate]; have := hx.len; omega), _, _, _, j3.put hL, upd_same, nL, e3, a3.trans Ag.upd, ?_⟩
      rw [map_snoc, List.replicate_succ']
    · rintro L acc M3 G3 H3 j3 hL ⟨nL, e3, a3, rfl⟩
      have j4 := j3.seal hL
      rw [a3.del_eq nL] at j4
      have e4 := e3.trans (Ex.new (o := .lst ((List.replicate xs.length (1 : Int)).map V.int)) (j3.out hL))
      walk_at "go"
      refine w_sg (m, q, l, s, L, List.replicate xs.length 1) j4 ⟨rfl, md2.ex e4, sl_of upd_same, by show s.kb.length + s.ca.length < 1000000; omega⟩ fun v M5 G5 H5 j5 e5 ⟨_, l5, hm5, ag5⟩ => ?_
      walk_at "go"
      rw [hx.len, zip_ones] at hm5
      have E5 := (e2.trans e4).trans e5
      refine k _ _ _ _ j5 (e1.trans E5) ⟨rfl, ⟨d.p, d.b, c, f, d.dx⟩, q, l5, ⟨s.ca.foldl putC s.kb, [], [], s.r⟩, rfl, st8_end S1 E5 fr2 nc nf (hd2.ex (e4.trans e5)) hm5 ag5 (AllB.puts (fun k v x => (S1.v1 k v x).ex E5) fun y hy => (S1.v2 y hy).ex E5) (by have := puts_len s.ca s.kb; omega)⟩
  walk_at "go"
  refine w_dec (fun h => ?_) (fun h => ?_)
  · walk_at "go"
    obtain ⟨xs, hl, hx⟩ := S1.md.ol
    refine w_ixM j1 S1.md.om (by rfl) ?_
    refine w_lcl (xs := xs) j1 (fun L i acc M G => M1 L = none ∧ L ≠ p ∧ Ex G1 G ∧ Dr K M G p ∧ Ag2 p L M1 M ∧ ∃ fs : List Int, acc = fs.map V.int ∧ fs.length = i) (sl_of hl) (fun L nL gL => ⟨nL, S1.dr.ne nL, Same.refl _, S1.dr.upd (S1.dr.ne nL), (Ag2.refl p L M1).upd, [], rfl, rfl⟩) (fun L i acc M1 G1 h => h.2.2.1) (fun x => rfl) ?_ ?_
    · rintro L i x acc M3 G3 H3 R hi j3 hL ⟨nL, nLp, e3, d3, a3, fs, rfl, hfs⟩ hR
      have hi : i < xs.length := (List.getElem?_eq_some_iff.mp hi).1
      have zs := S1.sz
      have zx := hx.len
      walk_at "go"
      refine w_yes ?_
      refine hR _ _ ?_
      refine w_T ?_
      walk_at "go"
      refine use_draw j3 d3 fun n2 M4 G4 H4 _ _ j4 e4 d4 a4 => ?_
      walk_at "go"
      refine ⟨_, j4.m _ _ ((a4 _ nLp).trans hL), sz_lt (by rw [List.length_map]; omega), _, _, _, j4.put ((a4 _ nLp).trans hL), upd_same, nL, nLp, e3.trans e4, d4.upd nLp, (a3.ag a4).upd, fs ++ [n2 % 3], map_snoc _ _, by rw [List.length_append, hfs]; rfl⟩
    · rintro L acc M3 G3 H3 j3 hL ⟨nL, nLp, e3, d3, a3, fs, rfl, hfs⟩
      have j4 := j3.seal hL
      have a4 : Ag p M1 (del M3 L) := a3.del nL
      have e4 := e3.trans (Ex.new (o := .lst (fs.map V.int)) (j3.out hL))
      have S4 := S1.ag e4 a4 ((d3.del nLp).ex (Ex.new (j3.out hL)))
      have hfL : SqL K (upd G3 L (.lst (fs.map V.int))) L (fs.map V.int) := sl_of upd_same
      walk_at "go"
      refine w_lenL j4 hfL ?_
      walk_at "go"
      refine use_draw j4 S4.dr fun n2 M5 G5 H5 _ _ j5 e5 d5 a5 => ?_
      have S5 := S4.ag e5 a5 d5
      walk_at "go"
      refine w_lenL j5 (sl_mono e5 hfL) ?_
      walk_at "go"
      have m2 : 0 ≤ n2 % 2 ∧ n2 % 2 < 2 := ⟨Int.emod_nonneg _ (by decide), Int.emod_lt_of_pos _ (by decide)⟩
      refine w_mulI (.inl ⟨by omega, by omega⟩) ?_
      walk_at "go"
      obtain ⟨fs2, hf2, lf2⟩ := cut_ints fs none (some (((fs.map V.int).length : Int) - n2 % 2 * (((fs.map V.int).length : Int) / 2)))
      refine w_slL j5 (sl_mono e5 hfL) ?_
      rw [hf2]
      refine w_new j5 (Nat.zero_le _) fun L2 G6 H6 j6 e6 hL2 _ => ?_
      walk_at "go"
      refine w_listC (.inl (sl_of (j6.g _ _ hL2))) (w_new j6 (Nat.zero_le _) fun L3 G7 H7 j7 e7 hL3 _ => ?_)
      walk_at "go"
      have S7 := S5.ex (e6.trans e7)
      have zs := S7.sz
      refine w_methM j7 S7.dk.op (no_Disk (by decide +kernel) (by decide +kernel) (by decide +kernel) (by decide +kernel)) ?_
      walk_at "go"
      refine w_sg (d, s, L3, fs2) j7 ⟨rfl, S7.dk, sl_of hL3, by show s.kb.length + s.ca.length < 1000000; omega⟩ fun v M8 G8 H8 j8 e8 ⟨_, c, f, hd8, fr8, nc, nf⟩ => ?_
      have md8 := st8_fr S7 e8 fr8
      walk_at "go"
      refine w_sg (m, q, l, s, L2, fs2) j8 ⟨rfl, md8, sl_of (e8 _ _ (e7 _ _ hL2)), by show s.kb.length + s.ca.length < 1000000; omega⟩ fun v M9 G9 H9 j9 e9 ⟨_, l9, hm9, ag9⟩ => ?_
      walk_at "go"
      have E9 := e8.trans e9
      refine use_eq (n := 2) j9 (.lst (sl_of (E9 _ _ hL3)) (dp_ints fs2)) (.lst (sl_of (E9 _ _ (e7 _ _ hL2))) (dp_ints fs2)) (okD_intsL fs2 (by have := S7.sz; have := hx.len; omega)) fun GA HA jA eA => ?_
      walk_at "go"
      have hm9' : M9 m = some (.lst [.ref q, .ref l9, .int s.r, .bl true]) := hm9.om
      refine w_setM jA hm9' (by rfl) fun HB jB => ?_
      replace jB : J (upd M9 m (.lst (([V.ref q, .ref l9, .int s.r, .bl true] : List V).set 3 (.bl true)))) GA HB := jB
      rw [show upd M9 m (.lst (([V.ref q, .ref l9, .int s.r, .bl true] : List V).set 3 (.bl true))) = M9 from upd_self hm9'] at jB
      have E10 := E9.trans eA
      refine k _ _ _ _ jB ((e1.trans e4).trans ((e5.trans (e6.trans e7)).trans E10)) ⟨rfl, ⟨d.p, d.b, c, f, d.dx⟩, q, l9, ⟨(s.ca.zip fs2).foldl fateC s.kb, [], [], s.r⟩, rfl,
        st8_end S7 E10 fr8 nc nf (hd8.ex (e9.trans eA)) (hm9.ex eA) ag9 (AllB.fates BV.non (fun k v x => (S7.v1 k v x).ex E10) fun y hy => (S7.v2 y.1 (List.of_mem_zip hy).1).ex E10) ?_⟩
      have := fates_len (s.ca.zip fs2) s.kb
      rw [List.length_zip] at this
      omega
  · walk_at "go"
    refine use_draw j1 S1.dr fun n2 M3 G3 H3 _ _ j3 e3 d3 a3 => ?_
    have S3 := S1.ag e3 a3 d3
    walk_at "go"
    refine w_dec (fun h => ?_) (fun h => ?_)
    · walk_at "go"
      refine w_methM j3 S3.dk.op (no_Disk (by decide +kernel) (by decide +kernel) (by decide +kernel) (by decide +kernel)) ?_
      walk_at "go"
      refine w_sg (d.p, d.dx) j3 ⟨rfl, _, S3.dk.op, .inr ⟨_, _, _, _, rfl⟩⟩ fun v M4 G4 H4 j4 e4 ⟨_, b, c, f, hd4, fr4, nb, nc, nf⟩ => ?_
      walk_at "go"
      have hm4 : M4 m = _ := fr4 _ _ S3.md.om (ne_k S3.md.om S3.dk.op (fun z => nomatch z))
      have hq4 : M4 q = _ := fr4 _ _ S3.md.oq (ne_k S3.md.oq S3.dk.op (fun z => nomatch z))
      refine w_newM j4 (Nat.zero_le _) fun q2 H5 j5 nq gq => ?_
      walk_at "go"
      have mq2 : m ≠ q2 := ne_of_none hm4 nq
      refine w_setM j5 (upd_ne' hm4 mq2) (by rfl) fun H6 j6 => ?_
      walk_at "go"
      refine w_new j6 (Nat.zero_le _) fun U G7 H7 j7 e7 hU _ => ?_
      walk_at "go"
      refine w_setM j7 upd_same (by rfl) fun H8 j8 => ?_
      rw [upd_upd] at j8
      walk_at "go"
      refine w_setM j8 upd_same (by rfl) fun H9 j9 => ?_
      rw [upd_upd] at j9
      walk_at "go"
      have ep : M4 p = M3 p := by
        obtain ⟨ys, hy⟩ := S3.dr.at
        rw [fr4 _ _ hy (ne_k hy S3.dk.op (fun z => nomatch z)), hy]
      have dr4 := (S3.dr.mv ep).ex (e4.trans e7)
      have hp4 := dr4.at
      obtain ⟨ys, hy⟩ := hp4
      have pq2 : p ≠ q2 := ne_of_none hy nq
      obtain ⟨zs, hc4, _⟩ := hd4.oc
      have n1 : d.p ≠ q2 := ne_of_none hd4.op nq
      have n2 : b ≠ q2 := ne_of_none hd4.ob nq
      have n3 : c ≠ q2 := ne_of_none hc4 nq
      have n4 : f ≠ q2 := ne_of_none hd4.of nq
      have hmn : m ≠ c := fun z => by subst z; rw [S3.md.om] at nc; cases nc
      have m1 : d.p ≠ m := ne_k hd4.op hm4 (fun z => nomatch z)
      have m2 : b ≠ m := ne_k hd4.ob hm4 (fun z => nomatch z)
      have m4 : f ≠ m := ne_k hd4.of hm4 (fun z => nomatch z)
      have pc : p ≠ c := fun z => by subst z; obtain ⟨ys, hy⟩ := S3.dr.at; rw [hy] at nc; cases nc
      refine k _ _ _ _ j9 ((e1.trans e3).trans (e4.trans e7)) ⟨rfl, ⟨d.p, b, c, f, d.dx⟩, q2, U, ⟨[], [], [], 0⟩, rfl, ?_⟩
      refine ⟨(dr4.mv (upd_ne pq2)).mv (upd_ne S3.pm), (hd4.ex e7).mv ((upd_ne m1).trans (upd_ne n1)) ((upd_ne m2).trans (upd_ne n2)) ((upd_ne hmn.symm).trans (upd_ne n3)) ((upd_ne m4).trans (upd_ne n4)), ⟨upd_same, (upd_ne mq2.symm).trans upd_same, [], hU, .nil⟩, rfl, AllB.nil, (fun x hx => (by cases hx)), Nat.zero_le _, pc, S3.pm, hmn, n2.symm, n4.symm⟩
    · walk_at "go"
      exact k _ _ _ _ j3 (e1.trans e3) ⟨rfl, d, q, l, s, rfl, { S3 with sz := Nat.le_succ_of_le S3.sz }⟩
def sp_law (K : PySem.W.Frag) : Sp := fun vs H Q _ => ∃ (a : Addr) (ns : List Int), vs = [.ref a] ∧ SqL K H a (ns.map V.int) ∧ ns.length ≤ 63 ∧ ∀ H', Q (.bl true) H'
/-! ### law -/
abbrev s_law : Stmt := top 15
abbrev n_law : List Str := ["script", "draws", "disk", "other", "model", "k"]
theorem sc_law : FnScope n_law ["script"] (defScope s_law) := ⟨rfl, rfl, rfl, by decide +kernel, rfl, by decide +kernel, by decide +kernel⟩
theorem ok_law {P : Program} {w : World} {K : PySem.W.Frag} {mg : Str → Option Value} {base : Heap} {C_Disk : Addr} (T_Disk : Tx_Disk K mg C_Disk) {f : Addr} {fd : FuncData} (D : Dn K mg "law" s_law ["script"] f fd)
    (b_range : mg "range" = none)
    (c_law_numbers : Cal P w K mg base CX0 2 "_law_numbers" (sp_law_numbers K)) (c_Disk___init__ : CalI P w K mg base CX0 2 C_Disk (sp_Disk___init__ K C_Disk)) (c_law_draw : Cal P w K mg base CX0 2 "_law_draw" (sp_law_draw K))
    (c_law_deed : Cal P w K mg base CX0 6 "_law_deed" (sp_law_deed K C_Disk)) (c_law_agrees : Cal P w K mg base CX0 6 "_law_agrees" (sp_law_agrees K C_Disk)) : FnOk P w K mg base CX0 8 f fd ["script"] (sp_law K) := by
  refine D.fn.ok sc_law (fun vs H Q E h => ?_) fun cdv A outer s H vs Q E hr h => ?_
  · obtain ⟨a, ns, rfl, _⟩ := h; rfl
  obtain ⟨a, ns, rfl, ha, hl, k⟩ := h
  have j := J.start H
  refine ⟨_, (pss_cons (ps_set (i := 1) sc_law.nd rfl (Or.inl rfl) (pe_lst (pa_cons (pe_cal c_law_numbers hr (by first | decide | omega) (by rfl) (pa_cons (pv 0) pa_nil)) (pa_cons pe_int pa_nil))))
(pss_cons (ps_set (i := 2) sc_law.nd rfl (Or.inl rfl) (pe_calI0 c_Disk___init__ T_Disk.gC hr (by first | decide | omega) (by rfl)))
(pss_cons (ps_set (i := 3) sc_law.nd rfl (Or.inl rfl) (pe_calI0 c_Disk___init__ T_Disk.gC hr (by first | decide | omega) (by rfl)))
(pss_cons (ps_set (i := 4) sc_law.nd rfl (Or.inl rfl) (pe_lst (pa_cons pe_dnewK (pa_cons (pe_lst pa_nil) (pa_cons pe_int (pa_cons pe_bl pa_nil))))))
(pss_cons (ps_for PassesOwn.never rfl (pi_range1 (by rfl) b_range (pa_cons (pe_op (op_uAddK (K := K) rfl) pe_int (pe_op op_mod (pe_cal c_law_draw hr (by first | decide | omega) (by rfl) (pa_cons (pv 1) pa_nil)) pe_int)) pa_nil)) (pg_name (i := 5) sc_law.nd rfl (Or.inl rfl))
(pss_cons (ps_expr (pe_cal c_law_deed hr (by first | decide | omega) (by rfl) (pa_cons (pv 1) (pa_cons (pv 2) (pa_cons (pv 4) pa_nil)))))
(pss_one (ps_if (PW.pt (pw_or (pt_not (pt_val (pe_ix (ix_uK (K := K) rfl) (pv 4) pe_int (fun _ _ => rfl)))) (pw_or1 (pt_not (pt_val (pe_cal c_law_agrees hr (by first | decide | omega) (by rfl) (pa_cons (pv 2) (pa_cons (pv 4) pa_nil))))))))
(pss_one (ps_ret pe_bl))
pss_nil))))
(pss_one (ps_ret (pe_cal c_law_agrees hr (by first | decide | omega) (by rfl) (pa_cons (pv 3) (pa_cons (pe_lst (pa_cons pe_dnewK (pa_cons (pe_lst pa_nil) (pa_cons pe_int (pa_cons pe_bl pa_nil))))) pa_nil)))))))))), ?_⟩
  walk_at "start"
  refine w_sg (a, ns) j ⟨rfl, ha, hl⟩ fun v M1 G1 H1 j1 e1 ⟨q, nums, ev, hq, hn, em⟩ => ?_
  subst ev em
  walk_at "go"
  refine w_newM j1 (by show 2 ≤ sizeLine; decide) fun p H2 j2 nM nG => ?_
  walk_at "go"
  have d2 : Dr K (upd (fun _ => none) p (.lst [.ref q, .int 0])) G1 p := ⟨q, nums, 0, upd_same, sl_of hq, hn, Int.le_refl _⟩
  refine w_makeX j2 fun x1 dx1 H3 j3 nx1 gx1 => ?_
  refine w_sg (x1, dx1) j3 ⟨rfl, upd_same⟩ fun v M4 G4 H4 j4 e4 ⟨ev, b1, c1, f1, hd1, fr1, nb1, nc1, nf1⟩ => ⟨ev, ?_⟩
  walk_at "go"
  refine w_makeX j4 fun x2 dx2 H5 j5 nx2 gx2 => ?_
  refine w_sg (x2, dx2) j5 ⟨rfl, upd_same⟩ fun v M6 G6 H6 j6 e6 ⟨ev, b2, c2, f2, hd2, fr2, nb2, nc2, nf2⟩ => ⟨ev, ?_⟩
  walk_at "go"
  have k1 : ∀ y o, M4 y = some o → M6 y = some o := fun y o e => fr2 y o (upd_ne' e (ne_of_none e nx2)) (ne_of_none e nx2)
  obtain ⟨xs1, hc1, hx1⟩ := hd1.oc
  have hd1' : DkAt C_Disk M6 G6 ⟨x1, b1, c1, f1, dx1⟩ ⟨[], [], [], 0⟩ := ⟨k1 _ _ hd1.op, k1 _ _ hd1.ob, ⟨xs1, k1 _ _ hc1, hx1.ex e6⟩, k1 _ _ hd1.of, hd1.bf⟩
  obtain ⟨M7, G7, j7, e7, hd7, fr7⟩ := DkAt.seal j6 hd2
  have k7 : ∀ y o, M4 y = some o → M7 y = some o := fun y o e => by
    have e5 : upd M4 x2 (.ins C_Disk dx2 []) y = some o := upd_ne' e (ne_of_none e nx2)
    rw [fr7 y (ne_of_none e nx2) (ne_of_none e5 nb2) (ne_of_none e5 nc2) (ne_of_none e5 nf2)]
    exact k1 y o e
  have hd8 : DkAt C_Disk M7 G7 ⟨x1, b1, c1, f1, dx1⟩ ⟨[], [], [], 0⟩ := ⟨k7 _ _ hd1.op, k7 _ _ hd1.ob, ⟨xs1, k7 _ _ hc1, hx1.ex (e6.trans e7)⟩, k7 _ _ hd1.of, hd1.bf⟩
  have p4 : M4 p = some (.lst [.ref q, .int 0]) := fr1 p _ (upd_ne' (b := p) (upd_same (H := fun _ => none) (a := p) (o := .lst [.ref q, .int 0])) (fun z => by subst z; rw [upd_same] at nx1; cases nx1)) (fun z => by subst z; rw [upd_same] at nx1; cases nx1)
  have p7 := k7 _ _ p4
  have px1 : p ≠ x1 := fun z => by subst z; rw [upd_same] at nx1; cases nx1
  have p3 : upd (upd (fun _ => none) p (.lst [.ref q, .int 0])) x1 (.ins C_Disk dx1 []) p = some (.lst [.ref q, .int 0]) := (upd_ne px1).trans upd_same
  have pc1 : p ≠ c1 := ne_of_none p3 nc1
  refine w_newM j7 (Nat.zero_le _) fun q2 H8 j8 nq gq => ?_
  walk_at "go"
  refine w_new j8 (Nat.zero_le _) fun l2 G9 H9 j9 e9 hl2 _ => ?_
  walk_at "go"
  refine w_newM j9 (by show 4 ≤ sizeLine; decide) fun m H10 j10 nm gm => ?_
  walk_at "go"
  obtain ⟨xs8, hc8, hx8⟩ := hd8.oc
  have up : ∀ y o, M7 y = some o → upd (upd M7 q2 (.dK [])) m (.lst [.ref q2, .ref l2, .int 0, .bl true]) y = some o := fun y o e => by
    have e8 : upd M7 q2 (.dK []) y = some o := upd_ne' e (ne_of_none e nq)
    exact upd_ne' e8 (ne_of_none e8 nm)
  have mq : q2 ≠ m := fun z => by subst z; rw [upd_same] at nm; cases nm
  have S0 : St8 K C_Disk (upd (upd M7 q2 (.dK [])) m (.lst [.ref q2, .ref l2, .int 0, .bl true])) G9 p ⟨x1, b1, c1, f1, dx1⟩ m q2 l2 ⟨[], [], [], 0⟩ 0 := by
    refine ⟨⟨q, nums, 0, up _ _ p7, sl_of ((((e4.trans e6).trans e7).trans e9) _ _ hq), hn, Int.le_refl _⟩, ⟨up _ _ hd8.op, up _ _ hd8.ob, ⟨xs8, up _ _ hc8, hx8.ex e9⟩, up _ _ hd8.of, hd8.bf⟩, ⟨upd_same, (upd_ne mq).trans upd_same, [], hl2, .nil⟩, rfl, AllB.nil, (fun x hx => (by cases hx)), Nat.le_refl _, pc1, ?_, ?_, ?_, ?_⟩
    · exact ne_of_none (upd_ne' p7 (ne_of_none p7 nq)) nm
    · exact (ne_of_none (upd_ne' hc8 (ne_of_none hc8 nq)) nm).symm
    · exact (ne_of_none hd8.ob nq).symm
    · exact (ne_of_none hd8.of nq).symm
  refine use_draw j10 S0.dr fun n1 M11 G11 H11 _ _ j11 e11 d11 a11 => ?_
  have S1 := S0.ag e11 a11 d11
  walk_at "go"
  have bn : 0 ≤ n1 % 36 ∧ n1 % 36 < 36 := ⟨Int.emod_nonneg _ (by decide), Int.emod_lt_of_pos _ (by decide)⟩
  refine w_rng (fun i σ H => ∃ M G d q l s x, J M G H ∧ Ex G11 G ∧ d.p = x1 ∧ St8 K C_Disk M G p d m q l s i ∧ σ = [some (.ref a), some (.ref p), some (.ref x1), some (.ref x2), some (.ref m), x]) ⟨_, G11, _, _, _, _, _, j11, Same.refl _, rfl, S1, rfl⟩ ?_ ?_ (by omega) (by omega)
  · rintro i σ H hi ⟨M, G, d, q, l, s, x, j, e, hdp, S, rfl⟩
    walk_at "go"
    subst hdp
    show DeedP K C_Disk _ _ _ _
    refine w_sg (p, d, m, q, l, s, i) j ⟨rfl, S, by show i < 90000; omega⟩ fun v M2 G2 H2 j2 e2 ⟨_, d', q', l', s', h1, S2⟩ => ?_
    dsimp only at h1 S2
    walk_at "go"
    refine w_ixM j2 S2.md.om (by rfl) ?_
    walk_at "go"
    refine w_sg (M2, d', m, q', l', s') j2 ⟨by rw [h1]; rfl, S2.dk, Sub.m, S2.md, S2.kf, S2.v1, S2.v2⟩ fun v M3 G3 H3 j3 e3 ⟨ev, em⟩ => ?_
    subst ev em
    walk_at "go"
    exact ⟨_, _, d', q', l', s', _, j3, (e.trans e2).trans e3, h1, S2.ex e3, rfl⟩
  · rintro σ H ⟨M, G, d, q, l, s, x, j, e, hdp, S, rfl⟩
    walk_at "go"
    refine w_newM j (Nat.zero_le _) fun q3 H8 j12 nq3 gq3 => ?_
    walk_at "go"
    refine w_new j12 (Nat.zero_le _) fun l3 G13 H13 j13 e13 hl3 _ => ?_
    walk_at "go"
    refine w_newM j13 (by show 4 ≤ sizeLine; decide) fun m3 H14 j14 nm3 gm3 => ?_
    walk_at "go"
    have mq3 : q3 ≠ m3 := fun z => by subst z; rw [upd_same] at nm3; cases nm3
    have E := ((e9.trans e11).trans e).trans e13
    refine w_sg (G7, ⟨x2, b2, c2, f2, dx2⟩, m3, q3, l3, ⟨[], [], [], 0⟩) j14 ⟨rfl, hd7.ex E, fun y o z => .inr (E _ _ z), ⟨upd_same, (upd_ne mq3).trans upd_same, [], hl3, .nil⟩, rfl, AllB.nil, (fun x hx => (by cases hx))⟩ fun v M15 G15 H15 j15 e15 ⟨ev, em⟩ => ?_
    subst ev
    exact k _
/-! ### the end -/
set_option maxHeartbeats 16000000 in
theorem all_mk {l : PySem.W.OpenLaw} {w : World} {K : PySem.W.Frag} {h : Heap} {mg : Str → Option Value} {fa : Addr} (X : K.In h) (G : h.Ns mainGlobals mg) (hfa : mg "law" = some (.ref fa))
    {C_Disk : Addr}
    {f0 : Addr} {od0 an0 : Option Addr} {sl0 : Array (Option Value)} {oc0 kV0 dc0 pm0 cd0 ct0 : Value}
    {f1 : Addr} {od1 an1 : Option Addr} {sl1 : Array (Option Value)} {oc1 kV1 dc1 pm1 cd1 ct1 : Value}
    {f2 : Addr} {od2 an2 : Option Addr} {sl2 : Array (Option Value)} {oc2 kV2 dc2 pm2 cd2 ct2 : Value}
    {f3 : Addr} {od3 an3 : Option Addr} {sl3 : Array (Option Value)} {oc3 kV3 dc3 pm3 cd3 ct3 : Value}
    {f4 : Addr} {od4 an4 : Option Addr} {sl4 : Array (Option Value)} {oc4 kV4 dc4 pm4 cd4 ct4 : Value}
    {p4 : Addr} {re4 : List Value}
    {f5 : Addr} {od5 an5 : Option Addr} {sl5 : Array (Option Value)} {oc5 kV5 dc5 pm5 cd5 ct5 : Value}
    {p5 : Addr} {re5 : List Value}
    {f6 : Addr} {od6 an6 : Option Addr} {sl6 : Array (Option Value)} {oc6 kV6 dc6 pm6 cd6 ct6 : Value}
    {f7 : Addr} {od7 an7 : Option Addr} {sl7 : Array (Option Value)} {oc7 kV7 dc7 pm7 cd7 ct7 : Value}
    {f8 : Addr} {od8 an8 : Option Addr} {sl8 : Array (Option Value)} {oc8 kV8 dc8 pm8 cd8 ct8 : Value}
    {f9 : Addr} {od9 an9 : Option Addr} {sl9 : Array (Option Value)} {oc9 kV9 dc9 pm9 cd9 ct9 : Value}
    {f10 : Addr} {od10 an10 : Option Addr} {sl10 : Array (Option Value)} {oc10 kV10 dc10 pm10 cd10 ct10 : Value}
    {f11 : Addr} {od11 an11 : Option Addr} {sl11 : Array (Option Value)} {oc11 kV11 dc11 pm11 cd11 ct11 : Value}
    {f12 : Addr} {od12 an12 : Option Addr} {sl12 : Array (Option Value)} {oc12 kV12 dc12 pm12 cd12 ct12 : Value}
    {f13 : Addr} {od13 an13 : Option Addr} {sl13 : Array (Option Value)} {oc13 kV13 dc13 pm13 cd13 ct13 : Value}
    {f14 : Addr} {od14 an14 : Option Addr} {sl14 : Array (Option Value)} {oc14 kV14 dc14 pm14 cd14 ct14 : Value}
    {f15 : Addr} {od15 an15 : Option Addr} {sl15 : Array (Option Value)} {oc15 kV15 dc15 pm15 cd15 ct15 : Value}
    {f16 : Addr} {od16 an16 : Option Addr} {sl16 : Array (Option Value)} {oc16 kV16 dc16 pm16 cd16 ct16 : Value}
    {f17 : Addr} {od17 an17 : Option Addr} {sl17 : Array (Option Value)} {oc17 kV17 dc17 pm17 cd17 ct17 : Value}
    {f18 : Addr} {od18 an18 : Option Addr} {sl18 : Array (Option Value)} {oc18 kV18 dc18 pm18 cd18 ct18 : Value}
    {f19 : Addr} {od19 an19 : Option Addr} {sl19 : Array (Option Value)} {oc19 kV19 dc19 pm19 cd19 ct19 : Value}
    {t1 : Tok}
    {t2 : Tok}
    (aC_Disk : PySem.W.nsIn K mainGlobals "Disk" = some (some (.ref C_Disk)))
    (pgC_Disk : PySem.W.plainGet K C_Disk Str.empty = true)
    (hdC_Disk : PySem.W.hasDictIn K C_Disk = true)
    (poC_Disk : PySem.W.plainOver K C_Disk = true)
    (saC_Disk : PySem.W.findIn K (.ref C_Disk) "__setattr__" = some (some (.builtin "object.__setattr__")))
    (kcC_Disk : PySem.W.keepIn K (.ref C_Disk) = true)
    (mkC_Disk : PySem.W.makesIn K C_Disk = true)
    (nfC_blocks_Disk : PySem.W.findIn K (.ref C_Disk) "blocks" = some none)
    (nfC_cache_Disk : PySem.W.findIn K (.ref C_Disk) "cache" = some none)
    (nfC_fresh_Disk : PySem.W.findIn K (.ref C_Disk) "fresh" = some none)
    (nfC_reach_Disk : PySem.W.findIn K (.ref C_Disk) "reach" = some none)
    (a0 : PySem.W.findIn K (.ref C_Disk) "wipe" = some (some (.ref f0))) (i0 : PySem.W.isFn K (.ref f0) = true)
    (l0 : K.lookup f0 = some ⟨oc0, od0, .func (PySem.W.fnOf "wipe" "Disk.wipe" (defArgs s_Disk_wipe) (defBody s_Disk_wipe) (defScope s_Disk_wipe) .none kV0 dc0 pm0 an0 cd0 ct0), sl0⟩)
    (c0 : PySem.W.codeIn K cd0 "Disk.wipe" = true) (k0 : PySem.W.keepIn K (.ref f0) = true)
    (a1 : PySem.W.findIn K (.ref C_Disk) "__init__" = some (some (.ref f1))) (i1 : PySem.W.isFn K (.ref f1) = true)
    (l1 : K.lookup f1 = some ⟨oc1, od1, .func (PySem.W.fnOf "__init__" "Disk.__init__" (defArgs s_Disk___init__) (defBody s_Disk___init__) (defScope s_Disk___init__) .none kV1 dc1 pm1 an1 cd1 ct1), sl1⟩)
    (c1 : PySem.W.codeIn K cd1 "Disk.__init__" = true) (k1 : PySem.W.keepIn K (.ref f1) = true)
    (a2 : PySem.W.nsIn K mainGlobals "_law_all_equal" = some (some (.ref f2)))
    (l2 : K.lookup f2 = some ⟨oc2, od2, .func (PySem.W.fnOf "_law_all_equal" "_law_all_equal" (defArgs s_law_all_equal) (defBody s_law_all_equal) (defScope s_law_all_equal) .none kV2 dc2 pm2 an2 cd2 ct2), sl2⟩)
    (c2 : PySem.W.codeIn K cd2 "_law_all_equal" = true) (k2 : PySem.W.keepIn K (.ref f2) = true)
    (a3 : PySem.W.nsIn K mainGlobals "_law_equal" = some (some (.ref f3)))
    (l3 : K.lookup f3 = some ⟨oc3, od3, .func (PySem.W.fnOf "_law_equal" "_law_equal" (defArgs s_law_equal) (defBody s_law_equal) (defScope s_law_equal) .none kV3 dc3 pm3 an3 cd3 ct3), sl3⟩)
    (c3 : PySem.W.codeIn K cd3 "_law_equal" = true) (k3 : PySem.W.keepIn K (.ref f3) = true)
    (a4 : PySem.W.findIn K (.ref C_Disk) "waiting" = some (some (.ref p4))) (g4 : PySem.W.specialIn K (.ref p4) "__get__" = some (some (.builtin "property.__get__"))) (t4p : PySem.W.takesIn K (.ref p4) = some true) (r4 : PySem.W.recIn K p4 "property" = some (.ref f4 :: re4))
    (l4 : K.lookup f4 = some ⟨oc4, od4, .func (PySem.W.fnOf "waiting" "Disk.waiting" (defArgs s_Disk_waiting) (defBody s_Disk_waiting) (defScope s_Disk_waiting) .none kV4 dc4 pm4 an4 cd4 ct4), sl4⟩)
    (c4 : PySem.W.codeIn K cd4 "Disk.waiting" = true) (k4 : PySem.W.keepIn K (.ref f4) = true)
    (a5 : PySem.W.findIn K (.ref C_Disk) "size" = some (some (.ref p5))) (g5 : PySem.W.specialIn K (.ref p5) "__get__" = some (some (.builtin "property.__get__"))) (t5p : PySem.W.takesIn K (.ref p5) = some true) (r5 : PySem.W.recIn K p5 "property" = some (.ref f5 :: re5))
    (l5 : K.lookup f5 = some ⟨oc5, od5, .func (PySem.W.fnOf "size" "Disk.size" (defArgs s_Disk_size) (defBody s_Disk_size) (defScope s_Disk_size) .none kV5 dc5 pm5 an5 cd5 ct5), sl5⟩)
    (c5 : PySem.W.codeIn K cd5 "Disk.size" = true) (k5 : PySem.W.keepIn K (.ref f5) = true)
    (a6 : PySem.W.findIn K (.ref C_Disk) "look" = some (some (.ref f6))) (i6 : PySem.W.isFn K (.ref f6) = true)
    (l6 : K.lookup f6 = some ⟨oc6, od6, .func (PySem.W.fnOf "look" "Disk.look" (defArgs s_Disk_look) (defBody s_Disk_look) (defScope s_Disk_look) .none kV6 dc6 pm6 an6 cd6 ct6), sl6⟩)
    (c6 : PySem.W.codeIn K cd6 "Disk.look" = true) (k6 : PySem.W.keepIn K (.ref f6) = true)
    (a7 : PySem.W.nsIn K mainGlobals "_law_seen" = some (some (.ref f7)))
    (l7 : K.lookup f7 = some ⟨oc7, od7, .func (PySem.W.fnOf "_law_seen" "_law_seen" (defArgs s_law_seen) (defBody s_law_seen) (defScope s_law_seen) .none kV7 dc7 pm7 an7 cd7 ct7), sl7⟩)
    (c7 : PySem.W.codeIn K cd7 "_law_seen" = true) (k7 : PySem.W.keepIn K (.ref f7) = true)
    (a8 : PySem.W.nsIn K mainGlobals "_law_agrees" = some (some (.ref f8)))
    (l8 : K.lookup f8 = some ⟨oc8, od8, .func (PySem.W.fnOf "_law_agrees" "_law_agrees" (defArgs s_law_agrees) (defBody s_law_agrees) (defScope s_law_agrees) .none kV8 dc8 pm8 an8 cd8 ct8), sl8⟩)
    (c8 : PySem.W.codeIn K cd8 "_law_agrees" = true) (k8 : PySem.W.keepIn K (.ref f8) = true)
    (a9 : PySem.W.nsIn K mainGlobals "_law_mixed" = some (some (.ref f9)))
    (l9 : K.lookup f9 = some ⟨oc9, od9, .func (PySem.W.fnOf "_law_mixed" "_law_mixed" (defArgs s_law_mixed) (defBody s_law_mixed) (defScope s_law_mixed) .none kV9 dc9 pm9 an9 cd9 ct9), sl9⟩)
    (c9 : PySem.W.codeIn K cd9 "_law_mixed" = true) (k9 : PySem.W.keepIn K (.ref f9) = true)
    (a10 : PySem.W.nsIn K mainGlobals "_law_numbers" = some (some (.ref f10)))
    (l10 : K.lookup f10 = some ⟨oc10, od10, .func (PySem.W.fnOf "_law_numbers" "_law_numbers" (defArgs s_law_numbers) (defBody s_law_numbers) (defScope s_law_numbers) .none kV10 dc10 pm10 an10 cd10 ct10), sl10⟩)
    (c10 : PySem.W.codeIn K cd10 "_law_numbers" = true) (k10 : PySem.W.keepIn K (.ref f10) = true)
    (a11 : PySem.W.nsIn K mainGlobals "_law_draw" = some (some (.ref f11)))
    (l11 : K.lookup f11 = some ⟨oc11, od11, .func (PySem.W.fnOf "_law_draw" "_law_draw" (defArgs s_law_draw) (defBody s_law_draw) (defScope s_law_draw) .none kV11 dc11 pm11 an11 cd11 ct11), sl11⟩)
    (c11 : PySem.W.codeIn K cd11 "_law_draw" = true) (k11 : PySem.W.keepIn K (.ref f11) = true)
    (a12 : PySem.W.findIn K (.ref C_Disk) "write" = some (some (.ref f12))) (i12 : PySem.W.isFn K (.ref f12) = true)
    (l12 : K.lookup f12 = some ⟨oc12, od12, .func (PySem.W.fnOf "write" "Disk.write" (defArgs s_Disk_write) (defBody s_Disk_write) (defScope s_Disk_write) .none kV12 dc12 pm12 an12 cd12 ct12), sl12⟩)
    (c12 : PySem.W.codeIn K cd12 "Disk.write" = true) (k12 : PySem.W.keepIn K (.ref f12) = true)
    (a13 : PySem.W.nsIn K mainGlobals "_law_write" = some (some (.ref f13)))
    (l13 : K.lookup f13 = some ⟨oc13, od13, .func (PySem.W.fnOf "_law_write" "_law_write" (defArgs s_law_write) (defBody s_law_write) (defScope s_law_write) .none kV13 dc13 pm13 an13 cd13 ct13), sl13⟩)
    (c13 : PySem.W.codeIn K cd13 "_law_write" = true) (k13 : PySem.W.keepIn K (.ref f13) = true)
    (a14 : PySem.W.findIn K (.ref C_Disk) "empty_cache" = some (some (.ref f14))) (i14 : PySem.W.isFn K (.ref f14) = true)
    (l14 : K.lookup f14 = some ⟨oc14, od14, .func (PySem.W.fnOf "empty_cache" "Disk.empty_cache" (defArgs s_Disk_empty_cache) (defBody s_Disk_empty_cache) (defScope s_Disk_empty_cache) .none kV14 dc14 pm14 an14 cd14 ct14), sl14⟩)
    (c14 : PySem.W.codeIn K cd14 "Disk.empty_cache" = true) (k14 : PySem.W.keepIn K (.ref f14) = true)
    (a15 : PySem.W.findIn K (.ref C_Disk) "sync" = some (some (.ref f15))) (i15 : PySem.W.isFn K (.ref f15) = true)
    (l15 : K.lookup f15 = some ⟨oc15, od15, .func (PySem.W.fnOf "sync" "Disk.sync" (defArgs s_Disk_sync) (defBody s_Disk_sync) (defScope s_Disk_sync) .none kV15 dc15 pm15 an15 cd15 ct15), sl15⟩)
    (c15 : PySem.W.codeIn K cd15 "Disk.sync" = true) (k15 : PySem.W.keepIn K (.ref f15) = true)
    (a16 : PySem.W.nsIn K mainGlobals "_law_perform" = some (some (.ref f16)))
    (l16 : K.lookup f16 = some ⟨oc16, od16, .func (PySem.W.fnOf "_law_perform" "_law_perform" (defArgs s_law_perform) (defBody s_law_perform) (defScope s_law_perform) .none kV16 dc16 pm16 an16 cd16 ct16), sl16⟩)
    (c16 : PySem.W.codeIn K cd16 "_law_perform" = true) (k16 : PySem.W.keepIn K (.ref f16) = true)
    (a17 : PySem.W.findIn K (.ref C_Disk) "crash" = some (some (.ref f17))) (i17 : PySem.W.isFn K (.ref f17) = true)
    (l17 : K.lookup f17 = some ⟨oc17, od17, .func (PySem.W.fnOf "crash" "Disk.crash" (defArgs s_Disk_crash) (defBody s_Disk_crash) (defScope s_Disk_crash) .none kV17 dc17 pm17 an17 cd17 ct17), sl17⟩)
    (c17 : PySem.W.codeIn K cd17 "Disk.crash" = true) (k17 : PySem.W.keepIn K (.ref f17) = true)
    (a18 : PySem.W.nsIn K mainGlobals "_law_deed" = some (some (.ref f18)))
    (l18 : K.lookup f18 = some ⟨oc18, od18, .func (PySem.W.fnOf "_law_deed" "_law_deed" (defArgs s_law_deed) (defBody s_law_deed) (defScope s_law_deed) .none kV18 dc18 pm18 an18 cd18 ct18), sl18⟩)
    (c18 : PySem.W.codeIn K cd18 "_law_deed" = true) (k18 : PySem.W.keepIn K (.ref f18) = true)
    (a19 : PySem.W.nsIn K mainGlobals "law" = some (some (.ref f19)))
    (l19 : K.lookup f19 = some ⟨oc19, od19, .func (PySem.W.fnOf "law" "law" (defArgs s_law) (defBody s_law) (defScope s_law) .none kV19 dc19 pm19 an19 cd19 ct19), sl19⟩)
    (c19 : PySem.W.codeIn K cd19 "law" = true) (k19 : PySem.W.keepIn K (.ref f19) = true)
    (z_range : PySem.W.nsIn K mainGlobals "range" = some none)
    (z_len : PySem.W.nsIn K mainGlobals "len" = some none)
    (z_isinstance : PySem.W.nsIn K mainGlobals "isinstance" = some none)
    (z_str : PySem.W.nsIn K mainGlobals "str" = some none)
    (z_int : PySem.W.nsIn K mainGlobals "int" = some none)
    (z_bool : PySem.W.nsIn K mainGlobals "bool" = some none)
    (z_tuple : PySem.W.nsIn K mainGlobals "tuple" = some none)
    (z_list : PySem.W.nsIn K mainGlobals "list" = some none)
    (z_max : PySem.W.nsIn K mainGlobals "max" = some none)
    (z_zip : PySem.W.nsIn K mainGlobals "zip" = some none)
    (q_PERFORMED : PySem.W.nsIn K mainGlobals "PERFORMED" = some (some (.int 1 t1)))
    (q_TORN : PySem.W.nsIn K mainGlobals "TORN" = some (some (.int 2 t2))) :
    ∃ fd : FuncData, (∀ (s : Shared) (v : Value), BindsTo s fd ⟨[v], []⟩ [("script", v)]) ∧ ∀ base : Heap, K.In base → base.Ns mainGlobals mg → FnOk l.prog w K mg base CX0 8 fa fd ["script"] (sp_law K) := by
  have e := hfa.symm.trans (PySem.W.mg_of X G a19)
  cases e
  have F0 := fun_mk (st := s_Disk_wipe) l0 c0 k0
  have B0 := F0.binds (ps := ["self"]) fun _ _ _ _ _ _ us hl => match us, hl with | [_], _ => rfl
  have D_Disk_wipe : Dm K C_Disk "wipe" "Disk.wipe" s_Disk_wipe ["self"] f0 _ := ⟨F0, ⟨a0, i0, k0⟩, B0⟩
  have F1 := fun_mk (st := s_Disk___init__) l1 c1 k1
  have B1 := F1.binds (ps := ["self"]) fun _ _ _ _ _ _ us hl => match us, hl with | [_], _ => rfl
  have D_Disk___init__ : Di K C_Disk "Disk.__init__" s_Disk___init__ ["self"] f1 _ := ⟨F1, ⟨mkC_Disk, a1, i1, kcC_Disk⟩, B1⟩
  have F2 := fun_mk (st := s_law_all_equal) l2 c2 k2
  have B2 := F2.binds (ps := ["actual", "due"]) fun _ _ _ _ _ _ us hl => match us, hl with | [_, _], _ => rfl
  have D_law_all_equal : Dn K mg "_law_all_equal" s_law_all_equal ["actual", "due"] f2 _ := ⟨F2, PySem.W.mg_of X G a2, k2, B2⟩
  have F3 := fun_mk (st := s_law_equal) l3 c3 k3
  have B3 := F3.binds (ps := ["actual", "due"]) fun _ _ _ _ _ _ us hl => match us, hl with | [_, _], _ => rfl
  have D_law_equal : Dn K mg "_law_equal" s_law_equal ["actual", "due"] f3 _ := ⟨F3, PySem.W.mg_of X G a3, k3, B3⟩
  have F4 := fun_mk (st := s_Disk_waiting) l4 c4 k4
  have B4 := F4.binds (ps := ["self"]) fun _ _ _ _ _ _ us hl => match us, hl with | [_], _ => rfl
  have D_Disk_waiting : Dpr K C_Disk "waiting" "Disk.waiting" s_Disk_waiting ["self"] p4 f4 _ := ⟨F4, ⟨a4, g4, t4p, _, r4⟩, B4⟩
  have F5 := fun_mk (st := s_Disk_size) l5 c5 k5
  have B5 := F5.binds (ps := ["self"]) fun _ _ _ _ _ _ us hl => match us, hl with | [_], _ => rfl
  have D_Disk_size : Dpr K C_Disk "size" "Disk.size" s_Disk_size ["self"] p5 f5 _ := ⟨F5, ⟨a5, g5, t5p, _, r5⟩, B5⟩
  have F6 := fun_mk (st := s_Disk_look) l6 c6 k6
  have B6 := F6.binds (ps := ["self", "position"]) fun _ _ _ _ _ _ us hl => match us, hl with | [_, _], _ => rfl
  have D_Disk_look : Dm K C_Disk "look" "Disk.look" s_Disk_look ["self", "position"] f6 _ := ⟨F6, ⟨a6, i6, k6⟩, B6⟩
  have F7 := fun_mk (st := s_law_seen) l7 c7 k7
  have B7 := F7.binds (ps := ["model", "position"]) fun _ _ _ _ _ _ us hl => match us, hl with | [_, _], _ => rfl
  have D_law_seen : Dn K mg "_law_seen" s_law_seen ["model", "position"] f7 _ := ⟨F7, PySem.W.mg_of X G a7, k7, B7⟩
  have F8 := fun_mk (st := s_law_agrees) l8 c8 k8
  have B8 := F8.binds (ps := ["disk", "model"]) fun _ _ _ _ _ _ us hl => match us, hl with | [_, _], _ => rfl
  have D_law_agrees : Dn K mg "_law_agrees" s_law_agrees ["disk", "model"] f8 _ := ⟨F8, PySem.W.mg_of X G a8, k8, B8⟩
  have F9 := fun_mk (st := s_law_mixed) l9 c9 k9
  have B9 := F9.binds (ps := ["number", "k"]) fun _ _ _ _ _ _ us hl => match us, hl with | [_, _], _ => rfl
  have D_law_mixed : Dn K mg "_law_mixed" s_law_mixed ["number", "k"] f9 _ := ⟨F9, PySem.W.mg_of X G a9, k9, B9⟩
  have F10 := fun_mk (st := s_law_numbers) l10 c10 k10
  have B10 := F10.binds (ps := ["script"]) fun _ _ _ _ _ _ us hl => match us, hl with | [_], _ => rfl
  have D_law_numbers : Dn K mg "_law_numbers" s_law_numbers ["script"] f10 _ := ⟨F10, PySem.W.mg_of X G a10, k10, B10⟩
  have F11 := fun_mk (st := s_law_draw) l11 c11 k11
  have B11 := F11.binds (ps := ["draws"]) fun _ _ _ _ _ _ us hl => match us, hl with | [_], _ => rfl
  have D_law_draw : Dn K mg "_law_draw" s_law_draw ["draws"] f11 _ := ⟨F11, PySem.W.mg_of X G a11, k11, B11⟩
  have F12 := fun_mk (st := s_Disk_write) l12 c12 k12
  have B12 := F12.binds (ps := ["self", "position", "block"]) fun _ _ _ _ _ _ us hl => match us, hl with | [_, _, _], _ => rfl
  have D_Disk_write : Dm K C_Disk "write" "Disk.write" s_Disk_write ["self", "position", "block"] f12 _ := ⟨F12, ⟨a12, i12, k12⟩, B12⟩
  have F13 := fun_mk (st := s_law_write) l13 c13 k13
  have B13 := F13.binds (ps := ["draws", "disk", "model"]) fun _ _ _ _ _ _ us hl => match us, hl with | [_, _, _], _ => rfl
  have D_law_write : Dn K mg "_law_write" s_law_write ["draws", "disk", "model"] f13 _ := ⟨F13, PySem.W.mg_of X G a13, k13, B13⟩
  have F14 := fun_mk (st := s_Disk_empty_cache) l14 c14 k14
  have B14 := F14.binds (ps := ["self"]) fun _ _ _ _ _ _ us hl => match us, hl with | [_], _ => rfl
  have D_Disk_empty_cache : Dm K C_Disk "empty_cache" "Disk.empty_cache" s_Disk_empty_cache ["self"] f14 _ := ⟨F14, ⟨a14, i14, k14⟩, B14⟩
  have F15 := fun_mk (st := s_Disk_sync) l15 c15 k15
  have B15 := F15.binds (ps := ["self"]) fun _ _ _ _ _ _ us hl => match us, hl with | [_], _ => rfl
  have D_Disk_sync : Dm K C_Disk "sync" "Disk.sync" s_Disk_sync ["self"] f15 _ := ⟨F15, ⟨a15, i15, k15⟩, B15⟩
  have F16 := fun_mk (st := s_law_perform) l16 c16 k16
  have B16 := F16.binds (ps := ["model", "fates"]) fun _ _ _ _ _ _ us hl => match us, hl with | [_, _], _ => rfl
  have D_law_perform : Dn K mg "_law_perform" s_law_perform ["model", "fates"] f16 _ := ⟨F16, PySem.W.mg_of X G a16, k16, B16⟩
  have F17 := fun_mk (st := s_Disk_crash) l17 c17 k17
  have B17 := F17.binds (ps := ["self", "fates"]) fun _ _ _ _ _ _ us hl => match us, hl with | [_, _], _ => rfl
  have D_Disk_crash : Dm K C_Disk "crash" "Disk.crash" s_Disk_crash ["self", "fates"] f17 _ := ⟨F17, ⟨a17, i17, k17⟩, B17⟩
  have F18 := fun_mk (st := s_law_deed) l18 c18 k18
  have B18 := F18.binds (ps := ["draws", "disk", "model"]) fun _ _ _ _ _ _ us hl => match us, hl with | [_, _, _], _ => rfl
  have D_law_deed : Dn K mg "_law_deed" s_law_deed ["draws", "disk", "model"] f18 _ := ⟨F18, PySem.W.mg_of X G a18, k18, B18⟩
  have F19 := fun_mk (st := s_law) l19 c19 k19
  have B19 := F19.binds (ps := ["script"]) fun _ _ _ _ _ _ us hl => match us, hl with | [_], _ => rfl
  have D_law : Dn K mg "law" s_law ["script"] fa _ := ⟨F19, PySem.W.mg_of X G a19, k19, B19⟩
  have T_Disk : Tx_Disk K mg C_Disk := ⟨⟨pgC_Disk, hdC_Disk, poC_Disk, saC_Disk⟩, PySem.W.mg_of X G aC_Disk, nfC_blocks_Disk, nfC_cache_Disk, nfC_fresh_Disk, nfC_reach_Disk⟩
  have b_range := PySem.W.mg_none_of X G z_range
  have b_len := PySem.W.mg_none_of X G z_len
  have b_isinstance := PySem.W.mg_none_of X G z_isinstance
  have b_str := PySem.W.mg_none_of X G z_str
  have b_int := PySem.W.mg_none_of X G z_int
  have b_bool := PySem.W.mg_none_of X G z_bool
  have b_tuple := PySem.W.mg_none_of X G z_tuple
  have b_list := PySem.W.mg_none_of X G z_list
  have b_max := PySem.W.mg_none_of X G z_max
  have b_zip := PySem.W.mg_none_of X G z_zip
  have g_PERFORMED : ∃ u, mg "PERFORMED" = some u ∧ RelV (.int 1) u := ⟨_, PySem.W.mg_of X G q_PERFORMED, _, rfl⟩
  have g_TORN : ∃ u, mg "TORN" = some u ∧ RelV (.int 2) u := ⟨_, PySem.W.mg_of X G q_TORN, _, rfl⟩
  refine ⟨PySem.W.fnOf "law" "law" (defArgs s_law) (defBody s_law) (defScope s_law) .none kV19 dc19 pm19 an19 cd19 ct19, fun s v => .of_eq rfl, fun base hb1 hb2 => ?_⟩
  have c_Disk_wipe := ok_Disk_wipe (P := l.prog) (w := w) (base := base) T_Disk D_Disk_wipe
  have c_Disk___init__ := ok_Disk___init__ (P := l.prog) (w := w) (base := base) T_Disk D_Disk___init__ c_Disk_wipe
  have c_law_equal := fun n => ok_equal (P := l.prog) (w := w) (base := base) D_law_equal D_law_all_equal b_isinstance b_list b_tuple b_bool b_int b_str b_len b_range n
  have c_Disk_waiting := ok_Disk_waiting (P := l.prog) (w := w) (base := base) T_Disk D_Disk_waiting b_len
  have c_Disk_size := ok_Disk_size (P := l.prog) (w := w) (base := base) T_Disk D_Disk_size
  have c_Disk_look := ok_Disk_look (P := l.prog) (w := w) (base := base) T_Disk D_Disk_look
  have c_law_seen := ok_law_seen (P := l.prog) (w := w) (base := base) D_law_seen
  have c_law_agrees := ok_law_agrees (P := l.prog) (w := w) (base := base) T_Disk D_law_agrees b_len (c_law_equal 2) c_law_seen c_Disk_look c_Disk_size c_Disk_waiting
  have c_law_mixed := ok_law_mixed (P := l.prog) (w := w) (base := base) D_law_mixed
  have c_law_numbers := ok_law_numbers (P := l.prog) (w := w) (base := base) D_law_numbers b_range c_law_mixed
  have c_law_draw := ok_law_draw (P := l.prog) (w := w) (base := base) D_law_draw b_len c_law_mixed
  have c_Disk_write := ok_Disk_write (P := l.prog) (w := w) (base := base) T_Disk D_Disk_write b_max
  have c_law_write := ok_law_write (P := l.prog) (w := w) (base := base) T_Disk D_law_write b_max b_tuple b_range c_Disk_write c_law_draw
  have c_Disk_empty_cache := ok_Disk_empty_cache (P := l.prog) (w := w) (base := base) T_Disk D_Disk_empty_cache
  have c_Disk_sync := ok_Disk_sync (P := l.prog) (w := w) (base := base) T_Disk D_Disk_sync c_Disk_empty_cache
  have c_law_perform := ok_law_perform (P := l.prog) (w := w) (base := base) D_law_perform b_range b_len
  have c_Disk_crash := ok_Disk_crash (P := l.prog) (w := w) (base := base) T_Disk D_Disk_crash b_zip g_PERFORMED g_TORN c_Disk_empty_cache
  have c_law_deed := ok_law_deed (P := l.prog) (w := w) (base := base) T_Disk D_law_deed b_list b_len c_law_write c_law_perform c_Disk_sync (c_law_equal 2) c_Disk_crash c_law_draw c_Disk_wipe
  exact ok_law T_Disk D_law b_range c_law_numbers c_Disk___init__ c_law_draw c_law_deed c_law_agrees
theorem walk {l : PySem.W.OpenLaw} {q : Program} {loose : List Str} {XP : (Str → Option Value) → Heap → Prop} {YP : World → Heap → Prop} {d : DefRec} {K : Params → PySem.W.Frag} (hn : l.most = some 63) (hdf : d.params.defaults = [])
    (hY : ∀ (w : World) (h : Heap), YP w h → (K w.params).In h)
    (F : ∀ (w : World) (mg : Str → Option Value) (fa : Addr) (h : Heap), (K w.params).In h → h.Ns mainGlobals mg → mg d.name = some (.ref fa) →
      ∃ fd : FuncData, (∀ (s : Shared) (u : Value), BindsTo s fd ⟨[u], []⟩ [("script", u)]) ∧ ∀ base : Heap, (K w.params).In base → base.Ns mainGlobals mg → FnOk l.prog w (K w.params) mg base CX0 8 fa fd ["script"] (sp_law (K w.params))) :
    PySem.W.WalkO q loose XP YP l.row.toRowW d [] (fun f vs => PySem.call f vs) :=
  L2.walk_of (n := 63) (k := 8) (x := "script") (CX := fun _ => CX0) (sp := fun w => sp_law (K w.params)) hn (by decide) hdf ⟨rfl, by decide, by decide⟩ hY F (fun _ _ a ns hl _ hS => ⟨a, ns, rfl, hS, hl, fun _ => rfl⟩) fun _ _ _ _ _ z => z
end Nz
open PySem PySem.W PyProof.Rows
set_option maxRecDepth 100000 in
set_option maxHeartbeats 0 in
theorem PySem.Challenge.cw_wholecloth_k08_disk_holds : PySem.Challenge.rw_wholecloth_k08_disk.Holds := by
  w_on; o_law; k_head; (case hw => w_witness2)
  k_fill
  refine Nz.walk (l := PySem.Challenge.rw_wholecloth_k08_disk) rfl rfl (fun w h Y => PySem.W.kIn_of Y) ?F
  case F =>
    intro w mg fa h KX G hmg
    refine' Nz.all_mk KX G hmg ?aC_Disk ?pgC_Disk ?hdC_Disk ?poC_Disk ?saC_Disk ?kcC_Disk ?mkC_Disk ?nfC_blocks_Disk ?nfC_cache_Disk ?nfC_fresh_Disk ?nfC_reach_Disk ?a0 ?i0 ?l0 ?c0 ?k0 ?a1 ?i1 ?l1 ?c1 ?k1 ?a2 ?l2 ?c2 ?k2 ?a3 ?l3 ?c3 ?k3 ?a4 ?g4 ?t4p ?r4 ?l4 ?c4 ?k4 ?a5 ?g5 ?t5p ?r5 ?l5 ?c5 ?k5 ?a6 ?i6 ?l6 ?c6 ?k6 ?a7 ?l7 ?c7 ?k7 ?a8 ?l8 ?c8 ?k8 ?a9 ?l9 ?c9 ?k9 ?a10 ?l10 ?c10 ?k10 ?a11 ?l11 ?c11 ?k11 ?a12 ?i12 ?l12 ?c12 ?k12 ?a13 ?l13 ?c13 ?k13 ?a14 ?i14 ?l14 ?c14 ?k14 ?a15 ?i15 ?l15 ?c15 ?k15 ?a16 ?l16 ?c16 ?k16 ?a17 ?i17 ?l17 ?c17 ?k17 ?a18 ?l18 ?c18 ?k18 ?a19 ?l19 ?c19 ?k19 ?z_range ?z_len ?z_isinstance ?z_str ?z_int ?z_bool ?z_tuple ?z_list ?z_max ?z_zip ?q_PERFORMED ?q_TORN
    (case aC_Disk => k_is)
    (case pgC_Disk => k_is)
    (case hdC_Disk => k_is)
    (case poC_Disk => k_is)
    (case saC_Disk => k_is)
    (case kcC_Disk => k_is)
    (case mkC_Disk => k_is)
    (case nfC_blocks_Disk => k_is)
    (case nfC_cache_Disk => k_is)
    (case nfC_fresh_Disk => k_is)
    (case nfC_reach_Disk => k_is)
    (case a0 => k_is)
    (case i0 => k_is)
    (case l0 => k_is)
    (case c0 => k_is)
    (case k0 => k_is)
    (case a1 => k_is)
    (case i1 => k_is)
    (case l1 => k_is)
    (case c1 => k_is)
    (case k1 => k_is)
    (case a2 => k_is)
    (case l2 => k_is)
    (case c2 => k_is)
    (case k2 => k_is)
    (case a3 => k_is)
    (case l3 => k_is)
    (case c3 => k_is)
    (case k3 => k_is)
    (case a4 => k_is)
    (case g4 => k_is)
    (case t4p => k_is)
    (case r4 => k_is)
    (case l4 => k_is)
    (case c4 => k_is)
    (case k4 => k_is)
    (case a5 => k_is)
    (case g5 => k_is)
    (case t5p => k_is)
    (case r5 => k_is)
    (case l5 => k_is)
    (case c5 => k_is)
    (case k5 => k_is)
    (case a6 => k_is)
    (case i6 => k_is)
    (case l6 => k_is)
    (case c6 => k_is)
    (case k6 => k_is)
    (case a7 => k_is)
    (case l7 => k_is)
    (case c7 => k_is)
    (case k7 => k_is)
    (case a8 => k_is)
    (case l8 => k_is)
    (case c8 => k_is)
    (case k8 => k_is)
    (case a9 => k_is)
    (case l9 => k_is)
    (case c9 => k_is)
    (case k9 => k_is)
    (case a10 => k_is)
    (case l10 => k_is)
    (case c10 => k_is)
    (case k10 => k_is)
    (case a11 => k_is)
    (case l11 => k_is)
    (case c11 => k_is)
    (case k11 => k_is)
    (case a12 => k_is)
    (case i12 => k_is)
    (case l12 => k_is)
    (case c12 => k_is)
    (case k12 => k_is)
    (case a13 => k_is)
    (case l13 => k_is)
    (case c13 => k_is)
    (case k13 => k_is)
    (case a14 => k_is)
    (case i14 => k_is)
    (case l14 => k_is)
    (case c14 => k_is)
    (case k14 => k_is)
    (case a15 => k_is)
    (case i15 => k_is)
    (case l15 => k_is)
    (case c15 => k_is)
    (case k15 => k_is)
    (case a16 => k_is)
    (case l16 => k_is)
    (case c16 => k_is)
    (case k16 => k_is)
    (case a17 => k_is)
    (case i17 => k_is)
    (case l17 => k_is)
    (case c17 => k_is)
    (case k17 => k_is)
    (case a18 => k_is)
    (case l18 => k_is)
    (case c18 => k_is)
    (case k18 => k_is)
    (case a19 => k_is)
    (case l19 => k_is)
    (case c19 => k_is)
    (case k19 => k_is)
    (case z_range => k_is)
    (case z_len => k_is)
    (case z_isinstance => k_is)
    (case z_str => k_is)
    (case z_int => k_is)
    (case z_bool => k_is)
    (case z_tuple => k_is)
    (case z_list => k_is)
    (case z_max => k_is)
    (case z_zip => k_is)
    (case q_PERFORMED => k_is)
    (case q_TORN => k_is)
