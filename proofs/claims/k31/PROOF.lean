import PyProof.Rows.All
import HandS.List
import HandS.Words
import HandS.Comp
import HandS.Ends
import PyProof.ReprRoads
import HandS.ForMost
import HandS.Strs
import HandS.TupLe
import HandS.SortRule
import HandS.IsInst
import HandS.More
import PyProof.TypeEq
import PyProof.ReprLen
import PyProof.Rows.RuleB_pow
import HandS.Iter
import HandS.RaiseMore
import HandS.Nested
import HandS.ExcInit
import HandS.ExcIs
import HandS.ExcField
import HandS.ExcValue
import HandS.ClsMeth
import HandS.FStr
import KE.KSuper
import KE.KExcSuper
import KE.KExcIs
import KE.IntBitsLaws
import PySem.Challenge.RW_crosshitch_k31_errors_made
set_option Elab.async false
set_option linter.all false
set_option maxRecDepth 100000
set_option maxHeartbeats 4000000
namespace Vf
open PySem PySem.Spec PyProof.Rows L2

/-! ### promises that know that no repr is under way -/
structure FnG (P : Program) (w : World) (K : PySem.W.Frag) (mg : Str → Option Value) (base : Heap) (CX : CXT) (k : Nat) (f : Addr) (fd : FuncData) (ps : List Str) (sp : Sp) : Prop where
  arity : ∀ vs H Q E, sp vs H Q E → vs.length = ps.length
  go : ∀ (A : Around) (outer : List Env) (s : Shared) (H : Hp) (args : Args) (us : List Value) (vs : List V) (Q : VK) (E : XK),
    Room k A → A.guards = some [] → Env0 P w K mg base A outer s H → BindsTo s fd args (ps.zip us) → Vals vs us → sp vs H Q E → codeAny (model P w) A (.call (.ref f) args) (CR CX outer P w H s Q E) s
section
variable {P : Program} {w : World} {K : PySem.W.Frag} {mg : Str → Option Value} {base : Heap} {CX : CXT} {k : Nat} {f : Addr} {fd : FuncData} {ps : List Str} {sp : Sp}
theorem FnG.of (F : FnOk P w K mg base CX k f fd ps sp) : FnG P w K mg base CX k f fd ps sp :=
  ⟨F.len, fun A o s H as us vs Q E r _ e b v q => F.run A o s H as us vs Q E r e b v q⟩
theorem FnG.mono {j : Nat} (F : FnG P w K mg base CX j f fd ps sp) (h : j ≤ k) : FnG P w K mg base CX k f fd ps sp :=
  ⟨F.arity, fun A o s H as us vs Q E r => F.go A o s H as us vs Q E (r.mono h)⟩

/-- how a body's flow ends a call -/
theorem ends_call {N : List Str} {qual : Str} {sc : Scope} {cdv : Value} {A : Around} {outer : List Env} {s s' : Shared} {H : Hp} {Q : VK} {E : XK} {fl : Flow}
    (h : SP (cxOf CX P w K mg base N qual sc f cdv A outer s H E) [] { nx := fun _ H' => Q .non H', rt := Q } fl s') : CE outer P w H s Q (match fl with | .ret v => v | _ => .none) s' := by
  match fl, h with
  | .ret u, ⟨v, _, H', J, rv, q⟩ => exact ⟨v, H', J.os, J.bare, J.base, J.hok, rv, q⟩
  | .next, ⟨_, H', J, q⟩ => exact ⟨.non, H', J.os, J.bare, J.base, J.hok, rfl, q⟩
  | .brk, ⟨_, _, _, q⟩ => exact q.elim
  | .cont, ⟨_, _, _, q⟩ => exact q.elim

theorem okG {x qual : Str} {st : Stmt} {N : List Str} {sp : Sp} (F : Fun K x qual st f fd) (S : FnScope N ps (defScope st)) (ar : ∀ vs H Q E, sp vs H Q E → vs.length = ps.length)
    (hb : ∀ (cdv : Value) (A : Around) (outer : List Env) (s : Shared) (H : Hp) (vs : List V) (Q : VK) (E : XK), Room k (A.deeper (envOfC qual (defScope st) s.heap.objs.size f cdv)) → A.guards = some [] → sp vs H Q E →
      ∃ t, PSs (cxOf CX P w K mg base N qual (defScope st) f cdv A outer s H E) (defBody st) t ∧ t { nx := fun _ H' => Q .non H', rt := Q } (start N vs) H) : FnG P w K mg base CX (k + 1) f fd ps sp := by
  obtain ⟨_, _, _, _, _, _, cdv, _, _, e, lk, hcd⟩ := F.ex
  subst e
  refine ⟨ar, fun A outer s H args us vs Q E hr hg e0 bd r q0 => ?_⟩
  have kept : ∀ b o, base.get? b = some o → s.heap.get? b = some o := fun b o z => (e0.bs b o z).1
  have inK := e0.mod.kin.keeps kept
  refine codeAny_call_function hr.depth (inK _ _ lk) rfl S.co S.gen rfl (PySem.W.codeRec_of inK hcd) (bd _ _ _ _ ?_)
  refine wpAny_newFunctionEnv_cells S.kind (fun y hy => ?_) fun env ee s1 x1 => ?_
  · rcases S.par y.1 (List.of_mem_zip (show (y.1, y.2) ∈ ps.zip us from hy)).1 with z | z
    · exact Or.inl z
    · exact Or.inr ⟨z, PySem.W.cellsFrom_some _ _ _ (Or.inl z)⟩
  · subst ee
    refine ⟨(e0.mod.nolimit.keeps kept).keeps x1.toInCall.keep, codeAny_func ?_⟩
    obtain ⟨t, T, q⟩ := hb cdv A outer s H vs Q E (hr.deeper _) hg q0
    refine wpAny_mono (T.run [] s1 _ H _ (inv_start S hr.hd e0 (ar _ _ _ _ q0) r x1) q) (fun fl s' z => ?_) fun _ _ z => z
    have z' := ends_call z
    cases fl <;> exact z'
end
theorem okG0 {P : Program} {w : World} {K : PySem.W.Frag} {mg : Str → Option Value} {base : Heap} {k : Nat} {f : Addr} {fd : FuncData} {ps : List Str} {sp : Sp} {x qual : Str} {st : Stmt} {N : List Str} (F : Fun K x qual st f fd) (S : FnScope N ps (defScope st)) (ar : ∀ vs H Q E, sp vs H Q E → vs.length = ps.length)
    (hb : ∀ (cdv : Value) (A : Around) (outer : List Env) (s : Shared) (H : Hp) (vs : List V) (Q : VK) (E : XK), Room k (A.deeper (envOfC qual (defScope st) s.heap.objs.size f cdv)) → A.guards = some [] → sp vs H Q E →
      ∃ t, PSs (cxOf CX0 P w K mg base N qual (defScope st) f cdv A outer s H E).nox (defBody st) t ∧ t { nx := fun _ H' => Q .non H', rt := Q } (start N vs) H) : FnG P w K mg base CX0 (k + 1) f fd ps sp :=
  okG F S ar fun cdv A outer s H vs Q E hr hg q0 => let ⟨t, h, q⟩ := hb cdv A outer s H vs Q E hr hg q0; ⟨t, h.nox, q⟩

section
variable {X : Cx} {CX : CXT} {k : Nat} {f : Addr} {fd : FuncData} {ps : List Str} {sp : Sp} {dvs : List V} {ds : List Value} {E : XK} {x : Str} {p pos : Pos} {e : Expr} {es : List Expr} {t : TA}
/-- a call of such a def -/
theorem pe_callG (F : FnG X.prog X.w X.K X.mg X.base CX k f fd ps sp) (hr : Room k X.A) (hgd : X.A.guards = some []) (hg : Gl X x) (hm : X.mg x = some (.ref f)) (hk : PySem.W.keepIn X.K (.ref f) = true) (hb : Binds X.K fd ps ds) (hd : Vals dvs ds) (hx : Passes CX X E)
    (ha : PA X (e :: es) t) (hdb : (x == ("__debug__" : Str)) = false := by decide) (he : starEach (e :: es) X.env = (false, eval e X.env) :: starEach es X.env := by rfl) (hpl : (backTo pos (starEach es X.env)).any (·.1) = false := by rfl) : PE X (.Call (.Name x p) (e :: es) [] pos) (tCall sp dvs E t) := by
  constructor
  intro pins s σ H Q I h
  refine wpAny_Call_Name_kw (ld_glob I hg hm (PySem.W.callWith_K (h₀ := X.base) I.ok.mod.kin hk (thn (ha.run pos pins s σ H _ I h) ?_) he hpl) hdb)
  rintro us s1 ⟨vs, H1, I1, r, q⟩
  have r2 := r.append hd
  refine ⟨I1.kIn, wpAny_call (codeAny_mono (F.go X.A X.stack s1 H1 ⟨us, []⟩ (us ++ ds) (vs ++ dvs) Q E hr hgd I1.env0 (hb s1 us I1.kIn (r2.length.symm.trans (F.arity _ _ _ _ q))) r2 q) ?_)⟩
  intro res s' z
  match res, z with
  | .error ex, z => exact hx pins σ H1 s1 ex s' I1 z
  | .ok (.ret u), z => exact I1.after z
  | .ok .next, z => exact z.elim
  | .ok .brk, z => exact z.elim
  | .ok .cont, z => exact z.elim
end

/-! ### the end -/
/-- the heap in which the script alone is known -/
def oneH (K : PySem.W.Frag) (a : Addr) (o : Obj) (xs : List V) : Hp := fun b => if b = a ∧ K.lookup a = none then some (.frz o (.lst xs)) else none
theorem oneH_some {K : PySem.W.Frag} {a b : Addr} {o : Obj} {xs : List V} {u : HO} (h : oneH K a o xs b = some u) : b = a ∧ K.lookup a = none ∧ u = .frz o (.lst xs) := by
  unfold oneH at h
  by_cases c : b = a ∧ K.lookup a = none
  · rw [if_pos c] at h
    exact ⟨c.1, c.2, (Option.some.inj h).symm⟩
  · rw [if_neg c] at h
    cases h
theorem walk_ofG {l : PySem.W.OpenLaw} {n k : Nat} {q : Program} {loose : List Str} {XP : (Str → Option Value) → Heap → Prop} {YP : World → Heap → Prop} {d : DefRec} {K : Params → PySem.W.Frag} {sp : World → Sp} {x : Str}
    (hm : l.most = some n)
    (hm2 : n ≤ sizeLine) (hdef : d.params.defaults = [])
    (hr : Room k callerA)
    (hY : ∀ (w : World) (hp : Heap), YP w hp → (K w.params).In hp)
    (F : ∀ (w : World) (mg : Str → Option Value) (fa : Addr) (hp : Heap),
      (K w.params).In hp → hp.Ns mainGlobals mg → mg d.name = some (.ref fa) →
      ∃ fd : FuncData, (∀ (s : Shared) (u : Value), BindsTo s fd ⟨[u], []⟩ [(x, u)]) ∧ ∀ base : Heap, (K w.params).In base → base.Ns mainGlobals mg → FnG l.prog w (K w.params) mg base CX0 k fa fd [x] (sp w))
    (hsp : ∀ (w : World) (H : Hp) (a : Addr) (ns : List Int), ns.length ≤ n → SqL (K w.params) H a (ns.map V.int) → sp w [.ref a] H (fun v _ => v = .bl true) E0) :
    PySem.W.WalkO q loose XP YP l.row.toRowW d []
      (fun g us => PySem.call g us) := by
  refine Att.attach_call hm hdef fun w s₀ s₁ mg mb fa o pm cd doc a vs ns G Y ho hd hcd hmg hobj hints hlen hgen => ?_
  have inK := hY w _ Y
  obtain ⟨fd, hbind, hF⟩ := F w mg fa _ inK G.T.g hmg
  have rv := vals_ints hints
  have sz : ns.length ≤ sizeLine := Nat.le_trans hlen hm2
  generalize hH : oneH (K w.params) a { cls := .type "list", data := .seq vs.toArray } (ns.map V.int) = H
  have only : ∀ {b : Addr} {u : HO}, H b = some u → b = a ∧ (K w.params).lookup a = none ∧ u = .frz { cls := .type "list", data := .seq vs.toArray } (.lst (ns.map V.int)) := fun {b u} z => oneH_some (hH ▸ z)
  have hS : SqL (K w.params) H a (ns.map V.int) := by
    cases c : (K w.params).lookup a with
    | none =>
      refine Or.inl (Or.inr ⟨{ cls := .type "list", data := .seq vs.toArray }, ?_⟩)
      rw [← hH]
      exact if_pos ⟨rfl, c⟩
    | some ob =>
      have e := (inK a ob c).symm.trans hobj
      cases e
      exact Or.inr ⟨_, vs.toArray, _, c, rfl, rfl, rfl, (by rw [List.size_toArray, hints.length]; exact sz), by simpa using rv⟩
  have hok : HOk l.prog w H s₁.heap := fun b u z => by
    obtain ⟨rfl, _, rfl⟩ := only z
    exact ⟨hobj, by rw [List.length_map]; exact sz, vs, _, rv, hobj⟩
  have free : ∀ {b : Addr} {ob : Obj}, s₁.heap.get? b = some ob → (b ≠ a ∨ (K w.params).lookup a ≠ none) → (hidT s₁.heap H).get? b = some ob := fun {b ob} e ne => hidT_get e (by
    cases z : H b with
    | none => rfl
    | some u =>
      obtain ⟨e1, e2, _⟩ := only z
      exact ne.elim (fun y => absurd e1 y) fun y => absurd e2 y)
  have dictFree : ∀ {b : Addr} {m : Str → Option Value}, s₁.heap.Ns b m → (hidT s₁.heap H).Ns b m := fun {b m} ⟨ob, es, ep, e, dt, r⟩ => ⟨ob, es, ep, free e (.inl fun z => by
    subst z
    rw [hobj] at e
    cases e
    exact nomatch (show Data.seq vs.toArray _ = Data.dict es ep from dt)), dt, r⟩
  have kb : (K w.params).In (hidT s₁.heap H) := fun b ob e => free (inK b ob e) (by
    by_cases z : b = a
    · subst z
      exact .inr (by rw [e]; exact fun y => nomatch y)
    · exact .inl z)
  obtain ⟨mc, hm1, hm2⟩ := G.T.nolimit
  have env : Env0 l.prog w (K w.params) mg (hidT s₁.heap H) callerA [] s₁ H :=
    ⟨rfl, ⟨kb, dictFree G.T.g, ⟨mb, dictFree G.T.b, G.T.builtins⟩, ⟨mc, dictFree hm1, hm2⟩⟩, fun _ _ e => of_hidT e, Nat.le_of_eq (hidT_size _ _), trivial, fun b z => absurd (show b ∈ ([] : List Addr) from z) (by simp), hok, .of_eq hgen⟩
  refine codeAny_mono ((hF _ kb (dictFree G.T.g)).go callerA [] s₁ H ⟨[.ref a], []⟩ [.ref a] [.ref a] _ _ hr rfl env (hbind s₁ (.ref a)) (.cons rfl .nil) (hsp w H a ns hlen hS)) fun res s' z => ?_
  match res, z with
  | .error _, z => exact z.elim
  | .ok .next, z => exact z.elim
  | .ok .brk, z => exact z.elim
  | .ok .cont, z => exact z.elim
  | .ok (.ret u), ⟨v, H', os, bare, un, hok', rel, q⟩ =>
    have q2 : v = .bl true := q
    subst q2
    have eu : u = Value.bool true := rel
    subst eu
    refine ⟨rfl, OldK.of_keep fun b ob e => ?_, os, bare⟩
    cases c : H b with
    | none => exact un.keep b ob e c (fun z => nomatch (show b ∈ ([] : List Addr) from z)) (fun z => nomatch z)
    | some u =>
      obtain ⟨rfl, _, rfl⟩ := only c
      have e2 := (hok' b _ (un.frzs b _ _ c)).1
      rw [hobj] at e
      cases e
      exact e2
end Vf

namespace Vf
open PySem PySem.Spec PyProof.Rows L2

/-! ### defs with all that a call of them needs -/
structure Def (P : Program) (w : World) (K : PySem.W.Frag) (mg : Str → Option Value) (base : Heap) (k : Nat) (x : Str) (ps : List Str) (sp : Sp) where
  f : Addr
  fd : FuncData
  ok : FnOk P w K mg base CX0 k f fd ps sp
  kp : PySem.W.keepIn K (.ref f) = true
  b : Binds K fd ps []
  g : mg x = some (.ref f)
structure DefG (P : Program) (w : World) (K : PySem.W.Frag) (mg : Str → Option Value) (base : Heap) (k : Nat) (x : Str) (ps : List Str) (sp : Sp) where
  f : Addr
  fd : FuncData
  ok : FnG P w K mg base CX0 k f fd ps sp
  kp : PySem.W.keepIn K (.ref f) = true
  b : Binds K fd ps []
  g : mg x = some (.ref f)
section
variable {X : Cx} {k : Nat} {ps : List Str} {sp : Sp} {x : Str} {p pos : Pos} {e : Expr} {es : List Expr} {t : TA}
theorem pe_def (D : Def X.prog X.w X.K X.mg X.base k x ps sp) (hr : Room k X.A) (ha : PA X (e :: es) t) (hg : Gl X x := by rfl) (hdb : (x == ("__debug__" : Str)) = false := by decide)
    (he : starEach (e :: es) X.env = (false, eval e X.env) :: starEach es X.env := by rfl) (hpl : (backTo pos (starEach es X.env)).any (·.1) = false := by rfl) : PE X (.Call (.Name x p) (e :: es) [] pos) (tCall sp [] E0 t) :=
  pe_call D.ok hr hg D.g D.kp D.b .nil pass0 ha hdb he hpl
theorem pe_defG (D : DefG X.prog X.w X.K X.mg X.base k x ps sp) (hr : Room k X.A) (hgd : X.A.guards = some []) (ha : PA X (e :: es) t) (hg : Gl X x := by rfl) (hdb : (x == ("__debug__" : Str)) = false := by decide)
    (he : starEach (e :: es) X.env = (false, eval e X.env) :: starEach es X.env := by rfl) (hpl : (backTo pos (starEach es X.env)).any (·.1) = false := by rfl) : PE X (.Call (.Name x p) (e :: es) [] pos) (tCall sp [] E0 t) :=
  pe_callG D.ok hr hgd hg D.g D.kp D.b .nil pass0 ha hdb he hpl
end

/-! ### rules of our own -/
section
variable {X : Cx}
theorem op_powW : OpR X (binaryOp .Pow) (rI (fun i j => 0 ≤ j ∧ (Builtin.Int.intBits i : Int) * j ≤ 2 ^ 27) fun i j => .int (i ^ j.toNat)) := opI fun _ _ _ _ _ _ _ hc q => pow_int hc.1 hc.2 q
/-- list + list, also of lists that are only read -/
def rCatS (K : PySem.W.Frag) : R2 := fun x y H Q => ∃ l b xs zs, x = .ref l ∧ y = .ref b ∧ SqL K H l xs ∧ SqL K H b zs ∧ xs.length + zs.length ≤ sizeLine ∧ ∀ p, H p = none → Q (.ref p) (upd H p (.lst (xs ++ zs)))
theorem op_catS : OpR X (binaryOp .Add) (rCatS X.K) := by
  intro pins s σ H x y v u Q I rx ry h
  obtain ⟨l, b, xs, zs, rfl, rfl, h1, h2, hz, q⟩ := h
  cases rx
  cases ry
  obtain ⟨its, r1, ⟨⟨c1, d1, t1, s1⟩, n1, e1, rfl, rfl, rfl⟩, _⟩ := I.list h1
  obtain ⟨its2, r2, ⟨⟨c2, d2, t2, s2⟩, n2, e2, rfl, rfl, rfl⟩, _⟩ := I.list h2
  have hsz : its.toArray.size + its2.toArray.size ≤ sizeLine := by rw [List.size_toArray, List.size_toArray, ← r1.length, ← r2.length]; exact hz
  refine concat_meets ⟨_, e1, rfl⟩ ⟨_, e2, rfl⟩ noFill_list_add seq_list_add PySem.F.slot_list_add PySem.F.entry_list_add (PySem.F.args_list_add_2 _ _) (list_addW l b its.toArray its2.toArray n1 n2 none none s1 s2 hsz) ⟨e1, e2, ?_⟩
  have ea : its.toArray ++ its2.toArray = (its ++ its2).toArray := by simp
  rw [ea]
  exact ⟨.ref _, _, I.lnew (t' := s.toks) (r1.append r2) (by rw [List.length_append]; omega), rfl, q _ I.fresh⟩
/-- repr of data, where none is under way -/
theorem call_reprD {k : Nat} (hgd : X.A.guards = some []) (hr : Room k X.A) : CallR X (.builtin "repr") (fun xs H Q => ∃ (a : Addr) (d : PyData), xs = [.ref a] ∧ Dp X.K H (.ref a) d ∧ d.showable = true ∧ d.hasDict = false ∧ d.depth ≤ 60 ∧ d.shown.length ≤ sizeLine ∧ Q (.str d.shown) H) := by
  intro pins s σ H xs us Q I r h
  obtain ⟨a, d, rfl, hd, hs, hn, hdep, hz, q⟩ := h
  obtain ⟨u, rfl, ru⟩ := vals1 r
  obtain ⟨as, rd⟩ := Dp.reads I d _ _ hd ru
  cases ru
  refine repr_of_reads' rd hs (fun z => by rw [hn] at z; cases z) hgd (by have := hr.units; omega) (fun _ _ e => e) (fun h' u tk hk => ?_) hz
  exact ⟨.str _, H, I.kept (t' := tk) hk, ⟨_, rfl⟩, q⟩
end

/-! ### types that differ -/
section
variable {prog : Program} {w : World} {A : Around} {E : Value → Shared → Prop} {s : Shared}
theorem slot_type_ne : Slot "type" (cmpInfo .NotEq).2.1 "object.__ne__" :=
  .of (owner := "object") (n := "__ne__") (by rw [typeLookup_type, builtinLookup_eq_fast]; kernel_rfl) (by decide +kernel) (by decide +kernel) (by decide +kernel) (by first | exact .inl (by decide +kernel) | exact .inr (by decide +kernel)) (by rw [isSubtype_type]; kernel_rfl)
theorem objNe_types {a b : Value} {r : Value} {Q : Fin → Shared → Prop} (ha : s.TypeIs a "type") (hv : [a, b].any Value.onHeap = false) (g : Gives (Builtin.«object.__eq__» ⟨[a, b], []⟩) (.val r))
    (hq : (r = .notImplemented ∧ Q (.done (.ret .notImplemented)) s) ∨ ∃ c : Bool, r = .bool c ∧ Q (.done (.ret (.bool (!c)))) s) :
    wpAny (model prog w) A (Builtin.«object.__ne__» ⟨[a, b], []⟩) Q E s := by
  unfold Builtin.«object.__ne__»
  refine wpAny_bind (wpAny_of_eq (a := (a, [b])) (by first | rfl | kernel_rfl) ?_)
  refine wpAny_bind (wpAny_cRoomFor_or (.inl hv) ?_)
  refine wpAny_bind (wpAny_callSpecialIfBound?_slot ha TypeEq.slot_type_eq (PySem.call_gives TypeEq.slot_type_eq ha F.entry_object_eq (F.args_object_eq_2 _ _) g ?_))
  rcases hq with ⟨rfl, hq⟩ | ⟨c, rfl, hq⟩
  · exact wpAny_pure hq
  · refine wpAny_bind (wpAny_truthy_bool ?_)
    exact wpAny_pure hq
theorem ne_type_same {T : String} {Q : Value → Shared → Prop} (hT : ∀ s' : Shared, s'.TypeIs (.type T) "type") (h : Q (.bool false) s) : wpAny (model prog w) A (compareOp .NotEq (.type T) (.type T)) Q E s := by
  show wpAny _ A (richCompare .NotEq _ _) Q E s
  refine wpAny_richCompare_same (T := "type") (hT s) (hT s) slot_type_ne (wpAny_call_entry slot_type_ne (hT s) F.entry_object_ne ?_ (F.args_object_ne_2 _ _))
  exact objNe_types (hT s) rfl (TypeEq.object_eq_same rfl (by simp)) (.inr ⟨true, rfl, .bool false, rfl, (by intro e; cases e), h⟩)
theorem ne_type_other {T U : String} {Q : Value → Shared → Prop} (hT : ∀ s' : Shared, s'.TypeIs (.type T) "type") (hU : ∀ s' : Shared, s'.TypeIs (.type U) "type") (ne : T ≠ U) (h : Q (.bool true) s) :
    wpAny (model prog w) A (compareOp .NotEq (.type T) (.type U)) Q E s := by
  have n1 : (Value.type T == Value.type U) = false := by rw [Bool.eq_false_iff]; intro e; rw [beq_iff_eq] at e; exact ne (Value.type.inj e)
  have n2 : (Value.type U == Value.type T) = false := by rw [Bool.eq_false_iff]; intro e; rw [beq_iff_eq] at e; exact ne (Value.type.inj e).symm
  show wpAny _ A (richCompare .NotEq _ _) Q E s
  have step : ∀ {a b : Value} {s : Shared} {Q' : Value → Shared → Prop}, s.TypeIs a "type" → [a, b].any Value.onHeap = false → Gives (Builtin.«object.__eq__» ⟨[a, b], []⟩) (.val .notImplemented) → Q' .notImplemented s → wpAny (model prog w) A (call (.builtin "object.__ne__") [a, b]) Q' E s :=
    fun {a b s Q'} ha hv g q => wpAny_call_entry slot_type_ne ha F.entry_object_ne (objNe_types ha hv g (.inl ⟨rfl, _, rfl, q⟩)) (F.args_object_ne_2 _ _)
  have h1 := slot_type_ne
  have h2 : Slot "type" (cmpInfo .NotEq).2.2 "object.__ne__" := slot_type_ne
  rcases hc : cmpInfo CmpOp.NotEq with ⟨sg, fw, bw⟩
  rw [hc] at h1 h2
  simp only [richCompare, hc, (hT s).oneThing_none]
  try (with_reducible refine wpAny_holding ?_)
  refine wpAny_bind (wpAny_cRoomFor_or (.inl rfl) ?_)
  refine wpAny_bind (wpAny_typeOf (hT s) (wpAny_bind (wpAny_typeOf (hU s) ?_)))
  simp only [if_true, if_false, Bool.not_false, bne_self_eq_false, Bool.false_eq_true, pure_bind]
  refine wpAny_bind (m := tryCompare (.type T) _ (.type U)) (wpAny_tryCompare_declines (hT s) h1 (step (hT s) rfl (TypeEq.object_eq_other rfl n1) ⟨rfl, ?_⟩))
  refine wpAny_bind (m := tryCompare (.type U) _ (.type T)) (wpAny_tryCompare_declines (hU s) h2 (step (hU s) rfl (TypeEq.object_eq_other rfl n2) ⟨rfl, ?_⟩))
  refine wpAny_bind (wpAny_rule (wpAny_bind (wpAny_of_eq (a := false) (by rw [isSame_plain rfl, n1]) (wpAny_pure h))))
end
/-- the built-in classes that type(x) of data gives -/
inductive TyN : String → Prop
  | non : TyN "NoneType" | bl : TyN "bool" | int : TyN "int" | str : TyN "str" | lst : TyN "list" | tup : TyN "tuple" | dct : TyN "dict"
theorem TyN.is {T : String} (h : TyN T) : ∀ s' : Shared, s'.TypeIs (.type T) "type" := by
  cases h
  · exact TypeEq.meta_NoneType
  · exact TypeEq.meta_bool
  · exact TypeEq.meta_int
  · exact TypeEq.meta_str
  · exact TypeEq.meta_list
  · exact TypeEq.meta_tuple
  · exact TypeEq.meta_dict
theorem op_neTy {X : Cx} : OpR X (compareOp .NotEq) (fun x y H Q => ∃ m n, x = .ty m ∧ y = .ty n ∧ TyN m ∧ TyN n ∧ Q (.bl (!decide (m = n))) H) := by
  intro pins s σ H x y v u Q I rx ry h
  obtain ⟨m, n, rfl, rfl, hm, hn, q⟩ := h
  cases rx
  cases ry
  by_cases e : m = n
  · subst e
    exact ne_type_same hm.is ⟨.bl false, H, I, rfl, by simpa using q⟩
  · exact ne_type_other hm.is hn.is e ⟨.bl true, H, I, rfl, by simpa [e] using q⟩
end Vf
namespace Vf
open PySem PySem.Spec PyProof.Rows L2
section
variable {X : Cx} {K : PySem.W.Frag}
theorem ixL (h : X.K = K := by rfl) : IxR X (rIxL K) := h ▸ ix_list
theorem ixT (h : X.K = K := by rfl) : IxR X (rIxT K) := h ▸ ix_tup
def rLen (K : PySem.W.Frag) : List V → Hp → VK → Prop := fun xs H Q => ∃ p ys, xs = [.ref p] ∧ (SqL K H p ys ∨ SqT K H p ys) ∧ Q (.int ys.length) H
theorem lenK (h : X.K = K := by rfl) : CallR X (.builtin "len") (rLen K) := by subst h; exact call_len_seq
def rListOf (K : PySem.W.Frag) : List V → Hp → VK → Prop := fun xs H Q => ∃ p ys, xs = [.ref p] ∧ (SqL K H p ys ∨ SqT K H p ys) ∧ ∀ l, H l = none → Q (.ref l) (upd H l (.lst ys))
theorem listK (h : X.K = K := by rfl) : CallR X (.type "list") (rListOf K) := by subst h; exact call_list_of
theorem sortedK (h : X.K = K := by rfl) : CallR X (.builtin "sorted") (rSortedPO K) := by subst h; exact cr_sortedPO
theorem isiK (h : X.K = K := by rfl) : CallR X (.builtin "isinstance") (rIsi K) := by subst h; exact call_isi
theorem allK (hc : X.calm = true) (h : X.K = K := by rfl) : CallR X (.builtin "all") (rAll K) := by subst h; exact cr_all hc
theorem anyK (hc : X.calm = true) (h : X.K = K := by rfl) : CallR X (.builtin "any") (rAny K) := by subst h; exact cr_any hc
theorem sumK (hc : X.calm = true) (h : X.K = K := by rfl) : CallR X (.builtin "sum") (rSum K) := by subst h; exact cr_sum hc
theorem minK (hc : X.calm = true) (h : X.K = K := by rfl) : CallR X (.builtin "min") (rMin K) := by subst h; exact cr_min hc
theorem maxK (hc : X.calm = true) (h : X.K = K := by rfl) : CallR X (.builtin "max") (rMax K) := by subst h; exact cr_max hc
theorem eqD (hu : X.A.units + 64 < cLine) (h : X.K = K := by rfl) : OpR X (compareOp .Eq) (rEqD K) := by subst h; exact op_eqD hu
theorem neD (hu : X.A.units + 64 < cLine) (h : X.K = K := by rfl) : OpR X (compareOp .NotEq) (rNeD K) := by subst h; exact op_neD hu
theorem catK (h : X.K = K := by rfl) : OpR X (binaryOp .Add) (rCatS K) := by subst h; exact op_catS
theorem leTK (hu : X.A.units < cLine) (h : X.K = K := by rfl) : OpR X (compareOp .LtE) (rLeT K) := by subst h; exact op_leT hu
theorem ltTK (hu : X.A.units < cLine) (h : X.K = K := by rfl) : OpR X (compareOp .Lt) (rLtT K) := by subst h; exact op_ltT hu
theorem inSeqK (h : X.K = K := by rfl) : OpR X (compareOp .In) (rIn K false) := by subst h; exact op_in_seq
theorem notInSeqK (h : X.K = K := by rfl) : OpR X (compareOp .NotIn) (rIn K true) := by subst h; exact op_notIn_seq
def rRepr (K : PySem.W.Frag) : List V → Hp → VK → Prop := fun xs H Q => ∃ (a : Addr) (d : PyData), xs = [.ref a] ∧ Dp K H (.ref a) d ∧ d.showable = true ∧ d.hasDict = false ∧ d.depth ≤ 60 ∧ d.shown.length ≤ sizeLine ∧ Q (.str d.shown) H
theorem reprK {k : Nat} (hgd : X.A.guards = some []) (hr : Room k X.A) (h : X.K = K := by rfl) : CallR X (.builtin "repr") (rRepr K) := by subst h; exact call_reprD hgd hr
end
end Vf

namespace Vf
open PySem PySem.Spec PyProof.Rows L2
section
variable {K : PySem.W.Frag} {σ : L2.St} {H : Hp} {Q : VK} {D : Ends} {nx bk ct : L2.St → Hp → Prop} {rt : VK} {t u : TS} {te ta tb tc : TE} {g : TG} {tt t1 t2 : TT} {B : Bool → Hp → Prop} {ts tr : TA} {R : List V → Hp → Prop} {x y v : V} {i j : Int} {S : L2.St → Hp → Prop}
/-! statements -/
theorem r_seq (h : t ⟨fun σ H => u ⟨nx, rt, bk, ct⟩ σ H, rt, bk, ct⟩ σ H) : tSeq t u ⟨nx, rt, bk, ct⟩ σ H := h
theorem r_next (h : nx σ H) : tNext ⟨nx, rt, bk, ct⟩ σ H := h
theorem r_break (h : bk σ H) : tBreak ⟨nx, rt, bk, ct⟩ σ H := h
theorem r_cont (h : ct σ H) : tCont ⟨nx, rt, bk, ct⟩ σ H := h
theorem r_asg (h : te σ H fun x H1 => g x σ H1 nx) : tAsg te g ⟨nx, rt, bk, ct⟩ σ H := h
theorem r_drop (h : te σ H fun _ H1 => nx σ H1) : tDrop te ⟨nx, rt, bk, ct⟩ σ H := h
theorem r_ret (h : te σ H rt) : tRet te ⟨nx, rt, bk, ct⟩ σ H := h
theorem r_retN (h : rt .non H) : tRetN ⟨nx, rt, bk, ct⟩ σ H := h
theorem r_ifS {b : Bool → Hp → Prop} (h : tt σ H fun b H1 => if b = true then t ⟨nx, rt, bk, ct⟩ σ H1 else u ⟨nx, rt, bk, ct⟩ σ H1) : tIfS tt t u ⟨nx, rt, bk, ct⟩ σ H := h
theorem r_par {a b : Nat} (h : ts σ H fun vs H1 => ∃ v w, vs = [v, w] ∧ nx ((σ.set a (some v)).set b (some w)) H1) : tPar a b ts ⟨nx, rt, bk, ct⟩ σ H := h
theorem r_dput {td ty tv : TE} (h : tv σ H fun v H1 => td σ H1 fun x H2 => ty σ H2 fun y H3 => ∃ a H4, x = .ref a ∧ DPut H3 a y v H4 ∧ nx σ H4) : sDPut td ty tv ⟨nx, rt, bk, ct⟩ σ H := h
/-! targets -/
theorem r_gname {a : Nat} (h : S (σ.set a (some v)) H) : gName a v σ H S := h
theorem r_gnil (h : S σ H) : gNil [] σ H S := ⟨rfl, h⟩
theorem r_gcons {vs : List V} {gs : TGs} (h : g v σ H fun σ' H' => gs vs σ' H' S) : gCons g gs (v :: vs) σ H S := ⟨v, vs, rfl, h⟩
theorem r_gtup {n : Nat} {a : Addr} {xs : List V} {gs : TGs} (hs : SqT K H a xs) (hl : xs.length = n) (h : gs xs σ H S) : gTup K n gs (.ref a) σ H S := ⟨a, xs, rfl, hs, hl, h⟩
theorem r_gsub {to ti : TE} {st : TSet} (h : to σ H fun o H1 => ti σ H1 fun i H2 => st o i v H2 fun H3 => S σ H3) : gSub to ti st v σ H S := h
theorem r_setL {p : Addr} {xs : List V} {k : Int} {n : Nat} {f : Hp → Prop} (hp : H p = some (.lst xs)) (hi : ixN xs.length k = some n) (h : f (upd H p (.lst (xs.set n v)))) : rSetL (.ref p) (.int k) v H f := ⟨p, xs, k, n, rfl, rfl, hp, hi, h⟩
/-! expressions -/
theorem r_var {a : Nat} (h : ∃ v, σ[a]? = some (some v) ∧ Q v H) : tVar a σ H Q := h
theorem r_c (h : Q v H) : tC v σ H Q := h
theorem r_op {r : R2} (h : ta σ H fun x H1 => tb σ H1 fun y H2 => r x y H2 Q) : tOp r ta tb σ H Q := h
theorem r_I0 {f : Int → Int → V} (h : Q (f i j) H) : rI0 f (.int i) (.int j) H Q := ⟨i, j, rfl, rfl, h⟩
theorem r_I {f : Int → Int → V} {C : Int → Int → Prop} (hc : C i j) (h : Q (f i j) H) : rI C f (.int i) (.int j) H Q := ⟨i, j, rfl, rfl, hc, h⟩
theorem r_U {f : Int → V} (h : Q (f i) H) : rU f (.int i) H Q := ⟨i, rfl, h⟩
theorem r_un {r : V → Hp → VK → Prop} (h : ta σ H fun x H1 => r x H1 Q) : tUn r ta σ H Q := h
theorem r_eqI (h : Q (.bl (decide (i = j))) H) : rEq (.int i) (.int j) H Q := ⟨rfl, by rw [show decide (V.int i = V.int j) = decide (i = j) by rw [Bool.eq_iff_iff]; simp]; exact h⟩
theorem r_neI (h : Q (.bl (!decide (i = j))) H) : rNe (.int i) (.int j) H Q := ⟨rfl, by rw [show decide (V.int i = V.int j) = decide (i = j) by rw [Bool.eq_iff_iff]; simp]; exact h⟩
theorem r_eqS {a b : Str} (h : Q (.bl (decide (a = b))) H) : rEq (.str a) (.str b) H Q := ⟨rfl, by rw [show decide (V.str a = V.str b) = decide (a = b) by rw [Bool.eq_iff_iff]; simp]; exact h⟩
theorem r_neS {a b : Str} (h : Q (.bl (!decide (a = b))) H) : rNe (.str a) (.str b) H Q := ⟨rfl, by rw [show decide (V.str a = V.str b) = decide (a = b) by rw [Bool.eq_iff_iff]; simp]; exact h⟩
theorem r_cb {r : List V → Hp → VK → Prop} (h : ts σ H fun vs H1 => r vs H1 Q) : tCB r ts σ H Q := h
theorem r_cons (h : ta σ H fun x H1 => tr σ H1 fun xs H2 => R (x :: xs) H2) : tCons ta tr σ H R := h
theorem r_nil (h : R [] H) : tNil σ H R := h
theorem r_lst (h : ts σ H fun xs H1 => xs.length ≤ sizeLine ∧ ∀ p, H1 p = none → Q (.ref p) (upd H1 p (.lst xs))) : tLst ts σ H Q := h
theorem r_tup (h : ts σ H fun xs H1 => xs.length ≤ sizeLine ∧ ∀ p, H1 p = none → Q (.ref p) (upd H1 p (.tup xs))) : tTup ts σ H Q := h
theorem r_call {sp : Sp} {dvs : List V} {E : XK} (h : ts σ H fun vs H1 => sp (vs ++ dvs) H1 Q E) : tCall sp dvs E ts σ H Q := h
theorem r_ixL {p : Addr} {xs : List V} (hs : SqL K H p xs) (ha : atI xs i = some v) (h : Q v H) : rIxL K (.ref p) (.int i) H Q := ⟨p, xs, i, v, rfl, rfl, hs, ha, h⟩
theorem r_ixT {p : Addr} {xs : List V} (hs : SqT K H p xs) (ha : atI xs i = some v) (h : Q v H) : rIxT K (.ref p) (.int i) H Q := ⟨p, xs, i, v, rfl, rfl, hs, ha, h⟩
theorem r_test (h : te σ H fun x H' => ∃ k, x = .bl k ∧ B k H') : tTest te σ H B := h
theorem r_b (h : te σ H fun x H' => ∃ k, x = .bl k ∧ B k H') : tB te σ H B := h
theorem r_and (h : t1 σ H fun c H1 => if c = true then t2 σ H1 B else B false H1) : tAnd t1 t2 σ H B := h
theorem r_or (h : t1 σ H fun c H1 => if c = true then B true H1 else t2 σ H1 B) : tOr t1 t2 σ H B := h
theorem r_not (h : t1 σ H fun c H1 => B (!c) H1) : tNot t1 σ H B := h
theorem r_andV (h : ta σ H fun x H1 => ∃ c, x = .bl c ∧ if c = true then tb σ H1 Q else Q (.bl false) H1) : tAndV ta tb σ H Q := h
theorem r_orV (h : ta σ H fun x H1 => ∃ c, x = .bl c ∧ if c = true then Q (.bl true) H1 else tb σ H1 Q) : tOrV ta tb σ H Q := h
theorem r_notV (h : ta σ H fun x H1 => ∃ c, x = .bl c ∧ Q (.bl (!c)) H1) : tNotV ta σ H Q := h
theorem r_if (h : tt σ H fun c H1 => if c = true then ta σ H1 Q else tb σ H1 Q) : tIf tt ta tb σ H Q := h
theorem r_bl {b : Bool} (h : B b H) : ∃ k, V.bl b = .bl k ∧ B k H := ⟨b, rfl, h⟩
theorem r_blV {b : Bool} {A : Bool → Prop} (h : A b) : ∃ k, V.bl b = .bl k ∧ A k := ⟨b, rfl, h⟩
theorem r_chain {r r' : R2} (h : ta σ H fun x H1 => tb σ H1 fun y H2 => r x y H2 fun z H3 => ∃ k, z = .bl k ∧ if k = true then tc σ H3 fun w H4 => r' y w H4 Q else Q (.bl false) H3) : tChain r r' ta tb tc σ H Q := h
theorem r_sl {r : V → Option Int → Option Int → Hp → VK → Prop} {tl th : TO} (h : te σ H fun x H1 => tl σ H1 fun l H2 => th σ H2 fun u H3 => r x l u H3 Q) : tSl r te tl th σ H Q := h
theorem r_noPart {O : Option Int → Hp → Prop} (h : O none H) : tNoPart σ H O := h
theorem r_part {O : Option Int → Hp → Prop} (h : te σ H fun x H1 => ∃ i, x = .int i ∧ O (some i) H1) : tPart te σ H O := h
theorem r_bm {T : String} {r : V → List V → Hp → VK → Prop} (h : te σ H fun x H1 => tyV K T x H1 ∧ ts σ H1 fun xs H2 => r x xs H2 Q) : tBM K T r te ts σ H Q := h
theorem r_bm0 {T : String} {r : V → List V → Hp → VK → Prop} (h : te σ H fun x H1 => tyV K T x H1 ∧ r x [] H1 Q) : tBM0 K T r te σ H Q := h
theorem r_dget {td ty : TE} (h : td σ H fun x H1 => ty σ H1 fun y H2 => ∃ a v, x = .ref a ∧ DGet H2 a y (some v) ∧ Q v H2) : tDGet td ty σ H Q := h
theorem r_din {td ty : TE} (h : ty σ H fun y H1 => td σ H1 fun x H2 => ∃ a o, x = .ref a ∧ DGet H2 a y o ∧ Q (.bl o.isSome) H2) : tDIn ty td σ H Q := h
theorem r_dnotin {td ty : TE} (h : ty σ H fun y H1 => td σ H1 fun x H2 => ∃ a o, x = .ref a ∧ DGet H2 a y o ∧ Q (.bl (!o.isSome)) H2) : tDNotIn ty td σ H Q := h
theorem r_dget1 {td ty : TE} (h : td σ H fun x H1 => ∃ a, x = .ref a ∧ IsD H1 a ∧ ty σ H1 fun y H2 => ∃ o, DGet H2 a y o ∧ Q (o.getD .non) H2) : tDGet1 td ty σ H Q := h
theorem r_dget2 {td ty tx : TE} (h : td σ H fun x H1 => ∃ a, x = .ref a ∧ IsD H1 a ∧ ty σ H1 fun y H2 => tx σ H2 fun z H3 => ∃ o, DGet H3 a y o ∧ Q (o.getD z) H3) : tDGet2 td ty tx σ H Q := h
theorem r_dnew (h : ∀ p, H p = none → Q (.ref p) (upd H p (.dK []))) : tDNewK σ H Q := h
theorem r_rng1 {A : It → Hp → Prop} (h : ts σ H fun vs H1 => ∃ j : Int, vs = [.int j] ∧ -(2 ^ 62) ≤ j ∧ j < 2 ^ 62 ∧ A (Itr 0 j.toNat) H1) : iRng1 ts σ H A := h
theorem r_rng2 {A : It → Hp → Prop} (h : ts σ H fun vs H1 => ∃ i j : Int, vs = [.int i, .int j] ∧ (-(2 ^ 62) ≤ i ∧ i < 2 ^ 62 ∧ -(2 ^ 62) ≤ j ∧ j < 2 ^ 62) ∧ A (Itr i (j - i).toNat) H1) : iRng2 ts σ H A := h
theorem r_ilist {A : It → Hp → Prop} {tl : TE} (h : tl σ H fun x H1 => ∃ a, x = .ref a ∧ (∃ xs, SqL K H1 a xs) ∧ A (Itl K a) H1) : iList K tl σ H A := h
theorem r_yes (h : B true H) : tYes σ H B := h
theorem ifT {c A B : Prop} [Decidable c] (hc : c) (h : A) : if c then A else B := by rw [if_pos hc]; exact h
theorem ifF {c A B : Prop} [Decidable c] (hc : ¬ c) (h : B) : if c then A else B := by rw [if_neg hc]; exact h
theorem ifD {c A B : Prop} [Decidable c] (hc : c) (h : A) : if decide c = true then A else B := by rw [if_pos (decide_eq_true hc)]; exact h
theorem ifDn {c A B : Prop} [Decidable c] (hc : ¬ c) (h : B) : if decide c = true then A else B := by rw [if_neg (by simpa using hc)]; exact h
theorem ifNT {A B : Prop} (h : B) : if (!true) = true then A else B := by show if false = true then A else B; rw [if_neg Bool.false_ne_true]; exact h
theorem ifNF {A B : Prop} (h : A) : if (!false) = true then A else B := by show if true = true then A else B; rw [if_pos rfl]; exact h
theorem ifN {c A B : Prop} [Decidable c] (hc : ¬ c) (h : A) : if (!decide c) = true then A else B := by rw [if_pos (by simpa using hc)]; exact h
theorem ifNn {c A B : Prop} [Decidable c] (hc : c) (h : B) : if (!decide c) = true then A else B := by rw [if_neg (by simpa using hc)]; exact h
end
end Vf

namespace Vf
open PySem PySem.Spec PyProof.Rows L2

/-! ### loops over data -/
theorem pair_get {α β : Type} {F : α → β → Prop} : ∀ {xs : List α} {L : List β}, Paired F xs L → ∀ {i : Nat} {x : α}, xs[i]? = some x → ∃ p, L[i]? = some p ∧ F x p
  | _, _, .nil, i, x, h => by simp at h
  | _, _, .cons r t, 0, x, h => by
    have e := Option.some.inj h
    exact ⟨_, rfl, e ▸ r⟩
  | _, _, .cons r t, i + 1, x, h => by
    obtain ⟨p, h1, h2⟩ := pair_get t (i := i) (x := x) (by simpa using h)
    exact ⟨p, by simpa using h1, h2⟩
theorem pair_get2 {α β : Type} {F : α → β → Prop} : ∀ {xs : List α} {L : List β}, Paired F xs L → ∀ {i : Nat} {p : β}, L[i]? = some p → ∃ x, xs[i]? = some x ∧ F x p
  | _, _, .nil, i, x, h => by simp at h
  | _, _, .cons r t, 0, x, h => by
    have e := Option.some.inj h
    exact ⟨_, rfl, e ▸ r⟩
  | _, _, .cons r t, i + 1, x, h => by
    obtain ⟨p, h1, h2⟩ := pair_get2 t (i := i) (p := x) (by simpa using h)
    exact ⟨p, by simpa using h1, h2⟩
theorem pair_len {α β : Type} {F : α → β → Prop} : ∀ {xs : List α} {L : List β}, Paired F xs L → xs.length = L.length
  | _, _, .nil => rfl
  | _, _, .cons _ t => congrArg (· + 1) (pair_len t)
theorem pair_mono {α β : Type} {F G : α → β → Prop} : ∀ {xs : List α} {L : List β}, Paired F xs L → (∀ x p, F x p → G x p) → Paired G xs L
  | _, _, .nil, _ => .nil
  | _, _, .cons r t, h => .cons (h _ _ r) (pair_mono t h)
theorem pair_app {α β : Type} {F : α → β → Prop} : ∀ {xs : List α} {L : List β} {ys : List α} {M : List β}, Paired F xs L → Paired F ys M → Paired F (xs ++ ys) (L ++ M)
  | _, _, _, _, .nil, h => h
  | _, _, _, _, .cons r t, h => .cons r (pair_app t h)
theorem pair_map {α β : Type} {F : α → β → Prop} {f : β → α} : ∀ {L : List β}, (∀ p ∈ L, F (f p) p) → Paired F (L.map f) L
  | [], _ => .nil
  | p :: L, h => .cons (h p List.mem_cons_self) (pair_map fun q hq => h q (List.mem_cons_of_mem _ hq))
/-- what a for walks, as data -/
structure Seq {α : Type} (J : It) (G : Hp → Prop) (rel : V → α → Prop) (L : List α) : Prop where
  goes : ∀ i H, i < L.length → G H → J.go i H
  stops : ∀ H, G H → J.stop L.length H
  yields : ∀ i H x H', i < L.length → G H → J.yld i H x H' → H' = H ∧ ∃ p, L[i]? = some p ∧ rel x p
theorem seq_list {α : Type} {K : PySem.W.Frag} {a : Addr} {xs : List V} {rel : V → α → Prop} {L : List α} (hp : Paired rel xs L) : Seq (Itl K a) (fun H => SqL K H a xs) rel L := by
  have hl := pair_len hp
  refine ⟨fun i H hi q => ⟨xs, xs[i], q, by simp [hl, hi]⟩, fun H q => ⟨xs, q, by omega⟩, fun i H x H' hi q y => ?_⟩
  obtain ⟨e, y⟩ := y
  exact ⟨e, pair_get hp (y xs q)⟩
theorem seq_tup {α : Type} {K : PySem.W.Frag} {a : Addr} {xs : List V} {rel : V → α → Prop} {L : List α} (hp : Paired rel xs L) : Seq (Itt K a) (fun H => SqT K H a xs) rel L := by
  have hl := pair_len hp
  refine ⟨fun i H hi q => ⟨xs, xs[i], q, by simp [hl, hi]⟩, fun H q => ⟨xs, q, by omega⟩, fun i H x H' hi q y => ?_⟩
  obtain ⟨e, y⟩ := y
  exact ⟨e, pair_get hp (y xs q)⟩
/-- lo, lo + 1, .. -/
def rng (lo : Int) (n : Nat) : List Int := (List.range n).map fun (i : Nat) => lo + (i : Int)
theorem rng_len (lo : Int) (n : Nat) : (rng lo n).length = n := by unfold rng; rw [List.length_map, List.length_range]
theorem seq_range {lo : Int} {n : Nat} : Seq (Itr lo n) (fun _ => True) (fun v i => v = .int i) (rng lo n) := by
  refine ⟨fun i H hi _ => by rw [rng_len] at hi; exact hi, fun H _ => Nat.le_of_eq (rng_len lo n).symm, fun i H x H' hi _ y => ?_⟩
  obtain ⟨e, y⟩ := y
  rw [rng_len] at hi
  exact ⟨e, lo + i, by unfold rng; rw [List.getElem?_map, List.getElem?_range hi]; rfl, y⟩
theorem split_at {α : Type} {L : List α} {i : Nat} {p : α} (h : L[i]? = some p) : L = L.take i ++ p :: L.drop (i + 1) ∧ L.take (i + 1) = L.take i ++ [p] := by
  obtain ⟨hi, e⟩ := List.getElem?_eq_some_iff.mp h
  refine ⟨?_, ?_⟩
  · rw [← e, List.getElem_cons_drop hi, List.take_append_drop]
  · rw [List.take_add_one, h]; rfl

def ForW (J : It) (g : TG) (tb : TS) (D : Ends) (σ : L2.St) (H : Hp) : Prop := ∃ W : Nat → Nat → L2.St → Hp → Prop, (∃ m, W 0 m σ H) ∧ ∀ i m σ H, W i m σ H →
  (J.stop i H ∧ D.nx σ H) ∨ (J.go i H ∧ ∃ N : L2.St → Hp → Prop, (∀ σ' H', N σ' H' → ∃ m', m' < m ∧ W (i + 1) m' σ' H') ∧ ∀ x H', J.yld i H x H' → g x σ H' fun σ2 H2 => tb { D with nx := N, ct := N, bk := D.nx } σ2 H2)
theorem r_for {wi : TI} {g : TG} {tb : TS} {D : Ends} {σ : L2.St} {H : Hp} (h : wi σ H fun J H1 => ForW J g tb D σ H1) : tFor wi g tb D σ H := h
theorem r_forS {α : Type} {J : It} {G : Hp → Prop} {rel : V → α → Prop} {L : List α} {g : TG} {tb : TS} {nx bk ct : L2.St → Hp → Prop} {rt : VK} {σ : L2.St} {H : Hp} (S : Seq J G rel L) (Pv : List α → L2.St → Hp → Prop) (h0 : Pv [] σ H)
    (hk : ∀ d σ H, Pv d σ H → G H) (hs : ∀ d p r v σ H, L = d ++ p :: r → rel v p → Pv d σ H → g v σ H fun σ2 H2 => tb ⟨Pv (d ++ [p]), rt, nx, Pv (d ++ [p])⟩ σ2 H2) (hd : ∀ σ H, Pv L σ H → nx σ H) : ForW J g tb ⟨nx, rt, bk, ct⟩ σ H := by
  refine ⟨fun i m σ H => m = L.length - i ∧ i ≤ L.length ∧ Pv (L.take i) σ H, ⟨L.length, by simp, Nat.zero_le _, h0⟩, ?_⟩
  rintro i m σ H ⟨rfl, hi, p0⟩
  have q := hk _ σ H p0
  by_cases hlt : i < L.length
  · refine .inr ⟨S.goes i H hlt q, Pv (L.take (i + 1)), fun σ' H' p' => ⟨L.length - (i + 1), by omega, rfl, hlt, p'⟩, fun x H' y => ?_⟩
    obtain ⟨e, p, hp, r⟩ := S.yields i H x H' hlt q y
    subst e
    obtain ⟨e1, e2⟩ := split_at hp
    rw [e2]
    exact hs _ p _ x σ _ e1 r p0
  · have e : i = L.length := by omega
    subst e
    rw [List.take_length] at p0
    exact .inl ⟨S.stops H q, hd σ H p0⟩

def LcW (J : It) (g : TG) (tt : TT) (te : TE) (own : List Nat) (D : Addr) (σ : L2.St) (H1 : Hp) (Qd : Hp → Prop) : Prop :=
  ∃ V : Nat → Nat → Hp → Prop, (∃ m, V 0 m (upd H1 D (.lst []))) ∧ ∀ k m G, V k m G →
    (J.stop k G ∧ Qd G) ∨ (J.go k G ∧ ∃ T : Hp → Prop, (∀ G', T G' → ∃ m', m' < m ∧ V (k + 1) m' G') ∧ ∀ x G', J.yld k G x G' →
      g x (wipe σ own) G' fun τ G2 => wipe τ own = wipe σ own ∧ tt τ G2 fun c G3 =>
        if c = true then te τ G3 fun y G4 => ∃ got, G4 D = some (.lst got) ∧ got.length < sizeLine ∧ T (upd G4 D (.lst (got ++ [y])))
        else T G3)
theorem r_lc {wi : TI} {g : TG} {tt : TT} {te : TE} {vs : List Nat} {σ : L2.St} {H : Hp} {Q : VK} (h : wi σ H fun J H1 => ∀ D, H1 D = none → LcW J g tt te vs D σ H1 (Q (.ref D))) : tLc wi g tt te vs σ H Q := h
theorem r_lcS {α : Type} {J : It} {G : Hp → Prop} {rel : V → α → Prop} {L : List α} {g : TG} {tt : TT} {te : TE} {vs : List Nat} {D : Addr} {σ : L2.St} {H1 : Hp} {Qd : Hp → Prop} (S : Seq J G rel L) (Pv : List α → Hp → Prop) (h0 : Pv [] (upd H1 D (.lst [])))
    (hk : ∀ d H, Pv d H → G H) (hs : ∀ d p r v H, L = d ++ p :: r → rel v p → Pv d H → g v (wipe σ vs) H fun σ2 H2 => wipe σ2 vs = wipe σ vs ∧ tt σ2 H2 fun b H3 =>
      if b = true then te σ2 H3 fun y H4 => ∃ acc, H4 D = some (.lst acc) ∧ acc.length < sizeLine ∧ Pv (d ++ [p]) (upd H4 D (.lst (acc ++ [y]))) else Pv (d ++ [p]) H3) (hd : ∀ H, Pv L H → Qd H) : LcW J g tt te vs D σ H1 Qd := by
  refine ⟨fun i m H => m = L.length - i ∧ i ≤ L.length ∧ Pv (L.take i) H, ⟨L.length, by simp, Nat.zero_le _, h0⟩, ?_⟩
  rintro i m H ⟨rfl, hi, p0⟩
  have q := hk _ H p0
  by_cases hlt : i < L.length
  · refine .inr ⟨S.goes i H hlt q, Pv (L.take (i + 1)), fun H' p' => ⟨L.length - (i + 1), by omega, rfl, hlt, p'⟩, fun x H' y => ?_⟩
    obtain ⟨e, p, hp, r⟩ := S.yields i H x H' hlt q y
    subst e
    obtain ⟨e1, e2⟩ := split_at hp
    rw [e2]
    exact hs _ p _ x _ e1 r p0
  · have e : i = L.length := by omega
    subst e
    rw [List.take_length] at p0
    exact .inl ⟨S.stops H q, hd H p0⟩
/-- a comprehension whose parts make nothing: kept items f p of those p with b p -/
theorem r_lcP {α : Type} {J : It} {G : Hp → Prop} {rel : V → α → Prop} {L : List α} {g : TG} {tt : TT} {te : TE} {vs : List Nat} {D : Addr} {σ : L2.St} {H1 : Hp} {Qd : Hp → Prop} (S : Seq J G rel L) (b : α → Bool) (f : α → V)
    (hz : L.length < 100000) (np : H1 D = none) (hG : ∀ H, Same H1 H → G H)
    (hs : ∀ p v H acc, p ∈ L → rel v p → Same H1 H → H D = some (.lst acc) → acc.length < sizeLine → ∀ N : Hp → Prop, (b p = true → N (upd H D (.lst (acc ++ [f p])))) → (b p = false → N H) → g v (wipe σ vs) H fun σ2 H2 => wipe σ2 vs = wipe σ vs ∧ tt σ2 H2 fun b H3 =>
      if b = true then te σ2 H3 fun y H4 => ∃ acc, H4 D = some (.lst acc) ∧ acc.length < sizeLine ∧ N (upd H4 D (.lst (acc ++ [y]))) else N H3)
    (hd : Qd (upd H1 D (.lst ((L.filter b).map f)))) : LcW J g tt te vs D σ H1 Qd := by
  have same : ∀ acc, Same H1 (upd H1 D (.lst acc)) := fun acc a o e => by rw [upd_ne (ne_of_none e np)]; exact e
  refine r_lcS S (fun d H => H = upd H1 D (.lst ((d.filter b).map f))) rfl (fun d H e => hG H (e ▸ same _)) (fun d p r v H e hr hp => ?_) (fun H e => e ▸ hd)
  subst hp
  have hlen : ((d.filter b).map f).length < sizeLine := by
    have h1 := List.length_filter_le b d
    have h2 : L.length = d.length + (r.length + 1) := by rw [e]; simp
    rw [List.length_map]
    exact Nat.lt_of_lt_of_le (show (d.filter b).length < 100000 by omega) (by decide)
  refine hs p v _ _ (by rw [e]; simp) hr (same _) upd_same hlen (fun H => H = upd H1 D (.lst (((d ++ [p]).filter b).map f))) (fun hb => ?_) (fun hb => ?_)
  · rw [upd_upd, List.filter_append, List.filter_cons_of_pos hb, List.map_append]
    rfl
  · rw [List.filter_append, List.filter_cons_of_neg (by rw [hb]; exact Bool.false_ne_true), List.filter_nil, List.append_nil]

/-! ### whiles -/
theorem r_while {c : TT} {tb : TS} {nx bk ct : L2.St → Hp → Prop} {rt : VK} {σ : L2.St} {H : Hp} (Pv : Nat → L2.St → Hp → Prop) (m0 : Nat) (h0 : Pv m0 σ H)
    (hs : ∀ m σ H, Pv m σ H → c σ H fun b H1 => if b = true then ∃ N : L2.St → Hp → Prop, (∀ σ' H', N σ' H' → ∃ m', m' < m ∧ Pv m' σ' H') ∧ tb ⟨N, rt, nx, N⟩ σ H1 else nx σ H1) : tWhile c tb ⟨nx, rt, bk, ct⟩ σ H :=
  ⟨Pv, ⟨m0, h0⟩, hs⟩
theorem r_whT {tb : TS} {nx : L2.St → Hp → Prop} {rt : VK} {σ : L2.St} {H1 : Hp} {Pv : Nat → L2.St → Hp → Prop} {m : Nat} (h : tb ⟨fun σ' H' => ∃ m', m' < m ∧ Pv m' σ' H', rt, nx, fun σ' H' => ∃ m', m' < m ∧ Pv m' σ' H'⟩ σ H1) :
    ∃ N : L2.St → Hp → Prop, (∀ σ' H', N σ' H' → ∃ m', m' < m ∧ Pv m' σ' H') ∧ tb ⟨N, rt, nx, N⟩ σ H1 := ⟨_, fun _ _ z => z, h⟩
end Vf
namespace Vf
open PySem PySem.Spec PyProof.Rows L2
theorem r_forE {α : Type} {K : PySem.W.Frag} {a : Addr} {xs : List V} {rel : V → α → Prop} {L : List α} {g : TG} {tb : TS} {nx bk ct : L2.St → Hp → Prop} {rt : VK} {σ : L2.St} {H : Hp} (hp : Paired rel xs L) (Pv : List α → L2.St → Hp → Prop) (h0 : Pv [] σ H)
    (hk : ∀ d σ H, Pv d σ H → SqL K H a xs) (hs : ∀ d p r x T σ H, L = d ++ p :: r → xs[d.length]? = some x → rel x p → Pv d σ H → H T = none → g (.ref T) σ (upd H T (.tup [.int (d.length : Nat), x])) fun σ2 H2 => tb ⟨Pv (d ++ [p]), rt, nx, Pv (d ++ [p])⟩ σ2 H2)
    (hd : ∀ σ H, Pv L σ H → nx σ H) : ForW (Ite K a) g tb ⟨nx, rt, bk, ct⟩ σ H := by
  have hl := pair_len hp
  refine ⟨fun i m σ H => m = L.length - i ∧ i ≤ L.length ∧ Pv (L.take i) σ H, ⟨L.length, by simp, Nat.zero_le _, h0⟩, ?_⟩
  rintro i m σ H ⟨rfl, hi, p0⟩
  have q := hk _ σ H p0
  by_cases hlt : i < L.length
  · refine .inr ⟨⟨xs, xs[i], q, by simp [hl, hlt]⟩, Pv (L.take (i + 1)), fun σ' H' p' => ⟨L.length - (i + 1), by omega, rfl, hlt, p'⟩, fun v H' y => ?_⟩
    obtain ⟨T, x, rfl, nT, rfl, fx⟩ := y
    obtain ⟨p, hp1, hp2⟩ := pair_get hp (fx xs q)
    obtain ⟨e1, e2⟩ := split_at hp1
    have el : (L.take i).length = i := by rw [List.length_take]; omega
    have hx := fx xs q
    rw [e2]
    have := hs (L.take i) p _ x T σ H e1 (by rw [el]; exact hx) hp2 p0 nT
    rw [el] at this
    exact this
  · have e : i = L.length := by omega
    subst e
    rw [List.take_length] at p0
    exact .inl ⟨⟨xs, q, by omega⟩, hd σ H p0⟩
theorem r_ienum {K : PySem.W.Frag} {ts : TA} {σ : L2.St} {H : Hp} {A : It → Hp → Prop} (h : ts σ H fun vs H1 => ∃ a xs, vs = [.ref a] ∧ SqL K H1 a xs ∧ A (Ite K a) H1) : iEnum K ts σ H A := h
theorem r_leP {K : PySem.W.Frag} {H : Hp} {t u : Addr} {a b c d : Int} {Q : VK} (ht : SqT K H t [.int a, .int b]) (hu : SqT K H u [.int c, .int d]) (h : Q (.bl (decide (a < c ∨ (a = c ∧ b ≤ d)))) H) : rLeT K (.ref t) (.ref u) H Q := by
  refine ⟨t, u, [a, b], [c, d], rfl, rfl, ht, hu, ?_⟩
  have e : Ob.lexAt (fun j => decide (([a, b] : List Int).getD j 0 = ([c, d] : List Int).getD j 0)) (fun j => decide (([a, b] : List Int).getD j 0 ≤ ([c, d] : List Int).getD j 0)) (decide (([a, b] : List Int).length ≤ ([c, d] : List Int).length)) 0 (min ([a, b] : List Int).length ([c, d] : List Int).length) = decide (a < c ∨ (a = c ∧ b ≤ d)) := by
    show Ob.lexAt _ _ _ 0 2 = _
    rw [Ob.lexAt_succ, Ob.lexAt_succ, Ob.lexAt_zero]
    show (if decide (a = c) = true then if decide (b = d) = true then decide ((2 : Nat) ≤ 2) else decide (b ≤ d) else decide (a ≤ c)) = _
    by_cases e1 : a = c
    · rw [if_pos (decide_eq_true e1)]
      by_cases e2 : b = d
      · rw [if_pos (decide_eq_true e2), Bool.eq_iff_iff]; simp; omega
      · rw [if_neg (by simpa using e2), Bool.eq_iff_iff]; simp; omega
    · rw [if_neg (by simpa using e1), Bool.eq_iff_iff]; simp; omega
  rw [e]
  exact h
theorem r_sin {w : World} {H : Hp} {k : Int} {a : Addr} {S : Int → Bool} {n : Nat} {Q : VK} (hs : H a = some (SetO w a S n)) (h : Q (.bl (S k)) H) : rSIn w (.int k) (.ref a) H Q := ⟨k, a, S, n, rfl, rfl, hs, h⟩
theorem r_sadd {w : World} {to : TE} {ts : TA} {σ : L2.St} {H : Hp} {Q : VK} (h : to σ H fun x H1 => (∃ a S n, x = V.ref a ∧ H1 a = some (SetO w a S n)) ∧ ts σ H1 fun xs H2 => rSAdd w x xs H2 Q) : tSAdd w to ts σ H Q := h
theorem r_add {w : World} {H : Hp} {k : Int} {a : Addr} {S : Int → Bool} {n : Nat} {Q : VK} (hs : H a = some (SetO w a S n)) (hn : n + 1 < scanBound) (h : Q .non (upd H a (SetO w a (fun j => S j || decide (j = k)) (if S k = true then n else n + 1)))) : rSAdd w (.ref a) [.int k] H Q := ⟨a, k, S, n, rfl, rfl, hs, hn, h⟩
end Vf

namespace Vf
open PySem PySem.Spec PyProof.Rows L2

/-! ### heaps -/
def But (t : Addr) (H H' : Hp) : Prop := ∀ b, b ≠ t → H' b = H b
def NewO (H : Hp) (o : HO) (Q : VK) : Prop := ∀ p H', Same H H' → H p = none → H' p = some o → Q (.ref p) H'
theorem same_new {H : Hp} {p : Addr} {o : HO} (h : H p = none) : Same H (upd H p o) := fun b x e => by
  rw [upd_ne (ne_of_none e h)]
  exact e
theorem NewO.mk {H H1 : Hp} {o : HO} {Q : VK} (h : NewO H o Q) (s : Same H H1) : ∀ p, H1 p = none → Q (.ref p) (upd H1 p o) := fun p np =>
  h p _ (s.trans (same_new np)) (s.free np) upd_same
theorem NewO.on {H H1 : Hp} {o : HO} {Q : VK} (h : NewO H o Q) (s : Same H H1) : NewO H1 o Q := fun p H' s' n e => h p H' (s.trans s') (s.free n) e
/-- the draws' list -/
def Tap (H : Hp) (t : Addr) : Prop := ∃ a b c : Int, H t = some (.lst [.int a, .int b, .int c]) ∧ 0 ≤ a ∧ 0 ≤ b ∧ 0 ≤ c ∧ c < 2 ^ 62
theorem Tap.mono {H H' : Hp} {t : Addr} (s : Same H H') (h : Tap H t) : Tap H' t := let ⟨a, b, c, e, r⟩ := h; ⟨a, b, c, s _ _ e, r⟩
/-- what is known in B, where t is not known, stays while t changes -/
theorem Same.but {B H H' : Hp} {t : Addr} (s : Same B H) (n : B t = none) (b : But t H H') : Same B H' := fun a o e => by
  rw [b a (ne_of_none e n)]
  exact s a o e
theorem Same.set {B H : Hp} {t : Addr} {o : HO} (s : Same B H) (n : B t = none) : Same B (upd H t o) := fun a u e => by
  rw [upd_ne (ne_of_none e n)]
  exact s a u e
/-- the tuple of a coupling -/
def Pr (H : Hp) (v : V) (p : Int × Int) : Prop := ∃ t, v = .ref t ∧ H t = some (.tup [.int p.1, .int p.2])
abbrev Prs (H : Hp) : List V → List (Int × Int) → Prop := Paired (Pr H)
theorem Pr.mono {H H' : Hp} {v : V} {p : Int × Int} (s : Same H H') (h : Pr H v p) : Pr H' v p := let ⟨t, e, f⟩ := h; ⟨t, e, s _ _ f⟩
theorem Prs.mono {H H' : Hp} {xs : List V} {L : List (Int × Int)} (s : Same H H') (h : Prs H xs L) : Prs H' xs L := pair_mono h fun _ _ q => q.mono s
/-- tuples stay where only an object changes that is none -/
theorem Pr.but {H H' : Hp} {v : V} {p : Int × Int} {t : Addr} {o : HO} (b : But t H H') (ht : H t = some o) (no : ∀ xs, o ≠ .tup xs) (h : Pr H v p) : Pr H' v p := by
  obtain ⟨a, e, f⟩ := h
  refine ⟨a, e, ?_⟩
  rw [b a (ne_of f ht (fun z => no _ z.symm))]
  exact f
theorem Prs.but {H H' : Hp} {xs : List V} {L : List (Int × Int)} {t : Addr} {o : HO} (b : But t H H') (ht : H t = some o) (no : ∀ xs, o ≠ .tup xs) (h : Prs H xs L) : Prs H' xs L := pair_mono h fun _ _ q => q.but b ht no
theorem but_upd {H : Hp} {t : Addr} {o : HO} : But t H (upd H t o) := fun b e => upd_ne e
theorem But.trans {H H1 H2 : Hp} {t : Addr} (a : But t H H1) (b : But t H1 H2) : But t H H2 := fun x e => (b x e).trans (a x e)
theorem fm (x m : Int) (h : 0 < m) : 0 ≤ x.fmod m ∧ x.fmod m < m := ⟨Int.fmod_nonneg_of_pos _ h, Int.fmod_lt_of_pos _ h⟩
theorem szl {n : Nat} (h : n ≤ 100000) : n ≤ sizeLine := Nat.le_trans h (by decide)
theorem szs {n : Nat} (h : n < 100000) : n < sizeLine := Nat.lt_of_lt_of_le h (by decide)
theorem sql {K : PySem.W.Frag} {H : Hp} {a : Addr} {xs : List V} (h : H a = some (.lst xs)) : SqL K H a xs := .inl (.inl h)
theorem sqt {K : PySem.W.Frag} {H : Hp} {a : Addr} {xs : List V} (h : H a = some (.tup xs)) : SqT K H a xs := .inl (.inl h)

/-! ### layouts -/
def flat (L : List (Int × Int)) : List Int := L.flatMap fun p => [p.1, p.2]
theorem flat_nil : flat [] = [] := rfl
theorem flat_cons (p : Int × Int) (L : List (Int × Int)) : flat (p :: L) = p.1 :: p.2 :: flat L := by unfold flat; rw [List.flatMap_cons]; rfl
theorem flat_app (L M : List (Int × Int)) : flat (L ++ M) = flat L ++ flat M := by unfold flat; rw [List.flatMap_append]
theorem flat_len (L : List (Int × Int)) : (flat L).length = 2 * L.length := by
  induction L with
  | nil => rfl
  | cons p L ih => rw [flat_cons, List.length_cons, List.length_cons, ih, List.length_cons]; omega
theorem mem_flat {L : List (Int × Int)} {e : Int} : e ∈ flat L ↔ ∃ p ∈ L, e = p.1 ∨ e = p.2 := by
  unfold flat
  rw [List.mem_flatMap]
  constructor
  · rintro ⟨p, hp, h⟩
    exact ⟨p, hp, by simpa using h⟩
  · rintro ⟨p, hp, h⟩
    exact ⟨p, hp, by simpa using h⟩
structure Lay (n : Int) (L : List (Int × Int)) : Prop where
  n1 : 1 ≤ n
  n60 : n ≤ 60
  cp : ∀ p ∈ L, -n ≤ p.1 ∧ p.1 < p.2 ∧ p.2 ≤ n ∧ p.1 ≠ 0 ∧ p.2 ≠ 0
  asc : L.Pairwise fun p q => p.1 < q.1 ∨ (p.1 = q.1 ∧ p.2 < q.2)
  nd : (flat L).Nodup
def endsL (n : Int) : List Int := (rng (-n) (n + 1 - -n).toNat).filter fun e => !decide (e = 0)
theorem mem_rng {lo : Int} {n : Nat} {e : Int} : e ∈ rng lo n ↔ lo ≤ e ∧ e < lo + n := by
  unfold rng
  rw [List.mem_map]
  constructor
  · rintro ⟨i, hi, rfl⟩
    have := List.mem_range.mp hi
    omega
  · rintro ⟨h1, h2⟩
    exact ⟨(e - lo).toNat, List.mem_range.mpr (by omega), by omega⟩
theorem mem_endsL {n e : Int} : e ∈ endsL n ↔ -n ≤ e ∧ e ≤ n ∧ e ≠ 0 := by
  unfold endsL
  rw [List.mem_filter, mem_rng]
  simp only [Bool.not_eq_eq_eq_not, Bool.not_true, decide_eq_false_iff_not]
  omega
theorem rng_asc (lo : Int) (n : Nat) : (rng lo n).Pairwise (· < ·) := by
  unfold rng
  rw [List.pairwise_map]
  exact List.Pairwise.imp (fun h => by omega) List.pairwise_lt_range
theorem endsL_asc (n : Int) : (endsL n).Pairwise (· < ·) := (rng_asc _ _).filter _
theorem endsL_nd (n : Int) : (endsL n).Nodup := (endsL_asc n).imp fun h => by omega
theorem endsL_len {n : Int} (h : 0 ≤ n) : (endsL n).length ≤ 2 * n.toNat + 1 := by
  have h1 := List.length_filter_le (fun e : Int => !decide (e = 0)) (rng (-n) (n + 1 - -n).toNat)
  rw [rng_len] at h1
  unfold endsL
  omega
/-- the partner of an end -/
def tabI (L : List (Int × Int)) : List (Int × Int) := L.flatMap fun p => [(p.1, p.2), (p.2, p.1)]
def parI (L : List (Int × Int)) (e : Int) : Option Int := ((tabI L).find? fun q => decide (q.1 = e)).map (·.2)
def tab (L : List (Int × Int)) : List (Key × V) := (tabI L).map fun q => (.inl q.1, .int q.2)
theorem tabI_app (L M : List (Int × Int)) : tabI (L ++ M) = tabI L ++ tabI M := by unfold tabI; rw [List.flatMap_append]
theorem tabI_keys (L : List (Int × Int)) : (tabI L).map (·.1) = flat L := by
  induction L with
  | nil => rfl
  | cons p L ih =>
    rw [flat_cons, ← ih]
    rfl
theorem tab_len (L : List (Int × Int)) : (tab L).length = 2 * L.length := by
  unfold tab
  rw [List.length_map, ← List.length_map (f := (·.1)), tabI_keys, flat_len]
theorem tab_get (L : List (Int × Int)) (e : Int) : valV (tab L) (Sum.inl e : Key) = (parI L e).map V.int := by
  unfold valV tab parI
  rw [List.find?_map]
  have : ((fun kv : Key × V => decide (kv.1 = (Sum.inl e : Key))) ∘ fun q : Int × Int => ((Sum.inl q.1 : Key), V.int q.2)) = fun q => decide (q.1 = e) := by
    funext q
    show decide ((Sum.inl q.1 : Key) = Sum.inl e) = decide (q.1 = e)
    rw [Bool.eq_iff_iff]
    simp
  rw [this]
  cases (tabI L).find? fun q => decide (q.1 = e) <;> rfl
theorem parI_none {L : List (Int × Int)} {e : Int} : parI L e = none ↔ e ∉ flat L := by
  unfold parI
  rw [Option.map_eq_none_iff, List.find?_eq_none, ← tabI_keys, List.mem_map]
  constructor
  · rintro h ⟨q, hq, rfl⟩
    exact h q hq (decide_eq_true rfl)
  · intro h q hq c
    exact h ⟨q, hq, of_decide_eq_true c⟩
theorem tab_no {L : List (Int × Int)} {e : Int} (h : e ∉ flat L) : valV (tab L) (Sum.inl e : Key) = none := by
  rw [tab_get, parI_none.mpr h]
  rfl
theorem tab_put {d r : List (Int × Int)} {p : Int × Int} (h : (flat (d ++ p :: r)).Nodup) : putK (putK (tab d) (Sum.inl p.1 : Key) (.int p.2)) (Sum.inl p.2 : Key) (.int p.1) = tab (d ++ [p]) ∧ p.1 ∉ flat d ∧ p.2 ∉ flat d ∧ p.1 ≠ p.2 := by
  rw [flat_app, flat_cons] at h
  obtain ⟨h1, h2, h3⟩ := List.nodup_append.mp h
  have n1 : p.1 ∉ flat d := fun z => h3 _ z p.1 (by simp) rfl
  have n2 : p.2 ∉ flat d := fun z => h3 _ z p.2 (by simp) rfl
  have n3 : p.1 ≠ p.2 := fun z => (List.nodup_cons.mp h2).1 (by rw [z]; simp)
  refine ⟨?_, n1, n2, n3⟩
  rw [putK_new _ (tab_no n1), putK_new]
  · unfold tab
    rw [tabI_app, List.map_append, List.append_assoc]
    rfl
  · rw [valV_snoc _ _ _ _ (tab_no n1), if_neg (by simpa using Ne.symm n3), tab_no n2]
theorem Lay.tail {n : Int} {d : List (Int × Int)} {r : List (Int × Int)} (h : Lay n (d ++ r)) : Lay n r := by
  refine ⟨h.n1, h.n60, fun p hp => h.cp p (List.mem_append_right _ hp), (List.pairwise_append.mp h.asc).2.1, ?_⟩
  have := h.nd
  rw [flat_app] at this
  exact (List.nodup_append.mp this).2.1
theorem nodup_sub {α : Type} [BEq α] [LawfulBEq α] : ∀ {l m : List α}, l.Nodup → (∀ x ∈ l, x ∈ m) → l.length ≤ m.length
  | [], _, _, _ => Nat.zero_le _
  | a :: l, m, nd, h => by
    obtain ⟨h1, h2⟩ := List.nodup_cons.mp nd
    have ha := h a List.mem_cons_self
    have ih := nodup_sub (l := l) (m := m.erase a) h2 fun x hx => (List.mem_erase_of_ne (fun e : x = a => h1 (e ▸ hx))).mpr (h x (List.mem_cons_of_mem _ hx))
    rw [List.length_erase_of_mem ha] at ih
    have := List.length_pos_of_mem ha
    rw [List.length_cons]
    omega
theorem Lay.len {n : Int} {L : List (Int × Int)} (h : Lay n L) : L.length ≤ 60 := by
  have h1 : (flat L).length ≤ (endsL n).length := nodup_sub h.nd fun e he => by
    obtain ⟨p, hp, q⟩ := mem_flat.mp he
    have := h.cp p hp
    rw [mem_endsL]
    omega
  have h2 := endsL_len (n := n) (by have := h.n1; omega)
  have h3 := h.n60
  rw [flat_len] at h1
  omega
end Vf

namespace Vf
open PySem PySem.Spec PyProof.Rows L2

/-! ### lists -/
theorem map_eraseI {α β : Type} (f : α → β) : ∀ (l : List α) (k : Nat), (l.map f).eraseIdx k = (l.eraseIdx k).map f
  | [], _ => rfl
  | _ :: _, 0 => rfl
  | a :: l, k + 1 => by
    rw [List.map_cons, List.eraseIdx_cons_succ, List.eraseIdx_cons_succ, List.map_cons, map_eraseI f l k]
theorem perm_erase {α : Type} : ∀ {l : List α} {k : Nat} {x : α}, l[k]? = some x → l.Perm (x :: l.eraseIdx k)
  | [], _, _, h => by simp at h
  | a :: l, 0, x, h => by
    have e : a = x := Option.some.inj h
    subst e
    exact List.Perm.refl _
  | a :: l, k + 1, x, h => by
    have ih := perm_erase (l := l) (k := k) (x := x) (by simpa using h)
    rw [List.eraseIdx_cons_succ]
    exact (ih.cons a).trans (List.Perm.swap x a _)
theorem seqIx {i : Int} {n : Nat} (h0 : 0 ≤ i) (h1 : i < n) : seqIndex? i n = some i.toNat := by
  unfold seqIndex?
  simp only [show ¬ i < 0 by omega, if_false]
  rw [if_pos (by simp; omega)]
theorem cut_ints (l : List Int) (lo hi : Option Int) : ∃ m : List Int, cutV (l.map V.int) lo hi = m.map V.int ∧ m.length ≤ l.length := by
  refine ⟨(l.drop (HT.sIx (l.map V.int).length 0 lo)).take (HT.sIx (l.map V.int).length (l.map V.int).length hi - HT.sIx (l.map V.int).length 0 lo), ?_, ?_⟩
  · unfold cutV
    rw [← List.map_drop, ← List.map_take]
  · rw [List.length_take, List.length_drop]
    omega

/-! ### sorted couplings -/
/-- which coupling a value is -/
def keyP (H : Hp) (v : V) : Int × Int := match v with
  | .ref t => match H t with
    | some (.tup [.int a, .int b]) => (a, b)
    | _ => (0, 0)
  | _ => (0, 0)
theorem keyP_of {H : Hp} {v : V} {p : Int × Int} (h : Pr H v p) : keyP H v = p := by
  obtain ⟨t, rfl, e⟩ := h
  simp only [keyP, e]
theorem prs_key {H : Hp} : ∀ {xs : List V} {L : List (Int × Int)}, Prs H xs L → xs.map (keyP H) = L
  | _, _, .nil => rfl
  | _, _, .cons r t => by rw [List.map_cons, keyP_of r, prs_key t]
theorem prs_all {H : Hp} : ∀ {xs : List V} {L : List (Int × Int)}, Prs H xs L → ∀ x ∈ xs, Pr H x (keyP H x)
  | _, _, .nil, _, h => absurd h (by simp)
  | _, _, .cons r t, x, h => by
    rcases List.mem_cons.mp h with rfl | h
    · rw [keyP_of r]; exact r
    · exact prs_all t x h
theorem prs_of {H : Hp} : ∀ {ys : List V}, (∀ y ∈ ys, Pr H y (keyP H y)) → Prs H ys (ys.map (keyP H))
  | [], _ => .nil
  | y :: ys, h => .cons (h y List.mem_cons_self) (prs_of fun z hz => h z (List.mem_cons_of_mem _ hz))
def Asc (L : List (Int × Int)) : Prop := L.Pairwise fun p q => p.1 < q.1 ∨ (p.1 = q.1 ∧ p.2 < q.2)
theorem flat_perm {L M : List (Int × Int)} (h : L.Perm M) : (flat L).Perm (flat M) := h.flatMap_right _
theorem nd_of_flat : ∀ {L : List (Int × Int)}, (flat L).Nodup → L.Nodup
  | [], _ => List.nodup_nil
  | p :: L, h => by
    rw [flat_cons] at h
    obtain ⟨h1, h2⟩ := List.nodup_cons.mp h
    refine List.nodup_cons.mpr ⟨fun hp => h1 (List.mem_cons_of_mem _ (mem_flat.mpr ⟨p, hp, .inl rfl⟩)), nd_of_flat (List.nodup_cons.mp h2).2⟩
theorem r_sortedP {K : PySem.W.Frag} {H : Hp} {a : Addr} {xs : List V} {L : List (Int × Int)} {Q : VK} (hs : SqL K H a xs) (hp : Prs H xs L) (nd : L.Nodup)
    (h : ∀ ys M p, M.Perm L → Asc M → Prs H ys M → H p = none → Q (.ref p) (upd H p (.lst ys))) : rSortedPO K [.ref a] H Q := by
  refine ⟨a, xs, keyP H, rfl, hs, fun x hx => prs_all hp x hx, fun ys p srt stb np => ?_⟩
  have perm : (ys.map (keyP H)).Perm L := by
    rw [← prs_key hp]
    exact stb.perm.map _
  refine h ys (ys.map (keyP H)) p perm ?_ (prs_of fun y hy => prs_all hp y (stb.perm.mem_iff.mp hy)) np
  unfold Asc
  rw [List.pairwise_map]
  have nd2 : ys.Pairwise fun x y => keyP H x ≠ keyP H y := by
    have := perm.nodup_iff.mpr nd
    rw [List.Nodup, List.pairwise_map] at this
    exact this
  exact (srt.and nd2).imp fun {x y} c => by
    have c1 := SrtO.lexB_no.mp c.1
    have c2 : ¬ ((keyP H x).1 = (keyP H y).1 ∧ (keyP H x).2 = (keyP H y).2) := fun z => c.2 (Prod.ext z.1 z.2)
    omega

/-! ### all but t -/
def SameX (t : Addr) (H H' : Hp) : Prop := ∀ b o, b ≠ t → H b = some o → H' b = some o
theorem SameX.refl {t : Addr} {H : Hp} : SameX t H H := fun _ _ _ h => h
theorem SameX.trans {t : Addr} {H H1 H2 : Hp} (a : SameX t H H1) (b : SameX t H1 H2) : SameX t H H2 := fun x o n h => b x o n (a x o n h)
theorem SameX.of {t : Addr} {H H' : Hp} (h : Same H H') : SameX t H H' := fun b o _ e => h b o e
theorem SameX.ofBut {t : Addr} {H H' : Hp} (h : But t H H') : SameX t H H' := fun b o n e => by rw [h b n]; exact e
theorem SameX.set {t x : Addr} {o : HO} {H H' : Hp} (s : SameX t H H') (n : H x = none) : SameX t H (upd H' x o) := fun b u nb e => by
  rw [upd_ne (ne_of_none e n)]
  exact s b u nb e
theorem SameX.prs {t : Addr} {o : HO} {H H' : Hp} {xs : List V} {L : List (Int × Int)} (s : SameX t H H') (ht : H t = some o) (no : ∀ xs, o ≠ .tup xs) (h : Prs H xs L) : Prs H' xs L :=
  pair_mono h fun _ _ ⟨a, e, f⟩ => ⟨a, e, s _ _ (ne_of f ht fun z => no _ z.symm) f⟩
theorem SameX.same {t : Addr} {B H H' : Hp} (s : SameX t H H') (b : Same B H) (n : B t = none) : Same B H' := fun a o e => s a o (ne_of_none e n) (b a o e)
theorem Tap.lst {H : Hp} {t : Addr} (h : Tap H t) : ∃ xs, H t = some (.lst xs) := let ⟨_, _, _, e, _⟩ := h; ⟨_, e⟩
/-- a layout's making, step by step -/
structure Mk (n : Int) (l : List Int) (L : List (Int × Int)) : Prop where
  cp : ∀ p ∈ L, p.1 < p.2
  nd : (l ++ flat L).Nodup
  sub : ∀ e ∈ l ++ flat L, e ∈ endsL n
theorem Mk.start (n : Int) : Mk n (endsL n) [] := ⟨fun _ h => absurd h (by simp), by rw [flat_nil, List.append_nil]; exact endsL_nd n, fun e h => by rw [flat_nil, List.append_nil] at h; exact h⟩
theorem Mk.drop {n : Int} {l : List Int} {L : List (Int × Int)} {a b : Int} {i j : Nat} (h : Mk n l L) (ha : l[i]? = some a) (hb : (l.eraseIdx i)[j]? = some b) : Mk n ((l.eraseIdx i).eraseIdx j) L ∧ Mk n ((l.eraseIdx i).eraseIdx j) (L ++ [(min a b, max a b)]) := by
  have p1 := (perm_erase ha).trans ((perm_erase hb).cons a)
  have nd1 : (a :: b :: ((l.eraseIdx i).eraseIdx j) ++ flat L).Nodup := ((p1.append_right (flat L)).nodup_iff).mp h.nd
  have sub1 : ∀ e ∈ a :: b :: ((l.eraseIdx i).eraseIdx j) ++ flat L, e ∈ endsL n := fun e he => h.sub e ((p1.append_right (flat L)).mem_iff.mpr he)
  obtain ⟨q1, q2⟩ := List.nodup_cons.mp (show (a :: (b :: ((l.eraseIdx i).eraseIdx j ++ flat L))).Nodup from nd1)
  obtain ⟨q3, q4⟩ := List.nodup_cons.mp q2
  have nab : a ≠ b := fun z => q1 (by rw [z]; simp)
  refine ⟨⟨h.cp, q4, fun e he => sub1 e (List.mem_cons_of_mem _ (List.mem_cons_of_mem _ he))⟩, fun p hp => ?_, ?_, fun e he => ?_⟩
  · rcases List.mem_append.mp hp with hp | hp
    · exact h.cp p hp
    · rw [List.mem_singleton.mp hp]
      show min a b < max a b
      omega
  · rw [flat_app, flat_cons, flat_nil]
    have pm : ([min a b, max a b] : List Int).Perm [a, b] := by
      by_cases c : a ≤ b
      · rw [Int.min_eq_left c, Int.max_eq_right c]
      · rw [Int.min_eq_right (by omega), Int.max_eq_left (by omega)]
        exact List.Perm.swap a b []
    have pp : ((l.eraseIdx i).eraseIdx j ++ (flat L ++ [min a b, max a b])).Perm (a :: b :: ((l.eraseIdx i).eraseIdx j ++ flat L)) := by
      rw [← List.append_assoc]
      refine (List.Perm.append_left _ pm).trans ?_
      exact (List.perm_append_comm (l₁ := (l.eraseIdx i).eraseIdx j ++ flat L) (l₂ := [a, b]))
    exact pp.nodup_iff.mpr nd1
  · rw [flat_app, flat_cons, flat_nil] at he
    have : e ∈ (l.eraseIdx i).eraseIdx j ++ flat L ∨ e = a ∨ e = b := by
      rcases List.mem_append.mp he with he | he
      · exact .inl (List.mem_append_left _ he)
      · rcases List.mem_append.mp he with he | he
        · exact .inl (List.mem_append_right _ he)
        · have : e = min a b ∨ e = max a b := by simpa using he
          omega
    rcases this with z | z | z
    · exact sub1 e (List.mem_cons_of_mem _ (List.mem_cons_of_mem _ z))
    · exact sub1 e (by rw [z]; simp)
    · exact sub1 e (by rw [z]; simp)
theorem Mk.lay {n : Int} {l : List Int} {L M : List (Int × Int)} (h : Mk n l L) (n1 : 1 ≤ n) (n2 : n ≤ 60) (pm : M.Perm L) (asc : Asc M) : Lay n M := by
  obtain ⟨_, q2, _⟩ := List.nodup_append.mp h.nd
  refine ⟨n1, n2, fun p hp => ?_, asc, (flat_perm pm).nodup_iff.mpr q2⟩
  have hp' := pm.mem_iff.mp hp
  have c := h.cp p hp'
  have e1 := mem_endsL.mp (h.sub p.1 (List.mem_append_right _ (mem_flat.mpr ⟨p, hp', .inl rfl⟩)))
  have e2 := mem_endsL.mp (h.sub p.2 (List.mem_append_right _ (mem_flat.mpr ⟨p, hp', .inr rfl⟩)))
  omega
end Vf
namespace Vf
open PySem PySem.Spec PyProof.Rows L2
theorem at_int {ns : List Int} {r : Int} (h0 : 0 ≤ r) (h1 : r < ns.length) : ∃ v : Int, atI (ns.map V.int) r = some (.int v) ∧ ns[r.toNat]? = some v := by
  have h : r.toNat < ns.length := by omega
  refine ⟨ns[r.toNat], at_of (j := r.toNat) (by omega) (by rw [List.getElem?_map, List.getElem?_eq_getElem h]; rfl), List.getElem?_eq_getElem h⟩
theorem get_ints {ns : List Int} {k : Nat} (h : k < ns.length) : ∃ v : Int, (ns.map V.int)[k]? = some (.int v) ∧ ns[k]? = some v := ⟨ns[k], by rw [List.getElem?_map, List.getElem?_eq_getElem h]; rfl, List.getElem?_eq_getElem h⟩
theorem Mk.len {n : Int} {l : List Int} {L : List (Int × Int)} (h : Mk n l L) (n1 : 1 ≤ n) (n2 : n ≤ 60) : l.length + 2 * L.length ≤ 121 := by
  have h1 := nodup_sub h.nd h.sub
  have h2 := endsL_len (n := n) (by omega)
  rw [List.length_append, flat_len] at h1
  omega
theorem tyL {K : PySem.W.Frag} {H : Hp} {a : Addr} {xs : List V} (h : H a = some (.lst xs)) : tyV K "list" (.ref a) H := Or.inl ⟨rfl, _, Or.inl (Or.inl h)⟩
theorem r_pop {l : Addr} {xs : List V} {i : Int} {y : V} {H : Hp} {Q : VK} (hl : H l = some (.lst xs)) (h0 : 0 ≤ i) (h1 : i < xs.length) (h2 : i < 2 ^ 63) (hy : xs[i.toNat]? = some y) (h : Q y (upd H l (.lst (xs.eraseIdx i.toNat)))) : rPopAt (.ref l) [.int i] H Q :=
  ⟨l, xs, i, i.toNat, y, rfl, rfl, hl, by omega, h2, seqIx h0 h1, hy, h⟩
theorem r_app {l : Addr} {xs : List V} {y : V} {H : Hp} {Q : VK} (hl : H l = some (.lst xs)) (hz : xs.length < sizeLine) (h : Q .non (upd H l (.lst (xs ++ [y])))) : rAppend (.ref l) [y] H Q := ⟨l, xs, y, rfl, rfl, hl, hz, h⟩
end Vf

namespace Vf
open PySem PySem.Spec PyProof.Rows L2

/-! ### data of small texts -/
structure Sm (N k : Nat) (d : PyData) : Prop where
  sh : d.showable = true
  nd : d.hasDict = false
  dp : d.depth ≤ k
  ln : d.shown.length ≤ N
  lay : d.canLay0 = true
theorem Sm.mono {N k N' k' : Nat} {d : PyData} (h : Sm N k d) (h1 : N ≤ N') (h2 : k ≤ k') : Sm N' k' d := ⟨h.sh, h.nd, Nat.le_trans h.dp h2, Nat.le_trans h.ln h1, h.lay⟩
theorem Sm.shaped {N k : Nat} {d : PyData} (h : Sm N k d) (hk : k ≤ 64) : SeqAt.shaped d = true := by
  unfold SeqAt.shaped
  rw [h.lay, Bool.true_and]
  exact decide_eq_true (Nat.le_trans h.dp hk)
theorem sm_all {N k : Nat} : ∀ {ds : List PyData}, (∀ d ∈ ds, Sm N k d) → PyData.showableAll ds = true ∧ PyData.hasDictAll ds = false ∧ PyData.depthAll ds ≤ k ∧ ((PyData.shownAll ds).map (·.length)).sum ≤ N * ds.length ∧ PyData.canLayAll0 ds = true
  | [], _ => ⟨by simp only [PyData.showableAll], by simp only [PyData.hasDictAll], by simp only [PyData.depthAll]; omega, by simp only [PyData.shownAll]; simp, by simp only [PyData.canLayAll0]⟩
  | d :: ds, h => by
    have h1 := h d List.mem_cons_self
    obtain ⟨a1, a2, a3, a4, a5⟩ := sm_all (ds := ds) fun x hx => h x (List.mem_cons_of_mem _ hx)
    refine ⟨by simp only [PyData.showableAll, h1.sh, a1, Bool.and_self], by simp only [PyData.hasDictAll, h1.nd, a2, Bool.or_self], ?_, ?_, by simp only [PyData.canLayAll0, h1.lay, a5, Bool.and_self]⟩
    · simp only [PyData.depthAll]
      have := h1.dp
      omega
    · simp only [PyData.shownAll, List.map_cons, List.sum_cons, List.length_cons]
      have := h1.ln
      rw [Nat.mul_succ]
      omega
theorem Sm.lst {N k : Nat} {ds : List PyData} (h : ∀ d ∈ ds, Sm N k d) : Sm ((N + 2) * ds.length + 3) (k + 1) (.list ds) := by
  obtain ⟨a1, a2, a3, a4, a5⟩ := sm_all h
  refine ⟨by simp only [PyData.showable, a1], by simp only [PyData.hasDict, a2], by simp only [PyData.depth]; omega, ?_, by simp only [PyData.canLay0, a5]⟩
  simp only [PyData.shown]
  have := listText_len_le (PyData.shownAll ds)
  rw [PyData.shownAll_length] at this
  have e : (N + 2) * ds.length = N * ds.length + 2 * ds.length := by rw [Nat.add_mul]
  omega
theorem Sm.tup {N k : Nat} {ds : List PyData} (h : ∀ d ∈ ds, Sm N k d) : Sm ((N + 2) * ds.length + 3) (k + 1) (.tuple ds) := by
  obtain ⟨a1, a2, a3, a4, a5⟩ := sm_all h
  refine ⟨by simp only [PyData.showable, a1], by simp only [PyData.hasDict, a2], by simp only [PyData.depth]; omega, ?_, by simp only [PyData.canLay0, a5]⟩
  simp only [PyData.shown]
  have := tupleText_len_le (PyData.shownAll ds)
  rw [PyData.shownAll_length] at this
  have e : (N + 2) * ds.length = N * ds.length + 2 * ds.length := by rw [Nat.add_mul]
  omega
theorem Sm.int {i : Int} (h : i.natAbs < 10 ^ 12) : Sm 13 1 (.int i) := by
  refine ⟨?_, by simp only [PyData.hasDict], by simp only [PyData.depth]; omega, PyData.shown_int_le h, by simp only [PyData.canLay0]⟩
  simp only [PyData.showable]
  exact decide_eq_true (log2_small (Nat.lt_of_lt_of_le (Nat.lt_trans h (show 10 ^ 12 < 2 ^ 64 by decide)) (Nat.pow_le_pow_right (by decide) (by decide))))
theorem Sm.non : Sm 13 1 .none := by
  refine ⟨by simp only [PyData.showable], by simp only [PyData.hasDict], by simp only [PyData.depth]; omega, ?_, by simp only [PyData.canLay0]⟩
  rw [PyData.shown_none]
  decide
theorem Sm.rep {K : PySem.W.Frag} {N k : Nat} {d : PyData} {a : Addr} {H : Hp} {Q : VK} (s : Sm N k d) (hN : N ≤ 100000) (hk : k ≤ 60) (hd : Dp K H (.ref a) d) (q : Q (.str d.shown) H) :
    rRepr K [.ref a] H Q :=
  ⟨a, d, rfl, hd, s.sh, s.nd, Nat.le_trans s.dp hk, szl (Nat.le_trans s.ln hN), q⟩

/-! ### values that bear data -/
mutual
theorem dp_mono {K : PySem.W.Frag} {H H' : Hp} (s : Same H H') : ∀ {d : PyData} {v : V}, Dp K H v d → Dp K H' v d
  | .none, _, h => by cases h; exact .non
  | .bool _, _, h => by cases h; exact .bl _
  | .int _, _, h => by cases h; exact .int _
  | .str _, _, h => by cases h; exact .str _
  | .list _, _, h => by
    cases h with
    | lst a b => exact .lst (s.seq a) (dpa_mono s b)
  | .tuple _, _, h => by
    cases h with
    | tup a b =>
      refine .tup ?_ (dpa_mono s b)
      rcases a with (a | ⟨o, a⟩) | a
      · exact .inl (.inl (s _ _ a))
      · exact .inl (.inr ⟨o, s _ _ a⟩)
      · exact .inr a
  | .dict _, _, h => by cases h
theorem dpa_mono {K : PySem.W.Frag} {H H' : Hp} (s : Same H H') : ∀ {ds : List PyData} {vs : List V}, DpAll K H vs ds → DpAll K H' vs ds
  | [], _, h => by cases h; exact .nil
  | _ :: _, _, h => by
    cases h with
    | cons a b => exact .cons (dp_mono s a) (dpa_mono s b)
end
theorem dpa_of {K : PySem.W.Frag} {H : Hp} : ∀ {vs : List V} {ds : List PyData}, Paired (Dp K H) vs ds → DpAll K H vs ds
  | _, _, .nil => .nil
  | _, _, .cons a b => .cons a (dpa_of b)
theorem dpa_ints {K : PySem.W.Frag} {H : Hp} : ∀ ns : List Int, DpAll K H (ns.map V.int) (ns.map PyData.int)
  | [] => .nil
  | n :: ns => .cons (.int n) (dpa_ints ns)
def dP (p : Int × Int) : PyData := .tuple [.int p.1, .int p.2]
def dL (L : List (Int × Int)) : PyData := .list (L.map dP)
def dI (ns : List Int) : PyData := .list (ns.map .int)
theorem dpa_prs {K : PySem.W.Frag} {H : Hp} : ∀ {xs : List V} {L : List (Int × Int)}, Prs H xs L → DpAll K H xs (L.map dP)
  | _, _, .nil => .nil
  | _, _, .cons ⟨t, e, h⟩ r => .cons (e ▸ .tup (sqt h) (.cons (.int _) (.cons (.int _) .nil))) (dpa_prs r)
theorem dp_lay {K : PySem.W.Frag} {H : Hp} {a : Addr} {xs : List V} {L : List (Int × Int)} (h : SqL K H a xs) (p : Prs H xs L) : Dp K H (.ref a) (dL L) := .lst h (dpa_prs p)
theorem dp_ints {K : PySem.W.Frag} {H : Hp} {a : Addr} {ns : List Int} (h : SqL K H a (ns.map V.int)) : Dp K H (.ref a) (dI ns) := .lst h (dpa_ints ns)
theorem sm_ints {ns : List Int} {N : Nat} (h : ∀ i ∈ ns, i.natAbs < 10 ^ 12) (hl : ns.length ≤ N) : Sm (15 * N + 3) 2 (dI ns) := by
  refine (Sm.lst (N := 13) (k := 1) (ds := ns.map .int) fun d hd => ?_).mono (by rw [List.length_map]; omega) (by omega)
  obtain ⟨i, hi, rfl⟩ := List.mem_map.mp hd
  exact Sm.int (h i hi)
theorem sm_lay {L : List (Int × Int)} {N : Nat} (h : ∀ p ∈ L, p.1.natAbs < 10 ^ 12 ∧ p.2.natAbs < 10 ^ 12) (hl : L.length ≤ N) : Sm (35 * N + 3) 3 (dL L) := by
  refine (Sm.lst (N := 33) (k := 2) (ds := L.map dP) fun d hd => ?_).mono (by rw [List.length_map]; omega) (by omega)
  obtain ⟨p, hp, rfl⟩ := List.mem_map.mp hd
  refine (Sm.tup (N := 13) (k := 1) (ds := [.int p.1, .int p.2]) fun d hd => ?_).mono (by show (13 + 2) * 2 + 3 ≤ 33; omega) (by omega)
  rcases List.mem_cons.mp hd with rfl | hd
  · exact Sm.int (h p hp).1
  · rw [List.mem_singleton.mp hd]; exact Sm.int (h p hp).2
theorem Lay.small {n : Int} {L : List (Int × Int)} (h : Lay n L) : Sm 2103 3 (dL L) := (sm_lay (N := 60) (fun p hp => by have := h.cp p hp; have := h.n60; omega) h.len).mono (by omega) (by omega)
/-- equal data are told equal, and not unequal -/
theorem r_eqD {K : PySem.W.Frag} {x y : V} {H : Hp} {Q : VK} {N k : Nat} {d : PyData} (hx : Dp K H x d) (hy : Dp K H y d) (s : Sm N k d) (hk : k ≤ 64) (q : Q (.bl true) H) : rEqD K x y H Q := ⟨d, d, hx, hy, s.shaped hk, s.shaped hk, by rw [SeqAt.eqv_refl d s.lay]; exact q⟩
theorem r_neD {K : PySem.W.Frag} {x y : V} {H : Hp} {Q : VK} {N k : Nat} {d : PyData} (hx : Dp K H x d) (hy : Dp K H y d) (s : Sm N k d) (hk : k ≤ 64) (q : Q (.bl false) H) : rNeD K x y H Q := ⟨d, d, hx, hy, s.shaped hk, s.shaped hk, by rw [SeqAt.eqv_refl d s.lay]; exact q⟩
end Vf
namespace Vf
open PySem PySem.Spec PyProof.Rows L2
theorem lay_ints (ns : List Int) : (dI ns).canLay0 = true ∧ SeqAt.shaped (dI ns) = true := by
  have h : ∀ ns : List Int, PyData.canLayAll0 (ns.map .int) = true ∧ PyData.depthAll (ns.map .int) = 0 := fun ns => by
    induction ns with
    | nil => exact ⟨by simp only [List.map_nil, PyData.canLayAll0], by simp only [List.map_nil, PyData.depthAll]⟩
    | cons n ns ih => exact ⟨by simp only [List.map_cons, PyData.canLayAll0, PyData.canLay0, ih.1, Bool.and_self], by simp only [List.map_cons, PyData.depthAll, PyData.depth, ih.2]; rfl⟩
  have h1 : (dI ns).canLay0 = true := by simp only [dI, PyData.canLay0, (h ns).1]
  refine ⟨h1, ?_⟩
  unfold SeqAt.shaped
  rw [h1, Bool.true_and]
  exact decide_eq_true (by simp only [dI, PyData.depth, (h ns).2]; omega)
theorem r_eqI1 {K : PySem.W.Frag} {x y : V} {H : Hp} {Q : VK} {ns : List Int} (hx : Dp K H x (dI ns)) (hy : Dp K H y (dI ns)) (q : Q (.bl true) H) : rEqD K x y H Q :=
  ⟨_, _, hx, hy, (lay_ints ns).2, (lay_ints ns).2, by rw [SeqAt.eqv_refl _ (lay_ints ns).1]; exact q⟩
theorem r_neI1 {K : PySem.W.Frag} {x y : V} {H : Hp} {Q : VK} {ns : List Int} (hx : Dp K H x (dI ns)) (hy : Dp K H y (dI ns)) (q : Q (.bl false) H) : rNeD K x y H Q :=
  ⟨_, _, hx, hy, (lay_ints ns).2, (lay_ints ns).2, by rw [SeqAt.eqv_refl _ (lay_ints ns).1]; exact q⟩
/-- None or an int -/
def vO (o : Option Int) : V := (o.map V.int).getD .non
def dO (o : Option Int) : PyData := (o.map PyData.int).getD .none
theorem dp_opt {K : PySem.W.Frag} {H : Hp} (o : Option Int) : Dp K H (vO o) (dO o) := by
  cases o with
  | none => exact .non
  | some i => exact .int i
theorem dpa_opts {K : PySem.W.Frag} {H : Hp} : ∀ os : List (Option Int), DpAll K H (os.map vO) (os.map dO)
  | [] => .nil
  | o :: os => .cons (dp_opt o) (dpa_opts os)
theorem sm_opts {os : List (Option Int)} {N : Nat} (h : ∀ i, some i ∈ os → i.natAbs < 10 ^ 12) (hl : os.length ≤ N) : Sm (15 * N + 3) 2 (.list (os.map dO)) := by
  refine (Sm.lst (N := 13) (k := 1) (ds := os.map dO) fun d hd => ?_).mono (by rw [List.length_map]; omega) (by omega)
  obtain ⟨o, ho, rfl⟩ := List.mem_map.mp hd
  cases o with
  | none => exact Sm.non
  | some i => exact Sm.int (h i ho)
theorem par_mem {n : Int} {L : List (Int × Int)} (hL : Lay n L) {e i : Int} (h : parI L e = some i) : -n ≤ i ∧ i ≤ n ∧ i ≠ 0 := by
  unfold parI at h
  obtain ⟨q, hq, rfl⟩ := Option.map_eq_some_iff.mp h
  have hm := List.mem_of_find?_eq_some hq
  unfold tabI at hm
  obtain ⟨p, hp, hm⟩ := List.mem_flatMap.mp hm
  have := hL.cp p hp
  simp only [List.mem_cons, List.not_mem_nil, or_false] at hm
  rcases hm with rfl | rfl
  · exact ⟨by show -n ≤ p.2; omega, this.2.2.1, this.2.2.2.2⟩
  · exact ⟨this.1, by show p.1 ≤ n; omega, this.2.2.2.1⟩
theorem r_clear {l : Addr} {xs : List V} {H : Hp} {Q : VK} (hl : H l = some (.lst xs)) (h : Q .non (upd H l (.lst []))) : rClear (.ref l) [] H Q := ⟨l, xs, rfl, rfl, hl, h⟩
theorem log_small {i : Int} (h : i.natAbs < 2 ^ 1000) : i.natAbs.log2 < 1920 := log2_small (Nat.lt_of_lt_of_le h (Nat.pow_le_pow_right (by decide) (by decide)))
end Vf

namespace Vf
open PySem PySem.Spec PyProof.Rows L2 NdefX ClX

/-! ### own errors whose __init__ asks super() -/
/-- the object of a class of errors, over ValueError at last -/
def ErrAt (h : Heap) (C : Addr) : Prop := ∃ (nm q : Str) (ns : Addr) (bs ms : List Value) (sn : List Str) (sub : List Value) (ab : Bool) (co : Option Bool) (di : Option Addr) (k0 k1 k2 k3 k5 : Option Value),
  h.get? C = some (excClassObj nm q C ns bs ms true sn sub ab co di k0 k1 k2 k3 k5 "ValueError.__new__") ∧ PySem.HandSPX.refsVE ms = true
theorem OexC.at_ {K : PySem.W.Frag} {C : Addr} {h : Heap} (T : OexC K C) (X : K.In h) : ErrAt h C := by
  obtain ⟨nm, q, ns, bs, ms, sn, sub, ab, co, di, k0, k1, k2, k3, k5, e, r⟩ := T.cls
  exact ⟨nm, q, ns, bs, ms, sn, sub, ab, co, di, k0, k1, k2, k3, k5, X _ _ e, r⟩
/-- the wrapper of ValueError.__init__, bound to a new error, called: the error stays as it is but for the place of its arguments -/
theorem call_mwV {P : Program} {w : World} {A : Around} {E : Value → Shared → Prop} {s : Shared} {u a C t0 : Addr} {us : List Value} {Q : Value → Shared → Prop} (hC : ErrAt s.heap C) (ha : s.heap.get? a = some (HandSPX.excO C t0))
    (hu : s.heap.get? u = some (PySem.W.kxs_mw "ValueError.__init__" a)) (few : us.length ≤ sizeLine) (next : ∀ (hp : Heap) (t1 : Addr), (∀ b o, b ≠ a → s.heap.get? b = some o → hp.get? b = some o) → hp.get? a = some (HandSPX.excO C t1) → Q .none { s with heap := hp }) :
    wpAny (model P w) A (call (.ref u) us) Q E s := by
  obtain ⟨hp, gs, dn, tk, os⟩ := s
  obtain ⟨nm, q, ns, bs, ms, sn, sub, ab, co, di, k0, k1, k2, k3, k5, hcls, _⟩ := hC
  have V := PySem.F.excBase_ValueError
  have wrap : (Value.type "method-wrapper" == Value.type "method" || Value.type "method-wrapper" == Value.type "builtin_function_or_method" || Value.type "method-wrapper" == Value.type "method-wrapper") = true := by decide
  have last : ∀ hh : Heap, (∀ b o, b ≠ a → hp.get? b = some o → hh.get? b = some o) → hh.get? a = some (HandSPX.excO C hp.objs.size) → Q .none ⟨hh, gs, dn, tk, os⟩ := fun hh k e => next hh _ k e
  refine wpAny_call (codeAny_of_tree (show wpAny (model P w) A.in1 (callAny (.ref u) ⟨us, []⟩) _ _ _ from ?_))
  unfold callAny
  refine wpAny_bind (wpAny_load hu (?_ : wpAny _ _ _ _ _ _))
  simp only [wrap, if_true]
  refine PySem.W.KFB.if_so (by decide) (wpAny_bind (PySem.W.check_bound_init V.toExcCallFacts hcls ha rfl (wpAny_bind (wpAny_pure (wpAny_pure ⟨plainId_quiet V.init.plain _, codeAny_builtin V.initEntry ?_⟩)))))
  exact PySem.W.exc_init_tree (cls := .ref C) (t0 := t0) (dv := none) (c2 := .none) (c3 := .none) (b4 := .bool false) ha few fun hh k e _ => last hh k e

/-- what stands above a class D in the order of lookup says ValueError.__init__ -/
abbrev supV (K : PySem.W.Frag) (D : Addr) : Prop := PySem.W.ks_superIn K D D "__init__" = some (some (.builtin "ValueError.__init__"))

/-- how the flow of such a body ends the call -/
theorem ends_n {CX : CXT} {P : Program} {w : World} {K : PySem.W.Frag} {mg : Str → Option Value} {base : Heap} {N : List Str} {F : NF} {f : Addr} {A : Around} {outer : List Env} {s s' : Shared} {H : Hp} {Q : VK} {E : XK} {fl : Flow}
    (h : SP (ncx CX P w K mg base N F f A outer s H E) [] { nx := fun _ H' => Q .non H', rt := Q } fl s') : CE outer P w H s Q (match fl with | .ret v => v | _ => .none) s' := by
  match fl, h with
  | .ret u, ⟨v, _, H', J, rv, q⟩ => exact ⟨v, H', J.os, J.bare, J.base, J.hok, rv, q⟩
  | .next, ⟨_, H', J, q⟩ => exact ⟨.non, H', J.os, J.bare, J.base, J.hok, rfl, q⟩
  | .brk, ⟨_, _, _, q⟩ => exact q.elim
  | .cont, ⟨_, _, _, q⟩ => exact q.elim

theorem fn_sup {CX : CXT} {P : Program} {w : World} {K : PySem.W.Frag} {mg : Str → Option Value} {base : Heap} {k : Nat} {f c cc C : Addr} {name qual file : Str} {params : Arguments} {scope : Scope} {ar : Arg} {e : Expr} {rest : List Stmt} {p0 p1 p2 p3 p4 : Pos}
    {kV doc pm ct oc ccl cl : Value} {an od cdd cld : Option Addr} {osl ccs csl : Array (Option Value)} {vs0 : Array Value} {tf : Tok} {N ps : List Str} {sp : Sp} {pl : Sem Bool}
    (lk : K.lookup f = some ⟨oc, od, .func (PySem.W.fnX name qual params (.Expr (.Call (.Attribute (.Call (.Name "super" p0) [] [] p1) "__init__" p2) [e] [] p3) p4 :: rest) scope [("__class__", cc)] .none kV doc pm an (.ref c) ct), osl⟩)
    (hcd : PySem.W.codeIn K (.ref c) qual = true) (S : NScope N ps ["__class__"] scope)
    (lcc : K.lookup cc = some ⟨cl, cld, .cell (some (.ref C)), csl⟩) (hp : (params.posonlyargs ++ params.args).head? = some ar) (eps : ps.head? = some ar.arg)
    (lc : K.lookup c = some ⟨ccl, cdd, .fields vs0, ccs⟩) (hvs : vs0[2]? = some (.str file tf)) (hfile : ((P.main.file : Str) == file) = true) (hsuper : mg "super" = none)
    (htop : (P.main.scope.names.lookup ("super" : Str)).isSome = false) (hst : PySem.W.nsIn K cStatics "thirdparty.any" = some none) (hks : scope.names.lookup ("super" : Str) = some .globalImplicit)
    (T : OexC K C) (sV : supV K C) (vE : PySem.W.subIn K (.ref C) (.type "ValueError") = some true)
    (hev : ∀ L, eval (.Call (.Attribute (.Call (.Name "super" p0) [] [] p1) "__init__" p2) [e] [] p3) (PySem.W.envX qual scope L f (.ref c) [("__class__", cc)]) = (do
      let ov ← attributeBase (.Call (.Name "super" p0) [] [] p1) "__init__" (PySem.W.envX qual scope L f (.ref c) [("__class__", cc)]) (eval (.Call (.Name "super" p0) [] [] p1) (PySem.W.envX qual scope L f (.ref c) [("__class__", cc)]))
      standAt p2.atName
      let (ff, first) ← holding [ov] (getMethod ov "__init__" pl)
      callWith p3 ff first (backTo p3 (starEach [e] (PySem.W.envX qual scope L f (.ref c) [("__class__", cc)]))) []))
    (hi : ∀ L, interactive (PySem.W.envX qual scope L f (.ref c) [("__class__", cc)]) = false) (hsw : ∀ L, swapsWith (.Call (.Attribute (.Call (.Name "super" p0) [] [] p1) "__init__" p2) [e] [] p3) none p4.line (PySem.W.envX qual scope L f (.ref c) [("__class__", cc)]) = pure false)
    (hse : ∀ L, starEach [e] (PySem.W.envX qual scope L f (.ref c) [("__class__", cc)]) = [(false, eval e (PySem.W.envX qual scope L f (.ref c) [("__class__", cc)]))])
    (len : ∀ vs H Q E, sp vs H Q E → vs.length = ps.length)
    (hb : ∀ (A : Around) (outer : List Env) (s : Shared) (H : Hp) (vs : List V) (Q : VK) (E : XK), Room k (A.deeper (envF ⟨name, qual, params, .Expr (.Call (.Attribute (.Call (.Name "super" p0) [] [] p1) "__init__" p2) [e] [] p3) p4 :: rest, scope, [("__class__", cc)], c⟩ f s.heap.objs.size)) → sp vs H Q E →
      ∃ a ws, vs = .ref a :: ws ∧ H a = some (exo a C none) ∧ ∃ ta, PA (ncx CX P w K mg base N ⟨name, qual, params, .Expr (.Call (.Attribute (.Call (.Name "super" p0) [] [] p1) "__init__" p2) [e] [] p3) p4 :: rest, scope, [("__class__", cc)], c⟩ f A outer s H E) [e] ta ∧
        ∃ t, PSs (ncx CX P w K mg base N ⟨name, qual, params, .Expr (.Call (.Attribute (.Call (.Name "super" p0) [] [] p1) "__init__" p2) [e] [] p3) p4 :: rest, scope, [("__class__", cc)], c⟩ f A outer s H E) rest t ∧
          ta (startF N vs [none]) H (fun us H1 => us.length ≤ 1000 ∧ H1 a = some (exo a C none) ∧ t { nx := fun _ H' => Q .non H', rt := Q } (startF N vs [none]) H1)) :
    FnOk P w K mg base CX (k + 1) f (PySem.W.fnX name qual params (.Expr (.Call (.Attribute (.Call (.Name "super" p0) [] [] p1) "__init__" p2) [e] [] p3) p4 :: rest) scope [("__class__", cc)] .none kV doc pm an (.ref c) ct) ps sp := by
  refine ⟨len, fun A outer s H args us vs Q E hr e0 hbd r hsp => ?_⟩
  obtain ⟨a, ws, rfl, ea, ta, hta, t, ht, hq⟩ := hb A outer s H vs Q E (hr.deeper _) hsp
  have hl := len _ _ _ _ hsp
  have keep : ∀ b o, base.get? b = some o → s.heap.get? b = some o := fun b o z => (e0.bs b o z).1
  have KX : K.In s.heap := e0.mod.kin.keeps keep
  have lim : s.heap.NoLimit := e0.mod.nolimit.keeps keep
  refine ks_codeAny_call_defAt hr.depth (KX _ _ lk) rfl lim (PySem.W.codeRec_of KX hcd) rfl hbd S.nocell (fun y hy => S.par y.1 (List.of_mem_zip (show (y.1, y.2) ∈ ps.zip us from hy)).1) (fun h₁ hns hk => ?_) S.co S.gen S.kind
  have CA : CellsAt [(("__class__" : Str), cc)] ["__class__"] [none] s.heap H := by
    refine ⟨rfl, fun y b e1 => ?_, fun x y b e1 e2 => ?_, fun i y e1 => ?_⟩
    · have hbb : b = cc := by
        by_cases hy : y = "__class__"
        · subst hy
          simp [List.lookup] at e1
          exact e1.symm
        · have : (y == ("__class__" : Str)) = false := by simpa using hy
          simp [List.lookup, this] at e1
      subst hbb
      exact ⟨(e0.bs _ _ (e0.mod.kin _ _ lcc)).2, _, _, KX _ _ lcc, rfl⟩
    · have one : ∀ z, List.lookup z [(("__class__" : Str), cc)] = some b → z = "__class__" := fun z hz => by
        by_cases hy : z = "__class__"
        · exact hy
        · have : (z == ("__class__" : Str)) = false := by simpa using hy
          simp [List.lookup, this] at hz
      rw [one x e1, one y e2]
    · cases i with
      | zero =>
        simp at e1
        subst e1
        exact ⟨cc, by simp [List.lookup], fun v hv => by simp at hv⟩
      | succ j => simp at e1
  have I := inv_startN (CX := CX) (F := ⟨name, qual, params, .Expr (.Call (.Attribute (.Call (.Name "super" p0) [] [] p1) "__init__" p2) [e] [] p3) p4 :: rest, scope, [("__class__", cc)], c⟩) (f := f) (E := E) (tk := s.toks + (ps.zip us).length) S hr.hd e0 hl r CA hns hk
  obtain ⟨u0, us', rfl, ru0, rus⟩ : ∃ u0 us', us = u0 :: us' ∧ RelV (.ref a) u0 ∧ Vals ws us' := by
    cases r with
    | cons ru rr => exact ⟨_, _, rfl, ru, rr⟩
  obtain rfl : u0 = Value.ref a := ru0
  have ndP : ps.Nodup := by
    have q := S.nd.sublist (List.take_sublist (ps.length + 1) N)
    have q2 := S.pre
    rw [show ps.length + [("__class__" : Str)].length = ps.length + 1 from rfl] at q2
    rw [q2] at q
    exact (List.nodup_append.mp q).1
  have hself : (fun y => (ps.zip (Value.ref a :: us')).reverse.lookup y) ar.arg = some (.ref a) := by
    refine zip_look (i := 0) ndP ?_ rfl
    rw [← eps, List.head?_eq_getElem?]
  have hlocal : scope.names.lookup ar.arg = some .local := S.par ar.arg (by
    cases ps with
    | nil => simp at eps
    | cons p ps => simp at eps; rw [eps]; exact List.mem_cons_self)
  have hfree : scope.names.lookup ("__class__" : Str) = some .free := S.frk _ (by simp)
  obtain ⟨nm', q', N', bs', bm', sn', sub', ab', col', dd', k0', k1', k2', k3', k5', hCk, hbm⟩ := T.cls
  have hcl : PySem.W.clsIn K C = some { name := nm', bases := bs', mro := .ref C :: bm', ns := N', qualname := q', hasDict := true, slotNames := sn', subclasses := sub', abstract := ab', collection := col', hasDel := false } := by unfold PySem.W.clsIn; rw [hCk] <;> rfl
  show _root_.PySem.wpAt (model P w) (A.deeper (envF ⟨name, qual, params, .Expr (.Call (.Attribute (.Call (.Name "super" p0) [] [] p1) "__init__" p2) [e] [] p3) p4 :: rest, scope, [("__class__", cc)], c⟩ f s.heap.objs.size)) (.func (.Expr (.Call (.Attribute (.Call (.Name "super" p0) [] [] p1) "__init__" p2) [e] [] p3) p4 :: rest) (PySem.W.envX qual scope s.heap.objs.size f (.ref c) [("__class__", cc)])) (execs (.Expr (.Call (.Attribute (.Call (.Name "super" p0) [] [] p1) "__init__" p2) [e] [] p3) p4 :: rest) (PySem.W.envX qual scope s.heap.objs.size f (.ref c) [("__class__", cc)])) _ _ _
  refine ks_wpAt_execs_cons (ks_wpAt_Expr_any (ks_wpAt_MethodCall ?_ (hev _)) (hi _) (hsw _))
  have KX1 : K.In h₁ := KX.keeps hk
  refine ks_wpAt_super_base hks hfree (by decide) rfl (KX1 _ _ lk) rfl hp rfl (KX1 _ _ lc) rfl hvs hfile htop ?_
  obtain ⟨mb, hmb1, hmb2⟩ := e0.mod.blt
  have bk : ∀ b o, base.get? b = some o → h₁.get? b = some o := fun b o z => hk b o (keep b o z)
  refine PySem.W.ks_loadName_global S.kind hks (Calls.loadGlobal_builtin (e0.mod.glob.keeps bk) hsuper (hmb1.keeps bk) ((hmb2 _ (by decide)).trans (show bootBuiltins "super" = some (.type "super") by decide +kernel)) ⟨rfl, ?_⟩)
  refine wpAny_loadName_free S.kind hfree rfl ⟨_, KX1 _ _ lcc, rfl⟩ ?_
  refine wpAny_loadName_local S.kind hlocal hns hself ?_
  refine ks_wpAny_isType_cls (KX1 _ _ hCk) rfl ⟨rfl, ?_⟩
  have hok1 := I.hok
  obtain ⟨t1, hax⟩ := exo_at (show HOk P w H h₁ from I.hok) ea
  have sub0 : PySem.W.mroIn K C (.ref C) = some true := by
    unfold PySem.W.mroIn
    rw [hcl]
    simp
  refine ks_wpAny_call_super (KX1 _ _ hCk) rfl hax rfl (fun c e => by cases e) (PySem.W.looks_mroIn KX1 sub0) (fun h2 e2 k2 => ?_)
  have I2 := pin_new (t' := s.toks + (ps.zip (Value.ref a :: us')).length) I k2 (Nat.le_refl _) e2 (fun v z => by cases z)
  have KX2 : K.In h2 := KX1.keeps k2
  have hax2 := k2 _ _ hax
  have IA : PySem.W.InstAt h2 a { cls := .ref C, dict := none, data := .fields #[.ref t1, .none, .none, .none, .bool false, .none] } C none := ⟨hax2, rfl, rfl, trivial⟩
  have aC : a ≠ C := PySem.W.ks_ne KX2 IA hcl
  have sV' : PySem.W.alongIn K "__init__" (((Value.ref C :: bm').dropWhile (· != .ref C)).drop 1) = some (some (.builtin "ValueError.__init__")) := by
    have z : PySem.W.ks_superIn K C C "__init__" = some (some (.builtin "ValueError.__init__")) := sV
    unfold PySem.W.ks_superIn at z
    rw [hcl] at z
    exact z
  refine PySem.W.kxs_getMethod PySem.W.kxs_ValueError e2 (PySem.W.looks_opaque KX2 hst) (l₀ := .ref C :: bm') (fun A Q E s k q => wpAny_bind ((PySem.W.looks_clsIn KX2 hcl) A _ E s k (wpAny_pure q))) rfl KX2 sV' (IA.type.andThen (PySem.W.looks_subIn KX2 vE)) aC (by decide) ?_
  have I3 := pin_new (t' := s.toks + (ps.zip (Value.ref a :: us')).length + 1) I2 (h' := h2.push (PySem.W.kxs_mw "ValueError.__init__" a)) (fun b o z => Heap.get?_push_of_some _ z) (Nat.le_refl _) (Heap.get?_push_at rfl rfl) (fun v z => by cases z)
  refine PySem.W.kxs_callWith (i := "ValueError.__init__") (x := a) (by rw [hse]; rfl) ?_
  have hz := (hta.run p3 _ _ _ _ _ I3 hq)
  have e3 : backTo p3 (starEach [e] (PySem.W.envX qual scope s.heap.objs.size f (.ref c) [("__class__", cc)])) = [(false, eval e (PySem.W.envX qual scope s.heap.objs.size f (.ref c) [("__class__", cc)]))] := by
    rw [hse]; rfl
  rw [e3]
  replace hz : wpAny (model P w) (A.deeper (envF ⟨name, qual, params, .Expr (.Call (.Attribute (.Call (.Name "super" p0) [] [] p1) "__init__" p2) [e] [] p3) p4 :: rest, scope, [("__class__", cc)], c⟩ f s.heap.objs.size)) (spliced (backTo p3 (starEach [e] (PySem.W.envX qual scope s.heap.objs.size f (.ref c) [("__class__", cc)])))) _ _ _ := hz
  rw [e3] at hz
  refine Calls.evalArgs_plain (wpAny_mono hz (fun vs4 s4 h4 => ?_) fun _ _ z => z)
  obtain ⟨vs', H4, I4, r4, hlen, ea4, q4⟩ := h4
  have hu := pin_at I4
  refine ⟨hu, ?_⟩
  obtain ⟨hp4, g4, d4, tk4, os4⟩ := s4
  obtain ⟨t4, hax4⟩ := exo_at I4.hok ea4
  refine call_mwV (OexC.at_ T I4.kIn) hax4 hu (by rw [List.nil_append, ← Paired.length r4, sizeLine_eq]; omega) fun h5 t5 k5 hx5 => ?_
  have J := I4.write (t' := tk4) (x := a) (e := a) (o := exo a C none) (by rw [ea4]; exact True.intro) (.inl rfl) k5 ⟨_, hx5⟩ (exo_ok hx5)
  have eu : upd H4 a (exo a C none) = H4 := by
    funext b
    by_cases hb : b = a
    · rw [hb, upd_same, ea4]
    · rw [upd_ne hb]
  rw [eu] at J
  refine wpAt_of_wpAny (wpAny_mono (ht.run _ _ _ _ _ (unpin (unpin J)) q4) (fun fl s' hs => ?_) fun e s' hs => hs)
  have z := ends_n hs
  cases fl <;> exact z

/-! ### the text of such an error, and its field -/
/-- None or an int that is not too long -/
def Easy (v : V) : Prop := v = .non ∨ ∃ i : Int, v = .int i ∧ i.natAbs.log2 < 1920
theorem easy_text {i : Int} (h : i.natAbs.log2 < 1920) : ((toString i : String) : Str).length ≤ 2000 := by
  have e := int_text_length_le (k := 1920) (by decide) h
  show (Str.ofString (toString i)).length ≤ 2000
  rw [PySem.ofString_length]
  omega
section
variable {X : Cx}
theorem pe_fmtE {e : Expr} {te : TE} {pos : Pos} (he : PE X e te) : PE X (.FormattedValue e (-1) none pos) (fun σ H Q => te σ H fun x H1 => Easy x ∧ ∀ m : Str, m.length ≤ 2000 → Q (.str m) H1) := by
  constructor
  intro pins s σ H Q I h
  apply wpAny_FormattedValue_plain
  refine thn (he.run pins s σ H _ I h) ?_
  rintro v s1 ⟨_, H1, J, r, rfl | ⟨i, rfl, hi⟩, q⟩
  · cases (show v = Value.none from r)
    exact wpAny_formatField_none ⟨.str "None", H1, J.tok _, ⟨_, rfl⟩, q _ (by decide)⟩
  · obtain ⟨_, rfl⟩ := r
    exact wpAny_formatField_int hi ⟨.str (toString i), H1, J.tok _, ⟨_, rfl⟩, q _ (easy_text hi)⟩
/-- a part of an error's text -/
inductive Part (par : Str) : Expr → Prop where
  | cst (s : Str) (j : Nat) (p : Pos) (h : s.length ≤ 2000) : Part par (.Constant (.str s) j p)
  | fmt (p p' : Pos) : Part par (.FormattedValue (.Name par p) (-1) none p')
theorem parts_ok {par : Str} {i : Nat} (hN : X.N[i]? = some par) (hv : Vis X.env.scope par) (hd : (par == ("__debug__" : Str)) = false) (hcd : (par == ("__classdict__" : Str)) = false) :
    ∀ l : List Expr, (∀ e ∈ l, Part par e) → ∃ ts, PJ X l ts ∧ ∀ (acc : Str) (σ : L2.St) (H : Hp) (v : V) (Q : Str → Hp → Prop), σ[i]? = some (some v) → Easy v → acc.length + 2000 * l.length ≤ sizeLine → (∀ m, Q m H) → tJs ts acc σ H Q
  | [], _ => ⟨[], .nil, fun acc σ H v Q _ _ _ q => q acc⟩
  | e :: l, h => by
    obtain ⟨ts, hp, ht⟩ := parts_ok hN hv hd hcd l fun x hx => h x (List.mem_cons_of_mem _ hx)
    cases h e List.mem_cons_self with
    | cst s j p hs =>
      refine ⟨_ :: ts, .cons pe_str hp, fun acc σ H v Q e1 ev hz q => ?_⟩
      rw [List.length_cons] at hz
      refine ⟨s, rfl, by rw [strLen_append]; omega, ht _ σ H v Q e1 ev (by rw [strLen_append]; omega) q⟩
    | fmt p p' =>
      refine ⟨_ :: ts, .cons (pe_fmtE (pe_var hN hv hd hcd)) hp, fun acc σ H v Q e1 ev hz q => ?_⟩
      rw [List.length_cons] at hz
      exact ⟨v, e1, ev, fun m hm => ⟨m, rfl, by rw [strLen_append]; omega, ht _ σ H v Q e1 ev (by rw [strLen_append]; omega) q⟩⟩
end

/-- what __init__ of an error with a field does -/
def spErr (fld : Str) (C : Addr) : Sp := fun vs H Q _ => ∃ a v, vs = [.ref a, v] ∧ H a = some (exo a C none) ∧ Easy v ∧ ∀ dx, H dx = none → dx ≠ a → Q .non (upd (upd H dx (exd dx [(fld, v)])) a (exo a C (some dx)))

theorem ok_err {CX : CXT} {P : Program} {w : World} {K : PySem.W.Frag} {mg : Str → Option Value} {base : Heap} {k : Nat} {f c cc C : Addr} {name qual file par fld : Str} {params : Arguments} {scope : Scope} {ar : Arg} {v1 v2 : Expr} {vr : List Expr} {p0 p1 p2 p3 p4 p5 p6 p7 p8 pj : Pos}
    {kV doc pm ct oc ccl cl : Value} {an od cdd cld : Option Addr} {osl ccs csl : Array (Option Value)} {vs0 : Array Value} {tf : Tok} {pl : Sem Bool}
    (lk : K.lookup f = some ⟨oc, od, .func (PySem.W.fnX name qual params [.Expr (.Call (.Attribute (.Call (.Name "super" p0) [] [] p1) "__init__" p2) [.JoinedStr (v1 :: v2 :: vr) pj] [] p3) p4, .Assign [.Attribute (.Name "self" p5) fld p6] (.Name par p7) p8] scope [("__class__", cc)] .none kV doc pm an (.ref c) ct), osl⟩)
    (hcd : PySem.W.codeIn K (.ref c) qual = true) (S : NScope ["self", par, "__class__"] ["self", par] ["__class__"] scope)
    (lcc : K.lookup cc = some ⟨cl, cld, .cell (some (.ref C)), csl⟩) (hp : (params.posonlyargs ++ params.args).head? = some ar) (eps : ar.arg = "self")
    (lc : K.lookup c = some ⟨ccl, cdd, .fields vs0, ccs⟩) (hvs : vs0[2]? = some (.str file tf)) (hfile : ((P.main.file : Str) == file) = true) (hsuper : mg "super" = none)
    (htop : (P.main.scope.names.lookup ("super" : Str)).isSome = false) (hst : PySem.W.nsIn K cStatics "thirdparty.any" = some none) (hks : scope.names.lookup ("super" : Str) = some .globalImplicit)
    (T : OexC K C) (sV : supV K C) (vE : PySem.W.subIn K (.ref C) (.type "ValueError") = some true) (hno : PySem.W.findIn K (.ref C) fld = some none)
    (hev : ∀ L, eval (.Call (.Attribute (.Call (.Name "super" p0) [] [] p1) "__init__" p2) [.JoinedStr (v1 :: v2 :: vr) pj] [] p3) (PySem.W.envX qual scope L f (.ref c) [("__class__", cc)]) = (do
      let ov ← attributeBase (.Call (.Name "super" p0) [] [] p1) "__init__" (PySem.W.envX qual scope L f (.ref c) [("__class__", cc)]) (eval (.Call (.Name "super" p0) [] [] p1) (PySem.W.envX qual scope L f (.ref c) [("__class__", cc)]))
      standAt p2.atName
      let (ff, first) ← holding [ov] (getMethod ov "__init__" pl)
      callWith p3 ff first (backTo p3 (starEach [.JoinedStr (v1 :: v2 :: vr) pj] (PySem.W.envX qual scope L f (.ref c) [("__class__", cc)]))) []))
    (hi : ∀ L, interactive (PySem.W.envX qual scope L f (.ref c) [("__class__", cc)]) = false) (hsw : ∀ L, swapsWith (.Call (.Attribute (.Call (.Name "super" p0) [] [] p1) "__init__" p2) [.JoinedStr (v1 :: v2 :: vr) pj] [] p3) none p4.line (PySem.W.envX qual scope L f (.ref c) [("__class__", cc)]) = pure false)
    (hse : ∀ L, starEach [.JoinedStr (v1 :: v2 :: vr) pj] (PySem.W.envX qual scope L f (.ref c) [("__class__", cc)]) = [(false, eval (.JoinedStr (v1 :: v2 :: vr) pj) (PySem.W.envX qual scope L f (.ref c) [("__class__", cc)]))])
    (hs2 : ∀ L, swapsWith (.Name par p7) (some (.Attribute (.Name "self" p5) fld p6)) p8.line (PySem.W.envX qual scope L f (.ref c) [("__class__", cc)]) = pure false)
    (parts : ∀ e ∈ v1 :: v2 :: vr, Part par e) (few : vr.length ≤ 100) (hd : (par == ("__debug__" : Str)) = false) (hcd2 : (par == ("__classdict__" : Str)) = false) :
    FnOk P w K mg base CX (k + 1) f (PySem.W.fnX name qual params [.Expr (.Call (.Attribute (.Call (.Name "super" p0) [] [] p1) "__init__" p2) [.JoinedStr (v1 :: v2 :: vr) pj] [] p3) p4, .Assign [.Attribute (.Name "self" p5) fld p6] (.Name par p7) p8] scope [("__class__", cc)] .none kV doc pm an (.ref c) ct) ["self", par] (spErr fld C) := by
  refine fn_sup (N := ["self", par, "__class__"]) lk hcd S lcc hp (by rw [eps]; rfl) lc hvs hfile hsuper htop hst hks T sV vE hev hi hsw hse (fun vs H Q E h => ?_) (fun A outer s H vs Q E hr h => ?_)
  · obtain ⟨_, _, rfl, _⟩ := h
    rfl
  · obtain ⟨a, v, rfl, ea, ev, q⟩ := h
    have lself : scope.names.lookup ("self" : Str) = some .local := S.par _ (by simp)
    have lpar : scope.names.lookup par = some .local := S.par _ (by simp)
    obtain ⟨ts, hpj, htj⟩ := parts_ok (X := ncx CX P w K mg base ["self", par, "__class__"] ⟨name, qual, params, [.Expr (.Call (.Attribute (.Call (.Name "super" p0) [] [] p1) "__init__" p2) [.JoinedStr (v1 :: v2 :: vr) pj] [] p3) p4, .Assign [.Attribute (.Name "self" p5) fld p6] (.Name par p7) p8], scope, [("__class__", cc)], c⟩ f A outer s H E) (par := par) (i := 1) rfl (Or.inl lpar) hd hcd2 _ parts
    refine ⟨a, [v], rfl, ea, _, pa_cons (pe_joined hpj) pa_nil (hse _), _, pss_one (ps_ost (pe_var (i := 0) rfl (Or.inl lself)) (pe_var (i := 1) rfl (Or.inl lpar) hd hcd2) (hs2 _)), ?_⟩
    refine htj Str.empty _ H v _ rfl ev ?_ fun m => ?_
    · rw [sizeLine_eq, List.length_cons, List.length_cons]
      show 0 + _ ≤ _
      omega
    · exact ⟨(show 1 ≤ 1000 by decide), ea, v, rfl, .ref a, rfl, a, C, rfl, T, hno, .inl ⟨ea, fun dx n ne => q dx n ne⟩⟩

/-! ### own errors as values -/
structure ErrC (K : PySem.W.Frag) (C : Addr) : Prop where
  ox : OexC K C
  xf : XfC K C
  ac : PySem.W.findIn K (.ref C) "__class__" = some (some (.builtin "object.__class__"))
  nc : PySem.W.specialIn K (.builtin "object.__class__") "__get__" = some (some (.builtin "getset_descriptor.__get__"))
  tc : PySem.W.takesIn K (.builtin "object.__class__") = some true
  mo : PySem.W.mroIn K C (.type "object") = some true
  ve : PySem.W.subIn K (.ref C) (.type "ValueError") = some true
def oexB (K : PySem.W.Frag) (C : Addr) : Bool := match K.lookup C with
  | some ⟨.type "type", _, .cls ⟨_, _, .ref D :: ms, _, _, true, _, _, _, _, false⟩, ⟨[_, _, _, _, some (.builtin n), _]⟩⟩ => D == C && n == "ValueError.__new__" && PySem.HandSPX.refsVE ms
  | _ => false
def errB (K : PySem.W.Frag) (C : Addr) : Bool :=
  oexB K C && decide (PySem.W.findIn K (.ref C) "__setattr__" = some (some (.builtin "object.__setattr__"))) && decide (PySem.W.typeIn K (.ref C) = some (.type "type")) && PySem.W.keepIn K (.ref C) && xfB K C
    && decide (PySem.W.findIn K (.ref C) "__class__" = some (some (.builtin "object.__class__"))) && decide (PySem.W.specialIn K (.builtin "object.__class__") "__get__" = some (some (.builtin "getset_descriptor.__get__")))
    && decide (PySem.W.takesIn K (.builtin "object.__class__") = some true) && decide (PySem.W.mroIn K C (.type "object") = some true) && decide (PySem.W.subIn K (.ref C) (.type "ValueError") = some true)
theorem oexB_ok {K : PySem.W.Frag} {C : Addr} (h : oexB K C = true) : ∃ nm q ns bs ms sn sub ab co di k0 k1 k2 k3 k5, K.lookup C = some (excClassObj nm q C ns bs ms true sn sub ab co di k0 k1 k2 k3 k5 "ValueError.__new__") ∧ PySem.HandSPX.refsVE ms = true := by
  unfold oexB at h
  split at h
  · rename_i look
    have h1 := Bool.and_eq_true_iff.mp h
    have h2 := Bool.and_eq_true_iff.mp h1.1
    have e1 := beq_iff_eq.mp h2.1
    have e2 := beq_iff_eq.mp h2.2
    subst e1 e2
    exact ⟨_, _, _, _, _, _, _, _, _, _, _, _, _, _, _, look, h1.2⟩
  · exact absurd h Bool.false_ne_true
theorem errB_ok {K : PySem.W.Frag} {C : Addr} (h : errB K C = true) : ErrC K C := by
  unfold errB at h
  simp only [Bool.and_eq_true, decide_eq_true_eq] at h
  obtain ⟨⟨⟨⟨⟨⟨⟨⟨⟨h1, h2⟩, h3⟩, h4⟩, h5⟩, h6⟩, h7⟩, h8⟩, h9⟩, h10⟩ := h
  have x := xfB_ok h5
  exact ⟨⟨oexB_ok h1, h2, x.exC, h3, h4⟩, x, h6, h7, h8, h9, h10⟩

/-- at a: an error of the class C, with a field or without -/
def ExV (H : Hp) (a C : Addr) : Prop := H a = some (ExO (.ref C) a) ∨ ∃ dx fs, H a = some (exo a C (some dx)) ∧ H dx = some (exd dx fs)
def ExF (H : Hp) (a C : Addr) (f : Str) (v : V) : Prop := ∃ dx, H a = some (exo a C (some dx)) ∧ H dx = some (exd dx [(f, v)])
theorem ExF.ev {H : Hp} {a C : Addr} {f : Str} {v : V} (h : ExF H a C f v) : ExV H a C := let ⟨dx, h1, h2⟩ := h; .inr ⟨dx, _, h1, h2⟩
theorem ExV.mono {H H' : Hp} {a C : Addr} (h : ExV H a C) (k : ∀ b o, H b = some o → H' b = some o) : ExV H' a C := by
  rcases h with h | ⟨dx, fs, h1, h2⟩
  · exact .inl (k _ _ h)
  · exact .inr ⟨dx, fs, k _ _ h1, k _ _ h2⟩
theorem ExF.mono {H H' : Hp} {a C : Addr} {f : Str} {v : V} (h : ExF H a C f v) (k : ∀ b o, H b = some o → H' b = some o) : ExF H' a C f v :=
  let ⟨dx, h1, h2⟩ := h; ⟨dx, k _ _ h1, k _ _ h2⟩

def tNew1 (C : Addr) (ta : TE) : TE := fun σ H Q => ta σ H fun _ H1 => ∀ a, H1 a = none → Q (.ref a) (upd H1 a (ExO (.ref C) a))
/-- a new object, and a heap in which it is known -/
theorem newX {H : Hp} {f : Addr → HO} {P : Addr → Hp → Prop} (h : ∀ a H2, Same H H2 → H a = none → H2 a = some (f a) → P a H2) : ∀ a, H a = none → P a (upd H a (f a)) := fun a n => h a _ (same_new n) n upd_same
def tNewF (C : Addr) (fld : Str) (ta : TE) : TE := fun σ H Q => ta σ H fun v H1 => Easy v ∧ ∀ a H2, Same H1 H2 → H1 a = none → ExF H2 a C fld v → Q (.ref a) H2
section
variable {X : Cx}
theorem exv_inst {pins : List (Addr × Obj)} {σ : L2.St} {H : Hp} {s : Shared} {a C : Addr} (I : Inv X pins σ H s) (h : ExV H a C) : ∃ ox od, PySem.W.InstAt s.heap a ox C od := by
  rcases h with h | ⟨dx, fs, h1, h2⟩
  · obtain ⟨⟨oe, vs, e, z, dt, _⟩, _⟩ := (show ObjOk X.prog X.w H s.heap a (ExO (.ref C) a) from I.hok a _ h)
    exact ⟨oe, none, e, z.1, by unfold PySem.W.notCls; rw [dt] <;> rfl, by rw [z.2]; trivial⟩
  · obtain ⟨t1, e⟩ := exo_at I.hok h1
    obtain ⟨mA, ⟨o, es, ep, e2, _⟩, _⟩ := exd_at I.hok h2
    exact ⟨_, some o, e, rfl, rfl, e2⟩
/-- isinstance(e, C) -/
def rIsX (K : PySem.W.Frag) : List V → Hp → VK → Prop := fun xs H Q => ∃ (a C : Addr) (c : V) (cv : Value) (b : Bool), xs = [.ref a, c] ∧ ExV H a C ∧ ErrC K C ∧ ClsV c cv ∧ PySem.W.kitOne K (.ref C) cv = some b ∧ Q (.bl b) H
theorem call_isX : CallR X (.builtin "isinstance") (rIsX X.K) := by
  rintro pins s σ H _ us Q I r ⟨a, C, c, cv, b, rfl, hx, T, hk, e, q⟩
  match us, r with
  | [_, u2], .cons ra (.cons rc .nil) =>
    obtain rfl := hk.eq rc
    obtain rfl : _ = Value.ref a := ra
    obtain ⟨ox, od, inst⟩ := exv_inst I hx
    have known : (PySem.W.clsIn X.K C).isSome = true := by
      obtain ⟨nm, n, ns, bs, ms, sn, sub, ab, co, di, k0, k1, k2, k3, k5, look, _⟩ := T.ox.cls
      rw [show PySem.W.clsIn X.K C = _ from by unfold PySem.W.clsIn; rw [look]] <;> rfl
    exact PySem.W.kia_one (PySem.W.kitx_exc known T.xf.ga T.xf.gg T.xf.exC T.ac T.nc T.tc T.mo) I.kIn inst e (fun z => nomatch z) (fun tk => ⟨.bl b, H, I.tok tk, rfl, q⟩)
/-- e.f, e an error -/
theorem pe_xfv {e : Expr} {te : TE} {pos : Pos} {n : Str} (he : PE X e te) (hb : attributeBase e n X.env (eval e X.env) = eval e X.env := by rfl) :
    PE X (.Attribute e n pos) (fun σ H Q => te σ H fun x H1 => ∃ a C v, x = .ref a ∧ ExF H1 a C n v ∧ ErrC X.K C ∧ PySem.W.findIn X.K (.ref C) n = some none ∧ Q v H1) := by
  constructor
  intro pins s σ H Q I h
  apply attr_of hb
  refine thn (he.run pins s σ H _ I h) ?_
  rintro u s1 ⟨_, H1, J, ru, a, C, v, rfl, ⟨dx, h1, h2⟩, T, free, q⟩
  obtain rfl : u = Value.ref a := ru
  obtain ⟨_, at_⟩ := exo_at J.hok h1
  obtain ⟨names, space, all⟩ := exd_at J.hok h2
  obtain ⟨od, obj, look⟩ := lookIn_ns space
  have mine := all n
  rw [show ([(n, v)] : List (Str × V)).lookup n = some v by simp [List.lookup]] at mine
  obtain ⟨w, hw, rw'⟩ := RelO.some_of mine
  have inst : PySem.W.InstAt s1.heap a _ C (some od) := ⟨at_, rfl, rfl, obj⟩
  exact HandSPX.exc_get J.kIn inst T.xf.ga T.xf.gg T.xf.exC (PySem.W.findObj_own T.xf.hdC free rfl (by rw [look, hw])) (handed_of rw') ⟨v, H1, J.tok _, rw', q⟩
/-- X(e), an own error with its own __init__ -/
theorem pe_newF {CX : CXT} {x fld : Str} {C fI : Addr} {k : Nat} {fd : FuncData} {ps : List Str} {e : Expr} {ta : TE} {p pos : Pos} (T : OexC X.K C) (iC : PySem.W.findIn X.K (.ref C) "__init__" = some (some (.ref fI))) (tI : PySem.W.typeIn X.K (.ref fI) = some (.type "function"))
    (F1 : FnOk X.prog X.w X.K X.mg X.base CX k fI fd ps (spErr fld C)) (hr : Room (k + 1) X.A) (hb : Binds X.K fd ps []) (hx : Passes CX X (fun _ _ _ => False)) (gC : X.mg x = some (.ref C)) (he : PE X e ta) (hg : Gl X x := by rfl)
    (hdb : (x == ("__debug__" : Str)) = false := by decide) (hs : starEach [e] X.env = (false, eval e X.env) :: starEach [] X.env := by rfl) :
    PE X (.Call (.Name x p) [e] [] pos) (tNewF C fld ta) := by
  constructor
  intro pins s σ H Q I h
  refine wpAny_Call_Name_kw (ld_glob I hg gC (PySem.W.callWith_K (h₀ := X.base) I.ok.mod.kin T.kC ?_ hs (by rfl)) hdb)
  have args : wpAny (model X.prog X.w) X.A (spliced (backTo pos (starEach [e] X.env))) (fun vs s1 => X.K.In s1.heap ∧ wpAny (model X.prog X.w) X.A (call (.ref C) ([] ++ vs)) (EP X pins σ Q) X.xe s1) X.xe s := by
    refine thn ((pa_cons he pa_nil hs).run pos pins s σ H (fun vs H1 => match vs with
      | [v] => Easy v ∧ ∀ a H2, Same H1 H2 → H1 a = none → ExF H2 a C fld v → Q (.ref a) H2
      | _ => False) I h) ?_
    rintro us s1 ⟨vs, H1, I1, rel, post⟩
    refine ⟨I1.kIn, ?_⟩
    obtain ⟨hp, gs, dn, tk, os⟩ := s1
    obtain ⟨nm, q, ns, bs, ms, sn, sub, ab, co, di, k0, k1, k2, k3, k5, look, vee⟩ := T.cls
    match vs, us, rel, post with
    | [v], [u], .cons ru .nil, ⟨good, fin⟩ =>
    -- the place of the new error, and the heap with it
    generalize hA : hp.objs.size + 1 = A
    have free : H1 A = none := I1.hok.fresh (by rw [← hA]; exact Nat.le_succ _)
    have up : ∀ b o, hp.get? b = some o → ((hp.push (PySem.W.kdv_tup [u])).push (PySem.HandSPX.excO C hp.objs.size)).get? b = some o := fun b o z => Heap.get?_push_of_some _ (Heap.get?_push_of_some _ z)
    have there : ((hp.push (PySem.W.kdv_tup [u])).push (PySem.HandSPX.excO C hp.objs.size)).get? A = some (PySem.HandSPX.excO C hp.objs.size) := by
      rw [← hA]
      heap_get
    have J : Inv X pins σ (upd H1 A (exo A C none)) ⟨(hp.push (PySem.W.kdv_tup [u])).push (PySem.HandSPX.excO C hp.objs.size), gs, dn, tk, os⟩ :=
      I1.laid (t' := tk) (a := A) (o := exo A C none) (h' := (hp.push (PySem.W.kdv_tup [u])).push (PySem.HandSPX.excO C hp.objs.size)) up (by rw [← hA]; exact Nat.le_succ _) (exo_ok there)
    have told : spErr fld C [V.ref A, v] (upd H1 A (exo A C none)) (fun y H2 => y = .non ∧ Q (.ref A) H2) (fun _ _ _ => False) := by
      refine ⟨A, v, rfl, upd_same, good, fun dx nd ne => ⟨rfl, fin A _ (fun b o hb => ?_) free ⟨dx, upd_same, by rw [upd_ne ne, upd_same]⟩⟩⟩
      rw [upd_ne ne] at nd
      rw [upd_ne (ne_of_none hb free), upd_ne (ne_of_none hb nd), upd_ne (ne_of_none hb free)]
      exact hb
    have both : Vals [V.ref A, v] [Value.ref A, u] := .cons rfl (.cons ru .nil)
    have bind := hb _ [Value.ref A, u] J.kIn (by rw [List.append_nil]; exact F1.len _ _ _ _ told)
    rw [List.append_nil] at bind
    have body := F1.run _ X.stack _ _ ⟨[Value.ref A, u], []⟩ [Value.ref A, u] _ _ (fun _ _ _ => False) (hr.make C [u] []) (J.env0.make C [u] []) bind both told
    rw [← hA] at body
    refine wpAny_call (PySem.HandSPX.call_own PySem.F.excBase_ValueError (fun Y => PySem.HandSPX.refsVE_contains Y ms vee) (I1.kIn _ _ look) (PySem.W.looks_findIn I1.kIn iC) (fun self => PySem.W.bind_fn I1.kIn self tI) (szl (by show 1 ≤ 100000; decide)) (codeAny_mono body ?_))
    rw [hA]
    intro r s' z
    match r, z with
    | .error er, z => exact hx pins σ _ _ er s' J z
    | .ok (.ret u'), z =>
      obtain ⟨y, H', J', ry, ey, w⟩ := J.after z
      subst ey
      exact ⟨ry, .ref A, H', J', rfl, w⟩
    | .ok .next, z => exact z.elim
    | .ok .brk, z => exact z.elim
    | .ok .cont, z => exact z.elim
  exact args
end

/-! ### the classes by their names in the module -/
def clsOf (K : PySem.W.Frag) (x : Str) : Addr := match PySem.W.nsIn K mainGlobals x with
  | some (some (.ref c)) => c
  | _ => 0
theorem clsOf_of {K : PySem.W.Frag} {x : Str} {c : Addr} (h : PySem.W.nsIn K mainGlobals x = some (some (.ref c))) : clsOf K x = c := by
  unfold clsOf
  rw [h]
structure Cls (K : PySem.W.Frag) (mg : Str → Option Value) (x : Str) : Prop where
  g : mg x = some (.ref (clsOf K x))
  e : ErrC K (clsOf K x)
abbrev veMro : List Value := [.type "ValueError", .type "Exception", .type "BaseException", .type "object"]
structure New1 (K : PySem.W.Frag) (mg : Str → Option Value) (x : Str) : Prop where
  cl : Cls K mg x
  q : PySem.W.excIn K (clsOf K x) veMro "ValueError.__new__" = true
structure NewF (P : Program) (w : World) (K : PySem.W.Frag) (mg : Str → Option Value) (base : Heap) (x fld : Str) : Prop where
  cl : Cls K mg x
  ex : ∃ (fI : Addr) (fd : FuncData) (ps : List Str), PySem.W.findIn K (.ref (clsOf K x)) "__init__" = some (some (.ref fI)) ∧ PySem.W.typeIn K (.ref fI) = some (.type "function") ∧ FnOk P w K mg base CX0 1 fI fd ps (spErr fld (clsOf K x)) ∧ Binds K fd ps []
  hno : PySem.W.findIn K (.ref (clsOf K x)) fld = some none
def tXfv (K : PySem.W.Frag) (n : Str) (te : TE) : TE := fun σ H Q => te σ H fun x H1 => ∃ a C v, x = .ref a ∧ ExF H1 a C n v ∧ ErrC K C ∧ PySem.W.findIn K (.ref C) n = some none ∧ Q v H1
section
variable {X : Cx}
theorem pe_cls {K : PySem.W.Frag} {x : Str} {pos : Pos} (D : Cls K X.mg x) (hg : Gl X x := by rfl) (hd : (x == ("__debug__" : Str)) = false := by decide) : PE X (.Name x pos) (tC (.ref (clsOf K x))) := pe_glob hg D.g rfl hd
theorem pe_n1 {K : PySem.W.Frag} {x : Str} {e : Expr} {ta : TE} {p pos : Pos} (D : New1 K X.mg x) (he : PE X e ta) (hg : Gl X x := by rfl) (hs : starEach [e] X.env = (false, eval e X.env) :: starEach [] X.env := by rfl) (hdb : (x == ("__debug__" : Str)) = false := by decide) (hK : X.K = K := by rfl) :
    PE X (.Call (.Name x p) [e] [] pos) (tNew1 (clsOf K x) ta) := by
  subst hK
  exact pe_exc1 PySem.F.excBase_ValueError D.q D.cl.g D.cl.e.ox.kC hg he hs hdb
theorem pe_nF {K : PySem.W.Frag} {x fld : Str} {e : Expr} {ta : TE} {p pos : Pos} (D : NewF X.prog X.w K X.mg X.base x fld) (hr : Room 2 X.A) (he : PE X e ta) (hg : Gl X x := by rfl) (hs : starEach [e] X.env = (false, eval e X.env) :: starEach [] X.env := by rfl) (hdb : (x == ("__debug__" : Str)) = false := by decide) (hK : X.K = K := by rfl) :
    PE X (.Call (.Name x p) [e] [] pos) (tNewF (clsOf K x) fld ta) := by
  subst hK
  obtain ⟨fI, fd, ps, h1, h2, h3, h4⟩ := D.ex
  exact pe_newF D.cl.e.ox h1 h2 h3 hr h4 pass0 D.cl.g he hg hdb hs
theorem pe_xfvK {K : PySem.W.Frag} {e : Expr} {te : TE} {pos : Pos} {n : Str} (he : PE X e te) (hK : X.K = K := by rfl) (hb : attributeBase e n X.env (eval e X.env) = eval e X.env := by rfl) : PE X (.Attribute e n pos) (tXfv K n te) := by
  subst hK
  exact pe_xfv he hb
theorem isxK {K : PySem.W.Frag} (h : X.K = K := by rfl) : CallR X (.builtin "isinstance") (rIsX K) := by subst h; exact call_isX
end

/-! ### readings, backwards -/
section
variable {K : PySem.W.Frag} {σ : L2.St} {H : Hp} {Q : VK} {ta : TE}
theorem r_n1 {C : Addr} (h : ta σ H fun _ H1 => ∀ a, H1 a = none → Q (.ref a) (upd H1 a (ExO (.ref C) a))) : tNew1 C ta σ H Q := h
theorem r_nF {C : Addr} {fld : Str} (h : ta σ H fun v H1 => Easy v ∧ ∀ a H2, Same H1 H2 → H1 a = none → ExF H2 a C fld v → Q (.ref a) H2) : tNewF C fld ta σ H Q := h
theorem r_xfv {n : Str} (h : ta σ H fun x H1 => ∃ a C v, x = .ref a ∧ ExF H1 a C n v ∧ ErrC K C ∧ PySem.W.findIn K (.ref C) n = some none ∧ Q v H1) : tXfv K n ta σ H Q := h
theorem r_isX {a C : Addr} {c : V} {cv : Value} {b : Bool} (h1 : ExV H a C) (h2 : ErrC K C) (h3 : ClsV c cv) (h4 : PySem.W.kitOne K (.ref C) cv = some b) (h : Q (.bl b) H) : rIsX K [.ref a, c] H Q := ⟨a, C, c, cv, b, rfl, h1, h2, h3, h4, h⟩
theorem r_m1 {r : V → List V → Hp → VK → Prop} {to te : TE} (h : to σ H fun x H1 => (∃ a, x = .str a) ∧ te σ H1 fun y H2 => r x [y] H2 Q) : tM1 r to te σ H Q := h
end
theorem Same.exv {H H' : Hp} {a C : Addr} (s : Same H H') (h : ExV H a C) : ExV H' a C := h.mono s
theorem Same.exf {H H' : Hp} {a C : Addr} {f : Str} {v : V} (s : Same H H') (h : ExF H a C f v) : ExF H' a C f v := h.mono s

theorem newF_of {P : Program} {w : World} {K : PySem.W.Frag} {mg : Str → Option Value} {base : Heap} {h : Heap} {f c cc C : Addr} {x name qual file par fld : Str} {params : Arguments} {scope : Scope} {ar : Arg} {v1 v2 : Expr} {vr : List Expr} {p0 p1 p2 p3 p4 p5 p6 p7 p8 pj : Pos}
    {kV doc pm ctv oc ccl cl : Value} {an od cdd cld : Option Addr} {osl ccs csl : Array (Option Value)} {vs0 : Array Value} {tf : Tok} {pl : Sem Bool} (X : K.In h) (G : h.Ns mainGlobals mg)
    (lk : K.lookup f = some ⟨oc, od, .func (PySem.W.fnX name qual params [.Expr (.Call (.Attribute (.Call (.Name "super" p0) [] [] p1) "__init__" p2) [.JoinedStr (v1 :: v2 :: vr) pj] [] p3) p4, .Assign [.Attribute (.Name "self" p5) fld p6] (.Name par p7) p8] scope [("__class__", cc)] .none kV doc pm an (.ref c) ctv), osl⟩)
    (hcd : PySem.W.codeIn K (.ref c) qual = true) (S : NScope ["self", par, "__class__"] ["self", par] ["__class__"] scope)
    (lcc : K.lookup cc = some ⟨cl, cld, .cell (some (.ref C)), csl⟩) (hp : (params.posonlyargs ++ params.args).head? = some ar) (eps : ar.arg = "self")
    (lc : K.lookup c = some ⟨ccl, cdd, .fields vs0, ccs⟩) (hvs : vs0[2]? = some (.str file tf)) (hfile : ((P.main.file : Str) == file) = true) (hsuper : PySem.W.nsIn K mainGlobals "super" = some none)
    (htop : (P.main.scope.names.lookup ("super" : Str)).isSome = false) (hst : PySem.W.nsIn K cStatics "thirdparty.any" = some none) (hks : scope.names.lookup ("super" : Str) = some .globalImplicit)
    (ca : PySem.W.nsIn K mainGlobals x = some (some (.ref C))) (cb : errB K C = true) (ci : PySem.W.findIn K (.ref C) "__init__" = some (some (.ref f))) (ct : PySem.W.typeIn K (.ref f) = some (.type "function")) (sV : supV K C) (hno : PySem.W.findIn K (.ref C) fld = some none)
    (hev : ∀ L, eval (.Call (.Attribute (.Call (.Name "super" p0) [] [] p1) "__init__" p2) [.JoinedStr (v1 :: v2 :: vr) pj] [] p3) (PySem.W.envX qual scope L f (.ref c) [("__class__", cc)]) = (do
      let ov ← attributeBase (.Call (.Name "super" p0) [] [] p1) "__init__" (PySem.W.envX qual scope L f (.ref c) [("__class__", cc)]) (eval (.Call (.Name "super" p0) [] [] p1) (PySem.W.envX qual scope L f (.ref c) [("__class__", cc)]))
      standAt p2.atName
      let (ff, first) ← holding [ov] (getMethod ov "__init__" pl)
      callWith p3 ff first (backTo p3 (starEach [.JoinedStr (v1 :: v2 :: vr) pj] (PySem.W.envX qual scope L f (.ref c) [("__class__", cc)]))) []))
    (hi : ∀ L, interactive (PySem.W.envX qual scope L f (.ref c) [("__class__", cc)]) = false) (hsw : ∀ L, swapsWith (.Call (.Attribute (.Call (.Name "super" p0) [] [] p1) "__init__" p2) [.JoinedStr (v1 :: v2 :: vr) pj] [] p3) none p4.line (PySem.W.envX qual scope L f (.ref c) [("__class__", cc)]) = pure false)
    (hse : ∀ L, starEach [.JoinedStr (v1 :: v2 :: vr) pj] (PySem.W.envX qual scope L f (.ref c) [("__class__", cc)]) = [(false, eval (.JoinedStr (v1 :: v2 :: vr) pj) (PySem.W.envX qual scope L f (.ref c) [("__class__", cc)]))])
    (hs2 : ∀ L, swapsWith (.Name par p7) (some (.Attribute (.Name "self" p5) fld p6)) p8.line (PySem.W.envX qual scope L f (.ref c) [("__class__", cc)]) = pure false)
    (parts : ∀ e ∈ v1 :: v2 :: vr, Part par e) (few : vr.length ≤ 100) (hd : (par == ("__debug__" : Str)) = false) (hcd2 : (par == ("__classdict__" : Str)) = false)
    (hbn : ∀ a b : Value, bindArgs (PySem.W.fnX name qual params [.Expr (.Call (.Attribute (.Call (.Name "super" p0) [] [] p1) "__init__" p2) [.JoinedStr (v1 :: v2 :: vr) pj] [] p3) p4, .Assign [.Attribute (.Name "self" p5) fld p6] (.Name par p7) p8] scope [("__class__", cc)] .none kV doc pm an (.ref c) ctv) ⟨[a, b], []⟩ = pure [(("self" : Str), a), (par, b)]) : NewF P w K mg base x fld := by
  have e := clsOf_of ca
  subst e
  have E := errB_ok cb
  refine ⟨⟨PySem.W.mg_of X G ca, E⟩, ⟨f, _, ["self", par], ci, ct, ok_err lk hcd S lcc hp eps lc hvs hfile (PySem.W.mg_none_of X G hsuper) htop hst hks E.ox sV E.ve hno hev hi hsw hse hs2 parts few hd hcd2, .all fun us hl => ?_⟩, hno⟩
  match us, hl with
  | [a, b], _ => exact hbn a b
theorem new1_of {K : PySem.W.Frag} {mg : Str → Option Value} {h : Heap} {x : Str} {C : Addr} (X : K.In h) (G : h.Ns mainGlobals mg) (ca : PySem.W.nsIn K mainGlobals x = some (some (.ref C))) (cb : errB K C = true) (cq : PySem.W.excIn K C veMro "ValueError.__new__" = true) : New1 K mg x := by
  have e := clsOf_of ca
  subst e
  exact ⟨⟨PySem.W.mg_of X G ca, errB_ok cb⟩, cq⟩
/-- __init__ of a class that the text writes -/
def initOf : Stmt → Stmt
  | .ClassDef _ _ _ body _ _ _ _ _ _ _ => body.getD 0 (.Pass ⟨0, 0, 0, 0⟩)
  | s => s
def partsOf (s : Stmt) : List Expr := match defBody s with
  | .Expr (.Call _ [.JoinedStr l _] [] _) _ :: _ => l
  | _ => []
end Vf

namespace K31
open PySem PySem.Spec PyProof.Rows L2 Vf
def topS (i : Nat) : Stmt := PySem.Challenge.pw_crosshitch_k31_errors_made.main.body.getD i (.Pass ⟨0, 0, 0, 0⟩)
abbrev s__law_well : Stmt := topS 22
abbrev N__law_well : List Str := ["script", "k", "cell"]
theorem sc__law_well : FnScope ["script", "k", "cell"] ["script", "k"] (defScope s__law_well) := ⟨rfl, rfl, rfl, by decide +kernel, rfl, by decide +kernel, by decide +kernel⟩
abbrev s__law_pick : Stmt := topS 23
abbrev N__law_pick : List Str := ["well", "bound", "found", "stirred"]
theorem sc__law_pick : FnScope ["well", "bound", "found", "stirred"] ["well", "bound"] (defScope s__law_pick) := ⟨rfl, rfl, rfl, by decide +kernel, rfl, by decide +kernel, by decide +kernel⟩
abbrev s__law_kinds : Stmt := topS 24
abbrev N__law_kinds : List Str := ["error", "found"]
theorem sc__law_kinds : FnScope ["error", "found"] ["error"] (defScope s__law_kinds) := ⟨rfl, rfl, rfl, by decide +kernel, rfl, by decide +kernel, by decide +kernel⟩
abbrev s__law_created : Stmt := topS 25
abbrev N__law_created : List Str := ["text", "spot", "bound", "found"]
theorem sc__law_created : FnScope ["text", "spot", "bound", "found"] ["text", "spot", "bound"] (defScope s__law_created) := ⟨rfl, rfl, rfl, by decide +kernel, rfl, by decide +kernel, by decide +kernel⟩
abbrev s_law : Stmt := topS 26
abbrev N_law : List Str := ["script", "k", "well", "text", "spot", "bound", "rows", "rank", "one", "told", "plain", "turn", "other"]
theorem sc_law : FnScope ["script", "k", "well", "text", "spot", "bound", "rows", "rank", "one", "told", "plain", "turn", "other"] ["script"] (defScope s_law) := ⟨rfl, rfl, rfl, by decide +kernel, rfl, by decide +kernel, by decide +kernel⟩
abbrev i_InvalidLayout : Stmt := initOf (topS 2)
abbrev i_InvalidRows : Stmt := initOf (topS 3)
abbrev i_InvalidRings : Stmt := initOf (topS 4)
abbrev i_InvalidOpens : Stmt := initOf (topS 5)
abbrev i_InvalidText : Stmt := initOf (topS 6)
abbrev i_TooMany : Stmt := initOf (topS 7)
abbrev i_Farther : Stmt := initOf (topS 8)
def Well (H : Hp) (t : Addr) (m : Int) : Prop := ∃ a b c : Int, H t = some (.lst [.int a, .int b, .int c]) ∧ 0 ≤ a ∧ 0 ≤ b ∧ b < 10 ^ 40 ∧ 0 ≤ c ∧ c ≤ m
theorem Well.mono {H H' : Hp} {t : Addr} {m : Int} (s : Same H H') (h : Well H t m) : Well H' t m := let ⟨a, b, c, e, r⟩ := h; ⟨a, b, c, s _ _ e, r⟩
theorem Well.ne {H : Hp} {t D : Addr} {o : HO} {m : Int} (n : D ≠ t) (h : Well H t m) : Well (upd H D o) t m := let ⟨a, b, c, e, r⟩ := h; ⟨a, b, c, (upd_ne n.symm).trans e, r⟩
theorem Well.le {H : Hp} {t : Addr} {m m' : Int} (h : Well H t m) (l : m ≤ m') : Well H t m' := let ⟨a, b, c, e, h1, h2, h3, h4, h5⟩ := h; ⟨a, b, c, e, h1, h2, h3, h4, Int.le_trans h5 l⟩
theorem Well.no {H : Hp} {t D : Addr} {m : Int} (h : Well H t m) (n : H D = none) : D ≠ t := fun z => by
  obtain ⟨_, _, _, e, _⟩ := h
  rw [z, e] at n
  cases n
theorem ones_sum : ∀ l : List Str, (∀ y ∈ l, y.length = 1) → (l.map (fun x => x.length)).sum = l.length
  | [], _ => rfl
  | y :: l, h => by
    rw [List.map_cons, List.sum_cons, ones_sum l fun z hz => h z (List.mem_cons_of_mem _ hz), h y List.mem_cons_self, List.length_cons]
    omega
theorem sign_at {r : Int} (h0 : 0 ≤ r) (h1 : r < 6) : ∃ c, atI ("abc (-" : Str).cps.toList r = some c := by
  have : r = 0 ∨ r = 1 ∨ r = 2 ∨ r = 3 ∨ r = 4 ∨ r = 5 := by omega
  rcases this with rfl | rfl | rfl | rfl | rfl | rfl <;> exact ⟨_, rfl⟩
theorem pow_side {i : Int} {j : Int} {m : Nat} (h : i.natAbs < 2 ^ m) (j0 : 0 ≤ j) (hm : (m : Int) * j ≤ 2 ^ 27) : 0 ≤ j ∧ (Builtin.Int.intBits i : Int) * j ≤ 2 ^ 27 := by
  have h1 : Builtin.Int.intBits i ≤ m := PySem.intBits_le_iff.mpr h
  exact ⟨j0, Int.le_trans (Int.mul_le_mul_of_nonneg_right (by omega) j0) hm⟩
def nameX : List Str := ["InvalidLayout", "InvalidRows", "InvalidRings", "InvalidOpens", "InvalidText", "TooMany", "Farther", "InvalidPieces", "InvalidEnd", "InvalidMove", "InvalidMoves", "InvalidSight", "InvalidNumber", "InvalidCommand", "NotBetween", "MixedWays", "NotFitting", "Clash", "NothingToUndo"]
def fldX : List (Str × Str) := [("InvalidLayout", "index"), ("InvalidRows", "index"), ("InvalidRings", "index"), ("InvalidOpens", "index"), ("InvalidText", "part"), ("TooMany", "limit"), ("Farther", "moves")]
def Kit (K : PySem.W.Frag) (C : Addr) (bs : List Bool) : Prop := Paired (fun x b => PySem.W.kitOne K (.ref C) (.ref (clsOf K x)) = some b) nameX bs
def madeL (K : PySem.W.Frag) (s b : V) : List (Hp → Addr → Prop) := [fun H a => ExF H a (clsOf K "InvalidLayout") "index" s, fun H a => ExF H a (clsOf K "InvalidRows") "index" s, fun H a => ExF H a (clsOf K "InvalidRings") "index" s, fun H a => ExF H a (clsOf K "InvalidOpens") "index" s, fun H a => ExF H a (clsOf K "InvalidText") "part" s, fun H a => ExF H a (clsOf K "TooMany") "limit" b, fun H a => ExF H a (clsOf K "Farther") "moves" b, fun H a => ExV H a (clsOf K "InvalidPieces"), fun H a => ExV H a (clsOf K "InvalidEnd"), fun H a => ExV H a (clsOf K "InvalidMove"), fun H a => ExV H a (clsOf K "InvalidMoves"), fun H a => ExV H a (clsOf K "InvalidSight"), fun H a => ExV H a (clsOf K "InvalidNumber"), fun H a => ExV H a (clsOf K "InvalidCommand"), fun H a => ExV H a (clsOf K "NotBetween"), fun H a => ExV H a (clsOf K "MixedWays"), fun H a => ExV H a (clsOf K "NotFitting"), fun H a => ExV H a (clsOf K "Clash"), fun H a => ExV H a (clsOf K "NothingToUndo")]
def Made (K : PySem.W.Frag) (s b : V) (H : Hp) (as : List Addr) : Prop := Paired (fun P a => P H a) (madeL K s b) as
def kitTB (K : PySem.W.Frag) : Bool := nameX.all (fun x => errB K (clsOf K x) && nameX.all (fun y => decide (PySem.W.kitOne K (.ref (clsOf K x)) (.ref (clsOf K y)) = some (decide (x = y)))) && decide (PySem.W.kitOne K (.ref (clsOf K x)) (.ref (clsOf K "HitchError")) = some true) && decide (PySem.W.kitOne K (.ref (clsOf K x)) (.type "ValueError") = some true) && decide (PySem.W.kitOne K (.ref (clsOf K "HitchError")) (.ref (clsOf K x)) = some false))
  && errB K (clsOf K "HitchError") && decide (PySem.W.kitOne K (.ref (clsOf K "HitchError")) (.type "ValueError") = some true) && fldX.all (fun p => decide (PySem.W.findIn K (.ref (clsOf K p.1)) p.2 = some none))
structure KitT (K : PySem.W.Frag) : Prop where
  er : ∀ x ∈ nameX, ErrC K (clsOf K x)
  eh : ErrC K (clsOf K "HitchError")
  kk : ∀ x ∈ nameX, ∀ y ∈ nameX, PySem.W.kitOne K (.ref (clsOf K x)) (.ref (clsOf K y)) = some (decide (x = y))
  kh : ∀ x ∈ nameX, PySem.W.kitOne K (.ref (clsOf K x)) (.ref (clsOf K "HitchError")) = some true
  kv : ∀ x ∈ nameX, PySem.W.kitOne K (.ref (clsOf K x)) (.type "ValueError") = some true
  hk : ∀ x ∈ nameX, PySem.W.kitOne K (.ref (clsOf K "HitchError")) (.ref (clsOf K x)) = some false
  hv : PySem.W.kitOne K (.ref (clsOf K "HitchError")) (.type "ValueError") = some true
  fl : ∀ p ∈ fldX, PySem.W.findIn K (.ref (clsOf K p.1)) p.2 = some none
theorem kitT_of {K : PySem.W.Frag} (h : kitTB K = true) : KitT K := by
  unfold kitTB at h
  simp only [Bool.and_eq_true, List.all_eq_true, decide_eq_true_eq] at h
  obtain ⟨⟨⟨h1, h2⟩, h3⟩, h4⟩ := h
  exact ⟨fun x hx => errB_ok (h1 x hx).1.1.1.1, errB_ok h2, fun x hx => (h1 x hx).1.1.1.2, fun x hx => (h1 x hx).1.1.2, fun x hx => (h1 x hx).1.2, fun x hx => (h1 x hx).2, h3, h4⟩
theorem kit_map {K : PySem.W.Frag} {C : Addr} {f : Str → Bool} : ∀ {l : List Str}, (∀ x ∈ l, PySem.W.kitOne K (.ref C) (.ref (clsOf K x)) = some (f x)) → Paired (fun x b => PySem.W.kitOne K (.ref C) (.ref (clsOf K x)) = some b) l (l.map f)
  | [], _ => .nil
  | x :: l, h => .cons (h x List.mem_cons_self) (kit_map fun y hy => h y (List.mem_cons_of_mem _ hy))
theorem made_ev {K : PySem.W.Frag} {s b : V} : Paired (fun x P => ∀ (H : Hp) (a : Addr), P H a → ExV H a (clsOf K x)) nameX (madeL K s b) := by
  unfold nameX madeL
  repeat (first | exact .nil | refine .cons (fun H a h => h.ev) ?_ | refine .cons (fun H a h => h) ?_)
theorem made_at {K : PySem.W.Frag} {s b : V} {H : Hp} {as : List Addr} (h : Made K s b H as) {i : Nat} {a : Addr} (ha : as[i]? = some a) : ∃ x, nameX[i]? = some x ∧ ExV H a (clsOf K x) := by
  obtain ⟨P, hP, hp⟩ := pair_get2 h ha
  obtain ⟨x, hx, he⟩ := pair_get2 made_ev hP
  exact ⟨x, hx, he H a hp⟩
theorem Made.mono {K : PySem.W.Frag} {s b : V} {H H' : Hp} {as : List Addr} (h : Made K s b H as) (k : Same H H') : Made K s b H' as := by
  have key : ∀ (Ps : List (Hp → Addr → Prop)) (as : List Addr), (∀ P ∈ Ps, ∀ a, P H a → P H' a) → Paired (fun P a => P H a) Ps as → Paired (fun P a => P H' a) Ps as := by
    intro Ps
    induction Ps with
    | nil => intro as _ h; cases h; exact .nil
    | cons P Ps ih => intro as hm h; cases h with | cons a b => exact .cons (hm P List.mem_cons_self _ a) (ih _ (fun Q hQ => hm Q (List.mem_cons_of_mem _ hQ)) b)
  refine key _ _ (fun P hP a hp => ?_) h
  unfold madeL at hP
  simp only [List.mem_cons, List.not_mem_nil, or_false] at hP
  rcases hP with rfl | rfl | rfl | rfl | rfl | rfl | rfl | rfl | rfl | rfl | rfl | rfl | rfl | rfl | rfl | rfl | rfl | rfl | rfl <;> first | exact ExF.mono hp k | exact ExV.mono hp k
theorem rows_eq : ∀ i : Nat, i < 19 → ∀ x, nameX[i]? = some x → nameX.map (fun y => decide (x = y)) = (rng 0 19).map fun j => decide (j = (i : Int)) := by
  have h : ∀ i : Nat, i < 19 → nameX.map (fun y => decide (nameX.getD i "" = y)) = (rng 0 19).map fun j => decide (j = (i : Int)) := by decide +kernel
  intro i hi x hx
  have e := h i hi
  have : nameX.getD i "" = x := by rw [List.getD_eq_getElem?_getD, hx]; rfl
  rw [this] at e
  exact e
theorem Sm.bl {b : Bool} : Sm 13 1 (.bool b) := by
  refine ⟨by simp only [PyData.showable], by simp only [PyData.hasDict], by simp only [PyData.depth]; omega, ?_, by simp only [PyData.canLay0]⟩
  cases b <;> decide +kernel
theorem sm_bls {bs : List Bool} {N : Nat} (hl : bs.length ≤ N) : Sm (15 * N + 3) 2 (.list (bs.map PyData.bool)) := by
  refine (Sm.lst (N := 13) (k := 1) (ds := bs.map .bool) fun d hd => ?_).mono (by rw [List.length_map]; omega) (by omega)
  obtain ⟨i, hi, rfl⟩ := List.mem_map.mp hd
  exact Sm.bl
theorem dpa_bls {K : PySem.W.Frag} {H : Hp} : ∀ bs : List Bool, DpAll K H (bs.map V.bl) (bs.map PyData.bool)
  | [] => .nil
  | b :: bs => .cons (.bl b) (dpa_bls bs)
/-- a drawn field: None or a number that is not too long, as a value and as data -/
def Fld (v : V) (d : PyData) : Prop := (v = .non ∧ d = .none) ∨ ∃ i : Int, v = .int i ∧ d = .int i ∧ 0 ≤ i ∧ i ≤ 10 ^ 30
theorem fld4 {r q : Int} (r0 : 0 ≤ r) (r1 : r < 400) (h0 : 0 ≤ q) (h1 : q < 4) : ∃ v d, Fld v d ∧ atI [V.non, .int 0, .int r, .int (10 ^ Int.toNat 30)] q = some v := by
  have : q = 0 ∨ q = 1 ∨ q = 2 ∨ q = 3 := by omega
  rcases this with rfl | rfl | rfl | rfl
  · exact ⟨_, _, .inl ⟨rfl, rfl⟩, rfl⟩
  · exact ⟨_, _, .inr ⟨_, rfl, rfl, by decide, by decide⟩, rfl⟩
  · exact ⟨_, _, .inr ⟨_, rfl, rfl, r0, by omega⟩, rfl⟩
  · exact ⟨_, _, .inr ⟨_, rfl, rfl, by decide, by decide⟩, rfl⟩
theorem fld3 {r q : Int} (r0 : 0 ≤ r) (r1 : r < 900) (h0 : 0 ≤ q) (h1 : q < 3) : ∃ v d, Fld v d ∧ atI [V.int 500, .int r, .int (10 ^ Int.toNat 30)] q = some v := by
  have : q = 0 ∨ q = 1 ∨ q = 2 := by omega
  rcases this with rfl | rfl | rfl
  · exact ⟨_, _, .inr ⟨_, rfl, rfl, by decide, by decide⟩, rfl⟩
  · exact ⟨_, _, .inr ⟨_, rfl, rfl, r0, by omega⟩, rfl⟩
  · exact ⟨_, _, .inr ⟨_, rfl, rfl, by decide, by decide⟩, rfl⟩
theorem Fld.easy {v : V} {d : PyData} (h : Fld v d) : Easy v := by
  rcases h with ⟨rfl, _⟩ | ⟨i, rfl, _, h1, h2⟩
  · exact .inl rfl
  · exact .inr ⟨i, rfl, log_small (Nat.lt_of_le_of_lt (show i.natAbs ≤ 10 ^ 30 by omega) (by decide +kernel))⟩
theorem Fld.dp {K : PySem.W.Frag} {H : Hp} {v : V} {d : PyData} (h : Fld v d) : Dp K H v d := by
  rcases h with ⟨rfl, rfl⟩ | ⟨i, rfl, rfl, _⟩
  · exact .non
  · exact .int _
theorem Fld.sm {v : V} {d : PyData} (h : Fld v d) : Sm 60 1 d := by
  rcases h with ⟨_, rfl⟩ | ⟨i, _, rfl, h1, h2⟩
  · exact Sm.non.mono (by decide) (by decide)
  · refine ⟨?_, by simp only [PyData.hasDict], by simp only [PyData.depth]; omega, ?_, by simp only [PyData.canLay0]⟩
    · simp only [PyData.showable]
      exact decide_eq_true (log_small (Nat.lt_of_le_of_lt (show i.natAbs ≤ 10 ^ 30 by omega) (by decide +kernel)))
    · have e := int_text_length_le10 (a := i) (k := 31) (by decide) (Nat.lt_of_le_of_lt (show i.natAbs ≤ 10 ^ 30 by omega) (by decide +kernel))
      rw [PyData.shown_int]
      show (Str.ofString (toString i)).length ≤ 60
      rw [PySem.ofString_length]
      omega
theorem paired_inv {α β : Type} {r : α → β → Prop} {x : α} {xs : List α} {ys : List β} (h : Paired r (x :: xs) ys) : ∃ y ys', ys = y :: ys' ∧ r x y ∧ Paired r xs ys' := by
  cases h with
  | cons a b => exact ⟨_, _, rfl, a, b⟩
theorem paired_nil {α β : Type} {r : α → β → Prop} {ys : List β} (h : Paired r [] ys) : ys = [] := by
  cases h
  rfl
def sp__law_well (K : PySem.W.Frag) : Sp := fun vs H Q _ => ∃ (s : Addr) (ns : List Int) (k : Int), vs = [.ref s, .int k] ∧ SqL K H s (ns.map V.int) ∧ ns.length ≤ 1000 ∧ 0 ≤ k ∧ k ≤ 1000 ∧ ∀ p H', Same H H' → H p = none → Well H' p 0 → Q (.ref p) H'
def sp__law_pick (K : PySem.W.Frag) : Sp := fun vs H Q _ => ∃ (t : Addr) (n m : Int), vs = [.ref t, .int n] ∧ Well H t m ∧ 0 < n ∧ n < 1000000 ∧ 0 ≤ m ∧ m < 1000000 ∧ ∀ (r : Int) H', 0 ≤ r → r < n → But t H H' → Well H' t (m + 1) → Q (.int r) H'
def sp__law_kinds (K : PySem.W.Frag) : Sp := fun vs H Q _ => ∃ (a C : Addr) (bs : List Bool), vs = [.ref a] ∧ ExV H a C ∧ ErrC K C ∧ Kit K C bs ∧ NewO H (.lst (bs.map V.bl)) Q
def sp__law_created (K : PySem.W.Frag) : Sp := fun vs H Q _ => ∃ (t : Str) (s b : V), vs = [.str t, s, b] ∧ Easy s ∧ Easy b ∧ ∀ p H' as, Same H H' → H p = none → H' p = some (.lst (as.map V.ref)) → Made K s b H' as → Q (.ref p) H'
def sp_law (K : PySem.W.Frag) : Sp := fun vs H Q _ => ∃ (a : Addr) (ns : List Int), vs = [.ref a] ∧ SqL K H a (ns.map V.int) ∧ ns.length ≤ 63 ∧ ∀ H', Q (.bl true) H'
end K31
local macro_rules | `(tactic| walk_at "side") => `(tactic| first | assumption | decide | omega | exact Or.inl ⟨by decide, by decide⟩ | exact Or.inr ⟨by decide, by decide⟩ | exact Or.inl ⟨by omega, by omega⟩ | exact Or.inr ⟨by omega, by omega⟩ | exact ⟨by decide, by decide, by decide⟩ | exact ⟨by omega, by omega⟩ | (show _ ≠ _; decide) | (show _ ≠ _; omega))
local macro_rules | `(tactic| walk_at "cond") => `(tactic| first | assumption | omega | rfl | (intro h; exact V.noConfusion h))
local macro_rules | `(tactic| walk_at "ev1") => `(tactic| first
  | with_reducible refine Vf.r_seq ?_ | with_reducible refine Vf.r_asg ?_ | with_reducible refine Vf.r_next ?_ | with_reducible refine Vf.r_drop ?_ | with_reducible refine Vf.r_ret ?_ | with_reducible refine Vf.r_retN ?_ | with_reducible refine Vf.r_ifS ?_ | with_reducible refine Vf.r_par ?_ | with_reducible refine Vf.r_dput ?_
  | with_reducible refine Vf.r_gname ?_ | with_reducible refine Vf.r_gnil ?_ | with_reducible refine Vf.r_gcons ?_ | with_reducible refine Vf.r_gsub ?_
  | ((with_reducible refine Vf.r_var ?_); refine ⟨_, rfl, ?_⟩)
  | with_reducible refine Vf.r_c ?_ | with_reducible refine Vf.r_op ?_ | with_reducible refine Vf.r_I0 ?_ | with_reducible refine Vf.r_U ?_ | with_reducible refine Vf.r_un ?_ | with_reducible refine Vf.r_eqI ?_ | with_reducible refine Vf.r_neI ?_ | with_reducible refine Vf.r_eqS ?_ | with_reducible refine Vf.r_neS ?_
  | ((with_reducible refine Vf.r_I ?evc ?_); (case evc => walk_at "side"))
  | with_reducible refine Vf.r_cb ?_ | with_reducible refine Vf.r_cons ?_ | with_reducible refine Vf.r_nil ?_ | with_reducible refine Vf.r_lst ?_ | with_reducible refine Vf.r_tup ?_ | with_reducible refine Vf.r_call ?_
  | with_reducible refine Vf.r_test ?_ | with_reducible refine Vf.r_b ?_ | with_reducible refine Vf.r_and ?_ | with_reducible refine Vf.r_or ?_ | with_reducible refine Vf.r_not ?_ | with_reducible refine Vf.r_andV ?_ | with_reducible refine Vf.r_orV ?_ | with_reducible refine Vf.r_notV ?_ | with_reducible refine Vf.r_if ?_
  | with_reducible refine Vf.r_blV ?_ | with_reducible refine Vf.r_chain ?_ | with_reducible refine Vf.r_sl ?_ | with_reducible refine Vf.r_noPart ?_ | with_reducible refine Vf.r_part ?_ | with_reducible refine Vf.r_bm ?_ | with_reducible refine Vf.r_bm0 ?_
  | with_reducible refine Vf.r_ienum ?_ | with_reducible refine Vf.r_sadd ?_ | with_reducible refine Vf.r_for ?_ | with_reducible refine Vf.r_lc ?_ | with_reducible refine Vf.r_dget ?_ | with_reducible refine Vf.r_din ?_ | with_reducible refine Vf.r_dnotin ?_ | with_reducible refine Vf.r_dget1 ?_ | with_reducible refine Vf.r_dget2 ?_ | with_reducible refine Vf.r_dnew ?_
  | with_reducible refine Vf.r_n1 ?_
  | with_reducible refine Vf.r_nF ?_
  | with_reducible refine Vf.r_xfv ?_
  | with_reducible refine Vf.r_m1 ?_
  | with_reducible refine Vf.r_rng1 ?_ | with_reducible refine Vf.r_rng2 ?_ | with_reducible refine Vf.r_ilist ?_ | with_reducible refine Vf.r_yes ?_
  | ((with_reducible refine' Vf.r_ixL ?evs ?eva ?_); (case evs => first | assumption | exact Vf.sql (by assumption)); (case eva => rfl))
  | ((with_reducible refine' Vf.r_gtup ?evs ?eva ?_); (case evs => first | assumption | exact Vf.sqt (by assumption)); (case eva => rfl))
  | refine ⟨_, _, rfl, .inl (Vf.sql (by assumption)), ?_⟩ | refine ⟨_, _, rfl, .inl (by assumption), ?_⟩ | refine ⟨_, _, rfl, .inr (Vf.sqt (by assumption)), ?_⟩
  | ((with_reducible refine' Vf.r_ixT ?evs ?eva ?_); (case evs => first | assumption | exact Vf.sqt (by assumption)); (case eva => rfl))
  | ((with_reducible refine' Vf.r_setL ?evs ?eva ?_); (case evs => assumption); (case eva => rfl))
  | with_reducible refine Vf.ifNT ?_ | with_reducible refine Vf.ifNF ?_ | ((with_reducible refine' Vf.r_sin ?evs ?_); (case evs => assumption)) | with_reducible refine L2.iteT ?_ | with_reducible refine L2.iteF ?_ | (with_reducible refine Vf.ifD (by walk_at "cond") ?_) | (with_reducible refine Vf.ifDn (by walk_at "cond") ?_) | (with_reducible refine Vf.ifN (by walk_at "cond") ?_) | (with_reducible refine Vf.ifNn (by walk_at "cond") ?_)
  | with_reducible dsimp only
  | refine Or.inl ⟨_, rfl, ?_⟩ | refine Or.inr ⟨_, rfl, ?_⟩ | refine ⟨_, _, rfl, ?_⟩ | refine ⟨_, rfl, ?_⟩ | refine ⟨rfl, ?_⟩)
local macro_rules | `(tactic| walk_at "ev") => `(tactic| repeat (walk_at "ev1"))

namespace K31
open PySem PySem.Spec PyProof.Rows L2 Vf
section
variable {P : Program} {w : World} {K : PySem.W.Frag} {mg : Str → Option Value} {base : Heap}
theorem ok__law_well {f : Addr} {fd : FuncData} (F : Fun K "_law_well" "_law_well" s__law_well f fd) (m_max : mg "max" = none) (m_len : mg "len" = none) (m_int : mg "int" = none) (m_abs : mg "abs" = none) : FnOk P w K mg base CX0 1 f fd ["script", "k"] (sp__law_well K) := by
  refine F.ok sc__law_well (fun vs H Q E h => ?_) (fun cdv A outer s H vs Q E hr h => ?_)
  · obtain ⟨_, _, _, rfl, _⟩ := h
    rfl
  · have hu := hu_of hr
    obtain ⟨s, ns, k, rfl, hS, hl, k0, k1, q⟩ := h
    refine ⟨_, (pss_cons (ps_set (i := 2) sc__law_well.nd rfl (Or.inl rfl) (pe_ifExp (pt_cmpR op_lt (pv 1) (pe_callB (lenK (K := K)) (by rfl) m_len (by decide +kernel) (pa_cons (pv 0) pa_nil)) (nomark _)) (pe_ix (ixL (K := K)) (pv 0) (pv 1) (fun _ _ => rfl)) pe_int))
        (pss_one (ps_ret (pe_lst (pa_cons (pe_callB (call_max2 rfl) (by rfl) m_max (by decide +kernel) (pa_cons pe_int (pa_cons (pe_op op_sub (pv 2) (pe_op op_powW pe_int pe_int)) pa_nil))) (pa_cons (pe_op op_add (pe_op op_add (pe_op op_modN (pe_callTy call_int1 (by rfl) m_int (by decide +kernel) (pa_cons (pe_callB call_abs (by rfl) m_abs (by decide +kernel) (pa_cons (pv 2) pa_nil)) pa_nil)) (pe_op op_add (pe_op op_powW pe_int pe_int) pe_int)) (pe_op op_mul pe_int (pv 1))) pe_int) (pa_cons pe_int pa_nil))))))), ?_⟩
    have fin : ∀ c : Int, ∀ p, H p = none → Q (.ref p) (upd H p (.lst [.int (if 0 < c - 10 ^ Int.toNat 18 then c - 10 ^ Int.toNat 18 else 0), .int (Int.fmod (if c < 0 then -c else c) (10 ^ Int.toNat 31 + 33) + 6700417 * k + 257), .int 0])) := fun c p np => by
      have e1 := fm (if c < 0 then -c else c) (10 ^ Int.toNat 31 + 33) (by decide)
      have e2 : (10 : Int) ^ Int.toNat 31 + 33 = 10000000000000000000000000000033 := by decide
      rw [e2] at e1
      refine q p _ (same_new np) np ⟨_, _, _, upd_same, ?_, ?_, ?_, by decide, by decide⟩
      · split <;> omega
      · rw [e2]; omega
      · rw [e2]; omega
    walk_at "ev"
    have ev3 : ∀ c : Int, (fun i j : Int => 0 ≤ j ∧ (Builtin.Int.intBits i : Int) * j ≤ 2 ^ 27) 10 18 := fun _ => ⟨by decide, by decide⟩
    have cm : CMul 6700417 k := .inl ⟨by decide, by decide⟩
    refine ite2 (fun hk => ?_) (fun hk => ?_)
    · have hk := of_decide_eq_true hk
      rw [List.length_map] at hk
      obtain ⟨x, hx, _⟩ := at_int (ns := ns) (r := k) k0 hk
      refine r_op (r_var ⟨_, rfl, r_var ⟨_, rfl, r_ixL hS hx ?_⟩⟩)
      walk_at "ev"
      exact ⟨szl (by show 3 ≤ 100000; decide), fun p np => fin x p np⟩
    · walk_at "ev"
      exact ⟨szl (by show 3 ≤ 100000; decide), fun p np => fin 0 p np⟩
end
end K31
namespace K31
open PySem PySem.Spec PyProof.Rows L2 Vf
section
variable {P : Program} {w : World} {K : PySem.W.Frag} {mg : Str → Option Value} {base : Heap}
theorem ok__law_pick {f : Addr} {fd : FuncData} (F : Fun K "_law_pick" "_law_pick" s__law_pick f fd) (m_int : mg "int" = none) : FnOk P w K mg base CX0 1 f fd ["well", "bound"] (sp__law_pick K) := by
  refine F.ok sc__law_pick (fun vs H Q E h => ?_) (fun cdv A outer s H vs Q E hr h => ?_)
  · obtain ⟨_, _, _, rfl, _⟩ := h
    rfl
  · have hu := hu_of hr
    obtain ⟨t, n, m, rfl, ⟨a, b, c, ht, a0, b0, b1, c0, c1⟩, n0, n1, m0, m1, q⟩ := h
    refine ⟨_, (pss_cons (ps_if (pt_cmpR op_gt (pe_ix (ixL (K := K)) (pv 0) pe_int (fun _ _ => rfl)) pe_int (nomark _)) (pss_cons (ps_set (i := 2) sc__law_pick.nd rfl (Or.inl rfl) (pe_op op_modN (pe_callTy call_int1 (by rfl) m_int (by decide +kernel) (pa_cons (pe_ix (ixL (K := K)) (pv 0) pe_int (fun _ _ => rfl)) pa_nil)) (pv 1)))
        (pss_cons (ps_asg (pe_op op_fdivN (pe_ix (ixL (K := K)) (pv 0) pe_int (fun _ _ => rfl)) (pv 1)) (pg_sub (pv 0) pe_int set_list))
        (pss_one (ps_ret (pv 2))))) pss_nil)
        (pss_cons (ps_asg (pe_op op_add (pe_ix (ixL (K := K)) (pv 0) pe_int (fun _ _ => rfl)) pe_int) (pg_sub (pv 0) pe_int set_list))
        (pss_cons (ps_set (i := 3) sc__law_pick.nd rfl (Or.inl rfl) (pe_op op_modN (pe_callTy call_int1 (by rfl) m_int (by decide +kernel) (pa_cons (pe_op op_powW (pe_op op_add (pe_ix (ixL (K := K)) (pv 0) pe_int (fun _ _ => rfl)) (pe_op op_mul pe_int (pe_ix (ixL (K := K)) (pv 0) pe_int (fun _ _ => rfl)))) pe_int) pa_nil)) (pe_op op_add (pe_op op_powW pe_int pe_int) pe_int)))
        (pss_cons (ps_set (i := 3) sc__law_pick.nd rfl (Or.inl rfl) (pe_op op_modN (pe_callTy call_int1 (by rfl) m_int (by decide +kernel) (pa_cons (pe_op op_powW (pe_op op_add (pv 3) (pe_op op_mul pe_int (pe_ix (ixL (K := K)) (pv 0) pe_int (fun _ _ => rfl)))) pe_int) pa_nil)) (pe_op op_add (pe_op op_powW pe_int pe_int) pe_int)))
        (pss_one (ps_ret (pe_op op_modN (pe_callTy call_int1 (by rfl) m_int (by decide +kernel) (pa_cons (pe_op op_fdivN (pv 3) pe_int) pa_nil)) (pv 1)))))))), ?_⟩
    have nz : n ≠ 0 := by omega
    have nb : CDivN a n := ⟨nz, by omega⟩
    have hS : SqL K H t [.int a, .int b, .int c] := .inl (.inl ht)
    walk_at "ev"
    refine ite2 (fun _ => ?_) (fun _ => ?_)
    · walk_at "ev"
      have e1 := fm a n n0
      exact q _ _ e1.1 e1.2 (fun b e => upd_ne e) ⟨_, _, _, upd_same, Int.fdiv_nonneg a0 (by omega), b0, b1, c0, by omega⟩
    · walk_at "ev"
      have s0 : upd H t (.lst ([.int a, .int b, .int c].set (Int.toNat 2) (.int (c + 1)))) t = some (.lst [.int a, .int b, .int (c + 1)]) := upd_same
      generalize h1 : upd H t (.lst ([.int a, .int b, .int c].set (Int.toNat 2) (.int (c + 1)))) = H1 at s0 ⊢
      have s1 : SqL K H1 t [.int a, .int b, .int (c + 1)] := .inl (.inl s0)
      have m1 : CMul 524287 (c + 1) := .inl ⟨by decide, by decide⟩
      walk_at "ev"
      refine r_I (pow_side (m := 150) (by omega) (by decide) (by decide)) ?_
      walk_at "ev"
      have e1 := fm ((b + 524287 * (c + 1)) ^ Int.toNat 5) (10 ^ Int.toNat 33 + 61) (by decide)
      have e2 : (10 : Int) ^ Int.toNat 33 + 61 = 1000000000000000000000000000000061 := by decide
      generalize Int.fmod ((b + 524287 * (c + 1)) ^ Int.toNat 5) (10 ^ Int.toNat 33 + 61) = z at e1 ⊢
      rw [e2] at e1
      have m2 : CMul 2097143 (c + 1) := .inl ⟨by decide, by decide⟩
      walk_at "ev"
      refine r_I (pow_side (m := 150) (by omega) (by decide) (by decide)) ?_
      walk_at "ev"
      have e3 := fm (Int.fdiv (Int.fmod ((z + 2097143 * (c + 1)) ^ Int.toNat 3) (10 ^ Int.toNat 27 + 103)) 4093) n n0
      exact q _ _ e3.1 e3.2 (fun b e => by rw [← h1, upd_ne e]) ⟨_, _, _, s0, a0, b0, b1, by omega, by omega⟩
end
end K31
namespace K31
open PySem PySem.Spec PyProof.Rows L2 Vf
section
variable {P : Program} {w : World} {K : PySem.W.Frag} {mg : Str → Option Value} {base : Heap}
theorem ok__law_kinds {f : Addr} {fd : FuncData} (F : Fun K "_law_kinds" "_law_kinds" s__law_kinds f fd) (m_isinstance : mg "isinstance" = none) (F_InvalidLayout : NewF P w K mg base "InvalidLayout" "index") (F_InvalidRows : NewF P w K mg base "InvalidRows" "index") (F_InvalidRings : NewF P w K mg base "InvalidRings" "index") (F_InvalidOpens : NewF P w K mg base "InvalidOpens" "index") (F_InvalidText : NewF P w K mg base "InvalidText" "part") (F_TooMany : NewF P w K mg base "TooMany" "limit") (F_Farther : NewF P w K mg base "Farther" "moves") (N_InvalidPieces : New1 K mg "InvalidPieces") (N_InvalidEnd : New1 K mg "InvalidEnd") (N_InvalidMove : New1 K mg "InvalidMove") (N_InvalidMoves : New1 K mg "InvalidMoves") (N_InvalidSight : New1 K mg "InvalidSight") (N_InvalidNumber : New1 K mg "InvalidNumber") (N_InvalidCommand : New1 K mg "InvalidCommand") (N_NotBetween : New1 K mg "NotBetween") (N_MixedWays : New1 K mg "MixedWays") (N_NotFitting : New1 K mg "NotFitting") (N_Clash : New1 K mg "Clash") (N_NothingToUndo : New1 K mg "NothingToUndo") : FnOk P w K mg base CX0 3 f fd ["error"] (sp__law_kinds K) := by
  refine F.ok sc__law_kinds (fun vs H Q E h => ?_) (fun cdv A outer s H vs Q E hr h => ?_)
  · obtain ⟨_, _, _, rfl, _⟩ := h
    rfl
  · have hu := hu_of hr
    obtain ⟨a, C, bs, rfl, hx, hC, hk, q⟩ := h
    refine ⟨_, (pss_cons (ps_set (i := 1) sc__law_kinds.nd rfl (Or.inl rfl) (pe_lst (pa_cons (pe_callB (isxK (K := K)) (by rfl) m_isinstance (by decide +kernel) (pa_cons (pv 0) (pa_cons (pe_cls F_InvalidLayout.cl) pa_nil))) (pa_cons (pe_callB (isxK (K := K)) (by rfl) m_isinstance (by decide +kernel) (pa_cons (pv 0) (pa_cons (pe_cls F_InvalidRows.cl) pa_nil))) (pa_cons (pe_callB (isxK (K := K)) (by rfl) m_isinstance (by decide +kernel) (pa_cons (pv 0) (pa_cons (pe_cls F_InvalidRings.cl) pa_nil))) pa_nil)))))
        (pss_cons (ps_set (i := 1) sc__law_kinds.nd rfl (Or.inl rfl) (pe_op (catK (K := K)) (pv 1) (pe_lst (pa_cons (pe_callB (isxK (K := K)) (by rfl) m_isinstance (by decide +kernel) (pa_cons (pv 0) (pa_cons (pe_cls F_InvalidOpens.cl) pa_nil))) (pa_cons (pe_callB (isxK (K := K)) (by rfl) m_isinstance (by decide +kernel) (pa_cons (pv 0) (pa_cons (pe_cls F_InvalidText.cl) pa_nil))) (pa_cons (pe_callB (isxK (K := K)) (by rfl) m_isinstance (by decide +kernel) (pa_cons (pv 0) (pa_cons (pe_cls F_TooMany.cl) pa_nil))) pa_nil))))))
        (pss_cons (ps_set (i := 1) sc__law_kinds.nd rfl (Or.inl rfl) (pe_op (catK (K := K)) (pv 1) (pe_lst (pa_cons (pe_callB (isxK (K := K)) (by rfl) m_isinstance (by decide +kernel) (pa_cons (pv 0) (pa_cons (pe_cls F_Farther.cl) pa_nil))) (pa_cons (pe_callB (isxK (K := K)) (by rfl) m_isinstance (by decide +kernel) (pa_cons (pv 0) (pa_cons (pe_cls N_InvalidPieces.cl) pa_nil))) (pa_cons (pe_callB (isxK (K := K)) (by rfl) m_isinstance (by decide +kernel) (pa_cons (pv 0) (pa_cons (pe_cls N_InvalidEnd.cl) pa_nil))) pa_nil))))))
        (pss_cons (ps_set (i := 1) sc__law_kinds.nd rfl (Or.inl rfl) (pe_op (catK (K := K)) (pv 1) (pe_lst (pa_cons (pe_callB (isxK (K := K)) (by rfl) m_isinstance (by decide +kernel) (pa_cons (pv 0) (pa_cons (pe_cls N_InvalidMove.cl) pa_nil))) (pa_cons (pe_callB (isxK (K := K)) (by rfl) m_isinstance (by decide +kernel) (pa_cons (pv 0) (pa_cons (pe_cls N_InvalidMoves.cl) pa_nil))) (pa_cons (pe_callB (isxK (K := K)) (by rfl) m_isinstance (by decide +kernel) (pa_cons (pv 0) (pa_cons (pe_cls N_InvalidSight.cl) pa_nil))) pa_nil))))))
        (pss_cons (ps_set (i := 1) sc__law_kinds.nd rfl (Or.inl rfl) (pe_op (catK (K := K)) (pv 1) (pe_lst (pa_cons (pe_callB (isxK (K := K)) (by rfl) m_isinstance (by decide +kernel) (pa_cons (pv 0) (pa_cons (pe_cls N_InvalidNumber.cl) pa_nil))) (pa_cons (pe_callB (isxK (K := K)) (by rfl) m_isinstance (by decide +kernel) (pa_cons (pv 0) (pa_cons (pe_cls N_InvalidCommand.cl) pa_nil))) (pa_cons (pe_callB (isxK (K := K)) (by rfl) m_isinstance (by decide +kernel) (pa_cons (pv 0) (pa_cons (pe_cls N_NotBetween.cl) pa_nil))) pa_nil))))))
        (pss_cons (ps_set (i := 1) sc__law_kinds.nd rfl (Or.inl rfl) (pe_op (catK (K := K)) (pv 1) (pe_lst (pa_cons (pe_callB (isxK (K := K)) (by rfl) m_isinstance (by decide +kernel) (pa_cons (pv 0) (pa_cons (pe_cls N_MixedWays.cl) pa_nil))) (pa_cons (pe_callB (isxK (K := K)) (by rfl) m_isinstance (by decide +kernel) (pa_cons (pv 0) (pa_cons (pe_cls N_NotFitting.cl) pa_nil))) (pa_cons (pe_callB (isxK (K := K)) (by rfl) m_isinstance (by decide +kernel) (pa_cons (pv 0) (pa_cons (pe_cls N_Clash.cl) pa_nil))) pa_nil))))))
        (pss_one (ps_ret (pe_op (catK (K := K)) (pv 1) (pe_lst (pa_cons (pe_callB (isxK (K := K)) (by rfl) m_isinstance (by decide +kernel) (pa_cons (pv 0) (pa_cons (pe_cls N_NothingToUndo.cl) pa_nil))) pa_nil))))))))))), ?_⟩
    unfold Kit nameX at hk
    obtain ⟨b0, bs, rfl, h0, hk⟩ := paired_inv hk
    obtain ⟨b1, bs, rfl, h1, hk⟩ := paired_inv hk
    obtain ⟨b2, bs, rfl, h2, hk⟩ := paired_inv hk
    obtain ⟨b3, bs, rfl, h3, hk⟩ := paired_inv hk
    obtain ⟨b4, bs, rfl, h4, hk⟩ := paired_inv hk
    obtain ⟨b5, bs, rfl, h5, hk⟩ := paired_inv hk
    obtain ⟨b6, bs, rfl, h6, hk⟩ := paired_inv hk
    obtain ⟨b7, bs, rfl, h7, hk⟩ := paired_inv hk
    obtain ⟨b8, bs, rfl, h8, hk⟩ := paired_inv hk
    obtain ⟨b9, bs, rfl, h9, hk⟩ := paired_inv hk
    obtain ⟨b10, bs, rfl, h10, hk⟩ := paired_inv hk
    obtain ⟨b11, bs, rfl, h11, hk⟩ := paired_inv hk
    obtain ⟨b12, bs, rfl, h12, hk⟩ := paired_inv hk
    obtain ⟨b13, bs, rfl, h13, hk⟩ := paired_inv hk
    obtain ⟨b14, bs, rfl, h14, hk⟩ := paired_inv hk
    obtain ⟨b15, bs, rfl, h15, hk⟩ := paired_inv hk
    obtain ⟨b16, bs, rfl, h16, hk⟩ := paired_inv hk
    obtain ⟨b17, bs, rfl, h17, hk⟩ := paired_inv hk
    obtain ⟨b18, bs, rfl, h18, hk⟩ := paired_inv hk
    cases paired_nil hk
    clear hk
    walk_at "ev"
    refine r_isX hx hC (.own _) h0 ?_
    walk_at "ev"
    refine r_isX hx hC (.own _) h1 ?_
    walk_at "ev"
    refine r_isX hx hC (.own _) h2 ?_
    walk_at "ev"
    refine ⟨szl (by show 3 ≤ 100000; decide), fun p0 np0 => ?_⟩
    have s0 := same_new (o := .lst [.bl b0, .bl b1, .bl b2]) np0
    have e0 : upd H p0 (.lst [.bl b0, .bl b1, .bl b2]) p0 = some (.lst [.bl b0, .bl b1, .bl b2]) := upd_same
    generalize upd H p0 (.lst [.bl b0, .bl b1, .bl b2]) = G0 at s0 e0 ⊢
    replace hx := hx.mono s0
    have lst := e0
    have sm := s0
    walk_at "ev"
    refine r_isX hx hC (.own _) h3 ?_
    walk_at "ev"
    refine r_isX hx hC (.own _) h4 ?_
    walk_at "ev"
    refine r_isX hx hC (.own _) h5 ?_
    walk_at "ev"
    refine ⟨szl (by show 3 ≤ 100000; decide), fun p1 np1 => ?_⟩
    have s1 := same_new (o := .lst [.bl b3, .bl b4, .bl b5]) np1
    have e1 : upd G0 p1 (.lst [.bl b3, .bl b4, .bl b5]) p1 = some (.lst [.bl b3, .bl b4, .bl b5]) := upd_same
    generalize upd G0 p1 (.lst [.bl b3, .bl b4, .bl b5]) = G1 at s1 e1 ⊢
    replace hx := hx.mono s1
    have lp := s1 _ _ lst
    walk_at "ev"
    refine ⟨_, _, _, _, rfl, rfl, sql lp, sql e1, szl (by show 6 ≤ 100000; decide), fun r1 nr1 => ?_⟩
    have t1 := same_new (o := .lst [.bl b0, .bl b1, .bl b2, .bl b3, .bl b4, .bl b5]) nr1
    have f1 : upd G1 r1 (.lst [.bl b0, .bl b1, .bl b2, .bl b3, .bl b4, .bl b5]) r1 = some (.lst [.bl b0, .bl b1, .bl b2, .bl b3, .bl b4, .bl b5]) := upd_same
    simp only [List.cons_append, List.nil_append]
    generalize upd G1 r1 (.lst [.bl b0, .bl b1, .bl b2, .bl b3, .bl b4, .bl b5]) = F1 at t1 f1 ⊢
    replace hx := hx.mono t1
    clear lst lp
    have lst := f1
    have sm := sm.trans (s1.trans t1)
    walk_at "ev"
    refine r_isX hx hC (.own _) h6 ?_
    walk_at "ev"
    refine r_isX hx hC (.own _) h7 ?_
    walk_at "ev"
    refine r_isX hx hC (.own _) h8 ?_
    walk_at "ev"
    refine ⟨szl (by show 3 ≤ 100000; decide), fun p2 np2 => ?_⟩
    have s2 := same_new (o := .lst [.bl b6, .bl b7, .bl b8]) np2
    have e2 : upd F1 p2 (.lst [.bl b6, .bl b7, .bl b8]) p2 = some (.lst [.bl b6, .bl b7, .bl b8]) := upd_same
    generalize upd F1 p2 (.lst [.bl b6, .bl b7, .bl b8]) = G2 at s2 e2 ⊢
    replace hx := hx.mono s2
    have lp := s2 _ _ lst
    walk_at "ev"
    refine ⟨_, _, _, _, rfl, rfl, sql lp, sql e2, szl (by show 9 ≤ 100000; decide), fun r2 nr2 => ?_⟩
    have t2 := same_new (o := .lst [.bl b0, .bl b1, .bl b2, .bl b3, .bl b4, .bl b5, .bl b6, .bl b7, .bl b8]) nr2
    have f2 : upd G2 r2 (.lst [.bl b0, .bl b1, .bl b2, .bl b3, .bl b4, .bl b5, .bl b6, .bl b7, .bl b8]) r2 = some (.lst [.bl b0, .bl b1, .bl b2, .bl b3, .bl b4, .bl b5, .bl b6, .bl b7, .bl b8]) := upd_same
    simp only [List.cons_append, List.nil_append]
    generalize upd G2 r2 (.lst [.bl b0, .bl b1, .bl b2, .bl b3, .bl b4, .bl b5, .bl b6, .bl b7, .bl b8]) = F2 at t2 f2 ⊢
    replace hx := hx.mono t2
    clear lst lp
    have lst := f2
    have sm := sm.trans (s2.trans t2)
    walk_at "ev"
    refine r_isX hx hC (.own _) h9 ?_
    walk_at "ev"
    refine r_isX hx hC (.own _) h10 ?_
    walk_at "ev"
    refine r_isX hx hC (.own _) h11 ?_
    walk_at "ev"
    refine ⟨szl (by show 3 ≤ 100000; decide), fun p3 np3 => ?_⟩
    have s3 := same_new (o := .lst [.bl b9, .bl b10, .bl b11]) np3
    have e3 : upd F2 p3 (.lst [.bl b9, .bl b10, .bl b11]) p3 = some (.lst [.bl b9, .bl b10, .bl b11]) := upd_same
    generalize upd F2 p3 (.lst [.bl b9, .bl b10, .bl b11]) = G3 at s3 e3 ⊢
    replace hx := hx.mono s3
    have lp := s3 _ _ lst
    walk_at "ev"
    refine ⟨_, _, _, _, rfl, rfl, sql lp, sql e3, szl (by show 12 ≤ 100000; decide), fun r3 nr3 => ?_⟩
    have t3 := same_new (o := .lst [.bl b0, .bl b1, .bl b2, .bl b3, .bl b4, .bl b5, .bl b6, .bl b7, .bl b8, .bl b9, .bl b10, .bl b11]) nr3
    have f3 : upd G3 r3 (.lst [.bl b0, .bl b1, .bl b2, .bl b3, .bl b4, .bl b5, .bl b6, .bl b7, .bl b8, .bl b9, .bl b10, .bl b11]) r3 = some (.lst [.bl b0, .bl b1, .bl b2, .bl b3, .bl b4, .bl b5, .bl b6, .bl b7, .bl b8, .bl b9, .bl b10, .bl b11]) := upd_same
    simp only [List.cons_append, List.nil_append]
    generalize upd G3 r3 (.lst [.bl b0, .bl b1, .bl b2, .bl b3, .bl b4, .bl b5, .bl b6, .bl b7, .bl b8, .bl b9, .bl b10, .bl b11]) = F3 at t3 f3 ⊢
    replace hx := hx.mono t3
    clear lst lp
    have lst := f3
    have sm := sm.trans (s3.trans t3)
    walk_at "ev"
    refine r_isX hx hC (.own _) h12 ?_
    walk_at "ev"
    refine r_isX hx hC (.own _) h13 ?_
    walk_at "ev"
    refine r_isX hx hC (.own _) h14 ?_
    walk_at "ev"
    refine ⟨szl (by show 3 ≤ 100000; decide), fun p4 np4 => ?_⟩
    have s4 := same_new (o := .lst [.bl b12, .bl b13, .bl b14]) np4
    have e4 : upd F3 p4 (.lst [.bl b12, .bl b13, .bl b14]) p4 = some (.lst [.bl b12, .bl b13, .bl b14]) := upd_same
    generalize upd F3 p4 (.lst [.bl b12, .bl b13, .bl b14]) = G4 at s4 e4 ⊢
    replace hx := hx.mono s4
    have lp := s4 _ _ lst
    walk_at "ev"
    refine ⟨_, _, _, _, rfl, rfl, sql lp, sql e4, szl (by show 15 ≤ 100000; decide), fun r4 nr4 => ?_⟩
    have t4 := same_new (o := .lst [.bl b0, .bl b1, .bl b2, .bl b3, .bl b4, .bl b5, .bl b6, .bl b7, .bl b8, .bl b9, .bl b10, .bl b11, .bl b12, .bl b13, .bl b14]) nr4
    have f4 : upd G4 r4 (.lst [.bl b0, .bl b1, .bl b2, .bl b3, .bl b4, .bl b5, .bl b6, .bl b7, .bl b8, .bl b9, .bl b10, .bl b11, .bl b12, .bl b13, .bl b14]) r4 = some (.lst [.bl b0, .bl b1, .bl b2, .bl b3, .bl b4, .bl b5, .bl b6, .bl b7, .bl b8, .bl b9, .bl b10, .bl b11, .bl b12, .bl b13, .bl b14]) := upd_same
    simp only [List.cons_append, List.nil_append]
    generalize upd G4 r4 (.lst [.bl b0, .bl b1, .bl b2, .bl b3, .bl b4, .bl b5, .bl b6, .bl b7, .bl b8, .bl b9, .bl b10, .bl b11, .bl b12, .bl b13, .bl b14]) = F4 at t4 f4 ⊢
    replace hx := hx.mono t4
    clear lst lp
    have lst := f4
    have sm := sm.trans (s4.trans t4)
    walk_at "ev"
    refine r_isX hx hC (.own _) h15 ?_
    walk_at "ev"
    refine r_isX hx hC (.own _) h16 ?_
    walk_at "ev"
    refine r_isX hx hC (.own _) h17 ?_
    walk_at "ev"
    refine ⟨szl (by show 3 ≤ 100000; decide), fun p5 np5 => ?_⟩
    have s5 := same_new (o := .lst [.bl b15, .bl b16, .bl b17]) np5
    have e5 : upd F4 p5 (.lst [.bl b15, .bl b16, .bl b17]) p5 = some (.lst [.bl b15, .bl b16, .bl b17]) := upd_same
    generalize upd F4 p5 (.lst [.bl b15, .bl b16, .bl b17]) = G5 at s5 e5 ⊢
    replace hx := hx.mono s5
    have lp := s5 _ _ lst
    walk_at "ev"
    refine ⟨_, _, _, _, rfl, rfl, sql lp, sql e5, szl (by show 18 ≤ 100000; decide), fun r5 nr5 => ?_⟩
    have t5 := same_new (o := .lst [.bl b0, .bl b1, .bl b2, .bl b3, .bl b4, .bl b5, .bl b6, .bl b7, .bl b8, .bl b9, .bl b10, .bl b11, .bl b12, .bl b13, .bl b14, .bl b15, .bl b16, .bl b17]) nr5
    have f5 : upd G5 r5 (.lst [.bl b0, .bl b1, .bl b2, .bl b3, .bl b4, .bl b5, .bl b6, .bl b7, .bl b8, .bl b9, .bl b10, .bl b11, .bl b12, .bl b13, .bl b14, .bl b15, .bl b16, .bl b17]) r5 = some (.lst [.bl b0, .bl b1, .bl b2, .bl b3, .bl b4, .bl b5, .bl b6, .bl b7, .bl b8, .bl b9, .bl b10, .bl b11, .bl b12, .bl b13, .bl b14, .bl b15, .bl b16, .bl b17]) := upd_same
    simp only [List.cons_append, List.nil_append]
    generalize upd G5 r5 (.lst [.bl b0, .bl b1, .bl b2, .bl b3, .bl b4, .bl b5, .bl b6, .bl b7, .bl b8, .bl b9, .bl b10, .bl b11, .bl b12, .bl b13, .bl b14, .bl b15, .bl b16, .bl b17]) = F5 at t5 f5 ⊢
    replace hx := hx.mono t5
    clear lst lp
    have lst := f5
    have sm := sm.trans (s5.trans t5)
    walk_at "ev"
    refine r_isX hx hC (.own _) h18 ?_
    walk_at "ev"
    refine ⟨szl (by show 1 ≤ 100000; decide), fun p6 np6 => ?_⟩
    have s6 := same_new (o := .lst [.bl b18]) np6
    have e6 : upd F5 p6 (.lst [.bl b18]) p6 = some (.lst [.bl b18]) := upd_same
    generalize upd F5 p6 (.lst [.bl b18]) = G6 at s6 e6 ⊢
    replace hx := hx.mono s6
    have lp := s6 _ _ lst
    walk_at "ev"
    refine ⟨_, _, _, _, rfl, rfl, sql lp, sql e6, szl (by show 19 ≤ 100000; decide), fun r6 nr6 => ?_⟩
    have t6 := same_new (o := .lst [.bl b0, .bl b1, .bl b2, .bl b3, .bl b4, .bl b5, .bl b6, .bl b7, .bl b8, .bl b9, .bl b10, .bl b11, .bl b12, .bl b13, .bl b14, .bl b15, .bl b16, .bl b17, .bl b18]) nr6
    have f6 : upd G6 r6 (.lst [.bl b0, .bl b1, .bl b2, .bl b3, .bl b4, .bl b5, .bl b6, .bl b7, .bl b8, .bl b9, .bl b10, .bl b11, .bl b12, .bl b13, .bl b14, .bl b15, .bl b16, .bl b17, .bl b18]) r6 = some (.lst [.bl b0, .bl b1, .bl b2, .bl b3, .bl b4, .bl b5, .bl b6, .bl b7, .bl b8, .bl b9, .bl b10, .bl b11, .bl b12, .bl b13, .bl b14, .bl b15, .bl b16, .bl b17, .bl b18]) := upd_same
    exact q _ _ (sm.trans (s6.trans t6)) (sm.free (s6.free nr6)) f6
end
end K31
namespace K31
open PySem PySem.Spec PyProof.Rows L2 Vf
section
variable {P : Program} {w : World} {K : PySem.W.Frag} {mg : Str → Option Value} {base : Heap}
theorem ok__law_created {f : Addr} {fd : FuncData} (F : Fun K "_law_created" "_law_created" s__law_created f fd) (F_InvalidLayout : NewF P w K mg base "InvalidLayout" "index") (F_InvalidRows : NewF P w K mg base "InvalidRows" "index") (F_InvalidRings : NewF P w K mg base "InvalidRings" "index") (F_InvalidOpens : NewF P w K mg base "InvalidOpens" "index") (F_InvalidText : NewF P w K mg base "InvalidText" "part") (F_TooMany : NewF P w K mg base "TooMany" "limit") (F_Farther : NewF P w K mg base "Farther" "moves") (N_InvalidPieces : New1 K mg "InvalidPieces") (N_InvalidEnd : New1 K mg "InvalidEnd") (N_InvalidMove : New1 K mg "InvalidMove") (N_InvalidMoves : New1 K mg "InvalidMoves") (N_InvalidSight : New1 K mg "InvalidSight") (N_InvalidNumber : New1 K mg "InvalidNumber") (N_InvalidCommand : New1 K mg "InvalidCommand") (N_NotBetween : New1 K mg "NotBetween") (N_MixedWays : New1 K mg "MixedWays") (N_NotFitting : New1 K mg "NotFitting") (N_Clash : New1 K mg "Clash") (N_NothingToUndo : New1 K mg "NothingToUndo") : FnOk P w K mg base CX0 3 f fd ["text", "spot", "bound"] (sp__law_created K) := by
  refine F.ok sc__law_created (fun vs H Q E h => ?_) (fun cdv A outer s H vs Q E hr h => ?_)
  · obtain ⟨_, _, _, rfl, _⟩ := h
    rfl
  · have hu := hu_of hr
    obtain ⟨t, s, b, rfl, es, eb, q⟩ := h
    refine ⟨_, (pss_cons (ps_set (i := 3) sc__law_created.nd rfl (Or.inl rfl) (pe_lst (pa_cons (pe_nF F_InvalidLayout (hr.mono (by decide)) (pv 1)) (pa_cons (pe_nF F_InvalidRows (hr.mono (by decide)) (pv 1)) (pa_cons (pe_nF F_InvalidRings (hr.mono (by decide)) (pv 1)) (pa_cons (pe_nF F_InvalidOpens (hr.mono (by decide)) (pv 1)) (pa_cons (pe_nF F_InvalidText (hr.mono (by decide)) (pv 1)) pa_nil)))))))
        (pss_cons (ps_set (i := 3) sc__law_created.nd rfl (Or.inl rfl) (pe_op (catK (K := K)) (pv 3) (pe_lst (pa_cons (pe_nF F_TooMany (hr.mono (by decide)) (pv 2)) (pa_cons (pe_nF F_Farther (hr.mono (by decide)) (pv 2)) (pa_cons (pe_n1 N_InvalidPieces (pv 0)) (pa_cons (pe_n1 N_InvalidEnd (pv 0)) (pa_cons (pe_n1 N_InvalidMove (pv 0)) pa_nil))))))))
        (pss_cons (ps_set (i := 3) sc__law_created.nd rfl (Or.inl rfl) (pe_op (catK (K := K)) (pv 3) (pe_lst (pa_cons (pe_n1 N_InvalidMoves (pv 0)) (pa_cons (pe_n1 N_InvalidSight (pv 0)) (pa_cons (pe_n1 N_InvalidNumber (pv 0)) (pa_cons (pe_n1 N_InvalidCommand (pv 0)) pa_nil)))))))
        (pss_one (ps_ret (pe_op (catK (K := K)) (pv 3) (pe_lst (pa_cons (pe_n1 N_NotBetween (pv 0)) (pa_cons (pe_n1 N_MixedWays (pv 0)) (pa_cons (pe_n1 N_NotFitting (pv 0)) (pa_cons (pe_n1 N_Clash (pv 0)) (pa_cons (pe_n1 N_NothingToUndo (pv 0)) pa_nil)))))))))))), ?_⟩
    walk_at "ev"
    refine ⟨es, fun a0 H1 s0 n0 e0 => ?_⟩
    walk_at "ev"
    refine ⟨es, fun a1 H2 s1 n1 e1 => ?_⟩
    walk_at "ev"
    refine ⟨es, fun a2 H3 s2 n2 e2 => ?_⟩
    walk_at "ev"
    refine ⟨es, fun a3 H4 s3 n3 e3 => ?_⟩
    walk_at "ev"
    refine ⟨es, fun a4 H5 s4 n4 e4 => ?_⟩
    walk_at "ev"
    refine ⟨szl (by show 5 ≤ 100000; decide), fun p0 np0 => ?_⟩
    have u0 := same_new (o := .lst [.ref a0, .ref a1, .ref a2, .ref a3, .ref a4]) np0
    have d0 : upd H5 p0 (.lst [.ref a0, .ref a1, .ref a2, .ref a3, .ref a4]) p0 = some (.lst [.ref a0, .ref a1, .ref a2, .ref a3, .ref a4]) := upd_same
    generalize upd H5 p0 (.lst [.ref a0, .ref a1, .ref a2, .ref a3, .ref a4]) = G0 at u0 d0 ⊢
    have lst := d0
    walk_at "ev"
    refine ⟨eb, fun a5 H6 s5 n5 e5 => ?_⟩
    walk_at "ev"
    refine ⟨eb, fun a6 H7 s6 n6 e6 => ?_⟩
    walk_at "ev"
    intro a7 n7
    have s7 := same_new (o := (ExO (.ref (clsOf K "InvalidPieces")) a7)) n7
    have e7 : upd H7 a7 (ExO (.ref (clsOf K "InvalidPieces")) a7) a7 = some (ExO (.ref (clsOf K "InvalidPieces")) a7) := upd_same
    generalize upd H7 a7 (ExO (.ref (clsOf K "InvalidPieces")) a7) = H8 at s7 e7 ⊢
    walk_at "ev"
    intro a8 n8
    have s8 := same_new (o := (ExO (.ref (clsOf K "InvalidEnd")) a8)) n8
    have e8 : upd H8 a8 (ExO (.ref (clsOf K "InvalidEnd")) a8) a8 = some (ExO (.ref (clsOf K "InvalidEnd")) a8) := upd_same
    generalize upd H8 a8 (ExO (.ref (clsOf K "InvalidEnd")) a8) = H9 at s8 e8 ⊢
    walk_at "ev"
    intro a9 n9
    have s9 := same_new (o := (ExO (.ref (clsOf K "InvalidMove")) a9)) n9
    have e9 : upd H9 a9 (ExO (.ref (clsOf K "InvalidMove")) a9) a9 = some (ExO (.ref (clsOf K "InvalidMove")) a9) := upd_same
    generalize upd H9 a9 (ExO (.ref (clsOf K "InvalidMove")) a9) = H10 at s9 e9 ⊢
    walk_at "ev"
    refine ⟨szl (by show 5 ≤ 100000; decide), fun p1 np1 => ?_⟩
    have u1 := same_new (o := .lst [.ref a5, .ref a6, .ref a7, .ref a8, .ref a9]) np1
    have d1 : upd H10 p1 (.lst [.ref a5, .ref a6, .ref a7, .ref a8, .ref a9]) p1 = some (.lst [.ref a5, .ref a6, .ref a7, .ref a8, .ref a9]) := upd_same
    generalize upd H10 p1 (.lst [.ref a5, .ref a6, .ref a7, .ref a8, .ref a9]) = G1 at u1 d1 ⊢
    have lp := (s5.trans (s6.trans (s7.trans (s8.trans (s9.trans u1))))) _ _ lst
    walk_at "ev"
    refine ⟨_, _, _, _, rfl, rfl, sql lp, sql d1, szl (by show 10 ≤ 100000; decide), fun r1 nr1 => ?_⟩
    have t1 := same_new (o := .lst [.ref a0, .ref a1, .ref a2, .ref a3, .ref a4, .ref a5, .ref a6, .ref a7, .ref a8, .ref a9]) nr1
    have f1 : upd G1 r1 (.lst [.ref a0, .ref a1, .ref a2, .ref a3, .ref a4, .ref a5, .ref a6, .ref a7, .ref a8, .ref a9]) r1 = some (.lst [.ref a0, .ref a1, .ref a2, .ref a3, .ref a4, .ref a5, .ref a6, .ref a7, .ref a8, .ref a9]) := upd_same
    simp only [List.cons_append, List.nil_append]
    generalize upd G1 r1 (.lst [.ref a0, .ref a1, .ref a2, .ref a3, .ref a4, .ref a5, .ref a6, .ref a7, .ref a8, .ref a9]) = F1 at t1 f1 ⊢
    clear lst lp
    have lst := f1
    walk_at "ev"
    intro a10 n10
    have s10 := same_new (o := (ExO (.ref (clsOf K "InvalidMoves")) a10)) n10
    have e10 : upd F1 a10 (ExO (.ref (clsOf K "InvalidMoves")) a10) a10 = some (ExO (.ref (clsOf K "InvalidMoves")) a10) := upd_same
    generalize upd F1 a10 (ExO (.ref (clsOf K "InvalidMoves")) a10) = H11 at s10 e10 ⊢
    walk_at "ev"
    intro a11 n11
    have s11 := same_new (o := (ExO (.ref (clsOf K "InvalidSight")) a11)) n11
    have e11 : upd H11 a11 (ExO (.ref (clsOf K "InvalidSight")) a11) a11 = some (ExO (.ref (clsOf K "InvalidSight")) a11) := upd_same
    generalize upd H11 a11 (ExO (.ref (clsOf K "InvalidSight")) a11) = H12 at s11 e11 ⊢
    walk_at "ev"
    intro a12 n12
    have s12 := same_new (o := (ExO (.ref (clsOf K "InvalidNumber")) a12)) n12
    have e12 : upd H12 a12 (ExO (.ref (clsOf K "InvalidNumber")) a12) a12 = some (ExO (.ref (clsOf K "InvalidNumber")) a12) := upd_same
    generalize upd H12 a12 (ExO (.ref (clsOf K "InvalidNumber")) a12) = H13 at s12 e12 ⊢
    walk_at "ev"
    intro a13 n13
    have s13 := same_new (o := (ExO (.ref (clsOf K "InvalidCommand")) a13)) n13
    have e13 : upd H13 a13 (ExO (.ref (clsOf K "InvalidCommand")) a13) a13 = some (ExO (.ref (clsOf K "InvalidCommand")) a13) := upd_same
    generalize upd H13 a13 (ExO (.ref (clsOf K "InvalidCommand")) a13) = H14 at s13 e13 ⊢
    walk_at "ev"
    refine ⟨szl (by show 4 ≤ 100000; decide), fun p2 np2 => ?_⟩
    have u2 := same_new (o := .lst [.ref a10, .ref a11, .ref a12, .ref a13]) np2
    have d2 : upd H14 p2 (.lst [.ref a10, .ref a11, .ref a12, .ref a13]) p2 = some (.lst [.ref a10, .ref a11, .ref a12, .ref a13]) := upd_same
    generalize upd H14 p2 (.lst [.ref a10, .ref a11, .ref a12, .ref a13]) = G2 at u2 d2 ⊢
    have lp := (s10.trans (s11.trans (s12.trans (s13.trans u2)))) _ _ lst
    walk_at "ev"
    refine ⟨_, _, _, _, rfl, rfl, sql lp, sql d2, szl (by show 14 ≤ 100000; decide), fun r2 nr2 => ?_⟩
    have t2 := same_new (o := .lst [.ref a0, .ref a1, .ref a2, .ref a3, .ref a4, .ref a5, .ref a6, .ref a7, .ref a8, .ref a9, .ref a10, .ref a11, .ref a12, .ref a13]) nr2
    have f2 : upd G2 r2 (.lst [.ref a0, .ref a1, .ref a2, .ref a3, .ref a4, .ref a5, .ref a6, .ref a7, .ref a8, .ref a9, .ref a10, .ref a11, .ref a12, .ref a13]) r2 = some (.lst [.ref a0, .ref a1, .ref a2, .ref a3, .ref a4, .ref a5, .ref a6, .ref a7, .ref a8, .ref a9, .ref a10, .ref a11, .ref a12, .ref a13]) := upd_same
    simp only [List.cons_append, List.nil_append]
    generalize upd G2 r2 (.lst [.ref a0, .ref a1, .ref a2, .ref a3, .ref a4, .ref a5, .ref a6, .ref a7, .ref a8, .ref a9, .ref a10, .ref a11, .ref a12, .ref a13]) = F2 at t2 f2 ⊢
    clear lst lp
    have lst := f2
    walk_at "ev"
    intro a14 n14
    have s14 := same_new (o := (ExO (.ref (clsOf K "NotBetween")) a14)) n14
    have e14 : upd F2 a14 (ExO (.ref (clsOf K "NotBetween")) a14) a14 = some (ExO (.ref (clsOf K "NotBetween")) a14) := upd_same
    generalize upd F2 a14 (ExO (.ref (clsOf K "NotBetween")) a14) = H15 at s14 e14 ⊢
    walk_at "ev"
    intro a15 n15
    have s15 := same_new (o := (ExO (.ref (clsOf K "MixedWays")) a15)) n15
    have e15 : upd H15 a15 (ExO (.ref (clsOf K "MixedWays")) a15) a15 = some (ExO (.ref (clsOf K "MixedWays")) a15) := upd_same
    generalize upd H15 a15 (ExO (.ref (clsOf K "MixedWays")) a15) = H16 at s15 e15 ⊢
    walk_at "ev"
    intro a16 n16
    have s16 := same_new (o := (ExO (.ref (clsOf K "NotFitting")) a16)) n16
    have e16 : upd H16 a16 (ExO (.ref (clsOf K "NotFitting")) a16) a16 = some (ExO (.ref (clsOf K "NotFitting")) a16) := upd_same
    generalize upd H16 a16 (ExO (.ref (clsOf K "NotFitting")) a16) = H17 at s16 e16 ⊢
    walk_at "ev"
    intro a17 n17
    have s17 := same_new (o := (ExO (.ref (clsOf K "Clash")) a17)) n17
    have e17 : upd H17 a17 (ExO (.ref (clsOf K "Clash")) a17) a17 = some (ExO (.ref (clsOf K "Clash")) a17) := upd_same
    generalize upd H17 a17 (ExO (.ref (clsOf K "Clash")) a17) = H18 at s17 e17 ⊢
    walk_at "ev"
    intro a18 n18
    have s18 := same_new (o := (ExO (.ref (clsOf K "NothingToUndo")) a18)) n18
    have e18 : upd H18 a18 (ExO (.ref (clsOf K "NothingToUndo")) a18) a18 = some (ExO (.ref (clsOf K "NothingToUndo")) a18) := upd_same
    generalize upd H18 a18 (ExO (.ref (clsOf K "NothingToUndo")) a18) = H19 at s18 e18 ⊢
    walk_at "ev"
    refine ⟨szl (by show 5 ≤ 100000; decide), fun p3 np3 => ?_⟩
    have u3 := same_new (o := .lst [.ref a14, .ref a15, .ref a16, .ref a17, .ref a18]) np3
    have d3 : upd H19 p3 (.lst [.ref a14, .ref a15, .ref a16, .ref a17, .ref a18]) p3 = some (.lst [.ref a14, .ref a15, .ref a16, .ref a17, .ref a18]) := upd_same
    generalize upd H19 p3 (.lst [.ref a14, .ref a15, .ref a16, .ref a17, .ref a18]) = G3 at u3 d3 ⊢
    have lp := (s14.trans (s15.trans (s16.trans (s17.trans (s18.trans u3))))) _ _ lst
    walk_at "ev"
    refine ⟨_, _, _, _, rfl, rfl, sql lp, sql d3, szl (by show 19 ≤ 100000; decide), fun r3 nr3 => ?_⟩
    have t3 := same_new (o := .lst [.ref a0, .ref a1, .ref a2, .ref a3, .ref a4, .ref a5, .ref a6, .ref a7, .ref a8, .ref a9, .ref a10, .ref a11, .ref a12, .ref a13, .ref a14, .ref a15, .ref a16, .ref a17, .ref a18]) nr3
    have f3 : upd G3 r3 (.lst [.ref a0, .ref a1, .ref a2, .ref a3, .ref a4, .ref a5, .ref a6, .ref a7, .ref a8, .ref a9, .ref a10, .ref a11, .ref a12, .ref a13, .ref a14, .ref a15, .ref a16, .ref a17, .ref a18]) r3 = some (.lst [.ref a0, .ref a1, .ref a2, .ref a3, .ref a4, .ref a5, .ref a6, .ref a7, .ref a8, .ref a9, .ref a10, .ref a11, .ref a12, .ref a13, .ref a14, .ref a15, .ref a16, .ref a17, .ref a18]) := upd_same
    simp only [List.cons_append, List.nil_append]
    generalize upd G3 r3 (.lst [.ref a0, .ref a1, .ref a2, .ref a3, .ref a4, .ref a5, .ref a6, .ref a7, .ref a8, .ref a9, .ref a10, .ref a11, .ref a12, .ref a13, .ref a14, .ref a15, .ref a16, .ref a17, .ref a18]) = F3 at t3 f3 ⊢
    clear lst lp
    have lst := f3
    have c26 : Same F3 F3 := Same.refl _
    have c25 := t3.trans c26
    have c24 := u3.trans c25
    have c23 := s18.trans c24
    have c22 := s17.trans c23
    have c21 := s16.trans c22
    have c20 := s15.trans c21
    have c19 := s14.trans c20
    have c18 := t2.trans c19
    have c17 := u2.trans c18
    have c16 := s13.trans c17
    have c15 := s12.trans c16
    have c14 := s11.trans c15
    have c13 := s10.trans c14
    have c12 := t1.trans c13
    have c11 := u1.trans c12
    have c10 := s9.trans c11
    have c9 := s8.trans c10
    have c8 := s7.trans c9
    have c7 := s6.trans c8
    have c6 := s5.trans c7
    have c5 := u0.trans c6
    have c4 := s4.trans c5
    have c3 := s3.trans c4
    have c2 := s2.trans c3
    have c1 := s1.trans c2
    have c0 := s0.trans c1
    exact q _ _ [a0, a1, a2, a3, a4, a5, a6, a7, a8, a9, a10, a11, a12, a13, a14, a15, a16, a17, a18] c0 ((s0.trans (s1.trans (s2.trans (s3.trans (s4.trans (u0.trans (s5.trans (s6.trans (s7.trans (s8.trans (s9.trans (u1.trans (t1.trans (s10.trans (s11.trans (s12.trans (s13.trans (u2.trans (t2.trans (s14.trans (s15.trans (s16.trans (s17.trans (s18.trans u3)))))))))))))))))))))))).free nr3) lst (.cons (e0.mono c1) (.cons (e1.mono c2) (.cons (e2.mono c3) (.cons (e3.mono c4) (.cons (e4.mono c5) (.cons (e5.mono c7) (.cons (e6.mono c8) (.cons (ExV.mono (.inl e7) c9) (.cons (ExV.mono (.inl e8) c10) (.cons (ExV.mono (.inl e9) c11) (.cons (ExV.mono (.inl e10) c14) (.cons (ExV.mono (.inl e11) c15) (.cons (ExV.mono (.inl e12) c16) (.cons (ExV.mono (.inl e13) c17) (.cons (ExV.mono (.inl e14) c20) (.cons (ExV.mono (.inl e15) c21) (.cons (ExV.mono (.inl e16) c22) (.cons (ExV.mono (.inl e17) c23) (.cons (ExV.mono (.inl e18) c24) .nil)))))))))))))))))))
end
end K31
namespace K31
open PySem PySem.Spec PyProof.Rows L2 Vf
section
variable {P : Program} {w : World} {K : PySem.W.Frag} {mg : Str → Option Value} {base : Heap}
theorem ok_law {f : Addr} {fd : FuncData} (F : Fun K "law" "law" s_law f fd) (D__law_well : Def P w K mg base 1 "_law_well" ["script", "k"] (sp__law_well K)) (D__law_created : Def P w K mg base 3 "_law_created" ["text", "spot", "bound"] (sp__law_created K)) (D__law_pick : Def P w K mg base 1 "_law_pick" ["well", "bound"] (sp__law_pick K)) (D__law_kinds : Def P w K mg base 3 "_law_kinds" ["error"] (sp__law_kinds K)) (m_range : mg "range" = none) (m_max : mg "max" = none) (m_enumerate : mg "enumerate" = none) (m_min : mg "min" = none) (m_repr : mg "repr" = none) (m_len : mg "len" = none) (m_isinstance : mg "isinstance" = none) (m_ValueError : mg "ValueError" = none) (N_HitchError : New1 K mg "HitchError") (kt : kitTB K = true) : FnG P w K mg base CX0 4 f fd ["script"] (sp_law K) := by
  refine okG0 F sc_law (fun vs H Q E h => ?_) (fun cdv A outer s H vs Q E hr hgd h => ?_)
  · obtain ⟨_, _, rfl, _⟩ := h
    rfl
  · have hu := hu_of hr
    obtain ⟨a, ns, rfl, hS, hl, q⟩ := h
    refine ⟨_, (pss_cons (ps_for PassesOwn.never rfl (pi_range1 (by rfl) m_range (pa_cons (pe_callB (call_max2 rfl) (by rfl) m_max (by decide +kernel) (pa_cons pe_int (pa_cons (pe_callB (call_min2 rfl) (by rfl) m_min (by decide +kernel) (pa_cons pe_int (pa_cons (pe_callB (lenK (K := K)) (by rfl) m_len (by decide +kernel) (pa_cons (pv 0) pa_nil)) pa_nil))) pa_nil))) pa_nil)) (pg_name (i := 1) sc_law.nd rfl (Or.inl rfl))
          (pss_cons (ps_set (i := 2) sc_law.nd rfl (Or.inr rfl) (pe_def D__law_well (hr.mono (by decide)) (pa_cons (pv 0) (pa_cons (pv 1) pa_nil))))
        (pss_cons (ps_set (i := 3) sc_law.nd rfl (Or.inl rfl) (pe_join pe_str (pe_lc (own := [("turn", 11)]) rfl sc_law.nd (pi_range1 (by rfl) m_range (pa_cons (pe_def D__law_pick (hr.mono (by decide)) (pa_cons (pv 2) (pa_cons pe_int pa_nil))) pa_nil)) (blkOk_by (own := [("turn", 11)]) (N := N_law) (sc := defScope s_law) (by decide +kernel)) (fun _ _ _ _ _ => (pg_name (i := 11) sc_law.nd rfl (Or.inl rfl))) (fun _ _ _ _ _ => pts_nil) (fun _ _ _ _ _ => (pe_ix ix_str pe_str (pe_def D__law_pick (hr.mono (by decide)) (pa_cons (pv 2) (pa_cons pe_int pa_nil))) (fun _ _ => rfl))))))
        (pss_cons (ps_set (i := 4) sc_law.nd rfl (Or.inl rfl) (pe_ix (ixL (K := K)) (pe_lst (pa_cons pe_non (pa_cons pe_int (pa_cons (pe_def D__law_pick (hr.mono (by decide)) (pa_cons (pv 2) (pa_cons pe_int pa_nil))) (pa_cons (pe_op op_powW pe_int pe_int) pa_nil))))) (pe_def D__law_pick (hr.mono (by decide)) (pa_cons (pv 2) (pa_cons pe_int pa_nil))) (fun _ _ => rfl)))
        (pss_cons (ps_set (i := 5) sc_law.nd rfl (Or.inl rfl) (pe_ix (ixL (K := K)) (pe_lst (pa_cons pe_int (pa_cons (pe_def D__law_pick (hr.mono (by decide)) (pa_cons (pv 2) (pa_cons pe_int pa_nil))) (pa_cons (pe_op op_powW pe_int pe_int) pa_nil)))) (pe_def D__law_pick (hr.mono (by decide)) (pa_cons (pv 2) (pa_cons pe_int pa_nil))) (fun _ _ => rfl)))
        (pss_cons (ps_set (i := 6) sc_law.nd rfl (Or.inl rfl) (pe_def D__law_created (hr.mono (by decide)) (pa_cons (pv 3) (pa_cons (pv 4) (pa_cons (pv 5) pa_nil)))))
        (pss_cons (ps_for PassesOwn.never rfl (pi_enum (by rfl) m_enumerate (pa_cons (pv 6) pa_nil)) (pg_tup rfl (pgs_cons (pg_name (i := 7) sc_law.nd rfl (Or.inr rfl)) (pgs_cons (pg_name (i := 8) sc_law.nd rfl (Or.inl rfl)) pgs_nil)))
          (pss_cons (ps_if (PW.pt (pw_or (pt_not (pt_val (pe_callB (isxK (K := K)) (by rfl) m_isinstance (by decide +kernel) (pa_cons (pv 8) (pa_cons (pe_cls N_HitchError.cl) pa_nil))))) (pw_or1 (pt_not (pt_val (pe_callB (isxK (K := K)) (by rfl) m_isinstance (by decide +kernel) (pa_cons (pv 8) (pa_cons (pe_bltn (v := .ty "ValueError") (by rfl) m_ValueError (by decide +kernel) rfl) pa_nil)))))))) (pss_one (ps_ret pe_bl)) pss_nil)
        (pss_one (ps_if (pt_cmpR (neD (K := K) hr.units) (pe_def D__law_kinds (hr.mono (by decide)) (pa_cons (pv 8) pa_nil)) (pe_lc (own := [("other", 12)]) rfl sc_law.nd (pi_range1 (by rfl) m_range (pa_cons pe_int pa_nil)) (blkOk_by (own := [("other", 12)]) (N := N_law) (sc := defScope s_law) (by decide +kernel)) (fun _ _ _ _ _ => (pg_name (i := 12) sc_law.nd rfl (Or.inl rfl))) (fun _ _ _ _ _ => pts_nil) (fun _ _ _ _ _ => (pe_cmpR op_eq (pv 12) (pv 7) (nomark _)))) (nomark _)) (pss_one (ps_ret pe_bl)) pss_nil))))
        (pss_cons (ps_set (i := 9) sc_law.nd rfl (Or.inl rfl) (pe_op (catK (K := K)) (pe_lc (own := [("one", 8)]) rfl sc_law.nd (pi_list (pe_slice sl_list (pv 6) po_none (po_some pe_int))) (blkOk_by (own := [("one", 8)]) (N := N_law) (sc := defScope s_law) (by decide +kernel)) (fun _ _ _ _ _ => (pg_name (i := 8) sc_law.nd rfl (Or.inl rfl))) (fun _ _ _ _ _ => pts_nil) (fun _ _ _ _ _ => (pe_xfvK (K := K) (pv 8)))) (pe_lst (pa_cons (pe_xfvK (K := K) (pe_ix (ixL (K := K)) (pv 6) pe_int (fun _ _ => rfl))) (pa_cons (pe_xfvK (K := K) (pe_ix (ixL (K := K)) (pv 6) pe_int (fun _ _ => rfl))) (pa_cons (pe_xfvK (K := K) (pe_ix (ixL (K := K)) (pv 6) pe_int (fun _ _ => rfl))) pa_nil))))))
        (pss_cons (ps_if (pt_cmpR op_ne (pe_callB (reprK (K := K) hgd hr) (by rfl) m_repr (by decide +kernel) (pa_cons (pv 9) pa_nil)) (pe_callB (reprK (K := K) hgd hr) (by rfl) m_repr (by decide +kernel) (pa_cons (pe_op (catK (K := K)) (pe_op op_rep (pe_lst (pa_cons (pv 4) pa_nil)) pe_int) (pe_op op_rep (pe_lst (pa_cons (pv 5) pa_nil)) pe_int)) pa_nil)) (nomark _)) (pss_one (ps_ret pe_bl)) pss_nil)
        (pss_cons (ps_set (i := 10) sc_law.nd rfl (Or.inl rfl) (pe_n1 N_HitchError (pv 3)))
        (pss_one (ps_if (PW.pt (pw_or (pt_cmpR (neD (K := K) hr.units) (pe_def D__law_kinds (hr.mono (by decide)) (pa_cons (pv 10) pa_nil)) (pe_op op_rep (pe_lst (pa_cons pe_bl pa_nil)) pe_int) (nomark _)) (pw_or1 (pt_not (pt_val (pe_callB (isxK (K := K)) (by rfl) m_isinstance (by decide +kernel) (pa_cons (pv 10) (pa_cons (pe_bltn (v := .ty "ValueError") (by rfl) m_ValueError (by decide +kernel) rfl) pa_nil)))))))) (pss_one (ps_ret pe_bl)) pss_nil))))))))))))
        (pss_one (ps_ret pe_bl))), ?_⟩
    have KT := kitT_of kt
    walk_at "ev"
    rw [List.length_map]
    refine ⟨by split <;> split <;> omega, by split <;> split <;> omega, ?_⟩
    refine r_forS seq_range (fun _ σ H' => ∃ y1 y2 y3 y4 y5 y6 y7 y8 y9 ya yb yc, σ = [some (.ref a), y1, y2, y3, y4, y5, y6, y7, y8, y9, ya, yb, yc] ∧ Same H H') ⟨_, _, _, _, _, _, _, _, _, _, _, _, rfl, Same.refl H⟩ (fun _ _ _ _ => trivial) ?_ ?_
    · rintro dn k r v σ H0 ec rfl ⟨y1, y2, y3, y4, y5, y6, y7, y8, y9, ya, yb, yc, rfl, s0⟩
      have hk : 0 ≤ k ∧ k ≤ 1000 := by
        have := mem_rng.mp (show k ∈ rng 0 _ by rw [ec]; simp)
        split at this <;> split at this <;> omega
      walk_at "ev"
      refine ⟨a, ns, k, rfl, s0.seq hS, by omega, hk.1, hk.2, fun t H1 s1 nt w1 => ?_⟩
      have tx : ∃ o, H1 t = some o := let ⟨_, _, _, e, _⟩ := w1; ⟨_, e⟩
      have sH1 : Same H H1 := s0.trans s1
      have ntH : H t = none := s0.free nt
      walk_at "ev"
      refine ⟨⟨_, rfl⟩, ?_⟩
      walk_at "ev"
      refine ⟨t, 9, 0, rfl, w1, by decide, by decide, by decide, by decide, fun r9 H2 r90 r91 b2 w2 => ?_⟩
      walk_at "ev"
      refine ⟨by omega, by omega, fun D nD => ?_⟩
      have s2 : Same H H2 := Vf.Same.but sH1 ntH b2
      have Dt : D ≠ t := w2.no nD
      refine r_lcS seq_range (fun d H' => Same H H' ∧ Well H' t (1 + d.length) ∧ ∃ ys : List Str, H' D = some (.lst (ys.map V.str)) ∧ ys.length = d.length ∧ ∀ y ∈ ys, y.length = 1) ⟨s2.trans (same_new nD), (w2.mono (same_new nD)).le (by simp), [], upd_same, rfl, by simp⟩ (fun _ _ _ => trivial) ?_ ?_
      · rintro d x r' v H3 e rfl ⟨s3, w3, ys, hD, hy, hy1⟩
        have hd : d.length ≤ 8 := by
          have := congrArg List.length e
          rw [rng_len, List.length_append, List.length_cons] at this
          omega
        walk_at "ev"
        refine ⟨t, 6, 1 + d.length, rfl, w3, by decide, by decide, by omega, by omega, fun r6 H4 r60 r61 b4 w4 => ?_⟩
        obtain ⟨c, hc⟩ := sign_at r60 r61
        have hD4 := (b4 D Dt).trans hD
        refine ⟨_, r6, c, rfl, rfl, by decide, hc, _, hD4, by rw [List.length_map]; exact szs (by omega), ?_, ?_, ys ++ [⟨#[c]⟩], ?_, ?_, ?_⟩
        · exact Vf.Same.set (Vf.Same.but s3 ntH b4) (s2.free nD)
        · rw [List.length_append, List.length_singleton]
          exact (w4.ne Dt).le (by omega)
        · rw [upd_same, List.map_append]
          rfl
        · rw [List.length_append, List.length_append, hy]
          rfl
        · intro y hy'
          rcases List.mem_append.mp hy' with z | z
          · exact hy1 y z
          · rw [List.mem_singleton.mp z]
            rfl
      · rintro H3 ⟨s3, w3, ys, hD, hy, hy1⟩
        rw [rng_len] at hy w3
        walk_at "ev"
        refine ⟨_, D, ys, rfl, rfl, .inl (sql hD), ?_, ?_⟩
        · rw [ones_sum ys hy1]
          show ys.length + ys.length * 0 ≤ _
          omega
        generalize Txt.join _ ys = txt
        walk_at "ev"
        refine ⟨t, 400, 10, rfl, w3.le (by omega), by decide, by decide, by decide, by decide, fun r4 H4 r40 r41 b4 w4 => ?_⟩
        have s4 := Vf.Same.but s3 ntH b4
        walk_at "ev"
        refine ⟨szl (by show 4 ≤ 100000; decide), fun p4 np4 => ?_⟩
        have pt4 := w4.no np4
        have s5 := s4.trans (same_new (o := .lst [.non, .int 0, .int r4, .int (10 ^ Int.toNat 30)]) np4)
        have hp4 : upd H4 p4 (.lst [.non, .int 0, .int r4, .int (10 ^ Int.toNat 30)]) p4 = some (.lst [.non, .int 0, .int r4, .int (10 ^ Int.toNat 30)]) := upd_same
        replace w4 := w4.ne (o := .lst [.non, .int 0, .int r4, .int (10 ^ Int.toNat 30)]) pt4
        generalize upd H4 p4 (.lst [.non, .int 0, .int r4, .int (10 ^ Int.toNat 30)]) = H5 at s5 hp4 w4 ⊢
        walk_at "ev"
        refine ⟨t, 4, 11, rfl, w4.le (by omega), by decide, by decide, by decide, by decide, fun q4 H6 q40 q41 b6 w6 => ?_⟩
        have s6 := Vf.Same.but s5 ntH b6
        obtain ⟨sv, sd, hsd, hat⟩ := fld4 r40 r41 q40 q41
        refine r_ixL (sql ((b6 p4 pt4).trans hp4)) hat ?_
        walk_at "ev"
        refine ⟨t, 900, 12, rfl, w6.le (by omega), by decide, by decide, by decide, by decide, fun r5 H7 r50 r51 b7 w7 => ?_⟩
        have s7 := Vf.Same.but s6 ntH b7
        walk_at "ev"
        refine ⟨szl (by show 3 ≤ 100000; decide), fun p5 np5 => ?_⟩
        have pt5 := w7.no np5
        have s8 := s7.trans (same_new (o := .lst [.int 500, .int r5, .int (10 ^ Int.toNat 30)]) np5)
        have hp5 : upd H7 p5 (.lst [.int 500, .int r5, .int (10 ^ Int.toNat 30)]) p5 = some (.lst [.int 500, .int r5, .int (10 ^ Int.toNat 30)]) := upd_same
        replace w7 := w7.ne (o := .lst [.int 500, .int r5, .int (10 ^ Int.toNat 30)]) pt5
        generalize upd H7 p5 (.lst [.int 500, .int r5, .int (10 ^ Int.toNat 30)]) = H8 at s8 hp5 w7 ⊢
        walk_at "ev"
        refine ⟨t, 3, 13, rfl, w7.le (by omega), by decide, by decide, by decide, by decide, fun q5 H9 q50 q51 b9 w9 => ?_⟩
        have s9 := Vf.Same.but s8 ntH b9
        obtain ⟨bv, bd, hbd, hat2⟩ := fld3 r50 r51 q50 q51
        refine r_ixL (sql ((b9 p5 pt5).trans hp5)) hat2 ?_
        walk_at "ev"
        refine ⟨txt, sv, bv, rfl, hsd.easy, hbd.easy, fun p B as sB np hp md => ?_⟩
        have s10 := s9.trans sB
        clear hat hat2 hp4 hp5
        walk_at "ev"
        refine ⟨p, _, rfl, sql hp, ?_⟩
        have la : as.length = 19 := (pair_len md).symm
        refine r_forE (L := as) (rel := fun v a => v = .ref a) (pair_map fun _ _ => rfl) (fun _ σ H' => ∃ y7 y8, σ = [some (.ref a), some (.int k), some (.ref t), some (.str txt), some sv, some bv, some (.ref p), y7, y8, y9, ya, yb, yc] ∧ Same B H') ⟨_, _, rfl, Same.refl B⟩ (fun _ _ _ h => let ⟨_, _, _, s⟩ := h; s.seq (sql hp)) ?_ ?_
        · rintro d c r' x T σ H10 e hx rfl ⟨y7, y8, rfl, s11⟩ nT
          obtain ⟨nx, hnx, hev⟩ := made_at (md.mono s11) (show as[d.length]? = some c by rw [e]; simp)
          have hmem := List.mem_of_getElem? hnx
          have hd : d.length < 19 := by
            have := congrArg List.length e
            rw [List.length_append, List.length_cons] at this
            omega
          refine r_gtup (sqt upd_same) rfl ?_
          have s12 := s11.trans (same_new (o := .tup [.int (d.length : Nat), .ref c]) nT)
          replace hev := hev.mono (same_new (o := .tup [.int (d.length : Nat), .ref c]) nT)
          generalize upd H10 T (.tup [.int (d.length : Nat), .ref c]) = H11 at s12 hev ⊢
          walk_at "ev"
          refine r_isX hev (KT.er nx hmem) (.own _) (KT.kh nx hmem) ?_
          walk_at "ev"
          refine r_isX hev (KT.er nx hmem) (.ty _) (KT.kv nx hmem) ?_
          walk_at "ev"
          refine ⟨c, clsOf K nx, _, rfl, hev, KT.er nx hmem, kit_map (fun y hy => KT.kk nx hmem y hy), fun u H12 s13 nu hu => ?_⟩
          walk_at "ev"
          refine ⟨by decide, by decide, fun E nE => ?_⟩
          refine r_lcP seq_range (fun _ => true) (fun j => .bl (decide (j = (d.length : Int)))) (by rw [rng_len]; decide) nE (fun _ _ => trivial) ?_ ?_
          · intro z v H13 acc _ hv s14 ha hz N h1 h2
            subst hv
            walk_at "ev"
            exact ⟨acc, ha, hz, h1 rfl⟩
          · rw [List.filter_eq_self.mpr (fun _ _ => rfl)]
            have e1 := rows_eq d.length hd nx hnx
            have s15 := same_new (o := .lst ((rng 0 (Int.toNat 19)).map fun j => V.bl (decide (j = (d.length : Int))))) nE
            have hE : upd H12 E (.lst ((rng 0 (Int.toNat 19)).map fun j => V.bl (decide (j = (d.length : Int))))) E = some (.lst ((nameX.map fun y => decide (nx = y)).map V.bl)) := by
              rw [e1, List.map_map]
              exact upd_same
            generalize upd H12 E (.lst ((rng 0 (Int.toNat 19)).map fun j => V.bl (decide (j = (d.length : Int))))) = H14 at s15 hE ⊢
            refine r_neD (.lst (sql (s15 _ _ hu)) (dpa_bls _)) (.lst (sql hE) (dpa_bls _)) (sm_bls (N := 19) (by rw [List.length_map]; decide)) (by decide) ?_
            walk_at "ev"
            exact s12.trans (s13.trans s15)
        · rintro σ H10 ⟨y7, y8, rfl, s11⟩
          have md10 := md.mono s11
          have hp10 := s11 _ _ hp
          have s16 := s10.trans s11
          clear md hp la
          unfold Made madeL at md10
          obtain ⟨a0, as, rfl, e0, md10⟩ := paired_inv md10
          obtain ⟨a1, as, rfl, e1, md10⟩ := paired_inv md10
          obtain ⟨a2, as, rfl, e2, md10⟩ := paired_inv md10
          obtain ⟨a3, as, rfl, e3, md10⟩ := paired_inv md10
          obtain ⟨a4, as, rfl, e4, md10⟩ := paired_inv md10
          obtain ⟨a5, as, rfl, e5, md10⟩ := paired_inv md10
          obtain ⟨a6, as, rfl, e6, md10⟩ := paired_inv md10
          obtain ⟨a7, as, rfl, e7, md10⟩ := paired_inv md10
          obtain ⟨a8, as, rfl, e8, md10⟩ := paired_inv md10
          obtain ⟨a9, as, rfl, e9, md10⟩ := paired_inv md10
          obtain ⟨a10, as, rfl, e10, md10⟩ := paired_inv md10
          obtain ⟨a11, as, rfl, e11, md10⟩ := paired_inv md10
          obtain ⟨a12, as, rfl, e12, md10⟩ := paired_inv md10
          obtain ⟨a13, as, rfl, e13, md10⟩ := paired_inv md10
          obtain ⟨a14, as, rfl, e14, md10⟩ := paired_inv md10
          obtain ⟨a15, as, rfl, e15, md10⟩ := paired_inv md10
          obtain ⟨a16, as, rfl, e16, md10⟩ := paired_inv md10
          obtain ⟨a17, as, rfl, e17, md10⟩ := paired_inv md10
          obtain ⟨a18, as, rfl, e18, md10⟩ := paired_inv md10
          cases paired_nil md10
          clear md10
          walk_at "ev"
          refine ⟨p, _, rfl, sql hp10, fun g ng => ?_⟩
          have s17 := same_new (o := .lst (cutV (List.map V.ref [a0, a1, a2, a3, a4, a5, a6, a7, a8, a9, a10, a11, a12, a13, a14, a15, a16, a17, a18]) none (some 4))) ng
          have hg : upd H10 g (.lst (cutV (List.map V.ref [a0, a1, a2, a3, a4, a5, a6, a7, a8, a9, a10, a11, a12, a13, a14, a15, a16, a17, a18]) none (some 4))) g = some (.lst ([a0, a1, a2, a3].map V.ref)) := upd_same
          generalize upd H10 g (.lst (cutV (List.map V.ref [a0, a1, a2, a3, a4, a5, a6, a7, a8, a9, a10, a11, a12, a13, a14, a15, a16, a17, a18]) none (some 4))) = H11 at s17 hg ⊢
          refine ⟨g, rfl, ⟨_, sql hg⟩, fun D2 nD2 => ?_⟩
          have hx4 : ∀ c ∈ [a0, a1, a2, a3], ∃ x ∈ nameX, ExF H11 c (clsOf K x) "index" sv ∧ PySem.W.findIn K (.ref (clsOf K x)) "index" = some none := by
            intro c hc
            simp only [List.mem_cons, List.not_mem_nil, or_false] at hc
            rcases hc with rfl | rfl | rfl | rfl
            · exact ⟨"InvalidLayout", by decide, e0.mono s17, KT.fl ("InvalidLayout", "index") (by decide)⟩
            · exact ⟨"InvalidRows", by decide, e1.mono s17, KT.fl ("InvalidRows", "index") (by decide)⟩
            · exact ⟨"InvalidRings", by decide, e2.mono s17, KT.fl ("InvalidRings", "index") (by decide)⟩
            · exact ⟨"InvalidOpens", by decide, e3.mono s17, KT.fl ("InvalidOpens", "index") (by decide)⟩
          refine r_lcP (seq_list (K := K) (rel := fun v c => v = .ref c) (L := [a0, a1, a2, a3]) (pair_map fun _ _ => rfl)) (fun _ => true) (fun _ => sv) (by show 4 < 100000; decide) nD2 (fun _ s => s.seq (sql hg)) ?_ ?_
          · intro c v H13 acc hc hv s14 ha hz N h1 h2
            subst hv
            obtain ⟨x, hx, hxf, hno⟩ := hx4 c hc
            walk_at "ev"
            exact ⟨c, _, sv, rfl, hxf.mono s14, KT.er x hx, hno, acc, ha, hz, h1 rfl⟩
          have s18 := same_new (o := .lst (([a0, a1, a2, a3].filter fun _ => true).map fun _ => sv)) nD2
          have hD2 : upd H11 D2 (.lst (([a0, a1, a2, a3].filter fun _ => true).map fun _ => sv)) D2 = some (.lst [sv, sv, sv, sv]) := upd_same
          generalize upd H11 D2 (.lst (([a0, a1, a2, a3].filter fun _ => true).map fun _ => sv)) = H12 at s18 hD2 ⊢
          have s19 := s17.trans s18
          have hpS := sql (K := K) (s19 _ _ hp10)
          walk_at "ev"
          refine ⟨a4, _, sv, rfl, e4.mono s19, KT.er "InvalidText" (by decide), KT.fl ("InvalidText", "part") (by decide), ?_⟩
          walk_at "ev"
          refine ⟨a5, _, bv, rfl, e5.mono s19, KT.er "TooMany" (by decide), KT.fl ("TooMany", "limit") (by decide), ?_⟩
          walk_at "ev"
          refine ⟨a6, _, bv, rfl, e6.mono s19, KT.er "Farther" (by decide), KT.fl ("Farther", "moves") (by decide), ?_⟩
          walk_at "ev"
          refine ⟨szl (by show 3 ≤ 100000; decide), fun g2 ng2 => ?_⟩
          have s20 := same_new (o := .lst [sv, bv, bv]) ng2
          have hg2 : upd H12 g2 (.lst [sv, bv, bv]) g2 = some (.lst [sv, bv, bv]) := upd_same
          generalize upd H12 g2 (.lst [sv, bv, bv]) = H13 at s20 hg2 ⊢
          refine ⟨_, _, _, _, rfl, rfl, sql (s20 _ _ hD2), sql hg2, szl (by show 7 ≤ 100000; decide), fun g3 ng3 => ?_⟩
          have s21 := same_new (o := .lst ([sv, sv, sv, sv] ++ [sv, bv, bv])) ng3
          have hg3 : upd H13 g3 (.lst ([sv, sv, sv, sv] ++ [sv, bv, bv])) g3 = some (.lst [sv, sv, sv, sv, sv, bv, bv]) := upd_same
          generalize upd H13 g3 (.lst ([sv, sv, sv, sv] ++ [sv, bv, bv])) = H14 at s21 hg3 ⊢
          have smD : Sm 500 2 (.list [sd, sd, sd, sd, sd, bd, bd]) := (Sm.lst (N := 60) (k := 1) (ds := [sd, sd, sd, sd, sd, bd, bd]) fun x hx => by
            simp only [List.mem_cons, List.not_mem_nil, or_false] at hx
            rcases hx with rfl | rfl | rfl | rfl | rfl | rfl | rfl <;> first | exact hsd.sm | exact hbd.sm).mono (by show (60 + 2) * 7 + 3 ≤ 500; decide) (by decide)
          have dpD : ∀ {h : Hp} {b : Addr}, h b = some (.lst [sv, sv, sv, sv, sv, bv, bv]) → Dp K h (.ref b) (.list [sd, sd, sd, sd, sd, bd, bd]) := fun z =>
            .lst (sql z) (.cons hsd.dp (.cons hsd.dp (.cons hsd.dp (.cons hsd.dp (.cons hsd.dp (.cons hbd.dp (.cons hbd.dp .nil)))))))
          walk_at "ev"
          refine smD.rep (by decide) (by decide) (dpD hg3) ?_
          walk_at "ev"
          refine ⟨szl (by show 1 ≤ 100000; decide), fun i1 ni1 => ?_⟩
          have s22 := same_new (o := .lst [sv]) ni1
          have hi1 : upd H14 i1 (.lst [sv]) i1 = some (.lst [sv]) := upd_same
          generalize upd H14 i1 (.lst [sv]) = H15 at s22 hi1 ⊢
          refine ⟨_, _, _, rfl, rfl, hi1, by decide, by decide, szl (by show 5 ≤ 100000; decide), fun i2 ni2 => ?_⟩
          have s23 := same_new (o := .lst (List.replicate (Int.toNat 5) [sv]).flatten) ni2
          have hi2 : upd H15 i2 (.lst (List.replicate (Int.toNat 5) [sv]).flatten) i2 = some (.lst [sv, sv, sv, sv, sv]) := upd_same
          generalize upd H15 i2 (.lst (List.replicate (Int.toNat 5) [sv]).flatten) = H16 at s23 hi2 ⊢
          walk_at "ev"
          refine ⟨szl (by show 1 ≤ 100000; decide), fun i3 ni3 => ?_⟩
          have s24 := same_new (o := .lst [bv]) ni3
          have hi3 : upd H16 i3 (.lst [bv]) i3 = some (.lst [bv]) := upd_same
          generalize upd H16 i3 (.lst [bv]) = H17 at s24 hi3 ⊢
          refine ⟨_, _, _, rfl, rfl, hi3, by decide, by decide, szl (by show 2 ≤ 100000; decide), fun i4 ni4 => ?_⟩
          have s25 := same_new (o := .lst (List.replicate (Int.toNat 2) [bv]).flatten) ni4
          have hi4 : upd H17 i4 (.lst (List.replicate (Int.toNat 2) [bv]).flatten) i4 = some (.lst [bv, bv]) := upd_same
          generalize upd H17 i4 (.lst (List.replicate (Int.toNat 2) [bv]).flatten) = H18 at s25 hi4 ⊢
          refine ⟨_, _, _, _, rfl, rfl, sql (s25 _ _ (s24 _ _ hi2)), sql hi4, szl (by show 7 ≤ 100000; decide), fun i5 ni5 => ?_⟩
          have s26 := same_new (o := .lst ([sv, sv, sv, sv, sv] ++ [bv, bv])) ni5
          have hi5 : upd H18 i5 (.lst ([sv, sv, sv, sv, sv] ++ [bv, bv])) i5 = some (.lst [sv, sv, sv, sv, sv, bv, bv]) := upd_same
          generalize upd H18 i5 (.lst ([sv, sv, sv, sv, sv] ++ [bv, bv])) = H19 at s26 hi5 ⊢
          walk_at "ev"
          refine smD.rep (by decide) (by decide) (dpD hi5) ?_
          walk_at "ev"
          have sX := s16.trans (s19.trans (s20.trans (s21.trans (s22.trans (s23.trans (s24.trans (s25.trans s26)))))))
          intro pl npl
          have s27 := same_new (o := ExO (.ref (clsOf K "HitchError")) pl) npl
          have epl : upd H19 pl (ExO (.ref (clsOf K "HitchError")) pl) pl = some (ExO (.ref (clsOf K "HitchError")) pl) := upd_same
          generalize upd H19 pl (ExO (.ref (clsOf K "HitchError")) pl) = H20 at s27 epl ⊢
          walk_at "ev"
          refine ⟨pl, clsOf K "HitchError", _, rfl, .inl epl, KT.eh, kit_map (f := fun _ => false) KT.hk, fun u H21 s28 nu hu => ?_⟩
          walk_at "ev"
          refine ⟨szl (by show 1 ≤ 100000; decide), fun j1 nj1 => ?_⟩
          have s29 := same_new (o := .lst [.bl false]) nj1
          have hj1 : upd H21 j1 (.lst [.bl false]) j1 = some (.lst [.bl false]) := upd_same
          generalize upd H21 j1 (.lst [.bl false]) = H22 at s29 hj1 ⊢
          refine ⟨_, _, _, rfl, rfl, hj1, by decide, by decide, szl (by show 19 ≤ 100000; decide), fun j2 nj2 => ?_⟩
          have s30 := same_new (o := .lst (List.replicate (Int.toNat 19) [V.bl false]).flatten) nj2
          have hj2 : upd H22 j2 (.lst (List.replicate (Int.toNat 19) [V.bl false]).flatten) j2 = some (.lst ((nameX.map fun _ => false).map V.bl)) := upd_same
          generalize upd H22 j2 (.lst (List.replicate (Int.toNat 19) [V.bl false]).flatten) = H23 at s30 hj2 ⊢
          refine r_neD (.lst (sql (s30 _ _ (s29 _ _ hu))) (dpa_bls _)) (.lst (sql hj2) (dpa_bls _)) (sm_bls (N := 19) (by rw [List.length_map]; decide)) (by decide) ?_
          walk_at "ev"
          have sE := s28.trans (s29.trans s30)
          refine r_isX (.inl (sE _ _ epl)) KT.eh (.ty _) KT.hv ?_
          walk_at "ev"
          exact ⟨_, _, _, _, _, _, _, _, _, _, _, _, rfl, sX.trans (s27.trans sE)⟩
    · rintro σ H1 ⟨y1, y2, y3, y4, y5, y6, y7, y8, y9, ya, yb, yc, rfl, s1⟩
      walk_at "ev"
      exact q _
end
end K31
namespace K31
open PySem PySem.Spec PyProof.Rows L2 Vf
theorem all_mk {l : PySem.W.OpenLaw} {w : World} {K : PySem.W.Frag} {h : Heap} {mg : Str → Option Value} {fa : Addr} (X : K.In h) (G : h.Ns mainGlobals mg) (hfa : mg "law" = some (.ref fa))
    {f0 : Addr} {od0 an0 : Option Addr} {sl0 : Array (Option Value)} {oc0 kV0 dc0 pm0 cd0 ct0 : Value}
    (a0 : PySem.W.nsIn K mainGlobals "_law_well" = some (some (.ref f0))) (l0 : K.lookup f0 = some ⟨oc0, od0, .func (PySem.W.fnOf "_law_well" "_law_well" (defArgs s__law_well) (defBody s__law_well) (defScope s__law_well) .none kV0 dc0 pm0 an0 cd0 ct0), sl0⟩) (c0 : PySem.W.codeIn K cd0 "_law_well" = true) (k0 : PySem.W.keepIn K (.ref f0) = true)
    {f1 : Addr} {od1 an1 : Option Addr} {sl1 : Array (Option Value)} {oc1 kV1 dc1 pm1 cd1 ct1 : Value}
    (a1 : PySem.W.nsIn K mainGlobals "_law_pick" = some (some (.ref f1))) (l1 : K.lookup f1 = some ⟨oc1, od1, .func (PySem.W.fnOf "_law_pick" "_law_pick" (defArgs s__law_pick) (defBody s__law_pick) (defScope s__law_pick) .none kV1 dc1 pm1 an1 cd1 ct1), sl1⟩) (c1 : PySem.W.codeIn K cd1 "_law_pick" = true) (k1 : PySem.W.keepIn K (.ref f1) = true)
    {f2 : Addr} {od2 an2 : Option Addr} {sl2 : Array (Option Value)} {oc2 kV2 dc2 pm2 cd2 ct2 : Value}
    (a2 : PySem.W.nsIn K mainGlobals "_law_kinds" = some (some (.ref f2))) (l2 : K.lookup f2 = some ⟨oc2, od2, .func (PySem.W.fnOf "_law_kinds" "_law_kinds" (defArgs s__law_kinds) (defBody s__law_kinds) (defScope s__law_kinds) .none kV2 dc2 pm2 an2 cd2 ct2), sl2⟩) (c2 : PySem.W.codeIn K cd2 "_law_kinds" = true) (k2 : PySem.W.keepIn K (.ref f2) = true)
    {f3 : Addr} {od3 an3 : Option Addr} {sl3 : Array (Option Value)} {oc3 kV3 dc3 pm3 cd3 ct3 : Value}
    (a3 : PySem.W.nsIn K mainGlobals "_law_created" = some (some (.ref f3))) (l3 : K.lookup f3 = some ⟨oc3, od3, .func (PySem.W.fnOf "_law_created" "_law_created" (defArgs s__law_created) (defBody s__law_created) (defScope s__law_created) .none kV3 dc3 pm3 an3 cd3 ct3), sl3⟩) (c3 : PySem.W.codeIn K cd3 "_law_created" = true) (k3 : PySem.W.keepIn K (.ref f3) = true)
    {f4 : Addr} {od4 an4 : Option Addr} {sl4 : Array (Option Value)} {oc4 kV4 dc4 pm4 cd4 ct4 : Value}
    (a4 : PySem.W.nsIn K mainGlobals "law" = some (some (.ref f4))) (l4 : K.lookup f4 = some ⟨oc4, od4, .func (PySem.W.fnOf "law" "law" (defArgs s_law) (defBody s_law) (defScope s_law) .none kV4 dc4 pm4 an4 cd4 ct4), sl4⟩) (c4 : PySem.W.codeIn K cd4 "law" = true) (k4 : PySem.W.keepIn K (.ref f4) = true)
    (z_max : PySem.W.nsIn K mainGlobals "max" = some none)
    (z_len : PySem.W.nsIn K mainGlobals "len" = some none)
    (z_int : PySem.W.nsIn K mainGlobals "int" = some none)
    (z_abs : PySem.W.nsIn K mainGlobals "abs" = some none)
    (z_isinstance : PySem.W.nsIn K mainGlobals "isinstance" = some none)
    (z_range : PySem.W.nsIn K mainGlobals "range" = some none)
    (z_enumerate : PySem.W.nsIn K mainGlobals "enumerate" = some none)
    (z_min : PySem.W.nsIn K mainGlobals "min" = some none)
    (z_repr : PySem.W.nsIn K mainGlobals "repr" = some none)
    (z_ValueError : PySem.W.nsIn K mainGlobals "ValueError" = some none)
    {C_InvalidLayout : Addr} (ca_InvalidLayout : PySem.W.nsIn K mainGlobals "InvalidLayout" = some (some (.ref C_InvalidLayout))) (cb_InvalidLayout : errB K C_InvalidLayout = true)
    {fI_InvalidLayout c_InvalidLayout cc_InvalidLayout : Addr} {od_InvalidLayout an_InvalidLayout cdd_InvalidLayout cld_InvalidLayout : Option Addr} {sl_InvalidLayout ccs_InvalidLayout csl_InvalidLayout : Array (Option Value)} {oc_InvalidLayout kV_InvalidLayout dc_InvalidLayout pm_InvalidLayout ct_InvalidLayout ccl_InvalidLayout cl_InvalidLayout : Value} {vs_InvalidLayout : Array Value} {fi_InvalidLayout : Str} {tf_InvalidLayout : Tok}
    (ci_InvalidLayout : PySem.W.findIn K (.ref C_InvalidLayout) "__init__" = some (some (.ref fI_InvalidLayout))) (cy_InvalidLayout : PySem.W.typeIn K (.ref fI_InvalidLayout) = some (.type "function"))
    (cl_InvalidLayout' : K.lookup fI_InvalidLayout = some ⟨oc_InvalidLayout, od_InvalidLayout, .func (PySem.W.fnX "__init__" "InvalidLayout.__init__" (defArgs i_InvalidLayout) (defBody i_InvalidLayout) (defScope i_InvalidLayout) [("__class__", cc_InvalidLayout)] .none kV_InvalidLayout dc_InvalidLayout pm_InvalidLayout an_InvalidLayout (.ref c_InvalidLayout) ct_InvalidLayout), sl_InvalidLayout⟩)
    (cd_InvalidLayout : PySem.W.codeIn K (.ref c_InvalidLayout) "InvalidLayout.__init__" = true) (ck_InvalidLayout : K.lookup cc_InvalidLayout = some ⟨cl_InvalidLayout, cld_InvalidLayout, .cell (some (.ref C_InvalidLayout)), csl_InvalidLayout⟩) (ce_InvalidLayout : K.lookup c_InvalidLayout = some ⟨ccl_InvalidLayout, cdd_InvalidLayout, .fields vs_InvalidLayout, ccs_InvalidLayout⟩)
    (cv_InvalidLayout : vs_InvalidLayout[2]? = some (.str fi_InvalidLayout tf_InvalidLayout)) (cf_InvalidLayout : ((l.prog.main.file : Str) == fi_InvalidLayout) = true) (cs_InvalidLayout : supV K C_InvalidLayout) (cn_InvalidLayout : PySem.W.findIn K (.ref C_InvalidLayout) "index" = some none)
    {C_InvalidRows : Addr} (ca_InvalidRows : PySem.W.nsIn K mainGlobals "InvalidRows" = some (some (.ref C_InvalidRows))) (cb_InvalidRows : errB K C_InvalidRows = true)
    {fI_InvalidRows c_InvalidRows cc_InvalidRows : Addr} {od_InvalidRows an_InvalidRows cdd_InvalidRows cld_InvalidRows : Option Addr} {sl_InvalidRows ccs_InvalidRows csl_InvalidRows : Array (Option Value)} {oc_InvalidRows kV_InvalidRows dc_InvalidRows pm_InvalidRows ct_InvalidRows ccl_InvalidRows cl_InvalidRows : Value} {vs_InvalidRows : Array Value} {fi_InvalidRows : Str} {tf_InvalidRows : Tok}
    (ci_InvalidRows : PySem.W.findIn K (.ref C_InvalidRows) "__init__" = some (some (.ref fI_InvalidRows))) (cy_InvalidRows : PySem.W.typeIn K (.ref fI_InvalidRows) = some (.type "function"))
    (cl_InvalidRows' : K.lookup fI_InvalidRows = some ⟨oc_InvalidRows, od_InvalidRows, .func (PySem.W.fnX "__init__" "InvalidRows.__init__" (defArgs i_InvalidRows) (defBody i_InvalidRows) (defScope i_InvalidRows) [("__class__", cc_InvalidRows)] .none kV_InvalidRows dc_InvalidRows pm_InvalidRows an_InvalidRows (.ref c_InvalidRows) ct_InvalidRows), sl_InvalidRows⟩)
    (cd_InvalidRows : PySem.W.codeIn K (.ref c_InvalidRows) "InvalidRows.__init__" = true) (ck_InvalidRows : K.lookup cc_InvalidRows = some ⟨cl_InvalidRows, cld_InvalidRows, .cell (some (.ref C_InvalidRows)), csl_InvalidRows⟩) (ce_InvalidRows : K.lookup c_InvalidRows = some ⟨ccl_InvalidRows, cdd_InvalidRows, .fields vs_InvalidRows, ccs_InvalidRows⟩)
    (cv_InvalidRows : vs_InvalidRows[2]? = some (.str fi_InvalidRows tf_InvalidRows)) (cf_InvalidRows : ((l.prog.main.file : Str) == fi_InvalidRows) = true) (cs_InvalidRows : supV K C_InvalidRows) (cn_InvalidRows : PySem.W.findIn K (.ref C_InvalidRows) "index" = some none)
    {C_InvalidRings : Addr} (ca_InvalidRings : PySem.W.nsIn K mainGlobals "InvalidRings" = some (some (.ref C_InvalidRings))) (cb_InvalidRings : errB K C_InvalidRings = true)
    {fI_InvalidRings c_InvalidRings cc_InvalidRings : Addr} {od_InvalidRings an_InvalidRings cdd_InvalidRings cld_InvalidRings : Option Addr} {sl_InvalidRings ccs_InvalidRings csl_InvalidRings : Array (Option Value)} {oc_InvalidRings kV_InvalidRings dc_InvalidRings pm_InvalidRings ct_InvalidRings ccl_InvalidRings cl_InvalidRings : Value} {vs_InvalidRings : Array Value} {fi_InvalidRings : Str} {tf_InvalidRings : Tok}
    (ci_InvalidRings : PySem.W.findIn K (.ref C_InvalidRings) "__init__" = some (some (.ref fI_InvalidRings))) (cy_InvalidRings : PySem.W.typeIn K (.ref fI_InvalidRings) = some (.type "function"))
    (cl_InvalidRings' : K.lookup fI_InvalidRings = some ⟨oc_InvalidRings, od_InvalidRings, .func (PySem.W.fnX "__init__" "InvalidRings.__init__" (defArgs i_InvalidRings) (defBody i_InvalidRings) (defScope i_InvalidRings) [("__class__", cc_InvalidRings)] .none kV_InvalidRings dc_InvalidRings pm_InvalidRings an_InvalidRings (.ref c_InvalidRings) ct_InvalidRings), sl_InvalidRings⟩)
    (cd_InvalidRings : PySem.W.codeIn K (.ref c_InvalidRings) "InvalidRings.__init__" = true) (ck_InvalidRings : K.lookup cc_InvalidRings = some ⟨cl_InvalidRings, cld_InvalidRings, .cell (some (.ref C_InvalidRings)), csl_InvalidRings⟩) (ce_InvalidRings : K.lookup c_InvalidRings = some ⟨ccl_InvalidRings, cdd_InvalidRings, .fields vs_InvalidRings, ccs_InvalidRings⟩)
    (cv_InvalidRings : vs_InvalidRings[2]? = some (.str fi_InvalidRings tf_InvalidRings)) (cf_InvalidRings : ((l.prog.main.file : Str) == fi_InvalidRings) = true) (cs_InvalidRings : supV K C_InvalidRings) (cn_InvalidRings : PySem.W.findIn K (.ref C_InvalidRings) "index" = some none)
    {C_InvalidOpens : Addr} (ca_InvalidOpens : PySem.W.nsIn K mainGlobals "InvalidOpens" = some (some (.ref C_InvalidOpens))) (cb_InvalidOpens : errB K C_InvalidOpens = true)
    {fI_InvalidOpens c_InvalidOpens cc_InvalidOpens : Addr} {od_InvalidOpens an_InvalidOpens cdd_InvalidOpens cld_InvalidOpens : Option Addr} {sl_InvalidOpens ccs_InvalidOpens csl_InvalidOpens : Array (Option Value)} {oc_InvalidOpens kV_InvalidOpens dc_InvalidOpens pm_InvalidOpens ct_InvalidOpens ccl_InvalidOpens cl_InvalidOpens : Value} {vs_InvalidOpens : Array Value} {fi_InvalidOpens : Str} {tf_InvalidOpens : Tok}
    (ci_InvalidOpens : PySem.W.findIn K (.ref C_InvalidOpens) "__init__" = some (some (.ref fI_InvalidOpens))) (cy_InvalidOpens : PySem.W.typeIn K (.ref fI_InvalidOpens) = some (.type "function"))
    (cl_InvalidOpens' : K.lookup fI_InvalidOpens = some ⟨oc_InvalidOpens, od_InvalidOpens, .func (PySem.W.fnX "__init__" "InvalidOpens.__init__" (defArgs i_InvalidOpens) (defBody i_InvalidOpens) (defScope i_InvalidOpens) [("__class__", cc_InvalidOpens)] .none kV_InvalidOpens dc_InvalidOpens pm_InvalidOpens an_InvalidOpens (.ref c_InvalidOpens) ct_InvalidOpens), sl_InvalidOpens⟩)
    (cd_InvalidOpens : PySem.W.codeIn K (.ref c_InvalidOpens) "InvalidOpens.__init__" = true) (ck_InvalidOpens : K.lookup cc_InvalidOpens = some ⟨cl_InvalidOpens, cld_InvalidOpens, .cell (some (.ref C_InvalidOpens)), csl_InvalidOpens⟩) (ce_InvalidOpens : K.lookup c_InvalidOpens = some ⟨ccl_InvalidOpens, cdd_InvalidOpens, .fields vs_InvalidOpens, ccs_InvalidOpens⟩)
    (cv_InvalidOpens : vs_InvalidOpens[2]? = some (.str fi_InvalidOpens tf_InvalidOpens)) (cf_InvalidOpens : ((l.prog.main.file : Str) == fi_InvalidOpens) = true) (cs_InvalidOpens : supV K C_InvalidOpens) (cn_InvalidOpens : PySem.W.findIn K (.ref C_InvalidOpens) "index" = some none)
    {C_InvalidText : Addr} (ca_InvalidText : PySem.W.nsIn K mainGlobals "InvalidText" = some (some (.ref C_InvalidText))) (cb_InvalidText : errB K C_InvalidText = true)
    {fI_InvalidText c_InvalidText cc_InvalidText : Addr} {od_InvalidText an_InvalidText cdd_InvalidText cld_InvalidText : Option Addr} {sl_InvalidText ccs_InvalidText csl_InvalidText : Array (Option Value)} {oc_InvalidText kV_InvalidText dc_InvalidText pm_InvalidText ct_InvalidText ccl_InvalidText cl_InvalidText : Value} {vs_InvalidText : Array Value} {fi_InvalidText : Str} {tf_InvalidText : Tok}
    (ci_InvalidText : PySem.W.findIn K (.ref C_InvalidText) "__init__" = some (some (.ref fI_InvalidText))) (cy_InvalidText : PySem.W.typeIn K (.ref fI_InvalidText) = some (.type "function"))
    (cl_InvalidText' : K.lookup fI_InvalidText = some ⟨oc_InvalidText, od_InvalidText, .func (PySem.W.fnX "__init__" "InvalidText.__init__" (defArgs i_InvalidText) (defBody i_InvalidText) (defScope i_InvalidText) [("__class__", cc_InvalidText)] .none kV_InvalidText dc_InvalidText pm_InvalidText an_InvalidText (.ref c_InvalidText) ct_InvalidText), sl_InvalidText⟩)
    (cd_InvalidText : PySem.W.codeIn K (.ref c_InvalidText) "InvalidText.__init__" = true) (ck_InvalidText : K.lookup cc_InvalidText = some ⟨cl_InvalidText, cld_InvalidText, .cell (some (.ref C_InvalidText)), csl_InvalidText⟩) (ce_InvalidText : K.lookup c_InvalidText = some ⟨ccl_InvalidText, cdd_InvalidText, .fields vs_InvalidText, ccs_InvalidText⟩)
    (cv_InvalidText : vs_InvalidText[2]? = some (.str fi_InvalidText tf_InvalidText)) (cf_InvalidText : ((l.prog.main.file : Str) == fi_InvalidText) = true) (cs_InvalidText : supV K C_InvalidText) (cn_InvalidText : PySem.W.findIn K (.ref C_InvalidText) "part" = some none)
    {C_TooMany : Addr} (ca_TooMany : PySem.W.nsIn K mainGlobals "TooMany" = some (some (.ref C_TooMany))) (cb_TooMany : errB K C_TooMany = true)
    {fI_TooMany c_TooMany cc_TooMany : Addr} {od_TooMany an_TooMany cdd_TooMany cld_TooMany : Option Addr} {sl_TooMany ccs_TooMany csl_TooMany : Array (Option Value)} {oc_TooMany kV_TooMany dc_TooMany pm_TooMany ct_TooMany ccl_TooMany cl_TooMany : Value} {vs_TooMany : Array Value} {fi_TooMany : Str} {tf_TooMany : Tok}
    (ci_TooMany : PySem.W.findIn K (.ref C_TooMany) "__init__" = some (some (.ref fI_TooMany))) (cy_TooMany : PySem.W.typeIn K (.ref fI_TooMany) = some (.type "function"))
    (cl_TooMany' : K.lookup fI_TooMany = some ⟨oc_TooMany, od_TooMany, .func (PySem.W.fnX "__init__" "TooMany.__init__" (defArgs i_TooMany) (defBody i_TooMany) (defScope i_TooMany) [("__class__", cc_TooMany)] .none kV_TooMany dc_TooMany pm_TooMany an_TooMany (.ref c_TooMany) ct_TooMany), sl_TooMany⟩)
    (cd_TooMany : PySem.W.codeIn K (.ref c_TooMany) "TooMany.__init__" = true) (ck_TooMany : K.lookup cc_TooMany = some ⟨cl_TooMany, cld_TooMany, .cell (some (.ref C_TooMany)), csl_TooMany⟩) (ce_TooMany : K.lookup c_TooMany = some ⟨ccl_TooMany, cdd_TooMany, .fields vs_TooMany, ccs_TooMany⟩)
    (cv_TooMany : vs_TooMany[2]? = some (.str fi_TooMany tf_TooMany)) (cf_TooMany : ((l.prog.main.file : Str) == fi_TooMany) = true) (cs_TooMany : supV K C_TooMany) (cn_TooMany : PySem.W.findIn K (.ref C_TooMany) "limit" = some none)
    {C_Farther : Addr} (ca_Farther : PySem.W.nsIn K mainGlobals "Farther" = some (some (.ref C_Farther))) (cb_Farther : errB K C_Farther = true)
    {fI_Farther c_Farther cc_Farther : Addr} {od_Farther an_Farther cdd_Farther cld_Farther : Option Addr} {sl_Farther ccs_Farther csl_Farther : Array (Option Value)} {oc_Farther kV_Farther dc_Farther pm_Farther ct_Farther ccl_Farther cl_Farther : Value} {vs_Farther : Array Value} {fi_Farther : Str} {tf_Farther : Tok}
    (ci_Farther : PySem.W.findIn K (.ref C_Farther) "__init__" = some (some (.ref fI_Farther))) (cy_Farther : PySem.W.typeIn K (.ref fI_Farther) = some (.type "function"))
    (cl_Farther' : K.lookup fI_Farther = some ⟨oc_Farther, od_Farther, .func (PySem.W.fnX "__init__" "Farther.__init__" (defArgs i_Farther) (defBody i_Farther) (defScope i_Farther) [("__class__", cc_Farther)] .none kV_Farther dc_Farther pm_Farther an_Farther (.ref c_Farther) ct_Farther), sl_Farther⟩)
    (cd_Farther : PySem.W.codeIn K (.ref c_Farther) "Farther.__init__" = true) (ck_Farther : K.lookup cc_Farther = some ⟨cl_Farther, cld_Farther, .cell (some (.ref C_Farther)), csl_Farther⟩) (ce_Farther : K.lookup c_Farther = some ⟨ccl_Farther, cdd_Farther, .fields vs_Farther, ccs_Farther⟩)
    (cv_Farther : vs_Farther[2]? = some (.str fi_Farther tf_Farther)) (cf_Farther : ((l.prog.main.file : Str) == fi_Farther) = true) (cs_Farther : supV K C_Farther) (cn_Farther : PySem.W.findIn K (.ref C_Farther) "moves" = some none)
    {C_InvalidPieces : Addr} (ca_InvalidPieces : PySem.W.nsIn K mainGlobals "InvalidPieces" = some (some (.ref C_InvalidPieces))) (cb_InvalidPieces : errB K C_InvalidPieces = true)
    (cq_InvalidPieces : PySem.W.excIn K C_InvalidPieces veMro "ValueError.__new__" = true)
    {C_InvalidEnd : Addr} (ca_InvalidEnd : PySem.W.nsIn K mainGlobals "InvalidEnd" = some (some (.ref C_InvalidEnd))) (cb_InvalidEnd : errB K C_InvalidEnd = true)
    (cq_InvalidEnd : PySem.W.excIn K C_InvalidEnd veMro "ValueError.__new__" = true)
    {C_InvalidMove : Addr} (ca_InvalidMove : PySem.W.nsIn K mainGlobals "InvalidMove" = some (some (.ref C_InvalidMove))) (cb_InvalidMove : errB K C_InvalidMove = true)
    (cq_InvalidMove : PySem.W.excIn K C_InvalidMove veMro "ValueError.__new__" = true)
    {C_InvalidMoves : Addr} (ca_InvalidMoves : PySem.W.nsIn K mainGlobals "InvalidMoves" = some (some (.ref C_InvalidMoves))) (cb_InvalidMoves : errB K C_InvalidMoves = true)
    (cq_InvalidMoves : PySem.W.excIn K C_InvalidMoves veMro "ValueError.__new__" = true)
    {C_InvalidSight : Addr} (ca_InvalidSight : PySem.W.nsIn K mainGlobals "InvalidSight" = some (some (.ref C_InvalidSight))) (cb_InvalidSight : errB K C_InvalidSight = true)
    (cq_InvalidSight : PySem.W.excIn K C_InvalidSight veMro "ValueError.__new__" = true)
    {C_InvalidNumber : Addr} (ca_InvalidNumber : PySem.W.nsIn K mainGlobals "InvalidNumber" = some (some (.ref C_InvalidNumber))) (cb_InvalidNumber : errB K C_InvalidNumber = true)
    (cq_InvalidNumber : PySem.W.excIn K C_InvalidNumber veMro "ValueError.__new__" = true)
    {C_InvalidCommand : Addr} (ca_InvalidCommand : PySem.W.nsIn K mainGlobals "InvalidCommand" = some (some (.ref C_InvalidCommand))) (cb_InvalidCommand : errB K C_InvalidCommand = true)
    (cq_InvalidCommand : PySem.W.excIn K C_InvalidCommand veMro "ValueError.__new__" = true)
    {C_NotBetween : Addr} (ca_NotBetween : PySem.W.nsIn K mainGlobals "NotBetween" = some (some (.ref C_NotBetween))) (cb_NotBetween : errB K C_NotBetween = true)
    (cq_NotBetween : PySem.W.excIn K C_NotBetween veMro "ValueError.__new__" = true)
    {C_MixedWays : Addr} (ca_MixedWays : PySem.W.nsIn K mainGlobals "MixedWays" = some (some (.ref C_MixedWays))) (cb_MixedWays : errB K C_MixedWays = true)
    (cq_MixedWays : PySem.W.excIn K C_MixedWays veMro "ValueError.__new__" = true)
    {C_NotFitting : Addr} (ca_NotFitting : PySem.W.nsIn K mainGlobals "NotFitting" = some (some (.ref C_NotFitting))) (cb_NotFitting : errB K C_NotFitting = true)
    (cq_NotFitting : PySem.W.excIn K C_NotFitting veMro "ValueError.__new__" = true)
    {C_Clash : Addr} (ca_Clash : PySem.W.nsIn K mainGlobals "Clash" = some (some (.ref C_Clash))) (cb_Clash : errB K C_Clash = true)
    (cq_Clash : PySem.W.excIn K C_Clash veMro "ValueError.__new__" = true)
    {C_NothingToUndo : Addr} (ca_NothingToUndo : PySem.W.nsIn K mainGlobals "NothingToUndo" = some (some (.ref C_NothingToUndo))) (cb_NothingToUndo : errB K C_NothingToUndo = true)
    (cq_NothingToUndo : PySem.W.excIn K C_NothingToUndo veMro "ValueError.__new__" = true)
    {C_HitchError : Addr} (ca_HitchError : PySem.W.nsIn K mainGlobals "HitchError" = some (some (.ref C_HitchError))) (cb_HitchError : errB K C_HitchError = true)
    (cq_HitchError : PySem.W.excIn K C_HitchError veMro "ValueError.__new__" = true)
    (c_super : PySem.W.nsIn K mainGlobals "super" = some none) (c_st : PySem.W.nsIn K cStatics "thirdparty.any" = some none) (c_top : (l.prog.main.scope.names.lookup ("super" : Str)).isSome = false)
    (kt : kitTB K = true) :
    ∃ fd : FuncData, (∀ (s : Shared) (v : Value), BindsTo s fd ⟨[v], []⟩ [("script", v)]) ∧ ∀ base : Heap, K.In base → base.Ns mainGlobals mg → FnG l.prog w K mg base CX0 4 fa fd ["script"] (sp_law K) := by
  have e := hfa.symm.trans (PySem.W.mg_of X G a4)
  cases e
  have m_max := PySem.W.mg_none_of X G z_max
  have m_len := PySem.W.mg_none_of X G z_len
  have m_int := PySem.W.mg_none_of X G z_int
  have m_abs := PySem.W.mg_none_of X G z_abs
  have m_isinstance := PySem.W.mg_none_of X G z_isinstance
  have m_range := PySem.W.mg_none_of X G z_range
  have m_enumerate := PySem.W.mg_none_of X G z_enumerate
  have m_min := PySem.W.mg_none_of X G z_min
  have m_repr := PySem.W.mg_none_of X G z_repr
  have m_ValueError := PySem.W.mg_none_of X G z_ValueError
  have F0 := fun_mk (st := s__law_well) l0 c0 k0
  have F1 := fun_mk (st := s__law_pick) l1 c1 k1
  have F2 := fun_mk (st := s__law_kinds) l2 c2 k2
  have F3 := fun_mk (st := s__law_created) l3 c3 k3
  have F4 := fun_mk (st := s_law) l4 c4 k4
  refine ⟨PySem.W.fnOf "law" "law" (defArgs s_law) (defBody s_law) (defScope s_law) .none kV4 dc4 pm4 an4 cd4 ct4, fun s v => .of_eq rfl, fun base _ _ => ?_⟩
  have P_InvalidLayout : ∀ e ∈ (partsOf i_InvalidLayout), Part "index" e := by
    intro e he
    rcases List.mem_cons.mp he with rfl | he
    · exact .cst _ _ _ (by decide)
    rcases List.mem_cons.mp he with rfl | he
    · exact .fmt _ _
    rcases List.mem_cons.mp he with rfl | he
    · exact .cst _ _ _ (by decide)
    cases he
  have F_InvalidLayout : NewF l.prog w K mg base "InvalidLayout" "index" := newF_of (par := "index") X G cl_InvalidLayout' cd_InvalidLayout (NdefX.nscope_by (by decide +kernel)) ck_InvalidLayout rfl rfl ce_InvalidLayout cv_InvalidLayout cf_InvalidLayout c_super c_top c_st rfl ca_InvalidLayout cb_InvalidLayout ci_InvalidLayout cy_InvalidLayout cs_InvalidLayout cn_InvalidLayout (fun _ => rfl) (fun _ => rfl) (fun _ => rfl) (fun _ => rfl) (fun _ => rfl) P_InvalidLayout (by decide) (by decide) (by decide) (fun _ _ => rfl)
  have P_InvalidRows : ∀ e ∈ (partsOf i_InvalidRows), Part "index" e := by
    intro e he
    rcases List.mem_cons.mp he with rfl | he
    · exact .cst _ _ _ (by decide)
    rcases List.mem_cons.mp he with rfl | he
    · exact .fmt _ _
    rcases List.mem_cons.mp he with rfl | he
    · exact .cst _ _ _ (by decide)
    cases he
  have F_InvalidRows : NewF l.prog w K mg base "InvalidRows" "index" := newF_of (par := "index") X G cl_InvalidRows' cd_InvalidRows (NdefX.nscope_by (by decide +kernel)) ck_InvalidRows rfl rfl ce_InvalidRows cv_InvalidRows cf_InvalidRows c_super c_top c_st rfl ca_InvalidRows cb_InvalidRows ci_InvalidRows cy_InvalidRows cs_InvalidRows cn_InvalidRows (fun _ => rfl) (fun _ => rfl) (fun _ => rfl) (fun _ => rfl) (fun _ => rfl) P_InvalidRows (by decide) (by decide) (by decide) (fun _ _ => rfl)
  have P_InvalidRings : ∀ e ∈ (partsOf i_InvalidRings), Part "index" e := by
    intro e he
    rcases List.mem_cons.mp he with rfl | he
    · exact .cst _ _ _ (by decide)
    rcases List.mem_cons.mp he with rfl | he
    · exact .fmt _ _
    rcases List.mem_cons.mp he with rfl | he
    · exact .cst _ _ _ (by decide)
    cases he
  have F_InvalidRings : NewF l.prog w K mg base "InvalidRings" "index" := newF_of (par := "index") X G cl_InvalidRings' cd_InvalidRings (NdefX.nscope_by (by decide +kernel)) ck_InvalidRings rfl rfl ce_InvalidRings cv_InvalidRings cf_InvalidRings c_super c_top c_st rfl ca_InvalidRings cb_InvalidRings ci_InvalidRings cy_InvalidRings cs_InvalidRings cn_InvalidRings (fun _ => rfl) (fun _ => rfl) (fun _ => rfl) (fun _ => rfl) (fun _ => rfl) P_InvalidRings (by decide) (by decide) (by decide) (fun _ _ => rfl)
  have P_InvalidOpens : ∀ e ∈ (partsOf i_InvalidOpens), Part "index" e := by
    intro e he
    rcases List.mem_cons.mp he with rfl | he
    · exact .cst _ _ _ (by decide)
    rcases List.mem_cons.mp he with rfl | he
    · exact .fmt _ _
    rcases List.mem_cons.mp he with rfl | he
    · exact .cst _ _ _ (by decide)
    cases he
  have F_InvalidOpens : NewF l.prog w K mg base "InvalidOpens" "index" := newF_of (par := "index") X G cl_InvalidOpens' cd_InvalidOpens (NdefX.nscope_by (by decide +kernel)) ck_InvalidOpens rfl rfl ce_InvalidOpens cv_InvalidOpens cf_InvalidOpens c_super c_top c_st rfl ca_InvalidOpens cb_InvalidOpens ci_InvalidOpens cy_InvalidOpens cs_InvalidOpens cn_InvalidOpens (fun _ => rfl) (fun _ => rfl) (fun _ => rfl) (fun _ => rfl) (fun _ => rfl) P_InvalidOpens (by decide) (by decide) (by decide) (fun _ _ => rfl)
  have P_InvalidText : ∀ e ∈ (partsOf i_InvalidText), Part "part" e := by
    intro e he
    rcases List.mem_cons.mp he with rfl | he
    · exact .cst _ _ _ (by decide)
    rcases List.mem_cons.mp he with rfl | he
    · exact .fmt _ _
    rcases List.mem_cons.mp he with rfl | he
    · exact .cst _ _ _ (by decide)
    cases he
  have F_InvalidText : NewF l.prog w K mg base "InvalidText" "part" := newF_of (par := "part") X G cl_InvalidText' cd_InvalidText (NdefX.nscope_by (by decide +kernel)) ck_InvalidText rfl rfl ce_InvalidText cv_InvalidText cf_InvalidText c_super c_top c_st rfl ca_InvalidText cb_InvalidText ci_InvalidText cy_InvalidText cs_InvalidText cn_InvalidText (fun _ => rfl) (fun _ => rfl) (fun _ => rfl) (fun _ => rfl) (fun _ => rfl) P_InvalidText (by decide) (by decide) (by decide) (fun _ _ => rfl)
  have P_TooMany : ∀ e ∈ (partsOf i_TooMany), Part "limit" e := by
    intro e he
    rcases List.mem_cons.mp he with rfl | he
    · exact .cst _ _ _ (by decide)
    rcases List.mem_cons.mp he with rfl | he
    · exact .fmt _ _
    cases he
  have F_TooMany : NewF l.prog w K mg base "TooMany" "limit" := newF_of (par := "limit") X G cl_TooMany' cd_TooMany (NdefX.nscope_by (by decide +kernel)) ck_TooMany rfl rfl ce_TooMany cv_TooMany cf_TooMany c_super c_top c_st rfl ca_TooMany cb_TooMany ci_TooMany cy_TooMany cs_TooMany cn_TooMany (fun _ => rfl) (fun _ => rfl) (fun _ => rfl) (fun _ => rfl) (fun _ => rfl) P_TooMany (by decide) (by decide) (by decide) (fun _ _ => rfl)
  have P_Farther : ∀ e ∈ (partsOf i_Farther), Part "moves" e := by
    intro e he
    rcases List.mem_cons.mp he with rfl | he
    · exact .fmt _ _
    rcases List.mem_cons.mp he with rfl | he
    · exact .cst _ _ _ (by decide)
    cases he
  have F_Farther : NewF l.prog w K mg base "Farther" "moves" := newF_of (par := "moves") X G cl_Farther' cd_Farther (NdefX.nscope_by (by decide +kernel)) ck_Farther rfl rfl ce_Farther cv_Farther cf_Farther c_super c_top c_st rfl ca_Farther cb_Farther ci_Farther cy_Farther cs_Farther cn_Farther (fun _ => rfl) (fun _ => rfl) (fun _ => rfl) (fun _ => rfl) (fun _ => rfl) P_Farther (by decide) (by decide) (by decide) (fun _ _ => rfl)
  have N_InvalidPieces : New1 K mg "InvalidPieces" := new1_of X G ca_InvalidPieces cb_InvalidPieces cq_InvalidPieces
  have N_InvalidEnd : New1 K mg "InvalidEnd" := new1_of X G ca_InvalidEnd cb_InvalidEnd cq_InvalidEnd
  have N_InvalidMove : New1 K mg "InvalidMove" := new1_of X G ca_InvalidMove cb_InvalidMove cq_InvalidMove
  have N_InvalidMoves : New1 K mg "InvalidMoves" := new1_of X G ca_InvalidMoves cb_InvalidMoves cq_InvalidMoves
  have N_InvalidSight : New1 K mg "InvalidSight" := new1_of X G ca_InvalidSight cb_InvalidSight cq_InvalidSight
  have N_InvalidNumber : New1 K mg "InvalidNumber" := new1_of X G ca_InvalidNumber cb_InvalidNumber cq_InvalidNumber
  have N_InvalidCommand : New1 K mg "InvalidCommand" := new1_of X G ca_InvalidCommand cb_InvalidCommand cq_InvalidCommand
  have N_NotBetween : New1 K mg "NotBetween" := new1_of X G ca_NotBetween cb_NotBetween cq_NotBetween
  have N_MixedWays : New1 K mg "MixedWays" := new1_of X G ca_MixedWays cb_MixedWays cq_MixedWays
  have N_NotFitting : New1 K mg "NotFitting" := new1_of X G ca_NotFitting cb_NotFitting cq_NotFitting
  have N_Clash : New1 K mg "Clash" := new1_of X G ca_Clash cb_Clash cq_Clash
  have N_NothingToUndo : New1 K mg "NothingToUndo" := new1_of X G ca_NothingToUndo cb_NothingToUndo cq_NothingToUndo
  have N_HitchError : New1 K mg "HitchError" := new1_of X G ca_HitchError cb_HitchError cq_HitchError
  have D__law_well : Def l.prog w K mg base 1 "_law_well" ["script", "k"] (sp__law_well K) := ⟨f0, _, ok__law_well F0 m_max m_len m_int m_abs, F0.kp, F0.binds (ps := ["script", "k"]) fun _ _ _ _ _ _ us hl => match us, hl with | [_, _], _ => rfl, PySem.W.mg_of X G a0⟩
  have D__law_pick : Def l.prog w K mg base 1 "_law_pick" ["well", "bound"] (sp__law_pick K) := ⟨f1, _, ok__law_pick F1 m_int, F1.kp, F1.binds (ps := ["well", "bound"]) fun _ _ _ _ _ _ us hl => match us, hl with | [_, _], _ => rfl, PySem.W.mg_of X G a1⟩
  have D__law_kinds : Def l.prog w K mg base 3 "_law_kinds" ["error"] (sp__law_kinds K) := ⟨f2, _, ok__law_kinds F2 m_isinstance F_InvalidLayout F_InvalidRows F_InvalidRings F_InvalidOpens F_InvalidText F_TooMany F_Farther N_InvalidPieces N_InvalidEnd N_InvalidMove N_InvalidMoves N_InvalidSight N_InvalidNumber N_InvalidCommand N_NotBetween N_MixedWays N_NotFitting N_Clash N_NothingToUndo, F2.kp, F2.binds (ps := ["error"]) fun _ _ _ _ _ _ us hl => match us, hl with | [_], _ => rfl, PySem.W.mg_of X G a2⟩
  have D__law_created : Def l.prog w K mg base 3 "_law_created" ["text", "spot", "bound"] (sp__law_created K) := ⟨f3, _, ok__law_created F3 F_InvalidLayout F_InvalidRows F_InvalidRings F_InvalidOpens F_InvalidText F_TooMany F_Farther N_InvalidPieces N_InvalidEnd N_InvalidMove N_InvalidMoves N_InvalidSight N_InvalidNumber N_InvalidCommand N_NotBetween N_MixedWays N_NotFitting N_Clash N_NothingToUndo, F3.kp, F3.binds (ps := ["text", "spot", "bound"]) fun _ _ _ _ _ _ us hl => match us, hl with | [_, _, _], _ => rfl, PySem.W.mg_of X G a3⟩
  exact ok_law F4 D__law_well D__law_created D__law_pick D__law_kinds m_range m_max m_enumerate m_min m_repr m_len m_isinstance m_ValueError N_HitchError kt
end K31
open PySem PySem.W PyProof.Rows
set_option maxHeartbeats 0 in
theorem PySem.Challenge.cw_crosshitch_k31_errors_made_holds : PySem.Challenge.rw_crosshitch_k31_errors_made.Holds := by
  w_on; o_law; k_head; (case hw => w_witness2)
  k_fill
  refine Vf.walk_ofG (l := PySem.Challenge.rw_crosshitch_k31_errors_made) (n := 63) (k := 4) (x := "script") (sp := fun w => K31.sp_law _) rfl (by decide) rfl ⟨rfl, by decide, by decide⟩ (fun w h Y => PySem.W.kIn_of Y) ?F (fun _ _ a ns hl hS => ⟨a, ns, rfl, hS, hl, fun _ => rfl⟩)
  case F =>
    intro w mg fa h KX G hmg
    refine' K31.all_mk KX G hmg ?a0 ?l0 ?c0 ?k0 ?a1 ?l1 ?c1 ?k1 ?a2 ?l2 ?c2 ?k2 ?a3 ?l3 ?c3 ?k3 ?a4 ?l4 ?c4 ?k4 ?z_max ?z_len ?z_int ?z_abs ?z_isinstance ?z_range ?z_enumerate ?z_min ?z_repr ?z_ValueError ?ca_InvalidLayout ?cb_InvalidLayout ?ci_InvalidLayout ?cy_InvalidLayout ?cl_InvalidLayout' ?cd_InvalidLayout ?ck_InvalidLayout ?ce_InvalidLayout ?cv_InvalidLayout ?cf_InvalidLayout ?cs_InvalidLayout ?cn_InvalidLayout ?ca_InvalidRows ?cb_InvalidRows ?ci_InvalidRows ?cy_InvalidRows ?cl_InvalidRows' ?cd_InvalidRows ?ck_InvalidRows ?ce_InvalidRows ?cv_InvalidRows ?cf_InvalidRows ?cs_InvalidRows ?cn_InvalidRows ?ca_InvalidRings ?cb_InvalidRings ?ci_InvalidRings ?cy_InvalidRings ?cl_InvalidRings' ?cd_InvalidRings ?ck_InvalidRings ?ce_InvalidRings ?cv_InvalidRings ?cf_InvalidRings ?cs_InvalidRings ?cn_InvalidRings ?ca_InvalidOpens ?cb_InvalidOpens ?ci_InvalidOpens ?cy_InvalidOpens ?cl_InvalidOpens' ?cd_InvalidOpens ?ck_InvalidOpens ?ce_InvalidOpens ?cv_InvalidOpens ?cf_InvalidOpens ?cs_InvalidOpens ?cn_InvalidOpens ?ca_InvalidText ?cb_InvalidText ?ci_InvalidText ?cy_InvalidText ?cl_InvalidText' ?cd_InvalidText ?ck_InvalidText ?ce_InvalidText ?cv_InvalidText ?cf_InvalidText ?cs_InvalidText ?cn_InvalidText ?ca_TooMany ?cb_TooMany ?ci_TooMany ?cy_TooMany ?cl_TooMany' ?cd_TooMany ?ck_TooMany ?ce_TooMany ?cv_TooMany ?cf_TooMany ?cs_TooMany ?cn_TooMany ?ca_Farther ?cb_Farther ?ci_Farther ?cy_Farther ?cl_Farther' ?cd_Farther ?ck_Farther ?ce_Farther ?cv_Farther ?cf_Farther ?cs_Farther ?cn_Farther ?ca_InvalidPieces ?cb_InvalidPieces ?cq_InvalidPieces ?ca_InvalidEnd ?cb_InvalidEnd ?cq_InvalidEnd ?ca_InvalidMove ?cb_InvalidMove ?cq_InvalidMove ?ca_InvalidMoves ?cb_InvalidMoves ?cq_InvalidMoves ?ca_InvalidSight ?cb_InvalidSight ?cq_InvalidSight ?ca_InvalidNumber ?cb_InvalidNumber ?cq_InvalidNumber ?ca_InvalidCommand ?cb_InvalidCommand ?cq_InvalidCommand ?ca_NotBetween ?cb_NotBetween ?cq_NotBetween ?ca_MixedWays ?cb_MixedWays ?cq_MixedWays ?ca_NotFitting ?cb_NotFitting ?cq_NotFitting ?ca_Clash ?cb_Clash ?cq_Clash ?ca_NothingToUndo ?cb_NothingToUndo ?cq_NothingToUndo ?ca_HitchError ?cb_HitchError ?cq_HitchError ?c_super ?c_st ?c_top ?kt
    (case a0 => k_is); (case l0 => k_is); (case c0 => k_is); (case k0 => k_is); (case a1 => k_is); (case l1 => k_is); (case c1 => k_is); (case k1 => k_is); (case a2 => k_is); (case l2 => k_is); (case c2 => k_is); (case k2 => k_is); (case a3 => k_is); (case l3 => k_is); (case c3 => k_is); (case k3 => k_is); (case a4 => k_is); (case l4 => k_is); (case c4 => k_is); (case k4 => k_is); (case z_max => k_is); (case z_len => k_is); (case z_int => k_is); (case z_abs => k_is); (case z_isinstance => k_is); (case z_range => k_is); (case z_enumerate => k_is); (case z_min => k_is); (case z_repr => k_is); (case z_ValueError => k_is)
    case ca_InvalidLayout => first | k_is | kernel_rfl | decide +kernel
    case cb_InvalidLayout => first | kernel_rfl | decide +kernel | k_is
    case ci_InvalidLayout => first | k_is | kernel_rfl | decide +kernel
    case cy_InvalidLayout => first | k_is | kernel_rfl | decide +kernel
    case cl_InvalidLayout' => first | k_is | kernel_rfl | decide +kernel
    case cd_InvalidLayout => first | k_is | kernel_rfl | decide +kernel
    case ck_InvalidLayout => first | k_is | kernel_rfl | decide +kernel
    case ce_InvalidLayout => first | k_is | kernel_rfl | decide +kernel
    case cv_InvalidLayout => first | rfl | kernel_rfl | decide +kernel
    case cf_InvalidLayout => first | kernel_rfl | decide +kernel | rfl
    case cs_InvalidLayout => first | kernel_rfl | decide +kernel | k_is
    case cn_InvalidLayout => first | k_is | kernel_rfl | decide +kernel
    case ca_InvalidRows => first | k_is | kernel_rfl | decide +kernel
    case cb_InvalidRows => first | kernel_rfl | decide +kernel | k_is
    case ci_InvalidRows => first | k_is | kernel_rfl | decide +kernel
    case cy_InvalidRows => first | k_is | kernel_rfl | decide +kernel
    case cl_InvalidRows' => first | k_is | kernel_rfl | decide +kernel
    case cd_InvalidRows => first | k_is | kernel_rfl | decide +kernel
    case ck_InvalidRows => first | k_is | kernel_rfl | decide +kernel
    case ce_InvalidRows => first | k_is | kernel_rfl | decide +kernel
    case cv_InvalidRows => first | rfl | kernel_rfl | decide +kernel
    case cf_InvalidRows => first | kernel_rfl | decide +kernel | rfl
    case cs_InvalidRows => first | kernel_rfl | decide +kernel | k_is
    case cn_InvalidRows => first | k_is | kernel_rfl | decide +kernel
    case ca_InvalidRings => first | k_is | kernel_rfl | decide +kernel
    case cb_InvalidRings => first | kernel_rfl | decide +kernel | k_is
    case ci_InvalidRings => first | k_is | kernel_rfl | decide +kernel
    case cy_InvalidRings => first | k_is | kernel_rfl | decide +kernel
    case cl_InvalidRings' => first | k_is | kernel_rfl | decide +kernel
    case cd_InvalidRings => first | k_is | kernel_rfl | decide +kernel
    case ck_InvalidRings => first | k_is | kernel_rfl | decide +kernel
    case ce_InvalidRings => first | k_is | kernel_rfl | decide +kernel
    case cv_InvalidRings => first | rfl | kernel_rfl | decide +kernel
    case cf_InvalidRings => first | kernel_rfl | decide +kernel | rfl
    case cs_InvalidRings => first | kernel_rfl | decide +kernel | k_is
    case cn_InvalidRings => first | k_is | kernel_rfl | decide +kernel
    case ca_InvalidOpens => first | k_is | kernel_rfl | decide +kernel
    case cb_InvalidOpens => first | kernel_rfl | decide +kernel | k_is
    case ci_InvalidOpens => first | k_is | kernel_rfl | decide +kernel
    case cy_InvalidOpens => first | k_is | kernel_rfl | decide +kernel
    case cl_InvalidOpens' => first | k_is | kernel_rfl | decide +kernel
    case cd_InvalidOpens => first | k_is | kernel_rfl | decide +kernel
    case ck_InvalidOpens => first | k_is | kernel_rfl | decide +kernel
    case ce_InvalidOpens => first | k_is | kernel_rfl | decide +kernel
    case cv_InvalidOpens => first | rfl | kernel_rfl | decide +kernel
    case cf_InvalidOpens => first | kernel_rfl | decide +kernel | rfl
    case cs_InvalidOpens => first | kernel_rfl | decide +kernel | k_is
    case cn_InvalidOpens => first | k_is | kernel_rfl | decide +kernel
    case ca_InvalidText => first | k_is | kernel_rfl | decide +kernel
    case cb_InvalidText => first | kernel_rfl | decide +kernel | k_is
    case ci_InvalidText => first | k_is | kernel_rfl | decide +kernel
    case cy_InvalidText => first | k_is | kernel_rfl | decide +kernel
    case cl_InvalidText' => first | k_is | kernel_rfl | decide +kernel
    case cd_InvalidText => first | k_is | kernel_rfl | decide +kernel
    case ck_InvalidText => first | k_is | kernel_rfl | decide +kernel
    case ce_InvalidText => first | k_is | kernel_rfl | decide +kernel
    case cv_InvalidText => first | rfl | kernel_rfl | decide +kernel
    case cf_InvalidText => first | kernel_rfl | decide +kernel | rfl
    case cs_InvalidText => first | kernel_rfl | decide +kernel | k_is
    case cn_InvalidText => first | k_is | kernel_rfl | decide +kernel
    case ca_TooMany => first | k_is | kernel_rfl | decide +kernel
    case cb_TooMany => first | kernel_rfl | decide +kernel | k_is
    case ci_TooMany => first | k_is | kernel_rfl | decide +kernel
    case cy_TooMany => first | k_is | kernel_rfl | decide +kernel
    case cl_TooMany' => first | k_is | kernel_rfl | decide +kernel
    case cd_TooMany => first | k_is | kernel_rfl | decide +kernel
    case ck_TooMany => first | k_is | kernel_rfl | decide +kernel
    case ce_TooMany => first | k_is | kernel_rfl | decide +kernel
    case cv_TooMany => first | rfl | kernel_rfl | decide +kernel
    case cf_TooMany => first | kernel_rfl | decide +kernel | rfl
    case cs_TooMany => first | kernel_rfl | decide +kernel | k_is
    case cn_TooMany => first | k_is | kernel_rfl | decide +kernel
    case ca_Farther => first | k_is | kernel_rfl | decide +kernel
    case cb_Farther => first | kernel_rfl | decide +kernel | k_is
    case ci_Farther => first | k_is | kernel_rfl | decide +kernel
    case cy_Farther => first | k_is | kernel_rfl | decide +kernel
    case cl_Farther' => first | k_is | kernel_rfl | decide +kernel
    case cd_Farther => first | k_is | kernel_rfl | decide +kernel
    case ck_Farther => first | k_is | kernel_rfl | decide +kernel
    case ce_Farther => first | k_is | kernel_rfl | decide +kernel
    case cv_Farther => first | rfl | kernel_rfl | decide +kernel
    case cf_Farther => first | kernel_rfl | decide +kernel | rfl
    case cs_Farther => first | kernel_rfl | decide +kernel | k_is
    case cn_Farther => first | k_is | kernel_rfl | decide +kernel
    case ca_InvalidPieces => first | k_is | kernel_rfl | decide +kernel
    case cb_InvalidPieces => first | kernel_rfl | decide +kernel | k_is
    case cq_InvalidPieces => first | kernel_rfl | decide +kernel | k_is
    case ca_InvalidEnd => first | k_is | kernel_rfl | decide +kernel
    case cb_InvalidEnd => first | kernel_rfl | decide +kernel | k_is
    case cq_InvalidEnd => first | kernel_rfl | decide +kernel | k_is
    case ca_InvalidMove => first | k_is | kernel_rfl | decide +kernel
    case cb_InvalidMove => first | kernel_rfl | decide +kernel | k_is
    case cq_InvalidMove => first | kernel_rfl | decide +kernel | k_is
    case ca_InvalidMoves => first | k_is | kernel_rfl | decide +kernel
    case cb_InvalidMoves => first | kernel_rfl | decide +kernel | k_is
    case cq_InvalidMoves => first | kernel_rfl | decide +kernel | k_is
    case ca_InvalidSight => first | k_is | kernel_rfl | decide +kernel
    case cb_InvalidSight => first | kernel_rfl | decide +kernel | k_is
    case cq_InvalidSight => first | kernel_rfl | decide +kernel | k_is
    case ca_InvalidNumber => first | k_is | kernel_rfl | decide +kernel
    case cb_InvalidNumber => first | kernel_rfl | decide +kernel | k_is
    case cq_InvalidNumber => first | kernel_rfl | decide +kernel | k_is
    case ca_InvalidCommand => first | k_is | kernel_rfl | decide +kernel
    case cb_InvalidCommand => first | kernel_rfl | decide +kernel | k_is
    case cq_InvalidCommand => first | kernel_rfl | decide +kernel | k_is
    case ca_NotBetween => first | k_is | kernel_rfl | decide +kernel
    case cb_NotBetween => first | kernel_rfl | decide +kernel | k_is
    case cq_NotBetween => first | kernel_rfl | decide +kernel | k_is
    case ca_MixedWays => first | k_is | kernel_rfl | decide +kernel
    case cb_MixedWays => first | kernel_rfl | decide +kernel | k_is
    case cq_MixedWays => first | kernel_rfl | decide +kernel | k_is
    case ca_NotFitting => first | k_is | kernel_rfl | decide +kernel
    case cb_NotFitting => first | kernel_rfl | decide +kernel | k_is
    case cq_NotFitting => first | kernel_rfl | decide +kernel | k_is
    case ca_Clash => first | k_is | kernel_rfl | decide +kernel
    case cb_Clash => first | kernel_rfl | decide +kernel | k_is
    case cq_Clash => first | kernel_rfl | decide +kernel | k_is
    case ca_NothingToUndo => first | k_is | kernel_rfl | decide +kernel
    case cb_NothingToUndo => first | kernel_rfl | decide +kernel | k_is
    case cq_NothingToUndo => first | kernel_rfl | decide +kernel | k_is
    case ca_HitchError => first | k_is | kernel_rfl | decide +kernel
    case cb_HitchError => first | kernel_rfl | decide +kernel | k_is
    case cq_HitchError => first | kernel_rfl | decide +kernel | k_is
    case c_super => first | k_is | kernel_rfl | decide +kernel
    case c_st => first | k_is | kernel_rfl | decide +kernel
    case c_top => first | k_is | kernel_rfl | decide +kernel
    case kt => first | kernel_rfl | decide +kernel
