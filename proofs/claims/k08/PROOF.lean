import PyProof.Rows.All
import HandS.List
import HandS.Words
import HandS.Comp
import HandS.Ends
import PyProof.ReprRoads
import HandS.ForMost
import HandS.Strs
import HandS.TupLe
import HandS.SortRule
import HandS.IsInst
import HandS.More
import PyProof.TypeEq
import PyProof.ReprLen
import PyProof.Rows.RuleB_pow
import HandS.Iter
import HandS.RaiseMore
import HandS.Nested
import HandS.ExcInit
import HandS.ExcIs
import HandS.ExcField
import HandS.ExcValue
import HandS.ClsMeth
import HandS.FStr
import KE.KSuper
import KE.KExcSuper
import KE.KExcIs
import KE.IntBitsLaws
import HandS.TryOnly
import HandS.Style
import HandS.Deep
import HandS.SortInts
import HandS.Flow
import PyProof.IsRules
import HandS.SetFor
import HandS.TupSets
import KE.SortData
import HandS.Conv
import KE.DataFind
import OpenK.XHead
import PySem.Challenge.RW_crosshitch_k08_kinds_of_moves
set_option Elab.async false
set_option linter.all false
set_option maxRecDepth 100000
set_option maxHeartbeats 4000000
namespace Vf
open PySem PySem.Spec PyProof.Rows L2

/-! ### promises that know that no repr is under way -/
structure FnG (P : Program) (w : World) (K : PySem.W.Frag) (mg : Str → Option Value) (base : Heap) (CX : CXT) (k : Nat) (f : Addr) (fd : FuncData) (ps : List Str) (sp : Sp) : Prop where
  arity : ∀ vs H Q E, sp vs H Q E → vs.length = ps.length
  go : ∀ (A : Around) (outer : List Env) (s : Shared) (H : Hp) (args : Args) (us : List Value) (vs : List V) (Q : VK) (E : XK),
    Room k A → A.guards = some [] → Env0 P w K mg base A outer s H → BindsTo s fd args (ps.zip us) → Vals vs us → sp vs H Q E → codeAny (model P w) A (.call (.ref f) args) (CR CX outer P w H s Q E) s
section
variable {P : Program} {w : World} {K : PySem.W.Frag} {mg : Str → Option Value} {base : Heap} {CX : CXT} {k : Nat} {f : Addr} {fd : FuncData} {ps : List Str} {sp : Sp}
theorem FnG.of (F : FnOk P w K mg base CX k f fd ps sp) : FnG P w K mg base CX k f fd ps sp :=
  ⟨F.len, fun A o s H as us vs Q E r _ e b v q => F.run A o s H as us vs Q E r e b v q⟩
theorem FnG.mono {j : Nat} (F : FnG P w K mg base CX j f fd ps sp) (h : j ≤ k) : FnG P w K mg base CX k f fd ps sp :=
  ⟨F.arity, fun A o s H as us vs Q E r => F.go A o s H as us vs Q E (r.mono h)⟩

/-- how a body's flow ends a call -/
theorem ends_call {N : List Str} {qual : Str} {sc : Scope} {cdv : Value} {A : Around} {outer : List Env} {s s' : Shared} {H : Hp} {Q : VK} {E : XK} {fl : Flow}
    (h : SP (cxOf CX P w K mg base N qual sc f cdv A outer s H E) [] { nx := fun _ H' => Q .non H', rt := Q } fl s') : CE outer P w H s Q (match fl with | .ret v => v | _ => .none) s' := by
  match fl, h with
  | .ret u, ⟨v, _, H', J, rv, q⟩ => exact ⟨v, H', J.os, J.bare, J.base, J.hok, rv, q⟩
  | .next, ⟨_, H', J, q⟩ => exact ⟨.non, H', J.os, J.bare, J.base, J.hok, rfl, q⟩
  | .brk, ⟨_, _, _, q⟩ => exact q.elim
  | .cont, ⟨_, _, _, q⟩ => exact q.elim

theorem okG {x qual : Str} {st : Stmt} {N : List Str} {sp : Sp} (F : Fun K x qual st f fd) (S : FnScope N ps (defScope st)) (ar : ∀ vs H Q E, sp vs H Q E → vs.length = ps.length)
    (hb : ∀ (cdv : Value) (A : Around) (outer : List Env) (s : Shared) (H : Hp) (vs : List V) (Q : VK) (E : XK), Room k (A.deeper (envOfC qual (defScope st) s.heap.objs.size f cdv)) → A.guards = some [] → sp vs H Q E →
      ∃ t, PSs (cxOf CX P w K mg base N qual (defScope st) f cdv A outer s H E) (defBody st) t ∧ t { nx := fun _ H' => Q .non H', rt := Q } (start N vs) H) : FnG P w K mg base CX (k + 1) f fd ps sp := by
  obtain ⟨_, _, _, _, _, _, cdv, _, _, e, lk, hcd⟩ := F.ex
  subst e
  refine ⟨ar, fun A outer s H args us vs Q E hr hg e0 bd r q0 => ?_⟩
  have kept : ∀ b o, base.get? b = some o → s.heap.get? b = some o := fun b o z => (e0.bs b o z).1
  have inK := e0.mod.kin.keeps kept
  refine codeAny_call_function hr.depth (inK _ _ lk) rfl S.co S.gen rfl (PySem.W.codeRec_of inK hcd) (bd _ _ _ _ ?_)
  refine wpAny_newFunctionEnv_cells S.kind (fun y hy => ?_) fun env ee s1 x1 => ?_
  · rcases S.par y.1 (List.of_mem_zip (show (y.1, y.2) ∈ ps.zip us from hy)).1 with z | z
    · exact Or.inl z
    · exact Or.inr ⟨z, PySem.W.cellsFrom_some _ _ _ (Or.inl z)⟩
  · subst ee
    refine ⟨(e0.mod.nolimit.keeps kept).keeps x1.toInCall.keep, codeAny_func ?_⟩
    obtain ⟨t, T, q⟩ := hb cdv A outer s H vs Q E (hr.deeper _) hg q0
    refine wpAny_mono (T.run [] s1 _ H _ (inv_start S hr.hd e0 (ar _ _ _ _ q0) r x1) q) (fun fl s' z => ?_) fun _ _ z => z
    have z' := ends_call z
    cases fl <;> exact z'
end
theorem okG0 {P : Program} {w : World} {K : PySem.W.Frag} {mg : Str → Option Value} {base : Heap} {k : Nat} {f : Addr} {fd : FuncData} {ps : List Str} {sp : Sp} {x qual : Str} {st : Stmt} {N : List Str} (F : Fun K x qual st f fd) (S : FnScope N ps (defScope st)) (ar : ∀ vs H Q E, sp vs H Q E → vs.length = ps.length)
    (hb : ∀ (cdv : Value) (A : Around) (outer : List Env) (s : Shared) (H : Hp) (vs : List V) (Q : VK) (E : XK), Room k (A.deeper (envOfC qual (defScope st) s.heap.objs.size f cdv)) → A.guards = some [] → sp vs H Q E →
      ∃ t, PSs (cxOf CX0 P w K mg base N qual (defScope st) f cdv A outer s H E).nox (defBody st) t ∧ t { nx := fun _ H' => Q .non H', rt := Q } (start N vs) H) : FnG P w K mg base CX0 (k + 1) f fd ps sp :=
  okG F S ar fun cdv A outer s H vs Q E hr hg q0 => let ⟨t, h, q⟩ := hb cdv A outer s H vs Q E hr hg q0; ⟨t, h.nox, q⟩

section
variable {X : Cx} {CX : CXT} {k : Nat} {f : Addr} {fd : FuncData} {ps : List Str} {sp : Sp} {dvs : List V} {ds : List Value} {E : XK} {x : Str} {p pos : Pos} {e : Expr} {es : List Expr} {t : TA}
/-- a call of such a def -/
theorem pe_callG (F : FnG X.prog X.w X.K X.mg X.base CX k f fd ps sp) (hr : Room k X.A) (hgd : X.A.guards = some []) (hg : Gl X x) (hm : X.mg x = some (.ref f)) (hk : PySem.W.keepIn X.K (.ref f) = true) (hb : Binds X.K fd ps ds) (hd : Vals dvs ds) (hx : Passes CX X E)
    (ha : PA X (e :: es) t) (hdb : (x == ("__debug__" : Str)) = false := by decide) (he : starEach (e :: es) X.env = (false, eval e X.env) :: starEach es X.env := by rfl) (hpl : (backTo pos (starEach es X.env)).any (·.1) = false := by rfl) : PE X (.Call (.Name x p) (e :: es) [] pos) (tCall sp dvs E t) := by
  constructor
  intro pins s σ H Q I h
  refine wpAny_Call_Name_kw (ld_glob I hg hm (PySem.W.callWith_K (h₀ := X.base) I.ok.mod.kin hk (thn (ha.run pos pins s σ H _ I h) ?_) he hpl) hdb)
  rintro us s1 ⟨vs, H1, I1, r, q⟩
  have r2 := r.append hd
  refine ⟨I1.kIn, wpAny_call (codeAny_mono (F.go X.A X.stack s1 H1 ⟨us, []⟩ (us ++ ds) (vs ++ dvs) Q E hr hgd I1.env0 (hb s1 us I1.kIn (r2.length.symm.trans (F.arity _ _ _ _ q))) r2 q) ?_)⟩
  intro res s' z
  match res, z with
  | .error ex, z => exact hx pins σ H1 s1 ex s' I1 z
  | .ok (.ret u), z => exact I1.after z
  | .ok .next, z => exact z.elim
  | .ok .brk, z => exact z.elim
  | .ok .cont, z => exact z.elim
end

/-! ### the end -/
/-- the heap in which the script alone is known -/
def oneH (K : PySem.W.Frag) (a : Addr) (o : Obj) (xs : List V) : Hp := fun b => if b = a ∧ K.lookup a = none then some (.frz o (.lst xs)) else none
theorem oneH_some {K : PySem.W.Frag} {a b : Addr} {o : Obj} {xs : List V} {u : HO} (h : oneH K a o xs b = some u) : b = a ∧ K.lookup a = none ∧ u = .frz o (.lst xs) := by
  unfold oneH at h
  by_cases c : b = a ∧ K.lookup a = none
  · rw [if_pos c] at h
    exact ⟨c.1, c.2, (Option.some.inj h).symm⟩
  · rw [if_neg c] at h
    cases h
theorem walk_ofG {l : PySem.W.OpenLaw} {n k : Nat} {q : Program} {loose : List Str} {XP : (Str → Option Value) → Heap → Prop} {YP : World → Heap → Prop} {d : DefRec} {K : Params → PySem.W.Frag} {sp : World → Sp} {x : Str}
    (hm : l.most = some n)
    (hm2 : n ≤ sizeLine) (hdef : d.params.defaults = [])
    (hr : Room k callerA)
    (hY : ∀ (w : World) (hp : Heap), YP w hp → (K w.params).In hp)
    (F : ∀ (w : World) (mg : Str → Option Value) (fa : Addr) (hp : Heap),
      (K w.params).In hp → hp.Ns mainGlobals mg → mg d.name = some (.ref fa) →
      ∃ fd : FuncData, (∀ (s : Shared) (u : Value), BindsTo s fd ⟨[u], []⟩ [(x, u)]) ∧ ∀ base : Heap, (K w.params).In base → base.Ns mainGlobals mg → FnG l.prog w (K w.params) mg base CX0 k fa fd [x] (sp w))
    (hsp : ∀ (w : World) (H : Hp) (a : Addr) (ns : List Int), ns.length ≤ n → SqL (K w.params) H a (ns.map V.int) → sp w [.ref a] H (fun v _ => v = .bl true) E0) :
    PySem.W.WalkO q loose XP YP l.row.toRowW d []
      (fun g us => PySem.call g us) := by
  refine Att.attach_call hm hdef fun w s₀ s₁ mg mb fa o pm cd doc a vs ns G Y ho hd hcd hmg hobj hints hlen hgen => ?_
  have inK := hY w _ Y
  obtain ⟨fd, hbind, hF⟩ := F w mg fa _ inK G.T.g hmg
  have rv := vals_ints hints
  have sz : ns.length ≤ sizeLine := Nat.le_trans hlen hm2
  generalize hH : oneH (K w.params) a { cls := .type "list", data := .seq vs.toArray } (ns.map V.int) = H
  have only : ∀ {b : Addr} {u : HO}, H b = some u → b = a ∧ (K w.params).lookup a = none ∧ u = .frz { cls := .type "list", data := .seq vs.toArray } (.lst (ns.map V.int)) := fun {b u} z => oneH_some (hH ▸ z)
  have hS : SqL (K w.params) H a (ns.map V.int) := by
    cases c : (K w.params).lookup a with
    | none =>
      refine Or.inl (Or.inr ⟨{ cls := .type "list", data := .seq vs.toArray }, ?_⟩)
      rw [← hH]
      exact if_pos ⟨rfl, c⟩
    | some ob =>
      have e := (inK a ob c).symm.trans hobj
      cases e
      exact Or.inr ⟨_, vs.toArray, _, c, rfl, rfl, rfl, (by rw [List.size_toArray, hints.length]; exact sz), by simpa using rv⟩
  have hok : HOk l.prog w H s₁.heap := fun b u z => by
    obtain ⟨rfl, _, rfl⟩ := only z
    exact ⟨hobj, by rw [List.length_map]; exact sz, vs, _, rv, hobj⟩
  have free : ∀ {b : Addr} {ob : Obj}, s₁.heap.get? b = some ob → (b ≠ a ∨ (K w.params).lookup a ≠ none) → (hidT s₁.heap H).get? b = some ob := fun {b ob} e ne => hidT_get e (by
    cases z : H b with
    | none => rfl
    | some u =>
      obtain ⟨e1, e2, _⟩ := only z
      exact ne.elim (fun y => absurd e1 y) fun y => absurd e2 y)
  have dictFree : ∀ {b : Addr} {m : Str → Option Value}, s₁.heap.Ns b m → (hidT s₁.heap H).Ns b m := fun {b m} ⟨ob, es, ep, e, dt, r⟩ => ⟨ob, es, ep, free e (.inl fun z => by
    subst z
    rw [hobj] at e
    cases e
    exact nomatch (show Data.seq vs.toArray _ = Data.dict es ep from dt)), dt, r⟩
  have kb : (K w.params).In (hidT s₁.heap H) := fun b ob e => free (inK b ob e) (by
    by_cases z : b = a
    · subst z
      exact .inr (by rw [e]; exact fun y => nomatch y)
    · exact .inl z)
  obtain ⟨mc, hm1, hm2⟩ := G.T.nolimit
  have env : Env0 l.prog w (K w.params) mg (hidT s₁.heap H) callerA [] s₁ H :=
    ⟨rfl, ⟨kb, dictFree G.T.g, ⟨mb, dictFree G.T.b, G.T.builtins⟩, ⟨mc, dictFree hm1, hm2⟩⟩, fun _ _ e => of_hidT e, Nat.le_of_eq (hidT_size _ _), trivial, fun b z => absurd (show b ∈ ([] : List Addr) from z) (by simp), hok, .of_eq hgen⟩
  refine codeAny_mono ((hF _ kb (dictFree G.T.g)).go callerA [] s₁ H ⟨[.ref a], []⟩ [.ref a] [.ref a] _ _ hr rfl env (hbind s₁ (.ref a)) (.cons rfl .nil) (hsp w H a ns hlen hS)) fun res s' z => ?_
  match res, z with
  | .error _, z => exact z.elim
  | .ok .next, z => exact z.elim
  | .ok .brk, z => exact z.elim
  | .ok .cont, z => exact z.elim
  | .ok (.ret u), ⟨v, H', os, bare, un, hok', rel, q⟩ =>
    have q2 : v = .bl true := q
    subst q2
    have eu : u = Value.bool true := rel
    subst eu
    refine ⟨rfl, OldK.of_keep fun b ob e => ?_, os, bare⟩
    cases c : H b with
    | none => exact un.keep b ob e c (fun z => nomatch (show b ∈ ([] : List Addr) from z)) (fun z => nomatch z)
    | some u =>
      obtain ⟨rfl, _, rfl⟩ := only c
      have e2 := (hok' b _ (un.frzs b _ _ c)).1
      rw [hobj] at e
      cases e
      exact e2
end Vf

namespace Vf
open PySem PySem.Spec PyProof.Rows L2

/-! ### defs with all that a call of them needs -/
structure Def (P : Program) (w : World) (K : PySem.W.Frag) (mg : Str → Option Value) (base : Heap) (k : Nat) (x : Str) (ps : List Str) (sp : Sp) where
  f : Addr
  fd : FuncData
  ok : FnOk P w K mg base CX0 k f fd ps sp
  kp : PySem.W.keepIn K (.ref f) = true
  b : Binds K fd ps []
  g : mg x = some (.ref f)
structure DefG (P : Program) (w : World) (K : PySem.W.Frag) (mg : Str → Option Value) (base : Heap) (k : Nat) (x : Str) (ps : List Str) (sp : Sp) where
  f : Addr
  fd : FuncData
  ok : FnG P w K mg base CX0 k f fd ps sp
  kp : PySem.W.keepIn K (.ref f) = true
  b : Binds K fd ps []
  g : mg x = some (.ref f)
section
variable {X : Cx} {k : Nat} {ps : List Str} {sp : Sp} {x : Str} {p pos : Pos} {e : Expr} {es : List Expr} {t : TA}
theorem pe_def (D : Def X.prog X.w X.K X.mg X.base k x ps sp) (hr : Room k X.A) (ha : PA X (e :: es) t) (hg : Gl X x := by rfl) (hdb : (x == ("__debug__" : Str)) = false := by decide)
    (he : starEach (e :: es) X.env = (false, eval e X.env) :: starEach es X.env := by rfl) (hpl : (backTo pos (starEach es X.env)).any (·.1) = false := by rfl) : PE X (.Call (.Name x p) (e :: es) [] pos) (tCall sp [] E0 t) :=
  pe_call D.ok hr hg D.g D.kp D.b .nil pass0 ha hdb he hpl
theorem pe_defG (D : DefG X.prog X.w X.K X.mg X.base k x ps sp) (hr : Room k X.A) (hgd : X.A.guards = some []) (ha : PA X (e :: es) t) (hg : Gl X x := by rfl) (hdb : (x == ("__debug__" : Str)) = false := by decide)
    (he : starEach (e :: es) X.env = (false, eval e X.env) :: starEach es X.env := by rfl) (hpl : (backTo pos (starEach es X.env)).any (·.1) = false := by rfl) : PE X (.Call (.Name x p) (e :: es) [] pos) (tCall sp [] E0 t) :=
  pe_callG D.ok hr hgd hg D.g D.kp D.b .nil pass0 ha hdb he hpl
end

/-! ### rules of our own -/
section
variable {X : Cx}
theorem op_powW : OpR X (binaryOp .Pow) (rI (fun i j => 0 ≤ j ∧ (Builtin.Int.intBits i : Int) * j ≤ 2 ^ 27) fun i j => .int (i ^ j.toNat)) := opI fun _ _ _ _ _ _ _ hc q => pow_int hc.1 hc.2 q
/-- list + list, also of lists that are only read -/
def rCatS (K : PySem.W.Frag) : R2 := fun x y H Q => ∃ l b xs zs, x = .ref l ∧ y = .ref b ∧ SqL K H l xs ∧ SqL K H b zs ∧ xs.length + zs.length ≤ sizeLine ∧ ∀ p, H p = none → Q (.ref p) (upd H p (.lst (xs ++ zs)))
theorem op_catS : OpR X (binaryOp .Add) (rCatS X.K) := by
  intro pins s σ H x y v u Q I rx ry h
  obtain ⟨l, b, xs, zs, rfl, rfl, h1, h2, hz, q⟩ := h
  cases rx
  cases ry
  obtain ⟨its, r1, ⟨⟨c1, d1, t1, s1⟩, n1, e1, rfl, rfl, rfl⟩, _⟩ := I.list h1
  obtain ⟨its2, r2, ⟨⟨c2, d2, t2, s2⟩, n2, e2, rfl, rfl, rfl⟩, _⟩ := I.list h2
  have hsz : its.toArray.size + its2.toArray.size ≤ sizeLine := by rw [List.size_toArray, List.size_toArray, ← r1.length, ← r2.length]; exact hz
  refine concat_meets ⟨_, e1, rfl⟩ ⟨_, e2, rfl⟩ noFill_list_add seq_list_add PySem.F.slot_list_add PySem.F.entry_list_add (PySem.F.args_list_add_2 _ _) (list_addW l b its.toArray its2.toArray n1 n2 none none s1 s2 hsz) ⟨e1, e2, ?_⟩
  have ea : its.toArray ++ its2.toArray = (its ++ its2).toArray := by simp
  rw [ea]
  exact ⟨.ref _, _, I.lnew (t' := s.toks) (r1.append r2) (by rw [List.length_append]; omega), rfl, q _ I.fresh⟩
/-- repr of data, where none is under way -/
theorem call_reprD {k : Nat} (hgd : X.A.guards = some []) (hr : Room k X.A) : CallR X (.builtin "repr") (fun xs H Q => ∃ (a : Addr) (d : PyData), xs = [.ref a] ∧ Dp X.K H (.ref a) d ∧ d.showable = true ∧ d.hasDict = false ∧ d.depth ≤ 60 ∧ d.shown.length ≤ sizeLine ∧ Q (.str d.shown) H) := by
  intro pins s σ H xs us Q I r h
  obtain ⟨a, d, rfl, hd, hs, hn, hdep, hz, q⟩ := h
  obtain ⟨u, rfl, ru⟩ := vals1 r
  obtain ⟨as, rd⟩ := Dp.reads I d _ _ hd ru
  cases ru
  refine repr_of_reads' rd hs (fun z => by rw [hn] at z; cases z) hgd (by have := hr.units; omega) (fun _ _ e => e) (fun h' u tk hk => ?_) hz
  exact ⟨.str _, H, I.kept (t' := tk) hk, ⟨_, rfl⟩, q⟩
end

/-! ### types that differ -/
section
variable {prog : Program} {w : World} {A : Around} {E : Value → Shared → Prop} {s : Shared}
theorem slot_type_ne : Slot "type" (cmpInfo .NotEq).2.1 "object.__ne__" :=
  .of (owner := "object") (n := "__ne__") (by rw [typeLookup_type, builtinLookup_eq_fast]; kernel_rfl) (by decide +kernel) (by decide +kernel) (by decide +kernel) (by first | exact .inl (by decide +kernel) | exact .inr (by decide +kernel)) (by rw [isSubtype_type]; kernel_rfl)
theorem objNe_types {a b : Value} {r : Value} {Q : Fin → Shared → Prop} (ha : s.TypeIs a "type") (hv : [a, b].any Value.onHeap = false) (g : Gives (Builtin.«object.__eq__» ⟨[a, b], []⟩) (.val r))
    (hq : (r = .notImplemented ∧ Q (.done (.ret .notImplemented)) s) ∨ ∃ c : Bool, r = .bool c ∧ Q (.done (.ret (.bool (!c)))) s) :
    wpAny (model prog w) A (Builtin.«object.__ne__» ⟨[a, b], []⟩) Q E s := by
  unfold Builtin.«object.__ne__»
  refine wpAny_bind (wpAny_of_eq (a := (a, [b])) (by first | rfl | kernel_rfl) ?_)
  refine wpAny_bind (wpAny_cRoomFor_or (.inl hv) ?_)
  refine wpAny_bind (wpAny_callSpecialIfBound?_slot ha TypeEq.slot_type_eq (PySem.call_gives TypeEq.slot_type_eq ha F.entry_object_eq (F.args_object_eq_2 _ _) g ?_))
  rcases hq with ⟨rfl, hq⟩ | ⟨c, rfl, hq⟩
  · exact wpAny_pure hq
  · refine wpAny_bind (wpAny_truthy_bool ?_)
    exact wpAny_pure hq
theorem ne_type_same {T : String} {Q : Value → Shared → Prop} (hT : ∀ s' : Shared, s'.TypeIs (.type T) "type") (h : Q (.bool false) s) : wpAny (model prog w) A (compareOp .NotEq (.type T) (.type T)) Q E s := by
  show wpAny _ A (richCompare .NotEq _ _) Q E s
  refine wpAny_richCompare_same (T := "type") (hT s) (hT s) slot_type_ne (wpAny_call_entry slot_type_ne (hT s) F.entry_object_ne ?_ (F.args_object_ne_2 _ _))
  exact objNe_types (hT s) rfl (TypeEq.object_eq_same rfl (by simp)) (.inr ⟨true, rfl, .bool false, rfl, (by intro e; cases e), h⟩)
theorem ne_type_other {T U : String} {Q : Value → Shared → Prop} (hT : ∀ s' : Shared, s'.TypeIs (.type T) "type") (hU : ∀ s' : Shared, s'.TypeIs (.type U) "type") (ne : T ≠ U) (h : Q (.bool true) s) :
    wpAny (model prog w) A (compareOp .NotEq (.type T) (.type U)) Q E s := by
  have n1 : (Value.type T == Value.type U) = false := by rw [Bool.eq_false_iff]; intro e; rw [beq_iff_eq] at e; exact ne (Value.type.inj e)
  have n2 : (Value.type U == Value.type T) = false := by rw [Bool.eq_false_iff]; intro e; rw [beq_iff_eq] at e; exact ne (Value.type.inj e).symm
  show wpAny _ A (richCompare .NotEq _ _) Q E s
  have step : ∀ {a b : Value} {s : Shared} {Q' : Value → Shared → Prop}, s.TypeIs a "type" → [a, b].any Value.onHeap = false → Gives (Builtin.«object.__eq__» ⟨[a, b], []⟩) (.val .notImplemented) → Q' .notImplemented s → wpAny (model prog w) A (call (.builtin "object.__ne__") [a, b]) Q' E s :=
    fun {a b s Q'} ha hv g q => wpAny_call_entry slot_type_ne ha F.entry_object_ne (objNe_types ha hv g (.inl ⟨rfl, _, rfl, q⟩)) (F.args_object_ne_2 _ _)
  have h1 := slot_type_ne
  have h2 : Slot "type" (cmpInfo .NotEq).2.2 "object.__ne__" := slot_type_ne
  rcases hc : cmpInfo CmpOp.NotEq with ⟨sg, fw, bw⟩
  rw [hc] at h1 h2
  simp only [richCompare, hc, (hT s).oneThing_none]
  try (with_reducible refine wpAny_holding ?_)
  refine wpAny_bind (wpAny_cRoomFor_or (.inl rfl) ?_)
  refine wpAny_bind (wpAny_typeOf (hT s) (wpAny_bind (wpAny_typeOf (hU s) ?_)))
  simp only [if_true, if_false, Bool.not_false, bne_self_eq_false, Bool.false_eq_true, pure_bind]
  refine wpAny_bind (m := tryCompare (.type T) _ (.type U)) (wpAny_tryCompare_declines (hT s) h1 (step (hT s) rfl (TypeEq.object_eq_other rfl n1) ⟨rfl, ?_⟩))
  refine wpAny_bind (m := tryCompare (.type U) _ (.type T)) (wpAny_tryCompare_declines (hU s) h2 (step (hU s) rfl (TypeEq.object_eq_other rfl n2) ⟨rfl, ?_⟩))
  refine wpAny_bind (wpAny_rule (wpAny_bind (wpAny_of_eq (a := false) (by rw [isSame_plain rfl, n1]) (wpAny_pure h))))
end
/-- the built-in classes that type(x) of data gives -/
inductive TyN : String → Prop
  | non : TyN "NoneType" | bl : TyN "bool" | int : TyN "int" | str : TyN "str" | lst : TyN "list" | tup : TyN "tuple" | dct : TyN "dict"
theorem TyN.is {T : String} (h : TyN T) : ∀ s' : Shared, s'.TypeIs (.type T) "type" := by
  cases h
  · exact TypeEq.meta_NoneType
  · exact TypeEq.meta_bool
  · exact TypeEq.meta_int
  · exact TypeEq.meta_str
  · exact TypeEq.meta_list
  · exact TypeEq.meta_tuple
  · exact TypeEq.meta_dict
theorem op_neTy {X : Cx} : OpR X (compareOp .NotEq) (fun x y H Q => ∃ m n, x = .ty m ∧ y = .ty n ∧ TyN m ∧ TyN n ∧ Q (.bl (!decide (m = n))) H) := by
  intro pins s σ H x y v u Q I rx ry h
  obtain ⟨m, n, rfl, rfl, hm, hn, q⟩ := h
  cases rx
  cases ry
  by_cases e : m = n
  · subst e
    exact ne_type_same hm.is ⟨.bl false, H, I, rfl, by simpa using q⟩
  · exact ne_type_other hm.is hn.is e ⟨.bl true, H, I, rfl, by simpa [e] using q⟩
end Vf
namespace Vf
open PySem PySem.Spec PyProof.Rows L2
section
variable {X : Cx} {K : PySem.W.Frag}
theorem ixL (h : X.K = K := by rfl) : IxR X (rIxL K) := h ▸ ix_list
theorem ixT (h : X.K = K := by rfl) : IxR X (rIxT K) := h ▸ ix_tup
def rLen (K : PySem.W.Frag) : List V → Hp → VK → Prop := fun xs H Q => ∃ p ys, xs = [.ref p] ∧ (SqL K H p ys ∨ SqT K H p ys) ∧ Q (.int ys.length) H
theorem lenK (h : X.K = K := by rfl) : CallR X (.builtin "len") (rLen K) := by subst h; exact call_len_seq
def rListOf (K : PySem.W.Frag) : List V → Hp → VK → Prop := fun xs H Q => ∃ p ys, xs = [.ref p] ∧ (SqL K H p ys ∨ SqT K H p ys) ∧ ∀ l, H l = none → Q (.ref l) (upd H l (.lst ys))
theorem listK (h : X.K = K := by rfl) : CallR X (.type "list") (rListOf K) := by subst h; exact call_list_of
theorem sortedK (h : X.K = K := by rfl) : CallR X (.builtin "sorted") (rSortedPO K) := by subst h; exact cr_sortedPO
theorem isiK (h : X.K = K := by rfl) : CallR X (.builtin "isinstance") (rIsi K) := by subst h; exact call_isi
theorem allK (hc : X.calm = true) (h : X.K = K := by rfl) : CallR X (.builtin "all") (rAll K) := by subst h; exact cr_all hc
theorem anyK (hc : X.calm = true) (h : X.K = K := by rfl) : CallR X (.builtin "any") (rAny K) := by subst h; exact cr_any hc
theorem sumK (hc : X.calm = true) (h : X.K = K := by rfl) : CallR X (.builtin "sum") (rSum K) := by subst h; exact cr_sum hc
theorem minK (hc : X.calm = true) (h : X.K = K := by rfl) : CallR X (.builtin "min") (rMin K) := by subst h; exact cr_min hc
theorem maxK (hc : X.calm = true) (h : X.K = K := by rfl) : CallR X (.builtin "max") (rMax K) := by subst h; exact cr_max hc
theorem eqD (hu : X.A.units + 64 < cLine) (h : X.K = K := by rfl) : OpR X (compareOp .Eq) (rEqD K) := by subst h; exact op_eqD hu
theorem neD (hu : X.A.units + 64 < cLine) (h : X.K = K := by rfl) : OpR X (compareOp .NotEq) (rNeD K) := by subst h; exact op_neD hu
theorem catK (h : X.K = K := by rfl) : OpR X (binaryOp .Add) (rCatS K) := by subst h; exact op_catS
theorem leTK (hu : X.A.units < cLine) (h : X.K = K := by rfl) : OpR X (compareOp .LtE) (rLeT K) := by subst h; exact op_leT hu
theorem ltTK (hu : X.A.units < cLine) (h : X.K = K := by rfl) : OpR X (compareOp .Lt) (rLtT K) := by subst h; exact op_ltT hu
theorem inSeqK (h : X.K = K := by rfl) : OpR X (compareOp .In) (rIn K false) := by subst h; exact op_in_seq
theorem notInSeqK (h : X.K = K := by rfl) : OpR X (compareOp .NotIn) (rIn K true) := by subst h; exact op_notIn_seq
def rRepr (K : PySem.W.Frag) : List V → Hp → VK → Prop := fun xs H Q => ∃ (a : Addr) (d : PyData), xs = [.ref a] ∧ Dp K H (.ref a) d ∧ d.showable = true ∧ d.hasDict = false ∧ d.depth ≤ 60 ∧ d.shown.length ≤ sizeLine ∧ Q (.str d.shown) H
theorem reprK {k : Nat} (hgd : X.A.guards = some []) (hr : Room k X.A) (h : X.K = K := by rfl) : CallR X (.builtin "repr") (rRepr K) := by subst h; exact call_reprD hgd hr
end
end Vf

namespace Vf
open PySem PySem.Spec PyProof.Rows L2
section
variable {K : PySem.W.Frag} {σ : L2.St} {H : Hp} {Q : VK} {D : Ends} {nx bk ct : L2.St → Hp → Prop} {rt : VK} {t u : TS} {te ta tb tc : TE} {g : TG} {tt t1 t2 : TT} {B : Bool → Hp → Prop} {ts tr : TA} {R : List V → Hp → Prop} {x y v : V} {i j : Int} {S : L2.St → Hp → Prop}
/-! statements -/
theorem r_seq (h : t ⟨fun σ H => u ⟨nx, rt, bk, ct⟩ σ H, rt, bk, ct⟩ σ H) : tSeq t u ⟨nx, rt, bk, ct⟩ σ H := h
theorem r_next (h : nx σ H) : tNext ⟨nx, rt, bk, ct⟩ σ H := h
theorem r_break (h : bk σ H) : tBreak ⟨nx, rt, bk, ct⟩ σ H := h
theorem r_cont (h : ct σ H) : tCont ⟨nx, rt, bk, ct⟩ σ H := h
theorem r_asg (h : te σ H fun x H1 => g x σ H1 nx) : tAsg te g ⟨nx, rt, bk, ct⟩ σ H := h
theorem r_drop (h : te σ H fun _ H1 => nx σ H1) : tDrop te ⟨nx, rt, bk, ct⟩ σ H := h
theorem r_ret (h : te σ H rt) : tRet te ⟨nx, rt, bk, ct⟩ σ H := h
theorem r_retN (h : rt .non H) : tRetN ⟨nx, rt, bk, ct⟩ σ H := h
theorem r_ifS {b : Bool → Hp → Prop} (h : tt σ H fun b H1 => if b = true then t ⟨nx, rt, bk, ct⟩ σ H1 else u ⟨nx, rt, bk, ct⟩ σ H1) : tIfS tt t u ⟨nx, rt, bk, ct⟩ σ H := h
theorem r_par {a b : Nat} (h : ts σ H fun vs H1 => ∃ v w, vs = [v, w] ∧ nx ((σ.set a (some v)).set b (some w)) H1) : tPar a b ts ⟨nx, rt, bk, ct⟩ σ H := h
theorem r_dput {td ty tv : TE} (h : tv σ H fun v H1 => td σ H1 fun x H2 => ty σ H2 fun y H3 => ∃ a H4, x = .ref a ∧ DPut H3 a y v H4 ∧ nx σ H4) : sDPut td ty tv ⟨nx, rt, bk, ct⟩ σ H := h
/-! targets -/
theorem r_gname {a : Nat} (h : S (σ.set a (some v)) H) : gName a v σ H S := h
theorem r_gnil (h : S σ H) : gNil [] σ H S := ⟨rfl, h⟩
theorem r_gcons {vs : List V} {gs : TGs} (h : g v σ H fun σ' H' => gs vs σ' H' S) : gCons g gs (v :: vs) σ H S := ⟨v, vs, rfl, h⟩
theorem r_gtup {n : Nat} {a : Addr} {xs : List V} {gs : TGs} (hs : SqT K H a xs) (hl : xs.length = n) (h : gs xs σ H S) : gTup K n gs (.ref a) σ H S := ⟨a, xs, rfl, hs, hl, h⟩
theorem r_gsub {to ti : TE} {st : TSet} (h : to σ H fun o H1 => ti σ H1 fun i H2 => st o i v H2 fun H3 => S σ H3) : gSub to ti st v σ H S := h
theorem r_setL {p : Addr} {xs : List V} {k : Int} {n : Nat} {f : Hp → Prop} (hp : H p = some (.lst xs)) (hi : ixN xs.length k = some n) (h : f (upd H p (.lst (xs.set n v)))) : rSetL (.ref p) (.int k) v H f := ⟨p, xs, k, n, rfl, rfl, hp, hi, h⟩
/-! expressions -/
theorem r_var {a : Nat} (h : ∃ v, σ[a]? = some (some v) ∧ Q v H) : tVar a σ H Q := h
theorem r_c (h : Q v H) : tC v σ H Q := h
theorem r_op {r : R2} (h : ta σ H fun x H1 => tb σ H1 fun y H2 => r x y H2 Q) : tOp r ta tb σ H Q := h
theorem r_I0 {f : Int → Int → V} (h : Q (f i j) H) : rI0 f (.int i) (.int j) H Q := ⟨i, j, rfl, rfl, h⟩
theorem r_I {f : Int → Int → V} {C : Int → Int → Prop} (hc : C i j) (h : Q (f i j) H) : rI C f (.int i) (.int j) H Q := ⟨i, j, rfl, rfl, hc, h⟩
theorem r_U {f : Int → V} (h : Q (f i) H) : rU f (.int i) H Q := ⟨i, rfl, h⟩
theorem r_un {r : V → Hp → VK → Prop} (h : ta σ H fun x H1 => r x H1 Q) : tUn r ta σ H Q := h
theorem r_eqI (h : Q (.bl (decide (i = j))) H) : rEq (.int i) (.int j) H Q := ⟨rfl, by rw [show decide (V.int i = V.int j) = decide (i = j) by rw [Bool.eq_iff_iff]; simp]; exact h⟩
theorem r_neI (h : Q (.bl (!decide (i = j))) H) : rNe (.int i) (.int j) H Q := ⟨rfl, by rw [show decide (V.int i = V.int j) = decide (i = j) by rw [Bool.eq_iff_iff]; simp]; exact h⟩
theorem r_eqS {a b : Str} (h : Q (.bl (decide (a = b))) H) : rEq (.str a) (.str b) H Q := ⟨rfl, by rw [show decide (V.str a = V.str b) = decide (a = b) by rw [Bool.eq_iff_iff]; simp]; exact h⟩
theorem r_neS {a b : Str} (h : Q (.bl (!decide (a = b))) H) : rNe (.str a) (.str b) H Q := ⟨rfl, by rw [show decide (V.str a = V.str b) = decide (a = b) by rw [Bool.eq_iff_iff]; simp]; exact h⟩
theorem r_cb {r : List V → Hp → VK → Prop} (h : ts σ H fun vs H1 => r vs H1 Q) : tCB r ts σ H Q := h
theorem r_cons (h : ta σ H fun x H1 => tr σ H1 fun xs H2 => R (x :: xs) H2) : tCons ta tr σ H R := h
theorem r_nil (h : R [] H) : tNil σ H R := h
theorem r_lst (h : ts σ H fun xs H1 => xs.length ≤ sizeLine ∧ ∀ p, H1 p = none → Q (.ref p) (upd H1 p (.lst xs))) : tLst ts σ H Q := h
theorem r_tup (h : ts σ H fun xs H1 => xs.length ≤ sizeLine ∧ ∀ p, H1 p = none → Q (.ref p) (upd H1 p (.tup xs))) : tTup ts σ H Q := h
theorem r_call {sp : Sp} {dvs : List V} {E : XK} (h : ts σ H fun vs H1 => sp (vs ++ dvs) H1 Q E) : tCall sp dvs E ts σ H Q := h
theorem r_ixL {p : Addr} {xs : List V} (hs : SqL K H p xs) (ha : atI xs i = some v) (h : Q v H) : rIxL K (.ref p) (.int i) H Q := ⟨p, xs, i, v, rfl, rfl, hs, ha, h⟩
theorem r_ixT {p : Addr} {xs : List V} (hs : SqT K H p xs) (ha : atI xs i = some v) (h : Q v H) : rIxT K (.ref p) (.int i) H Q := ⟨p, xs, i, v, rfl, rfl, hs, ha, h⟩
theorem r_test (h : te σ H fun x H' => ∃ k, x = .bl k ∧ B k H') : tTest te σ H B := h
theorem r_b (h : te σ H fun x H' => ∃ k, x = .bl k ∧ B k H') : tB te σ H B := h
theorem r_and (h : t1 σ H fun c H1 => if c = true then t2 σ H1 B else B false H1) : tAnd t1 t2 σ H B := h
theorem r_or (h : t1 σ H fun c H1 => if c = true then B true H1 else t2 σ H1 B) : tOr t1 t2 σ H B := h
theorem r_not (h : t1 σ H fun c H1 => B (!c) H1) : tNot t1 σ H B := h
theorem r_andV (h : ta σ H fun x H1 => ∃ c, x = .bl c ∧ if c = true then tb σ H1 Q else Q (.bl false) H1) : tAndV ta tb σ H Q := h
theorem r_orV (h : ta σ H fun x H1 => ∃ c, x = .bl c ∧ if c = true then Q (.bl true) H1 else tb σ H1 Q) : tOrV ta tb σ H Q := h
theorem r_notV (h : ta σ H fun x H1 => ∃ c, x = .bl c ∧ Q (.bl (!c)) H1) : tNotV ta σ H Q := h
theorem r_if (h : tt σ H fun c H1 => if c = true then ta σ H1 Q else tb σ H1 Q) : tIf tt ta tb σ H Q := h
theorem r_bl {b : Bool} (h : B b H) : ∃ k, V.bl b = .bl k ∧ B k H := ⟨b, rfl, h⟩
theorem r_blV {b : Bool} {A : Bool → Prop} (h : A b) : ∃ k, V.bl b = .bl k ∧ A k := ⟨b, rfl, h⟩
theorem r_chain {r r' : R2} (h : ta σ H fun x H1 => tb σ H1 fun y H2 => r x y H2 fun z H3 => ∃ k, z = .bl k ∧ if k = true then tc σ H3 fun w H4 => r' y w H4 Q else Q (.bl false) H3) : tChain r r' ta tb tc σ H Q := h
theorem r_sl {r : V → Option Int → Option Int → Hp → VK → Prop} {tl th : TO} (h : te σ H fun x H1 => tl σ H1 fun l H2 => th σ H2 fun u H3 => r x l u H3 Q) : tSl r te tl th σ H Q := h
theorem r_noPart {O : Option Int → Hp → Prop} (h : O none H) : tNoPart σ H O := h
theorem r_part {O : Option Int → Hp → Prop} (h : te σ H fun x H1 => ∃ i, x = .int i ∧ O (some i) H1) : tPart te σ H O := h
theorem r_bm {T : String} {r : V → List V → Hp → VK → Prop} (h : te σ H fun x H1 => tyV K T x H1 ∧ ts σ H1 fun xs H2 => r x xs H2 Q) : tBM K T r te ts σ H Q := h
theorem r_bm0 {T : String} {r : V → List V → Hp → VK → Prop} (h : te σ H fun x H1 => tyV K T x H1 ∧ r x [] H1 Q) : tBM0 K T r te σ H Q := h
theorem r_dget {td ty : TE} (h : td σ H fun x H1 => ty σ H1 fun y H2 => ∃ a v, x = .ref a ∧ DGet H2 a y (some v) ∧ Q v H2) : tDGet td ty σ H Q := h
theorem r_din {td ty : TE} (h : ty σ H fun y H1 => td σ H1 fun x H2 => ∃ a o, x = .ref a ∧ DGet H2 a y o ∧ Q (.bl o.isSome) H2) : tDIn ty td σ H Q := h
theorem r_dnotin {td ty : TE} (h : ty σ H fun y H1 => td σ H1 fun x H2 => ∃ a o, x = .ref a ∧ DGet H2 a y o ∧ Q (.bl (!o.isSome)) H2) : tDNotIn ty td σ H Q := h
theorem r_dget1 {td ty : TE} (h : td σ H fun x H1 => ∃ a, x = .ref a ∧ IsD H1 a ∧ ty σ H1 fun y H2 => ∃ o, DGet H2 a y o ∧ Q (o.getD .non) H2) : tDGet1 td ty σ H Q := h
theorem r_dget2 {td ty tx : TE} (h : td σ H fun x H1 => ∃ a, x = .ref a ∧ IsD H1 a ∧ ty σ H1 fun y H2 => tx σ H2 fun z H3 => ∃ o, DGet H3 a y o ∧ Q (o.getD z) H3) : tDGet2 td ty tx σ H Q := h
theorem r_dnew (h : ∀ p, H p = none → Q (.ref p) (upd H p (.dK []))) : tDNewK σ H Q := h
theorem r_rng1 {A : It → Hp → Prop} (h : ts σ H fun vs H1 => ∃ j : Int, vs = [.int j] ∧ -(2 ^ 62) ≤ j ∧ j < 2 ^ 62 ∧ A (Itr 0 j.toNat) H1) : iRng1 ts σ H A := h
theorem r_rng2 {A : It → Hp → Prop} (h : ts σ H fun vs H1 => ∃ i j : Int, vs = [.int i, .int j] ∧ (-(2 ^ 62) ≤ i ∧ i < 2 ^ 62 ∧ -(2 ^ 62) ≤ j ∧ j < 2 ^ 62) ∧ A (Itr i (j - i).toNat) H1) : iRng2 ts σ H A := h
theorem r_ilist {A : It → Hp → Prop} {tl : TE} (h : tl σ H fun x H1 => ∃ a, x = .ref a ∧ (∃ xs, SqL K H1 a xs) ∧ A (Itl K a) H1) : iList K tl σ H A := h
theorem r_yes (h : B true H) : tYes σ H B := h
theorem ifT {c A B : Prop} [Decidable c] (hc : c) (h : A) : if c then A else B := by rw [if_pos hc]; exact h
theorem ifF {c A B : Prop} [Decidable c] (hc : ¬ c) (h : B) : if c then A else B := by rw [if_neg hc]; exact h
theorem ifD {c A B : Prop} [Decidable c] (hc : c) (h : A) : if decide c = true then A else B := by rw [if_pos (decide_eq_true hc)]; exact h
theorem ifDn {c A B : Prop} [Decidable c] (hc : ¬ c) (h : B) : if decide c = true then A else B := by rw [if_neg (by simpa using hc)]; exact h
theorem ifNT {A B : Prop} (h : B) : if (!true) = true then A else B := by show if false = true then A else B; rw [if_neg Bool.false_ne_true]; exact h
theorem ifNF {A B : Prop} (h : A) : if (!false) = true then A else B := by show if true = true then A else B; rw [if_pos rfl]; exact h
theorem ifN {c A B : Prop} [Decidable c] (hc : ¬ c) (h : A) : if (!decide c) = true then A else B := by rw [if_pos (by simpa using hc)]; exact h
theorem ifNn {c A B : Prop} [Decidable c] (hc : c) (h : B) : if (!decide c) = true then A else B := by rw [if_neg (by simpa using hc)]; exact h
end
end Vf

namespace Vf
open PySem PySem.Spec PyProof.Rows L2

/-! ### loops over data -/
theorem pair_get {α β : Type} {F : α → β → Prop} : ∀ {xs : List α} {L : List β}, Paired F xs L → ∀ {i : Nat} {x : α}, xs[i]? = some x → ∃ p, L[i]? = some p ∧ F x p
  | _, _, .nil, i, x, h => by simp at h
  | _, _, .cons r t, 0, x, h => by
    have e := Option.some.inj h
    exact ⟨_, rfl, e ▸ r⟩
  | _, _, .cons r t, i + 1, x, h => by
    obtain ⟨p, h1, h2⟩ := pair_get t (i := i) (x := x) (by simpa using h)
    exact ⟨p, by simpa using h1, h2⟩
theorem pair_get2 {α β : Type} {F : α → β → Prop} : ∀ {xs : List α} {L : List β}, Paired F xs L → ∀ {i : Nat} {p : β}, L[i]? = some p → ∃ x, xs[i]? = some x ∧ F x p
  | _, _, .nil, i, x, h => by simp at h
  | _, _, .cons r t, 0, x, h => by
    have e := Option.some.inj h
    exact ⟨_, rfl, e ▸ r⟩
  | _, _, .cons r t, i + 1, x, h => by
    obtain ⟨p, h1, h2⟩ := pair_get2 t (i := i) (p := x) (by simpa using h)
    exact ⟨p, by simpa using h1, h2⟩
theorem pair_len {α β : Type} {F : α → β → Prop} : ∀ {xs : List α} {L : List β}, Paired F xs L → xs.length = L.length
  | _, _, .nil => rfl
  | _, _, .cons _ t => congrArg (· + 1) (pair_len t)
theorem pair_mono {α β : Type} {F G : α → β → Prop} : ∀ {xs : List α} {L : List β}, Paired F xs L → (∀ x p, F x p → G x p) → Paired G xs L
  | _, _, .nil, _ => .nil
  | _, _, .cons r t, h => .cons (h _ _ r) (pair_mono t h)
theorem pair_app {α β : Type} {F : α → β → Prop} : ∀ {xs : List α} {L : List β} {ys : List α} {M : List β}, Paired F xs L → Paired F ys M → Paired F (xs ++ ys) (L ++ M)
  | _, _, _, _, .nil, h => h
  | _, _, _, _, .cons r t, h => .cons r (pair_app t h)
theorem pair_map {α β : Type} {F : α → β → Prop} {f : β → α} : ∀ {L : List β}, (∀ p ∈ L, F (f p) p) → Paired F (L.map f) L
  | [], _ => .nil
  | p :: L, h => .cons (h p List.mem_cons_self) (pair_map fun q hq => h q (List.mem_cons_of_mem _ hq))
/-- what a for walks, as data -/
structure Seq {α : Type} (J : It) (G : Hp → Prop) (rel : V → α → Prop) (L : List α) : Prop where
  goes : ∀ i H, i < L.length → G H → J.go i H
  stops : ∀ H, G H → J.stop L.length H
  yields : ∀ i H x H', i < L.length → G H → J.yld i H x H' → H' = H ∧ ∃ p, L[i]? = some p ∧ rel x p
theorem seq_list {α : Type} {K : PySem.W.Frag} {a : Addr} {xs : List V} {rel : V → α → Prop} {L : List α} (hp : Paired rel xs L) : Seq (Itl K a) (fun H => SqL K H a xs) rel L := by
  have hl := pair_len hp
  refine ⟨fun i H hi q => ⟨xs, xs[i], q, by simp [hl, hi]⟩, fun H q => ⟨xs, q, by omega⟩, fun i H x H' hi q y => ?_⟩
  obtain ⟨e, y⟩ := y
  exact ⟨e, pair_get hp (y xs q)⟩
theorem seq_tup {α : Type} {K : PySem.W.Frag} {a : Addr} {xs : List V} {rel : V → α → Prop} {L : List α} (hp : Paired rel xs L) : Seq (Itt K a) (fun H => SqT K H a xs) rel L := by
  have hl := pair_len hp
  refine ⟨fun i H hi q => ⟨xs, xs[i], q, by simp [hl, hi]⟩, fun H q => ⟨xs, q, by omega⟩, fun i H x H' hi q y => ?_⟩
  obtain ⟨e, y⟩ := y
  exact ⟨e, pair_get hp (y xs q)⟩
/-- lo, lo + 1, .. -/
def rng (lo : Int) (n : Nat) : List Int := (List.range n).map fun (i : Nat) => lo + (i : Int)
theorem rng_len (lo : Int) (n : Nat) : (rng lo n).length = n := by unfold rng; rw [List.length_map, List.length_range]
theorem seq_range {lo : Int} {n : Nat} : Seq (Itr lo n) (fun _ => True) (fun v i => v = .int i) (rng lo n) := by
  refine ⟨fun i H hi _ => by rw [rng_len] at hi; exact hi, fun H _ => Nat.le_of_eq (rng_len lo n).symm, fun i H x H' hi _ y => ?_⟩
  obtain ⟨e, y⟩ := y
  rw [rng_len] at hi
  exact ⟨e, lo + i, by unfold rng; rw [List.getElem?_map, List.getElem?_range hi]; rfl, y⟩
theorem split_at {α : Type} {L : List α} {i : Nat} {p : α} (h : L[i]? = some p) : L = L.take i ++ p :: L.drop (i + 1) ∧ L.take (i + 1) = L.take i ++ [p] := by
  obtain ⟨hi, e⟩ := List.getElem?_eq_some_iff.mp h
  refine ⟨?_, ?_⟩
  · rw [← e, List.getElem_cons_drop hi, List.take_append_drop]
  · rw [List.take_add_one, h]; rfl

def ForW (J : It) (g : TG) (tb : TS) (D : Ends) (σ : L2.St) (H : Hp) : Prop := ∃ W : Nat → Nat → L2.St → Hp → Prop, (∃ m, W 0 m σ H) ∧ ∀ i m σ H, W i m σ H →
  (J.stop i H ∧ D.nx σ H) ∨ (J.go i H ∧ ∃ N : L2.St → Hp → Prop, (∀ σ' H', N σ' H' → ∃ m', m' < m ∧ W (i + 1) m' σ' H') ∧ ∀ x H', J.yld i H x H' → g x σ H' fun σ2 H2 => tb { D with nx := N, ct := N, bk := D.nx } σ2 H2)
theorem r_for {wi : TI} {g : TG} {tb : TS} {D : Ends} {σ : L2.St} {H : Hp} (h : wi σ H fun J H1 => ForW J g tb D σ H1) : tFor wi g tb D σ H := h
theorem r_forS {α : Type} {J : It} {G : Hp → Prop} {rel : V → α → Prop} {L : List α} {g : TG} {tb : TS} {nx bk ct : L2.St → Hp → Prop} {rt : VK} {σ : L2.St} {H : Hp} (S : Seq J G rel L) (Pv : List α → L2.St → Hp → Prop) (h0 : Pv [] σ H)
    (hk : ∀ d σ H, Pv d σ H → G H) (hs : ∀ d p r v σ H, L = d ++ p :: r → rel v p → Pv d σ H → g v σ H fun σ2 H2 => tb ⟨Pv (d ++ [p]), rt, nx, Pv (d ++ [p])⟩ σ2 H2) (hd : ∀ σ H, Pv L σ H → nx σ H) : ForW J g tb ⟨nx, rt, bk, ct⟩ σ H := by
  refine ⟨fun i m σ H => m = L.length - i ∧ i ≤ L.length ∧ Pv (L.take i) σ H, ⟨L.length, by simp, Nat.zero_le _, h0⟩, ?_⟩
  rintro i m σ H ⟨rfl, hi, p0⟩
  have q := hk _ σ H p0
  by_cases hlt : i < L.length
  · refine .inr ⟨S.goes i H hlt q, Pv (L.take (i + 1)), fun σ' H' p' => ⟨L.length - (i + 1), by omega, rfl, hlt, p'⟩, fun x H' y => ?_⟩
    obtain ⟨e, p, hp, r⟩ := S.yields i H x H' hlt q y
    subst e
    obtain ⟨e1, e2⟩ := split_at hp
    rw [e2]
    exact hs _ p _ x σ _ e1 r p0
  · have e : i = L.length := by omega
    subst e
    rw [List.take_length] at p0
    exact .inl ⟨S.stops H q, hd σ H p0⟩

def LcW (J : It) (g : TG) (tt : TT) (te : TE) (own : List Nat) (D : Addr) (σ : L2.St) (H1 : Hp) (Qd : Hp → Prop) : Prop :=
  ∃ V : Nat → Nat → Hp → Prop, (∃ m, V 0 m (upd H1 D (.lst []))) ∧ ∀ k m G, V k m G →
    (J.stop k G ∧ Qd G) ∨ (J.go k G ∧ ∃ T : Hp → Prop, (∀ G', T G' → ∃ m', m' < m ∧ V (k + 1) m' G') ∧ ∀ x G', J.yld k G x G' →
      g x (wipe σ own) G' fun τ G2 => wipe τ own = wipe σ own ∧ tt τ G2 fun c G3 =>
        if c = true then te τ G3 fun y G4 => ∃ got, G4 D = some (.lst got) ∧ got.length < sizeLine ∧ T (upd G4 D (.lst (got ++ [y])))
        else T G3)
theorem r_lc {wi : TI} {g : TG} {tt : TT} {te : TE} {vs : List Nat} {σ : L2.St} {H : Hp} {Q : VK} (h : wi σ H fun J H1 => ∀ D, H1 D = none → LcW J g tt te vs D σ H1 (Q (.ref D))) : tLc wi g tt te vs σ H Q := h
theorem r_lcS {α : Type} {J : It} {G : Hp → Prop} {rel : V → α → Prop} {L : List α} {g : TG} {tt : TT} {te : TE} {vs : List Nat} {D : Addr} {σ : L2.St} {H1 : Hp} {Qd : Hp → Prop} (S : Seq J G rel L) (Pv : List α → Hp → Prop) (h0 : Pv [] (upd H1 D (.lst [])))
    (hk : ∀ d H, Pv d H → G H) (hs : ∀ d p r v H, L = d ++ p :: r → rel v p → Pv d H → g v (wipe σ vs) H fun σ2 H2 => wipe σ2 vs = wipe σ vs ∧ tt σ2 H2 fun b H3 =>
      if b = true then te σ2 H3 fun y H4 => ∃ acc, H4 D = some (.lst acc) ∧ acc.length < sizeLine ∧ Pv (d ++ [p]) (upd H4 D (.lst (acc ++ [y]))) else Pv (d ++ [p]) H3) (hd : ∀ H, Pv L H → Qd H) : LcW J g tt te vs D σ H1 Qd := by
  refine ⟨fun i m H => m = L.length - i ∧ i ≤ L.length ∧ Pv (L.take i) H, ⟨L.length, by simp, Nat.zero_le _, h0⟩, ?_⟩
  rintro i m H ⟨rfl, hi, p0⟩
  have q := hk _ H p0
  by_cases hlt : i < L.length
  · refine .inr ⟨S.goes i H hlt q, Pv (L.take (i + 1)), fun H' p' => ⟨L.length - (i + 1), by omega, rfl, hlt, p'⟩, fun x H' y => ?_⟩
    obtain ⟨e, p, hp, r⟩ := S.yields i H x H' hlt q y
    subst e
    obtain ⟨e1, e2⟩ := split_at hp
    rw [e2]
    exact hs _ p _ x _ e1 r p0
  · have e : i = L.length := by omega
    subst e
    rw [List.take_length] at p0
    exact .inl ⟨S.stops H q, hd H p0⟩
/-- a comprehension whose parts make nothing: kept items f p of those p with b p -/
theorem r_lcP {α : Type} {J : It} {G : Hp → Prop} {rel : V → α → Prop} {L : List α} {g : TG} {tt : TT} {te : TE} {vs : List Nat} {D : Addr} {σ : L2.St} {H1 : Hp} {Qd : Hp → Prop} (S : Seq J G rel L) (b : α → Bool) (f : α → V)
    (hz : L.length < 100000) (np : H1 D = none) (hG : ∀ H, Same H1 H → G H)
    (hs : ∀ p v H acc, p ∈ L → rel v p → Same H1 H → H D = some (.lst acc) → acc.length < sizeLine → ∀ N : Hp → Prop, (b p = true → N (upd H D (.lst (acc ++ [f p])))) → (b p = false → N H) → g v (wipe σ vs) H fun σ2 H2 => wipe σ2 vs = wipe σ vs ∧ tt σ2 H2 fun b H3 =>
      if b = true then te σ2 H3 fun y H4 => ∃ acc, H4 D = some (.lst acc) ∧ acc.length < sizeLine ∧ N (upd H4 D (.lst (acc ++ [y]))) else N H3)
    (hd : Qd (upd H1 D (.lst ((L.filter b).map f)))) : LcW J g tt te vs D σ H1 Qd := by
  have same : ∀ acc, Same H1 (upd H1 D (.lst acc)) := fun acc a o e => by rw [upd_ne (ne_of_none e np)]; exact e
  refine r_lcS S (fun d H => H = upd H1 D (.lst ((d.filter b).map f))) rfl (fun d H e => hG H (e ▸ same _)) (fun d p r v H e hr hp => ?_) (fun H e => e ▸ hd)
  subst hp
  have hlen : ((d.filter b).map f).length < sizeLine := by
    have h1 := List.length_filter_le b d
    have h2 : L.length = d.length + (r.length + 1) := by rw [e]; simp
    rw [List.length_map]
    exact Nat.lt_of_lt_of_le (show (d.filter b).length < 100000 by omega) (by decide)
  refine hs p v _ _ (by rw [e]; simp) hr (same _) upd_same hlen (fun H => H = upd H1 D (.lst (((d ++ [p]).filter b).map f))) (fun hb => ?_) (fun hb => ?_)
  · rw [upd_upd, List.filter_append, List.filter_cons_of_pos hb, List.map_append]
    rfl
  · rw [List.filter_append, List.filter_cons_of_neg (by rw [hb]; exact Bool.false_ne_true), List.filter_nil, List.append_nil]

/-! ### whiles -/
theorem r_while {c : TT} {tb : TS} {nx bk ct : L2.St → Hp → Prop} {rt : VK} {σ : L2.St} {H : Hp} (Pv : Nat → L2.St → Hp → Prop) (m0 : Nat) (h0 : Pv m0 σ H)
    (hs : ∀ m σ H, Pv m σ H → c σ H fun b H1 => if b = true then ∃ N : L2.St → Hp → Prop, (∀ σ' H', N σ' H' → ∃ m', m' < m ∧ Pv m' σ' H') ∧ tb ⟨N, rt, nx, N⟩ σ H1 else nx σ H1) : tWhile c tb ⟨nx, rt, bk, ct⟩ σ H :=
  ⟨Pv, ⟨m0, h0⟩, hs⟩
theorem r_whT {tb : TS} {nx : L2.St → Hp → Prop} {rt : VK} {σ : L2.St} {H1 : Hp} {Pv : Nat → L2.St → Hp → Prop} {m : Nat} (h : tb ⟨fun σ' H' => ∃ m', m' < m ∧ Pv m' σ' H', rt, nx, fun σ' H' => ∃ m', m' < m ∧ Pv m' σ' H'⟩ σ H1) :
    ∃ N : L2.St → Hp → Prop, (∀ σ' H', N σ' H' → ∃ m', m' < m ∧ Pv m' σ' H') ∧ tb ⟨N, rt, nx, N⟩ σ H1 := ⟨_, fun _ _ z => z, h⟩
end Vf
namespace Vf
open PySem PySem.Spec PyProof.Rows L2
theorem r_forE {α : Type} {K : PySem.W.Frag} {a : Addr} {xs : List V} {rel : V → α → Prop} {L : List α} {g : TG} {tb : TS} {nx bk ct : L2.St → Hp → Prop} {rt : VK} {σ : L2.St} {H : Hp} (hp : Paired rel xs L) (Pv : List α → L2.St → Hp → Prop) (h0 : Pv [] σ H)
    (hk : ∀ d σ H, Pv d σ H → SqL K H a xs) (hs : ∀ d p r x T σ H, L = d ++ p :: r → xs[d.length]? = some x → rel x p → Pv d σ H → H T = none → g (.ref T) σ (upd H T (.tup [.int (d.length : Nat), x])) fun σ2 H2 => tb ⟨Pv (d ++ [p]), rt, nx, Pv (d ++ [p])⟩ σ2 H2)
    (hd : ∀ σ H, Pv L σ H → nx σ H) : ForW (Ite K a) g tb ⟨nx, rt, bk, ct⟩ σ H := by
  have hl := pair_len hp
  refine ⟨fun i m σ H => m = L.length - i ∧ i ≤ L.length ∧ Pv (L.take i) σ H, ⟨L.length, by simp, Nat.zero_le _, h0⟩, ?_⟩
  rintro i m σ H ⟨rfl, hi, p0⟩
  have q := hk _ σ H p0
  by_cases hlt : i < L.length
  · refine .inr ⟨⟨xs, xs[i], q, by simp [hl, hlt]⟩, Pv (L.take (i + 1)), fun σ' H' p' => ⟨L.length - (i + 1), by omega, rfl, hlt, p'⟩, fun v H' y => ?_⟩
    obtain ⟨T, x, rfl, nT, rfl, fx⟩ := y
    obtain ⟨p, hp1, hp2⟩ := pair_get hp (fx xs q)
    obtain ⟨e1, e2⟩ := split_at hp1
    have el : (L.take i).length = i := by rw [List.length_take]; omega
    have hx := fx xs q
    rw [e2]
    have := hs (L.take i) p _ x T σ H e1 (by rw [el]; exact hx) hp2 p0 nT
    rw [el] at this
    exact this
  · have e : i = L.length := by omega
    subst e
    rw [List.take_length] at p0
    exact .inl ⟨⟨xs, q, by omega⟩, hd σ H p0⟩
theorem r_ienum {K : PySem.W.Frag} {ts : TA} {σ : L2.St} {H : Hp} {A : It → Hp → Prop} (h : ts σ H fun vs H1 => ∃ a xs, vs = [.ref a] ∧ SqL K H1 a xs ∧ A (Ite K a) H1) : iEnum K ts σ H A := h
theorem r_leP {K : PySem.W.Frag} {H : Hp} {t u : Addr} {a b c d : Int} {Q : VK} (ht : SqT K H t [.int a, .int b]) (hu : SqT K H u [.int c, .int d]) (h : Q (.bl (decide (a < c ∨ (a = c ∧ b ≤ d)))) H) : rLeT K (.ref t) (.ref u) H Q := by
  refine ⟨t, u, [a, b], [c, d], rfl, rfl, ht, hu, ?_⟩
  have e : Ob.lexAt (fun j => decide (([a, b] : List Int).getD j 0 = ([c, d] : List Int).getD j 0)) (fun j => decide (([a, b] : List Int).getD j 0 ≤ ([c, d] : List Int).getD j 0)) (decide (([a, b] : List Int).length ≤ ([c, d] : List Int).length)) 0 (min ([a, b] : List Int).length ([c, d] : List Int).length) = decide (a < c ∨ (a = c ∧ b ≤ d)) := by
    show Ob.lexAt _ _ _ 0 2 = _
    rw [Ob.lexAt_succ, Ob.lexAt_succ, Ob.lexAt_zero]
    show (if decide (a = c) = true then if decide (b = d) = true then decide ((2 : Nat) ≤ 2) else decide (b ≤ d) else decide (a ≤ c)) = _
    by_cases e1 : a = c
    · rw [if_pos (decide_eq_true e1)]
      by_cases e2 : b = d
      · rw [if_pos (decide_eq_true e2), Bool.eq_iff_iff]; simp; omega
      · rw [if_neg (by simpa using e2), Bool.eq_iff_iff]; simp; omega
    · rw [if_neg (by simpa using e1), Bool.eq_iff_iff]; simp; omega
  rw [e]
  exact h
theorem r_sin {w : World} {H : Hp} {k : Int} {a : Addr} {S : Int → Bool} {n : Nat} {Q : VK} (hs : H a = some (SetO w a S n)) (h : Q (.bl (S k)) H) : rSIn w (.int k) (.ref a) H Q := ⟨k, a, S, n, rfl, rfl, hs, h⟩
theorem r_sadd {w : World} {to : TE} {ts : TA} {σ : L2.St} {H : Hp} {Q : VK} (h : to σ H fun x H1 => (∃ a S n, x = V.ref a ∧ H1 a = some (SetO w a S n)) ∧ ts σ H1 fun xs H2 => rSAdd w x xs H2 Q) : tSAdd w to ts σ H Q := h
theorem r_add {w : World} {H : Hp} {k : Int} {a : Addr} {S : Int → Bool} {n : Nat} {Q : VK} (hs : H a = some (SetO w a S n)) (hn : n + 1 < scanBound) (h : Q .non (upd H a (SetO w a (fun j => S j || decide (j = k)) (if S k = true then n else n + 1)))) : rSAdd w (.ref a) [.int k] H Q := ⟨a, k, S, n, rfl, rfl, hs, hn, h⟩
end Vf

namespace Vf
open PySem PySem.Spec PyProof.Rows L2

/-! ### heaps -/
def But (t : Addr) (H H' : Hp) : Prop := ∀ b, b ≠ t → H' b = H b
def NewO (H : Hp) (o : HO) (Q : VK) : Prop := ∀ p H', Same H H' → H p = none → H' p = some o → Q (.ref p) H'
theorem same_new {H : Hp} {p : Addr} {o : HO} (h : H p = none) : Same H (upd H p o) := fun b x e => by
  rw [upd_ne (ne_of_none e h)]
  exact e
theorem NewO.mk {H H1 : Hp} {o : HO} {Q : VK} (h : NewO H o Q) (s : Same H H1) : ∀ p, H1 p = none → Q (.ref p) (upd H1 p o) := fun p np =>
  h p _ (s.trans (same_new np)) (s.free np) upd_same
theorem NewO.on {H H1 : Hp} {o : HO} {Q : VK} (h : NewO H o Q) (s : Same H H1) : NewO H1 o Q := fun p H' s' n e => h p H' (s.trans s') (s.free n) e
/-- the draws' list -/
def Tap (H : Hp) (t : Addr) : Prop := ∃ a b c : Int, H t = some (.lst [.int a, .int b, .int c]) ∧ 0 ≤ a ∧ 0 ≤ b ∧ 0 ≤ c ∧ c < 2 ^ 62
theorem Tap.mono {H H' : Hp} {t : Addr} (s : Same H H') (h : Tap H t) : Tap H' t := let ⟨a, b, c, e, r⟩ := h; ⟨a, b, c, s _ _ e, r⟩
/-- what is known in B, where t is not known, stays while t changes -/
theorem Same.but {B H H' : Hp} {t : Addr} (s : Same B H) (n : B t = none) (b : But t H H') : Same B H' := fun a o e => by
  rw [b a (ne_of_none e n)]
  exact s a o e
theorem Same.set {B H : Hp} {t : Addr} {o : HO} (s : Same B H) (n : B t = none) : Same B (upd H t o) := fun a u e => by
  rw [upd_ne (ne_of_none e n)]
  exact s a u e
/-- the tuple of a coupling -/
def Pr (H : Hp) (v : V) (p : Int × Int) : Prop := ∃ t, v = .ref t ∧ H t = some (.tup [.int p.1, .int p.2])
abbrev Prs (H : Hp) : List V → List (Int × Int) → Prop := Paired (Pr H)
theorem Pr.mono {H H' : Hp} {v : V} {p : Int × Int} (s : Same H H') (h : Pr H v p) : Pr H' v p := let ⟨t, e, f⟩ := h; ⟨t, e, s _ _ f⟩
theorem Prs.mono {H H' : Hp} {xs : List V} {L : List (Int × Int)} (s : Same H H') (h : Prs H xs L) : Prs H' xs L := pair_mono h fun _ _ q => q.mono s
/-- tuples stay where only an object changes that is none -/
theorem Pr.but {H H' : Hp} {v : V} {p : Int × Int} {t : Addr} {o : HO} (b : But t H H') (ht : H t = some o) (no : ∀ xs, o ≠ .tup xs) (h : Pr H v p) : Pr H' v p := by
  obtain ⟨a, e, f⟩ := h
  refine ⟨a, e, ?_⟩
  rw [b a (ne_of f ht (fun z => no _ z.symm))]
  exact f
theorem Prs.but {H H' : Hp} {xs : List V} {L : List (Int × Int)} {t : Addr} {o : HO} (b : But t H H') (ht : H t = some o) (no : ∀ xs, o ≠ .tup xs) (h : Prs H xs L) : Prs H' xs L := pair_mono h fun _ _ q => q.but b ht no
theorem but_upd {H : Hp} {t : Addr} {o : HO} : But t H (upd H t o) := fun b e => upd_ne e
theorem But.trans {H H1 H2 : Hp} {t : Addr} (a : But t H H1) (b : But t H1 H2) : But t H H2 := fun x e => (b x e).trans (a x e)
theorem fm (x m : Int) (h : 0 < m) : 0 ≤ x.fmod m ∧ x.fmod m < m := ⟨Int.fmod_nonneg_of_pos _ h, Int.fmod_lt_of_pos _ h⟩
theorem szl {n : Nat} (h : n ≤ 100000) : n ≤ sizeLine := Nat.le_trans h (by decide)
theorem szs {n : Nat} (h : n < 100000) : n < sizeLine := Nat.lt_of_lt_of_le h (by decide)
theorem sql {K : PySem.W.Frag} {H : Hp} {a : Addr} {xs : List V} (h : H a = some (.lst xs)) : SqL K H a xs := .inl (.inl h)
theorem sqt {K : PySem.W.Frag} {H : Hp} {a : Addr} {xs : List V} (h : H a = some (.tup xs)) : SqT K H a xs := .inl (.inl h)

/-! ### layouts -/
def flat (L : List (Int × Int)) : List Int := L.flatMap fun p => [p.1, p.2]
theorem flat_nil : flat [] = [] := rfl
theorem flat_cons (p : Int × Int) (L : List (Int × Int)) : flat (p :: L) = p.1 :: p.2 :: flat L := by unfold flat; rw [List.flatMap_cons]; rfl
theorem flat_app (L M : List (Int × Int)) : flat (L ++ M) = flat L ++ flat M := by unfold flat; rw [List.flatMap_append]
theorem flat_len (L : List (Int × Int)) : (flat L).length = 2 * L.length := by
  induction L with
  | nil => rfl
  | cons p L ih => rw [flat_cons, List.length_cons, List.length_cons, ih, List.length_cons]; omega
theorem mem_flat {L : List (Int × Int)} {e : Int} : e ∈ flat L ↔ ∃ p ∈ L, e = p.1 ∨ e = p.2 := by
  unfold flat
  rw [List.mem_flatMap]
  constructor
  · rintro ⟨p, hp, h⟩
    exact ⟨p, hp, by simpa using h⟩
  · rintro ⟨p, hp, h⟩
    exact ⟨p, hp, by simpa using h⟩
structure Lay (n : Int) (L : List (Int × Int)) : Prop where
  n1 : 1 ≤ n
  n60 : n ≤ 60
  cp : ∀ p ∈ L, -n ≤ p.1 ∧ p.1 < p.2 ∧ p.2 ≤ n ∧ p.1 ≠ 0 ∧ p.2 ≠ 0
  asc : L.Pairwise fun p q => p.1 < q.1 ∨ (p.1 = q.1 ∧ p.2 < q.2)
  nd : (flat L).Nodup
def endsL (n : Int) : List Int := (rng (-n) (n + 1 - -n).toNat).filter fun e => !decide (e = 0)
theorem mem_rng {lo : Int} {n : Nat} {e : Int} : e ∈ rng lo n ↔ lo ≤ e ∧ e < lo + n := by
  unfold rng
  rw [List.mem_map]
  constructor
  · rintro ⟨i, hi, rfl⟩
    have := List.mem_range.mp hi
    omega
  · rintro ⟨h1, h2⟩
    exact ⟨(e - lo).toNat, List.mem_range.mpr (by omega), by omega⟩
theorem mem_endsL {n e : Int} : e ∈ endsL n ↔ -n ≤ e ∧ e ≤ n ∧ e ≠ 0 := by
  unfold endsL
  rw [List.mem_filter, mem_rng]
  simp only [Bool.not_eq_eq_eq_not, Bool.not_true, decide_eq_false_iff_not]
  omega
theorem rng_asc (lo : Int) (n : Nat) : (rng lo n).Pairwise (· < ·) := by
  unfold rng
  rw [List.pairwise_map]
  exact List.Pairwise.imp (fun h => by omega) List.pairwise_lt_range
theorem endsL_asc (n : Int) : (endsL n).Pairwise (· < ·) := (rng_asc _ _).filter _
theorem endsL_nd (n : Int) : (endsL n).Nodup := (endsL_asc n).imp fun h => by omega
theorem endsL_len {n : Int} (h : 0 ≤ n) : (endsL n).length ≤ 2 * n.toNat + 1 := by
  have h1 := List.length_filter_le (fun e : Int => !decide (e = 0)) (rng (-n) (n + 1 - -n).toNat)
  rw [rng_len] at h1
  unfold endsL
  omega
/-- the partner of an end -/
def tabI (L : List (Int × Int)) : List (Int × Int) := L.flatMap fun p => [(p.1, p.2), (p.2, p.1)]
def parI (L : List (Int × Int)) (e : Int) : Option Int := ((tabI L).find? fun q => decide (q.1 = e)).map (·.2)
def tab (L : List (Int × Int)) : List (Key × V) := (tabI L).map fun q => (.inl q.1, .int q.2)
theorem tabI_app (L M : List (Int × Int)) : tabI (L ++ M) = tabI L ++ tabI M := by unfold tabI; rw [List.flatMap_append]
theorem tabI_keys (L : List (Int × Int)) : (tabI L).map (·.1) = flat L := by
  induction L with
  | nil => rfl
  | cons p L ih =>
    rw [flat_cons, ← ih]
    rfl
theorem tab_len (L : List (Int × Int)) : (tab L).length = 2 * L.length := by
  unfold tab
  rw [List.length_map, ← List.length_map (f := (·.1)), tabI_keys, flat_len]
theorem tab_get (L : List (Int × Int)) (e : Int) : valV (tab L) (Sum.inl e : Key) = (parI L e).map V.int := by
  unfold valV tab parI
  rw [List.find?_map]
  have : ((fun kv : Key × V => decide (kv.1 = (Sum.inl e : Key))) ∘ fun q : Int × Int => ((Sum.inl q.1 : Key), V.int q.2)) = fun q => decide (q.1 = e) := by
    funext q
    show decide ((Sum.inl q.1 : Key) = Sum.inl e) = decide (q.1 = e)
    rw [Bool.eq_iff_iff]
    simp
  rw [this]
  cases (tabI L).find? fun q => decide (q.1 = e) <;> rfl
theorem parI_none {L : List (Int × Int)} {e : Int} : parI L e = none ↔ e ∉ flat L := by
  unfold parI
  rw [Option.map_eq_none_iff, List.find?_eq_none, ← tabI_keys, List.mem_map]
  constructor
  · rintro h ⟨q, hq, rfl⟩
    exact h q hq (decide_eq_true rfl)
  · intro h q hq c
    exact h ⟨q, hq, of_decide_eq_true c⟩
theorem tab_no {L : List (Int × Int)} {e : Int} (h : e ∉ flat L) : valV (tab L) (Sum.inl e : Key) = none := by
  rw [tab_get, parI_none.mpr h]
  rfl
theorem tab_put {d r : List (Int × Int)} {p : Int × Int} (h : (flat (d ++ p :: r)).Nodup) : putK (putK (tab d) (Sum.inl p.1 : Key) (.int p.2)) (Sum.inl p.2 : Key) (.int p.1) = tab (d ++ [p]) ∧ p.1 ∉ flat d ∧ p.2 ∉ flat d ∧ p.1 ≠ p.2 := by
  rw [flat_app, flat_cons] at h
  obtain ⟨h1, h2, h3⟩ := List.nodup_append.mp h
  have n1 : p.1 ∉ flat d := fun z => h3 _ z p.1 (by simp) rfl
  have n2 : p.2 ∉ flat d := fun z => h3 _ z p.2 (by simp) rfl
  have n3 : p.1 ≠ p.2 := fun z => (List.nodup_cons.mp h2).1 (by rw [z]; simp)
  refine ⟨?_, n1, n2, n3⟩
  rw [putK_new _ (tab_no n1), putK_new]
  · unfold tab
    rw [tabI_app, List.map_append, List.append_assoc]
    rfl
  · rw [valV_snoc _ _ _ _ (tab_no n1), if_neg (by simpa using Ne.symm n3), tab_no n2]
theorem Lay.tail {n : Int} {d : List (Int × Int)} {r : List (Int × Int)} (h : Lay n (d ++ r)) : Lay n r := by
  refine ⟨h.n1, h.n60, fun p hp => h.cp p (List.mem_append_right _ hp), (List.pairwise_append.mp h.asc).2.1, ?_⟩
  have := h.nd
  rw [flat_app] at this
  exact (List.nodup_append.mp this).2.1
theorem nodup_sub {α : Type} [BEq α] [LawfulBEq α] : ∀ {l m : List α}, l.Nodup → (∀ x ∈ l, x ∈ m) → l.length ≤ m.length
  | [], _, _, _ => Nat.zero_le _
  | a :: l, m, nd, h => by
    obtain ⟨h1, h2⟩ := List.nodup_cons.mp nd
    have ha := h a List.mem_cons_self
    have ih := nodup_sub (l := l) (m := m.erase a) h2 fun x hx => (List.mem_erase_of_ne (fun e : x = a => h1 (e ▸ hx))).mpr (h x (List.mem_cons_of_mem _ hx))
    rw [List.length_erase_of_mem ha] at ih
    have := List.length_pos_of_mem ha
    rw [List.length_cons]
    omega
theorem Lay.len {n : Int} {L : List (Int × Int)} (h : Lay n L) : L.length ≤ 60 := by
  have h1 : (flat L).length ≤ (endsL n).length := nodup_sub h.nd fun e he => by
    obtain ⟨p, hp, q⟩ := mem_flat.mp he
    have := h.cp p hp
    rw [mem_endsL]
    omega
  have h2 := endsL_len (n := n) (by have := h.n1; omega)
  have h3 := h.n60
  rw [flat_len] at h1
  omega
end Vf

namespace Vf
open PySem PySem.Spec PyProof.Rows L2

/-! ### lists -/
theorem map_eraseI {α β : Type} (f : α → β) : ∀ (l : List α) (k : Nat), (l.map f).eraseIdx k = (l.eraseIdx k).map f
  | [], _ => rfl
  | _ :: _, 0 => rfl
  | a :: l, k + 1 => by
    rw [List.map_cons, List.eraseIdx_cons_succ, List.eraseIdx_cons_succ, List.map_cons, map_eraseI f l k]
theorem perm_erase {α : Type} : ∀ {l : List α} {k : Nat} {x : α}, l[k]? = some x → l.Perm (x :: l.eraseIdx k)
  | [], _, _, h => by simp at h
  | a :: l, 0, x, h => by
    have e : a = x := Option.some.inj h
    subst e
    exact List.Perm.refl _
  | a :: l, k + 1, x, h => by
    have ih := perm_erase (l := l) (k := k) (x := x) (by simpa using h)
    rw [List.eraseIdx_cons_succ]
    exact (ih.cons a).trans (List.Perm.swap x a _)
theorem seqIx {i : Int} {n : Nat} (h0 : 0 ≤ i) (h1 : i < n) : seqIndex? i n = some i.toNat := by
  unfold seqIndex?
  simp only [show ¬ i < 0 by omega, if_false]
  rw [if_pos (by simp; omega)]
theorem cut_ints (l : List Int) (lo hi : Option Int) : ∃ m : List Int, cutV (l.map V.int) lo hi = m.map V.int ∧ m.length ≤ l.length := by
  refine ⟨(l.drop (HT.sIx (l.map V.int).length 0 lo)).take (HT.sIx (l.map V.int).length (l.map V.int).length hi - HT.sIx (l.map V.int).length 0 lo), ?_, ?_⟩
  · unfold cutV
    rw [← List.map_drop, ← List.map_take]
  · rw [List.length_take, List.length_drop]
    omega

/-! ### sorted couplings -/
/-- which coupling a value is -/
def keyP (H : Hp) (v : V) : Int × Int := match v with
  | .ref t => match H t with
    | some (.tup [.int a, .int b]) => (a, b)
    | _ => (0, 0)
  | _ => (0, 0)
theorem keyP_of {H : Hp} {v : V} {p : Int × Int} (h : Pr H v p) : keyP H v = p := by
  obtain ⟨t, rfl, e⟩ := h
  simp only [keyP, e]
theorem prs_key {H : Hp} : ∀ {xs : List V} {L : List (Int × Int)}, Prs H xs L → xs.map (keyP H) = L
  | _, _, .nil => rfl
  | _, _, .cons r t => by rw [List.map_cons, keyP_of r, prs_key t]
theorem prs_all {H : Hp} : ∀ {xs : List V} {L : List (Int × Int)}, Prs H xs L → ∀ x ∈ xs, Pr H x (keyP H x)
  | _, _, .nil, _, h => absurd h (by simp)
  | _, _, .cons r t, x, h => by
    rcases List.mem_cons.mp h with rfl | h
    · rw [keyP_of r]; exact r
    · exact prs_all t x h
theorem prs_of {H : Hp} : ∀ {ys : List V}, (∀ y ∈ ys, Pr H y (keyP H y)) → Prs H ys (ys.map (keyP H))
  | [], _ => .nil
  | y :: ys, h => .cons (h y List.mem_cons_self) (prs_of fun z hz => h z (List.mem_cons_of_mem _ hz))
def Asc (L : List (Int × Int)) : Prop := L.Pairwise fun p q => p.1 < q.1 ∨ (p.1 = q.1 ∧ p.2 < q.2)
theorem flat_perm {L M : List (Int × Int)} (h : L.Perm M) : (flat L).Perm (flat M) := h.flatMap_right _
theorem nd_of_flat : ∀ {L : List (Int × Int)}, (flat L).Nodup → L.Nodup
  | [], _ => List.nodup_nil
  | p :: L, h => by
    rw [flat_cons] at h
    obtain ⟨h1, h2⟩ := List.nodup_cons.mp h
    refine List.nodup_cons.mpr ⟨fun hp => h1 (List.mem_cons_of_mem _ (mem_flat.mpr ⟨p, hp, .inl rfl⟩)), nd_of_flat (List.nodup_cons.mp h2).2⟩
theorem r_sortedP {K : PySem.W.Frag} {H : Hp} {a : Addr} {xs : List V} {L : List (Int × Int)} {Q : VK} (hs : SqL K H a xs) (hp : Prs H xs L) (nd : L.Nodup)
    (h : ∀ ys M p, M.Perm L → Asc M → Prs H ys M → H p = none → Q (.ref p) (upd H p (.lst ys))) : rSortedPO K [.ref a] H Q := by
  refine ⟨a, xs, keyP H, rfl, hs, fun x hx => prs_all hp x hx, fun ys p srt stb np => ?_⟩
  have perm : (ys.map (keyP H)).Perm L := by
    rw [← prs_key hp]
    exact stb.perm.map _
  refine h ys (ys.map (keyP H)) p perm ?_ (prs_of fun y hy => prs_all hp y (stb.perm.mem_iff.mp hy)) np
  unfold Asc
  rw [List.pairwise_map]
  have nd2 : ys.Pairwise fun x y => keyP H x ≠ keyP H y := by
    have := perm.nodup_iff.mpr nd
    rw [List.Nodup, List.pairwise_map] at this
    exact this
  exact (srt.and nd2).imp fun {x y} c => by
    have c1 := SrtO.lexB_no.mp c.1
    have c2 : ¬ ((keyP H x).1 = (keyP H y).1 ∧ (keyP H x).2 = (keyP H y).2) := fun z => c.2 (Prod.ext z.1 z.2)
    omega

/-! ### all but t -/
def SameX (t : Addr) (H H' : Hp) : Prop := ∀ b o, b ≠ t → H b = some o → H' b = some o
theorem SameX.refl {t : Addr} {H : Hp} : SameX t H H := fun _ _ _ h => h
theorem SameX.trans {t : Addr} {H H1 H2 : Hp} (a : SameX t H H1) (b : SameX t H1 H2) : SameX t H H2 := fun x o n h => b x o n (a x o n h)
theorem SameX.of {t : Addr} {H H' : Hp} (h : Same H H') : SameX t H H' := fun b o _ e => h b o e
theorem SameX.ofBut {t : Addr} {H H' : Hp} (h : But t H H') : SameX t H H' := fun b o n e => by rw [h b n]; exact e
theorem SameX.set {t x : Addr} {o : HO} {H H' : Hp} (s : SameX t H H') (n : H x = none) : SameX t H (upd H' x o) := fun b u nb e => by
  rw [upd_ne (ne_of_none e n)]
  exact s b u nb e
theorem SameX.prs {t : Addr} {o : HO} {H H' : Hp} {xs : List V} {L : List (Int × Int)} (s : SameX t H H') (ht : H t = some o) (no : ∀ xs, o ≠ .tup xs) (h : Prs H xs L) : Prs H' xs L :=
  pair_mono h fun _ _ ⟨a, e, f⟩ => ⟨a, e, s _ _ (ne_of f ht fun z => no _ z.symm) f⟩
theorem SameX.same {t : Addr} {B H H' : Hp} (s : SameX t H H') (b : Same B H) (n : B t = none) : Same B H' := fun a o e => s a o (ne_of_none e n) (b a o e)
theorem Tap.lst {H : Hp} {t : Addr} (h : Tap H t) : ∃ xs, H t = some (.lst xs) := let ⟨_, _, _, e, _⟩ := h; ⟨_, e⟩
/-- a layout's making, step by step -/
structure Mk (n : Int) (l : List Int) (L : List (Int × Int)) : Prop where
  cp : ∀ p ∈ L, p.1 < p.2
  nd : (l ++ flat L).Nodup
  sub : ∀ e ∈ l ++ flat L, e ∈ endsL n
theorem Mk.start (n : Int) : Mk n (endsL n) [] := ⟨fun _ h => absurd h (by simp), by rw [flat_nil, List.append_nil]; exact endsL_nd n, fun e h => by rw [flat_nil, List.append_nil] at h; exact h⟩
theorem Mk.drop {n : Int} {l : List Int} {L : List (Int × Int)} {a b : Int} {i j : Nat} (h : Mk n l L) (ha : l[i]? = some a) (hb : (l.eraseIdx i)[j]? = some b) : Mk n ((l.eraseIdx i).eraseIdx j) L ∧ Mk n ((l.eraseIdx i).eraseIdx j) (L ++ [(min a b, max a b)]) := by
  have p1 := (perm_erase ha).trans ((perm_erase hb).cons a)
  have nd1 : (a :: b :: ((l.eraseIdx i).eraseIdx j) ++ flat L).Nodup := ((p1.append_right (flat L)).nodup_iff).mp h.nd
  have sub1 : ∀ e ∈ a :: b :: ((l.eraseIdx i).eraseIdx j) ++ flat L, e ∈ endsL n := fun e he => h.sub e ((p1.append_right (flat L)).mem_iff.mpr he)
  obtain ⟨q1, q2⟩ := List.nodup_cons.mp (show (a :: (b :: ((l.eraseIdx i).eraseIdx j ++ flat L))).Nodup from nd1)
  obtain ⟨q3, q4⟩ := List.nodup_cons.mp q2
  have nab : a ≠ b := fun z => q1 (by rw [z]; simp)
  refine ⟨⟨h.cp, q4, fun e he => sub1 e (List.mem_cons_of_mem _ (List.mem_cons_of_mem _ he))⟩, fun p hp => ?_, ?_, fun e he => ?_⟩
  · rcases List.mem_append.mp hp with hp | hp
    · exact h.cp p hp
    · rw [List.mem_singleton.mp hp]
      show min a b < max a b
      omega
  · rw [flat_app, flat_cons, flat_nil]
    have pm : ([min a b, max a b] : List Int).Perm [a, b] := by
      by_cases c : a ≤ b
      · rw [Int.min_eq_left c, Int.max_eq_right c]
      · rw [Int.min_eq_right (by omega), Int.max_eq_left (by omega)]
        exact List.Perm.swap a b []
    have pp : ((l.eraseIdx i).eraseIdx j ++ (flat L ++ [min a b, max a b])).Perm (a :: b :: ((l.eraseIdx i).eraseIdx j ++ flat L)) := by
      rw [← List.append_assoc]
      refine (List.Perm.append_left _ pm).trans ?_
      exact (List.perm_append_comm (l₁ := (l.eraseIdx i).eraseIdx j ++ flat L) (l₂ := [a, b]))
    exact pp.nodup_iff.mpr nd1
  · rw [flat_app, flat_cons, flat_nil] at he
    have : e ∈ (l.eraseIdx i).eraseIdx j ++ flat L ∨ e = a ∨ e = b := by
      rcases List.mem_append.mp he with he | he
      · exact .inl (List.mem_append_left _ he)
      · rcases List.mem_append.mp he with he | he
        · exact .inl (List.mem_append_right _ he)
        · have : e = min a b ∨ e = max a b := by simpa using he
          omega
    rcases this with z | z | z
    · exact sub1 e (List.mem_cons_of_mem _ (List.mem_cons_of_mem _ z))
    · exact sub1 e (by rw [z]; simp)
    · exact sub1 e (by rw [z]; simp)
theorem Mk.lay {n : Int} {l : List Int} {L M : List (Int × Int)} (h : Mk n l L) (n1 : 1 ≤ n) (n2 : n ≤ 60) (pm : M.Perm L) (asc : Asc M) : Lay n M := by
  obtain ⟨_, q2, _⟩ := List.nodup_append.mp h.nd
  refine ⟨n1, n2, fun p hp => ?_, asc, (flat_perm pm).nodup_iff.mpr q2⟩
  have hp' := pm.mem_iff.mp hp
  have c := h.cp p hp'
  have e1 := mem_endsL.mp (h.sub p.1 (List.mem_append_right _ (mem_flat.mpr ⟨p, hp', .inl rfl⟩)))
  have e2 := mem_endsL.mp (h.sub p.2 (List.mem_append_right _ (mem_flat.mpr ⟨p, hp', .inr rfl⟩)))
  omega
end Vf
namespace Vf
open PySem PySem.Spec PyProof.Rows L2
theorem at_int {ns : List Int} {r : Int} (h0 : 0 ≤ r) (h1 : r < ns.length) : ∃ v : Int, atI (ns.map V.int) r = some (.int v) ∧ ns[r.toNat]? = some v := by
  have h : r.toNat < ns.length := by omega
  refine ⟨ns[r.toNat], at_of (j := r.toNat) (by omega) (by rw [List.getElem?_map, List.getElem?_eq_getElem h]; rfl), List.getElem?_eq_getElem h⟩
theorem get_ints {ns : List Int} {k : Nat} (h : k < ns.length) : ∃ v : Int, (ns.map V.int)[k]? = some (.int v) ∧ ns[k]? = some v := ⟨ns[k], by rw [List.getElem?_map, List.getElem?_eq_getElem h]; rfl, List.getElem?_eq_getElem h⟩
theorem Mk.len {n : Int} {l : List Int} {L : List (Int × Int)} (h : Mk n l L) (n1 : 1 ≤ n) (n2 : n ≤ 60) : l.length + 2 * L.length ≤ 121 := by
  have h1 := nodup_sub h.nd h.sub
  have h2 := endsL_len (n := n) (by omega)
  rw [List.length_append, flat_len] at h1
  omega
theorem tyL {K : PySem.W.Frag} {H : Hp} {a : Addr} {xs : List V} (h : H a = some (.lst xs)) : tyV K "list" (.ref a) H := Or.inl ⟨rfl, _, Or.inl (Or.inl h)⟩
theorem r_pop {l : Addr} {xs : List V} {i : Int} {y : V} {H : Hp} {Q : VK} (hl : H l = some (.lst xs)) (h0 : 0 ≤ i) (h1 : i < xs.length) (h2 : i < 2 ^ 63) (hy : xs[i.toNat]? = some y) (h : Q y (upd H l (.lst (xs.eraseIdx i.toNat)))) : rPopAt (.ref l) [.int i] H Q :=
  ⟨l, xs, i, i.toNat, y, rfl, rfl, hl, by omega, h2, seqIx h0 h1, hy, h⟩
theorem r_app {l : Addr} {xs : List V} {y : V} {H : Hp} {Q : VK} (hl : H l = some (.lst xs)) (hz : xs.length < sizeLine) (h : Q .non (upd H l (.lst (xs ++ [y])))) : rAppend (.ref l) [y] H Q := ⟨l, xs, y, rfl, rfl, hl, hz, h⟩
end Vf

namespace Vf
open PySem PySem.Spec PyProof.Rows L2

/-! ### data of small texts -/
structure Sm (N k : Nat) (d : PyData) : Prop where
  sh : d.showable = true
  nd : d.hasDict = false
  dp : d.depth ≤ k
  ln : d.shown.length ≤ N
  lay : d.canLay0 = true
theorem Sm.mono {N k N' k' : Nat} {d : PyData} (h : Sm N k d) (h1 : N ≤ N') (h2 : k ≤ k') : Sm N' k' d := ⟨h.sh, h.nd, Nat.le_trans h.dp h2, Nat.le_trans h.ln h1, h.lay⟩
theorem Sm.shaped {N k : Nat} {d : PyData} (h : Sm N k d) (hk : k ≤ 64) : SeqAt.shaped d = true := by
  unfold SeqAt.shaped
  rw [h.lay, Bool.true_and]
  exact decide_eq_true (Nat.le_trans h.dp hk)
theorem sm_all {N k : Nat} : ∀ {ds : List PyData}, (∀ d ∈ ds, Sm N k d) → PyData.showableAll ds = true ∧ PyData.hasDictAll ds = false ∧ PyData.depthAll ds ≤ k ∧ ((PyData.shownAll ds).map (·.length)).sum ≤ N * ds.length ∧ PyData.canLayAll0 ds = true
  | [], _ => ⟨by simp only [PyData.showableAll], by simp only [PyData.hasDictAll], by simp only [PyData.depthAll]; omega, by simp only [PyData.shownAll]; simp, by simp only [PyData.canLayAll0]⟩
  | d :: ds, h => by
    have h1 := h d List.mem_cons_self
    obtain ⟨a1, a2, a3, a4, a5⟩ := sm_all (ds := ds) fun x hx => h x (List.mem_cons_of_mem _ hx)
    refine ⟨by simp only [PyData.showableAll, h1.sh, a1, Bool.and_self], by simp only [PyData.hasDictAll, h1.nd, a2, Bool.or_self], ?_, ?_, by simp only [PyData.canLayAll0, h1.lay, a5, Bool.and_self]⟩
    · simp only [PyData.depthAll]
      have := h1.dp
      omega
    · simp only [PyData.shownAll, List.map_cons, List.sum_cons, List.length_cons]
      have := h1.ln
      rw [Nat.mul_succ]
      omega
theorem Sm.lst {N k : Nat} {ds : List PyData} (h : ∀ d ∈ ds, Sm N k d) : Sm ((N + 2) * ds.length + 3) (k + 1) (.list ds) := by
  obtain ⟨a1, a2, a3, a4, a5⟩ := sm_all h
  refine ⟨by simp only [PyData.showable, a1], by simp only [PyData.hasDict, a2], by simp only [PyData.depth]; omega, ?_, by simp only [PyData.canLay0, a5]⟩
  simp only [PyData.shown]
  have := listText_len_le (PyData.shownAll ds)
  rw [PyData.shownAll_length] at this
  have e : (N + 2) * ds.length = N * ds.length + 2 * ds.length := by rw [Nat.add_mul]
  omega
theorem Sm.tup {N k : Nat} {ds : List PyData} (h : ∀ d ∈ ds, Sm N k d) : Sm ((N + 2) * ds.length + 3) (k + 1) (.tuple ds) := by
  obtain ⟨a1, a2, a3, a4, a5⟩ := sm_all h
  refine ⟨by simp only [PyData.showable, a1], by simp only [PyData.hasDict, a2], by simp only [PyData.depth]; omega, ?_, by simp only [PyData.canLay0, a5]⟩
  simp only [PyData.shown]
  have := tupleText_len_le (PyData.shownAll ds)
  rw [PyData.shownAll_length] at this
  have e : (N + 2) * ds.length = N * ds.length + 2 * ds.length := by rw [Nat.add_mul]
  omega
theorem Sm.int {i : Int} (h : i.natAbs < 10 ^ 12) : Sm 13 1 (.int i) := by
  refine ⟨?_, by simp only [PyData.hasDict], by simp only [PyData.depth]; omega, PyData.shown_int_le h, by simp only [PyData.canLay0]⟩
  simp only [PyData.showable]
  exact decide_eq_true (log2_small (Nat.lt_of_lt_of_le (Nat.lt_trans h (show 10 ^ 12 < 2 ^ 64 by decide)) (Nat.pow_le_pow_right (by decide) (by decide))))
theorem Sm.non : Sm 13 1 .none := by
  refine ⟨by simp only [PyData.showable], by simp only [PyData.hasDict], by simp only [PyData.depth]; omega, ?_, by simp only [PyData.canLay0]⟩
  rw [PyData.shown_none]
  decide
theorem Sm.rep {K : PySem.W.Frag} {N k : Nat} {d : PyData} {a : Addr} {H : Hp} {Q : VK} (s : Sm N k d) (hN : N ≤ 100000) (hk : k ≤ 60) (hd : Dp K H (.ref a) d) (q : Q (.str d.shown) H) :
    rRepr K [.ref a] H Q :=
  ⟨a, d, rfl, hd, s.sh, s.nd, Nat.le_trans s.dp hk, szl (Nat.le_trans s.ln hN), q⟩

/-! ### values that bear data -/
mutual
theorem dp_mono {K : PySem.W.Frag} {H H' : Hp} (s : Same H H') : ∀ {d : PyData} {v : V}, Dp K H v d → Dp K H' v d
  | .none, _, h => by cases h; exact .non
  | .bool _, _, h => by cases h; exact .bl _
  | .int _, _, h => by cases h; exact .int _
  | .str _, _, h => by cases h; exact .str _
  | .list _, _, h => by
    cases h with
    | lst a b => exact .lst (s.seq a) (dpa_mono s b)
  | .tuple _, _, h => by
    cases h with
    | tup a b =>
      refine .tup ?_ (dpa_mono s b)
      rcases a with (a | ⟨o, a⟩) | a
      · exact .inl (.inl (s _ _ a))
      · exact .inl (.inr ⟨o, s _ _ a⟩)
      · exact .inr a
  | .dict _, _, h => by cases h
theorem dpa_mono {K : PySem.W.Frag} {H H' : Hp} (s : Same H H') : ∀ {ds : List PyData} {vs : List V}, DpAll K H vs ds → DpAll K H' vs ds
  | [], _, h => by cases h; exact .nil
  | _ :: _, _, h => by
    cases h with
    | cons a b => exact .cons (dp_mono s a) (dpa_mono s b)
end
theorem dpa_of {K : PySem.W.Frag} {H : Hp} : ∀ {vs : List V} {ds : List PyData}, Paired (Dp K H) vs ds → DpAll K H vs ds
  | _, _, .nil => .nil
  | _, _, .cons a b => .cons a (dpa_of b)
theorem dpa_ints {K : PySem.W.Frag} {H : Hp} : ∀ ns : List Int, DpAll K H (ns.map V.int) (ns.map PyData.int)
  | [] => .nil
  | n :: ns => .cons (.int n) (dpa_ints ns)
def dP (p : Int × Int) : PyData := .tuple [.int p.1, .int p.2]
def dL (L : List (Int × Int)) : PyData := .list (L.map dP)
def dI (ns : List Int) : PyData := .list (ns.map .int)
theorem dpa_prs {K : PySem.W.Frag} {H : Hp} : ∀ {xs : List V} {L : List (Int × Int)}, Prs H xs L → DpAll K H xs (L.map dP)
  | _, _, .nil => .nil
  | _, _, .cons ⟨t, e, h⟩ r => .cons (e ▸ .tup (sqt h) (.cons (.int _) (.cons (.int _) .nil))) (dpa_prs r)
theorem dp_lay {K : PySem.W.Frag} {H : Hp} {a : Addr} {xs : List V} {L : List (Int × Int)} (h : SqL K H a xs) (p : Prs H xs L) : Dp K H (.ref a) (dL L) := .lst h (dpa_prs p)
theorem dp_ints {K : PySem.W.Frag} {H : Hp} {a : Addr} {ns : List Int} (h : SqL K H a (ns.map V.int)) : Dp K H (.ref a) (dI ns) := .lst h (dpa_ints ns)
theorem sm_ints {ns : List Int} {N : Nat} (h : ∀ i ∈ ns, i.natAbs < 10 ^ 12) (hl : ns.length ≤ N) : Sm (15 * N + 3) 2 (dI ns) := by
  refine (Sm.lst (N := 13) (k := 1) (ds := ns.map .int) fun d hd => ?_).mono (by rw [List.length_map]; omega) (by omega)
  obtain ⟨i, hi, rfl⟩ := List.mem_map.mp hd
  exact Sm.int (h i hi)
theorem sm_lay {L : List (Int × Int)} {N : Nat} (h : ∀ p ∈ L, p.1.natAbs < 10 ^ 12 ∧ p.2.natAbs < 10 ^ 12) (hl : L.length ≤ N) : Sm (35 * N + 3) 3 (dL L) := by
  refine (Sm.lst (N := 33) (k := 2) (ds := L.map dP) fun d hd => ?_).mono (by rw [List.length_map]; omega) (by omega)
  obtain ⟨p, hp, rfl⟩ := List.mem_map.mp hd
  refine (Sm.tup (N := 13) (k := 1) (ds := [.int p.1, .int p.2]) fun d hd => ?_).mono (by show (13 + 2) * 2 + 3 ≤ 33; omega) (by omega)
  rcases List.mem_cons.mp hd with rfl | hd
  · exact Sm.int (h p hp).1
  · rw [List.mem_singleton.mp hd]; exact Sm.int (h p hp).2
theorem Lay.small {n : Int} {L : List (Int × Int)} (h : Lay n L) : Sm 2103 3 (dL L) := (sm_lay (N := 60) (fun p hp => by have := h.cp p hp; have := h.n60; omega) h.len).mono (by omega) (by omega)
/-- equal data are told equal, and not unequal -/
theorem r_eqD {K : PySem.W.Frag} {x y : V} {H : Hp} {Q : VK} {N k : Nat} {d : PyData} (hx : Dp K H x d) (hy : Dp K H y d) (s : Sm N k d) (hk : k ≤ 64) (q : Q (.bl true) H) : rEqD K x y H Q := ⟨d, d, hx, hy, s.shaped hk, s.shaped hk, by rw [SeqAt.eqv_refl d s.lay]; exact q⟩
theorem r_neD {K : PySem.W.Frag} {x y : V} {H : Hp} {Q : VK} {N k : Nat} {d : PyData} (hx : Dp K H x d) (hy : Dp K H y d) (s : Sm N k d) (hk : k ≤ 64) (q : Q (.bl false) H) : rNeD K x y H Q := ⟨d, d, hx, hy, s.shaped hk, s.shaped hk, by rw [SeqAt.eqv_refl d s.lay]; exact q⟩
end Vf
namespace Vf
open PySem PySem.Spec PyProof.Rows L2
theorem lay_ints (ns : List Int) : (dI ns).canLay0 = true ∧ SeqAt.shaped (dI ns) = true := by
  have h : ∀ ns : List Int, PyData.canLayAll0 (ns.map .int) = true ∧ PyData.depthAll (ns.map .int) = 0 := fun ns => by
    induction ns with
    | nil => exact ⟨by simp only [List.map_nil, PyData.canLayAll0], by simp only [List.map_nil, PyData.depthAll]⟩
    | cons n ns ih => exact ⟨by simp only [List.map_cons, PyData.canLayAll0, PyData.canLay0, ih.1, Bool.and_self], by simp only [List.map_cons, PyData.depthAll, PyData.depth, ih.2]; rfl⟩
  have h1 : (dI ns).canLay0 = true := by simp only [dI, PyData.canLay0, (h ns).1]
  refine ⟨h1, ?_⟩
  unfold SeqAt.shaped
  rw [h1, Bool.true_and]
  exact decide_eq_true (by simp only [dI, PyData.depth, (h ns).2]; omega)
theorem r_eqI1 {K : PySem.W.Frag} {x y : V} {H : Hp} {Q : VK} {ns : List Int} (hx : Dp K H x (dI ns)) (hy : Dp K H y (dI ns)) (q : Q (.bl true) H) : rEqD K x y H Q :=
  ⟨_, _, hx, hy, (lay_ints ns).2, (lay_ints ns).2, by rw [SeqAt.eqv_refl _ (lay_ints ns).1]; exact q⟩
theorem r_neI1 {K : PySem.W.Frag} {x y : V} {H : Hp} {Q : VK} {ns : List Int} (hx : Dp K H x (dI ns)) (hy : Dp K H y (dI ns)) (q : Q (.bl false) H) : rNeD K x y H Q :=
  ⟨_, _, hx, hy, (lay_ints ns).2, (lay_ints ns).2, by rw [SeqAt.eqv_refl _ (lay_ints ns).1]; exact q⟩
/-- None or an int -/
def vO (o : Option Int) : V := (o.map V.int).getD .non
def dO (o : Option Int) : PyData := (o.map PyData.int).getD .none
theorem dp_opt {K : PySem.W.Frag} {H : Hp} (o : Option Int) : Dp K H (vO o) (dO o) := by
  cases o with
  | none => exact .non
  | some i => exact .int i
theorem dpa_opts {K : PySem.W.Frag} {H : Hp} : ∀ os : List (Option Int), DpAll K H (os.map vO) (os.map dO)
  | [] => .nil
  | o :: os => .cons (dp_opt o) (dpa_opts os)
theorem sm_opts {os : List (Option Int)} {N : Nat} (h : ∀ i, some i ∈ os → i.natAbs < 10 ^ 12) (hl : os.length ≤ N) : Sm (15 * N + 3) 2 (.list (os.map dO)) := by
  refine (Sm.lst (N := 13) (k := 1) (ds := os.map dO) fun d hd => ?_).mono (by rw [List.length_map]; omega) (by omega)
  obtain ⟨o, ho, rfl⟩ := List.mem_map.mp hd
  cases o with
  | none => exact Sm.non
  | some i => exact Sm.int (h i ho)
theorem par_mem {n : Int} {L : List (Int × Int)} (hL : Lay n L) {e i : Int} (h : parI L e = some i) : -n ≤ i ∧ i ≤ n ∧ i ≠ 0 := by
  unfold parI at h
  obtain ⟨q, hq, rfl⟩ := Option.map_eq_some_iff.mp h
  have hm := List.mem_of_find?_eq_some hq
  unfold tabI at hm
  obtain ⟨p, hp, hm⟩ := List.mem_flatMap.mp hm
  have := hL.cp p hp
  simp only [List.mem_cons, List.not_mem_nil, or_false] at hm
  rcases hm with rfl | rfl
  · exact ⟨by show -n ≤ p.2; omega, this.2.2.1, this.2.2.2.2⟩
  · exact ⟨this.1, by show p.1 ≤ n; omega, this.2.2.2.1⟩
theorem r_clear {l : Addr} {xs : List V} {H : Hp} {Q : VK} (hl : H l = some (.lst xs)) (h : Q .non (upd H l (.lst []))) : rClear (.ref l) [] H Q := ⟨l, xs, rfl, rfl, hl, h⟩
theorem log_small {i : Int} (h : i.natAbs < 2 ^ 1000) : i.natAbs.log2 < 1920 := log2_small (Nat.lt_of_lt_of_le h (Nat.pow_le_pow_right (by decide) (by decide)))
end Vf

namespace Vf
open PySem PySem.Spec PyProof.Rows L2 NdefX ClX

/-! ### own errors whose __init__ asks super() -/
/-- the object of a class of errors, over ValueError at last -/
def ErrAt (h : Heap) (C : Addr) : Prop := ∃ (nm q : Str) (ns : Addr) (bs ms : List Value) (sn : List Str) (sub : List Value) (ab : Bool) (co : Option Bool) (di : Option Addr) (k0 k1 k2 k3 k5 : Option Value),
  h.get? C = some (excClassObj nm q C ns bs ms true sn sub ab co di k0 k1 k2 k3 k5 "ValueError.__new__") ∧ PySem.HandSPX.refsVE ms = true
theorem OexC.at_ {K : PySem.W.Frag} {C : Addr} {h : Heap} (T : OexC K C) (X : K.In h) : ErrAt h C := by
  obtain ⟨nm, q, ns, bs, ms, sn, sub, ab, co, di, k0, k1, k2, k3, k5, e, r⟩ := T.cls
  exact ⟨nm, q, ns, bs, ms, sn, sub, ab, co, di, k0, k1, k2, k3, k5, X _ _ e, r⟩
/-- the wrapper of ValueError.__init__, bound to a new error, called: the error stays as it is but for the place of its arguments -/
theorem call_mwV {P : Program} {w : World} {A : Around} {E : Value → Shared → Prop} {s : Shared} {u a C t0 : Addr} {us : List Value} {Q : Value → Shared → Prop} (hC : ErrAt s.heap C) (ha : s.heap.get? a = some (HandSPX.excO C t0))
    (hu : s.heap.get? u = some (PySem.W.kxs_mw "ValueError.__init__" a)) (few : us.length ≤ sizeLine) (next : ∀ (hp : Heap) (t1 : Addr), (∀ b o, b ≠ a → s.heap.get? b = some o → hp.get? b = some o) → hp.get? a = some (HandSPX.excO C t1) → Q .none { s with heap := hp }) :
    wpAny (model P w) A (call (.ref u) us) Q E s := by
  obtain ⟨hp, gs, dn, tk, os⟩ := s
  obtain ⟨nm, q, ns, bs, ms, sn, sub, ab, co, di, k0, k1, k2, k3, k5, hcls, _⟩ := hC
  have V := PySem.F.excBase_ValueError
  have wrap : (Value.type "method-wrapper" == Value.type "method" || Value.type "method-wrapper" == Value.type "builtin_function_or_method" || Value.type "method-wrapper" == Value.type "method-wrapper") = true := by decide
  have last : ∀ hh : Heap, (∀ b o, b ≠ a → hp.get? b = some o → hh.get? b = some o) → hh.get? a = some (HandSPX.excO C hp.objs.size) → Q .none ⟨hh, gs, dn, tk, os⟩ := fun hh k e => next hh _ k e
  refine wpAny_call (codeAny_of_tree (show wpAny (model P w) A.in1 (callAny (.ref u) ⟨us, []⟩) _ _ _ from ?_))
  unfold callAny
  refine wpAny_bind (wpAny_load hu (?_ : wpAny _ _ _ _ _ _))
  simp only [wrap, if_true]
  refine PySem.W.KFB.if_so (by decide) (wpAny_bind (PySem.W.check_bound_init V.toExcCallFacts hcls ha rfl (wpAny_bind (wpAny_pure (wpAny_pure ⟨plainId_quiet V.init.plain _, codeAny_builtin V.initEntry ?_⟩)))))
  exact PySem.W.exc_init_tree (cls := .ref C) (t0 := t0) (dv := none) (c2 := .none) (c3 := .none) (b4 := .bool false) ha few fun hh k e _ => last hh k e

/-- what stands above a class D in the order of lookup says ValueError.__init__ -/
abbrev supV (K : PySem.W.Frag) (D : Addr) : Prop := PySem.W.ks_superIn K D D "__init__" = some (some (.builtin "ValueError.__init__"))

/-- how the flow of such a body ends the call -/
theorem ends_n {CX : CXT} {P : Program} {w : World} {K : PySem.W.Frag} {mg : Str → Option Value} {base : Heap} {N : List Str} {F : NF} {f : Addr} {A : Around} {outer : List Env} {s s' : Shared} {H : Hp} {Q : VK} {E : XK} {fl : Flow}
    (h : SP (ncx CX P w K mg base N F f A outer s H E) [] { nx := fun _ H' => Q .non H', rt := Q } fl s') : CE outer P w H s Q (match fl with | .ret v => v | _ => .none) s' := by
  match fl, h with
  | .ret u, ⟨v, _, H', J, rv, q⟩ => exact ⟨v, H', J.os, J.bare, J.base, J.hok, rv, q⟩
  | .next, ⟨_, H', J, q⟩ => exact ⟨.non, H', J.os, J.bare, J.base, J.hok, rfl, q⟩
  | .brk, ⟨_, _, _, q⟩ => exact q.elim
  | .cont, ⟨_, _, _, q⟩ => exact q.elim

theorem fn_sup {CX : CXT} {P : Program} {w : World} {K : PySem.W.Frag} {mg : Str → Option Value} {base : Heap} {k : Nat} {f c cc C : Addr} {name qual file : Str} {params : Arguments} {scope : Scope} {ar : Arg} {e : Expr} {rest : List Stmt} {p0 p1 p2 p3 p4 : Pos}
    {kV doc pm ct oc ccl cl : Value} {an od cdd cld : Option Addr} {osl ccs csl : Array (Option Value)} {vs0 : Array Value} {tf : Tok} {N ps : List Str} {sp : Sp} {pl : Sem Bool}
    (lk : K.lookup f = some ⟨oc, od, .func (PySem.W.fnX name qual params (.Expr (.Call (.Attribute (.Call (.Name "super" p0) [] [] p1) "__init__" p2) [e] [] p3) p4 :: rest) scope [("__class__", cc)] .none kV doc pm an (.ref c) ct), osl⟩)
    (hcd : PySem.W.codeIn K (.ref c) qual = true) (S : NScope N ps ["__class__"] scope)
    (lcc : K.lookup cc = some ⟨cl, cld, .cell (some (.ref C)), csl⟩) (hp : (params.posonlyargs ++ params.args).head? = some ar) (eps : ps.head? = some ar.arg)
    (lc : K.lookup c = some ⟨ccl, cdd, .fields vs0, ccs⟩) (hvs : vs0[2]? = some (.str file tf)) (hfile : ((P.main.file : Str) == file) = true) (hsuper : mg "super" = none)
    (htop : (P.main.scope.names.lookup ("super" : Str)).isSome = false) (hst : PySem.W.nsIn K cStatics "thirdparty.any" = some none) (hks : scope.names.lookup ("super" : Str) = some .globalImplicit)
    (T : OexC K C) (sV : supV K C) (vE : PySem.W.subIn K (.ref C) (.type "ValueError") = some true)
    (hev : ∀ L, eval (.Call (.Attribute (.Call (.Name "super" p0) [] [] p1) "__init__" p2) [e] [] p3) (PySem.W.envX qual scope L f (.ref c) [("__class__", cc)]) = (do
      let ov ← attributeBase (.Call (.Name "super" p0) [] [] p1) "__init__" (PySem.W.envX qual scope L f (.ref c) [("__class__", cc)]) (eval (.Call (.Name "super" p0) [] [] p1) (PySem.W.envX qual scope L f (.ref c) [("__class__", cc)]))
      standAt p2.atName
      let (ff, first) ← holding [ov] (getMethod ov "__init__" pl)
      callWith p3 ff first (backTo p3 (starEach [e] (PySem.W.envX qual scope L f (.ref c) [("__class__", cc)]))) []))
    (hi : ∀ L, interactive (PySem.W.envX qual scope L f (.ref c) [("__class__", cc)]) = false) (hsw : ∀ L, swapsWith (.Call (.Attribute (.Call (.Name "super" p0) [] [] p1) "__init__" p2) [e] [] p3) none p4.line (PySem.W.envX qual scope L f (.ref c) [("__class__", cc)]) = pure false)
    (hse : ∀ L, starEach [e] (PySem.W.envX qual scope L f (.ref c) [("__class__", cc)]) = [(false, eval e (PySem.W.envX qual scope L f (.ref c) [("__class__", cc)]))])
    (len : ∀ vs H Q E, sp vs H Q E → vs.length = ps.length)
    (hb : ∀ (A : Around) (outer : List Env) (s : Shared) (H : Hp) (vs : List V) (Q : VK) (E : XK), Room k (A.deeper (envF ⟨name, qual, params, .Expr (.Call (.Attribute (.Call (.Name "super" p0) [] [] p1) "__init__" p2) [e] [] p3) p4 :: rest, scope, [("__class__", cc)], c⟩ f s.heap.objs.size)) → sp vs H Q E →
      ∃ a ws, vs = .ref a :: ws ∧ H a = some (exo a C none) ∧ ∃ ta, PA (ncx CX P w K mg base N ⟨name, qual, params, .Expr (.Call (.Attribute (.Call (.Name "super" p0) [] [] p1) "__init__" p2) [e] [] p3) p4 :: rest, scope, [("__class__", cc)], c⟩ f A outer s H E) [e] ta ∧
        ∃ t, PSs (ncx CX P w K mg base N ⟨name, qual, params, .Expr (.Call (.Attribute (.Call (.Name "super" p0) [] [] p1) "__init__" p2) [e] [] p3) p4 :: rest, scope, [("__class__", cc)], c⟩ f A outer s H E) rest t ∧
          ta (startF N vs [none]) H (fun us H1 => us.length ≤ 1000 ∧ H1 a = some (exo a C none) ∧ t { nx := fun _ H' => Q .non H', rt := Q } (startF N vs [none]) H1)) :
    FnOk P w K mg base CX (k + 1) f (PySem.W.fnX name qual params (.Expr (.Call (.Attribute (.Call (.Name "super" p0) [] [] p1) "__init__" p2) [e] [] p3) p4 :: rest) scope [("__class__", cc)] .none kV doc pm an (.ref c) ct) ps sp := by
  refine ⟨len, fun A outer s H args us vs Q E hr e0 hbd r hsp => ?_⟩
  obtain ⟨a, ws, rfl, ea, ta, hta, t, ht, hq⟩ := hb A outer s H vs Q E (hr.deeper _) hsp
  have hl := len _ _ _ _ hsp
  have keep : ∀ b o, base.get? b = some o → s.heap.get? b = some o := fun b o z => (e0.bs b o z).1
  have KX : K.In s.heap := e0.mod.kin.keeps keep
  have lim : s.heap.NoLimit := e0.mod.nolimit.keeps keep
  refine ks_codeAny_call_defAt hr.depth (KX _ _ lk) rfl lim (PySem.W.codeRec_of KX hcd) rfl hbd S.nocell (fun y hy => S.par y.1 (List.of_mem_zip (show (y.1, y.2) ∈ ps.zip us from hy)).1) (fun h₁ hns hk => ?_) S.co S.gen S.kind
  have CA : CellsAt [(("__class__" : Str), cc)] ["__class__"] [none] s.heap H := by
    refine ⟨rfl, fun y b e1 => ?_, fun x y b e1 e2 => ?_, fun i y e1 => ?_⟩
    · have hbb : b = cc := by
        by_cases hy : y = "__class__"
        · subst hy
          simp [List.lookup] at e1
          exact e1.symm
        · have : (y == ("__class__" : Str)) = false := by simpa using hy
          simp [List.lookup, this] at e1
      subst hbb
      exact ⟨(e0.bs _ _ (e0.mod.kin _ _ lcc)).2, _, _, KX _ _ lcc, rfl⟩
    · have one : ∀ z, List.lookup z [(("__class__" : Str), cc)] = some b → z = "__class__" := fun z hz => by
        by_cases hy : z = "__class__"
        · exact hy
        · have : (z == ("__class__" : Str)) = false := by simpa using hy
          simp [List.lookup, this] at hz
      rw [one x e1, one y e2]
    · cases i with
      | zero =>
        simp at e1
        subst e1
        exact ⟨cc, by simp [List.lookup], fun v hv => by simp at hv⟩
      | succ j => simp at e1
  have I := inv_startN (CX := CX) (F := ⟨name, qual, params, .Expr (.Call (.Attribute (.Call (.Name "super" p0) [] [] p1) "__init__" p2) [e] [] p3) p4 :: rest, scope, [("__class__", cc)], c⟩) (f := f) (E := E) (tk := s.toks + (ps.zip us).length) S hr.hd e0 hl r CA hns hk
  obtain ⟨u0, us', rfl, ru0, rus⟩ : ∃ u0 us', us = u0 :: us' ∧ RelV (.ref a) u0 ∧ Vals ws us' := by
    cases r with
    | cons ru rr => exact ⟨_, _, rfl, ru, rr⟩
  obtain rfl : u0 = Value.ref a := ru0
  have ndP : ps.Nodup := by
    have q := S.nd.sublist (List.take_sublist (ps.length + 1) N)
    have q2 := S.pre
    rw [show ps.length + [("__class__" : Str)].length = ps.length + 1 from rfl] at q2
    rw [q2] at q
    exact (List.nodup_append.mp q).1
  have hself : (fun y => (ps.zip (Value.ref a :: us')).reverse.lookup y) ar.arg = some (.ref a) := by
    refine zip_look (i := 0) ndP ?_ rfl
    rw [← eps, List.head?_eq_getElem?]
  have hlocal : scope.names.lookup ar.arg = some .local := S.par ar.arg (by
    cases ps with
    | nil => simp at eps
    | cons p ps => simp at eps; rw [eps]; exact List.mem_cons_self)
  have hfree : scope.names.lookup ("__class__" : Str) = some .free := S.frk _ (by simp)
  obtain ⟨nm', q', N', bs', bm', sn', sub', ab', col', dd', k0', k1', k2', k3', k5', hCk, hbm⟩ := T.cls
  have hcl : PySem.W.clsIn K C = some { name := nm', bases := bs', mro := .ref C :: bm', ns := N', qualname := q', hasDict := true, slotNames := sn', subclasses := sub', abstract := ab', collection := col', hasDel := false } := by unfold PySem.W.clsIn; rw [hCk] <;> rfl
  show _root_.PySem.wpAt (model P w) (A.deeper (envF ⟨name, qual, params, .Expr (.Call (.Attribute (.Call (.Name "super" p0) [] [] p1) "__init__" p2) [e] [] p3) p4 :: rest, scope, [("__class__", cc)], c⟩ f s.heap.objs.size)) (.func (.Expr (.Call (.Attribute (.Call (.Name "super" p0) [] [] p1) "__init__" p2) [e] [] p3) p4 :: rest) (PySem.W.envX qual scope s.heap.objs.size f (.ref c) [("__class__", cc)])) (execs (.Expr (.Call (.Attribute (.Call (.Name "super" p0) [] [] p1) "__init__" p2) [e] [] p3) p4 :: rest) (PySem.W.envX qual scope s.heap.objs.size f (.ref c) [("__class__", cc)])) _ _ _
  refine ks_wpAt_execs_cons (ks_wpAt_Expr_any (ks_wpAt_MethodCall ?_ (hev _)) (hi _) (hsw _))
  have KX1 : K.In h₁ := KX.keeps hk
  refine ks_wpAt_super_base hks hfree (by decide) rfl (KX1 _ _ lk) rfl hp rfl (KX1 _ _ lc) rfl hvs hfile htop ?_
  obtain ⟨mb, hmb1, hmb2⟩ := e0.mod.blt
  have bk : ∀ b o, base.get? b = some o → h₁.get? b = some o := fun b o z => hk b o (keep b o z)
  refine PySem.W.ks_loadName_global S.kind hks (Calls.loadGlobal_builtin (e0.mod.glob.keeps bk) hsuper (hmb1.keeps bk) ((hmb2 _ (by decide)).trans (show bootBuiltins "super" = some (.type "super") by decide +kernel)) ⟨rfl, ?_⟩)
  refine wpAny_loadName_free S.kind hfree rfl ⟨_, KX1 _ _ lcc, rfl⟩ ?_
  refine wpAny_loadName_local S.kind hlocal hns hself ?_
  refine ks_wpAny_isType_cls (KX1 _ _ hCk) rfl ⟨rfl, ?_⟩
  have hok1 := I.hok
  obtain ⟨t1, hax⟩ := exo_at (show HOk P w H h₁ from I.hok) ea
  have sub0 : PySem.W.mroIn K C (.ref C) = some true := by
    unfold PySem.W.mroIn
    rw [hcl]
    simp
  refine ks_wpAny_call_super (KX1 _ _ hCk) rfl hax rfl (fun c e => by cases e) (PySem.W.looks_mroIn KX1 sub0) (fun h2 e2 k2 => ?_)
  have I2 := pin_new (t' := s.toks + (ps.zip (Value.ref a :: us')).length) I k2 (Nat.le_refl _) e2 (fun v z => by cases z)
  have KX2 : K.In h2 := KX1.keeps k2
  have hax2 := k2 _ _ hax
  have IA : PySem.W.InstAt h2 a { cls := .ref C, dict := none, data := .fields #[.ref t1, .none, .none, .none, .bool false, .none] } C none := ⟨hax2, rfl, rfl, trivial⟩
  have aC : a ≠ C := PySem.W.ks_ne KX2 IA hcl
  have sV' : PySem.W.alongIn K "__init__" (((Value.ref C :: bm').dropWhile (· != .ref C)).drop 1) = some (some (.builtin "ValueError.__init__")) := by
    have z : PySem.W.ks_superIn K C C "__init__" = some (some (.builtin "ValueError.__init__")) := sV
    unfold PySem.W.ks_superIn at z
    rw [hcl] at z
    exact z
  refine PySem.W.kxs_getMethod PySem.W.kxs_ValueError e2 (PySem.W.looks_opaque KX2 hst) (l₀ := .ref C :: bm') (fun A Q E s k q => wpAny_bind ((PySem.W.looks_clsIn KX2 hcl) A _ E s k (wpAny_pure q))) rfl KX2 sV' (IA.type.andThen (PySem.W.looks_subIn KX2 vE)) aC (by decide) ?_
  have I3 := pin_new (t' := s.toks + (ps.zip (Value.ref a :: us')).length + 1) I2 (h' := h2.push (PySem.W.kxs_mw "ValueError.__init__" a)) (fun b o z => Heap.get?_push_of_some _ z) (Nat.le_refl _) (Heap.get?_push_at rfl rfl) (fun v z => by cases z)
  refine PySem.W.kxs_callWith (i := "ValueError.__init__") (x := a) (by rw [hse]; rfl) ?_
  have hz := (hta.run p3 _ _ _ _ _ I3 hq)
  have e3 : backTo p3 (starEach [e] (PySem.W.envX qual scope s.heap.objs.size f (.ref c) [("__class__", cc)])) = [(false, eval e (PySem.W.envX qual scope s.heap.objs.size f (.ref c) [("__class__", cc)]))] := by
    rw [hse]; rfl
  rw [e3]
  replace hz : wpAny (model P w) (A.deeper (envF ⟨name, qual, params, .Expr (.Call (.Attribute (.Call (.Name "super" p0) [] [] p1) "__init__" p2) [e] [] p3) p4 :: rest, scope, [("__class__", cc)], c⟩ f s.heap.objs.size)) (spliced (backTo p3 (starEach [e] (PySem.W.envX qual scope s.heap.objs.size f (.ref c) [("__class__", cc)])))) _ _ _ := hz
  rw [e3] at hz
  refine Calls.evalArgs_plain (wpAny_mono hz (fun vs4 s4 h4 => ?_) fun _ _ z => z)
  obtain ⟨vs', H4, I4, r4, hlen, ea4, q4⟩ := h4
  have hu := pin_at I4
  refine ⟨hu, ?_⟩
  obtain ⟨hp4, g4, d4, tk4, os4⟩ := s4
  obtain ⟨t4, hax4⟩ := exo_at I4.hok ea4
  refine call_mwV (OexC.at_ T I4.kIn) hax4 hu (by rw [List.nil_append, ← Paired.length r4, sizeLine_eq]; omega) fun h5 t5 k5 hx5 => ?_
  have J := I4.write (t' := tk4) (x := a) (e := a) (o := exo a C none) (by rw [ea4]; exact True.intro) (.inl rfl) k5 ⟨_, hx5⟩ (exo_ok hx5)
  have eu : upd H4 a (exo a C none) = H4 := by
    funext b
    by_cases hb : b = a
    · rw [hb, upd_same, ea4]
    · rw [upd_ne hb]
  rw [eu] at J
  refine wpAt_of_wpAny (wpAny_mono (ht.run _ _ _ _ _ (unpin (unpin J)) q4) (fun fl s' hs => ?_) fun e s' hs => hs)
  have z := ends_n hs
  cases fl <;> exact z

/-! ### the text of such an error, and its field -/
/-- None or an int that is not too long -/
def Easy (v : V) : Prop := v = .non ∨ ∃ i : Int, v = .int i ∧ i.natAbs.log2 < 1920
theorem easy_text {i : Int} (h : i.natAbs.log2 < 1920) : ((toString i : String) : Str).length ≤ 2000 := by
  have e := int_text_length_le (k := 1920) (by decide) h
  show (Str.ofString (toString i)).length ≤ 2000
  rw [PySem.ofString_length]
  omega
section
variable {X : Cx}
theorem pe_fmtE {e : Expr} {te : TE} {pos : Pos} (he : PE X e te) : PE X (.FormattedValue e (-1) none pos) (fun σ H Q => te σ H fun x H1 => Easy x ∧ ∀ m : Str, m.length ≤ 2000 → Q (.str m) H1) := by
  constructor
  intro pins s σ H Q I h
  apply wpAny_FormattedValue_plain
  refine thn (he.run pins s σ H _ I h) ?_
  rintro v s1 ⟨_, H1, J, r, rfl | ⟨i, rfl, hi⟩, q⟩
  · cases (show v = Value.none from r)
    exact wpAny_formatField_none ⟨.str "None", H1, J.tok _, ⟨_, rfl⟩, q _ (by decide)⟩
  · obtain ⟨_, rfl⟩ := r
    exact wpAny_formatField_int hi ⟨.str (toString i), H1, J.tok _, ⟨_, rfl⟩, q _ (easy_text hi)⟩
/-- a part of an error's text -/
inductive Part (par : Str) : Expr → Prop where
  | cst (s : Str) (j : Nat) (p : Pos) (h : s.length ≤ 2000) : Part par (.Constant (.str s) j p)
  | fmt (p p' : Pos) : Part par (.FormattedValue (.Name par p) (-1) none p')
theorem parts_ok {par : Str} {i : Nat} (hN : X.N[i]? = some par) (hv : Vis X.env.scope par) (hd : (par == ("__debug__" : Str)) = false) (hcd : (par == ("__classdict__" : Str)) = false) :
    ∀ l : List Expr, (∀ e ∈ l, Part par e) → ∃ ts, PJ X l ts ∧ ∀ (acc : Str) (σ : L2.St) (H : Hp) (v : V) (Q : Str → Hp → Prop), σ[i]? = some (some v) → Easy v → acc.length + 2000 * l.length ≤ sizeLine → (∀ m, Q m H) → tJs ts acc σ H Q
  | [], _ => ⟨[], .nil, fun acc σ H v Q _ _ _ q => q acc⟩
  | e :: l, h => by
    obtain ⟨ts, hp, ht⟩ := parts_ok hN hv hd hcd l fun x hx => h x (List.mem_cons_of_mem _ hx)
    cases h e List.mem_cons_self with
    | cst s j p hs =>
      refine ⟨_ :: ts, .cons pe_str hp, fun acc σ H v Q e1 ev hz q => ?_⟩
      rw [List.length_cons] at hz
      refine ⟨s, rfl, by rw [strLen_append]; omega, ht _ σ H v Q e1 ev (by rw [strLen_append]; omega) q⟩
    | fmt p p' =>
      refine ⟨_ :: ts, .cons (pe_fmtE (pe_var hN hv hd hcd)) hp, fun acc σ H v Q e1 ev hz q => ?_⟩
      rw [List.length_cons] at hz
      exact ⟨v, e1, ev, fun m hm => ⟨m, rfl, by rw [strLen_append]; omega, ht _ σ H v Q e1 ev (by rw [strLen_append]; omega) q⟩⟩
end

/-- what __init__ of an error with a field does -/
def spErr (fld : Str) (C : Addr) : Sp := fun vs H Q _ => ∃ a v, vs = [.ref a, v] ∧ H a = some (exo a C none) ∧ Easy v ∧ ∀ dx, H dx = none → dx ≠ a → Q .non (upd (upd H dx (exd dx [(fld, v)])) a (exo a C (some dx)))

theorem ok_err {CX : CXT} {P : Program} {w : World} {K : PySem.W.Frag} {mg : Str → Option Value} {base : Heap} {k : Nat} {f c cc C : Addr} {name qual file par fld : Str} {params : Arguments} {scope : Scope} {ar : Arg} {v1 v2 : Expr} {vr : List Expr} {p0 p1 p2 p3 p4 p5 p6 p7 p8 pj : Pos}
    {kV doc pm ct oc ccl cl : Value} {an od cdd cld : Option Addr} {osl ccs csl : Array (Option Value)} {vs0 : Array Value} {tf : Tok} {pl : Sem Bool}
    (lk : K.lookup f = some ⟨oc, od, .func (PySem.W.fnX name qual params [.Expr (.Call (.Attribute (.Call (.Name "super" p0) [] [] p1) "__init__" p2) [.JoinedStr (v1 :: v2 :: vr) pj] [] p3) p4, .Assign [.Attribute (.Name "self" p5) fld p6] (.Name par p7) p8] scope [("__class__", cc)] .none kV doc pm an (.ref c) ct), osl⟩)
    (hcd : PySem.W.codeIn K (.ref c) qual = true) (S : NScope ["self", par, "__class__"] ["self", par] ["__class__"] scope)
    (lcc : K.lookup cc = some ⟨cl, cld, .cell (some (.ref C)), csl⟩) (hp : (params.posonlyargs ++ params.args).head? = some ar) (eps : ar.arg = "self")
    (lc : K.lookup c = some ⟨ccl, cdd, .fields vs0, ccs⟩) (hvs : vs0[2]? = some (.str file tf)) (hfile : ((P.main.file : Str) == file) = true) (hsuper : mg "super" = none)
    (htop : (P.main.scope.names.lookup ("super" : Str)).isSome = false) (hst : PySem.W.nsIn K cStatics "thirdparty.any" = some none) (hks : scope.names.lookup ("super" : Str) = some .globalImplicit)
    (T : OexC K C) (sV : supV K C) (vE : PySem.W.subIn K (.ref C) (.type "ValueError") = some true) (hno : PySem.W.findIn K (.ref C) fld = some none)
    (hev : ∀ L, eval (.Call (.Attribute (.Call (.Name "super" p0) [] [] p1) "__init__" p2) [.JoinedStr (v1 :: v2 :: vr) pj] [] p3) (PySem.W.envX qual scope L f (.ref c) [("__class__", cc)]) = (do
      let ov ← attributeBase (.Call (.Name "super" p0) [] [] p1) "__init__" (PySem.W.envX qual scope L f (.ref c) [("__class__", cc)]) (eval (.Call (.Name "super" p0) [] [] p1) (PySem.W.envX qual scope L f (.ref c) [("__class__", cc)]))
      standAt p2.atName
      let (ff, first) ← holding [ov] (getMethod ov "__init__" pl)
      callWith p3 ff first (backTo p3 (starEach [.JoinedStr (v1 :: v2 :: vr) pj] (PySem.W.envX qual scope L f (.ref c) [("__class__", cc)]))) []))
    (hi : ∀ L, interactive (PySem.W.envX qual scope L f (.ref c) [("__class__", cc)]) = false) (hsw : ∀ L, swapsWith (.Call (.Attribute (.Call (.Name "super" p0) [] [] p1) "__init__" p2) [.JoinedStr (v1 :: v2 :: vr) pj] [] p3) none p4.line (PySem.W.envX qual scope L f (.ref c) [("__class__", cc)]) = pure false)
    (hse : ∀ L, starEach [.JoinedStr (v1 :: v2 :: vr) pj] (PySem.W.envX qual scope L f (.ref c) [("__class__", cc)]) = [(false, eval (.JoinedStr (v1 :: v2 :: vr) pj) (PySem.W.envX qual scope L f (.ref c) [("__class__", cc)]))])
    (hs2 : ∀ L, swapsWith (.Name par p7) (some (.Attribute (.Name "self" p5) fld p6)) p8.line (PySem.W.envX qual scope L f (.ref c) [("__class__", cc)]) = pure false)
    (parts : ∀ e ∈ v1 :: v2 :: vr, Part par e) (few : vr.length ≤ 100) (hd : (par == ("__debug__" : Str)) = false) (hcd2 : (par == ("__classdict__" : Str)) = false) :
    FnOk P w K mg base CX (k + 1) f (PySem.W.fnX name qual params [.Expr (.Call (.Attribute (.Call (.Name "super" p0) [] [] p1) "__init__" p2) [.JoinedStr (v1 :: v2 :: vr) pj] [] p3) p4, .Assign [.Attribute (.Name "self" p5) fld p6] (.Name par p7) p8] scope [("__class__", cc)] .none kV doc pm an (.ref c) ct) ["self", par] (spErr fld C) := by
  refine fn_sup (N := ["self", par, "__class__"]) lk hcd S lcc hp (by rw [eps]; rfl) lc hvs hfile hsuper htop hst hks T sV vE hev hi hsw hse (fun vs H Q E h => ?_) (fun A outer s H vs Q E hr h => ?_)
  · obtain ⟨_, _, rfl, _⟩ := h
    rfl
  · obtain ⟨a, v, rfl, ea, ev, q⟩ := h
    have lself : scope.names.lookup ("self" : Str) = some .local := S.par _ (by simp)
    have lpar : scope.names.lookup par = some .local := S.par _ (by simp)
    obtain ⟨ts, hpj, htj⟩ := parts_ok (X := ncx CX P w K mg base ["self", par, "__class__"] ⟨name, qual, params, [.Expr (.Call (.Attribute (.Call (.Name "super" p0) [] [] p1) "__init__" p2) [.JoinedStr (v1 :: v2 :: vr) pj] [] p3) p4, .Assign [.Attribute (.Name "self" p5) fld p6] (.Name par p7) p8], scope, [("__class__", cc)], c⟩ f A outer s H E) (par := par) (i := 1) rfl (Or.inl lpar) hd hcd2 _ parts
    refine ⟨a, [v], rfl, ea, _, pa_cons (pe_joined hpj) pa_nil (hse _), _, pss_one (ps_ost (pe_var (i := 0) rfl (Or.inl lself)) (pe_var (i := 1) rfl (Or.inl lpar) hd hcd2) (hs2 _)), ?_⟩
    refine htj Str.empty _ H v _ rfl ev ?_ fun m => ?_
    · rw [sizeLine_eq, List.length_cons, List.length_cons]
      show 0 + _ ≤ _
      omega
    · exact ⟨(show 1 ≤ 1000 by decide), ea, v, rfl, .ref a, rfl, a, C, rfl, T, hno, .inl ⟨ea, fun dx n ne => q dx n ne⟩⟩

/-! ### own errors as values -/
structure ErrC (K : PySem.W.Frag) (C : Addr) : Prop where
  ox : OexC K C
  xf : XfC K C
  ac : PySem.W.findIn K (.ref C) "__class__" = some (some (.builtin "object.__class__"))
  nc : PySem.W.specialIn K (.builtin "object.__class__") "__get__" = some (some (.builtin "getset_descriptor.__get__"))
  tc : PySem.W.takesIn K (.builtin "object.__class__") = some true
  mo : PySem.W.mroIn K C (.type "object") = some true
  ve : PySem.W.subIn K (.ref C) (.type "ValueError") = some true
def oexB (K : PySem.W.Frag) (C : Addr) : Bool := match K.lookup C with
  | some ⟨.type "type", _, .cls ⟨_, _, .ref D :: ms, _, _, true, _, _, _, _, false⟩, ⟨[_, _, _, _, some (.builtin n), _]⟩⟩ => D == C && n == "ValueError.__new__" && PySem.HandSPX.refsVE ms
  | _ => false
def errB (K : PySem.W.Frag) (C : Addr) : Bool :=
  oexB K C && decide (PySem.W.findIn K (.ref C) "__setattr__" = some (some (.builtin "object.__setattr__"))) && decide (PySem.W.typeIn K (.ref C) = some (.type "type")) && PySem.W.keepIn K (.ref C) && xfB K C
    && decide (PySem.W.findIn K (.ref C) "__class__" = some (some (.builtin "object.__class__"))) && decide (PySem.W.specialIn K (.builtin "object.__class__") "__get__" = some (some (.builtin "getset_descriptor.__get__")))
    && decide (PySem.W.takesIn K (.builtin "object.__class__") = some true) && decide (PySem.W.mroIn K C (.type "object") = some true) && decide (PySem.W.subIn K (.ref C) (.type "ValueError") = some true)
theorem oexB_ok {K : PySem.W.Frag} {C : Addr} (h : oexB K C = true) : ∃ nm q ns bs ms sn sub ab co di k0 k1 k2 k3 k5, K.lookup C = some (excClassObj nm q C ns bs ms true sn sub ab co di k0 k1 k2 k3 k5 "ValueError.__new__") ∧ PySem.HandSPX.refsVE ms = true := by
  unfold oexB at h
  split at h
  · rename_i look
    have h1 := Bool.and_eq_true_iff.mp h
    have h2 := Bool.and_eq_true_iff.mp h1.1
    have e1 := beq_iff_eq.mp h2.1
    have e2 := beq_iff_eq.mp h2.2
    subst e1 e2
    exact ⟨_, _, _, _, _, _, _, _, _, _, _, _, _, _, _, look, h1.2⟩
  · exact absurd h Bool.false_ne_true
theorem errB_ok {K : PySem.W.Frag} {C : Addr} (h : errB K C = true) : ErrC K C := by
  unfold errB at h
  simp only [Bool.and_eq_true, decide_eq_true_eq] at h
  obtain ⟨⟨⟨⟨⟨⟨⟨⟨⟨h1, h2⟩, h3⟩, h4⟩, h5⟩, h6⟩, h7⟩, h8⟩, h9⟩, h10⟩ := h
  have x := xfB_ok h5
  exact ⟨⟨oexB_ok h1, h2, x.exC, h3, h4⟩, x, h6, h7, h8, h9, h10⟩

/-! ### an error that is caught and kept -/
/-- at a: an error of the class cls, with the dict d, after it was raised -/
def ExR (cls : Value) (d : Option Addr) (a : Addr) : HO := .ext fun h => ∃ (oe : Obj) (vs : Array Value), h.get? a = some oe ∧ Zc cls d oe ∧ oe.data = .fields vs
theorem exR_ok {P : Program} {w : World} {H : Hp} {h : Heap} {a : Addr} {cls : Value} {d : Option Addr} {oe : Obj} {vs : Array Value} (e : h.get? a = some oe) (z : Zc cls d oe) (dt : oe.data = .fields vs) : ObjOk P w H h a (ExR cls d a) :=
  ⟨⟨oe, vs, e, z, dt⟩, ⟨oe, e⟩, fun _ _ ⟨o, v, q, r⟩ k => ⟨o, v, k o q, r⟩⟩
/-- at a: an error of the class C, with a field or without, new or caught -/
def ExV (H : Hp) (a C : Addr) : Prop := H a = some (ExO (.ref C) a) ∨ (∃ dx fs, H a = some (exo a C (some dx)) ∧ H dx = some (exd dx fs)) ∨ H a = some (ExR (.ref C) none a) ∨ ∃ dx fs, H a = some (ExR (.ref C) (some dx) a) ∧ H dx = some (.xd fs)
def ExF (H : Hp) (a C : Addr) (f : Str) (v : V) : Prop := ∃ dx, (H a = some (exo a C (some dx)) ∧ H dx = some (exd dx [(f, v)])) ∨ (H a = some (ExR (.ref C) (some dx) a) ∧ H dx = some (.xd [(f, v)]))
theorem ExF.ev {H : Hp} {a C : Addr} {f : Str} {v : V} (h : ExF H a C f v) : ExV H a C := by
  rcases h with ⟨dx, ⟨h1, h2⟩ | ⟨h1, h2⟩⟩
  · exact .inr (.inl ⟨dx, _, h1, h2⟩)
  · exact .inr (.inr (.inr ⟨dx, _, h1, h2⟩))
theorem ExV.mono {H H' : Hp} {a C : Addr} (h : ExV H a C) (k : ∀ b o, H b = some o → H' b = some o) : ExV H' a C := by
  rcases h with h | ⟨dx, fs, h1, h2⟩ | h | ⟨dx, fs, h1, h2⟩
  · exact .inl (k _ _ h)
  · exact .inr (.inl ⟨dx, fs, k _ _ h1, k _ _ h2⟩)
  · exact .inr (.inr (.inl (k _ _ h)))
  · exact .inr (.inr (.inr ⟨dx, fs, k _ _ h1, k _ _ h2⟩))
theorem ExF.mono {H H' : Hp} {a C : Addr} {f : Str} {v : V} (h : ExF H a C f v) (k : ∀ b o, H b = some o → H' b = some o) : ExF H' a C f v := by
  rcases h with ⟨dx, ⟨h1, h2⟩ | ⟨h1, h2⟩⟩
  · exact ⟨dx, .inl ⟨k _ _ h1, k _ _ h2⟩⟩
  · exact ⟨dx, .inr ⟨k _ _ h1, k _ _ h2⟩⟩
def tNew1 (C : Addr) (ta : TE) : TE := fun σ H Q => ta σ H fun _ H1 => ∀ a, H1 a = none → Q (.ref a) (upd H1 a (ExO (.ref C) a))
/-- a new object, and a heap in which it is known -/
theorem newX {H : Hp} {f : Addr → HO} {P : Addr → Hp → Prop} (h : ∀ a H2, Same H H2 → H a = none → H2 a = some (f a) → P a H2) : ∀ a, H a = none → P a (upd H a (f a)) := fun a n => h a _ (same_new n) n upd_same
def tNewF (C : Addr) (fld : Str) (ta : TE) : TE := fun σ H Q => ta σ H fun v H1 => Easy v ∧ ∀ a H2, Same H1 H2 → H1 a = none → ExF H2 a C fld v → Q (.ref a) H2
section
variable {X : Cx}
theorem exv_inst {pins : List (Addr × Obj)} {σ : L2.St} {H : Hp} {s : Shared} {a C : Addr} (I : Inv X pins σ H s) (h : ExV H a C) : ∃ ox od, PySem.W.InstAt s.heap a ox C od := by
  have bare : ∀ (oe : Obj) (vs : Array Value), s.heap.get? a = some oe → Zc (.ref C) none oe → oe.data = .fields vs → ∃ ox od, PySem.W.InstAt s.heap a ox C od := fun oe vs e z dt =>
    ⟨oe, none, e, z.1, by unfold PySem.W.notCls; rw [dt] <;> rfl, by rw [z.2]; trivial⟩
  rcases h with h | ⟨dx, fs, h1, h2⟩ | h | ⟨dx, fs, h1, h2⟩
  · obtain ⟨⟨oe, vs, e, z, dt, _⟩, _⟩ := (show ObjOk X.prog X.w H s.heap a (ExO (.ref C) a) from I.hok a _ h)
    exact bare oe vs e z dt
  · obtain ⟨t1, e⟩ := exo_at I.hok h1
    obtain ⟨mA, ⟨o, es, ep, e2, _⟩, _⟩ := exd_at I.hok h2
    exact ⟨_, some o, e, rfl, rfl, e2⟩
  · obtain ⟨⟨oe, vs, e, z, dt⟩, _⟩ := (show ObjOk X.prog X.w H s.heap a (ExR (.ref C) none a) from I.hok a _ h)
    exact bare oe vs e z dt
  · obtain ⟨⟨oe, vs, e, z, dt⟩, _⟩ := (show ObjOk X.prog X.w H s.heap a (ExR (.ref C) (some dx) a) from I.hok a _ h1)
    obtain ⟨mA, ⟨o, es, ep, e2, _⟩, _⟩ := (show ObjOk X.prog X.w H s.heap dx (.xd fs) from I.hok dx _ h2)
    exact ⟨oe, some o, e, z.1, by unfold PySem.W.notCls; rw [dt] <;> rfl, by rw [z.2]; exact e2⟩
/-- isinstance(e, C) -/
def rIsX (K : PySem.W.Frag) : List V → Hp → VK → Prop := fun xs H Q => ∃ (a C : Addr) (c : V) (cv : Value) (b : Bool), xs = [.ref a, c] ∧ ExV H a C ∧ ErrC K C ∧ ClsV c cv ∧ PySem.W.kitOne K (.ref C) cv = some b ∧ Q (.bl b) H
theorem call_isX : CallR X (.builtin "isinstance") (rIsX X.K) := by
  rintro pins s σ H _ us Q I r ⟨a, C, c, cv, b, rfl, hx, T, hk, e, q⟩
  match us, r with
  | [_, u2], .cons ra (.cons rc .nil) =>
    obtain rfl := hk.eq rc
    obtain rfl : _ = Value.ref a := ra
    obtain ⟨ox, od, inst⟩ := exv_inst I hx
    have known : (PySem.W.clsIn X.K C).isSome = true := by
      obtain ⟨nm, n, ns, bs, ms, sn, sub, ab, co, di, k0, k1, k2, k3, k5, look, _⟩ := T.ox.cls
      rw [show PySem.W.clsIn X.K C = _ from by unfold PySem.W.clsIn; rw [look]] <;> rfl
    exact PySem.W.kia_one (PySem.W.kitx_exc known T.xf.ga T.xf.gg T.xf.exC T.ac T.nc T.tc T.mo) I.kIn inst e (fun z => nomatch z) (fun tk => ⟨.bl b, H, I.tok tk, rfl, q⟩)
/-- e.f, e an error -/
theorem pe_xfv {e : Expr} {te : TE} {pos : Pos} {n : Str} (he : PE X e te) (hb : attributeBase e n X.env (eval e X.env) = eval e X.env := by rfl) :
    PE X (.Attribute e n pos) (fun σ H Q => te σ H fun x H1 => ∃ a C v, x = .ref a ∧ ExF H1 a C n v ∧ ErrC X.K C ∧ PySem.W.findIn X.K (.ref C) n = some none ∧ Q v H1) := by
  constructor
  intro pins s σ H Q I h
  apply attr_of hb
  refine thn (he.run pins s σ H _ I h) ?_
  rintro u s1 ⟨_, H1, J, ru, a, C, v, rfl, xf, T, free, q⟩
  obtain rfl : u = Value.ref a := ru
  have got : ∃ ox od w, PySem.W.InstAt s1.heap a ox C (some od) ∧ PySem.W.lookIn n od = some (some w) ∧ RelV v w := by
    have one : ([(n, v)] : List (Str × V)).lookup n = some v := by simp [List.lookup]
    obtain ⟨dx, ⟨h1, h2⟩ | ⟨h1, h2⟩⟩ := xf
    · obtain ⟨_, at_⟩ := exo_at J.hok h1
      obtain ⟨names, space, all⟩ := exd_at J.hok h2
      obtain ⟨od, obj, look⟩ := lookIn_ns space
      have mine := all n
      rw [one] at mine
      obtain ⟨w, hw, rw'⟩ := RelO.some_of mine
      exact ⟨_, od, w, ⟨at_, rfl, rfl, obj⟩, by rw [look, hw], rw'⟩
    · obtain ⟨⟨oe, vs, e, z, dt⟩, _⟩ := (show ObjOk X.prog X.w H1 s1.heap a (ExR (.ref C) (some dx) a) from J.hok a _ h1)
      obtain ⟨names, space, all⟩ := (show ObjOk X.prog X.w H1 s1.heap dx (.xd [(n, v)]) from J.hok dx _ h2)
      obtain ⟨od, obj, look⟩ := lookIn_ns space
      have mine := all n
      rw [one] at mine
      obtain ⟨w, hw, rw'⟩ := RelO.some_of mine
      exact ⟨oe, od, w, ⟨e, z.1, by unfold PySem.W.notCls; rw [dt] <;> rfl, by rw [z.2]; exact obj⟩, by rw [look, hw], rw'⟩
  obtain ⟨ox, od, w, inst, look, rw'⟩ := got
  exact HandSPX.exc_get J.kIn inst T.xf.ga T.xf.gg T.xf.exC (PySem.W.findObj_own T.xf.hdC free rfl look) (handed_of rw') ⟨v, H1, J.tok _, rw', q⟩
/-- X(e), an own error with its own __init__: what is there behind it -/
theorem newF_gen {CX : CXT} {x fld : Str} {C fI : Addr} {k : Nat} {fd : FuncData} {ps : List Str} {e : Expr} {ta : TE} {p pos : Pos} {pins : List (Addr × Obj)} {s : Shared} {σ : L2.St} {H : Hp} {post : V → Hp → Prop} {R : Value → Shared → Prop}
    (T : OexC X.K C) (iC : PySem.W.findIn X.K (.ref C) "__init__" = some (some (.ref fI))) (tI : PySem.W.typeIn X.K (.ref fI) = some (.type "function"))
    (F1 : FnOk X.prog X.w X.K X.mg X.base CX k fI fd ps (spErr fld C)) (hr : Room (k + 1) X.A) (hb : Binds X.K fd ps []) (hx : Passes CX X (fun _ _ _ => False)) (gC : X.mg x = some (.ref C)) (he : PE X e ta) (hg : Gl X x)
    (hdb : (x == ("__debug__" : Str)) = false) (hs : starEach [e] X.env = (false, eval e X.env) :: starEach [] X.env) (I : Inv X pins σ H s) (h : ta σ H fun v H1 => Easy v ∧ post v H1)
    (fin : ∀ v H1 (s1 : Shared) A h' s', Inv X pins σ H1 s1 → post v H1 → s1.heap.objs.size ≤ A → (∀ b o, s1.heap.get? b = some o → h'.get? b = some o) → Inv X pins σ (upd H1 A (exo A C none)) { s1 with heap := h' } →
      CE X.stack X.prog X.w (upd H1 A (exo A C none)) { s1 with heap := h' } (fun y H2 => y = .non ∧ ∃ dx, H1 dx = none ∧ dx ≠ A ∧ H2 = upd (upd (upd H1 A (exo A C none)) dx (exd dx [(fld, v)])) A (exo A C (some dx))) .none s' → R (.ref A) s') :
    wpAny (model X.prog X.w) X.A (eval (.Call (.Name x p) [e] [] pos) X.env) R X.xe s := by
  refine wpAny_Call_Name_kw (ld_glob I hg gC (PySem.W.callWith_K (h₀ := X.base) I.ok.mod.kin T.kC ?_ hs (by rfl)) hdb)
  refine thn ((pa_cons he pa_nil hs).run pos pins s σ H (fun vs H1 => match vs with
    | [v] => Easy v ∧ post v H1
    | _ => False) I h) ?_
  rintro us s1 ⟨vs, H1, I1, rel, all⟩
  refine ⟨I1.kIn, ?_⟩
  obtain ⟨hp, gs, dn, tk, os⟩ := s1
  obtain ⟨nm, q, ns, bs, ms, sn, sub, ab, co, di, k0, k1, k2, k3, k5, look, vee⟩ := T.cls
  match vs, us, rel, all with
  | [v], [u], .cons ru .nil, ⟨good, w⟩ =>
  -- the place of the new error, and the heap with it
  generalize hA : hp.objs.size + 1 = A
  have above : hp.objs.size ≤ A := by rw [← hA]; exact Nat.le_succ _
  have free : H1 A = none := I1.hok.fresh above
  have up : ∀ b o, hp.get? b = some o → ((hp.push (PySem.W.kdv_tup [u])).push (PySem.HandSPX.excO C hp.objs.size)).get? b = some o := fun b o z => Heap.get?_push_of_some _ (Heap.get?_push_of_some _ z)
  have there : ((hp.push (PySem.W.kdv_tup [u])).push (PySem.HandSPX.excO C hp.objs.size)).get? A = some (PySem.HandSPX.excO C hp.objs.size) := by
    rw [← hA]
    heap_get
  have J : Inv X pins σ (upd H1 A (exo A C none)) ⟨(hp.push (PySem.W.kdv_tup [u])).push (PySem.HandSPX.excO C hp.objs.size), gs, dn, tk, os⟩ :=
    I1.laid (t' := tk) (a := A) (o := exo A C none) (h' := (hp.push (PySem.W.kdv_tup [u])).push (PySem.HandSPX.excO C hp.objs.size)) up above (exo_ok there)
  have told : spErr fld C [V.ref A, v] (upd H1 A (exo A C none)) (fun y H2 => y = .non ∧ ∃ dx, H1 dx = none ∧ dx ≠ A ∧ H2 = upd (upd (upd H1 A (exo A C none)) dx (exd dx [(fld, v)])) A (exo A C (some dx))) (fun _ _ _ => False) :=
    ⟨A, v, rfl, upd_same, good, fun dx nd ne => ⟨rfl, dx, by rw [upd_ne ne] at nd; exact nd, ne, rfl⟩⟩
  have both : Vals [V.ref A, v] [Value.ref A, u] := .cons rfl (.cons ru .nil)
  have bind := hb _ [Value.ref A, u] J.kIn (by rw [List.append_nil]; exact F1.len _ _ _ _ told)
  rw [List.append_nil] at bind
  have body := F1.run _ X.stack _ _ ⟨[Value.ref A, u], []⟩ [Value.ref A, u] _ _ (fun _ _ _ => False) (hr.make C [u] []) (J.env0.make C [u] []) bind both told
  rw [← hA] at body
  refine wpAny_call (PySem.HandSPX.call_own PySem.F.excBase_ValueError (fun Y => PySem.HandSPX.refsVE_contains Y ms vee) (I1.kIn _ _ look) (PySem.W.looks_findIn I1.kIn iC) (fun self => PySem.W.bind_fn I1.kIn self tI) (szl (by show 1 ≤ 100000; decide)) (codeAny_mono body ?_))
  rw [hA]
  intro r s' z
  match r, z with
  | .error er, z => exact hx pins σ _ _ er s' J z
  | .ok (.ret u'), z =>
    have non : u' = Value.none := by
      obtain ⟨y, H', _, _, _, _, ry, ey, _⟩ := z
      subst ey
      exact ry
    subst non
    exact ⟨rfl, fin v H1 ⟨hp, gs, dn, tk, os⟩ A _ s' I1 w above up J z⟩
  | .ok .next, z => exact z.elim
  | .ok .brk, z => exact z.elim
  | .ok .cont, z => exact z.elim
/-- .. as a value -/
theorem pe_newF {CX : CXT} {x fld : Str} {C fI : Addr} {k : Nat} {fd : FuncData} {ps : List Str} {e : Expr} {ta : TE} {p pos : Pos} (T : OexC X.K C) (iC : PySem.W.findIn X.K (.ref C) "__init__" = some (some (.ref fI))) (tI : PySem.W.typeIn X.K (.ref fI) = some (.type "function"))
    (F1 : FnOk X.prog X.w X.K X.mg X.base CX k fI fd ps (spErr fld C)) (hr : Room (k + 1) X.A) (hb : Binds X.K fd ps []) (hx : Passes CX X (fun _ _ _ => False)) (gC : X.mg x = some (.ref C)) (he : PE X e ta) (hg : Gl X x := by rfl)
    (hdb : (x == ("__debug__" : Str)) = false := by decide) (hs : starEach [e] X.env = (false, eval e X.env) :: starEach [] X.env := by rfl) :
    PE X (.Call (.Name x p) [e] [] pos) (tNewF C fld ta) := by
  constructor
  intro pins s σ H Q I h
  refine newF_gen (post := fun v H1 => ∀ a H2, Same H1 H2 → H1 a = none → ExF H2 a C fld v → Q (.ref a) H2) T iC tI F1 hr hb hx gC he hg hdb hs I h ?_
  intro v H1 s1 A h' s' I1 w above up J z
  obtain ⟨y, H2, J', _, _, dx, nd, ne, rfl⟩ := J.after z
  have free := I1.hok.fresh above
  refine ⟨.ref A, _, J', rfl, w A _ (fun b o hb => ?_) free ⟨dx, .inl ⟨upd_same, by rw [upd_ne ne, upd_same]⟩⟩⟩
  rw [upd_ne (ne_of_none hb free), upd_ne (ne_of_none hb nd), upd_ne (ne_of_none hb free)]
  exact hb
end

/-! ### the classes by their names in the module -/
def clsOf (K : PySem.W.Frag) (x : Str) : Addr := match PySem.W.nsIn K mainGlobals x with
  | some (some (.ref c)) => c
  | _ => 0
theorem clsOf_of {K : PySem.W.Frag} {x : Str} {c : Addr} (h : PySem.W.nsIn K mainGlobals x = some (some (.ref c))) : clsOf K x = c := by
  unfold clsOf
  rw [h]
structure Cls (K : PySem.W.Frag) (mg : Str → Option Value) (x : Str) : Prop where
  g : mg x = some (.ref (clsOf K x))
  e : ErrC K (clsOf K x)
abbrev veMro : List Value := [.type "ValueError", .type "Exception", .type "BaseException", .type "object"]
structure New1 (K : PySem.W.Frag) (mg : Str → Option Value) (x : Str) : Prop where
  cl : Cls K mg x
  q : PySem.W.excIn K (clsOf K x) veMro "ValueError.__new__" = true
structure NewF (P : Program) (w : World) (K : PySem.W.Frag) (mg : Str → Option Value) (base : Heap) (x fld : Str) : Prop where
  cl : Cls K mg x
  ex : ∃ (fI : Addr) (fd : FuncData) (ps : List Str), PySem.W.findIn K (.ref (clsOf K x)) "__init__" = some (some (.ref fI)) ∧ PySem.W.typeIn K (.ref fI) = some (.type "function") ∧ FnOk P w K mg base CX0 1 fI fd ps (spErr fld (clsOf K x)) ∧ Binds K fd ps []
  hno : PySem.W.findIn K (.ref (clsOf K x)) fld = some none
def tXfv (K : PySem.W.Frag) (n : Str) (te : TE) : TE := fun σ H Q => te σ H fun x H1 => ∃ a C v, x = .ref a ∧ ExF H1 a C n v ∧ ErrC K C ∧ PySem.W.findIn K (.ref C) n = some none ∧ Q v H1
section
variable {X : Cx}
theorem pe_cls {K : PySem.W.Frag} {x : Str} {pos : Pos} (D : Cls K X.mg x) (hg : Gl X x := by rfl) (hd : (x == ("__debug__" : Str)) = false := by decide) : PE X (.Name x pos) (tC (.ref (clsOf K x))) := pe_glob hg D.g rfl hd
theorem pe_n1 {K : PySem.W.Frag} {x : Str} {e : Expr} {ta : TE} {p pos : Pos} (D : New1 K X.mg x) (he : PE X e ta) (hg : Gl X x := by rfl) (hs : starEach [e] X.env = (false, eval e X.env) :: starEach [] X.env := by rfl) (hdb : (x == ("__debug__" : Str)) = false := by decide) (hK : X.K = K := by rfl) :
    PE X (.Call (.Name x p) [e] [] pos) (tNew1 (clsOf K x) ta) := by
  subst hK
  exact pe_exc1 PySem.F.excBase_ValueError D.q D.cl.g D.cl.e.ox.kC hg he hs hdb
theorem pe_nF {K : PySem.W.Frag} {x fld : Str} {e : Expr} {ta : TE} {p pos : Pos} (D : NewF X.prog X.w K X.mg X.base x fld) (hr : Room 2 X.A) (he : PE X e ta) (hg : Gl X x := by rfl) (hs : starEach [e] X.env = (false, eval e X.env) :: starEach [] X.env := by rfl) (hdb : (x == ("__debug__" : Str)) = false := by decide) (hK : X.K = K := by rfl) :
    PE X (.Call (.Name x p) [e] [] pos) (tNewF (clsOf K x) fld ta) := by
  subst hK
  obtain ⟨fI, fd, ps, h1, h2, h3, h4⟩ := D.ex
  exact pe_newF D.cl.e.ox h1 h2 h3 hr h4 pass0 D.cl.g he hg hdb hs
theorem pe_xfvK {K : PySem.W.Frag} {e : Expr} {te : TE} {pos : Pos} {n : Str} (he : PE X e te) (hK : X.K = K := by rfl) (hb : attributeBase e n X.env (eval e X.env) = eval e X.env := by rfl) : PE X (.Attribute e n pos) (tXfv K n te) := by
  subst hK
  exact pe_xfv he hb
theorem isxK {K : PySem.W.Frag} (h : X.K = K := by rfl) : CallR X (.builtin "isinstance") (rIsX K) := by subst h; exact call_isX
end

/-! ### readings, backwards -/
section
variable {K : PySem.W.Frag} {σ : L2.St} {H : Hp} {Q : VK} {ta : TE}
theorem r_n1 {C : Addr} (h : ta σ H fun _ H1 => ∀ a, H1 a = none → Q (.ref a) (upd H1 a (ExO (.ref C) a))) : tNew1 C ta σ H Q := h
theorem r_nF {C : Addr} {fld : Str} (h : ta σ H fun v H1 => Easy v ∧ ∀ a H2, Same H1 H2 → H1 a = none → ExF H2 a C fld v → Q (.ref a) H2) : tNewF C fld ta σ H Q := h
theorem r_xfv {n : Str} (h : ta σ H fun x H1 => ∃ a C v, x = .ref a ∧ ExF H1 a C n v ∧ ErrC K C ∧ PySem.W.findIn K (.ref C) n = some none ∧ Q v H1) : tXfv K n ta σ H Q := h
theorem r_isX {a C : Addr} {c : V} {cv : Value} {b : Bool} (h1 : ExV H a C) (h2 : ErrC K C) (h3 : ClsV c cv) (h4 : PySem.W.kitOne K (.ref C) cv = some b) (h : Q (.bl b) H) : rIsX K [.ref a, c] H Q := ⟨a, C, c, cv, b, rfl, h1, h2, h3, h4, h⟩
theorem r_m1 {r : V → List V → Hp → VK → Prop} {to te : TE} (h : to σ H fun x H1 => (∃ a, x = .str a) ∧ te σ H1 fun y H2 => r x [y] H2 Q) : tM1 r to te σ H Q := h
end
theorem Same.exv {H H' : Hp} {a C : Addr} (s : Same H H') (h : ExV H a C) : ExV H' a C := h.mono s
theorem Same.exf {H H' : Hp} {a C : Addr} {f : Str} {v : V} (s : Same H H') (h : ExF H a C f v) : ExF H' a C f v := h.mono s

theorem newF_of {P : Program} {w : World} {K : PySem.W.Frag} {mg : Str → Option Value} {base : Heap} {h : Heap} {f c cc C : Addr} {x name qual file par fld : Str} {params : Arguments} {scope : Scope} {ar : Arg} {v1 v2 : Expr} {vr : List Expr} {p0 p1 p2 p3 p4 p5 p6 p7 p8 pj : Pos}
    {kV doc pm ctv oc ccl cl : Value} {an od cdd cld : Option Addr} {osl ccs csl : Array (Option Value)} {vs0 : Array Value} {tf : Tok} {pl : Sem Bool} (X : K.In h) (G : h.Ns mainGlobals mg)
    (lk : K.lookup f = some ⟨oc, od, .func (PySem.W.fnX name qual params [.Expr (.Call (.Attribute (.Call (.Name "super" p0) [] [] p1) "__init__" p2) [.JoinedStr (v1 :: v2 :: vr) pj] [] p3) p4, .Assign [.Attribute (.Name "self" p5) fld p6] (.Name par p7) p8] scope [("__class__", cc)] .none kV doc pm an (.ref c) ctv), osl⟩)
    (hcd : PySem.W.codeIn K (.ref c) qual = true) (S : NScope ["self", par, "__class__"] ["self", par] ["__class__"] scope)
    (lcc : K.lookup cc = some ⟨cl, cld, .cell (some (.ref C)), csl⟩) (hp : (params.posonlyargs ++ params.args).head? = some ar) (eps : ar.arg = "self")
    (lc : K.lookup c = some ⟨ccl, cdd, .fields vs0, ccs⟩) (hvs : vs0[2]? = some (.str file tf)) (hfile : ((P.main.file : Str) == file) = true) (hsuper : PySem.W.nsIn K mainGlobals "super" = some none)
    (htop : (P.main.scope.names.lookup ("super" : Str)).isSome = false) (hst : PySem.W.nsIn K cStatics "thirdparty.any" = some none) (hks : scope.names.lookup ("super" : Str) = some .globalImplicit)
    (ca : PySem.W.nsIn K mainGlobals x = some (some (.ref C))) (cb : errB K C = true) (ci : PySem.W.findIn K (.ref C) "__init__" = some (some (.ref f))) (ct : PySem.W.typeIn K (.ref f) = some (.type "function")) (sV : supV K C) (hno : PySem.W.findIn K (.ref C) fld = some none)
    (hev : ∀ L, eval (.Call (.Attribute (.Call (.Name "super" p0) [] [] p1) "__init__" p2) [.JoinedStr (v1 :: v2 :: vr) pj] [] p3) (PySem.W.envX qual scope L f (.ref c) [("__class__", cc)]) = (do
      let ov ← attributeBase (.Call (.Name "super" p0) [] [] p1) "__init__" (PySem.W.envX qual scope L f (.ref c) [("__class__", cc)]) (eval (.Call (.Name "super" p0) [] [] p1) (PySem.W.envX qual scope L f (.ref c) [("__class__", cc)]))
      standAt p2.atName
      let (ff, first) ← holding [ov] (getMethod ov "__init__" pl)
      callWith p3 ff first (backTo p3 (starEach [.JoinedStr (v1 :: v2 :: vr) pj] (PySem.W.envX qual scope L f (.ref c) [("__class__", cc)]))) []))
    (hi : ∀ L, interactive (PySem.W.envX qual scope L f (.ref c) [("__class__", cc)]) = false) (hsw : ∀ L, swapsWith (.Call (.Attribute (.Call (.Name "super" p0) [] [] p1) "__init__" p2) [.JoinedStr (v1 :: v2 :: vr) pj] [] p3) none p4.line (PySem.W.envX qual scope L f (.ref c) [("__class__", cc)]) = pure false)
    (hse : ∀ L, starEach [.JoinedStr (v1 :: v2 :: vr) pj] (PySem.W.envX qual scope L f (.ref c) [("__class__", cc)]) = [(false, eval (.JoinedStr (v1 :: v2 :: vr) pj) (PySem.W.envX qual scope L f (.ref c) [("__class__", cc)]))])
    (hs2 : ∀ L, swapsWith (.Name par p7) (some (.Attribute (.Name "self" p5) fld p6)) p8.line (PySem.W.envX qual scope L f (.ref c) [("__class__", cc)]) = pure false)
    (parts : ∀ e ∈ v1 :: v2 :: vr, Part par e) (few : vr.length ≤ 100) (hd : (par == ("__debug__" : Str)) = false) (hcd2 : (par == ("__classdict__" : Str)) = false)
    (hbn : ∀ a b : Value, bindArgs (PySem.W.fnX name qual params [.Expr (.Call (.Attribute (.Call (.Name "super" p0) [] [] p1) "__init__" p2) [.JoinedStr (v1 :: v2 :: vr) pj] [] p3) p4, .Assign [.Attribute (.Name "self" p5) fld p6] (.Name par p7) p8] scope [("__class__", cc)] .none kV doc pm an (.ref c) ctv) ⟨[a, b], []⟩ = pure [(("self" : Str), a), (par, b)]) : NewF P w K mg base x fld := by
  have e := clsOf_of ca
  subst e
  have E := errB_ok cb
  refine ⟨⟨PySem.W.mg_of X G ca, E⟩, ⟨f, _, ["self", par], ci, ct, ok_err lk hcd S lcc hp eps lc hvs hfile (PySem.W.mg_none_of X G hsuper) htop hst hks E.ox sV E.ve hno hev hi hsw hse hs2 parts few hd hcd2, .all fun us hl => ?_⟩, hno⟩
  match us, hl with
  | [a, b], _ => exact hbn a b
theorem new1_of {K : PySem.W.Frag} {mg : Str → Option Value} {h : Heap} {x : Str} {C : Addr} (X : K.In h) (G : h.Ns mainGlobals mg) (ca : PySem.W.nsIn K mainGlobals x = some (some (.ref C))) (cb : errB K C = true) (cq : PySem.W.excIn K C veMro "ValueError.__new__" = true) : New1 K mg x := by
  have e := clsOf_of ca
  subst e
  exact ⟨⟨PySem.W.mg_of X G ca, errB_ok cb⟩, cq⟩
/-- __init__ of a class that the text writes -/
def initOf : Stmt → Stmt
  | .ClassDef _ _ _ body _ _ _ _ _ _ _ => body.getD 0 (.Pass ⟨0, 0, 0, 0⟩)
  | s => s
def partsOf (s : Stmt) : List Expr := match defBody s with
  | .Expr (.Call _ [.JoinedStr l _] [] _) _ :: _ => l
  | _ => []
end Vf

namespace Vf
open PySem PySem.Spec PyProof.Rows L2 ClX

section
variable {X : Cx} {pins : List (Addr × Obj)} {σ : L2.St} {H : Hp} {s : Shared}
/-- an object that came after the entry, known from now on -/
theorem track {a : Addr} {o : HO} (I : Inv X pins σ H s) (h0 : X.s_0.heap.get? a = none) (na : H a = none) (nL : a ≠ X.env.locals) (nC : ∀ x c, X.env.cells.lookup x = some c → c ≠ a) (nP : ∀ p ∈ X.pn ++ pins, p.1 ≠ a)
    (new : ObjOk X.prog X.w (upd H a o) s.heap a o) : Inv X pins σ (upd H a o) s where
  ok := I.ok
  os := I.os
  bare := I.bare
  base := {
    keep := I.base.keep
    slot := I.base.slot
    free := fun b u e n hx => by
      have ne : b ≠ a := fun z => by rw [z, h0] at e; cases e
      rw [upd_ne ne]
      exact I.base.free b u e n hx
    there := I.base.there
    tups := fun b xs e => by
      have z := I.base.tups b xs e
      rw [upd_ne (ne_of_none z na)]
      exact z
    frzs := fun b u xs e => by
      have z := I.base.frzs b u xs e
      rw [upd_ne (ne_of_none z na)]
      exact z
    tbls := fun b ps e => by
      obtain ⟨more, z⟩ := I.base.tbls b ps e
      exact ⟨more, by rw [upd_ne (ne_of_none z na)]; exact z⟩ }
  loc := I.loc
  cell := I.cell
  free := by rw [upd_ne nL.symm]; exact I.free
  freeC := fun x c e => by rw [upd_ne (nC x c e)]; exact I.freeC x c e
  pin := fun p hp => by
    obtain ⟨h1, h2, h3⟩ := I.pin p hp
    exact ⟨h1, by rw [upd_ne (nP p hp)]; exact h2, h3⟩
  hok := fun b u e => by
    by_cases hb : b = a
    · subst hb
      rw [upd_same] at e
      cases e
      exact new
    · rw [upd_ne hb] at e
      refine (I.hok b u e).stay (fun _ _ _ q => q) (fun c q => ?_) fun c xs q => ?_
      · rw [upd_ne (ne_of_none q na)]; exact q
      · rw [upd_ne (ne_of_none q na)]; exact q
  len := I.len
end

/-- what «except x as n: m = n» wishes of an error of the body: slot i is n's, slot j is m's -/
def wKeep (K : PySem.W.Frag) (c : Value) (i j : Nat) (Wout : WX) (D : Ends) : WX := fun cls d σ H =>
  ∃ b, PySem.W.exmOne K cls c = some b ∧ (b = true → ∀ a, H a = none → D.nx (((σ.set i (some (.ref a))).set j (some (.ref a))).set i none) (upd H a (ExR cls d a))) ∧ (b = false → Wout cls d σ H)
section
variable {X : Cx} {x n m : Str} {c : Value} {i j : Nat} {body : List Stmt} {np pos pos' mp np2 ap : Pos} {tb : WX → TS} {Wout : WX}
theorem ps_try_keep (hs : X.stack = X.env :: X.outer) (hf : X.env.frame = some X.env.locals) (hex : X.ex = []) (hN : X.N.Nodup) (hi : X.N[i]? = some n) (hln : X.env.kindOf n = some .local) (hj : X.N[j]? = some m) (hlm : X.env.kindOf m = some .local) (hc : Names X x c) (tk : Takes X Wout)
    (hb : ∀ (W : WX) (pn : List (Addr × Obj)) (xe : Value → Shared → Prop), Takes (X.tr pn xe) W → PassesOwn (model X.prog X.w) X.A X.env xe → PSs (X.tr pn xe) body (tb W))
    (hsw : swapsWith (.Name n np2) (some (.Name m mp)) ap.line X.env = pure false) (hd : (n == ("__debug__" : Str)) = false) (hcd : (n == ("__classdict__" : Str)) = false) :
    PS X (.Try body [.ExceptHandler (some (.Name x np)) (some n) [.Assign [.Name m mp] (.Name n np2) ap] pos'] [] [] pos) (fun D σ H => tb (wKeep X.K c i j Wout D) D σ H) := by
  constructor
  intro pins s σ H D I h
  have good := I.ok
  have stackA : X.A.frames = some (X.env :: X.outer) := good.frames.trans (congrArg some hs)
  apply wpAny_Try_except
  refine wpAny_mono ((hb (wKeep X.K c i j Wout D) (X.pn ++ pins) (fun e s1 => wpAny (model X.prog X.w) X.A (noteFrame e X.env) (fun _ s2 => wpAny (model X.prog X.w) X.A (setFlight e none) (fun _ s3 =>
    wpAny (model X.prog X.w) X.A (handleBy e X.env [.ExceptHandler (some (.Name x np)) (some n) [.Assign [.Name m mp] (.Name n np2) ap] pos']) (SP X pins D) X.xe s3) X.xe s2) X.xe s1) (fun u s' xx => ?hit) PassesOwn.looking).run [] s σ H D (I.toTry _) h) ?ends (fun _ _ z => z)
  case ends =>
    intro f s1 z
    match f, z with
    | .next, ⟨σ', H', J, q⟩ => exact wpAny_execs_nil ⟨σ', H', J.ofTry good, q⟩
    | .brk, ⟨σ', H', J, q⟩ => exact ⟨σ', H', J.ofTry good, q⟩
    | .cont, ⟨σ', H', J, q⟩ => exact ⟨σ', H', J.ofTry good, q⟩
    | .ret u, ⟨v, σ', H', J, r, q⟩ => exact ⟨v, σ', H', J.ofTry good, r, q⟩
  case hit =>
    obtain ⟨a, B, sI, pins', σ', H', cls, d, rfl, J', nb, up, sky, na, os, ag, b, hm, yes, no⟩ := xx
    have J : Inv X pins σ' H' sI := J'.ofTry good
    rw [show (X.tr (X.pn ++ pins) _).stack = X.env :: X.outer from hs] at sky
    show wpAny (model X.prog X.w) X.A (noteFrame (.ref a) X.env) _ _ _
    refine Sky.land Zc.steady stackA hf sky fun h3 fl3 up3 => ?_
    have J3 : Inv X pins σ' H' { s' with heap := h3 } := J.landed nb fl3.1 (up.trans up3) os ag
    obtain ⟨oe3, vs3, at3, z3, d3⟩ := fl3.there
    -- the error is none of the frames
    have away : a ∉ frs (X.env :: X.outer) := fun hm => by
      obtain ⟨_, o, e, nf⟩ := fl3.2.2.1.mem hm
      rw [at3] at e
      cases e
      exact nf _ d3
    have nL : a ≠ X.env.locals := fun z => away (List.mem_filterMap.mpr ⟨X.env, List.mem_cons_self, hf.trans (congrArg some z.symm)⟩)
    have nF : a ∉ X.fs := fun hm => by
      obtain ⟨e, he, q⟩ := List.mem_filterMap.mp hm
      exact away (List.mem_filterMap.mpr ⟨e, List.mem_cons_of_mem _ he, q⟩)
    -- it is newer than all that stood at the entry, and than what is pinned
    have nB : B.get? a = none := fl3.2.1
    have nI : sI.heap.get? a = none := by
      cases e : sI.heap.get? a with
      | none => rfl
      | some o =>
        have z := nb a o e (by rw [hs]; exact away)
        rw [nB] at z
        cases z
    have n0 : X.s_0.heap.get? a = none := by
      cases e : X.s_0.heap.get? a with
      | none => rfl
      | some o =>
        obtain ⟨o', z⟩ := J.base.there a o e (by rw [hex]; exact fun z => nomatch z)
        rw [nI] at z
        cases z
    have nP : ∀ p ∈ X.pn ++ pins, p.1 ≠ a := fun p hp z => by
      have := (J.pin p hp).1
      rw [z, nI] at this
      cases this
    have S3 := J3.suite at3 d3 na nL nF
    have name : ∀ {Q : Value → Shared → Prop} {E : Value → Shared → Prop}, Q c { s' with heap := h3 } → wpAny (model X.prog X.w) (X.A.mark (some (.ref a))) (eval (.Name x np) X.env) Q E { s' with heap := h3 } := fun {Q E} q => by
      obtain ⟨g, hdb, k | ⟨k, bv, nn⟩⟩ := hc
      · exact ld_glob (X := X.suite a ((a, oe3) :: (X.pn ++ pins))) S3 g k q hdb
      · exact ld_blt (X := X.suite a ((a, oe3) :: (X.pn ++ pins))) S3 g k bv q nn hdb
    have kind : PySem.W.Looks (model X.prog X.w) h3 (typeOf (.ref a)) cls := fun A Q E s k q => wpAny_typeOf_ref (k _ _ at3) (by rw [z3.1]; exact q)
    refine wpAny_handleBy_cons (codeAny_handlers_test (name ((PySem.W.exm_one (M := model X.prog X.w) J3.kIn kind hm).here ?_))) (fun q => by cases q)
    cases b with
    | true =>
      refine codeAny_handlers_suite_as (HandSPX.lands_againZ fl3 fun h4 fl4 up4 => ?_)
      have J4 : Inv X pins σ' H' { s' with heap := h4 } := J.landed nb fl4.1 ((up.trans up3).trans up4) os ag
      obtain ⟨oe4, vs4, at4, z4, d4⟩ := fl4.there
      refine store_ok (X := X.suite a ((a, oe4) :: (X.pn ++ pins))) (v := .ref a) (J4.suite at4 d4 na nL nF) hN hi (.inl hln) rfl (fun s5 S5 => ?_) (.inr hln)
      have len : i < σ'.length := by rw [J.len]; exact (List.getElem?_eq_some_iff.mp hi).1
      have line : PSs (X.suite a ((a, oe4) :: (X.pn ++ pins))) [.Assign [.Name m mp] (.Name n np2) ap] (tAsg (tVar i) (gName j)) := pss_one (ps_set hN hj (.inl hlm) (pe_var hi (.inl hln) hd hcd) hsw (.inr hlm))
      refine wpAny_mono (line.run [] s5 _ H' ⟨fun σ6 H6 => σ6 = (σ'.set i (some (.ref a))).set j (some (.ref a)) ∧ H6 = H', fun _ _ => False, fun _ _ => False, fun _ _ => False⟩ S5 ⟨.ref a, by rw [List.getElem?_set_self len], rfl, rfl⟩) (fun f s6 z => ?_) (fun _ _ z => z.elim)
      match f, z with
      | .next, ⟨σ6, H6, S6, e6, e7⟩ =>
        subst e6 e7
        have J6 : Inv X ((a, oe4) :: pins) ((σ'.set i (some (.ref a))).set j (some (.ref a))) H6 s6 :=
          ⟨good, S6.os, S6.bare, S6.base, S6.loc, S6.cell, S6.free, S6.freeC, fun p hp => S6.pin p (List.mem_append_left _ (by
            rcases List.mem_append.mp hp with z | z
            · exact List.mem_cons_of_mem _ (List.mem_append_left _ z)
            · rcases List.mem_cons.mp z with z | z
              · rw [z]; exact List.mem_cons_self
              · exact List.mem_cons_of_mem _ (List.mem_append_right _ z))), S6.hok, S6.len⟩
        refine gone_ok J6 hN hi hln fun s7 J7 => ⟨_, _, ?_, yes rfl a na⟩
        have at7 := pin_at J7
        refine track (unpin J7) n0 na nL (fun y b e z => ?_) nP (exR_ok at7 z4 d4)
        obtain ⟨v, o, e1, e2⟩ := J7.cell y b e
        rw [z, at7] at e1
        cases e1
        rw [d4] at e2
        cases e2
      | .brk, ⟨_, _, _, q⟩ => exact q.elim
      | .cont, ⟨_, _, _, q⟩ => exact q.elim
      | .ret u, ⟨_, _, _, _, _, q⟩ => exact q.elim
    | false =>
      show wpAny _ X.A (handleBy (.ref a) X.env []) _ _ _
      apply wpAny_handleBy_nil
      obtain ⟨k1, k2, k3, oe, vs, T, oT, ts', he, hz, hd, h1, hr⟩ := id fl3
      unfold PySem.passOn
      refine wpAny_bind (wpAny_field he hd h1 ?_)
      rw [if_neg (show ¬ ((Value.ref T == Value.none) = true) from by simp)]
      have out : wpAny (model X.prog X.w) X.A (setFlight (.ref a) X.env.frame) (fun _ s4 => wpAny (model X.prog X.w) X.A (throw (.ref a) : Sem Flow) (SP X pins D) X.xe s4) X.xe { s' with heap := h3 } := by
        rw [hf]
        exact HandSPX.setFlight_upZ fl3 fun h4 hh4 up4 => wpAny_throw (tk _ _ ⟨a, B, sI, pins, σ', H', cls, d, rfl, J, nb, (up.trans up3).trans up4, .inr (.inr (by rw [hs]; exact hh4)), na, os, ag, no rfl⟩)
      first | exact wpAny_bind (wpAny_pure (wpAny_bind out)) | exact wpAny_bind out
end

/-! ### raising own errors -/
/-- X(e) to be raised, an error without a field -/
def tMk1 (C : Addr) (ta : TE) : L2.St → Hp → XK → Prop := fun σ H W => ta σ H fun _ H1 => W (.ref C) none H1
/-- .., an error with a field: the dict that is left holds it -/
def tMkF (C : Addr) (fld : Str) (ta : TE) : L2.St → Hp → XK → Prop := fun σ H W => ta σ H fun v H1 => Easy v ∧ ∀ dx, H1 dx = none → W (.ref C) (some dx) (upd H1 dx (.xd [(fld, v)]))
section
variable {X : Cx} {K : PySem.W.Frag} {x : Str} {e : Expr} {ta : TE} {p pos : Pos}
theorem raises_e {C : Addr} (T : ErrC X.K C) : Raises X (.ref C) := raises_own T.ox.exC T.ox.tyC
theorem pmk_1 (D : New1 K X.mg x) (he : PE X e ta) (hg : Gl X x := by rfl) (hs : starEach [e] X.env = (false, eval e X.env) :: starEach [] X.env := by rfl) (hdb : (x == ("__debug__" : Str)) = false := by decide) (hK : X.K = K := by rfl) :
    PMk X (.Call (.Name x p) [e] [] pos) (tMk1 (clsOf K x) ta) := by
  subst hK
  exact SkE.pmk_own1 PySem.F.excBase_ValueError D.q D.cl.g D.cl.e.ox.kC (raises_e D.cl.e) hg he hs hdb
theorem pmk_F {fld : Str} (D : NewF X.prog X.w K X.mg X.base x fld) (hr : Room 2 X.A) (he : PE X e ta) (hx : Passes CX0 X (fun _ _ _ => False) := pass0) (hg : Gl X x := by rfl) (hs : starEach [e] X.env = (false, eval e X.env) :: starEach [] X.env := by rfl)
    (hdb : (x == ("__debug__" : Str)) = false := by decide) (hK : X.K = K := by rfl) : PMk X (.Call (.Name x p) [e] [] pos) (tMkF (clsOf K x) fld ta) := by
  subst hK
  obtain ⟨fI, fd, ps, iC, tI, F1, hb⟩ := D.ex
  intro pins s σ H W I h
  refine newF_gen (post := fun v H1 => ∀ dx, H1 dx = none → W (.ref (clsOf X.K x)) (some dx) (upd H1 dx (.xd [(fld, v)]))) D.cl.e.ox iC tI F1 hr hb hx D.cl.g he hg hdb hs I h ?_
  intro v H1 s1 A h' s' I1 w above up J z
  obtain ⟨y, H2, os2, bare2, un2, hok2, rv, ey, dx, nd, ne, e2⟩ := z
  have free := I1.hok.fresh above
  obtain ⟨hp, gs, dn, tk, os⟩ := s1
  obtain ⟨h2, g2, d2, t2, os'⟩ := s'
  have out : upd (del H2 A) dx (.xd [(fld, v)]) = upd H1 dx (.xd [(fld, v)]) := by
    funext b
    by_cases hb : b = dx
    · rw [hb, upd_same, upd_same]
    · rw [upd_ne hb, upd_ne hb]
      by_cases ha : b = A
      · rw [ha, del_same, free]
      · rw [del_ne ha, e2, upd_ne ha, upd_ne hb, upd_ne ha]
  refine mk_end (H1 := H1) (H2 := H2) (d := dx) (fs := [(fld, v)]) (raises_e D.cl.e) I1 above up un2 hok2 os2 bare2 (by rw [e2, upd_same]) (by rw [e2, upd_ne ne, upd_same]) nd ?_
  rw [out]
  exact w dx nd
end

/-! ### defs that may raise, and their calls -/
structure DefR (P : Program) (w : World) (K : PySem.W.Frag) (mg : Str → Option Value) (base : Heap) (k : Nat) (x : Str) (ps : List Str) (sp : Sp) where
  f : Addr
  fd : FuncData
  ok : FnG P w K mg base (L2.CX P w) k f fd ps sp
  kp : PySem.W.keepIn K (.ref f) = true
  b : Binds K fd ps []
  g : mg x = some (.ref f)
theorem FnG.calm {P : Program} {w : World} {K : PySem.W.Frag} {mg : Str → Option Value} {base : Heap} {CX : CXT} {k : Nat} {f : Addr} {fd : FuncData} {ps : List Str} {sp : Sp} (F : FnG P w K mg base CX0 k f fd ps sp) : FnG P w K mg base CX k f fd ps sp :=
  ⟨F.arity, fun A o s H as us vs Q E r g e b v q => codeAny_mono (F.go A o s H as us vs Q E r g e b v q) fun r s' z => by
    cases r with
    | error e => exact (show False from z).elim
    | ok f => cases f <;> exact z⟩
theorem passR0 {X : Cx} : Passes (L2.CX X.prog X.w) X E0 := fun _ _ _ _ _ _ _ ⟨_, _, _, _, _, _, _, _, _, _, _, _, z⟩ => (show False from z).elim
section
variable {X : Cx} {k : Nat} {ps : List Str} {sp : Sp} {x : Str} {p pos : Pos} {e : Expr} {es : List Expr} {t : TA}
theorem pe_defR (D : DefR X.prog X.w X.K X.mg X.base k x ps sp) {E : XK} (hE : Passes (L2.CX X.prog X.w) X E) (hr : Room k X.A) (hgd : X.A.guards = some []) (ha : PA X (e :: es) t) (hg : Gl X x := by rfl) (hdb : (x == ("__debug__" : Str)) = false := by decide)
    (he : starEach (e :: es) X.env = (false, eval e X.env) :: starEach es X.env := by rfl) (hpl : (backTo pos (starEach es X.env)).any (·.1) = false := by rfl) : PE X (.Call (.Name x p) (e :: es) [] pos) (tCall sp [] E t) :=
  pe_callG D.ok hr hgd hg D.g D.kp D.b .nil hE ha hdb he hpl
/-- the same within a try -/
theorem pe_defT (D : DefR X.prog X.w X.K X.mg X.base k x ps sp) {W : WX} (tk : Takes X W) (hr : Room k X.A) (hgd : X.A.guards = some []) (ha : PA X (e :: es) t) (hg : Gl X x := by rfl) (hdb : (x == ("__debug__" : Str)) = false := by decide)
    (he : starEach (e :: es) X.env = (false, eval e X.env) :: starEach es X.env := by rfl) (hpl : (backTo pos (starEach es X.env)).any (·.1) = false := by rfl) : PE X (.Call (.Name x p) (e :: es) [] pos) (tCallS sp (WE W) t) := by
  constructor
  intro pins s σ H Q I h
  refine wpAny_Call_Name_kw (ld_glob I hg D.g (PySem.W.callWith_K (h₀ := X.base) I.ok.mod.kin D.kp (thn (ha.run pos pins s σ H _ I h) ?_) he hpl) hdb)
  rintro us s1 ⟨vs, H1, I1, r, q⟩
  have bind := D.b s1 us I1.kIn (by rw [List.append_nil]; exact r.length.symm.trans (D.ok.arity _ _ _ _ q))
  rw [List.append_nil] at bind
  refine ⟨I1.kIn, wpAny_call (codeAny_mono (D.ok.go X.A X.stack s1 H1 ⟨us, []⟩ us vs Q (WE W σ) hr hgd I1.env0 bind r q) ?_)⟩
  intro res s' z
  match res, z with
  | .error ex, z => exact passAt tk σ pins H1 s1 ex s' I1 z
  | .ok (.ret u), z => exact I1.after z
  | .ok .next, z => exact z.elim
  | .ok .brk, z => exact z.elim
  | .ok .cont, z => exact z.elim
end
theorem takes_no {X : Cx} : Takes X (fun _ _ _ _ => False) := fun _ _ ⟨_, _, _, _, _, _, _, _, _, _, _, _, _, _, _, _, z⟩ => z.elim
/-! readings -/
section
variable {K : PySem.W.Frag} {σ : L2.St} {H : Hp} {Q : VK} {W : XK} {ta : TE}
theorem r_mk1 {C : Addr} (h : ta σ H fun _ H1 => W (.ref C) none H1) : tMk1 C ta σ H W := h
theorem r_mkF {C : Addr} {fld : Str} (h : ta σ H fun v H1 => Easy v ∧ ∀ dx, H1 dx = none → W (.ref C) (some dx) (upd H1 dx (.xd [(fld, v)]))) : tMkF C fld ta σ H W := h
theorem r_callS {sp : Sp} {E : L2.St → XK} {t : TA} (h : t σ H fun vs H1 => sp vs H1 Q (E σ)) : tCallS sp E t σ H Q := h
end
/-- an own error is caught by a clause that names one of its classes -/
theorem exm_e {K : PySem.W.Frag} {C D : Addr} {b : Bool} (T : ErrC K D) (h : PySem.W.subIn K (.ref C) (.ref D) = some b) : PySem.W.exmOne K (.ref C) (.ref D) = some b := PySem.W.exm_ref T.ox.exC T.xf.hdC T.ox.tyC h
end Vf

namespace Vf
open PySem PySem.Spec PyProof.Rows L2

/-! ### values of any kind, as data: also dicts -/
def kD : Key → PyData
  | .inl i => .int i
  | .inr x => .str x
mutual
inductive Dt (K : PySem.W.Frag) (H : Hp) : V → PyData → Prop where
  | non : Dt K H .non .none
  | bl (b : Bool) : Dt K H (.bl b) (.bool b)
  | int (i : Int) : Dt K H (.int i) (.int i)
  | str (x : Str) : Dt K H (.str x) (.str x)
  | lst {a : Addr} {xs : List V} {ds : List PyData} (h : H a = some (.lst xs)) (r : DtAll K H xs ds) : Dt K H (.ref a) (.list ds)
  | tup {a : Addr} {xs : List V} {ds : List PyData} (h : H a = some (.tup xs)) (r : DtAll K H xs ds) : Dt K H (.ref a) (.tuple ds)
  | dct {a : Addr} {kvs : List (Key × V)} {ds : List (PyData × PyData)} (h : H a = some (.dK kvs)) (r : DtKV K H kvs ds) : Dt K H (.ref a) (.dict ds)
inductive DtAll (K : PySem.W.Frag) (H : Hp) : List V → List PyData → Prop where
  | nil : DtAll K H [] []
  | cons {v : V} {vs : List V} {d : PyData} {ds : List PyData} (h : Dt K H v d) (r : DtAll K H vs ds) : DtAll K H (v :: vs) (d :: ds)
inductive DtKV (K : PySem.W.Frag) (H : Hp) : List (Key × V) → List (PyData × PyData) → Prop where
  | nil : DtKV K H [] []
  | cons {k : Key} {v : V} {kvs : List (Key × V)} {d : PyData} {ds : List (PyData × PyData)} (h : Dt K H v d) (r : DtKV K H kvs ds) : DtKV K H ((k, v) :: kvs) ((kD k, d) :: ds)
end
mutual
theorem Dt.mono {K : PySem.W.Frag} {H H' : Hp} (s : Same H H') : ∀ {d : PyData} {v : V}, Dt K H v d → Dt K H' v d
  | .none, _, h => by cases h; exact .non
  | .bool _, _, h => by cases h; exact .bl _
  | .int _, _, h => by cases h; exact .int _
  | .str _, _, h => by cases h; exact .str _
  | .list _, _, h => by
    cases h with
    | lst h r => exact .lst (s _ _ h) (DtAll.mono s r)
  | .tuple _, _, h => by
    cases h with
    | tup h r => exact .tup (s _ _ h) (DtAll.mono s r)
  | .dict _, _, h => by
    cases h with
    | dct h r => exact .dct (s _ _ h) (DtKV.mono s r)
theorem DtAll.mono {K : PySem.W.Frag} {H H' : Hp} (s : Same H H') : ∀ {ds : List PyData} {vs : List V}, DtAll K H vs ds → DtAll K H' vs ds
  | [], _, h => by cases h; exact .nil
  | _ :: _, _, h => by
    cases h with
    | cons h r => exact .cons (Dt.mono s h) (DtAll.mono s r)
theorem DtKV.mono {K : PySem.W.Frag} {H H' : Hp} (s : Same H H') : ∀ {ds : List (PyData × PyData)} {vs : List (Key × V)}, DtKV K H vs ds → DtKV K H' vs ds
  | [], _, h => by cases h; exact .nil
  | (_, _) :: _, _, h => by
    cases h with
    | cons h r => exact .cons (Dt.mono s h) (DtKV.mono s r)
end
/-- the address of sys.modules is a dict of the written part: no list that the law makes lies there -/
def SysK (K : PySem.W.Frag) : Prop := ∃ o, K.lookup sysModules = some o ∧ o.cls = .type "dict"
def sysB (K : PySem.W.Frag) : Bool := (K.lookup sysModules).any fun o => o.cls == .type "dict"
theorem sysB_ok {K : PySem.W.Frag} (h : sysB K = true) : SysK K := by
  unfold sysB at h
  cases e : K.lookup sysModules with
  | none => rw [e] at h; cases h
  | some o =>
    rw [e] at h
    exact ⟨o, e, beq_iff_eq.mp h⟩
section
variable {X : Cx} {pins : List (Addr × Obj)} {σ : L2.St} {H : Hp} {s : Shared}
theorem key_reads {h : Heap} {k : Key} {u : Value} (e : keyIs k u = true) : Reads h u (kD k) [] := by
  rcases keyIs_shape e with ⟨i, t, rfl, rfl⟩ | ⟨y, t, rfl, rfl⟩
  · exact .int i t
  · exact .str y t
mutual
theorem Dt.reads (I : Inv X pins σ H s) (Y : SysK X.K) : ∀ {d : PyData} {v : V} {u : Value}, Dt X.K H v d → RelV v u → ∃ as, Reads s.heap u d as ∧ sysModules ∉ as
  | .none, _, _, h, r => by cases h; cases r; exact ⟨_, .none, fun z => nomatch z⟩
  | .bool b, _, _, h, r => by cases h; cases r; exact ⟨_, .bool b, fun z => nomatch z⟩
  | .int i, _, _, h, r => by cases h; obtain ⟨t, rfl⟩ := r; exact ⟨_, .int i t, fun z => nomatch z⟩
  | .str x, _, _, h, r => by cases h; obtain ⟨t, rfl⟩ := r; exact ⟨_, .str x t, fun z => nomatch z⟩
  | .list ds, _, _, h, r => by
    cases h with
    | lst h ra =>
      cases r
      obtain ⟨its, rv, ⟨o, n, ho, hc, _, hd⟩, _⟩ := I.list (sql h)
      obtain ⟨as, hr, hn⟩ := DtAll.reads I Y ra rv
      refine ⟨_, Reads.list ho hc hd hr, fun z => ?_⟩
      rcases List.mem_cons.mp z with z | z
      · obtain ⟨od, e1, e2⟩ := Y
        have e3 := I.kIn _ _ e1
        rw [z] at e3
        rw [Option.some.inj (ho.symm.trans e3)] at hc
        exact absurd (hc.symm.trans e2) (by decide)
      · exact hn z
  | .tuple ds, _, _, h, r => by
    cases h with
    | tup h ra =>
      cases r
      obtain ⟨its, rv, ⟨o, ho, hc, n, hd⟩, _⟩ := I.tuple (sqt h)
      obtain ⟨as, hr, hn⟩ := DtAll.reads I Y ra rv
      exact ⟨_, Reads.tuple ho hc hd hr, hn⟩
  | .dict ds, _, _, h, r => by
    cases h with
    | @dct a kvs _ h ra =>
      cases r
      obtain ⟨_, ns, vs, kv, o, es, ep, ho, hx, hd, _, hp, _⟩ := (show ObjOk X.prog X.w H s.heap a (.dK kvs) from I.hok a _ h)
      obtain ⟨bs, hk, hb, hn⟩ := DtKV.reads I Y ra kv hp
      refine ⟨_, Reads.dict (kvs := ds) (as := []) (bs := bs) ho hx.1 hd hk hb, fun z => ?_⟩
      rcases List.mem_cons.mp (by simpa using z) with z | z
      · rw [z] at ns
        simp at ns
      · exact hn z
theorem DtAll.reads (I : Inv X pins σ H s) (Y : SysK X.K) : ∀ {ds : List PyData} {vs : List V} {us : List Value}, DtAll X.K H vs ds → Vals vs us → ∃ as, ReadsAll s.heap us ds as ∧ sysModules ∉ as
  | [], _, _, h, r => by cases h; cases r; exact ⟨_, .nil, fun z => nomatch z⟩
  | _ :: _, _, _, h, r => by
    cases h with
    | cons h ra =>
      cases r with
      | cons r1 r2 =>
        obtain ⟨as, q1, n1⟩ := Dt.reads I Y h r1
        obtain ⟨bs, q2, n2⟩ := DtAll.reads I Y ra r2
        exact ⟨_, .cons q1 q2, fun z => (List.mem_append.mp z).elim n1 n2⟩
theorem DtKV.reads (I : Inv X pins σ H s) (Y : SysK X.K) : ∀ {ds : List (PyData × PyData)} {kvs : List (Key × V)} {vs : List (Key × Value)} {es : List DictEntry}, DtKV X.K H kvs ds → KV kvs vs → Pairs (mixKind X.prog X.w) es vs → ∃ bs, ReadsAll s.heap (es.map (·.key)) (ds.map (·.1)) [] ∧ ReadsAll s.heap (es.map (·.val)) (ds.map (·.2)) bs ∧ sysModules ∉ bs
  | [], _, _, _, h, r, p => by cases h; cases r; cases p; exact ⟨_, .nil, .nil, fun z => nomatch z⟩
  | (_, d) :: ds, _, _, _, h, r, p => by
    cases h with
    | cons h ra =>
      cases r with
      | @cons _ q _ _ r1 r2 =>
        cases p with
        | @cons e _ es _ p1 p2 p3 =>
          obtain ⟨as, q1, n1⟩ := Dt.reads I Y (u := e.val) h (by rw [p2]; exact r1.2)
          obtain ⟨bs, q2, q3, n2⟩ := DtKV.reads I Y ra r2 p3
          have key : Reads s.heap e.key (kD _) [] := key_reads (k := q.1) p1
          rw [← r1.1] at key
          exact ⟨_, .cons (as := []) (bs := []) key q2, .cons q1 q3, fun z => (List.mem_append.mp z).elim n1 n2⟩
end
end

/-! ### repr of any value -/
section
variable {X : Cx}
theorem call_reprT {k : Nat} (hgd : X.A.guards = some []) (hr : Room k X.A) (Y : SysK X.K) : CallR X (.builtin "repr") (fun xs H Q => ∃ (v : V) (d : PyData), xs = [v] ∧ Dt X.K H v d ∧ d.showable = true ∧ d.depth ≤ 60 ∧ d.shown.length ≤ sizeLine ∧ Q (.str d.shown) H) := by
  rintro pins s σ H _ us Q I r ⟨v, d, rfl, hd, hs, hdep, hz, q⟩
  obtain ⟨u, rfl, ru⟩ := vals1 r
  cases d with
  | none =>
    cases hd
    cases ru
    rw [PyData.shown_none] at q
    exact PySem.P.repr_of_none ⟨.str _, H, I.tok _, ⟨_, rfl⟩, q⟩
  | bool b =>
    cases hd
    cases ru
    refine PySem.P.repr_of_bool ⟨.str _, H, I.tok _, ⟨_, rfl⟩, ?_⟩
    simp only [PyData.shown] at q
    exact q
  | int i =>
    cases hd
    obtain ⟨t, rfl⟩ := ru
    simp only [PyData.showable, decide_eq_true_eq] at hs
    simp only [PyData.shown] at q
    exact PySem.P.repr_of_int hs ⟨.str _, H, I.tok _, ⟨_, rfl⟩, q⟩
  | str x =>
    cases hd
    obtain ⟨t, rfl⟩ := ru
    simp only [PyData.shown] at q hz
    exact PySem.P.repr_of_str ⟨.str _, H, I.tok _, ⟨_, rfl⟩, q⟩ hz
  | list ds =>
    obtain ⟨as, rd, hn⟩ := Dt.reads I Y hd ru
    cases hd
    cases ru
    refine repr_of_reads' rd hs (fun _ => hn) hgd (by have := hr.units; omega) (fun _ _ e => e) (fun h' u tk hk => ?_) hz
    exact ⟨.str _, H, I.kept (t' := tk) hk, ⟨_, rfl⟩, q⟩
  | tuple ds =>
    obtain ⟨as, rd, hn⟩ := Dt.reads I Y hd ru
    cases hd
    cases ru
    refine repr_of_reads' rd hs (fun _ => hn) hgd (by have := hr.units; omega) (fun _ _ e => e) (fun h' u tk hk => ?_) hz
    exact ⟨.str _, H, I.kept (t' := tk) hk, ⟨_, rfl⟩, q⟩
  | dict ds =>
    obtain ⟨as, rd, hn⟩ := Dt.reads I Y hd ru
    cases hd
    cases ru
    refine repr_of_reads' rd hs (fun _ => hn) hgd (by have := hr.units; omega) (fun _ _ e => e) (fun h' u tk hk => ?_) hz
    exact ⟨.str _, H, I.kept (t' := tk) hk, ⟨_, rfl⟩, q⟩
end

/-! ### the type of any value -/
def tyD : PyData → String
  | .none => "NoneType"
  | .bool _ => "bool"
  | .int _ => "int"
  | .str _ => "str"
  | .list _ => "list"
  | .tuple _ => "tuple"
  | .dict _ => "dict"
section
variable {K : PySem.W.Frag} {H : Hp}
theorem Dt.tyx {v : V} {d : PyData} (h : Dt K H v d) : TyX K H v (.type (tyD d)) := by
  cases h with
  | non => exact .base .non
  | bl b => exact .base (.bl b)
  | int i => exact .base (.int i)
  | str x => exact .base (.str x)
  | lst h _ => exact .base (.lst h)
  | tup h _ => exact .base (.tup h)
  | dct h _ => exact .base (.dK h)
def isD (c : String) (d : PyData) : Bool := (tyD d == c) || (c == "int" && tyD d == "bool")
theorem kit_d {c : String} (hc : c = "int" ∨ c = "bool" ∨ c = "str" ∨ c = "list" ∨ c = "tuple" ∨ c = "dict") (d : PyData) : kitB (tyD d) c = some (isD c d) := by
  rcases hc with rfl | rfl | rfl | rfl | rfl | rfl <;> cases d <;> (unfold isD; simp only [tyD]; decide +kernel)
theorem r_isD {v : V} {d : PyData} {c : String} {Q : VK} (h : Dt K H v d) (hc : c = "int" ∨ c = "bool" ∨ c = "str" ∨ c = "list" ∨ c = "tuple" ∨ c = "dict") (q : Q (.bl (isD c d)) H) : rIsi K [v, .ty c] H Q :=
  ⟨v, .ty c, _, _, _, rfl, .ty c, h.tyx, kit_ty (kit_d hc d), q⟩
end
section
variable {X : Cx}
theorem call_typeD {K : PySem.W.Frag} (hK : X.K = K := by rfl) : CallR X (.type "type") (fun xs H Q => ∃ (v : V) (d : PyData), xs = [v] ∧ Dt K H v d ∧ Q (.ty (tyD d)) H) := by
  subst hK
  rintro pins s σ H _ us Q I r ⟨v, d, rfl, hd, q⟩
  obtain ⟨u, rfl, ru⟩ := vals1 r
  have fin : EP X pins σ Q (.type (tyD d)) s := ⟨.ty (tyD d), H, I, rfl, q⟩
  cases hd with
  | non => cases ru; exact call_type_of (Tx := "NoneType") rfl (by decide +kernel) fin
  | bl b => cases ru; exact call_type_of (Tx := "bool") rfl (by decide +kernel) fin
  | int i => obtain ⟨t, rfl⟩ := ru; exact call_type_of (Tx := "int") rfl (by decide +kernel) fin
  | str x => obtain ⟨t, rfl⟩ := ru; exact call_type_of (Tx := "str") rfl (by decide +kernel) fin
  | lst h _ =>
    cases ru
    obtain ⟨_, its, k, _, g⟩ := I.hok _ _ h
    exact call_type_of (Tx := "list") ⟨_, g, rfl⟩ (by decide +kernel) fin
  | tup h _ =>
    cases ru
    obtain ⟨_, its, _, ob, g, c, k⟩ := I.hok _ _ h
    exact call_type_of (Tx := "tuple") ⟨ob, g, c⟩ (by decide +kernel) fin
  | dct h _ =>
    cases ru
    obtain ⟨_, _, vs, _, ob, es, ep, g, c, _⟩ := I.hok _ _ h
    exact call_type_of (Tx := "dict") ⟨ob, g, c.1⟩ (by decide +kernel) fin
end

/-! ### data of any kind that is not too long -/
structure Sd (N k : Nat) (d : PyData) : Prop where
  sh : d.showable = true
  dp : d.depth ≤ k
  ln : d.shown.length ≤ N
theorem Sd.mono {N k N' k' : Nat} {d : PyData} (h : Sd N k d) (h1 : N ≤ N') (h2 : k ≤ k') : Sd N' k' d := ⟨h.sh, Nat.le_trans h.dp h2, Nat.le_trans h.ln h1⟩
theorem Sm.sd {N k : Nat} {d : PyData} (h : Sm N k d) : Sd N k d := ⟨h.sh, h.dp, h.ln⟩
theorem sd_all {N k : Nat} : ∀ {ds : List PyData}, (∀ d ∈ ds, Sd N k d) → PyData.showableAll ds = true ∧ PyData.depthAll ds ≤ k ∧ ((PyData.shownAll ds).map (·.length)).sum ≤ N * ds.length
  | [], _ => ⟨by simp only [PyData.showableAll], by simp only [PyData.depthAll]; omega, by simp only [PyData.shownAll]; simp⟩
  | d :: ds, h => by
    have h1 := h d List.mem_cons_self
    obtain ⟨a1, a3, a4⟩ := sd_all (ds := ds) fun x hx => h x (List.mem_cons_of_mem _ hx)
    refine ⟨by simp only [PyData.showableAll, h1.sh, a1, Bool.and_self], ?_, ?_⟩
    · simp only [PyData.depthAll]
      have := h1.dp
      omega
    · simp only [PyData.shownAll, List.map_cons, List.sum_cons, List.length_cons]
      have := h1.ln
      rw [Nat.mul_succ]
      omega
theorem Sd.lst {N k : Nat} {ds : List PyData} (h : ∀ d ∈ ds, Sd N k d) : Sd ((N + 2) * ds.length + 3) (k + 1) (.list ds) := by
  obtain ⟨a1, a3, a4⟩ := sd_all h
  refine ⟨by simp only [PyData.showable, a1], by simp only [PyData.depth]; omega, ?_⟩
  simp only [PyData.shown]
  have := listText_len_le (PyData.shownAll ds)
  rw [PyData.shownAll_length] at this
  have e : (N + 2) * ds.length = N * ds.length + 2 * ds.length := by rw [Nat.add_mul]
  omega
theorem Sd.tup {N k : Nat} {ds : List PyData} (h : ∀ d ∈ ds, Sd N k d) : Sd ((N + 2) * ds.length + 3) (k + 1) (.tuple ds) := by
  obtain ⟨a1, a3, a4⟩ := sd_all h
  refine ⟨by simp only [PyData.showable, a1], by simp only [PyData.depth]; omega, ?_⟩
  simp only [PyData.shown]
  have := tupleText_len_le (PyData.shownAll ds)
  rw [PyData.shownAll_length] at this
  have e : (N + 2) * ds.length = N * ds.length + 2 * ds.length := by rw [Nat.add_mul]
  omega
/-- a value of any kind that is not too long -/
def Any (K : PySem.W.Frag) (H : Hp) (N k : Nat) (v : V) : Prop := ∃ d, Dt K H v d ∧ Sd N k d
theorem Any.mono {K : PySem.W.Frag} {H H' : Hp} {N k : Nat} {v : V} (s : Same H H') (h : Any K H N k v) : Any K H' N k v := let ⟨d, h1, h2⟩ := h; ⟨d, Dt.mono s h1, h2⟩
theorem Any.le {K : PySem.W.Frag} {H : Hp} {N k N' k' : Nat} {v : V} (h : Any K H N k v) (h1 : N ≤ N') (h2 : k ≤ k') : Any K H N' k' v := let ⟨d, a, b⟩ := h; ⟨d, a, b.mono h1 h2⟩
theorem any_all {K : PySem.W.Frag} {H : Hp} {N k : Nat} : ∀ {xs : List V}, (∀ x ∈ xs, Any K H N k x) → ∃ ds, DtAll K H xs ds ∧ ds.length = xs.length ∧ ∀ d ∈ ds, Sd N k d
  | [], _ => ⟨[], .nil, rfl, fun _ z => nomatch z⟩
  | x :: xs, h => by
    obtain ⟨d, h1, h2⟩ := h x List.mem_cons_self
    obtain ⟨ds, h3, h4, h5⟩ := any_all (xs := xs) fun y hy => h y (List.mem_cons_of_mem _ hy)
    exact ⟨d :: ds, .cons h1 h3, by simp [h4], fun y hy => by
      rcases List.mem_cons.mp hy with rfl | hy
      · exact h2
      · exact h5 y hy⟩
theorem Any.lst {K : PySem.W.Frag} {H : Hp} {N k : Nat} {a : Addr} {xs : List V} (e : H a = some (.lst xs)) (h : ∀ x ∈ xs, Any K H N k x) : Any K H ((N + 2) * xs.length + 3) (k + 1) (.ref a) := by
  obtain ⟨ds, h1, h2, h3⟩ := any_all h
  exact ⟨_, .lst e h1, h2 ▸ Sd.lst h3⟩
theorem Any.tup {K : PySem.W.Frag} {H : Hp} {N k : Nat} {a : Addr} {xs : List V} (e : H a = some (.tup xs)) (h : ∀ x ∈ xs, Any K H N k x) : Any K H ((N + 2) * xs.length + 3) (k + 1) (.ref a) := by
  obtain ⟨ds, h1, h2, h3⟩ := any_all h
  exact ⟨_, .tup e h1, h2 ▸ Sd.tup h3⟩
theorem Any.dct0 {K : PySem.W.Frag} {H : Hp} {a : Addr} (e : H a = some (.dK [])) : Any K H 10 2 (.ref a) := by
  refine ⟨_, .dct e .nil, by simp only [PyData.showable, PyData.showableKv], by simp only [PyData.depth, PyData.depthKv]; omega, ?_⟩
  simp only [PyData.shown, PyData.shownKv]
  decide +kernel
theorem Any.dct1 {K : PySem.W.Frag} {H : Hp} {N k m : Nat} {a : Addr} {x : Str} {v : V} (e : H a = some (.dK [(.inr x, v)])) (h : Any K H N k v) (hm : (reprText x).length ≤ m) : Any K H (N + m + 10) (k + 1) (.ref a) := by
  obtain ⟨d, h1, h2⟩ := h
  refine ⟨_, .dct e (.cons h1 .nil), ?_, ?_, ?_⟩
  · simp only [kD, PyData.showable, PyData.showableKv, h2.sh, Bool.and_self]
  · simp only [kD, PyData.depth, PyData.depthKv]
    have := h2.dp
    omega
  · simp only [kD, PyData.shown, PyData.shownKv]
    have := h2.ln
    unfold dictText
    rw [strLen_append, strLen_append]
    have e1 : (Str.join ", " [reprText x ++ ": " ++ d.shown]).length = (reprText x ++ ": " ++ d.shown).length := by
      rfl
    rw [e1, strLen_append, strLen_append]
    show 1 + _ + 1 ≤ _
    have e2 : ((": " : String) : Str).length = 2 := by decide
    omega
end Vf

namespace Vf
open PySem PySem.Spec PyProof.Rows L2

/-! ### a list as a table: places from -n to n -/
theorem ixN_of {m : Nat} {e : Int} (h0 : -(m : Int) ≤ e) (h1 : e < m) : ixN m e = some (if 0 ≤ e then e.toNat else (e + m).toNat) := by
  unfold ixN
  by_cases c : 0 ≤ e
  · rw [if_pos c, if_pos h1, if_pos c]
  · rw [if_neg c, if_pos h0, if_neg c]
structure IsF (n : Int) (f : Int → Int) (ts : List Int) : Prop where
  n0 : 0 ≤ n
  len : (ts.length : Int) = 2 * n + 1
  get : ∀ e, -n ≤ e → e ≤ n → atI ts e = some (f e)
theorem atI_map {α β : Type} (g : α → β) (xs : List α) (e : Int) : atI (xs.map g) e = (atI xs e).map g := by
  unfold atI
  rw [List.length_map]
  cases ixN xs.length e with
  | none => rfl
  | some j => show (xs.map g)[j]? = _; rw [List.getElem?_map]; rfl
theorem IsF.at {n : Int} {f : Int → Int} {ts : List Int} (h : IsF n f ts) {e : Int} (h1 : -n ≤ e) (h2 : e ≤ n) : atI (ts.map V.int) e = some (.int (f e)) := by
  rw [atI_map, h.get e h1 h2]; rfl
theorem IsF.ix {n : Int} {f : Int → Int} {ts : List Int} (h : IsF n f ts) {e : Int} (v : Int) (h1 : -n ≤ e) (h2 : e ≤ n) :
    ∃ j, ixN (ts.map V.int).length e = some j ∧ (ts.map V.int).set j (.int v) = (ts.set j v).map V.int ∧ IsF n (fun x => if x = e then v else f x) (ts.set j v) := by
  have hl := h.len
  have n0 := h.n0
  have ev := ixN_of (m := ts.length) (e := e) (by omega) (by omega)
  refine ⟨_, by rw [List.length_map]; exact ev, by rw [List.map_set], n0, by rw [List.length_set]; exact hl, fun x x1 x2 => ?_⟩
  have ex := ixN_of (m := ts.length) (e := x) (by omega) (by omega)
  have gx := h.get x x1 x2
  unfold atI at gx ⊢
  rw [ex] at gx
  rw [List.length_set, ex]
  show (ts.set _ v)[_]? = _
  rw [List.getElem?_set]
  by_cases c : x = e
  · subst c
    rw [if_pos rfl, if_pos rfl, if_pos]
    split <;> omega
  · rw [if_neg c, if_neg]
    · exact gx
    · intro z
      split at z <;> split at z <;> omega
theorem IsF.start {n : Int} (h : 0 ≤ n) : IsF n (fun _ => 0) (List.replicate (2 * n + 1).toNat 0) := by
  refine ⟨h, by rw [List.length_replicate]; omega, fun e h1 h2 => ?_⟩
  unfold atI
  rw [List.length_replicate, ixN_of (by omega) (by omega)]
  show (List.replicate _ (0 : Int))[_]? = _
  rw [List.getElem?_replicate, if_pos]
  split <;> omega
theorem IsF.congr {n : Int} {f g : Int → Int} {ts : List Int} (h : IsF n f ts) (e : ∀ x, -n ≤ x → x ≤ n → f x = g x) : IsF n g ts := ⟨h.n0, h.len, fun x h1 h2 => by rw [h.get x h1 h2, e x h1 h2]⟩
theorem rep_one {k : Nat} : (List.replicate k [V.int 0]).flatten = (List.replicate k (0 : Int)).map V.int := by
  induction k with
  | zero => rfl
  | succ k ih => rw [List.replicate_succ, List.flatten_cons, ih, List.replicate_succ]; rfl
/-- the entries of the table of partners -/
def ptb (L : List (Int × Int)) (e : Int) : Int := if e = 0 then 1 else (parI L e).getD 0
theorem parI_nil (e : Int) : parI [] e = none := rfl
theorem find_none_app {L : List (Int × Int)} {e : Int} (M : List (Int × Int)) (h : parI L e = none) : parI (L ++ M) e = parI M e := by
  unfold parI at h ⊢
  rw [Option.map_eq_none_iff] at h
  rw [tabI_app, List.find?_append, h]
  rfl
theorem find_some_app {L : List (Int × Int)} {e x : Int} (M : List (Int × Int)) (h : parI L e = some x) : parI (L ++ M) e = some x := by
  unfold parI at h ⊢
  rw [tabI_app, List.find?_append]
  cases c : (tabI L).find? fun q => decide (q.1 = e) with
  | none => rw [c] at h; cases h
  | some q => rw [c] at h; exact h
theorem parI_one (a b e : Int) : parI [(a, b)] e = if e = a then some b else if e = b then some a else none := by
  unfold parI tabI
  show (([(a, b), (b, a)] : List (Int × Int)).find? fun q => decide (q.1 = e)).map (·.2) = _
  rw [List.find?_cons, List.find?_cons]
  by_cases c : e = a
  · rw [if_pos c, show decide ((a, b).1 = e) = true from decide_eq_true c.symm]
    rfl
  · rw [if_neg c, show decide ((a, b).1 = e) = false from decide_eq_false (Ne.symm c)]
    by_cases c2 : e = b
    · rw [if_pos c2, show decide ((b, a).1 = e) = true from decide_eq_true c2.symm]
      rfl
    · rw [if_neg c2, show decide ((b, a).1 = e) = false from decide_eq_false (Ne.symm c2)]
      rfl
theorem parI_snoc {L : List (Int × Int)} {a b : Int} (ha : a ∉ flat L) (hb : b ∉ flat L) (e : Int) : parI (L ++ [(a, b)]) e = if e = a then some b else if e = b then some a else parI L e := by
  cases c : parI L e with
  | none => rw [find_none_app _ c, parI_one]
  | some x =>
    have he : e ∈ flat L := by
      by_cases z : e ∈ flat L
      · exact z
      · rw [parI_none.mpr z] at c; cases c
    rw [find_some_app _ c, if_neg (fun z : e = a => ha (z ▸ he)), if_neg (fun z : e = b => hb (z ▸ he))]
theorem ptb_snoc {L : List (Int × Int)} {a b : Int} (ha : a ∉ flat L) (hb : b ∉ flat L) (a0 : a ≠ 0) (b0 : b ≠ 0) (ab : a ≠ b) (e : Int) : (if e = b then a else if e = a then b else ptb L e) = ptb (L ++ [(a, b)]) e := by
  unfold ptb
  rw [parI_snoc ha hb]
  by_cases c0 : e = 0
  · rw [if_pos c0, if_pos c0, if_neg (by omega), if_neg (by omega)]
  · rw [if_neg c0, if_neg c0]
    by_cases c1 : e = a
    · rw [if_pos c1, if_neg (by omega), if_pos c1]; rfl
    · rw [if_neg c1, if_neg c1]
      by_cases c2 : e = b
      · rw [if_pos c2, if_pos c2]; rfl
      · rw [if_neg c2, if_neg c2]
theorem ptb_start (e : Int) : (if e = 0 then (1 : Int) else 0) = ptb [] e := by
  unfold ptb
  rw [parI_nil]
  rfl

/-! ### what is no layout, as data -/
/-- the coupling that a datum is -/
def cpD (n : Int) : PyData → Option (Int × Int)
  | .tuple [.int a, .int b] => if -n ≤ a ∧ a < b ∧ b ≤ n ∧ a ≠ 0 ∧ b ≠ 0 then some (a, b) else none
  | _ => none
def okN (L : List (Int × Int)) (p : Int × Int) : Prop := (∀ q ∈ L, q.1 < p.1) ∧ p.1 ∉ flat L ∧ p.2 ∉ flat L
instance (L : List (Int × Int)) (p : Int × Int) : Decidable (okN L p) := by unfold okN; exact inferInstance
def layW (n : Int) : List (Int × Int) → List PyData → Option Nat
  | _, [] => none
  | L, d :: ds => match cpD n d with
    | some p => if okN L p then layW n (L ++ [p]) ds else some L.length
    | none => some L.length
theorem cpD_dP {n : Int} {d : PyData} {p : Int × Int} (h : cpD n d = some p) : d = dP p ∧ -n ≤ p.1 ∧ p.1 < p.2 ∧ p.2 ≤ n ∧ p.1 ≠ 0 ∧ p.2 ≠ 0 := by
  unfold cpD at h
  split at h
  · split at h
    · rename_i c
      cases h
      exact ⟨rfl, c⟩
    · cases h
  · cases h
theorem cpD_of {n : Int} {p : Int × Int} (h : -n ≤ p.1 ∧ p.1 < p.2 ∧ p.2 ≤ n ∧ p.1 ≠ 0 ∧ p.2 ≠ 0) : cpD n (dP p) = some p := by
  unfold cpD dP
  exact if_pos h
theorem Lay.nil {n : Int} (n1 : 1 ≤ n) (n60 : n ≤ 60) : Lay n [] := ⟨n1, n60, fun _ h => (nomatch h), List.Pairwise.nil, List.Pairwise.nil⟩
theorem Lay.snoc {n : Int} {L : List (Int × Int)} {p : Int × Int} (h : Lay n L) (c : -n ≤ p.1 ∧ p.1 < p.2 ∧ p.2 ≤ n ∧ p.1 ≠ 0 ∧ p.2 ≠ 0) (k : okN L p) : Lay n (L ++ [p]) := by
  obtain ⟨k1, k2, k3⟩ := k
  refine ⟨h.n1, h.n60, fun q hq => ?_, ?_, ?_⟩
  · rcases List.mem_append.mp hq with z | z
    · exact h.cp q z
    · rw [List.mem_singleton.mp z]; exact c
  · rw [List.pairwise_append]
    refine ⟨h.asc, List.pairwise_singleton _ _, fun a ha b hb => ?_⟩
    rw [List.mem_singleton.mp hb]
    exact .inl (k1 a ha)
  · rw [flat_app, flat_cons, flat_nil]
    rw [List.nodup_append]
    refine ⟨h.nd, ?_, fun a ha b hb => ?_⟩
    · rw [List.nodup_cons]
      refine ⟨?_, by simp⟩
      intro z
      have := List.mem_singleton.mp z
      omega
    · rintro rfl
      rcases List.mem_cons.mp hb with z | z
      · exact k2 (z ▸ ha)
      · exact k3 (List.mem_singleton.mp z ▸ ha)
theorem Lay.okN {n : Int} {L M : List (Int × Int)} {p : Int × Int} (h : Lay n (L ++ p :: M)) : okN L p := by
  have nd := h.nd
  rw [flat_app, flat_cons] at nd
  obtain ⟨_, _, h3⟩ := List.nodup_append.mp nd
  refine ⟨fun q hq => ?_, fun z => h3 _ z p.1 (by simp) rfl, fun z => h3 _ z p.2 (by simp) rfl⟩
  rcases (List.pairwise_append.mp h.asc).2.2 q hq p (by simp) with z | z
  · exact z
  · exact absurd z.1 (h3 q.1 (mem_flat.mpr ⟨q, hq, .inl rfl⟩) p.1 (by simp))
theorem layW_app {n : Int} : ∀ {M L : List (Int × Int)} {r : List PyData}, Lay n (L ++ M) → layW n L (M.map dP ++ r) = layW n (L ++ M) r
  | [], L, r, _ => by rw [List.append_nil]; rfl
  | p :: M, L, r, h => by
    have hc := h.cp p (by simp)
    rw [List.map_cons, List.cons_append]
    unfold layW
    rw [cpD_of hc]
    show (if Vf.okN L p then _ else _) = _
    rw [if_pos h.okN, layW_app (by rw [List.append_assoc]; exact h), List.append_assoc]
    cases r <;> rfl
theorem layW_none {n : Int} {L : List (Int × Int)} (h : Lay n L) : layW n [] (L.map dP) = none := by
  have := layW_app (L := []) (M := L) (r := []) h
  rw [List.append_nil] at this
  rw [this]
  rfl
theorem layW_lay {n : Int} : ∀ {ds : List PyData} {L : List (Int × Int)}, Lay n L → layW n L ds = none → ∃ M, ds = M.map dP ∧ Lay n (L ++ M)
  | [], L, h, _ => ⟨[], rfl, by rw [List.append_nil]; exact h⟩
  | d :: ds, L, h, e => by
    unfold layW at e
    cases c : cpD n d with
    | none => rw [c] at e; cases e
    | some p =>
      rw [c] at e
      obtain ⟨c1, c2⟩ := cpD_dP c
      by_cases k : okN L p
      · have e' : layW n (L ++ [p]) ds = none := by
          have := e
          simp only [if_pos k] at this
          exact this
        obtain ⟨M, m1, m2⟩ := layW_lay (h.snoc c2 k) e'
        refine ⟨p :: M, by rw [c1, m1]; rfl, ?_⟩
        rw [List.append_assoc] at m2
        exact m2
      · simp only [if_neg k] at e
        cases e
theorem layW_bad {n : Int} {L : List (Int × Int)} {d : PyData} {r : List PyData} (h : Lay n L) (b : ∀ p, cpD n d = some p → ¬ okN L p) : layW n [] (L.map dP ++ d :: r) = some L.length := by
  rw [layW_app (L := []) (M := L) h]
  show layW n L (d :: r) = _
  unfold layW
  cases c : cpD n d with
  | none => rfl
  | some p => simp only [if_neg (b p c)]
end Vf
namespace Vf
open PySem PySem.Spec PyProof.Rows L2
/-! ### tests: three comparisons in a row, truth of any value -/
def tCh3 (r1 r2 r3 : R2) (ta tb tc td : TE) : TT := fun σ H B => ta σ H fun x H1 => tb σ H1 fun y H2 => r1 x y H2 fun c1 H3 => ∃ k1, c1 = .bl k1 ∧ if k1 = true then
  tc σ H3 fun z H4 => r2 y z H4 fun c2 H5 => ∃ k2, c2 = .bl k2 ∧ if k2 = true then td σ H5 fun t H6 => r3 z t H6 fun c3 H7 => ∃ k3, c3 = .bl k3 ∧ B k3 H7 else B false H5 else B false H3
section
variable {X : Cx} {a b c d : Expr} {ta tb tc td : TE} {pos : Pos}
theorem pt_ch3 {o1 o2 o3 : CmpOp} {r1 r2 r3 : R2} (h1 : OpR X (compareOp o1) r1) (h2 : OpR X (compareOp o2) r2) (h3 : OpR X (compareOp o3) r3) (ha : PE X a ta) (hb : PE X b tb) (hc : PE X c tc) (hd : PE X d td)
    (marks : lastMarks [o1, o2, o3] [b, c, d] = false := by with_unfolding_all rfl) : PT X (.Compare a [o1, o2, o3] [b, c, d] pos) (tCh3 r1 r2 r3 ta tb tc td) := by
  constructor
  intro pins s σ H B I h
  refine isTrue_chain (thn (ha.run pins s σ H _ I h) fun va sa ⟨x, G1, J1, e1, q1⟩ => test_link (thn (hb.run pins sa σ G1 _ J1 q1) fun vb sb ⟨y, G2, J2, e2, q2⟩ => thn (h1 pins sb σ G2 x y va vb _ J2 e1 e2 q2) ?_)) marks
  rintro u1 t1 ⟨_, G3, J3, rel, k1, rfl, q3⟩
  cases rel
  apply wpAny_truthy_bool
  cases k1 with
  | false => exact ite_ff ⟨G3, J3, q3⟩
  | true =>
    refine ite_tt (test_link (thn (hc.run pins t1 σ G3 _ J3 q3) fun vc sc ⟨z, G4, J4, e4, q4⟩ => thn (h2 pins sc σ G4 y z vb vc _ J4 e2 e4 q4) ?_))
    rintro u2 t2 ⟨_, G5, J5, rel, k2, rfl, q5⟩
    cases rel
    apply wpAny_truthy_bool
    cases k2 with
    | false => exact ite_ff ⟨G5, J5, q5⟩
    | true =>
      refine ite_tt (test_last (thn (hd.run pins t2 σ G5 _ J5 q5) fun vd sd ⟨t, G6, J6, e6, q6⟩ => thn (h3 pins sd σ G6 z t vc vd _ J6 e4 e6 q6) ?_))
      rintro u3 t3 ⟨_, G7, J7, rel, k3, rfl, q7⟩
      cases rel
      exact wpAny_truthy_bool ⟨G7, J7, q7⟩
def tTru (K : PySem.W.Frag) (te : TE) : TT := fun σ H B => te σ H fun x H1 => ∃ k, TruV K x H1 k ∧ B k H1
theorem pt_tru {K : PySem.W.Frag} (ha : PE X a ta) (he : ∀ whole, isTrue a X.env whole = (do let v ← whole; standAt a.pos; holding [v] (truthy v)) := by intro _; rfl) (hK : X.K = K := by rfl) : PT X a (tTru K ta) := by
  subst hK
  exact pt_truth ha he
end
section
variable {K : PySem.W.Frag} {σ : L2.St} {H : Hp} {Q : VK} {B : Bool → Hp → Prop} {te ta tb tc td : TE}
theorem r_tru (h : te σ H fun x H1 => ∃ k, TruV K x H1 k ∧ B k H1) : tTru K te σ H B := h
theorem r_truI {i : Int} (h : B (i != 0) H) : ∃ k, TruV K (.int i) H k ∧ B k H := ⟨_, rfl, h⟩
theorem r_truB {b : Bool} (h : B b H) : ∃ k, TruV K (.bl b) H k ∧ B k H := ⟨_, rfl, h⟩
theorem r_truN (h : B false H) : ∃ k, TruV K .non H k ∧ B k H := ⟨_, rfl, h⟩
theorem r_truL {p : Addr} {xs : List V} (hs : SqL K H p xs) (h : B (!xs.isEmpty) H) : ∃ k, TruV K (.ref p) H k ∧ B k H := ⟨_, .inl ⟨xs, hs, rfl⟩, h⟩
theorem r_truT {p : Addr} {xs : List V} (hs : SqT K H p xs) (h : B (!xs.isEmpty) H) : ∃ k, TruV K (.ref p) H k ∧ B k H := ⟨_, .inr (.inl ⟨xs, hs, rfl⟩), h⟩
theorem r_ch3 {r1 r2 r3 : R2} (h : ta σ H fun x H1 => tb σ H1 fun y H2 => r1 x y H2 fun c1 H3 => ∃ k1, c1 = .bl k1 ∧ if k1 = true then
  tc σ H3 fun z H4 => r2 y z H4 fun c2 H5 => ∃ k2, c2 = .bl k2 ∧ if k2 = true then td σ H5 fun t H6 => r3 z t H6 fun c3 H7 => ∃ k3, c3 = .bl k3 ∧ B k3 H7 else B false H5 else B false H3) : tCh3 r1 r2 r3 ta tb tc td σ H B := h
/-- the type of any value -/
def rTyp (K : PySem.W.Frag) : List V → Hp → VK → Prop := fun xs H Q => ∃ (v : V) (d : PyData), xs = [v] ∧ Dt K H v d ∧ Q (.ty (tyD d)) H
theorem typK {X : Cx} (hK : X.K = K := by rfl) : CallR X (.type "type") (rTyp K) := call_typeD hK
theorem r_typ {v : V} {d : PyData} (h : Dt K H v d) (q : Q (.ty (tyD d)) H) : rTyp K [v] H Q := ⟨v, d, rfl, h, q⟩
theorem tyN_d (d : PyData) : TyN (tyD d) := by cases d <;> constructor
def rTyC (neg : Bool) : R2 := fun x y H Q => ∃ m n, x = .ty m ∧ y = .ty n ∧ TyN m ∧ TyN n ∧ Q (.bl (decide (m = n) != neg)) H
theorem op_tyEq {X : Cx} : OpR X (compareOp .Eq) (rTyC false) := by
  rintro pins s σ H _ _ v u Q I rx ry ⟨m, n, rfl, rfl, hm, hn, q⟩
  cases rx
  cases ry
  by_cases e : m = n
  · subst e
    exact TypeEq.eq_type_same hm.is ⟨.bl true, H, I, rfl, by simpa using q⟩
  · refine TypeEq.eq_type_other hm.is hn.is ?_ ⟨.bl false, H, I, rfl, by simpa [e] using q⟩
    rw [Bool.eq_false_iff]
    intro z
    exact e (Value.type.inj (beq_iff_eq.mp z))
theorem op_tyNe {X : Cx} : OpR X (compareOp .NotEq) (rTyC true) := by
  rintro pins s σ H _ _ v u Q I rx ry ⟨m, n, rfl, rfl, hm, hn, q⟩
  exact op_neTy pins s σ H _ _ v u Q I rx ry ⟨m, n, rfl, rfl, hm, hn, by
    by_cases e : m = n <;> simpa [e] using q⟩
theorem r_tyC {a b : String} {neg : Bool} (ha : TyN a) (hb : TyN b) (q : Q (.bl (decide (a = b) != neg)) H) : rTyC neg (.ty a) (.ty b) H Q := ⟨a, b, rfl, rfl, ha, hb, q⟩
/-! any value once more -/
theorem dta_pair {xs : List V} {ds : List PyData} (h : DtAll K H xs ds) : Paired (Dt K H) xs ds := by
  induction ds generalizing xs with
  | nil => cases h; exact .nil
  | cons d ds ih =>
    cases h with
    | cons h r => exact .cons h (ih r)
theorem dta_len {xs : List V} {ds : List PyData} (h : DtAll K H xs ds) : xs.length = ds.length := pair_len (dta_pair h)
end
end Vf
namespace Vf
open PySem PySem.Spec PyProof.Rows L2
/-! ### the program's own words for values, on data -/
def intD : PyData → Option Int
  | .int i => some i
  | _ => none
def isIntD (d : PyData) : Bool := (intD d).isSome
def piecesD (d : PyData) : Option Int := match d with
  | .int n => if 1 ≤ n ∧ n ≤ 60 then some n else none
  | _ => none
def endD (n : Int) (d : PyData) : Bool := match d with
  | .int i => decide (i ≠ 0 ∧ -n ≤ i ∧ i ≤ n)
  | _ => false
def lstD (d : PyData) : Option (List PyData) := match d with
  | .list ds => some ds
  | _ => none
/-- the field of the error of a value that should be a layout -/
inductive LayE (n : Int) : PyData → V → Prop
  | list {d : PyData} (h : lstD d = none) : LayE n d .non
  | item {ds : List PyData} {i : Nat} (h : layW n [] ds = some i) : LayE n (.list ds) (.int i)
theorem isInt_t {d : PyData} (h : isD "int" d = true) : (!isD "bool" d) = isIntD d := by cases d <;> revert h <;> simp [isD, tyD, isIntD, intD]
theorem isInt_f {d : PyData} (h : ¬ isD "int" d = true) : isIntD d = false := by cases d <;> revert h <;> simp [isD, tyD, isIntD, intD]
theorem isInt_some {d : PyData} (h : isIntD d = true) : ∃ i, d = .int i := by cases d <;> first | exact ⟨_, rfl⟩ | cases h
theorem dt_int {K : PySem.W.Frag} {H : Hp} {v : V} {i : Int} (h : Dt K H v (.int i)) : v = .int i := by cases h; rfl
theorem dt_non {K : PySem.W.Frag} {H : Hp} {v : V} (h : Dt K H v .none) : v = .non := by cases h; rfl
theorem dt_lst {K : PySem.W.Frag} {H : Hp} {v : V} {ds : List PyData} (h : Dt K H v (.list ds)) : ∃ a xs, v = .ref a ∧ H a = some (.lst xs) ∧ DtAll K H xs ds := by cases h with | lst h r => exact ⟨_, _, rfl, h, r⟩
theorem dt_tup {K : PySem.W.Frag} {H : Hp} {v : V} {ds : List PyData} (h : Dt K H v (.tuple ds)) : ∃ a xs, v = .ref a ∧ H a = some (.tup xs) ∧ DtAll K H xs ds := by cases h with | tup h r => exact ⟨_, _, rfl, h, r⟩
theorem tyD_int {d : PyData} : tyD d = "int" ↔ isIntD d = true := by cases d <;> simp [tyD, isIntD, intD]
theorem tyD_tup {d : PyData} : tyD d = "tuple" ↔ ∃ ds, d = .tuple ds := by cases d <;> simp [tyD]
theorem tyD_lst {d : PyData} : tyD d = "list" ↔ ∃ ds, d = .list ds := by cases d <;> simp [tyD]
theorem cp_none_tup {n : Int} {d : PyData} (h : ¬ ∃ ds, d = .tuple ds) : cpD n d = none := by
  unfold cpD
  split
  · exact absurd ⟨_, rfl⟩ h
  · rfl
theorem cp_none_len {n : Int} {ds : List PyData} (h : ds.length ≠ 2) : cpD n (.tuple ds) = none := by
  unfold cpD
  split
  · rename_i e
    cases e
    exact absurd rfl h
  · rfl
theorem cp_none_int {n : Int} {d e : PyData} (h : ¬ (isIntD d = true ∧ isIntD e = true)) : cpD n (.tuple [d, e]) = none := by
  unfold cpD
  split
  · rename_i q
    cases q
    exact absurd ⟨rfl, rfl⟩ h
  · rfl
theorem cp_none_rng {n a b : Int} (h : ¬ (-n ≤ a ∧ a < b ∧ b ≤ n ∧ a ≠ 0 ∧ b ≠ 0)) : cpD n (.tuple [.int a, .int b]) = none := if_neg h
end Vf
namespace Vf
open PySem PySem.Spec PyProof.Rows L2
def cntF (p : Int × Int) (k : Int) : Int × Int := (p.2, p.2 + k * p.1)
def cntL (n : Int) : Int := ((rng 1 (2 * n - 1).toNat).foldl cntF (1, 1)).2
def opensL (n : Int) (L : List (Int × Int)) : List Int := (endsL n).filter fun e => !(parI L e).isSome
def partsL (n : Int) (L : List (Int × Int)) : List Int := (endsL n).map fun e => (parI L e).getD 0
end Vf
namespace Vf
open PySem PySem.Spec PyProof.Rows L2
theorem layW_lt {n : Int} : ∀ {ds : List PyData} {L : List (Int × Int)} {i : Nat}, layW n L ds = some i → i < L.length + ds.length
  | [], _, _, h => by cases h
  | d :: ds, L, i, h => by
    unfold layW at h
    rw [List.length_cons]
    split at h
    · split at h
      · have := layW_lt h
        rw [List.length_append, List.length_singleton] at this
        omega
      · cases h; omega
    · cases h; omega
def fewD (d : PyData) : Prop := ∀ ds, d = .list ds → ds.length ≤ 100000
theorem easy_nat {i : Nat} (h : i ≤ 100000) : Easy (.int (i : Int)) := .inr ⟨i, rfl, log2_small (Nat.lt_of_le_of_lt (show (i : Int).natAbs ≤ 100000 by omega) (by decide +kernel))⟩
theorem Lay.few {n : Int} {L : List (Int × Int)} (h : Lay n L) : fewD (dL L) := fun ds e => by
  cases e
  rw [List.length_map]
  have := h.len
  omega
/-- the data of a layout in the heap -/
theorem dta_prs {K : PySem.W.Frag} {H : Hp} : ∀ {xs : List V} {L : List (Int × Int)}, Prs H xs L → DtAll K H xs (L.map dP)
  | _, _, .nil => .nil
  | _, _, .cons ⟨t, e, h⟩ r => .cons (e ▸ .tup h (.cons (.int _) (.cons (.int _) .nil))) (dta_prs r)
theorem dt_lay {K : PySem.W.Frag} {H : Hp} {a : Addr} {xs : List V} {L : List (Int × Int)} (h : H a = some (.lst xs)) (p : Prs H xs L) : Dt K H (.ref a) (dL L) := .lst h (dta_prs p)
theorem dL_inj {L M : List (Int × Int)} (h : dL L = dL M) : L = M := by
  have h1 : L.map dP = M.map dP := by cases h1 : dL L; all_goals (unfold dL at *; injection h)
  clear h
  induction L generalizing M with
  | nil => cases M with
    | nil => rfl
    | cons q M => cases h1
  | cons p L ih => cases M with
    | nil => cases h1
    | cons q M =>
      rw [List.map_cons, List.map_cons] at h1
      injection h1 with e1 e2
      unfold dP at e1
      injection e1 with e3
      injection e3 with e4 e5
      injection e5 with e6 e7
      injection e4 with e8
      injection e6 with e9
      rw [ih e2, show p = q from Prod.ext e8 e9]
theorem layE_no {n : Int} {L : List (Int × Int)} {i : V} (hL : Lay n L) (h : LayE n (dL L) i) : False := by
  cases h with
  | list h => cases h
  | item h => rw [layW_none hL] at h; cases h
/-- whether a value is a layout -/
def isLayD (n : Int) (d : PyData) : Bool := match d with
  | .list ds => (layW n [] ds).isNone
  | _ => false
end Vf
namespace Vf
open PySem PySem.Spec PyProof.Rows L2
theorem piecesD_some {d : PyData} {n : Int} (h : piecesD d = some n) : 1 ≤ n ∧ n ≤ 60 ∧ d = .int n := by
  unfold piecesD at h
  split at h
  · split at h
    · cases h; exact ⟨by omega, by omega, rfl⟩
    · cases h
  · cases h
theorem pieces_int {n : Int} (h1 : 1 ≤ n) (h2 : n ≤ 60) : piecesD (.int n) = some n := if_pos ⟨h1, h2⟩
theorem opens_tab {n : Int} {L : List (Int × Int)} (hL : Lay n L) : ((rng (-n) (2 * n + 1).toNat).filter fun e => decide (ptb L e = 0)) = opensL n L := by
  unfold opensL endsL
  rw [List.filter_filter, show (n + 1 - -n).toNat = (2 * n + 1).toNat by omega]
  refine List.filter_congr fun e _ => ?_
  unfold ptb
  by_cases z : e = 0
  · rw [if_pos z]; simp [z]
  · rw [if_neg z]
    cases hp : parI L e with
    | none => simp [z]
    | some x =>
      have := par_mem hL hp
      simp [this.2.2]
end Vf
namespace Vf
open PySem PySem.Spec PyProof.Rows L2
theorem IsF.nat {n : Int} {f : Int → Int} {ts : List Int} (h : IsF n f ts) {j : Nat} (hj : (j : Int) < 2 * n + 1) : ts[j]? = some (f (if (j : Int) ≤ n then j else j - (2 * n + 1))) := by
  have hl := h.len
  have n0 := h.n0
  by_cases c : (j : Int) ≤ n
  · rw [if_pos c]
    have e := h.get j (by omega) c
    unfold atI at e
    rw [ixN_of (by omega) (by omega), if_pos (by omega)] at e
    exact e
  · rw [if_neg c]
    have e := h.get (j - (2 * n + 1)) (by omega) (by omega)
    unfold atI at e
    rw [ixN_of (by omega) (by omega), if_neg (by omega)] at e
    have : ((j : Int) - (2 * n + 1) + (ts.length : Nat)).toNat = j := by omega
    rw [this] at e
    exact e
theorem rng_add (lo : Int) (a b : Nat) : rng lo (a + b) = rng lo a ++ rng (lo + a) b := by
  unfold rng
  rw [List.range_add, List.map_append, List.map_map]
  congr 1
  refine List.map_congr_left fun i _ => ?_
  show lo + ((a + i : Nat) : Int) = lo + a + i
  omega
theorem rng_get {lo : Int} {m i : Nat} (h : i < m) : (rng lo m)[i]? = some (lo + i) := by
  unfold rng
  rw [List.getElem?_map, List.getElem?_range h]
  rfl
theorem endsL_two {n : Int} (h : 0 ≤ n) : endsL n = rng (-n) n.toNat ++ rng 1 n.toNat := by
  unfold endsL
  rw [show (n + 1 - -n).toNat = n.toNat + (1 + n.toNat) by omega, rng_add, rng_add, List.filter_append, List.filter_append]
  have e0 : (rng (-n + (n.toNat : Int)) 1).filter (fun e => !decide (e = 0)) = [] := by
    rw [show -n + (n.toNat : Int) = 0 by omega]
    rfl
  have e1 : (rng (-n) n.toNat).filter (fun e => !decide (e = 0)) = rng (-n) n.toNat := by
    refine List.filter_eq_self.mpr fun e he => ?_
    have := mem_rng.mp he
    simp; omega
  have e2 : (rng (-n + (n.toNat : Int) + (1 : Nat)) n.toNat).filter (fun e => !decide (e = 0)) = rng 1 n.toNat := by
    rw [show -n + (n.toNat : Int) + (1 : Nat) = 1 by omega]
    refine List.filter_eq_self.mpr fun e he => ?_
    have := mem_rng.mp he
    simp; omega
  rw [e0, e1, e2]
  rfl
theorem IsF.cut {n : Int} {f : Int → Int} {ts : List Int} (h : IsF n f ts) : cutV (ts.map V.int) (some (n + 1)) none ++ cutV (ts.map V.int) (some 1) (some (n + 1)) = ((endsL n).map f).map V.int := by
  have hl := h.len
  have n0 := h.n0
  have s1 : HT.sIx ts.length 0 (some (n + 1)) = (n + 1).toNat := by unfold HT.sIx; simp only; split <;> omega
  have s2 : HT.sIx ts.length ts.length none = ts.length := rfl
  have s3 : HT.sIx ts.length 0 (some 1) = 1 := by unfold HT.sIx; simp only; split <;> omega
  have s4 : HT.sIx ts.length ts.length (some (n + 1)) = (n + 1).toNat := by unfold HT.sIx; simp only; split <;> omega
  unfold cutV
  rw [List.length_map, s1, s2, s3, s4, ← List.map_drop, ← List.map_drop, ← List.map_take, ← List.map_take, ← List.map_append]
  congr 1
  rw [endsL_two n0, List.map_append]
  congr 1
  · refine List.ext_getElem? fun i => ?_
    rw [List.getElem?_take]
    by_cases c : i < n.toNat
    · rw [if_pos (by omega), List.getElem?_drop, h.nat (by omega), List.getElem?_map, rng_get c, if_neg (by omega)]
      show some (f _) = some (f _)
      congr 2
      omega
    · rw [if_neg (by omega), List.getElem?_eq_none (by rw [List.length_map, rng_len]; omega)]
  · refine List.ext_getElem? fun i => ?_
    rw [List.getElem?_take]
    by_cases c : i < n.toNat
    · rw [if_pos (by omega), List.getElem?_drop, h.nat (by omega), List.getElem?_map, rng_get c, if_pos (by omega)]
      show some (f _) = some (f _)
      congr 2
    · rw [if_neg (by omega), List.getElem?_eq_none (by rw [List.length_map, rng_len]; omega)]
theorem parts_tab {n : Int} {L : List (Int × Int)} : (endsL n).map (ptb L) = partsL n L := by
  unfold partsL
  refine List.map_congr_left fun e he => ?_
  exact if_neg (mem_endsL.mp he).2.2
theorem cut_len (xs : List V) (lo hi : Option Int) : (cutV xs lo hi).length ≤ xs.length := by
  unfold cutV
  rw [List.length_take, List.length_drop]
  omega
end Vf

namespace Vf
open PySem PySem.Spec PyProof.Rows L2

/-! ### values that a law makes up: what is known of them is that they are data, not too long -/
def Val (K : PySem.W.Frag) (H : Hp) (W k : Nat) (v : V) : Prop := ∃ d, Dt K H v d ∧ Sd W k d ∧ fewD d
/-- many of them: their texts together, their depth, their number -/
def Vals' (K : PySem.W.Frag) (H : Hp) (W k m : Nat) (vs : List V) : Prop := ∃ ds, DtAll K H vs ds ∧ (∀ d ∈ ds, d.showable = true ∧ d.depth ≤ k ∧ fewD d) ∧ ((PyData.shownAll ds).map (·.length)).sum ≤ W ∧ ds.length ≤ m
def LsV (K : PySem.W.Frag) (H : Hp) (W k m : Nat) (v : V) : Prop := ∃ a xs, v = .ref a ∧ H a = some (.lst xs) ∧ Vals' K H W k m xs
section
variable {K : PySem.W.Frag} {H H' : Hp} {W W' k k' m m' : Nat} {v : V} {vs us : List V}
theorem Val.mono (s : Same H H') (h : Val K H W k v) : Val K H' W k v := let ⟨d, a, b⟩ := h; ⟨d, a.mono s, b⟩
theorem Val.le (h : Val K H W k v) (h1 : W ≤ W') (h2 : k ≤ k') : Val K H W' k' v := let ⟨d, a, b, c⟩ := h; ⟨d, a, b.mono h1 h2, c⟩
theorem Vals'.mono (s : Same H H') (h : Vals' K H W k m vs) : Vals' K H' W k m vs := let ⟨d, a, b⟩ := h; ⟨d, a.mono s, b⟩
theorem LsV.mono (s : Same H H') (h : LsV K H W k m v) : LsV K H' W k m v := let ⟨a, xs, e, f, g⟩ := h; ⟨a, xs, e, s _ _ f, g.mono s⟩
theorem vals_nil : Vals' K H 0 0 0 [] := ⟨[], .nil, fun _ z => (nomatch z), by rw [PyData.shownAll_nil]; exact Nat.le_refl _, Nat.le_refl _⟩
theorem vals_cons (h : Val K H W k v) (hs : Vals' K H W' k' m vs) : Vals' K H (W + W') (max k k') (m + 1) (v :: vs) := by
  obtain ⟨d, h1, h2, h3⟩ := h
  obtain ⟨ds, g1, g2, g3, g4⟩ := hs
  refine ⟨d :: ds, .cons h1 g1, fun x hx => ?_, ?_, by rw [List.length_cons]; omega⟩
  · rcases List.mem_cons.mp hx with rfl | hx
    · exact ⟨h2.sh, Nat.le_trans h2.dp (Nat.le_max_left _ _), h3⟩
    · obtain ⟨a, b, c⟩ := g2 x hx
      exact ⟨a, Nat.le_trans b (Nat.le_max_right _ _), c⟩
  · rw [PyData.shownAll_cons, List.map_cons, List.sum_cons]
    have := h2.ln
    omega
theorem dta_app {xs ys : List V} {ds es : List PyData} (h : DtAll K H xs ds) (g : DtAll K H ys es) : DtAll K H (xs ++ ys) (ds ++ es) := by
  induction ds generalizing xs with
  | nil => cases h; exact g
  | cons d ds ih => cases h with | cons a b => exact .cons a (ih b)
theorem shownAll_app : ∀ ds es : List PyData, PyData.shownAll (ds ++ es) = PyData.shownAll ds ++ PyData.shownAll es
  | [], _ => by rw [PyData.shownAll_nil]; rfl
  | d :: ds, es => by rw [List.cons_append, PyData.shownAll_cons, PyData.shownAll_cons, shownAll_app ds es]; rfl
theorem vals_app (h : Vals' K H W k m vs) (g : Vals' K H W' k' m' us) : Vals' K H (W + W') (max k k') (m + m') (vs ++ us) := by
  obtain ⟨ds, h1, h2, h3, h4⟩ := h
  obtain ⟨es, g1, g2, g3, g4⟩ := g
  refine ⟨ds ++ es, dta_app h1 g1, fun x hx => ?_, ?_, by rw [List.length_append]; omega⟩
  · rcases List.mem_append.mp hx with hx | hx
    · obtain ⟨a, b, c⟩ := h2 x hx
      exact ⟨a, Nat.le_trans b (Nat.le_max_left _ _), c⟩
    · obtain ⟨a, b, c⟩ := g2 x hx
      exact ⟨a, Nat.le_trans b (Nat.le_max_right _ _), c⟩
  · rw [shownAll_app, List.map_append, List.sum_append]
    omega
theorem sd_seq {ds : List PyData} (h : ∀ d ∈ ds, d.showable = true ∧ d.depth ≤ k ∧ fewD d) : PyData.showableAll ds = true ∧ PyData.depthAll ds ≤ k := by
  induction ds with
  | nil => exact ⟨by simp only [PyData.showableAll], by simp only [PyData.depthAll]; omega⟩
  | cons d ds ih =>
    obtain ⟨a, b⟩ := ih fun x hx => h x (List.mem_cons_of_mem _ hx)
    obtain ⟨c, e, _⟩ := h d List.mem_cons_self
    refine ⟨by simp only [PyData.showableAll, c, a, Bool.and_self], by simp only [PyData.depthAll]; omega⟩
theorem Vals'.tup {a : Addr} (e : H a = some (.tup vs)) (h : Vals' K H W k m vs) : Val K H (W + 2 * m + 3) (k + 1) (.ref a) := by
  obtain ⟨ds, h1, h2, h3, h4⟩ := h
  obtain ⟨s1, s2⟩ := sd_seq h2
  refine ⟨.tuple ds, .tup e h1, ⟨by simp only [PyData.showable, s1], by simp only [PyData.depth]; omega, ?_⟩, fun _ z => by cases z⟩
  simp only [PyData.shown]
  have := tupleText_len_le (PyData.shownAll ds)
  rw [PyData.shownAll_length] at this
  omega
theorem LsV.val (h : LsV K H W k m v) (hm : m ≤ 100000) : Val K H (W + 2 * m + 3) (k + 1) v := by
  obtain ⟨a, xs, rfl, e, ds, h1, h2, h3, h4⟩ := h
  obtain ⟨s1, s2⟩ := sd_seq h2
  refine ⟨.list ds, .lst e h1, ⟨by simp only [PyData.showable, s1], by simp only [PyData.depth]; omega, ?_⟩, fun es z => by cases z; omega⟩
  simp only [PyData.shown]
  have := listText_len_le (PyData.shownAll ds)
  rw [PyData.shownAll_length] at this
  omega
theorem val_int {i : Int} (h : i.natAbs < 10 ^ 40) : Val K H 42 1 (.int i) := by
  refine ⟨.int i, .int i, ⟨?_, by simp only [PyData.depth]; omega, ?_⟩, fun _ z => by cases z⟩
  · simp only [PyData.showable]
    exact decide_eq_true (log2_small (Nat.lt_of_lt_of_le (Nat.lt_trans h (show 10 ^ 40 < 2 ^ 200 by decide)) (Nat.pow_le_pow_right (by decide) (by decide))))
  · have e := int_text_length_le10 (k := 40) (by decide) h
    show (Str.ofString (toString i)).length ≤ 42
    rw [PySem.ofString_length]
    omega
theorem val_non : Val K H 4 1 .non := ⟨.none, .non, ⟨by simp only [PyData.showable], by simp only [PyData.depth]; omega, by rw [PyData.shown_none]; decide⟩, fun _ z => by cases z⟩
theorem val_bl {b : Bool} : Val K H 5 1 (.bl b) := ⟨.bool b, .bl b, ⟨by simp only [PyData.showable], by simp only [PyData.depth]; omega, by rw [PyData.shown_bool]; cases b <;> decide⟩, fun _ z => by cases z⟩
theorem val_str {x : Str} {n : Nat} (h : (reprText x).length ≤ n) : Val K H n 1 (.str x) := ⟨.str x, .str x, ⟨by simp only [PyData.showable], by simp only [PyData.depth]; omega, by rw [PyData.shown_str]; exact h⟩, fun _ z => by cases z⟩
theorem val_dct0 {a : Addr} (e : H a = some (.dK [])) : Val K H 10 2 (.ref a) := by
  obtain ⟨d, h1, h2⟩ := Any.dct0 (K := K) e
  cases h1 with
  | lst h _ => rw [e] at h; cases h
  | tup h _ => rw [e] at h; cases h
  | dct h r => exact ⟨_, .dct h r, h2, fun _ z => by cases z⟩
theorem val_dct1 {a : Addr} {x : Str} {n : Nat} (e : H a = some (.dK [(.inr x, v)])) (h : Val K H W k v) (hm : (reprText x).length ≤ n) : Val K H (W + n + 10) (k + 1) (.ref a) := by
  obtain ⟨d0, g1, g2, _⟩ := h
  obtain ⟨d, h1, h2⟩ := Any.dct1 (K := K) e ⟨d0, g1, g2⟩ hm
  cases h1 with
  | lst h _ => rw [e] at h; cases h
  | tup h _ => rw [e] at h; cases h
  | dct h r => exact ⟨_, .dct h r, h2, fun _ z => by cases z⟩
theorem val_pr {p : Int × Int} (h : Pr H v p) (b : p.1.natAbs < 10 ^ 40 ∧ p.2.natAbs < 10 ^ 40) : Val K H 91 2 v := by
  obtain ⟨t, rfl, e⟩ := h
  exact (Vals'.tup e (vals_cons (val_int b.1) (vals_cons (val_int b.2) vals_nil))).le (by omega) (by omega)
theorem vals_prs {L : List (Int × Int)} (h : Prs H vs L) (b : ∀ p ∈ L, p.1.natAbs < 10 ^ 40 ∧ p.2.natAbs < 10 ^ 40) : Vals' K H (91 * L.length) 2 L.length vs := by
  induction h with
  | nil => exact ⟨[], .nil, fun _ z => (nomatch z), by rw [PyData.shownAll_nil]; exact Nat.le_refl _, Nat.le_refl _⟩
  | cons r t ih =>
    obtain ⟨ds, g1, g2, g3, g4⟩ := vals_cons (val_pr r (b _ List.mem_cons_self)) (ih fun q hq => b q (List.mem_cons_of_mem _ hq))
    exact ⟨ds, g1, g2, by rw [List.length_cons]; omega, by rw [List.length_cons]; omega⟩
theorem Vals'.le (h : Vals' K H W k m vs) (h1 : W ≤ W') (h2 : k ≤ k') (h3 : m ≤ m') : Vals' K H W' k' m' vs := by
  obtain ⟨ds, a, b, c, d⟩ := h
  exact ⟨ds, a, fun x hx => by obtain ⟨p, q, r⟩ := b x hx; exact ⟨p, by omega, r⟩, by omega, by omega⟩
theorem vals_lay {n : Int} {L : List (Int × Int)} (h : Prs H vs L) (hL : Lay n L) : Vals' K H 5460 2 60 vs :=
  (vals_prs h fun p hp => by have := hL.cp p hp; have := hL.n60; omega).le (by have := hL.len; omega) (by omega) hL.len
theorem Vals'.mem (h : Vals' K H W k m vs) : ∀ x ∈ vs, Val K H W k x := by
  obtain ⟨ds, a, b, c, z⟩ := h
  clear z
  induction ds generalizing vs W with
  | nil => cases a; intro x hx; cases hx
  | cons d ds ih =>
    cases a with
    | cons a1 a2 =>
      rw [PyData.shownAll_cons, List.map_cons, List.sum_cons] at c
      intro x hx
      obtain ⟨b1, b2, b3⟩ := b d List.mem_cons_self
      rcases List.mem_cons.mp hx with rfl | hx
      · exact ⟨d, a1, ⟨b1, b2, by omega⟩, b3⟩
      · exact (ih (W := W - d.shown.length) a2 (fun y hy => b y (List.mem_cons_of_mem _ hy)) (by omega) x hx).le (by omega) (Nat.le_refl _)
theorem Vals'.len (h : Vals' K H W k m vs) : vs.length ≤ m := by
  obtain ⟨ds, a, _, _, d⟩ := h
  rw [dta_len a]
  exact d
theorem vals_of {N : Nat} : ∀ {xs : List V}, (∀ x ∈ xs, Val K H N k x) → Vals' K H (N * xs.length) k xs.length xs
  | [], _ => ⟨[], .nil, fun _ z => (nomatch z), by rw [PyData.shownAll_nil]; exact Nat.zero_le _, Nat.le_refl _⟩
  | x :: xs, h => by
    obtain ⟨ds, g1, g2, g3, g4⟩ := vals_cons (h x List.mem_cons_self) (vals_of (xs := xs) fun y hy => h y (List.mem_cons_of_mem _ hy))
    refine ⟨ds, g1, fun d hd => ?_, by rw [List.length_cons, Nat.mul_succ]; omega, by rw [List.length_cons]; omega⟩
    obtain ⟨a, b, c⟩ := g2 d hd
    exact ⟨a, by omega, c⟩
theorem Vals'.sub {ys : List V} (h : Vals' K H W k m vs) (s : ys.Sublist vs) : Vals' K H W k m ys := by
  obtain ⟨ds, a, b, c, d⟩ := h
  induction s generalizing ds W m with
  | slnil => cases a; exact ⟨[], .nil, fun _ z => (nomatch z), by rw [PyData.shownAll_nil]; exact Nat.zero_le _, Nat.zero_le _⟩
  | @cons l1 l2 x _ ih =>
    cases a with
    | @cons _ _ e es a1 a2 =>
      rw [PyData.shownAll_cons, List.map_cons, List.sum_cons] at c
      rw [List.length_cons] at d
      exact ih es a2 (fun y hy => b y (List.mem_cons_of_mem _ hy)) (by omega) (by omega)
  | @cons_cons l1 l2 x _ ih =>
    cases a with
    | @cons _ _ e es a1 a2 =>
      rw [PyData.shownAll_cons, List.map_cons, List.sum_cons] at c
      rw [List.length_cons] at d
      obtain ⟨fs, f1, f2, f3, f4⟩ := ih (W := W - e.shown.length) (m := m - 1) es a2 (fun y hy => b y (List.mem_cons_of_mem _ hy)) (by omega) (by omega)
      refine ⟨e :: fs, .cons a1 f1, fun y hy => ?_, by rw [PyData.shownAll_cons, List.map_cons, List.sum_cons]; omega, by rw [List.length_cons]; omega⟩
      rcases List.mem_cons.mp hy with rfl | hy
      · exact b _ List.mem_cons_self
      · exact f2 y hy
theorem cut_sub (xs : List V) (lo hi : Option Int) : (cutV xs lo hi).Sublist xs := (List.take_sublist _ _).trans (List.drop_sublist _ _)
theorem vals_rev (h : Vals' K H W k m vs) : Vals' K H W k m vs.reverse := by
  obtain ⟨ds, a, b, c, d⟩ := h
  have ra : DtAll K H vs.reverse ds.reverse := by
    clear b c d
    induction ds generalizing vs with
    | nil => cases a; exact .nil
    | cons e es ih => cases a with
      | cons a1 a2 => rw [List.reverse_cons, List.reverse_cons]; exact dta_app (ih a2) (.cons a1 .nil)
  have rs : ∀ es : List PyData, ((PyData.shownAll es.reverse).map (·.length)).sum = ((PyData.shownAll es).map (·.length)).sum := fun es => by
    induction es with
    | nil => rfl
    | cons e es ih => rw [List.reverse_cons, shownAll_app, List.map_append, List.sum_append, ih, PyData.shownAll_cons, PyData.shownAll_cons, PyData.shownAll_nil, List.map_cons, List.map_cons, List.sum_cons, List.sum_cons]; simp; omega
  exact ⟨ds.reverse, ra, fun e he => b e (List.mem_reverse.mp he), by rw [rs]; exact c, by rw [List.length_reverse]; exact d⟩
theorem vals_one (h : Val K H W k v) : Vals' K H W k 1 [v] := (vals_cons h vals_nil).le (by omega) (by omega) (by omega)
end
end Vf

namespace Vf
open PySem PySem.Spec PyProof.Rows L2

/-! ### the heap but for one object that goes on changing (the draws' list) -/
def Hid (t : List Addr) (H : Hp) : Hp := fun b => if b ∈ t then none else H b
def Seen (t : List Addr) (H : Hp) : Prop := ∀ x, x ∈ t → H x ≠ none
section
variable {t : List Addr} {H H' : Hp} {p : Addr} {o : HO}
theorem hid_le : Same (Hid t H) H := fun b o e => by
  unfold Hid at e
  split at e
  · cases e
  · exact e
theorem hid_same (s : Same H H') : Same (Hid t H) (Hid t H') := fun b o e => by
  unfold Hid at e ⊢
  split at e
  · cases e
  · rename_i c
    rw [if_neg c]
    exact s b o e
theorem hid_none : Hid [] H = H := funext fun b => if_neg (by simp)
theorem Seen.mono (s : Same H H') (h : Seen t H) : Seen t H' := fun x e z => h x e (by
  cases c : H x with
  | none => rfl
  | some o => rw [s x o c] at z; cases z)
theorem hid_at (h : Seen t H) (n : H p = none) : p ∉ t := fun e => h p e n
theorem hid_new (h : Seen t H) (n : H p = none) : Hid t (upd H p o) p = some o := by
  unfold Hid
  rw [if_neg (hid_at h n), upd_same]
theorem hid_get {b : Addr} (e : H b = some o) (n : b ∉ t) : Hid t H b = some o := by unfold Hid; rw [if_neg n]; exact e
theorem hid_but {a : Addr} (b : But a H H') : Hid [a] H' = Hid [a] H := funext fun x => by
  unfold Hid
  by_cases c : x = a
  · rw [if_pos (by rw [c]; simp), if_pos (by rw [c]; simp)]
  · rw [if_neg (by simpa using c), if_neg (by simpa using c), b x c]
theorem hid_upd {a : Addr} (h : a ∈ t) : Hid t (upd H a o) = Hid t H := funext fun x => by
  unfold Hid
  by_cases c : x ∈ t
  · rw [if_pos c, if_pos c]
  · rw [if_neg c, if_neg c, upd_ne (fun z : x = a => c (by rw [z]; exact h))]
theorem hid_more {a : Addr} : Same (Hid (a :: t) H) (Hid t H) := fun b o e => by
  unfold Hid at e ⊢
  split at e
  · cases e
  · rename_i c
    rw [if_neg fun z => c (List.mem_cons_of_mem _ z)]
    exact e
theorem same_more {H0 : Hp} {a : Addr} (s : Same H0 (Hid t H)) (n : H0 a = none) : Same H0 (Hid (a :: t) H) := fun b o e => by
  have := s b o e
  unfold Hid at this ⊢
  split at this
  · cases this
  · rename_i c
    rw [if_neg fun z => (List.mem_cons.mp z).elim (fun y => by rw [y, n] at e; cases e) c]
    exact this
theorem hid_samex {a : Addr} (x : SameX a H H') : Same (Hid [a] H) (Hid [a] H') := fun b o e => by
  unfold Hid at e ⊢
  split at e
  · cases e
  · rename_i c
    rw [if_neg c]
    exact x b o (by simpa using c) e
end

/-! ### what an expression gives, by its form: an int, a value, a list of values -/
section
variable (K : PySem.W.Frag) (t : List Addr) (σ : L2.St) (H0 : Hp)
def EvI (te : TE) (i : Int) : Prop := ∀ H Q, Same H0 (Hid t H) → Q (.int i) H → te σ H Q
def EvV (te : TE) (W k : Nat) : Prop := ∀ H Q, Same H0 (Hid t H) → Seen t H → (∀ v H', Same H H' → Val K (Hid t H') W k v → Q v H') → te σ H Q
def EvA (ts : TA) (W k m : Nat) : Prop := ∀ (H : Hp) (R : List V → Hp → Prop), Same H0 (Hid t H) → Seen t H → (∀ vs H', Same H H' → Vals' K (Hid t H') W k m vs → R vs H') → ts σ H R
def EvL (te : TE) (W k m : Nat) : Prop := ∀ H Q, Same H0 (Hid t H) → Seen t H → (∀ v H', Same H H' → LsV K (Hid t H') W k m v → Q v H') → te σ H Q
def EvO (tl : TO) : Prop := ∀ (H : Hp) (O : Option Int → Hp → Prop), Same H0 (Hid t H) → (∀ o, O o H) → tl σ H O
end
section
variable {X : Cx} {K : PySem.W.Frag} {t : List Addr} {σ : L2.St} {H0 : Hp} {te ta tb : TE} {ts : TA} {tl th : TO} {W W' k k' m m' : Nat} {i j : Int} {a : Nat} {v : V}
theorem slK (h : X.K = K := by rfl) : SlR X (rSlL K) := by subst h; exact sl_list
theorem revK {e : Expr} {kk : Nat} {p1 p2 p3 pos : Pos} (he : PE X e te) (h : X.K = K := by rfl) : PE X (.Subscript e (.Slice none none (some (.UnaryOp .USub (.Constant (.int 1) kk p1) p2)) p3) pos) (tRevL K te) := by subst h; exact pe_revL he
def rTupOf (K : PySem.W.Frag) : List V → Hp → VK → Prop := fun xs H Q => ∃ p ys, xs = [.ref p] ∧ ((SqL K H p ys ∧ ∀ l, H l = none → Q (.ref l) (upd H l (.tup ys))) ∨ (SqT K H p ys ∧ Q (.ref p) H))
theorem tupK (h : X.K = K := by rfl) : CallR X (.type "tuple") (rTupOf K) := by subst h; exact call_tuple_of
theorem evI_c : EvI t σ H0 (tC (.int i)) i := fun H Q _ q => q
theorem evI_var (e : σ[a]? = some (some (.int i))) : EvI t σ H0 (tVar a) i := fun H Q _ q => ⟨_, e, q⟩
theorem evI_op {g : Int → Int → Int} (ha : EvI t σ H0 ta i) (hb : EvI t σ H0 tb j) : EvI t σ H0 (tOp (rI0 fun x y => .int (g x y)) ta tb) (g i j) := fun H Q s q => ha H _ s (hb H _ s ⟨i, j, rfl, rfl, q⟩)
theorem evI_un {g : Int → Int} (ha : EvI t σ H0 ta i) : EvI t σ H0 (tUn (rU fun x => .int (g x)) ta) (g i) := fun H Q s q => ha H _ s ⟨i, rfl, q⟩
theorem evO_no : EvO t σ H0 tNoPart := fun H O _ q => q none
theorem evO_i (h : EvI t σ H0 te i) : EvO t σ H0 (tPart te) := fun H O s q => h H _ s ⟨i, rfl, q _⟩
theorem evV_i (h : EvI t σ H0 te i) (b : i.natAbs < 10 ^ 40) : EvV K t σ H0 te 42 1 := fun H Q s _ q => h H Q s (q _ _ (Same.refl _) (val_int b))
theorem evV_non : EvV K t σ H0 (tC .non) 4 1 := fun H Q _ _ q => q _ _ (Same.refl _) val_non
theorem evV_bl {b : Bool} : EvV K t σ H0 (tC (.bl b)) 5 1 := fun H Q _ _ q => q _ _ (Same.refl _) val_bl
theorem evV_str {x : Str} {n : Nat} (h : (reprText x).length ≤ n) : EvV K t σ H0 (tC (.str x)) n 1 := fun H Q _ _ q => q _ _ (Same.refl _) (val_str h)
theorem evV_var (e : σ[a]? = some (some v)) (h : Val K H0 W k v) : EvV K t σ H0 (tVar a) W k := fun H Q s _ q => ⟨_, e, q _ _ (Same.refl _) (h.mono s)⟩
theorem evL_var (e : σ[a]? = some (some v)) (h : LsV K H0 W k m v) : EvL K t σ H0 (tVar a) W k m := fun H Q s _ q => ⟨_, e, q _ _ (Same.refl _) (h.mono s)⟩
theorem evA_nil : EvA K t σ H0 tNil 0 0 0 := fun H R _ _ q => q _ _ (Same.refl _) vals_nil
theorem evA_cons (h : EvV K t σ H0 te W k) (hs : EvA K t σ H0 ts W' k' m) : EvA K t σ H0 (tCons te ts) (W + W') (max k k') (m + 1) := fun H R s n q =>
  h H _ s n fun v H1 s1 hv => hs H1 _ (s.trans (hid_same s1)) (n.mono s1) fun vs H2 s2 hvs => q _ _ (s1.trans s2) (vals_cons (hv.mono (hid_same s2)) hvs)
theorem evV_tup (h : EvA K t σ H0 ts W k m) (hm : m ≤ 100000) : EvV K t σ H0 (tTup ts) (W + 2 * m + 3) (k + 1) := fun H Q s n q =>
  h H _ s n fun vs H1 s1 hvs => ⟨szl (Nat.le_trans hvs.len hm), fun p np => q _ _ (s1.trans (same_new np)) ((hvs.mono (hid_same (same_new np))).tup (hid_new (n.mono s1) np))⟩
theorem evL_lst (h : EvA K t σ H0 ts W k m) (hm : m ≤ 100000) : EvL K t σ H0 (tLst ts) W k m := fun H Q s n q =>
  h H _ s n fun vs H1 s1 hvs => ⟨szl (Nat.le_trans hvs.len hm), fun p np => q _ _ (s1.trans (same_new np)) ⟨p, vs, rfl, hid_new (n.mono s1) np, hvs.mono (hid_same (same_new np))⟩⟩
theorem evV_L (h : EvL K t σ H0 te W k m) (hm : m ≤ 100000) : EvV K t σ H0 te (W + 2 * m + 3) (k + 1) := fun H Q s n q => h H Q s n fun v H1 s1 hv => q _ _ s1 (hv.val hm)
theorem evL_cat (ha : EvL K t σ H0 ta W k m) (hb : EvL K t σ H0 tb W' k' m') (hm : m + m' ≤ 100000) : EvL K t σ H0 (tOp (rCatS K) ta tb) (W + W') (max k k') (m + m') := fun H Q s n q =>
  ha H _ s n fun v H1 s1 hv => hb H1 _ (s.trans (hid_same s1)) (n.mono s1) fun u H2 s2 hu => by
    obtain ⟨a, xs, rfl, e1, h1⟩ := hv.mono (hid_same s2)
    obtain ⟨b, ys, rfl, e2, h2⟩ := hu
    have := h1.len
    have := h2.len
    exact ⟨a, b, xs, ys, rfl, rfl, sql (hid_le _ _ e1), sql (hid_le _ _ e2), szl (by omega), fun p np => q _ _ (s1.trans (s2.trans (same_new np))) ⟨p, _, rfl, hid_new ((n.mono s1).mono s2) np, (vals_app h1 h2).mono (hid_same (same_new np))⟩⟩
theorem evL_sl (h : EvL K t σ H0 te W k m) (hl : EvO t σ H0 tl) (hh : EvO t σ H0 th) : EvL K t σ H0 (tSl (rSlL K) te tl th) W k m := fun H Q s n q =>
  h H _ s n fun v H1 s1 hv => hl H1 _ (s.trans (hid_same s1)) fun lo => hh H1 _ (s.trans (hid_same s1)) fun hi => by
    obtain ⟨a, xs, rfl, e, hx⟩ := hv
    exact ⟨a, xs, rfl, sql (hid_le _ _ e), fun p np => q _ _ (s1.trans (same_new np)) ⟨p, _, rfl, hid_new (n.mono s1) np, (hx.sub (cut_sub xs lo hi)).mono (hid_same (same_new np))⟩⟩
theorem evL_rev (h : EvL K t σ H0 te W k m) : EvL K t σ H0 (tRevL K te) W k m := fun H Q s n q => h H _ s n fun v H1 s1 hv => by
  obtain ⟨a, xs, rfl, e, hx⟩ := hv
  exact ⟨a, xs, rfl, sql (hid_le _ _ e), fun p np => q _ _ (s1.trans (same_new np)) ⟨p, _, rfl, hid_new (n.mono s1) np, (vals_rev hx).mono (hid_same (same_new np))⟩⟩
theorem evV_tupOf (h : EvL K t σ H0 te W k m) : EvV K t σ H0 (tCB (rTupOf K) (tCons te tNil)) (W + 2 * m + 3) (k + 1) := fun H Q s n q => h H _ s n fun v H1 s1 hv => by
  obtain ⟨a, xs, rfl, e, hx⟩ := hv
  exact ⟨a, xs, rfl, .inl ⟨sql (hid_le _ _ e), fun p np => q _ _ (s1.trans (same_new np)) ((hx.mono (hid_same (same_new np))).tup (hid_new (n.mono s1) np))⟩⟩
theorem evL_listOf (h : EvL K t σ H0 te W k m) : EvL K t σ H0 (tCB (rListOf K) (tCons te tNil)) W k m := fun H Q s n q => h H _ s n fun v H1 s1 hv => by
  obtain ⟨a, xs, rfl, e, hx⟩ := hv
  exact ⟨a, xs, rfl, .inl (sql (hid_le _ _ e)), fun p np => q _ _ (s1.trans (same_new np)) ⟨p, _, rfl, hid_new (n.mono s1) np, hx.mono (hid_same (same_new np))⟩⟩
theorem evV_dct0 : EvV K t σ H0 tDNewK 10 2 := fun H Q s n q p np => q _ _ (same_new np) (val_dct0 (hid_new n np))
theorem evV_dct1 {x : Str} {n : Nat} (e : σ[a]? = some (some v)) (h : Val K H0 W k v) (hn : (reprText x).length ≤ n) : EvV K t σ H0 (tDisp [(tC (.str x), tVar a)]) (W + n + 10) (k + 1) := fun H Q s sn q p np => by
  have e2 : upd (upd H p (.dK [])) p (.dK (mergeK [] [(Sum.inr x, v)])) = upd H p (.dK [(.inr x, v)]) := by rw [upd_upd]; rfl
  refine ⟨v, e, upd_same, [(.inr x, v)], rfl, by show 1 ≤ 15; decide, ?_⟩
  rw [e2]
  exact q _ _ (same_new np) (val_dct1 (hid_new sn np) (h.mono (s.trans (hid_same (same_new np)))) hn)
theorem evV_eqI (ha : EvI t σ H0 ta i) (hb : EvI t σ H0 tb j) : EvV K t σ H0 (tOp rEq ta tb) 5 1 := fun H Q s _ q => ha H _ s (hb H _ s (r_eqI (q _ _ (Same.refl _) val_bl)))
theorem pair_id {α : Type} : ∀ xs : List α, Paired (fun v p => v = p) xs xs
  | [] => .nil
  | _ :: xs => .cons rfl (pair_id xs)
theorem evL_lc {la : Addr} {xs : List V} {ix : Nat} {vs : List Nat} (e : σ[a]? = some (some (.ref la))) (h : H0 la = some (.lst xs)) (hm : xs.length ≤ m) (hz : m < 100000) (hw : ∀ x, wipe ((wipe σ vs).set ix (some x)) vs = wipe σ vs)
    (he : ∀ x ∈ xs, ∀ D, EvV K (D :: t) ((wipe σ vs).set ix (some x)) H0 te W k) : EvL K t σ H0 (tLc (iList K (tVar a)) (gName ix) tYes te vs) (W * m) k m := fun H Q s n q => by
  refine ⟨_, e, la, rfl, ⟨xs, sql (hid_le _ _ (s _ _ h))⟩, fun D nD => ?_⟩
  have nD0 : H0 D = none := s.free (by unfold Hid; split <;> first | rfl | exact nD)
  have nDt := hid_at n nD
  have base : ∀ {H'}, Same H H' → Same H0 (Hid (D :: t) H') := fun {H'} s' => same_more (s.trans (hid_same s')) nD0
  refine r_lcS (seq_list (pair_id xs)) (fun d H' => (∀ b, b ≠ D → ∀ o, H b = some o → H' b = some o) ∧ ∃ acc, H' D = some (.lst acc) ∧ Vals' K (Hid (D :: t) H') (W * d.length) k d.length acc)
    ⟨fun b nb o eb => by rw [upd_ne nb]; exact eb, [], upd_same, ⟨[], .nil, fun _ z => (nomatch z), by rw [PyData.shownAll_nil]; exact Nat.zero_le _, Nat.le_refl _⟩⟩ (fun d H' c => sql (c.1 _ (fun z => by rw [z, nD0] at h; cases h) _ (hid_le _ _ (s _ _ h)))) ?_ ?_
  · rintro d p r v H' ed rfl ⟨c1, acc, c2, c3⟩
    refine r_gname ⟨hw v, r_yes ?_⟩
    have s1 : Same H H' := fun b o eb => c1 b (ne_of_none eb nD) o eb
    have n1 : Seen (D :: t) H' := fun x hx => by
      rcases List.mem_cons.mp hx with rfl | hx
      · rw [c2]; simp
      · exact n.mono s1 x hx
    show (if true = true then _ else _)
    rw [if_pos rfl]
    refine he v (by rw [ed]; simp) D H' _ (base s1) n1 fun y H2 s2 hy => ?_
    have hl : d.length < xs.length := by rw [ed, List.length_append, List.length_cons]; omega
    have hacc := c3.len
    refine ⟨acc, s2 _ _ c2, szs (by omega), fun b nb o eb => by rw [upd_ne nb]; exact s2 _ _ (c1 b nb o eb), acc ++ [y], upd_same, ?_⟩
    rw [hid_upd List.mem_cons_self, List.length_append, List.length_singleton, Nat.mul_add]
    exact (vals_app (c3.mono (hid_same s2)) (vals_one hy)).le (by omega) (by omega) (Nat.le_refl _)
  · rintro H' ⟨c1, acc, c2, c3⟩
    have s1 : Same H H' := fun b o eb => c1 b (ne_of_none eb nD) o eb
    exact q _ _ s1 ⟨D, acc, rfl, hid_get c2 nDt, (c3.mono hid_more).le (Nat.mul_le_mul_left _ hm) (Nat.le_refl _) hm⟩
theorem EvV.go {H : Hp} {Q : VK} (h : EvV K t σ H0 te W k) (s : Same H0 (Hid t H)) (n : Seen t H) (q : ∀ v H', Same H H' → Val K (Hid t H') W k v → Q v H') : te σ H Q := h H Q s n q
theorem EvL.go {H : Hp} {Q : VK} (h : EvL K t σ H0 te W k m) (s : Same H0 (Hid t H)) (n : Seen t H) (q : ∀ v H', Same H H' → LsV K (Hid t H') W k m v → Q v H') : te σ H Q := h H Q s n q
end
end Vf
namespace Vf
open PySem PySem.Spec PyProof.Rows L2
section
variable {K : PySem.W.Frag} {H : Hp} {Q : VK}
theorem in_ints {i : Int} {ns : List Int} : inV (.int i) (ns.map V.int) = decide (i ∈ ns) := by
  unfold inV
  rw [List.any_map, Bool.eq_iff_iff, List.any_eq_true, decide_eq_true_eq]
  constructor
  · rintro ⟨x, hx, h⟩
    have : x = i := by simpa [eqV] using h
    exact this ▸ hx
  · intro h
    exact ⟨i, h, by simp [eqV]⟩
theorem flat_ints (ns : List Int) : (ns.map V.int).all flatV = true := by
  rw [List.all_map, List.all_eq_true]
  intro x _
  rfl
theorem r_inI {i : Int} {ns : List Int} {p : Addr} (h : SqL K H p (ns.map V.int)) (q : Q (.bl (decide (i ∈ ns))) H) : rIn K false (.int i) (.ref p) H Q :=
  ⟨p, _, rfl, .inl h, rfl, flat_ints ns, by rw [if_neg Bool.false_ne_true, in_ints]; exact q⟩
theorem r_ninI {i : Int} {ns : List Int} {p : Addr} (h : SqL K H p (ns.map V.int)) (q : Q (.bl (!decide (i ∈ ns))) H) : rIn K true (.int i) (.ref p) H Q :=
  ⟨p, _, rfl, .inl h, rfl, flat_ints ns, by rw [if_pos rfl, in_ints]; exact q⟩
theorem isTup_iff {d : PyData} : isD "tuple" d = true ↔ ∃ ds, d = .tuple ds := by cases d <;> simp [isD, tyD]
theorem isLst_iff {d : PyData} : isD "list" d = true ↔ ∃ ds, d = .list ds := by cases d <;> simp [isD, tyD]
theorem endD_int {n : Int} {d : PyData} (h : endD n d = true) : ∃ i, d = .int i ∧ i ≠ 0 ∧ -n ≤ i ∧ i ≤ n := by
  unfold endD at h
  split at h
  · exact ⟨_, rfl, of_decide_eq_true h⟩
  · cases h
theorem cpD_no1 {n : Int} {d e : PyData} (h : endD n d = false) : cpD n (.tuple [d, e]) = none := by
  unfold cpD
  split
  · rename_i a b z
    cases z
    rw [if_neg]
    intro c
    have : endD n (.int a) = true := decide_eq_true ⟨c.2.2.2.1, c.1, by omega⟩
    rw [h] at this
    cases this
  · rfl
theorem cpD_no2 {n : Int} {d e : PyData} (h : endD n e = false) : cpD n (.tuple [d, e]) = none := by
  unfold cpD
  split
  · rename_i a b z
    cases z
    rw [if_neg]
    intro c
    have : endD n (.int b) = true := decide_eq_true ⟨c.2.2.2.2, by omega, c.2.2.1⟩
    rw [h] at this
    cases this
  · rfl
/-- what the law tells of a value that is no layout -/
def fltD (n : Int) (d : PyData) : Option V := match d with
  | .list ds => Option.map (fun i : Nat => V.int (i : Int)) (layW n [] ds)
  | _ => some .non
theorem fltD_lay {n : Int} {d : PyData} (n1 : 1 ≤ n) (n60 : n ≤ 60) (h : fltD n d = none) : ∃ L, Lay n L ∧ d = dL L := by
  unfold fltD at h
  split at h
  · rename_i ds
    rw [Option.map_eq_none_iff] at h
    obtain ⟨M, e, hM⟩ := layW_lay (Lay.nil n1 n60) h
    exact ⟨M, hM, by rw [e]; rfl⟩
  · cases h
theorem fltD_some {n : Int} {d : PyData} {i : V} (h : LayE n d i) : fltD n d = some i := by
  cases h with
  | list h => unfold fltD; split <;> first | rfl | (rename_i ds; cases h)
  | item h => show Option.map _ (layW n [] _) = _; rw [h]; rfl
theorem fltD_of {n : Int} {L : List (Int × Int)} (h : Lay n L) : fltD n (dL L) = none := by show Option.map _ (layW n [] (L.map dP)) = _; rw [layW_none h]; rfl
theorem isLay_flt {n : Int} {d : PyData} : isLayD n d = (fltD n d).isNone := by
  cases d with
  | list ds =>
    show (layW n [] ds).isNone = (Option.map (fun i : Nat => V.int (i : Int)) (layW n [] ds)).isNone
    cases layW n [] ds <;> rfl
  | _ => rfl
theorem Lay.last {n : Int} {L : List (Int × Int)} {q : Int × Int} (h : Lay n (L ++ [q])) : ∀ p ∈ L, p.1 < q.1 := (h.okN (L := L) (M := [])).1
end
end Vf
namespace Vf
open PySem PySem.Spec PyProof.Rows L2
def rStrI : List V → Hp → VK → Prop := fun xs H Q => ∃ n : Int, xs = [.int n] ∧ n.natAbs.log2 < 1920 ∧ Q (.str ((toString n : String) : Str)) H
theorem strK {X : Cx} : CallR X (.type "str") rStrI := call_str_int
section
variable {X : Cx} {K : PySem.W.Frag} {t : List Addr} {σ : L2.St} {H0 : Hp} {te ta tb : TE} {ts : TA} {tl th : TO} {W W' k k' m m' : Nat} {i j : Int} {a : Nat} {v : V}
theorem asV (h : EvV K t σ H0 te W k) : EvV K t σ H0 te W k := h
theorem asL (h : EvL K t σ H0 te W k m) : EvL K t σ H0 te W k m := h
theorem asI (h : EvI t σ H0 te i) : EvI t σ H0 te i := h
theorem evV_str0 {x : Str} : EvV K t σ H0 (tC (.str x)) (reprText x).length 1 := evV_str (Nat.le_refl _)
theorem evV_lst (h : EvA K t σ H0 ts W k m) (hm : m ≤ 100000) : EvV K t σ H0 (tLst ts) (W + 2 * m + 3) (k + 1) := evV_L (evL_lst h hm) hm
theorem evV_cat (ha : EvL K t σ H0 ta W k m) (hb : EvL K t σ H0 tb W' k' m') (hm : m + m' ≤ 100000) : EvV K t σ H0 (tOp (rCatS K) ta tb) (W + W' + 2 * (m + m') + 3) (max k k' + 1) := evV_L (evL_cat ha hb hm) hm
theorem evV_sl (h : EvL K t σ H0 te W k m) (hl : EvO t σ H0 tl) (hh : EvO t σ H0 th) (hm : m ≤ 100000) : EvV K t σ H0 (tSl (rSlL K) te tl th) (W + 2 * m + 3) (k + 1) := evV_L (evL_sl h hl hh) hm
theorem evV_rev (h : EvL K t σ H0 te W k m) (hm : m ≤ 100000) : EvV K t σ H0 (tRevL K te) (W + 2 * m + 3) (k + 1) := evV_L (evL_rev h) hm
theorem evV_listOf (h : EvL K t σ H0 te W k m) (hm : m ≤ 100000) : EvV K t σ H0 (tCB (rListOf K) (tCons te tNil)) (W + 2 * m + 3) (k + 1) := evV_L (evL_listOf h) hm
theorem evI_rI {C : Int → Int → Prop} {g : Int → Int → Int} (ha : EvI t σ H0 ta i) (hb : EvI t σ H0 tb j) (hc : C i j) : EvI t σ H0 (tOp (rI C fun x y => .int (g x y)) ta tb) (g i j) := fun H Q s q => ha H _ s (hb H _ s ⟨i, j, rfl, rfl, hc, q⟩)
theorem evV_strI {n : Nat} (h : EvI t σ H0 te i) (hi : i.natAbs < 10 ^ 12) (hn : (reprText ((toString i : String) : Str)).length ≤ n) : EvV K t σ H0 (tCB rStrI (tCons te tNil)) n 1 := fun H Q s _ q =>
  h H _ s ⟨i, rfl, log2_small (Nat.lt_of_lt_of_le (Nat.lt_trans hi (show 10 ^ 12 < 2 ^ 64 by decide)) (Nat.pow_le_pow_right (by decide) (by decide))), q _ _ (Same.refl _) (val_str hn)⟩
theorem evV_ixL {la : Addr} {xs : List V} (e : σ[a]? = some (some (.ref la))) (h : H0 la = some (.lst xs)) (hi : EvI t σ H0 ta i) (ha : atI xs i = some v) (hv : Val K H0 W k v) : EvV K t σ H0 (tOp (rIxL K) (tVar a) ta) W k := fun H Q s _ q =>
  ⟨_, e, hi H _ s ⟨la, xs, i, v, rfl, rfl, sql (hid_le _ _ (s _ _ h)), ha, q _ _ (Same.refl _) (hv.mono s)⟩⟩
theorem evI_ixLT {la u : Addr} {xs : List V} {c : Int} {n : Int} {ys : List V} (e : σ[a]? = some (some (.ref la))) (h : H0 la = some (.lst xs)) (hi : EvI t σ H0 ta i) (ha : atI xs i = some (.ref u)) (hu : H0 u = some (.tup ys)) (hy : atI ys n = some (.int c)) :
    EvI t σ H0 (tOp (rIxT K) (tOp (rIxL K) (tVar a) ta) (tC (.int n))) c := fun H Q s q =>
  ⟨_, e, hi H _ s ⟨la, xs, i, _, rfl, rfl, sql (hid_le _ _ (s _ _ h)), ha, u, _, n, _, rfl, rfl, sqt (hid_le _ _ (s _ _ hu)), hy, q⟩⟩
theorem evL_rep2 (h : EvL K t σ H0 te W k m) (hm : m ≤ 10000) : EvL K t σ H0 (tOp rRep te (tC (.int 2))) (W + W) k (m + m) := fun H Q s n q =>
  h H _ s n fun v H1 s1 hv => by
    obtain ⟨a, xs, rfl, e, hx⟩ := hv
    have hl := hx.len
    have e2 : (List.replicate (2 : Int).toNat xs).flatten = xs ++ xs := by show (List.replicate 2 xs).flatten = _; simp [List.replicate]
    refine ⟨a, 2, xs, rfl, rfl, hid_le _ _ e, by decide, by decide, szl (by show xs.length * 2 ≤ 100000; omega), fun p np => ?_⟩
    rw [e2]
    exact q _ _ (s1.trans (same_new np)) ⟨p, _, rfl, hid_new (n.mono s1) np, ((vals_app hx hx).le (Nat.le_refl _) (by omega) (Nat.le_refl _)).mono (hid_same (same_new np))⟩
theorem repr_end : ∀ i : Fin 121, (reprText ((toString ((i.val : Int) - 60) : String) : Str)).length ≤ 6 := by decide +kernel
theorem repr_ends {i : Int} (h1 : -60 ≤ i) (h2 : i ≤ 60) : (reprText ((toString i : String) : Str)).length ≤ 6 := by
  have := repr_end ⟨(i + 60).toNat, by omega⟩
  rw [show (((i + 60).toNat : Nat) : Int) - 60 = i by omega] at this
  exact this
end
end Vf
namespace Vf
open PySem PySem.Spec PyProof.Rows L2
section
variable {K : PySem.W.Frag} {t : List Addr} {σ : L2.St} {H0 : Hp} {W W' k k' m m' : Nat} {a : Nat} {u : Addr} {v : V} {ys : List V}
theorem evV_listT (e : σ[a]? = some (some (.ref u))) (hu : H0 u = some (.tup ys)) (hv : Vals' K H0 W k m ys) (hm : m ≤ 100000) : EvV K t σ H0 (tCB (rListOf K) (tCons (tVar a) tNil)) (W + 2 * m + 3) (k + 1) := fun H Q s n q =>
  ⟨_, e, u, ys, rfl, .inr (sqt (hid_le _ _ (s _ _ hu))), fun p np => q _ _ (same_new np) (LsV.val ⟨p, ys, rfl, hid_new n np, hv.mono (s.trans (hid_same (same_new np)))⟩ hm)⟩
theorem LsV.le {H : Hp} (h : LsV K H W k m v) (h1 : W ≤ W') (h2 : k ≤ k') (h3 : m ≤ m') : LsV K H W' k' m' v := let ⟨a, xs, e, f, g⟩ := h; ⟨a, xs, e, f, g.le h1 h2 h3⟩
theorem pr_two {H : Hp} {p : Int × Int} (b : p.1.natAbs < 10 ^ 40 ∧ p.2.natAbs < 10 ^ 40) : Vals' K H 84 1 2 [.int p.1, .int p.2] := (vals_cons (val_int b.1) (vals_cons (val_int b.2) vals_nil)).le (by omega) (by omega) (by omega)
end
end Vf
namespace Vf
open PySem PySem.Spec PyProof.Rows L2
section
variable {K : PySem.W.Frag} {t : List Addr} {σ : L2.St} {H0 H : Hp} {Q : VK} {te : TE}
theorem EvL.use (W0 k0 m0 : Nat) (h : ∃ W k m, EvL K t σ H0 te W k m ∧ W ≤ W0 ∧ k ≤ k0 ∧ m ≤ m0) (s : Same H0 (Hid t H)) (n : Seen t H) (q : ∀ v H', Same H H' → LsV K (Hid t H') W0 k0 m0 v → Q v H') : te σ H Q :=
  let ⟨_, _, _, e, h1, h2, h3⟩ := h; e H Q s n fun v H' s' hv => q v H' s' (hv.le h1 h2 h3)
theorem EvV.use (W0 k0 : Nat) (h : ∃ W k, EvV K t σ H0 te W k ∧ W ≤ W0 ∧ k ≤ k0) (s : Same H0 (Hid t H)) (n : Seen t H) (q : ∀ v H', Same H H' → Val K (Hid t H') W0 k0 v → Q v H') : te σ H Q :=
  let ⟨_, _, e, h1, h2⟩ := h; e H Q s n fun v H' s' hv => q v H' s' (hv.le h1 h2)
end
end Vf
namespace Vf
open PySem PySem.Spec PyProof.Rows L2
theorem eqv_nil (L : List (Int × Int)) : PyData.eqv (dL L) (.list []) = decide (L = []) := by
  cases L with
  | nil => rw [decide_eq_true rfl]; exact SeqAt.eqv_refl _ (lay_ints []).1
  | cons p L => simp [dL, PyData.eqv, PyData.eqvAll]
theorem r_eqNil {K : PySem.W.Frag} {H : Hp} {Q : VK} {n : Int} {a z : Addr} {xs : List V} {L : List (Int × Int)} (hL : Lay n L) (ha : SqL K H a xs) (hP : Prs H xs L) (hz : H z = some (.lst [])) (q : Q (.bl (decide (L = []))) H) : rEqD K (.ref a) (.ref z) H Q :=
  ⟨dL L, .list [], dp_lay ha hP, .lst (sql hz) .nil, hL.small.shaped (by omega), (lay_ints []).2, by rw [eqv_nil]; exact q⟩
end Vf
namespace Vf
open PySem PySem.Spec PyProof.Rows L2
section
variable {K : PySem.W.Frag} {t : List Addr} {σ : L2.St} {H0 : Hp} {te : TE} {i : Int}
theorem evV_strE (h : EvI t σ H0 te i) (h1 : -60 ≤ i) (h2 : i ≤ 60) : EvV K t σ H0 (tCB rStrI (tCons te tNil)) 6 1 := evV_strI h (by omega) (repr_ends h1 h2)
end
end Vf
namespace Vf
open PySem PySem.Spec PyProof.Rows L2
theorem r_at {te : TE} {σ σ' : L2.St} {H : Hp} {Q : VK} (e : σ = σ') (h : te σ' H Q) : te σ H Q := e ▸ h
theorem r_atS {ts : TS} {σ σ' : L2.St} {H : Hp} {D : Ends} (e : σ = σ') (h : ts D σ' H) : ts D σ H := e ▸ h
end Vf
namespace Vf
open PySem PySem.Spec PyProof.Rows L2
/-- one own class stands above another -/
def subB (K : PySem.W.Frag) (x y : Str) : Bool := PySem.W.subIn K (.ref (clsOf K x)) (.ref (clsOf K y)) == some true
theorem subB_ok {K : PySem.W.Frag} {x y : Str} (h : subB K x y = true) : PySem.W.subIn K (.ref (clsOf K x)) (.ref (clsOf K y)) = some true := beq_iff_eq.mp h
theorem no_pieces {n : Int} {P : Prop} (n1 : 1 ≤ n) (n60 : n ≤ 60) (e : piecesD (.int n) = none) : P := by rw [pieces_int n1 n60] at e; cases e
theorem pieces_eq {n m : Int} (e : piecesD (.int n) = some m) : m = n := by
  obtain ⟨_, _, h⟩ := piecesD_some e
  cases h
  rfl
end Vf
namespace Vf
open PySem PySem.Spec PyProof.Rows L2
def rRepT (K : PySem.W.Frag) : List V → Hp → VK → Prop := fun xs H Q => ∃ (v : V) (d : PyData), xs = [v] ∧ Dt K H v d ∧ d.showable = true ∧ d.depth ≤ 60 ∧ d.shown.length ≤ sizeLine ∧ Q (.str d.shown) H
theorem reprT {X : Cx} {K : PySem.W.Frag} {k : Nat} (hgd : X.A.guards = some []) (hr : Room k X.A) (Y : SysK K) (hK : X.K = K := by rfl) : CallR X (.builtin "repr") (rRepT K) := by subst hK; exact call_reprT hgd hr Y
theorem r_repT {K : PySem.W.Frag} {H : Hp} {Q : VK} {v : V} {d : PyData} {N k : Nat} (h : Dt K H v d) (s : Sd N k d) (hN : N ≤ 16000000) (hk : k ≤ 60) (q : Q (.str d.shown) H) : rRepT K [v] H Q :=
  ⟨v, d, rfl, h, s.sh, Nat.le_trans s.dp hk, Nat.le_trans s.ln (Nat.le_trans hN (by decide)), q⟩
end Vf
namespace Vf
open PySem PySem.Spec PyProof.Rows L2
theorem r_neB {a b : Bool} {H : Hp} {Q : VK} (h : Q (.bl (!decide (a = b))) H) : rNe (.bl a) (.bl b) H Q := ⟨rfl, by rw [show decide (V.bl a = V.bl b) = decide (a = b) by rw [Bool.eq_iff_iff]; simp]; exact h⟩
theorem dt_opt {K : PySem.W.Frag} {H : Hp} (o : Option Int) : Dt K H (vO o) (dO o) := by
  cases o with
  | none => exact .non
  | some i => exact .int i
theorem dta_opts {K : PySem.W.Frag} {H : Hp} : ∀ os : List (Option Int), DtAll K H (os.map vO) (os.map dO)
  | [] => .nil
  | o :: os => .cons (dt_opt o) (dta_opts os)
/-- the law's word for a fault, as data -/
theorem flt_os {n : Int} {d : PyData} (h : fewD d) : ∃ os : List (Option Int), (fltD n d).toList = os.map vO ∧ os.length ≤ 1 ∧ (fltD n d).isNone = decide (os = []) ∧ (∀ i, some i ∈ os → i.natAbs < 10 ^ 12) := by
  cases d with
  | list ds =>
    show ∃ os : List (Option Int), (Option.map (fun i : Nat => V.int (i : Int)) (layW n [] ds)).toList = os.map vO ∧ os.length ≤ 1 ∧ (Option.map (fun i : Nat => V.int (i : Int)) (layW n [] ds)).isNone = decide (os = []) ∧ _
    cases e : layW n [] ds with
    | none => exact ⟨[], rfl, by decide, rfl, fun i z => (nomatch z)⟩
    | some i =>
      refine ⟨[some (i : Int)], rfl, Nat.le_refl _, rfl, fun j z => ?_⟩
      have h1 := layW_lt e
      have h2 := h ds rfl
      have : j = (i : Int) := by simpa using z
      simp at h1
      omega
  | _ => exact ⟨[none], rfl, by decide, rfl, fun i z => by simp at z⟩
theorem r_eqOs {K : PySem.W.Frag} {H : Hp} {Q : VK} {a z : Addr} {os : List (Option Int)} (hl : os.length ≤ 1) (ha : SqL K H a (os.map vO)) (hz : H z = some (.lst [])) (q : Q (.bl (decide (os = []))) H) : rEqD K (.ref a) (.ref z) H Q := by
  have sm : ∀ os : List (Option Int), os.length ≤ 1 → SeqAt.shaped (.list (os.map dO)) = true ∧ PyData.eqv (.list (os.map dO)) (.list []) = decide (os = []) := fun os h => by
    match os, h with
    | [], _ => exact ⟨(lay_ints []).2, SeqAt.eqv_refl _ (lay_ints []).1⟩
    | [none], _ => exact ⟨by rfl, by simp [PyData.eqv, PyData.eqvAll]⟩
    | [some i], _ => exact ⟨(lay_ints [i]).2, by simp [PyData.eqv, PyData.eqvAll]⟩
  obtain ⟨s1, s2⟩ := sm os hl
  exact ⟨_, .list [], .lst ha (dpa_opts os), .lst (sql hz) .nil, s1, (lay_ints []).2, by rw [s2]; exact q⟩
end Vf
namespace Vf
open PySem PySem.Spec PyProof.Rows L2
theorem evV_rep2 {K : PySem.W.Frag} {t : List Addr} {σ : L2.St} {H0 : Hp} {te : TE} {W k m : Nat} (h : EvL K t σ H0 te W k m) (hm : m ≤ 10000) : EvV K t σ H0 (tOp rRep te (tC (.int 2))) (W + W + 2 * (m + m) + 3) (k + 1) := evV_L (evL_rep2 h hm) (by omega)
end Vf

namespace Vf
open PySem PySem.Spec PyProof.Rows L2

/-! ### pairs of ints in lists and tuples of such -/
theorem eqv_pair (p q : Int × Int) : PyData.eqv (dP p) (dP q) = decide (p = q) := by
  obtain ⟨a, b⟩ := p
  obtain ⟨c, d⟩ := q
  simp [dP, PyData.eqv, PyData.eqvAll]
  by_cases h1 : a = c <;> by_cases h2 : b = d <;> simp [h1, h2]
theorem any_pair (p : Int × Int) (L : List (Int × Int)) : ((L.map dP).any fun z => PyData.eqv z (dP p)) = decide (p ∈ L) := by
  rw [List.any_map, Bool.eq_iff_iff, List.any_eq_true, decide_eq_true_eq]
  constructor
  · rintro ⟨q, hq, h⟩
    have h' : PyData.eqv (dP q) (dP p) = true := h
    rw [eqv_pair] at h'
    exact of_decide_eq_true h' ▸ hq
  · intro h
    exact ⟨p, h, by show PyData.eqv (dP p) (dP p) = true; rw [eqv_pair, decide_eq_true rfl]⟩
theorem canLay_pairs : ∀ L : List (Int × Int), PyData.canLayAll0 (L.map dP) = true ∧ PyData.depthAll (L.map dP) ≤ 2
  | [] => ⟨by simp only [List.map_nil, PyData.canLayAll0], by simp only [List.map_nil, PyData.depthAll]; omega⟩
  | p :: L => by
    obtain ⟨a, b⟩ := canLay_pairs L
    refine ⟨by simp [dP, PyData.canLayAll0, PyData.canLay0, a], ?_⟩
    simp only [List.map_cons, PyData.depthAll, dP, PyData.depth]
    omega
theorem canLay_pair (p : Int × Int) : (dP p).canLay0 = true := by simp [dP, PyData.canLay0, PyData.canLayAll0]
theorem depth_pair (p : Int × Int) : (dP p).depth ≤ 2 := by simp only [dP, PyData.depth, PyData.depthAll]; omega
/-- p in L, a list or a tuple of pairs -/
def rInP (K : PySem.W.Frag) (neg : Bool) : R2 := fun x y H Q => ∃ (a : Addr) (p : Int × Int) (L : List (Int × Int)), y = .ref a ∧ Dp K H x (dP p) ∧ (Dp K H (.ref a) (.list (L.map dP)) ∨ Dp K H (.ref a) (.tuple (L.map dP))) ∧ Q (.bl (decide (p ∈ L) != neg)) H
section
variable {X : Cx} {K : PySem.W.Frag}
theorem inPK (hu : X.A.units + 64 < cLine) (hK : X.K = K := by rfl) : OpR X (compareOp .In) (rInP K false) := by
  subst hK
  rintro pins s σ H x _ v u Q I rx ry ⟨a, p, L, rfl, hp, hL, q⟩
  obtain ⟨as, r1⟩ := Dp.reads I _ x v hp rx
  obtain ⟨l1, l2⟩ := canLay_pairs L
  have hu' : X.A.units + 1 + min (PyData.depthAll (L.map dP)) (dP p).depth < cLine := by omega
  have q' : Q (.bl ((L.map dP).any fun z => PyData.eqv z (dP p))) H := by rw [any_pair]; simpa using q
  rcases hL with hL | hL
  · obtain ⟨bs, r2⟩ := Dp.reads I _ _ u hL ry
    exact SeqAt.in_list_reads r2 r1 l1 (canLay_pair p) hu' ⟨.bl _, H, I, rfl, q'⟩
  · obtain ⟨bs, r2⟩ := Dp.reads I _ _ u hL ry
    exact SeqAt.in_tuple_reads r2 r1 l1 (canLay_pair p) hu' ⟨.bl _, H, I, rfl, q'⟩
theorem notInPK (hu : X.A.units + 64 < cLine) (hK : X.K = K := by rfl) : OpR X (compareOp .NotIn) (rInP K true) := by
  subst hK
  rintro pins s σ H x _ v u Q I rx ry ⟨a, p, L, rfl, hp, hL, q⟩
  obtain ⟨as, r1⟩ := Dp.reads I _ x v hp rx
  obtain ⟨l1, l2⟩ := canLay_pairs L
  have hu' : X.A.units + 1 + min (PyData.depthAll (L.map dP)) (dP p).depth < cLine := by omega
  have q' : Q (.bl (!(L.map dP).any fun z => PyData.eqv z (dP p))) H := by rw [any_pair]; simpa using q
  rcases hL with hL | hL
  · obtain ⟨bs, r2⟩ := Dp.reads I _ _ u hL ry
    exact SeqAt.notIn_list_reads r2 r1 l1 (canLay_pair p) hu' ⟨.bl _, H, I, rfl, q'⟩
  · obtain ⟨bs, r2⟩ := Dp.reads I _ _ u hL ry
    exact SeqAt.notIn_tuple_reads r2 r1 l1 (canLay_pair p) hu' ⟨.bl _, H, I, rfl, q'⟩
end
section
variable {K : PySem.W.Frag} {H : Hp} {Q : VK}
theorem dp_pr {v : V} {p : Int × Int} (h : Pr H v p) : Dp K H v (dP p) := by
  obtain ⟨t, rfl, e⟩ := h
  exact .tup (sqt e) (.cons (.int _) (.cons (.int _) .nil))
theorem r_inP {x : V} {a : Addr} {p : Int × Int} {L : List (Int × Int)} {xs : List V} {neg : Bool} (hp : Pr H x p) (ha : H a = some (.lst xs)) (hx : Prs H xs L) (q : Q (.bl (decide (p ∈ L) != neg)) H) : rInP K neg x (.ref a) H Q :=
  ⟨a, p, L, rfl, dp_pr hp, .inl (dp_lay (sql ha) hx), q⟩
end
/-- a tuple of pairs of ints in the written part -/
def intK : Value → Option Int
  | .int i _ => some i
  | _ => none
def pairK (K : PySem.W.Frag) : Value → Option (Int × Int)
  | .ref a => match K.lookup a with
    | some ⟨.type "tuple", _, .seq its _, _⟩ => match its.toList with
      | [x, y] => match intK x, intK y with
        | some i, some j => some (i, j)
        | _, _ => none
      | _ => none
    | _ => none
  | _ => none
def pairsK (K : PySem.W.Frag) (a : Addr) : Option (List (Int × Int)) := match K.lookup a with
  | some ⟨.type "tuple", _, .seq its _, _⟩ => if its.size ≤ 1000 then its.toList.mapM (pairK K) else none
  | _ => none
theorem intK_ok {v : Value} {i : Int} (h : intK v = some i) : RelV (.int i) v := by
  unfold intK at h
  split at h
  · cases h; exact ⟨_, rfl⟩
  · cases h
theorem pairK_ok {K : PySem.W.Frag} {H : Hp} {v : Value} {p : Int × Int} (h : pairK K v = some p) : ∃ x, RelV x v ∧ Dp K H x (dP p) := by
  unfold pairK at h
  split at h
  · rename_i a
    split at h
    · rename_i dd its n sl e
      split at h
      · rename_i x y e2
        split at h
        · rename_i i j e3 e4
          cases h
          refine ⟨.ref a, rfl, .tup (xs := [.int i, .int j]) (.inr ⟨_, its, n, e, rfl, rfl, ?_, ?_⟩) (.cons (.int _) (.cons (.int _) .nil))⟩
          · have := congrArg List.length e2
            rw [Array.length_toList] at this
            rw [this]
            exact szl (show 2 ≤ 100000 by decide)
          · rw [e2]
            exact .cons (intK_ok e3) (.cons (intK_ok e4) .nil)
        · cases h
      · cases h
    · cases h
  · cases h
theorem mapM_pairs {K : PySem.W.Frag} {H : Hp} : ∀ {vs : List Value} {L : List (Int × Int)}, vs.mapM (pairK K) = some L → ∃ xs, Vals xs vs ∧ DpAll K H xs (L.map dP)
  | [], L, h => by
    have e : L = [] := by simpa using h.symm
    subst e
    exact ⟨[], .nil, .nil⟩
  | v :: vs, L, h => by
    rw [List.mapM_cons] at h
    cases e : pairK K v with
    | none => rw [e] at h; cases h
    | some p =>
      rw [e] at h
      cases e2 : vs.mapM (pairK K) with
      | none => rw [e2] at h; cases h
      | some M =>
        rw [e2] at h
        have e3 : L = p :: M := (Option.some.inj h).symm
        subst e3
        obtain ⟨x, r1, r2⟩ := pairK_ok (H := H) e
        obtain ⟨xs, r3, r4⟩ := mapM_pairs (H := H) e2
        exact ⟨x :: xs, .cons r1 r3, .cons r2 r4⟩
theorem pairsK_ok {K : PySem.W.Frag} {H : Hp} {a : Addr} {L : List (Int × Int)} (h : pairsK K a = some L) : Dp K H (.ref a) (.tuple (L.map dP)) := by
  unfold pairsK at h
  split at h
  · rename_i dd its n sl e
    split at h
    · rename_i hz
      obtain ⟨xs, r1, r2⟩ := mapM_pairs (H := H) h
      exact .tup (.inr ⟨_, its, n, e, rfl, rfl, Nat.le_trans hz (by decide), r1⟩) r2
    · cases h
  · cases h
end Vf
namespace Vf
open PySem PySem.Spec PyProof.Rows L2
def tCv3 (r1 r2 r3 : R2) (ta tb tc td : TE) : TE := fun σ H Q => ta σ H fun x H1 => tb σ H1 fun y H2 => r1 x y H2 fun c1 H3 => ∃ k1, c1 = .bl k1 ∧ if k1 = true then
  tc σ H3 fun z H4 => r2 y z H4 fun c2 H5 => ∃ k2, c2 = .bl k2 ∧ if k2 = true then td σ H5 fun t H6 => r3 z t H6 Q else Q (.bl false) H5 else Q (.bl false) H3
theorem pe_ch3 {X : Cx} {a b c d : Expr} {ta tb tc td : TE} {pos : Pos} {o1 o2 o3 : CmpOp} {r1 r2 r3 : R2} (h1 : OpR X (compareOp o1) r1) (h2 : OpR X (compareOp o2) r2) (h3 : OpR X (compareOp o3) r3) (ha : PE X a ta) (hb : PE X b tb) (hc : PE X c tc) (hd : PE X d td)
    (marks : lastMarks [o1, o2, o3] [b, c, d] = false := by with_unfolding_all rfl) : PE X (.Compare a [o1, o2, o3] [b, c, d] pos) (tCv3 r1 r2 r3 ta tb tc td) := by
  constructor
  intro pins s σ H Q I h
  refine Compare_chain (thn (ha.run pins s σ H _ I h) fun va sa ⟨x, G1, J1, e1, q1⟩ => chain_link (thn (hb.run pins sa σ G1 _ J1 q1) fun vb sb ⟨y, G2, J2, e2, q2⟩ => thn (h1 pins sb σ G2 x y va vb _ J2 e1 e2 q2) ?_)) marks
  rintro u1 t1 ⟨_, G3, J3, rel, k1, rfl, q3⟩
  cases rel
  apply wpAny_truthy_bool
  cases k1 with
  | false => exact ite_ff ⟨.bl false, G3, J3, rfl, q3⟩
  | true =>
    refine ite_tt (chain_link (thn (hc.run pins t1 σ G3 _ J3 q3) fun vc sc ⟨z, G4, J4, e4, q4⟩ => thn (h2 pins sc σ G4 y z vb vc _ J4 e2 e4 q4) ?_))
    rintro u2 t2 ⟨_, G5, J5, rel, k2, rfl, q5⟩
    cases rel
    apply wpAny_truthy_bool
    cases k2 with
    | false => exact ite_ff ⟨.bl false, G5, J5, rfl, q5⟩
    | true => exact ite_tt (chain_last (thn (hd.run pins t2 σ G5 _ J5 q5) fun vd sd ⟨t, G6, J6, e6, q6⟩ => h3 pins sd σ G6 z t vc vd Q J6 e4 e6 q6))
theorem r_cv3 {σ : L2.St} {H : Hp} {Q : VK} {r1 r2 r3 : R2} {ta tb tc td : TE} (h : ta σ H fun x H1 => tb σ H1 fun y H2 => r1 x y H2 fun c1 H3 => ∃ k1, c1 = .bl k1 ∧ if k1 = true then
  tc σ H3 fun z H4 => r2 y z H4 fun c2 H5 => ∃ k2, c2 = .bl k2 ∧ if k2 = true then td σ H5 fun t H6 => r3 z t H6 Q else Q (.bl false) H5 else Q (.bl false) H3) : tCv3 r1 r2 r3 ta tb tc td σ H Q := h
theorem r_glst {K : PySem.W.Frag} {σ : L2.St} {H : Hp} {S : L2.St → Hp → Prop} {n : Nat} {a : Addr} {xs : List V} {gs : TGs} (hs : SqL K H a xs) (hl : xs.length = n) (h : gs xs σ H S) : gLst K n gs (.ref a) σ H S := ⟨a, xs, rfl, hs, hl, h⟩

/-! ### moves, as data -/
def cpl (a b : Int) : Int × Int := if a < b then (a, b) else (b, a)
def cpsD (n : Int) : List PyData → Option (List (Int × Int))
  | [] => some []
  | d :: ds => match cpD n d, cpsD n ds with
    | some p, some L => some (p :: L)
    | _, _ => none
theorem cpsD_dP {n : Int} : ∀ {ds : List PyData} {C : List (Int × Int)}, cpsD n ds = some C → ds = C.map dP ∧ ∀ p ∈ C, -n ≤ p.1 ∧ p.1 < p.2 ∧ p.2 ≤ n ∧ p.1 ≠ 0 ∧ p.2 ≠ 0
  | [], C, h => by
    cases h
    exact ⟨rfl, fun _ z => (nomatch z)⟩
  | d :: ds, C, h => by
    unfold cpsD at h
    split at h
    · rename_i p L e1 e2
      cases h
      obtain ⟨h1, h2⟩ := cpsD_dP e2
      obtain ⟨g1, g2⟩ := cpD_dP e1
      refine ⟨by rw [g1, h1]; rfl, fun q hq => ?_⟩
      rcases List.mem_cons.mp hq with rfl | hq
      · exact g2
      · exact h2 q hq
    · cases h
def pltB (p q : Int × Int) : Bool := decide (p.1 < q.1 ∨ (p.1 = q.1 ∧ p.2 < q.2))
def ascP : List (Int × Int) → Bool
  | [p, q] => pltB p q
  | _ => true
def ascD (n : Int) (ds : List PyData) : Bool := match cpsD n ds with
  | some C => ascP C
  | none => false
def formL (c j : Nat) : Bool := decide ((c = 2 ∧ j = 2) ∨ (c = 1 ∧ j = 1) ∨ (c = 1 ∧ j = 0) ∨ (c = 0 ∧ j = 1))
def formD (n : Int) : PyData → Bool
  | .tuple [.list cs, .list js] => formL cs.length js.length && ascD n cs && ascD n js
  | _ => false
def otherB (p q : Int × Int) (J : List (Int × Int)) : Bool := decide (J = [(p.1, q.1), cpl p.2 q.2]) || decide (J = [(p.1, q.2), cpl p.2 q.1])
def openB (L : List (Int × Int)) (p q : Int × Int) : Bool := if q.1 = p.1 ∨ q.1 = p.2 then decide (q.2 ∉ flat L) else decide ((q.2 = p.1 ∨ q.2 = p.2) ∧ q.1 ∉ flat L)
def mvB (L C J : List (Int × Int)) : Bool := C.all (fun p => decide (p ∈ L)) && match C, J with
  | [p, q], _ => otherB p q J
  | [_], [] => true
  | [p], q :: _ => openB L p q
  | _, q :: _ => decide (q.1 ∉ flat L ∧ q.2 ∉ flat L)
  | _, [] => true
def mvD (n : Int) (L : List (Int × Int)) (d : PyData) : Bool := formD n d && match d with
  | .tuple [.list cs, .list js] => match cpsD n cs, cpsD n js with
    | some C, some J => mvB L C J
    | _, _ => false
  | _ => false
end Vf
namespace Vf
open PySem PySem.Spec PyProof.Rows L2
theorem notTK {X : Cx} {K : PySem.W.Frag} {a : Expr} {ta : TE} {pos : Pos} (ha : PE X a ta) (hK : X.K = K := by rfl) : PE X (.UnaryOp .Not a pos) (tNotT K ta) := by subst hK; exact pe_notT ha
theorem r_notT {K : PySem.W.Frag} {σ : L2.St} {H : Hp} {Q : VK} {ta : TE} (h : ta σ H fun x H1 => ∃ k, TruV K x H1 k ∧ Q (.bl (!k)) H1) : tNotT K ta σ H Q := h
theorem ptb_open {n : Int} {L : List (Int × Int)} (hL : Lay n L) {e : Int} (e0 : e ≠ 0) : (!(ptb L e != 0)) = decide (e ∉ flat L) := by
  unfold ptb
  rw [if_neg e0]
  cases hp : parI L e with
  | none => rw [decide_eq_true (parI_none.mp hp)]; rfl
  | some x =>
    have := (par_mem hL hp).2.2
    have hm : e ∈ flat L := by
      by_cases z : e ∈ flat L
      · exact z
      · rw [parI_none.mpr z] at hp; cases hp
    rw [decide_eq_false (fun z => z hm)]
    simp [this]
/-- partners: in the layout or not -/
theorem tabI_mem {L : List (Int × Int)} {a b : Int} : (a, b) ∈ tabI L ↔ (a, b) ∈ L ∨ (b, a) ∈ L := by
  unfold tabI
  rw [List.mem_flatMap]
  constructor
  · rintro ⟨p, hp, h⟩
    simp only [List.mem_cons, List.not_mem_nil, or_false] at h
    rcases h with h | h
    · cases h; exact .inl hp
    · cases h; exact .inr hp
  · rintro (h | h)
    · exact ⟨_, h, by simp⟩
    · exact ⟨_, h, by simp⟩
theorem nodup_keys {α β : Type} {l : List (α × β)} {a : α} {b c : β} (nd : (l.map (·.1)).Nodup) (h1 : (a, b) ∈ l) (h2 : (a, c) ∈ l) : b = c := by
  induction l with
  | nil => cases h1
  | cons p l ih =>
    rw [List.map_cons, List.nodup_cons] at nd
    rcases List.mem_cons.mp h1 with e1 | e1 <;> rcases List.mem_cons.mp h2 with e2 | e2
    · rw [← e1] at e2; cases e2; rfl
    · exact absurd (List.mem_map.mpr ⟨_, e2, by rw [← e1]⟩) nd.1
    · exact absurd (List.mem_map.mpr ⟨_, e1, by rw [← e2]⟩) nd.1
    · exact ih nd.2 e1 e2
theorem parI_iff {n : Int} {L : List (Int × Int)} (hL : Lay n L) {a b : Int} : parI L a = some b ↔ (a, b) ∈ L ∨ (b, a) ∈ L := by
  rw [← tabI_mem]
  have nd : ((tabI L).map (·.1)).Nodup := by rw [tabI_keys]; exact hL.nd
  unfold parI
  constructor
  · intro h
    obtain ⟨q, hq, rfl⟩ := Option.map_eq_some_iff.mp h
    have h1 := List.mem_of_find?_eq_some hq
    have h2 : q.1 = a := by have := List.find?_some hq; simpa using this
    rw [← h2]
    exact h1
  · intro h
    cases e : (tabI L).find? fun q => decide (q.1 = a) with
    | none =>
      have := List.find?_eq_none.mp e (a, b) h
      simp at this
    | some q =>
      have h1 := List.mem_of_find?_eq_some e
      have h2 : q.1 = a := by have := List.find?_some e; simpa using this
      have h3 : (a, q.2) ∈ tabI L := by rw [← h2]; exact h1
      rw [nodup_keys nd h h3]
      rfl
theorem par_pair {n : Int} {L : List (Int × Int)} (hL : Lay n L) {a b : Int} (hab : a < b) (a0 : a ≠ 0) : (ptb L a = b) ↔ (b ≠ 0 ∧ (a, b) ∈ L) ∨ (b = 0 ∧ a ∉ flat L) := by
  unfold ptb
  rw [if_neg a0]
  cases hp : parI L a with
  | none =>
    have := parI_none.mp hp
    constructor
    · intro z
      exact .inr ⟨z.symm, this⟩
    · rintro (⟨z, h⟩ | ⟨z, _⟩)
      · exact absurd (mem_flat.mpr ⟨_, h, .inl rfl⟩) this
      · exact z.symm
  | some x =>
    have h0 := (par_mem hL hp).2.2
    show x = b ↔ _
    constructor
    · rintro rfl
      rcases (parI_iff hL).mp hp with h | h
      · exact .inl ⟨h0, h⟩
      · have := (hL.cp _ h).2.1
        omega
    · rintro (⟨_, h⟩ | ⟨z, h⟩)
      · have := (parI_iff hL).mpr (.inl h)
        rw [hp] at this
        exact Option.some.inj this
      · rw [parI_none.mpr h] at hp; cases hp
end Vf
namespace Vf
open PySem PySem.Spec PyProof.Rows L2
theorem cpsD_bad {n : Int} {d : PyData} (h : cpD n d = none) : ∀ {dn r : List PyData}, cpsD n (dn ++ d :: r) = none
  | [], r => by
    show cpsD n (d :: r) = none
    unfold cpsD
    rw [h]
  | e :: dn, r => by
    show cpsD n (e :: (dn ++ d :: r)) = none
    unfold cpsD
    rw [cpsD_bad h (dn := dn)]
    cases cpD n e <;> rfl
theorem cpsD_snoc {n : Int} {d : PyData} {p : Int × Int} (hp : cpD n d = some p) : ∀ {dn : List PyData} {C : List (Int × Int)}, cpsD n dn = some C → cpsD n (dn ++ [d]) = some (C ++ [p])
  | [], C, h => by
    cases h
    show cpsD n [d] = _
    unfold cpsD
    rw [hp]
    rfl
  | e :: dn, C, h => by
    show cpsD n (e :: (dn ++ [d])) = _
    unfold cpsD at h ⊢
    split at h
    · rename_i q L e1 e2
      cases h
      rw [e1, cpsD_snoc hp e2]
      rfl
    · cases h
theorem dta_two {K : PySem.W.Frag} {H : Hp} {ys : List V} {i j : Int} (h : DtAll K H ys [.int i, .int j]) : ys = [.int i, .int j] := by
  cases h with
  | cons a r =>
  cases r with
  | cons b r =>
  cases r
  cases dt_int a
  cases dt_int b
  rfl
end Vf
namespace Vf
open PySem PySem.Spec PyProof.Rows L2
theorem lex_two (a b c d : Int) : HT.lexLt [a, b] [c, d] = pltB (a, b) (c, d) := by
  rw [HT.lexLt_cons, HT.lexLt_cons]
  unfold pltB
  by_cases h : a = c
  · subst h
    rw [if_pos rfl]
    by_cases h2 : b = d
    · subst h2; rw [if_pos rfl, HT.lexLt_nil_nil]; simp
    · rw [if_neg h2]; simp
  · rw [if_neg h]; simp [h]
theorem r_ltP {K : PySem.W.Frag} {H : Hp} {t u : Addr} {a b c d : Int} {Q : VK} (ht : SqT K H t [.int a, .int b]) (hu : SqT K H u [.int c, .int d]) (h : Q (.bl (pltB (a, b) (c, d))) H) : rLtT K (.ref t) (.ref u) H Q :=
  ⟨t, u, [a, b], [c, d], rfl, rfl, ht, hu, by rw [lex_two]; exact h⟩
theorem eqv_pairs : ∀ L M : List (Int × Int), PyData.eqv (dL L) (dL M) = decide (L = M) := by
  intro L M
  unfold dL
  show PyData.eqvAll (L.map dP) (M.map dP) = _
  induction L generalizing M with
  | nil => cases M with
    | nil => simp [PyData.eqvAll]
    | cons q M => simp [PyData.eqvAll]
  | cons p L ih => cases M with
    | nil => simp [PyData.eqvAll]
    | cons q M =>
      rw [List.map_cons, List.map_cons]
      show (PyData.eqv (dP p) (dP q) && PyData.eqvAll (L.map dP) (M.map dP)) = _
      rw [eqv_pair, ih, Bool.eq_iff_iff]
      simp
theorem dL_shaped (L : List (Int × Int)) : SeqAt.shaped (dL L) = true := by
  obtain ⟨a, b⟩ := canLay_pairs L
  unfold SeqAt.shaped
  have h1 : (dL L).canLay0 = true := by simp only [dL, PyData.canLay0, a]
  rw [h1, Bool.true_and]
  exact decide_eq_true (by simp only [dL, PyData.depth]; omega)
theorem r_eqPs {K : PySem.W.Frag} {H : Hp} {Q : VK} {a b : Addr} {xs ys : List V} {L M : List (Int × Int)} (ha : SqL K H a xs) (hx : DpAll K H xs (L.map dP)) (hb : SqL K H b ys) (hy : DpAll K H ys (M.map dP)) (q : Q (.bl (decide (L = M))) H) : rEqD K (.ref a) (.ref b) H Q :=
  ⟨dL L, dL M, .lst ha hx, .lst hb hy, dL_shaped L, dL_shaped M, by rw [eqv_pairs]; exact q⟩
theorem r_nePs {K : PySem.W.Frag} {H : Hp} {Q : VK} {a b : Addr} {xs ys : List V} {L M : List (Int × Int)} (ha : SqL K H a xs) (hx : DpAll K H xs (L.map dP)) (hb : SqL K H b ys) (hy : DpAll K H ys (M.map dP)) (q : Q (.bl (!decide (L = M))) H) : rNeD K (.ref a) (.ref b) H Q :=
  ⟨dL L, dL M, .lst ha hx, .lst hb hy, dL_shaped L, dL_shaped M, by rw [eqv_pairs]; exact q⟩
theorem prs_dta {K : PySem.W.Frag} {H : Hp} : ∀ {xs : List V} {L : List (Int × Int)}, DtAll K H xs (L.map dP) → Prs H xs L
  | xs, [], h => by cases h; exact .nil
  | xs, p :: L, h => by
    cases h with
    | cons a r =>
      obtain ⟨t, ys, rfl, ht, hy⟩ := dt_tup (show Dt K H _ (.tuple [.int p.1, .int p.2]) from a)
      cases dta_two hy
      exact .cons ⟨t, rfl, ht⟩ (prs_dta r)
end Vf
namespace Vf
theorem bneT (b : Bool) : (b != true) = !b := by cases b <;> rfl
theorem bneF (b : Bool) : (b != false) = b := by cases b <;> rfl
end Vf
namespace Vf
open PySem PySem.Spec PyProof.Rows L2
theorem formD_ok {n : Int} {d : PyData} (h : formD n d = true) : ∃ C J, d = .tuple [.list (C.map dP), .list (J.map dP)] ∧ cpsD n (C.map dP) = some C ∧ cpsD n (J.map dP) = some J ∧
    (∀ p ∈ C, -n ≤ p.1 ∧ p.1 < p.2 ∧ p.2 ≤ n ∧ p.1 ≠ 0 ∧ p.2 ≠ 0) ∧ (∀ p ∈ J, -n ≤ p.1 ∧ p.1 < p.2 ∧ p.2 ≤ n ∧ p.1 ≠ 0 ∧ p.2 ≠ 0) ∧ ascP C = true ∧ ascP J = true ∧
    ((C.length = 2 ∧ J.length = 2) ∨ (C.length = 1 ∧ J.length = 1) ∨ (C.length = 1 ∧ J.length = 0) ∨ (C.length = 0 ∧ J.length = 1)) := by
  unfold formD at h
  split at h
  · rename_i cs js
    rw [Bool.and_eq_true, Bool.and_eq_true] at h
    obtain ⟨⟨h1, h2⟩, h3⟩ := h
    unfold ascD at h2 h3
    split at h2
    · rename_i C e1
      split at h3
      · rename_i J e2
        obtain ⟨c1, c2⟩ := cpsD_dP e1
        obtain ⟨j1, j2⟩ := cpsD_dP e2
        subst c1 j1
        refine ⟨C, J, rfl, e1, e2, c2, j2, h2, h3, ?_⟩
        have := of_decide_eq_true h1
        rw [List.length_map, List.length_map] at this
        exact this
      · cases h3
    · cases h2
  · cases h
end Vf
namespace Vf
open PySem PySem.Spec PyProof.Rows L2
/-- any list against the empty list -/
def rNil (K : PySem.W.Frag) (neg : Bool) : R2 := fun x y H Q => ∃ (a z : Addr) (xs : List V), x = .ref a ∧ y = .ref z ∧ SqL K H a xs ∧ H z = some (.lst []) ∧ Q (.bl (decide (xs = []) != neg)) H
section
variable {X : Cx} {K : PySem.W.Frag}
theorem neNilK (hu : X.A.units < cLine) (hK : X.K = K := by rfl) : OpR X (compareOp .NotEq) (rNil K true) := by
  subst hK
  rintro pins s σ H _ _ v u Q I rx ry ⟨a, z, xs, rfl, rfl, ha, hz, q⟩
  cases rx
  cases ry
  obtain ⟨its, r, pl, _⟩ := I.list ha
  obtain ⟨jts, r2, pl2, _⟩ := I.list (sql hz)
  cases r2
  cases xs with
  | nil =>
    cases r
    exact SeqAt.RcNeAt.lists (e := fun _ => true) pl.isList pl2.isList rfl hu (fun j h => by simp at h) _ _ _ _ ⟨.bl _, H, I, rfl, by simpa using q⟩
  | cons x xs =>
    cases r with
    | cons _ _ => exact SeqAt.RcNeAt.lists_lengths pl.isList pl2.isList (by simp) hu _ _ _ _ ⟨.bl _, H, I, rfl, by simpa using q⟩
theorem eqNilK (hu : X.A.units < cLine) (hK : X.K = K := by rfl) : OpR X (compareOp .Eq) (rNil K false) := by
  subst hK
  rintro pins s σ H _ _ v u Q I rx ry ⟨a, z, xs, rfl, rfl, ha, hz, q⟩
  cases rx
  cases ry
  obtain ⟨its, r, pl, _⟩ := I.list ha
  obtain ⟨jts, r2, pl2, _⟩ := I.list (sql hz)
  cases r2
  cases xs with
  | nil =>
    cases r
    exact SeqAt.RcAt.lists (e := fun _ => true) pl.isList pl2.isList rfl hu (fun j h => by simp at h) _ _ _ _ ⟨.bl _, H, I, rfl, by simpa using q⟩
  | cons x xs =>
    cases r with
    | cons _ _ => exact SeqAt.RcAt.lists_lengths pl.isList pl2.isList (by simp) hu _ _ _ _ ⟨.bl _, H, I, rfl, by simpa using q⟩
end
end Vf
namespace Vf
open PySem PySem.Spec PyProof.Rows L2
section
open PySem.P PySem.AutoSeq1 PySem.MeetsSeq PySem.MeetsSeq2 PySem.MeetsSeq3 PySem.SeqRoads2
theorem ext_tup (a : Addr) (xs : Array Value) (n : Nat) (b : Addr) (ys : Array Value) (m : Nat) (dd : Option Addr) (sl : Array (Option Value)) (room : ¬(!xs.isEmpty && Builtin.List.listTooLong (xs.size + ys.size)) = true) (small : xs.size ≤ sizeLine) (both : xs.size + ys.size ≤ sizeLine + 1) :
    Meets (Builtin.«list.extend» ⟨[.ref a, .ref b], []⟩) (fun _ R s => s.heap.get? a = some { cls := .type "list", dict := none, data := .seq xs n, slots := #[] } ∧ s.heap.get? b = some { cls := .type "tuple", dict := dd, data := .seq ys m, slots := sl } ∧ R (.ok (.ret Value.none)) { s with heap := s.heap.update a (Obj.mapSeq fun x => x ++ ys), toks := s.toks }) :=
  .of_wp fun prog w A R s k => by
    obtain ⟨hp, ge, dn, tk, os⟩ := s
    obtain ⟨ha, hb, k⟩ := k
    have f1 := idx_int
    have f2 := AutoSeq1.sub_tuple_tuple
    have f3 := AutoSeq1.sub_list_list
    have f4 := AutoSeq1.sub_tuple_list
    have f5 := AutoSeq1.sub_list_tuple
    have fits : (xs ++ ys).size ≤ sizeLine + 1 := by rw [Array.size_append]; exact both
    wp_walk using (wpAny_updateSeq ha rfl (hz := small) (_hz' := fits)), wpAny_loadPart' ha, wpAny_loadPart' hb
    exact ⟨_, rfl, k⟩
end
/-- xs.extend(t), t a tuple -/
def rExtT (K : PySem.W.Frag) : V → List V → Hp → VK → Prop := fun x vs H Q => ∃ l b xs zs, x = .ref l ∧ vs = [.ref b] ∧ H l = some (.lst xs) ∧ SqT K H b zs ∧ xs.length + zs.length ≤ sizeLine ∧ Q .non (upd H l (.lst (xs ++ zs)))
theorem extTK {X : Cx} {K : PySem.W.Frag} (hK : X.K = K := by rfl) : MtM X "list.extend" (rExtT K) := by
  subst hK
  rintro pins s σ H x vs v us Q I rx rv ⟨l, b, xs, zs, rfl, rfl, hH, hB, hz, q⟩
  cases rx
  obtain ⟨u, rfl, ru⟩ := rv.one
  cases ru
  obtain ⟨z, its, n, r, hl, e⟩ := I.lstM hH
  obtain ⟨jts, r2, ⟨⟨c2, d2, t2, s2⟩, e2, h1, n2, h2⟩, _⟩ := I.tuple hB
  simp only at h1 h2
  subst h1 h2
  have l2 := r2.length
  have hsz : its.toArray.size + jts.toArray.size ≤ sizeLine := by rw [List.size_toArray, List.size_toArray]; omega
  have hlong : ¬ (!its.toArray.isEmpty && Builtin.List.listTooLong (its.toArray.size + jts.toArray.size)) = true := by
    rw [notLongL hsz, Bool.and_false]
    exact Bool.false_ne_true
  refine call_meets F.slot_list_extend ⟨_, e, rfl⟩ F.entry_list_extend (F.args_list_extend_2 _ _)
    (ext_tup l its.toArray n b jts.toArray n2 d2 s2 hlong (by rw [List.size_toArray]; omega) (by omega)) ⟨e, e2, ?_⟩
  refine ⟨.non, _, I.lset (its' := its ++ jts) hH e (by simp) (r.append r2) ?_, rfl, q⟩
  rw [List.length_append]
  exact hz
end Vf
namespace Vf
open PySem PySem.Spec PyProof.Rows L2
theorem sortIK {X : Cx} {K : PySem.W.Frag} (hK : X.K = K := by rfl) : CallR X (.builtin "sorted") (rSortedI K) := by subst hK; exact cr_sortedI
theorem sorted_same {l m l' m' : List Int} (h1 : l'.Perm l) (h2 : l'.Pairwise (· ≤ ·)) (h3 : m'.Perm m) (h4 : m'.Pairwise (· ≤ ·)) : l' = m' ↔ l.Perm m := by
  constructor
  · intro e
    rw [e] at h1
    exact h1.symm.trans h3
  · intro p
    have q : l'.Perm m' := h1.trans (p.trans h3.symm)
    exact List.Perm.eq_of_pairwise (fun a b _ _ h1 h2 => Int.le_antisymm h1 h2) h2 h4 q
/-! the law's own word for a move -/
def cplsD (n : Int) (d : PyData) : Bool := match d with
  | .list ds => decide (ds.length ≤ 2) && ascD n ds
  | _ => false
def lawB (L C J : List (Int × Int)) : Bool := C.all (fun p => decide (p ∈ L)) && (if C.length = 2 then decide ((flat J).Perm (flat C)) && J.all (fun p => decide (p ∉ C)) else
  if C.length = 1 then (decide (J = []) || (decide (J.length = 1) && (decide (((flat J).filter fun e => decide (e ∉ flat L)).length = 1) && decide (((flat J).filter fun e => decide (e ∈ flat C)).length = 1)))) else
  (decide (J.length = 1) && decide (((flat J).filter fun e => decide (e ∉ flat L)).length = 2)))
theorem law22 {p q r s : Int × Int} (hp : p.1 < p.2) (hq : q.1 < q.2) (hr : r.1 < r.2) (hs : s.1 < s.2) (a1 : pltB p q = true) (a2 : pltB r s = true) (nd : [p.1, p.2, q.1, q.2].Nodup) :
    ([r.1, r.2, s.1, s.2].Perm [p.1, p.2, q.1, q.2] ∧ ∀ x ∈ [r, s], x ∉ [p, q]) ↔ ([r, s] = [(p.1, q.1), cpl p.2 q.2] ∨ [r, s] = [(p.1, q.2), cpl p.2 q.1]) := by
  obtain ⟨p1, p2⟩ := p
  obtain ⟨q1, q2⟩ := q
  obtain ⟨r1, r2⟩ := r
  obtain ⟨s1, s2⟩ := s
  have b1 := of_decide_eq_true a1
  have b2 := of_decide_eq_true a2
  simp only at hp hq hr hs b1 b2 nd ⊢
  have n1 : p1 ≠ q1 ∧ p1 ≠ q2 ∧ p2 ≠ q1 ∧ p2 ≠ q2 := by
    simp only [List.nodup_cons, List.mem_cons, List.not_mem_nil, or_false, not_or] at nd
    omega
  constructor
  · rintro ⟨pm, no⟩
    have nd2 : [r1, r2, s1, s2].Nodup := pm.nodup_iff.mpr nd
    simp only [List.nodup_cons, List.mem_cons, List.not_mem_nil, or_false, not_or] at nd2
    have m1 := pm.mem_iff (a := p1)
    have m2 := pm.mem_iff (a := r1)
    have m3 := pm.mem_iff (a := r2)
    have m4 := pm.mem_iff (a := s1)
    have m5 := pm.mem_iff (a := s2)
    simp only [List.mem_cons, List.not_mem_nil, or_false, true_or, or_true, true_iff, iff_true] at m1 m2 m3 m4 m5
    have e1 : r1 = p1 := by omega
    have no1 := no (r1, r2) (by simp)
    simp only [List.mem_cons, Prod.mk.injEq, List.not_mem_nil, or_false, not_or, not_and] at no1
    have e2 : r2 ≠ p2 := fun z => no1.1 e1 z
    unfold cpl
    simp only [List.cons.injEq, Prod.mk.injEq, and_true]
    by_cases c : r2 = q1
    · left
      refine ⟨⟨e1, c⟩, ?_⟩
      split <;> (rw [Prod.mk.injEq]; omega)
    · right
      have e3 : r2 = q2 := by omega
      refine ⟨⟨e1, e3⟩, ?_⟩
      split <;> (rw [Prod.mk.injEq]; omega)
  · intro h
    unfold cpl at h
    rcases h with h | h
    · simp only [List.cons.injEq, Prod.mk.injEq, and_true] at h
      obtain ⟨⟨rfl, rfl⟩, h⟩ := h
      split at h
      · cases h
        refine ⟨.cons _ (.swap _ _ _), fun x hx => ?_⟩
        simp only [List.mem_cons, List.not_mem_nil, or_false] at hx ⊢
        rcases hx with rfl | rfl <;> (simp only [Prod.mk.injEq]; omega)
      · cases h
        refine ⟨.cons _ (List.perm_append_comm (l₁ := [_, _]) (l₂ := [_])), fun x hx => ?_⟩
        simp only [List.mem_cons, List.not_mem_nil, or_false] at hx ⊢
        rcases hx with rfl | rfl <;> (simp only [Prod.mk.injEq]; omega)
    · simp only [List.cons.injEq, Prod.mk.injEq, and_true] at h
      obtain ⟨⟨rfl, rfl⟩, h⟩ := h
      split at h
      · cases h
        refine ⟨.cons _ (List.perm_append_comm (l₁ := [_]) (l₂ := [_, _])), fun x hx => ?_⟩
        simp only [List.mem_cons, List.not_mem_nil, or_false] at hx ⊢
        rcases hx with rfl | rfl <;> (simp only [Prod.mk.injEq]; omega)
      · cases h
        refine ⟨.cons _ (List.reverse_perm [_, _, _]), fun x hx => ?_⟩
        simp only [List.mem_cons, List.not_mem_nil, or_false] at hx ⊢
        rcases hx with rfl | rfl <;> (simp only [Prod.mk.injEq]; omega)
theorem nd_two {n : Int} {L : List (Int × Int)} (hL : Lay n L) {p q : Int × Int} (hp : p ∈ L) (hq : q ∈ L) (ne : p ≠ q) : p.1 ≠ q.1 ∧ p.1 ≠ q.2 ∧ p.2 ≠ q.1 ∧ p.2 ≠ q.2 := by
  have k1 := (parI_iff hL (a := p.1) (b := p.2)).mpr (.inl hp)
  have k2 := (parI_iff hL (a := p.2) (b := p.1)).mpr (.inr hp)
  have k3 := (parI_iff hL (a := q.1) (b := q.2)).mpr (.inl hq)
  have k4 := (parI_iff hL (a := q.2) (b := q.1)).mpr (.inr hq)
  have cp := (hL.cp p hp).2.1
  have cq := (hL.cp q hq).2.1
  refine ⟨fun z => ?_, fun z => ?_, fun z => ?_, fun z => ?_⟩
  · rw [z, k3] at k1
    exact ne (Prod.ext z (Option.some.inj k1).symm)
  · rw [z, k4] at k1
    have := Option.some.inj k1
    omega
  · rw [z, k3] at k2
    have := Option.some.inj k2
    omega
  · rw [z, k4] at k2
    exact ne (Prod.ext (Option.some.inj k2).symm z)
theorem law_mv {n : Int} {L C J : List (Int × Int)} (hL : Lay n L) (hC : ∀ p ∈ C, p.1 < p.2) (hJ : ∀ p ∈ J, p.1 < p.2) (aC : ascP C = true) (aJ : ascP J = true) (lC : C.length ≤ 2) (lJ : J.length ≤ 2) :
    lawB L C J = (formL C.length J.length && mvB L C J) := by
  unfold lawB mvB
  cases hall : C.all (fun p => decide (p ∈ L)) with
  | false => rw [Bool.false_and, Bool.false_and, Bool.and_false]
  | true =>
  rw [Bool.true_and, Bool.true_and]
  have hin : ∀ p ∈ C, p ∈ L := fun p hp => of_decide_eq_true (List.all_eq_true.mp hall p hp)
  match C, J, lC, lJ with
  | [], [], _, _ => rfl
  | [], [q], _, _ =>
    show (decide (1 = 1) && decide (([q.1, q.2].filter fun e => decide (e ∉ flat L)).length = 2)) = decide (q.1 ∉ flat L ∧ q.2 ∉ flat L)
    by_cases c1 : q.1 ∈ flat L <;> by_cases c2 : q.2 ∈ flat L <;> simp [c1, c2]
  | [], [_, _], _, _ => rfl
  | [_], [], _, _ => rfl
  | [p], [q], _, _ =>
    have i1 : p.1 ∈ flat L := mem_flat.mpr ⟨p, hin p (by simp), .inl rfl⟩
    have i2 : p.2 ∈ flat L := mem_flat.mpr ⟨p, hin p (by simp), .inr rfl⟩
    show (decide ([q] = []) || (decide (1 = 1) && (decide (([q.1, q.2].filter fun e => decide (e ∉ flat L)).length = 1) && decide (([q.1, q.2].filter fun e => decide (e ∈ flat [p])).length = 1)))) = openB L p q
    have fl : ∀ e, e ∈ flat [p] ↔ e = p.1 ∨ e = p.2 := fun e => by simp [flat]
    unfold openB
    have k1 : (q.1 = p.1 ∨ q.1 = p.2) → q.1 ∈ flat L := by rintro (z | z) <;> rw [z] <;> assumption
    have k2 : (q.2 = p.1 ∨ q.2 = p.2) → q.2 ∈ flat L := by rintro (z | z) <;> rw [z] <;> assumption
    by_cases a1 : q.1 = p.1 ∨ q.1 = p.2
    · have b1 := k1 a1
      by_cases a2 : q.2 = p.1 ∨ q.2 = p.2
      · have b2 := k2 a2
        simp [fl, a1, a2, b1, b2]
      · by_cases c2 : q.2 ∈ flat L <;> simp [fl, a1, a2, b1, c2]
    · by_cases a2 : q.2 = p.1 ∨ q.2 = p.2
      · have b2 := k2 a2
        by_cases c1 : q.1 ∈ flat L <;> simp [fl, a1, a2, b2, c1]
      · by_cases c1 : q.1 ∈ flat L <;> by_cases c2 : q.2 ∈ flat L <;> simp [fl, a1, a2, c1, c2]
  | [p], [_, _], _, _ => rfl
  | [p, q], [], _, _ => rfl
  | [p, q], [r], _, _ =>
    show (decide ((flat [r]).Perm (flat [p, q])) && _) = false
    rw [decide_eq_false (fun z => by have := z.length_eq; rw [flat_len, flat_len] at this; simp at this), Bool.false_and]
  | [p, q], [r, s], _, _ =>
    have hp := hC p (by simp)
    have hq := hC q (by simp)
    have ne : p ≠ q := by
      rintro rfl
      have := of_decide_eq_true (show pltB p p = true from aC)
      omega
    have n4 := nd_two hL (hin p (by simp)) (hin q (by simp)) ne
    have nd : [p.1, p.2, q.1, q.2].Nodup := by
      simp only [List.nodup_cons, List.mem_cons, List.not_mem_nil, or_false, not_or]
      refine ⟨?_, ?_, ?_, by simp, List.nodup_nil⟩ <;> omega
    have key := law22 hp hq (hJ r (by simp)) (hJ s (by simp)) aC aJ nd
    show (decide ([r.1, r.2, s.1, s.2].Perm [p.1, p.2, q.1, q.2]) && [r, s].all (fun x => decide (x ∉ [p, q]))) = (decide ([r, s] = [(p.1, q.1), cpl p.2 q.2]) || decide ([r, s] = [(p.1, q.2), cpl p.2 q.1]))
    rw [Bool.eq_iff_iff, Bool.and_eq_true, Bool.or_eq_true, decide_eq_true_eq, decide_eq_true_eq, decide_eq_true_eq, List.all_eq_true]
    rw [← key]
    refine and_congr_right fun _ => ?_
    exact ⟨fun h x hx => of_decide_eq_true (h x hx), fun h x hx => decide_eq_true (h x hx)⟩
end Vf
namespace Vf
open PySem PySem.Spec PyProof.Rows L2
theorem cpsD_pre {n : Int} {d : PyData} : ∀ {dn : List PyData} {C : List (Int × Int)}, cpsD n (dn ++ [d]) = some C → ∃ C', cpsD n dn = some C'
  | [], _, _ => ⟨[], rfl⟩
  | e :: dn, C, h => by
    have h' : cpsD n (e :: (dn ++ [d])) = some C := h
    unfold cpsD at h' ⊢
    split at h'
    · rename_i q L e1 e2
      obtain ⟨C', hC⟩ := cpsD_pre e2
      rw [e1, hC]
      exact ⟨_, rfl⟩
    · cases h'
end Vf
namespace Vf
open PySem PySem.Spec PyProof.Rows L2
theorem eqv_ints : ∀ ns ms : List Int, PyData.eqv (dI ns) (dI ms) = decide (ns = ms) := by
  intro ns ms
  unfold dI
  show PyData.eqvAll (ns.map .int) (ms.map .int) = _
  induction ns generalizing ms with
  | nil => cases ms with
    | nil => simp [PyData.eqvAll]
    | cons q M => simp [PyData.eqvAll]
  | cons p L ih => cases ms with
    | nil => simp [PyData.eqvAll]
    | cons q M =>
      rw [List.map_cons, List.map_cons]
      show (PyData.eqv (.int p) (.int q) && PyData.eqvAll (L.map .int) (M.map .int)) = _
      rw [ih, Bool.eq_iff_iff]
      simp [PyData.eqv]
theorem r_eqIs {K : PySem.W.Frag} {H : Hp} {Q : VK} {a b : Addr} {ns ms : List Int} (ha : SqL K H a (ns.map V.int)) (hb : SqL K H b (ms.map V.int)) (q : Q (.bl (decide (ns = ms))) H) : rEqD K (.ref a) (.ref b) H Q :=
  ⟨dI ns, dI ms, dp_ints ha, dp_ints hb, (lay_ints ns).2, (lay_ints ms).2, by rw [eqv_ints]; exact q⟩
theorem form_cpls {n : Int} {d e : PyData} (h : formD n (.tuple [d, e]) = true) : cplsD n d = true ∧ cplsD n e = true := by
  obtain ⟨C, J, he, hC, hJ, _, _, aC, aJ, hl⟩ := formD_ok h
  injection he with he
  injection he with h1 h2
  injection h2 with h2 _
  subst h1 h2
  have k : ∀ M : List (Int × Int), cpsD n (M.map dP) = some M → ascP M = true → M.length ≤ 2 → cplsD n (.list (M.map dP)) = true := fun M hM aM lM => by
    show (decide ((M.map dP).length ≤ 2) && ascD n (M.map dP)) = true
    unfold ascD
    rw [hM, List.length_map, decide_eq_true lM, Bool.true_and]
    exact aM
  exact ⟨k C hC aC (by omega), k J hJ aJ (by omega)⟩
theorem cplsD_ok {n : Int} {d : PyData} (h : cplsD n d = true) : ∃ C, d = .list (C.map dP) ∧ cpsD n (C.map dP) = some C ∧ ascP C = true ∧ C.length ≤ 2 ∧ ∀ p ∈ C, -n ≤ p.1 ∧ p.1 < p.2 ∧ p.2 ≤ n ∧ p.1 ≠ 0 ∧ p.2 ≠ 0 := by
  unfold cplsD at h
  split at h
  · rename_i ds
    rw [Bool.and_eq_true] at h
    obtain ⟨h1, h2⟩ := h
    unfold ascD at h2
    split at h2
    · rename_i C e1
      obtain ⟨c1, c2⟩ := cpsD_dP e1
      subst c1
      have := of_decide_eq_true h1
      rw [List.length_map] at this
      exact ⟨C, rfl, e1, h2, this, c2⟩
    · cases h2
  · cases h
theorem mv_law {n : Int} {L C J : List (Int × Int)} (hL : Lay n L) (hC : cpsD n (C.map dP) = some C) (hJ : cpsD n (J.map dP) = some J) (aC : ascP C = true) (aJ : ascP J = true) (lC : C.length ≤ 2) (lJ : J.length ≤ 2) :
    mvD n L (.tuple [.list (C.map dP), .list (J.map dP)]) = lawB L C J := by
  have c2 := (cpsD_dP hC).2
  have j2 := (cpsD_dP hJ).2
  rw [law_mv hL (fun p hp => (c2 p hp).2.1) (fun p hp => (j2 p hp).2.1) aC aJ lC lJ]
  unfold mvD
  simp only [hC, hJ]
  have : formD n (.tuple [.list (C.map dP), .list (J.map dP)]) = formL C.length J.length := by
    show (formL (C.map dP).length (J.map dP).length && ascD n (C.map dP) && ascD n (J.map dP)) = _
    unfold ascD
    rw [hC, hJ, List.length_map, List.length_map]
    simp only [aC, aJ, Bool.and_true]
  rw [this]
/-- those of a list of pairs, by the pairs -/
theorem key_filter {H : Hp} {xs : List V} {C : List (Int × Int)} (h : Prs H xs C) (b : Int × Int → Bool) : Prs H (xs.filter fun x => b (keyP H x)) (C.filter b) := by
  induction h with
  | nil => exact .nil
  | @cons x p xs C r t ih =>
    have k := keyP_of r
    by_cases c : b p = true
    · rw [List.filter_cons_of_pos (by rw [k]; exact c), List.filter_cons_of_pos c]
      exact .cons r ih
    · rw [List.filter_cons_of_neg (by rw [k]; exact c), List.filter_cons_of_neg c]
      exact ih
theorem nil_of_prs {H : Hp} {xs : List V} {C : List (Int × Int)} (h : Prs H xs C) : xs = [] ↔ C = [] := by
  cases h <;> simp
theorem Prs.mem {H : Hp} {xs : List V} {C : List (Int × Int)} (h : Prs H xs C) {x : V} (hx : x ∈ xs) : ∃ p ∈ C, Pr H x p := by
  obtain ⟨i, hi⟩ := List.getElem?_of_mem hx
  obtain ⟨p, h1, h2⟩ := pair_get h hi
  exact ⟨p, List.mem_of_getElem? h1, h2⟩
end Vf
namespace Vf
open PySem PySem.Spec PyProof.Rows L2
/-- a statement whose ways meet again behind it -/
theorem r_seqJ {t u : TS} {nx bk ct : L2.St → Hp → Prop} {rt : VK} {σ : L2.St} {H : Hp} (I : L2.St → Hp → Prop) (h1 : ∀ nx' : L2.St → Hp → Prop, (∀ σ' H', I σ' H' → nx' σ' H') → t ⟨nx', rt, bk, ct⟩ σ H) (h2 : ∀ σ' H', I σ' H' → u ⟨nx, rt, bk, ct⟩ σ' H') : tSeq t u ⟨nx, rt, bk, ct⟩ σ H := h1 _ h2
/-- a move in the heap -/
def MvAt (H : Hp) (v : V) (C J : List (Int × Int)) : Prop := ∃ p a1 a2 xs1 xs2, v = .ref p ∧ H p = some (.tup [.ref a1, .ref a2]) ∧ H a1 = some (.lst xs1) ∧ Prs H xs1 C ∧ H a2 = some (.lst xs2) ∧ Prs H xs2 J
abbrev mD (C J : List (Int × Int)) : PyData := .tuple [.list (C.map dP), .list (J.map dP)]
theorem MvAt.mono {H H' : Hp} {v : V} {C J : List (Int × Int)} (s : Same H H') (h : MvAt H v C J) : MvAt H' v C J := let ⟨p, a1, a2, x1, x2, e, h1, h2, h3, h4, h5⟩ := h; ⟨p, a1, a2, x1, x2, e, s _ _ h1, s _ _ h2, h3.mono s, s _ _ h4, h5.mono s⟩
theorem MvAt.dt {K : PySem.W.Frag} {H : Hp} {v : V} {C J : List (Int × Int)} (h : MvAt H v C J) : Dt K H v (mD C J) := by
  obtain ⟨p, a1, a2, x1, x2, rfl, h1, h2, h3, h4, h5⟩ := h
  exact .tup h1 (.cons (.lst h2 (dta_prs h3)) (.cons (.lst h4 (dta_prs h5)) .nil))
theorem cpsD_all {n : Int} : ∀ {C : List (Int × Int)}, (∀ p ∈ C, -n ≤ p.1 ∧ p.1 < p.2 ∧ p.2 ≤ n ∧ p.1 ≠ 0 ∧ p.2 ≠ 0) → cpsD n (C.map dP) = some C
  | [], _ => rfl
  | p :: C, h => by
    rw [List.map_cons]
    unfold cpsD
    rw [cpD_of (h p List.mem_cons_self), cpsD_all fun q hq => h q (List.mem_cons_of_mem _ hq)]
theorem mvD_of {n : Int} {L C J : List (Int × Int)} (hL : Lay n L) (hC : ∀ p ∈ C, p ∈ L) (hJ : ∀ p ∈ J, -n ≤ p.1 ∧ p.1 < p.2 ∧ p.2 ≤ n ∧ p.1 ≠ 0 ∧ p.2 ≠ 0) (aC : ascP C = true) (aJ : ascP J = true) (lC : C.length ≤ 2) (lJ : J.length ≤ 2) (h : lawB L C J = true) : mvD n L (mD C J) = true := by
  rw [mv_law hL (cpsD_all fun p hp => hL.cp p (hC p hp)) (cpsD_all hJ) aC aJ lC lJ]
  exact h
def prI (a b : Int) : Int × Int := (min a b, max a b)
theorem prI_two {a b : Int} (h : a ≠ b) : (prI a b = (a, b) ∧ a < b) ∨ (prI a b = (b, a) ∧ b < a) := by
  unfold prI
  by_cases c : a < b
  · left; exact ⟨by rw [Int.min_eq_left (by omega), Int.max_eq_right (by omega)], c⟩
  · right; exact ⟨by rw [Int.min_eq_right (by omega), Int.max_eq_left (by omega)], by omega⟩
theorem mem_opens {n : Int} {L : List (Int × Int)} {e : Int} : e ∈ opensL n L ↔ (-n ≤ e ∧ e ≤ n ∧ e ≠ 0) ∧ e ∉ flat L := by
  unfold opensL
  rw [List.mem_filter, mem_endsL, ← parI_none]
  cases parI L e <;> simp
theorem mv_join {n : Int} {L : List (Int × Int)} (hL : Lay n L) {a b : Int} (ha : a ∈ opensL n L) (hb : b ∈ opensL n L) (ne : a ≠ b) : mvD n L (mD [] [prI a b]) = true := by
  obtain ⟨a1, a2⟩ := mem_opens.mp ha
  obtain ⟨b1, b2⟩ := mem_opens.mp hb
  refine mvD_of hL (fun _ z => (nomatch z)) (fun p hp => ?_) rfl rfl (by decide) (by show 1 ≤ 2; decide) ?_
  · rw [List.mem_singleton.mp hp]
    rcases prI_two ne with ⟨e, c⟩ | ⟨e, c⟩ <;> (rw [e]; simp only; omega)
  · show (true && (decide (1 = 1) && decide (([(prI a b).1, (prI a b).2].filter fun e => decide (e ∉ flat L)).length = 2))) = true
    rcases prI_two ne with ⟨e, c⟩ | ⟨e, c⟩ <;> (rw [e]; simp [a2, b2])
theorem mv_cut {n : Int} {L : List (Int × Int)} (hL : Lay n L) {p : Int × Int} (hp : p ∈ L) : mvD n L (mD [p] []) = true := by
  refine mvD_of hL (fun q hq => List.mem_singleton.mp hq ▸ hp) (fun _ z => (nomatch z)) rfl rfl (by show 1 ≤ 2; decide) (by decide) ?_
  unfold lawB
  rw [if_neg (show ¬ [p].length = 2 by simp), if_pos (show [p].length = 1 from rfl)]
  simp [hp]
theorem mv_move {n : Int} {L : List (Int × Int)} (hL : Lay n L) {p : Int × Int} (hp : p ∈ L) {e f : Int} (he : e = p.1 ∨ e = p.2) (hf : f ∈ opensL n L) : mvD n L (mD [p] [prI e f]) = true := by
  obtain ⟨f1, f2⟩ := mem_opens.mp hf
  have cp := hL.cp p hp
  have i1 : p.1 ∈ flat L := mem_flat.mpr ⟨p, hp, .inl rfl⟩
  have i2 : p.2 ∈ flat L := mem_flat.mpr ⟨p, hp, .inr rfl⟩
  have hel : e ∈ flat L := by rcases he with z | z <;> (rw [z]; assumption)
  have ne : e ≠ f := fun z => f2 (z ▸ hel)
  have nf : f ≠ p.1 ∧ f ≠ p.2 := ⟨fun z => f2 (z ▸ i1), fun z => f2 (z ▸ i2)⟩
  refine mvD_of hL (fun q hq => List.mem_singleton.mp hq ▸ hp) (fun q hq => ?_) rfl rfl (by show 1 ≤ 2; decide) (by show 1 ≤ 2; decide) ?_
  · rw [List.mem_singleton.mp hq]
    rcases prI_two ne with ⟨z, c⟩ | ⟨z, c⟩ <;> (rw [z]; simp only; omega)
  · have fl : ∀ x, x ∈ flat [p] ↔ x = p.1 ∨ x = p.2 := fun x => by simp [flat]
    show ([p].all (fun p => decide (p ∈ L)) && (decide ([prI e f] = []) || (decide (1 = 1) && (decide (([(prI e f).1, (prI e f).2].filter fun e => decide (e ∉ flat L)).length = 1) && decide (([(prI e f).1, (prI e f).2].filter fun e => decide (e ∈ flat [p])).length = 1))))) = true
    rcases prI_two ne with ⟨z, c⟩ | ⟨z, c⟩ <;> (rw [z]; simp [hp, fl, he, hel, f2, nf.1, nf.2])
theorem asc_two {C : List (Int × Int)} (h : Asc C) : ascP C = true := by
  match C with
  | [] => rfl
  | [_] => rfl
  | [p, q] =>
    have := (List.pairwise_cons.mp h).1 q (by simp)
    exact decide_eq_true this
  | _ :: _ :: _ :: _ => rfl
theorem mv_swap {n : Int} {L : List (Int × Int)} (hL : Lay n L) {p o : Int × Int} (hp : p ∈ L) (ho : o ∈ L) (ne : p ≠ o) {x y : Int} (hxy : (x = o.1 ∧ y = o.2) ∨ (x = o.2 ∧ y = o.1)) {C J : List (Int × Int)} (pC : C.Perm [p, o]) (pJ : J.Perm [prI p.1 x, prI p.2 y]) (aC : Asc C) (aJ : Asc J) : mvD n L (mD C J) = true := by
  obtain ⟨n1, n2, n3, n4⟩ := nd_two hL hp ho ne
  have cp := hL.cp p hp
  have co := hL.cp o ho
  have ne1 : p.1 ≠ x := by rcases hxy with h | h <;> omega
  have ne2 : p.2 ≠ y := by rcases hxy with h | h <;> omega
  have rg : ∀ q ∈ [prI p.1 x, prI p.2 y], -n ≤ q.1 ∧ q.1 < q.2 ∧ q.2 ≤ n ∧ q.1 ≠ 0 ∧ q.2 ≠ 0 := fun q hq => by
    rcases List.mem_cons.mp hq with rfl | hq
    · rcases prI_two ne1 with ⟨z, c⟩ | ⟨z, c⟩ <;> rw [z] <;> rcases hxy with h | h <;> (simp only; omega)
    · rw [List.mem_singleton.mp hq]
      rcases prI_two ne2 with ⟨z, c⟩ | ⟨z, c⟩ <;> rw [z] <;> rcases hxy with h | h <;> (simp only; omega)
  refine mvD_of hL (fun q hq => ?_) (fun q hq => rg q (pJ.mem_iff.mp hq)) (asc_two aC) (asc_two aJ) (by rw [pC.length_eq]; exact Nat.le_refl 2) (by rw [pJ.length_eq]; exact Nat.le_refl 2) ?_
  · have := pC.mem_iff.mp hq
    simp only [List.mem_cons, List.not_mem_nil, or_false] at this
    rcases this with rfl | rfl <;> assumption
  · unfold lawB
    rw [if_pos (by rw [pC.length_eq]; rfl)]
    rw [Bool.and_eq_true, Bool.and_eq_true]
    refine ⟨List.all_eq_true.mpr fun q hq => decide_eq_true ?_, decide_eq_true ?_, List.all_eq_true.mpr fun q hq => decide_eq_true fun hqc => ?_⟩
    · have := pC.mem_iff.mp hq
      simp only [List.mem_cons, List.not_mem_nil, or_false] at this
      rcases this with rfl | rfl <;> assumption
    · refine (flat_perm pJ).trans (List.Perm.trans ?_ (flat_perm pC).symm)
      have f1 : flat [prI p.1 x, prI p.2 y] = [(prI p.1 x).1, (prI p.1 x).2] ++ [(prI p.2 y).1, (prI p.2 y).2] := rfl
      have k : ∀ {a b : Int}, a ≠ b → [(prI a b).1, (prI a b).2].Perm [a, b] := fun {a b} h => by
        rcases prI_two h with ⟨z, _⟩ | ⟨z, _⟩
        · rw [z]
        · rw [z]; exact .swap _ _ _
      rw [f1]
      refine ((k ne1).append (k ne2)).trans ?_
      show [p.1, x, p.2, y].Perm [p.1, p.2, o.1, o.2]
      rcases hxy with ⟨rfl, rfl⟩ | ⟨rfl, rfl⟩
      · exact .cons _ (.swap _ _ _)
      · exact .cons _ (List.perm_append_comm (l₁ := [_]) (l₂ := [_, _]))
    · have h1 := pJ.mem_iff.mp hq
      have h2 := pC.mem_iff.mp hqc
      simp only [List.mem_cons, List.not_mem_nil, or_false] at h1 h2
      have e1 := prI_two ne1
      have e2 := prI_two ne2
      rcases h2 with rfl | rfl
      · rcases h1 with h | h
        · rcases e1 with ⟨z, c⟩ | ⟨z, c⟩ <;> rw [z] at h <;> (have w1 := congrArg Prod.fst h; have w2 := congrArg Prod.snd h; simp only at w1 w2; rcases hxy with g | g <;> omega)
        · rcases e2 with ⟨z, c⟩ | ⟨z, c⟩ <;> rw [z] at h <;> (have w1 := congrArg Prod.fst h; have w2 := congrArg Prod.snd h; simp only at w1 w2; rcases hxy with g | g <;> omega)
      · rcases h1 with h | h
        · rcases e1 with ⟨z, c⟩ | ⟨z, c⟩ <;> rw [z] at h <;> (have w1 := congrArg Prod.fst h; have w2 := congrArg Prod.snd h; simp only at w1 w2; rcases hxy with g | g <;> omega)
        · rcases e2 with ⟨z, c⟩ | ⟨z, c⟩ <;> rw [z] at h <;> (have w1 := congrArg Prod.fst h; have w2 := congrArg Prod.snd h; simp only at w1 w2; rcases hxy with g | g <;> omega)
end Vf
namespace Vf
open PySem PySem.Spec PyProof.Rows L2
def okForm (n : Int) (L : List (Int × Int)) (f : Int) : Prop := (f = 0 ∧ 1 < L.length) ∨ (f = 1 ∧ L ≠ [] ∧ opensL n L ≠ []) ∨ (f = 2 ∧ L ≠ []) ∨ (f = 3 ∧ 1 < (opensL n L).length)
theorem opens_empty {n : Int} (h : 1 ≤ n) : 1 < (opensL n []).length := by
  have e : opensL n [] = endsL n := by
    unfold opensL
    exact List.filter_eq_self.mpr fun _ _ => rfl
  rw [e, endsL_two (by omega), List.length_append, rng_len, rng_len]
  omega
theorem opens_nd (n : Int) (L : List (Int × Int)) : (opensL n L).Nodup := (endsL_nd n).filter _
theorem opens_len {n : Int} {L : List (Int × Int)} (h1 : 1 ≤ n) (h : n ≤ 60) : (opensL n L).length ≤ 121 := Nat.le_trans (List.length_filter_le _ _) (by have := endsL_len (n := n) (by omega); omega)
theorem nodup_erase_ne {l : List Int} {i j : Nat} {a b : Int} (nd : l.Nodup) (ha : l[i]? = some a) (hb : (l.eraseIdx i)[j]? = some b) : a ≠ b := by
  have p := perm_erase ha
  have nd2 := p.nodup_iff.mp nd
  intro z
  exact (List.nodup_cons.mp nd2).1 (z ▸ List.mem_of_getElem? hb)
end Vf
namespace Vf
open PySem PySem.Spec PyProof.Rows L2
theorem shaped_pair (p : Int × Int) : SeqAt.shaped (dP p) = true := by
  unfold SeqAt.shaped
  rw [canLay_pair, Bool.true_and]
  have := depth_pair p
  exact decide_eq_true (by omega)
theorem r_nePr {K : PySem.W.Frag} {H : Hp} {Q : VK} {x y : V} {p q : Int × Int} (hx : Pr H x p) (hy : Pr H y q) (h : Q (.bl (!decide (p = q))) H) : rNeD K x y H Q :=
  ⟨dP p, dP q, dp_pr hx, dp_pr hy, shaped_pair p, shaped_pair q, by rw [eqv_pair]; exact h⟩
theorem r_eqPr {K : PySem.W.Frag} {H : Hp} {Q : VK} {x y : V} {p q : Int × Int} (hx : Pr H x p) (hy : Pr H y q) (h : Q (.bl (decide (p = q))) H) : rEqD K x y H Q :=
  ⟨dP p, dP q, dp_pr hx, dp_pr hy, shaped_pair p, shaped_pair q, by rw [eqv_pair]; exact h⟩
theorem other_ne {L : List (Int × Int)} {p : Int × Int} (nd : L.Nodup) (h : 1 < L.length) : 0 < (L.filter fun q => decide (q ≠ p)).length := by
  match L, h with
  | a :: b :: r, _ =>
    by_cases c : a = p
    · have hb : b ≠ p := fun z => (List.nodup_cons.mp nd).1 (by rw [c, z]; simp)
      exact List.length_pos_of_mem (List.mem_filter.mpr ⟨by simp, decide_eq_true hb⟩ : b ∈ _)
    · exact List.length_pos_of_mem (List.mem_filter.mpr ⟨by simp, decide_eq_true c⟩ : a ∈ _)
end Vf
namespace Vf
open PySem PySem.Spec PyProof.Rows L2
section
variable {K : PySem.W.Frag} {t : List Addr} {σ : L2.St} {H0 : Hp} {te : TE} {W k m a : Nat}
theorem evL_lcT {la : Addr} {xs : List V} {ix : Nat} {vs : List Nat} (e : σ[a]? = some (some (.ref la))) (h : H0 la = some (.tup xs)) (hm : xs.length ≤ m) (hz : m < 100000) (hw : ∀ x, wipe ((wipe σ vs).set ix (some x)) vs = wipe σ vs)
    (he : ∀ x ∈ xs, ∀ D, EvV K (D :: t) ((wipe σ vs).set ix (some x)) H0 te W k) : EvL K t σ H0 (tLc (iTup K (tVar a)) (gName ix) tYes te vs) (W * m) k m := fun H Q s n q => by
  refine ⟨_, e, la, rfl, ⟨xs, sqt (hid_le _ _ (s _ _ h))⟩, fun D nD => ?_⟩
  have nD0 : H0 D = none := s.free (by unfold Hid; split <;> first | rfl | exact nD)
  have nDt := hid_at n nD
  have base : ∀ {H'}, Same H H' → Same H0 (Hid (D :: t) H') := fun {H'} s' => same_more (s.trans (hid_same s')) nD0
  refine r_lcS (seq_tup (pair_id xs)) (fun d H' => (∀ b, b ≠ D → ∀ o, H b = some o → H' b = some o) ∧ ∃ acc, H' D = some (.lst acc) ∧ Vals' K (Hid (D :: t) H') (W * d.length) k d.length acc)
    ⟨fun b nb o eb => by rw [upd_ne nb]; exact eb, [], upd_same, ⟨[], .nil, fun _ z => (nomatch z), by rw [PyData.shownAll_nil]; exact Nat.zero_le _, Nat.le_refl _⟩⟩ (fun d H' c => sqt (c.1 _ (fun z => by rw [z, nD0] at h; cases h) _ (hid_le _ _ (s _ _ h)))) ?_ ?_
  · rintro d p r v H' ed rfl ⟨c1, acc, c2, c3⟩
    refine r_gname ⟨hw v, r_yes ?_⟩
    have s1 : Same H H' := fun b o eb => c1 b (ne_of_none eb nD) o eb
    have n1 : Seen (D :: t) H' := fun x hx => by
      rcases List.mem_cons.mp hx with rfl | hx
      · rw [c2]; simp
      · exact n.mono s1 x hx
    show (if true = true then _ else _)
    rw [if_pos rfl]
    refine he v (by rw [ed]; simp) D H' _ (base s1) n1 fun y H2 s2 hy => ?_
    have hl : d.length < xs.length := by rw [ed, List.length_append, List.length_cons]; omega
    have hacc := c3.len
    refine ⟨acc, s2 _ _ c2, szs (by omega), fun b nb o eb => by rw [upd_ne nb]; exact s2 _ _ (c1 b nb o eb), acc ++ [y], upd_same, ?_⟩
    rw [hid_upd List.mem_cons_self, List.length_append, List.length_singleton, Nat.mul_add]
    exact (vals_app (c3.mono (hid_same s2)) (vals_one hy)).le (by omega) (by omega) (Nat.le_refl _)
  · rintro H' ⟨c1, acc, c2, c3⟩
    have s1 : Same H H' := fun b o eb => c1 b (ne_of_none eb nD) o eb
    exact q _ _ s1 ⟨D, acc, rfl, hid_get c2 nDt, (c3.mono hid_more).le (Nat.mul_le_mul_left _ hm) (Nat.le_refl _) hm⟩
theorem evV_truth {i : Int} {b : Nat} (e : σ[b]? = some (some (.int i))) (hi : i.natAbs < 10 ^ 40) : EvV K t σ H0 (tIf (tTest (tOp rEq (tVar b) (tC (.int 1)))) (tOp rEq (tVar b) (tC (.int 1))) (tVar b)) 42 1 := fun H Q s n q => by
  have ev : ∀ {Q' : VK}, Q' (.bl (decide (i = 1))) H → tOp rEq (tVar b) (tC (.int 1)) σ H Q' := fun {Q'} h => ⟨_, e, r_eqI h⟩
  refine r_if (r_test (ev ⟨_, rfl, ?_⟩))
  by_cases c : i = 1
  · refine ifD c (ev ?_)
    exact q _ _ (Same.refl _) (val_bl.le (by decide) (by decide))
  · refine ifDn c ⟨_, e, ?_⟩
    exact q _ _ (Same.refl _) (val_int hi)
theorem ev_truths {la : Addr} {xs : List V} {M : List (Int × Int)} (e : σ[0]? = some (some (.ref la))) (h : H0 la = some (.lst xs)) (hP : Prs H0 xs M) (hb : ∀ p ∈ M, p.1.natAbs < 10 ^ 40 ∧ p.2.natAbs < 10 ^ 40) (hm : M.length ≤ m) (hz : m < 100000)
    (hw : ∀ x, wipe ((wipe σ [1]).set 1 (some x)) [1] = wipe σ [1]) (h1 : ∀ x : V, ((wipe σ [1]).set 1 (some x))[1]? = some (some x)) (hw2 : ∀ x y : V, wipe ((wipe ((wipe σ [1]).set 1 (some x)) [2]).set 2 (some y)) [2] = wipe ((wipe σ [1]).set 1 (some x)) [2]) (h2 : ∀ x y : V, ((wipe ((wipe σ [1]).set 1 (some x)) [2]).set 2 (some y))[2]? = some (some y)) :
    EvL K t σ H0 (tLc (iList K (tVar 0)) (gName 1) tYes (tCB (rTupOf K) (tCons (tLc (iTup K (tVar 1)) (gName 2) tYes (tIf (tTest (tOp rEq (tVar 2) (tC (.int 1)))) (tOp rEq (tVar 2) (tC (.int 1))) (tVar 2)) [2]) tNil)) [1]) (91 * m) 2 m := by
  refine evL_lc (W := 91) (k := 2) e h (by rw [pair_len hP]; exact hm) hz hw fun x hx D => ?_
  obtain ⟨p, hp, u, rfl, hu⟩ := hP.mem hx
  refine evV_tupOf (W := 42 * 2) (k := 1) (m := 2) (evL_lcT (xs := [.int p.1, .int p.2]) (h1 _) hu (Nat.le_refl 2) (by decide) (hw2 _) fun y hy D2 => ?_)
  obtain ⟨b1, b2⟩ := hb p hp
  rcases List.mem_cons.mp hy with rfl | hy
  · exact evV_truth (h2 _ _) b1
  · rw [List.mem_singleton.mp hy]
    exact evV_truth (h2 _ _) b2
end
end Vf
namespace Vf
open PySem PySem.Spec PyProof.Rows L2
/-! ### lists of pairs that a law makes up -/
def Bd (M : List (Int × Int)) : Prop := ∀ p ∈ M, p.1.natAbs < 10 ^ 40 ∧ p.2.natAbs < 10 ^ 40
def LsP (H : Hp) (m : Nat) (v : V) : Prop := ∃ a xs M, v = .ref a ∧ H a = some (.lst xs) ∧ Prs H xs M ∧ Bd M ∧ M.length ≤ m
def EvP (t : List Addr) (σ : L2.St) (H0 : Hp) (te : TE) (m : Nat) : Prop := ∀ H Q, Same H0 (Hid t H) → Seen t H → (∀ v H', Same H H' → LsP (Hid t H') m v → Q v H') → te σ H Q
section
variable {K : PySem.W.Frag} {t : List Addr} {σ : L2.St} {H0 H H' : Hp} {te ta tb : TE} {ts : TA} {tl th : TO} {m m' a : Nat} {v : V}
theorem LsP.mono (s : Same H H') (h : LsP H m v) : LsP H' m v := let ⟨a, xs, M, e, h1, h2, h3⟩ := h; ⟨a, xs, M, e, s _ _ h1, h2.mono s, h3⟩
theorem LsP.le (h : LsP H m v) (hm : m ≤ m') : LsP H m' v := let ⟨a, xs, M, e, h1, h2, h3, h4⟩ := h; ⟨a, xs, M, e, h1, h2, h3, Nat.le_trans h4 hm⟩
theorem LsP.lsV (h : LsP H m v) : LsV K H (91 * m) 2 m v := by
  obtain ⟨a, xs, M, rfl, h1, h2, h3, h4⟩ := h
  exact ⟨a, xs, rfl, h1, (vals_prs h2 h3).le (Nat.mul_le_mul_left _ h4) (Nat.le_refl _) h4⟩
theorem pair_sub {α β : Type} {F : α → β → Prop} {xs ys : List α} {M : List β} (h : Paired F xs M) (s : ys.Sublist xs) : ∃ N, N.Sublist M ∧ Paired F ys N := by
  induction s generalizing M with
  | slnil => cases h; exact ⟨[], .slnil, .nil⟩
  | cons x _ ih =>
    cases h with
    | cons r t =>
      obtain ⟨N, h1, h2⟩ := ih t
      exact ⟨N, .cons _ h1, h2⟩
  | cons_cons x _ ih =>
    cases h with
    | cons r t =>
      obtain ⟨N, h1, h2⟩ := ih t
      exact ⟨_, .cons_cons _ h1, .cons r h2⟩
theorem evP_var (e : σ[a]? = some (some v)) (h : LsP H0 m v) : EvP t σ H0 (tVar a) m := fun H Q s _ q => ⟨_, e, q _ _ (Same.refl _) (h.mono s)⟩
theorem evP_sl (h : EvP t σ H0 te m) (hl : EvO t σ H0 tl) (hh : EvO t σ H0 th) : EvP t σ H0 (tSl (rSlL K) te tl th) m := fun H Q s n q =>
  h H _ s n fun v H1 s1 hv => hl H1 _ (s.trans (hid_same s1)) fun lo => hh H1 _ (s.trans (hid_same s1)) fun hi => by
    obtain ⟨a, xs, M, rfl, e, hx, hb, hm⟩ := hv
    obtain ⟨N, n1, n2⟩ := pair_sub hx (cut_sub xs lo hi)
    exact ⟨a, xs, rfl, sql (hid_le _ _ e), fun p np => q _ _ (s1.trans (same_new np)) ⟨p, _, N, rfl, hid_new (n.mono s1) np, Prs.mono (hid_same (same_new np)) n2, fun r hr => hb r (n1.subset hr), Nat.le_trans n1.length_le hm⟩⟩
theorem evP_cat (ha : EvP t σ H0 ta m) (hb : EvP t σ H0 tb m') (hm : m + m' ≤ 100000) : EvP t σ H0 (tOp (rCatS K) ta tb) (m + m') := fun H Q s n q =>
  ha H _ s n fun v H1 s1 hv => hb H1 _ (s.trans (hid_same s1)) (n.mono s1) fun u H2 s2 hu => by
    obtain ⟨a, xs, M, rfl, e1, h1, b1, l1⟩ := hv.mono (hid_same s2)
    obtain ⟨b, ys, N, rfl, e2, h2, b2, l2⟩ := hu
    have := pair_len h1
    have := pair_len h2
    exact ⟨a, b, xs, ys, rfl, rfl, sql (hid_le _ _ e1), sql (hid_le _ _ e2), szl (by omega), fun p np => q _ _ (s1.trans (s2.trans (same_new np))) ⟨p, _, M ++ N, rfl, hid_new ((n.mono s1).mono s2) np, Prs.mono (hid_same (same_new np)) (pair_app h1 h2), fun r hr => (List.mem_append.mp hr).elim (b1 r) (b2 r), by rw [List.length_append]; omega⟩⟩
theorem evL_P (h : EvP t σ H0 te m) : EvL K t σ H0 te (91 * m) 2 m := fun H Q s n q => h H Q s n fun v H1 s1 hv => q _ _ s1 hv.lsV
theorem EvP.go (h : EvP t σ H0 te m) {Q : VK} (s : Same H0 (Hid t H)) (n : Seen t H) (q : ∀ v H', Same H H' → LsP (Hid t H') m v → Q v H') : te σ H Q := h H Q s n q
/-- a list display of pairs by a call that gives a new pair -/
def EvPr (t : List Addr) (σ : L2.St) (H0 : Hp) (te : TE) (p : Int × Int) : Prop := ∀ H Q, Same H0 (Hid t H) → Seen t H → (∀ v H', Same H H' → Pr (Hid t H') v p → Q v H') → te σ H Q
theorem evPr_V {p : Int × Int} (h : EvPr t σ H0 te p) (b : p.1.natAbs < 10 ^ 40 ∧ p.2.natAbs < 10 ^ 40) : EvV K t σ H0 te 91 2 := fun H Q s n q => h H Q s n fun v H1 s1 hv => q _ _ s1 (val_pr hv b)
end
end Vf
namespace Vf
open PySem PySem.Spec PyProof.Rows L2
/-- the scope of the comprehension that a def hands back at once -/
def retLc (s : Stmt) : Scope := match defBody s with
  | [.Return (some (.ListComp _ _ sc _)) _] => sc
  | _ => defScope s
end Vf
namespace Vf
open PySem PySem.Spec PyProof.Rows L2
theorem piTK {X : Cx} {K : PySem.W.Frag} {tg l : Expr} {tl : TE} (hl : PE X l tl) (hK : X.K = K := by rfl) : PI X tg l (iTup K tl) := by subst hK; exact pi_tup hl
theorem piLK {X : Cx} {K : PySem.W.Frag} {tg l : Expr} {tl : TE} (hl : PE X l tl) (hK : X.K = K := by rfl) : PI X tg l (iList K tl) := by subst hK; exact pi_list hl
end Vf

namespace Vf
open PySem PySem.Spec PyProof.Rows L2

/-! ### types by `is`, several targets, count -/
theorem op_tyIs {X : Cx} : OpR X (compareOp .Is) (rTyC false) := by
  rintro pins s σ H _ _ v u Q I rx ry ⟨m, n, rfl, rfl, hm, hn, q⟩
  cases rx
  cases ry
  refine PySem.wpAny_is_plain (a := Value.type m) (b := Value.type n) rfl ⟨.bl (decide (m = n)), H, I, ?_, by simpa using q⟩
  show Value.bool _ = Value.bool _
  congr 1
  by_cases e : m = n
  · subst e; simp
  · rw [decide_eq_false e, Bool.eq_false_iff]
    intro z
    exact e (Value.type.inj (beq_iff_eq.mp z))
theorem op_tyIsN {X : Cx} : OpR X (compareOp .IsNot) (rTyC true) := by
  rintro pins s σ H _ _ v u Q I rx ry ⟨m, n, rfl, rfl, hm, hn, q⟩
  cases rx
  cases ry
  refine PySem.wpAny_isNot_plain (a := Value.type m) (b := Value.type n) rfl ⟨.bl (!decide (m = n)), H, I, ?_, by simpa using q⟩
  show Value.bool _ = Value.bool _
  congr 1
  by_cases e : m = n
  · subst e; simp
  · rw [decide_eq_false e]
    have : (Value.type m == Value.type n) = false := by
      rw [Bool.eq_false_iff]
      intro z
      exact e (Value.type.inj (beq_iff_eq.mp z))
    rw [this]
section
variable {K : PySem.W.Frag} {σ : L2.St} {H : Hp} {Q : VK} {nx bk ct : L2.St → Hp → Prop} {rt : VK} {te : TE} {g1 g2 : TG}
theorem r_asg2 (h : te σ H fun x H1 => g1 x σ H1 fun σ1 H2 => g2 x σ1 H2 nx) : tAsg2 te g1 g2 ⟨nx, rt, bk, ct⟩ σ H := h
theorem lcountK {X : Cx} (hK : X.K = K := by rfl) : MtR X "list.count" (rCntI K) := by subst hK; exact mt_lcount
theorem r_cnt {p : Addr} {ns : List Int} {k : Int} (hs : SqL K H p (ns.map V.int)) (q : Q (.int (ns.count k : Nat)) H) : rCntI K (.ref p) [.int k] H Q := ⟨p, ns, k, rfl, rfl, hs, q⟩
end

theorem dta_ints {K : PySem.W.Frag} {H : Hp} : ∀ ns : List Int, DtAll K H (ns.map V.int) (ns.map PyData.int)
  | [] => .nil
  | n :: ns => .cons (.int n) (dta_ints ns)
/-! ### how many are open -/
theorem atI_pos {α : Type} {xs : List α} {j : Nat} (h : j < xs.length) : atI xs (j : Int) = xs[j]? := by
  unfold atI ixN
  rw [if_pos (by omega), if_pos (by omega)]
  rfl
theorem atI_neg {α : Type} {xs : List α} {j : Nat} (h : j < xs.length) : atI xs ((j : Int) - xs.length) = xs[j]? := by
  unfold atI ixN
  rw [if_neg (by omega), if_pos (by omega)]
  show xs[((j : Int) - xs.length + xs.length).toNat]? = _
  congr 1
  omega
theorem IsF.eq {n : Int} {f : Int → Int} {ts : List Int} (h : IsF n f ts) : ts = (rng 0 (n.toNat + 1)).map f ++ (rng (-n) n.toNat).map f := by
  have n0 := h.n0
  have hl := h.len
  refine List.ext_getElem? fun j => ?_
  by_cases c : j < ts.length
  · by_cases c1 : j < n.toNat + 1
    · have g := h.get j (by omega) (by omega)
      rw [atI_pos c] at g
      rw [g, List.getElem?_append_left (by rw [List.length_map, rng_len]; exact c1), List.getElem?_map]
      unfold rng
      rw [List.getElem?_map, List.getElem?_range c1]
      show _ = some (f (0 + (j : Int)))
      rw [Int.zero_add]
    · have g := h.get ((j : Int) - ts.length) (by omega) (by omega)
      rw [atI_neg c] at g
      rw [g, List.getElem?_append_right (by rw [List.length_map, rng_len]; omega), List.length_map, rng_len, List.getElem?_map]
      unfold rng
      rw [List.getElem?_map, List.getElem?_range (by omega)]
      show _ = some (f (-n + ((j - (n.toNat + 1) : Nat) : Int)))
      congr 2
      omega
  · rw [List.getElem?_eq_none (by omega), List.getElem?_eq_none (by rw [List.length_append, List.length_map, List.length_map, rng_len, rng_len]; omega)]
theorem rng_app (lo : Int) (a b : Nat) : rng lo (a + b) = rng lo a ++ rng (lo + a) b := by
  refine List.ext_getElem? fun j => ?_
  unfold rng
  rw [List.getElem?_map]
  by_cases c : j < a
  · rw [List.getElem?_append_left (by simpa using c), List.getElem?_map, List.getElem?_range (by omega), List.getElem?_range c]
  · rw [List.getElem?_append_right (by simpa using c), List.length_map, List.length_range, List.getElem?_map]
    by_cases c2 : j < a + b
    · rw [List.getElem?_range c2, List.getElem?_range (by omega)]
      show some (lo + (j : Int)) = some (lo + (a : Int) + ((j - a : Nat) : Int))
      congr 1
      omega
    · rw [List.getElem?_eq_none (by simp; omega), List.getElem?_eq_none (by simp; omega)]
      rfl
theorem IsF.count {n : Int} {f : Int → Int} {ts : List Int} (h : IsF n f ts) (k : Int) : ts.count k = ((rng (-n) (2 * n + 1).toNat).filter fun e => decide (f e = k)).length := by
  have n0 := h.n0
  have e0 : rng (-n) (2 * n + 1).toNat = rng (-n) n.toNat ++ rng 0 (n.toNat + 1) := by
    rw [show (2 * n + 1).toNat = n.toNat + (n.toNat + 1) by omega, rng_app (-n) n.toNat (n.toNat + 1), show -n + (n.toNat : Int) = 0 by omega]
  rw [h.eq, List.count_append, e0, List.filter_append, List.length_append, Nat.add_comm]
  have e : ∀ l : List Int, (l.map f).count k = (l.filter fun e => decide (f e = k)).length := fun l => by
    rw [List.count_eq_countP, List.countP_map, ← List.countP_eq_length_filter]
    rfl
  rw [e, e]
theorem ptb_zero {n : Int} {L : List (Int × Int)} (hL : Lay n L) (e : Int) : ptb L e = 0 ↔ e ≠ 0 ∧ e ∉ flat L := by
  unfold ptb
  by_cases z : e = 0
  · rw [if_pos z]; simp [z]
  · rw [if_neg z, ← parI_none]
    cases hp : parI L e with
    | none => simp [z]
    | some x =>
      have := par_mem hL hp
      simp [this.2.2]
theorem perm_of_nd {l m : List Int} (h1 : l.Nodup) (h2 : m.Nodup) (h : ∀ x, x ∈ l ↔ x ∈ m) : l.length = m.length :=
  Nat.le_antisymm (nodup_sub h1 fun x hx => (h x).mp hx) (nodup_sub h2 fun x hx => (h x).mpr hx)
theorem len_split {α : Type} (p : α → Bool) : ∀ l : List α, (l.filter p).length + (l.filter fun e => !p e).length = l.length
  | [] => rfl
  | a :: l => by
    have := len_split p l
    cases h : p a
    · rw [List.filter_cons_of_neg (by rw [h]; exact Bool.false_ne_true), List.filter_cons_of_pos (by rw [h]; rfl), List.length_cons, List.length_cons]
      omega
    · rw [List.filter_cons_of_pos h, List.filter_cons_of_neg (by rw [h]; exact Bool.false_ne_true), List.length_cons, List.length_cons]
      omega
theorem lay_count {n : Int} {L : List (Int × Int)} {ts : List Int} (hL : Lay n L) (hF : IsF n (ptb L) ts) : ((ts.length : Int) - (ts.count 0 : Nat)).fdiv 2 = (L.length : Nat) ∧ ts.count 0 = 2 * n.toNat - 2 * L.length ∧ L.length ≤ n.toNat := by
  have n0 := hF.n0
  have hl := hF.len
  have hc := hF.count 0
  have nd : (0 :: flat L).Nodup := List.nodup_cons.mpr ⟨fun z => by
    obtain ⟨p, hp, q⟩ := mem_flat.mp z
    have := hL.cp p hp
    omega, hL.nd⟩
  have h1 : ((rng (-n) (2 * n + 1).toNat).filter fun e => !decide (ptb L e = 0)).length = (0 :: flat L).length := by
    refine perm_of_nd ((rng_asc _ _).filter _ |>.imp fun h => by omega) nd fun x => ?_
    rw [List.mem_filter, mem_rng, List.mem_cons]
    simp only [Bool.not_eq_eq_eq_not, Bool.not_true, decide_eq_false_iff_not, ptb_zero hL]
    constructor
    · rintro ⟨_, h⟩
      by_cases z : x = 0
      · exact .inl z
      · exact .inr (Decidable.byContradiction fun c => h ⟨z, c⟩)
    · rintro (rfl | h)
      · exact ⟨by omega, fun z => z.1 rfl⟩
      · obtain ⟨p, hp, q⟩ := mem_flat.mp h
        have := hL.cp p hp
        exact ⟨by omega, fun z => z.2 h⟩
  have h2 : ((rng (-n) (2 * n + 1).toNat).filter fun e => decide (ptb L e = 0)).length + ((rng (-n) (2 * n + 1).toNat).filter fun e => !decide (ptb L e = 0)).length = (2 * n + 1).toNat := by
    have := len_split (fun e => decide (ptb L e = 0)) (rng (-n) (2 * n + 1).toNat)
    rw [rng_len] at this
    exact this
  rw [h1, ← hc, List.length_cons, flat_len] at h2
  refine ⟨?_, by omega, by omega⟩
  rw [show (ts.length : Int) - (ts.count 0 : Nat) = 2 * (L.length : Nat) + 1 by omega, Int.fdiv_eq_ediv_of_nonneg _ (by decide)]
  omega
end Vf

namespace Vf
open PySem PySem.Spec PyProof.Rows L2

/-! ### x is True -/
def rIsB (neg : Bool) : R2 := fun x y H Q => ∃ a b : Bool, x = .bl a ∧ y = .bl b ∧ Q (.bl (decide (a = b) != neg)) H
theorem op_isB {X : Cx} : OpR X (compareOp .Is) (rIsB false) := by
  rintro pins s σ H _ _ v u Q I rx ry ⟨a, b, rfl, rfl, q⟩
  cases rx; cases ry
  refine PySem.wpAny_is_plain (a := Value.bool a) (b := Value.bool b) rfl ⟨.bl (decide (a = b)), H, I, ?_, by simpa using q⟩
  cases a <;> cases b <;> rfl
theorem op_isNB {X : Cx} : OpR X (compareOp .IsNot) (rIsB true) := by
  rintro pins s σ H _ _ v u Q I rx ry ⟨a, b, rfl, rfl, q⟩
  cases rx; cases ry
  refine PySem.wpAny_isNot_plain (a := Value.bool a) (b := Value.bool b) rfl ⟨.bl (!decide (a = b)), H, I, ?_, by simpa using q⟩
  cases a <;> cases b <;> rfl
theorem r_isB {a b neg : Bool} {H : Hp} {Q : VK} (q : Q (.bl (decide (a = b) != neg)) H) : rIsB neg (.bl a) (.bl b) H Q := ⟨a, b, rfl, rfl, q⟩

/-! ### sets of pairs, sorted: some arrangement -/
section
variable {P : Program} {w : World} {A : Around} {E : Value → Shared → Prop} {s : Shared}
def prOf (k : List Int) : Int × Int := (k.getD 0 0, k.getD 1 0)
theorem isPair_of {h : Heap} {b : Addr} {k : List Int} (hk : k.length = 2) (x : IsT P w h k b) : Srt.IsPair h (.ref b) (prOf k).1 (prOf k).2 := by
  match k, hk with
  | [i, j], _ =>
    obtain ⟨o, items, n, ho, hc, hd, hi⟩ := x
    cases hz : items with
    | mk l =>
      rw [hz] at hi hd
      cases hi with
      | cons r1 t1 => cases t1 with
        | cons r2 t2 => cases t2 with
          | nil =>
            obtain ⟨t, rfl⟩ := Value.isInt_shape r1
            obtain ⟨u, rfl⟩ := Value.isInt_shape r2
            exact ⟨b, o, t, u, n, rfl, ho, hc, hd⟩
theorem sortSet2 {a : Addr} {L : List (Addr × List Int)} {es : Array (Int × Value)} {ep : Nat} {t : SetTable} {Q : Value → Shared → Prop} (R : SetTR P w s.heap a L es ep t) (hh : A.handled = none)
    (h2 : ∀ p ∈ L, p.2.length = 2)
    (hQ : ∀ s' p (out : List Value) (c : Nat), (∀ b o, s.heap.get? b = some o → s'.heap.get? b = some o) → s'.gens = s.gens → s'.os = s.os → s.heap.objs.size ≤ p →
      s'.heap.get? p = some (seqObj "list" out.toArray c) → out.Perm (L.map fun q => Value.ref q.1) → Q (.ref p) s') :
    wpAny (model P w) A (call (.builtin "sorted") [.ref a]) Q E s := by
  obtain ⟨o, ho, hex, hd⟩ := R.ob
  have hfew := R.few
  refine Calls.call_function_entry kind_sorted plain_sorted entry_sorted (args_sorted1 _) ?_
  unfold Builtin.«sorted»
  refine wpAny_bind (m := checkCount "sorted" 1 1 _) (wpAny_pure (wpAny_bind (collect_set (A := A.in1) hh ⟨o, ho, hex.1, hd⟩ R.fits (by have := R.size; unfold scanBound; omega) R.tab.ris R.led fun s1 vs k1 hz g1 o1 pm => ?_)))
  have hes : es.toList.map (·.2) = L.map fun q => Value.ref q.1 := by
    rw [R.rows, rowsOf, List.map_map]; rfl
  rw [hes] at pm
  have hvl : vs.length < 64 := by have := pm.length_eq; rw [List.length_map] at this; omega
  have hvz : vs.length ≤ sizeLine := szl (by omega)
  refine wpAny_bind (wpAny_newList ?_ hvz)
  have hoL : (s1.heap.push (seqObj "list" vs.toArray 0)).get? s1.heap.objs.size = some (seqObj "list" vs.toArray 0) := Heap.get?_push_size _ rfl
  have up : ∀ b u, s.heap.get? b = some u → (s1.heap.push (seqObj "list" vs.toArray 0)).get? b = some u := fun b u e => Heap.get?_push_of_some _ (k1 b u e)
  -- which pair a value is
  have hk : ∃ k : Value → Int × Int, ∀ v ∈ vs, Srt.IsPair (s1.heap.push (seqObj "list" vs.toArray 0)) v (k v).1 (k v).2 := by
    refine ⟨fun v => (L.find? fun q => v == Value.ref q.1).elim (0, 0) fun q => prOf q.2, fun v hv => ?_⟩
    obtain ⟨q, hq, e⟩ := List.mem_map.mp (pm.mem_iff.mp hv)
    cases hf : L.find? fun q => v == Value.ref q.1 with
    | none =>
      have := List.find?_eq_none.mp hf q hq
      rw [e] at this
      exact absurd (beq_self_eq_true v) this
    | some r =>
      have hr := List.mem_of_find?_eq_some hf
      have hv2 : v = Value.ref r.1 := by simpa using List.find?_some hf
      show Srt.IsPair _ v ((L.find? fun q => v == Value.ref q.1).elim (0, 0) fun q => prOf q.2).1 ((L.find? fun q => v == Value.ref q.1).elim (0, 0) fun q => prOf q.2).2
      rw [hf, hv2]
      exact isPair_of (P := P) (w := w) (h2 r hr) (isT_keep (R.tup r hr) up)
  obtain ⟨k, hp⟩ := hk
  refine wpAny_bind (wpAny_holding (wpAny_call_entry slot_list_sort ⟨_, hoL, rfl⟩ entry_list_sort (SrtO.list_sort_ord (SrtO.swo_lex k) hoL hvz (fun hn => SrtO.pairs_sortableO (by omega) hp fun u e c => ?_) fun out hs hb => ⟨_, rfl, ?_⟩) (args_list_sort _)))
  · have e' := e.symm.trans hoL
    cases e'
    exact absurd (Value.type.inj c) (by decide)
  · obtain ⟨c, hc⟩ := sortedHeap_at (vs := vs) (out := out.toArray) hoL
    refine wpAny_pure ⟨_, rfl, hQ _ s1.heap.objs.size out c (fun b u e => ?_) g1 o1 hz hc (hb.perm.trans pm)⟩
    have hlt := Heap.lt_size (k1 b u e)
    have e2 : (sortedHeap (s1.heap.push (seqObj "list" vs.toArray 0)) s1.heap.objs.size vs out.toArray).get? b = (s1.heap.push (seqObj "list" vs.toArray 0)).get? b := sortedHeap_old (Nat.ne_of_lt hlt) (by rw [size_push']; exact Nat.lt_succ_of_lt hlt)
    exact e2.trans (up b u e)
end
def rSrtU (P : Program) (w : World) (K : PySem.W.Frag) : List V → Hp → VK → Prop := fun vs H Q => ∃ (a : Addr) (L : List (Addr × List Int)), vs = [V.ref a] ∧ H a = some (SetTO P w a L) ∧ (∀ p ∈ L, SqT K H p.1 (p.2.map V.int)) ∧ (∀ p ∈ L, p.2.length = 2) ∧
  ∀ (ys : List V) (p : Addr), (L.map (·.2)).Nodup → ys.Perm (L.map fun q => V.ref q.1) → H p = none → Q (.ref p) (upd H p (.lst ys))
section
variable {X : Cx} {P : Program} {w : World} {K : PySem.W.Frag}
theorem srtU (hc : X.calm = true) : CallR X (.builtin "sorted") (rSrtU X.prog X.w X.K) := by
  intro pins s σ H vs us Q I r h
  obtain ⟨a, L, rfl, ha, hk, h2, q⟩ := h
  have R0 : SetT0 X.prog X.w s.heap a L := (I.hok a _ ha).1
  obtain ⟨es, ep, t, R⟩ := R0.full fun p hp => I.isT (hk p hp)
  rw [Vals.ref1 r]
  refine sortSet2 R (I.ok.hd hc) h2 fun s' p out c k g o hp hg pm => ?_
  have back : ∀ {us : List Value}, (∀ u ∈ us, ∃ b, u = Value.ref b) → Vals (us.map backV) us ∧ True := fun {us} => by
    induction us with
    | nil => exact fun _ => ⟨.nil, trivial⟩
    | cons u us ih =>
      intro hh
      obtain ⟨b, rfl⟩ := hh _ List.mem_cons_self
      exact ⟨.cons rfl (ih fun v hv => hh v (List.mem_cons_of_mem _ hv)).1, trivial⟩
  have hout : ∀ u ∈ out, ∃ b, u = Value.ref b := fun u hu => by
    obtain ⟨q, _, e⟩ := List.mem_map.mp (pm.mem_iff.mp hu)
    exact ⟨q.1, e.symm⟩
  have pm2 : (out.map backV).Perm (L.map fun q => V.ref q.1) := by
    have := pm.map backV
    rw [List.map_map] at this
    exact this
  have hlen : (out.map backV).length ≤ sizeLine := by rw [pm2.length_eq, List.length_map]; exact szl (by have := R.few; omega)
  have hn : H p = none := I.hok.fresh hp
  have J : Inv X pins σ (upd H p (.lst (out.map backV))) { s with heap := s'.heap, gens := s'.gens, drawn := s'.drawn, toks := s'.toks } :=
    I.call (ch := []) (Un.laid k hp hn) (I.hok.laid k hp ⟨hlen, out, c, (back hout).1, hg⟩) (by rw [g]; exact I.bare) (fun _ z => nomatch z)
  have e : s' = { s with heap := s'.heap, gens := s'.gens, drawn := s'.drawn, toks := s'.toks } := by
    cases s'; cases s; cases o; rfl
  rw [e]
  exact ⟨.ref p, _, J, rfl, q _ p R.nd pm2 hn⟩
theorem srtUK (hc : X.calm = true) (hP : X.prog = P := by rfl) (hw : X.w = w := by rfl) (hK : X.K = K := by rfl) : CallR X (.builtin "sorted") (rSrtU P w K) := by subst hP hw hK; exact srtU hc
theorem setTK (hc : X.calm = true) (hu : X.A.units + 64 < cLine) (hP : X.prog = P := by rfl) (hw : X.w = w := by rfl) (hK : X.K = K := by rfl) : CallR X (.type "set") (rSetOfT K P w) := by subst hP hw hK; exact cr_setOfT hc hu
end
end Vf

namespace Vf
open PySem PySem.Spec PyProof.Rows L2

/-! ### comprehensions of a menu, over any list that is made on the way -/
section
variable {K : PySem.W.Frag} {P : Program} {w : World} {t : List Addr} {σ : L2.St} {H0 H H' : Hp} {te te0 ta tb tc td : TE} {tl th : TO} {W k m m' a ix : Nat} {v : V} {vs : List Nat}
def EvS {α : Type} (F : Hp → V → α → Prop) (B : α → Prop) (t : List Addr) (σ : L2.St) (H0 : Hp) (te : TE) (m : Nat) : Prop := ∀ (H : Hp) (Q : VK), Same H0 (Hid t H) → Seen t H →
  (∀ a xs L H', Same H H' → Hid t H' a = some (.lst xs) → Paired (F (Hid t H')) xs L → (∀ p ∈ L, B p) → L.length ≤ m → Q (.ref a) H') → te σ H Q
def EvB {α : Type} (F : Hp → V → α → Prop) (B : α → Prop) (K : PySem.W.Frag) (t : List Addr) (g : TG) (σ : L2.St) (vs : List Nat) (H0 : Hp) (te : TE) (W k : Nat) : Prop := ∀ H1 x p D, Same H0 H1 → F H1 x p → B p → ∀ (H : Hp) (Q : VK), Same H1 (Hid (D :: t) H) → Seen (D :: t) H →
  (∀ y H', Same H H' → Val K (Hid (D :: t) H') W k y → Q y H') → g x (wipe σ vs) H fun τ G => wipe τ vs = wipe σ vs ∧ te τ G Q
theorem evL_lcG {α : Type} {F : Hp → V → α → Prop} {B : α → Prop} {g : TG} (mono : ∀ {G G' : Hp} {x p}, Same G G' → F G x p → F G' x p) (hs : EvS F B t σ H0 te0 m) (hz : m < 100000) (he : EvB F B K t g σ vs H0 te W k) :
    EvL K t σ H0 (tLc (iList K te0) g tYes te vs) (W * m) k m := fun H Q s n q => by
  refine hs H _ s n fun la xs L H1 s1 h hP hB hm => ⟨la, rfl, ⟨xs, sql (hid_le _ _ h)⟩, fun D nD => ?_⟩
  have n1 := n.mono s1
  have nDt := hid_at n1 nD
  have nD0 : Hid t H1 D = none := by unfold Hid; rw [if_neg nDt]; exact nD
  have s01 := s.trans (hid_same s1)
  have base : ∀ {H'}, Same H1 H' → Same (Hid t H1) (Hid (D :: t) H') := fun {H'} s' => same_more (hid_same s') nD0
  have hl := pair_len hP
  refine r_lcS (seq_list (pair_id xs)) (fun d H' => (∀ b, b ≠ D → ∀ o, H1 b = some o → H' b = some o) ∧ ∃ acc, H' D = some (.lst acc) ∧ Vals' K (Hid (D :: t) H') (W * d.length) k d.length acc)
    ⟨fun b nb o eb => by rw [upd_ne nb]; exact eb, [], upd_same, ⟨[], .nil, fun _ z => (nomatch z), by rw [PyData.shownAll_nil]; exact Nat.zero_le _, Nat.le_refl _⟩⟩ (fun d H' c => sql (c.1 _ (fun z => by rw [z, nD0] at h; cases h) _ (hid_le _ _ h))) ?_ ?_
  · rintro d p r v H' ed rfl ⟨c1, acc, c2, c3⟩
    obtain ⟨i, hi⟩ := List.getElem?_of_mem (show v ∈ xs by rw [ed]; simp)
    obtain ⟨q0, hq0, hF⟩ := pair_get hP hi
    have s1' : Same H1 H' := fun b o eb => c1 b (ne_of_none eb nD) o eb
    have n1' : Seen (D :: t) H' := fun x hx => by
      rcases List.mem_cons.mp hx with rfl | hx
      · rw [c2]; simp
      · exact n1.mono s1' x hx
    have hlt : d.length < xs.length := by rw [ed, List.length_append, List.length_cons]; omega
    have key := he (Hid t H1) v q0 D s01 hF (hB q0 (List.mem_of_getElem? hq0)) H' (fun y H2 => ∃ acc, H2 D = some (.lst acc) ∧ acc.length < sizeLine ∧ (fun H' => (∀ b, b ≠ D → ∀ o, H1 b = some o → H' b = some o) ∧ ∃ acc, H' D = some (.lst acc) ∧ Vals' K (Hid (D :: t) H') (W * (d ++ [v]).length) k (d ++ [v]).length acc) (upd H2 D (.lst (acc ++ [y])))) (base s1') n1' fun y H2 s2 hy => by
        have hacc := c3.len
        refine ⟨acc, s2 _ _ c2, szs (by omega), fun b nb o eb => by rw [upd_ne nb]; exact s2 _ _ (c1 b nb o eb), acc ++ [y], upd_same, ?_⟩
        rw [hid_upd List.mem_cons_self, List.length_append, List.length_singleton, Nat.mul_add]
        exact (vals_app (c3.mono (hid_same s2)) (vals_one hy)).le (by omega) (by omega) (Nat.le_refl _)
    exact key
  · rintro H' ⟨c1, acc, c2, c3⟩
    have s1' : Same H1 H' := fun b o eb => c1 b (ne_of_none eb nD) o eb
    exact q _ _ (s1.trans s1') ⟨D, acc, rfl, hid_get c2 nDt, (c3.mono hid_more).le (Nat.mul_le_mul_left _ (by omega)) (Nat.le_refl _) (by omega)⟩
def Bd1 (p : Int × Int) : Prop := p.1.natAbs < 10 ^ 40 ∧ p.2.natAbs < 10 ^ 40
theorem evS_P (h : EvP t σ H0 te m) : EvS Pr Bd1 t σ H0 te m := fun H Q s n q => h H Q s n fun v H1 s1 hv => by
  obtain ⟨a, xs, M, rfl, e, hx, hb, hm⟩ := hv
  exact q a xs M H1 s1 e hx hb hm
theorem evB_pr (hw : ∀ x, wipe ((wipe σ vs).set ix (some x)) vs = wipe σ vs) (he : ∀ H1 u p D, Same H0 H1 → H1 u = some (.tup [.int p.1, .int p.2]) → Bd1 p → EvV K (D :: t) ((wipe σ vs).set ix (some (.ref u))) H1 te W k) : EvB Pr Bd1 K t (gName ix) σ vs H0 te W k :=
  fun H1 x p D s0 hF hB H Q s n q => by
    obtain ⟨u, rfl, hu⟩ := hF
    exact r_gname ⟨hw _, he H1 u p D s0 hu hB H Q s n q⟩
theorem prs_rev {G : Hp} {xs : List V} {M : List (Int × Int)} (h : Prs G xs M) : Prs G xs.reverse M.reverse := by
  induction h with
  | nil => exact .nil
  | cons r _ ih => rw [List.reverse_cons, List.reverse_cons]; exact pair_app ih (.cons r .nil)
theorem evB_two {i j : Nat} (hw : ∀ x y, wipe (((wipe σ vs).set i (some x)).set j (some y)) vs = wipe σ vs) (he : ∀ H1 p D, Same H0 H1 → Bd1 p → EvV K (D :: t) (((wipe σ vs).set i (some (.int p.1))).set j (some (.int p.2))) H1 te W k) :
    EvB Pr Bd1 K t (gTup K 2 (gCons (gName i) (gCons (gName j) gNil))) σ vs H0 te W k :=
  fun H1 x p D s0 hF hB H Q s n q => by
    obtain ⟨u, rfl, hu⟩ := hF
    exact r_gtup (sqt (hid_le _ _ (s _ _ hu))) rfl (r_gcons (r_gname (r_gcons (r_gname (r_gnil ⟨hw _ _, he H1 p D s0 hB H Q s n q⟩)))))
def Bi (i : Int) : Prop := i.natAbs < 1000
theorem evS_Isl {la : Addr} {ns : List Int} (e : σ[a]? = some (some (.ref la))) (h : H0 la = some (.lst (ns.map V.int))) (hb : ∀ i ∈ ns, Bi i) (hm : ns.length ≤ m) (hl : EvO t σ H0 tl) (hh : EvO t σ H0 th) : EvS (fun _ v (i : Int) => v = .int i) Bi t σ H0 (tSl (rSlL K) (tVar a) tl th) m := fun H Q s n q =>
  ⟨_, e, hl H _ s fun lo => hh H _ s fun hi => ⟨la, _, rfl, sql (hid_le _ _ (s _ _ h)), fun p np => by
    have c : cutV (ns.map V.int) lo hi = ((ns.drop (HT.sIx (ns.map V.int).length 0 lo)).take (HT.sIx (ns.map V.int).length (ns.map V.int).length hi - HT.sIx (ns.map V.int).length 0 lo)).map V.int := by
      unfold cutV
      rw [← List.map_drop, ← List.map_take]
    have sb : ((ns.drop (HT.sIx (ns.map V.int).length 0 lo)).take (HT.sIx (ns.map V.int).length (ns.map V.int).length hi - HT.sIx (ns.map V.int).length 0 lo)).Sublist ns := (List.take_sublist _ _).trans (List.drop_sublist _ _)
    rw [c]
    exact q p _ _ _ (same_new np) (hid_new n np) (pair_map fun _ _ => rfl) (fun i hi => hb i (sb.subset hi)) (Nat.le_trans sb.length_le hm)⟩⟩
theorem evB_i (hw : ∀ x, wipe ((wipe σ vs).set ix (some x)) vs = wipe σ vs) (he : ∀ H1 i D, Same H0 H1 → Bi i → EvV K (D :: t) ((wipe σ vs).set ix (some (.int i))) H1 te W k) : EvB (fun _ v (i : Int) => v = .int i) Bi K t (gName ix) σ vs H0 te W k :=
  fun H1 x p D s0 hF hB H Q s n q => by
    cases hF
    exact r_gname ⟨hw _, he H1 p D s0 hB H Q s n q⟩

/-! ### pairs, and lists of pairs -/
theorem evPr_var {p : Int × Int} (e : σ[a]? = some (some v)) (h : Pr H0 v p) : EvPr t σ H0 (tVar a) p := fun H Q s _ q => ⟨_, e, q _ _ (Same.refl _) (h.mono s)⟩
theorem evPr_ixL {la : Addr} {xs : List V} {i : Int} {p : Int × Int} (e : σ[a]? = some (some (.ref la))) (h : H0 la = some (.lst xs)) (hi : EvI t σ H0 ta i) (ha : atI xs i = some v) (hv : Pr H0 v p) : EvPr t σ H0 (tOp (rIxL K) (tVar a) ta) p := fun H Q s _ q =>
  ⟨_, e, hi H _ s ⟨la, xs, i, v, rfl, rfl, sql (hid_le _ _ (s _ _ h)), ha, q _ _ (Same.refl _) (hv.mono s)⟩⟩
theorem evP_one {p : Int × Int} (h : EvPr t σ H0 ta p) (b : Bd1 p) : EvP t σ H0 (tLst (tCons ta tNil)) 1 := fun H Q s n q => h H _ s n fun v H1 s1 hv =>
  ⟨szl (by show 1 ≤ 100000; decide), fun z nz => q _ _ (s1.trans (same_new nz)) ⟨z, [v], [p], rfl, hid_new (n.mono s1) nz, .cons (hv.mono (hid_same (same_new nz))) .nil, fun r hr => by rw [List.mem_singleton.mp hr]; exact b, Nat.le_refl _⟩⟩
theorem evP_two {p p' : Int × Int} (h : EvPr t σ H0 ta p) (h' : EvPr t σ H0 tb p') (b : Bd1 p) (b' : Bd1 p') : EvP t σ H0 (tLst (tCons ta (tCons tb tNil))) 2 := fun H Q s n q => h H _ s n fun v H1 s1 hv => h' H1 _ (s.trans (hid_same s1)) (n.mono s1) fun v' H2 s2 hv' =>
  ⟨szl (by show 2 ≤ 100000; decide), fun z nz => q _ _ (s1.trans (s2.trans (same_new nz))) ⟨z, [v, v'], [p, p'], rfl, hid_new ((n.mono s1).mono s2) nz, .cons (hv.mono (hid_same (s2.trans (same_new nz)))) (.cons (hv'.mono (hid_same (same_new nz))) .nil), fun r hr => by
    rcases List.mem_cons.mp hr with rfl | hr
    · exact b
    · rw [List.mem_singleton.mp hr]; exact b', Nat.le_refl _⟩⟩
theorem evP_sorted (h : EvP t σ H0 te m) : EvP t σ H0 (tCB (rSortedPO K) (tCons te tNil)) m := fun H Q s n q => h H _ s n fun v H1 s1 hv => by
  obtain ⟨a, xs, M, rfl, e, hx, hb, hm⟩ := hv
  refine ⟨a, xs, keyP (Hid t H1), rfl, sql (hid_le _ _ e), fun x hx' => ?_, fun ys p srt stb np => ?_⟩
  · obtain ⟨u, e1, e2⟩ := prs_all hx x hx'
    exact ⟨u, e1, hid_le _ _ e2⟩
  · have perm : (ys.map (keyP (Hid t H1))).Perm M := by
      rw [← prs_key hx]
      exact stb.perm.map _
    have pr : Prs (Hid t H1) ys (ys.map (keyP (Hid t H1))) := prs_of fun y hy => prs_all hx y (stb.perm.mem_iff.mp hy)
    exact q _ _ (s1.trans (same_new np)) ⟨p, ys, _, rfl, hid_new (n.mono s1) np, pr.mono (hid_same (same_new np)), fun r hr => hb r (perm.mem_iff.mp hr), by rw [perm.length_eq]; exact hm⟩
theorem prs_ks {G : Hp} {xs : List V} {M : List (Int × Int)} (h : Prs G xs M) : ∃ ks : List (Addr × List Int), xs = ks.map (fun p => V.ref p.1) ∧ M = ks.map (fun p => prOf p.2) ∧ ∀ p ∈ ks, G p.1 = some (.tup (p.2.map V.int)) ∧ p.2.length = 2 := by
  induction h with
  | nil => exact ⟨[], rfl, rfl, fun _ z => (nomatch z)⟩
  | @cons x p xs M r _ ih =>
    obtain ⟨ks, e1, e2, e3⟩ := ih
    obtain ⟨u, rfl, hu⟩ := r
    refine ⟨(u, [p.1, p.2]) :: ks, by rw [e1]; rfl, by rw [e2]; rfl, fun z hz => ?_⟩
    rcases List.mem_cons.mp hz with rfl | hz
    · exact ⟨hu, rfl⟩
    · exact e3 z hz
theorem evP_sset (h : EvP t σ H0 te m) (hm : m < 64) : EvP t σ H0 (tCB (rSrtU P w K) (tCons (tCB (rSetOfT K P w) (tCons te tNil)) tNil)) m := fun H Q s n q => h H _ s n fun v H1 s1 hv => by
  obtain ⟨a, xs, M, rfl, e, hx, hb, hl⟩ := hv
  obtain ⟨ks, rfl, rfl, hks⟩ := prs_ks hx
  rw [List.length_map] at hl
  refine ⟨a, ks, rfl, sql (hid_le _ _ e), fun p hp => sqt (hid_le _ _ (hks p hp).1), by omega, fun z L nz sub _ => ?_⟩
  have s2 := same_new (o := SetTO P w z L) nz
  have hz : upd H1 z (SetTO P w z L) z = some (SetTO P w z L) := upd_same
  have keep : ∀ p ∈ L, Hid t (upd H1 z (SetTO P w z L)) p.1 = some (.tup (p.2.map V.int)) := fun p hp => hid_same s2 _ _ (hks p (sub p hp)).1
  generalize upd H1 z (SetTO P w z L) = H2 at s2 hz keep ⊢
  refine ⟨z, L, rfl, hz, fun p hp => sqt (hid_le _ _ (keep p hp)), fun p hp => (hks p (sub p hp)).2, fun ys p nd pm np => ?_⟩
  have n2 := (n.mono s1).mono s2
  have s3 := same_new (o := .lst ys) np
  have all : ∀ y ∈ ys, ∃ u k, y = V.ref u ∧ (u, k) ∈ L := fun y hy => by
    obtain ⟨r, hr, e⟩ := List.mem_map.mp (pm.mem_iff.mp hy)
    exact ⟨r.1, r.2, e.symm, hr⟩
  have pr : ∀ y ∈ ys, Pr (Hid t H2) y (keyP (Hid t H2) y) ∧ Bd1 (keyP (Hid t H2) y) := fun y hy => by
    obtain ⟨u, k, rfl, hk⟩ := all y hy
    have h1 := keep _ hk
    have h2 := (hks _ (sub _ hk)).2
    match k, h2 with
    | [i, j], _ =>
      have pp : Pr (Hid t H2) (.ref u) (i, j) := ⟨u, rfl, h1⟩
      rw [keyP_of pp]
      exact ⟨pp, hb (i, j) (List.mem_map.mpr ⟨(u, [i, j]), sub _ hk, rfl⟩)⟩
  have hly : ys.length ≤ m := by
    have h1 := pm.length_eq
    have h2 := nodup_sub (m := ks.map (·.2)) nd fun x hx => by
      obtain ⟨r, hr, rfl⟩ := List.mem_map.mp hx
      exact List.mem_map.mpr ⟨r, sub r hr, rfl⟩
    rw [List.length_map] at h1 h2
    rw [List.length_map] at h2
    omega
  exact q _ _ (s1.trans (s2.trans s3)) ⟨p, ys, ys.map (keyP (Hid t H2)), rfl, hid_new n2 np, (prs_of fun y hy => (pr y hy).1).mono (hid_same s3), fun r hr => by
    obtain ⟨y, hy, rfl⟩ := List.mem_map.mp hr
    exact (pr y hy).2, by rw [List.length_map]; exact hly⟩
theorem evP_rev (h : EvP t σ H0 te m) : EvP t σ H0 (tRevL K te) m := fun H Q s n q => h H _ s n fun v H1 s1 hv => by
  obtain ⟨a, xs, M, rfl, e, hx, hb, hm⟩ := hv
  exact ⟨a, xs, rfl, sql (hid_le _ _ e), fun p np => q _ _ (s1.trans (same_new np)) ⟨p, _, M.reverse, rfl, hid_new (n.mono s1) np, Prs.mono (hid_same (same_new np)) (prs_rev hx), fun r hr => hb r (List.mem_reverse.mp hr), by rw [List.length_reverse]; exact hm⟩⟩
theorem evV_P (h : EvP t σ H0 te m) (hm : m ≤ 1000) : EvV K t σ H0 te (91 * m + 2 * m + 3) 3 := evV_L (evL_P h) (by omega)
theorem evI_ixT {u : Addr} {c i : Int} {ys : List V} (e : σ[a]? = some (some (.ref u))) (hu : H0 u = some (.tup ys)) (hi : EvI t σ H0 ta i) (hy : atI ys i = some (.int c)) : EvI t σ H0 (tOp (rIxT K) (tVar a) ta) c := fun H Q s q =>
  ⟨_, e, hi H _ s ⟨u, _, i, _, rfl, rfl, sqt (hid_le _ _ (s _ _ hu)), hy, q⟩⟩
theorem evI_ixI {la : Addr} {c i : Int} {ys : List V} (e : σ[a]? = some (some (.ref la))) (h : H0 la = some (.lst ys)) (hi : EvI t σ H0 ta i) (hy : atI ys i = some (.int c)) : EvI t σ H0 (tOp (rIxL K) (tVar a) ta) c := fun H Q s q =>
  ⟨_, e, hi H _ s ⟨la, _, i, _, rfl, rfl, sql (hid_le _ _ (s _ _ h)), hy, q⟩⟩
/-! a list display or a sum of lists is a new object -/
def EvN (K : PySem.W.Frag) (t : List Addr) (σ : L2.St) (H0 : Hp) (te : TE) (W k m : Nat) : Prop := ∀ (H : Hp) (Q : VK), Same H0 (Hid t H) → Seen t H → (∀ p xs H', Same H H' → H p = none → H' p = some (.lst xs) → Vals' K (Hid (p :: t) H') W k m xs → Q (.ref p) H') → te σ H Q
theorem hid_fresh {p : Addr} {o : HO} (np : H p = none) : Same (Hid t H) (Hid (p :: t) (upd H p o)) := fun b u e => by
  have h := hid_same (t := t) (same_new (o := o) np) b u e
  unfold Hid at h e ⊢
  split at e
  · cases e
  · rename_i c
    rw [if_neg c] at h
    rw [if_neg (fun z => (List.mem_cons.mp z).elim (fun z => by rw [z, np] at e; cases e) c)]
    exact h
theorem evN_lst {ts : TA} (h : EvA K t σ H0 ts W k m) (hm : m ≤ 100000) : EvN K t σ H0 (tLst ts) W k m := fun H Q s n q =>
  h H _ s n fun vs H1 s1 hvs => ⟨szl (Nat.le_trans hvs.len hm), fun p np => q p vs _ (s1.trans (same_new np)) (s1.free np) upd_same (hvs.mono (hid_fresh np))⟩
theorem evN_cat {W' k' : Nat} (ha : EvL K t σ H0 ta W k m) (hb : EvL K t σ H0 tb W' k' m') (hm : m + m' ≤ 100000) : EvN K t σ H0 (tOp (rCatS K) ta tb) (W + W') (max k k') (m + m') := fun H Q s n q =>
  ha H _ s n fun v H1 s1 hv => hb H1 _ (s.trans (hid_same s1)) (n.mono s1) fun u H2 s2 hu => by
    obtain ⟨a, xs, rfl, e1, h1⟩ := hv.mono (hid_same s2)
    obtain ⟨b, ys, rfl, e2, h2⟩ := hu
    have := h1.len
    have := h2.len
    exact ⟨a, b, xs, ys, rfl, rfl, sql (hid_le _ _ e1), sql (hid_le _ _ e2), szl (by omega), fun p np => q p _ _ (s1.trans (s2.trans (same_new np))) (s1.free (s2.free np)) upd_same ((vals_app h1 h2).mono (hid_fresh np))⟩
theorem EvN.use (W0 k0 m0 : Nat) (h : ∃ W k m, EvN K t σ H0 te W k m ∧ W ≤ W0 ∧ k ≤ k0 ∧ m ≤ m0) (s : Same H0 (Hid t H)) (n : Seen t H) {Q : VK} (q : ∀ p xs H', Same H H' → H p = none → H' p = some (.lst xs) → Vals' K (Hid (p :: t) H') W0 k0 m0 xs → Q (.ref p) H') : te σ H Q :=
  let ⟨_, _, _, e, h1, h2, h3⟩ := h; e H Q s n fun p xs H' s' np hp hv => q p xs H' s' np hp (hv.le h1 h2 h3)
theorem r_sortP2 {x y : V} {p q : Int × Int} {b : Addr} {Q : VK} (hs : SqL K H b [x, y]) (hx : Pr H x p) (hy : Pr H y q) (h : ∀ x' y' p' q' z, ([p', q'] : List (Int × Int)).Perm [p, q] → Pr H x' p' → Pr H y' q' → H z = none → Q (.ref z) (upd H z (.lst [x', y']))) : rSortedPO K [.ref b] H Q := by
  have hP : Prs H [x, y] [p, q] := .cons hx (.cons hy .nil)
  refine ⟨b, [x, y], keyP H, rfl, hs, fun x hx => prs_all hP x hx, fun ys z srt stb nz => ?_⟩
  have hl : ys.length = 2 := stb.perm.length_eq
  have perm : (ys.map (keyP H)).Perm [p, q] := by
    rw [← prs_key hP]
    exact stb.perm.map _
  have al : ∀ y ∈ ys, Pr H y (keyP H y) := fun y hy => prs_all hP y (stb.perm.mem_iff.mp hy)
  match ys, hl with
  | [x', y'], _ => exact h x' y' (keyP H x') (keyP H y') z perm (al x' (by simp)) (al y' (by simp)) nz
theorem endsL_card {n : Int} (h : 0 ≤ n) : (endsL n).length = 2 * n.toNat := by
  have h1 := len_split (fun e : Int => decide (e = 0)) (rng (-n) (n + 1 - -n).toNat)
  have h2 : ((rng (-n) (n + 1 - -n).toNat).filter fun e : Int => decide (e = 0)).length = ([0] : List Int).length := by
    refine perm_of_nd ((rng_asc _ _).filter _ |>.imp fun h => by omega) (by simp) fun x => ?_
    rw [List.mem_filter, mem_rng]
    simp only [decide_eq_true_eq, List.mem_singleton]
    omega
  rw [rng_len, h2] at h1
  unfold endsL
  have : ([0] : List Int).length = 1 := rfl
  omega
theorem cut2_len {xs : List V} {i : Int} (h : 0 ≤ i) : (cutV xs none (some i)).length ≤ i.toNat := by
  unfold cutV
  rw [List.length_take]
  unfold HT.sIx
  simp only
  split <;> omega
end
end Vf

namespace Vf
open PySem PySem.Spec PyProof.Rows L2

/-! ### sorted of data, any length -/
def rSortD (K : PySem.W.Frag) : List V → Hp → VK → Prop := fun vs H Q => ∃ (a : Addr) (xs : List V) (β : Type) (bs : List β) (enc : β → PyData) (F : V → β → Prop), vs = [.ref a] ∧ SqL K H a xs ∧ Paired F xs bs ∧ (∀ v b, F v b → Dp K H v (enc b)) ∧
  PySem.W.AllAlike (bs.map enc) ∧ PySem.W.Sortable (bs.map enc) ∧ (∀ b ∈ bs, (enc b).depth ≤ 20) ∧ bs.length ≤ sizeLine ∧
  ∀ ys p, Paired F ys (bs.mergeSort (PySem.W.dataLe false enc)) → H p = none → Q (.ref p) (upd H p (.lst ys))
theorem each_of_pair {α β : Type} {F : V → β → Prop} : ∀ {xs : List V} {us : List Value} {bs : List β}, Vals xs us → Paired F xs bs → PySem.W.EachIs (fun u b => ∃ x, RelV x u ∧ F x b) us bs
  | _, _, _, .nil, .nil => .nil
  | _, _, _, .cons r t, .cons f g => .cons ⟨_, r, f⟩ (each_of_pair (α := α) t g)
theorem pair_of_each {β : Type} {F : V → β → Prop} : ∀ {us : List Value} {bs : List β}, PySem.W.EachIs (fun u b => ∃ x, RelV x u ∧ F x b) us bs → ∃ xs, Vals xs us ∧ Paired F xs bs
  | _, _, .nil => ⟨[], .nil, .nil⟩
  | _, _, .cons ⟨x, r, f⟩ t => let ⟨xs, h1, h2⟩ := pair_of_each t; ⟨x :: xs, .cons r h1, .cons f h2⟩
theorem each_mono {α β : Type} {F G : α → β → Prop} (h : ∀ a b, F a b → G a b) : ∀ {us : List α} {bs : List β}, PySem.W.EachIs F us bs → PySem.W.EachIs G us bs
  | _, _, .nil => .nil
  | _, _, .cons r t => .cons (h _ _ r) (each_mono h t)
section
variable {X : Cx} {K : PySem.W.Frag}
theorem srtD (hu : X.A.units + 64 < cLine) : CallR X (.builtin "sorted") (rSortD X.K) := by
  intro pins s σ H vs us Q I r h
  obtain ⟨a, xs, β, bs, enc, F, rfl, hs, hP, hF, h1, h2, h3, h4, q⟩ := h
  obtain ⟨its, rv, hl, hz⟩ := I.list hs
  obtain ⟨u, rfl, ru⟩ := vals1 r
  obtain rfl : u = Value.ref a := ru
  have e := each_of_pair (α := Unit) rv hP
  have er : PySem.W.EachIs (fun v b => ∃ as, Reads s.heap v (enc b) as) its bs := each_mono (fun u b ⟨x, r, f⟩ => Dp.reads I (enc b) x u (hF x b f) r) e
  refine PySem.W.sorted_data hl.isList e er h1 h2 h4 (fun b hb => by have := h3 b hb; omega) fun out ho eo => ?_
  obtain ⟨ys, v1, v2⟩ := pair_of_each eo
  have hlen : ys.length ≤ sizeLine := by rw [pair_len v2, List.length_mergeSort]; exact h4
  obtain ⟨n, hn⟩ := sortedAll_at s.heap its out.toArray
  have kp : ∀ b o, s.heap.get? b = some o → (sortedAll s.heap its out.toArray).get? b = some o := fun b o e => sortedAll_old e
  have hd : s.heap.objs.size ≤ s.heap.objs.size + 1 := Nat.le_succ _
  exact ⟨.ref (s.heap.objs.size + 1), upd H (s.heap.objs.size + 1) (.lst ys), I.laid (t' := s.toks) kp hd ⟨hlen, out, n, v1, hn⟩, rfl, q ys _ v2 (I.hok.fresh hd)⟩
theorem srtDK (hu : X.A.units + 64 < cLine) (hK : X.K = K := by rfl) : CallR X (.builtin "sorted") (rSortD K) := by subst hK; exact srtD hu
end

/-! ### lists of lists of ints -/
/-- a list of ints at some place -/
def IL (H : Hp) (v : V) (r : List Int) : Prop := ∃ c, v = .ref c ∧ H c = some (.lst (r.map V.int))
abbrev ILs (H : Hp) : List V → List (List Int) → Prop := Paired (IL H)
def dR (r : List Int) : PyData := .list (r.map .int)
def dRs (R : List (List Int)) : PyData := .list (R.map dR)
theorem IL.mono {H H' : Hp} {v : V} {r : List Int} (s : Same H H') (h : IL H v r) : IL H' v r := let ⟨c, e, f⟩ := h; ⟨c, e, s _ _ f⟩
theorem ILs.mono {H H' : Hp} {xs : List V} {R : List (List Int)} (s : Same H H') (h : ILs H xs R) : ILs H' xs R := pair_mono h fun _ _ q => q.mono s
theorem IL.dp {K : PySem.W.Frag} {H : Hp} {v : V} {r : List Int} (h : IL H v r) : Dp K H v (dR r) := by
  obtain ⟨c, rfl, e⟩ := h
  exact .lst (sql e) (dpa_ints r)
theorem dpa_ils {K : PySem.W.Frag} {H : Hp} : ∀ {xs : List V} {R : List (List Int)}, ILs H xs R → DpAll K H xs (R.map dR)
  | _, _, .nil => .nil
  | _, _, .cons h t => .cons h.dp (dpa_ils t)
theorem alike_dR (r t : List Int) : PySem.W.alike (dR r) (dR t) = true := by
  unfold dR
  rw [PySem.W.alike]
  exact PySem.W.alike_ints r t
theorem depth_dR (r : List Int) : (dR r).depth ≤ 1 := by
  unfold dR
  rw [PyData.depth, PySem.W.depth_ints]
  omega
/-- lists in their order -/
def srtR (R : List (List Int)) : List (List Int) := R.mergeSort fun p q => decide (p ≤ q)
theorem r_sortR {K : PySem.W.Frag} {H : Hp} {Q : VK} {a : Addr} {xs : List V} {R : List (List Int)} (hs : SqL K H a xs) (h : ILs H xs R) (hl : R.length ≤ 100000)
    (q : ∀ ys p, ILs H ys (srtR R) → (∀ y ∈ ys, y ∈ xs) → H p = none → Q (.ref p) (upd H p (.lst ys))) : rSortD K [.ref a] H Q := by
  have hx : ∀ {xs : List V} {R : List (List Int)}, ILs H xs R → Paired (fun v b => v ∈ xs ∧ IL H v b) xs R := fun {xs R} h => by
    induction h with
    | nil => exact .nil
    | cons r _ ih => exact .cons ⟨by simp, r⟩ (pair_mono ih fun _ _ z => ⟨List.mem_cons_of_mem _ z.1, z.2⟩)
  refine ⟨a, xs, List Int, R, dR, fun v b => v ∈ xs ∧ IL H v b, rfl, hs, hx h, fun v b z => z.2.dp, PySem.W.AllAlike.of alike_dR, PySem.W.Sortable.others fun b => ⟨by simp [dR], by simp [dR]⟩, fun b _ => Nat.le_trans (depth_dR b) (by decide), szl hl, fun ys p h2 np => ?_⟩
  have e : PySem.W.dataLe false dR = fun p q => decide (p ≤ q) := PySem.W.dataLe_rows (β := List Int) (fun b => b)
  rw [e] at h2
  refine q ys p (pair_mono h2 fun _ _ z => z.2) (fun y hy => ?_) np
  obtain ⟨i, hi⟩ := List.getElem?_of_mem hy
  obtain ⟨_, _, z⟩ := pair_get h2 hi
  exact z.1
theorem srtR_perm (R : List (List Int)) : (srtR R).Perm R := List.mergeSort_perm R _
theorem srtR_eq {R R' : List (List Int)} (h : R.Perm R') : srtR R = srtR R' := by
  have tr : ∀ a b c : List Int, decide (a ≤ b) = true → decide (b ≤ c) = true → decide (a ≤ c) = true := fun a b c h1 h2 => decide_eq_true (List.le_trans (of_decide_eq_true h1) (of_decide_eq_true h2))
  have to : ∀ a b : List Int, (decide (a ≤ b) || decide (b ≤ a)) = true := fun a b => by
    rcases List.le_total a b with z | z
    · simp [z]
    · simp [z]
  have s1 := List.pairwise_mergeSort tr to R
  have s2 := List.pairwise_mergeSort tr to R'
  refine List.Perm.eq_of_pairwise (le := fun p q => decide (p ≤ q) = true) (fun a b _ _ h1 h2 => List.le_antisymm (of_decide_eq_true h1) (of_decide_eq_true h2)) s1 s2 ?_
  exact (srtR_perm R).trans (h.trans (srtR_perm R').symm)
theorem srtR_id {R : List (List Int)} (h : R.Pairwise fun p q => p ≤ q) : srtR R = R := List.mergeSort_of_pairwise (h.imp fun z => decide_eq_true z)
theorem srtR_srt (R : List (List Int)) : (srtR R).Pairwise fun p q => p ≤ q := by
  have tr : ∀ a b c : List Int, decide (a ≤ b) = true → decide (b ≤ c) = true → decide (a ≤ c) = true := fun a b c h1 h2 => decide_eq_true (List.le_trans (of_decide_eq_true h1) (of_decide_eq_true h2))
  have to : ∀ a b : List Int, (decide (a ≤ b) || decide (b ≤ a)) = true := fun a b => by
    rcases List.le_total a b with z | z
    · simp [z]
    · simp [z]
  exact (List.pairwise_mergeSort tr to R).imp fun z => of_decide_eq_true z
theorem srtR_two (R : List (List Int)) : srtR (srtR R) = srtR R := srtR_id (srtR_srt R)
end Vf

namespace Vf
open PySem PySem.Spec PyProof.Rows L2

/-! ### readings: chains of numbers with signs -/
def ab (x : Int) : Int := (x.natAbs : Int)
def steps : List Int → List (Int × Int)
  | [] => []
  | [_] => []
  | x :: y :: t => prI x (-y) :: steps (y :: t)
def ringC : List Int → List (Int × Int)
  | [] => []
  | x :: t => steps (x :: (t ++ [x]))
def cps (R G : List (List Int)) : List (Int × Int) := R.flatMap steps ++ G.flatMap ringC
structure Sys (n : Int) (L : List (Int × Int)) (R G : List (List Int)) : Prop where
  neR : ∀ r ∈ R, r ≠ []
  neG : ∀ r ∈ G, r ≠ []
  pcs : (R.flatten.map ab ++ G.flatten.map ab).Perm (rng 1 n.toNat)
  cp : (cps R G).Perm L
theorem ab_neg (x : Int) : ab (-x) = ab x := by unfold ab; rw [Int.natAbs_neg]
theorem ab_eq {x y : Int} (h : ab x = ab y) : x = y ∨ x = -y := by unfold ab at h; omega
theorem steps_cons2 (x y : Int) (t : List Int) : steps (x :: y :: t) = prI x (-y) :: steps (y :: t) := rfl
theorem mem_steps {p : Int × Int} : ∀ {r : List Int}, p ∈ steps r ↔ ∃ u x y v, r = u ++ x :: y :: v ∧ p = prI x (-y)
  | [] => by
    constructor
    · intro h; cases h
    · rintro ⟨u, x, y, v, h, _⟩; cases u <;> simp at h
  | [a] => by
    constructor
    · intro h; cases h
    · rintro ⟨u, x, y, v, h, _⟩
      match u with
      | [] => simp at h
      | [_] => simp at h
      | _ :: _ :: _ => simp at h
  | a :: b :: t => by
    rw [steps_cons2, List.mem_cons, mem_steps (r := b :: t)]
    constructor
    · rintro (h | ⟨u, x, y, v, h, e⟩)
      · exact ⟨[], a, b, t, rfl, h⟩
      · exact ⟨a :: u, x, y, v, by rw [h]; rfl, e⟩
    · rintro ⟨u, x, y, v, h, e⟩
      cases u with
      | nil => simp at h; obtain ⟨rfl, rfl, rfl⟩ := h; exact .inl e
      | cons c u => simp at h; exact .inr ⟨u, x, y, v, h.2, e⟩
theorem mem_prI {a b e : Int} : (e = (prI a b).1 ∨ e = (prI a b).2) ↔ (e = a ∨ e = b) := by unfold prI; simp only; omega
theorem prI_mem {n : Int} {L : List (Int × Int)} (hL : Lay n L) {a b : Int} (h : prI a b ∈ L) : ptb L a = b ∧ ptb L b = a ∧ a ≠ 0 ∧ b ≠ 0 ∧ a ≠ b := by
  have hc := hL.cp _ h
  unfold prI at hc
  simp only at hc
  have a0 : a ≠ 0 := by omega
  have b0 : b ≠ 0 := by omega
  have ne : a ≠ b := by omega
  have h1 : (a, b) ∈ L ∨ (b, a) ∈ L := by
    rcases prI_two ne with ⟨e, _⟩ | ⟨e, _⟩
    · exact .inl (e ▸ h)
    · exact .inr (e ▸ h)
  have p1 := (parI_iff hL (a := a) (b := b)).mpr h1
  have p2 := (parI_iff hL (a := b) (b := a)).mpr h1.symm
  refine ⟨?_, ?_, a0, b0, ne⟩
  · unfold ptb; rw [if_neg a0, p1]; rfl
  · unfold ptb; rw [if_neg b0, p2]; rfl
/-- the steps of a ring -/
theorem mem_ringC {p : Int × Int} {g : List Int} : p ∈ ringC g ↔ ∃ a t u x y v, g = a :: t ∧ a :: (t ++ [a]) = u ++ x :: y :: v ∧ p = prI x (-y) := by
  cases g with
  | nil => constructor
           · intro h; cases h
           · rintro ⟨a, t, u, x, y, v, h, _⟩; cases h
  | cons b t =>
    show p ∈ steps _ ↔ _
    rw [mem_steps]
    constructor
    · rintro ⟨u, x, y, v, h, e⟩; exact ⟨b, t, u, x, y, v, rfl, h, e⟩
    · rintro ⟨a, t', u, x, y, v, h, h2, e⟩; cases h; exact ⟨u, x, y, v, h2, e⟩
section
variable {n : Int} {L : List (Int × Int)} {R G : List (List Int)}
theorem Sys.row (h : Sys n L R G) (hL : Lay n L) {r u v : List Int} {x y : Int} (hr : r ∈ R) (e : r = u ++ x :: y :: v) : ptb L x = -y ∧ ptb L (-y) = x ∧ x ≠ 0 ∧ y ≠ 0 ∧ x ≠ -y := by
  have := prI_mem hL (a := x) (b := -y) (h.cp.mem_iff.mp (List.mem_append_left _ (List.mem_flatMap.mpr ⟨r, hr, mem_steps.mpr ⟨u, x, y, v, e, rfl⟩⟩)))
  exact ⟨this.1, this.2.1, this.2.2.1, by omega, this.2.2.2.2⟩
theorem Sys.ring (h : Sys n L R G) (hL : Lay n L) {t u v : List Int} {a x y : Int} (hr : (a :: t) ∈ G) (e : a :: (t ++ [a]) = u ++ x :: y :: v) : ptb L x = -y ∧ ptb L (-y) = x ∧ x ≠ 0 ∧ y ≠ 0 ∧ x ≠ -y := by
  have := prI_mem hL (a := x) (b := -y) (h.cp.mem_iff.mp (List.mem_append_right _ (List.mem_flatMap.mpr ⟨_, hr, mem_ringC.mpr ⟨a, t, u, x, y, v, rfl, e, rfl⟩⟩)))
  exact ⟨this.1, this.2.1, this.2.2.1, by omega, this.2.2.2.2⟩
theorem Sys.nd (h : Sys n L R G) : (R.flatten.map ab ++ G.flatten.map ab).Nodup := h.pcs.nodup_iff.mpr ((rng_asc _ _).imp fun h => by omega)
theorem Sys.rangeR (h : Sys n L R G) {r : List Int} {x : Int} (hr : r ∈ R) (hx : x ∈ r) : 1 ≤ ab x ∧ ab x ≤ n := by
  have := mem_rng.mp (h.pcs.mem_iff.mp (List.mem_append_left _ (List.mem_map.mpr ⟨x, List.mem_flatten.mpr ⟨r, hr, hx⟩, rfl⟩)))
  omega
theorem Sys.rangeG (h : Sys n L R G) {r : List Int} {x : Int} (hr : r ∈ G) (hx : x ∈ r) : 1 ≤ ab x ∧ ab x ≤ n := by
  have := mem_rng.mp (h.pcs.mem_iff.mp (List.mem_append_right _ (List.mem_map.mpr ⟨x, List.mem_flatten.mpr ⟨r, hr, hx⟩, rfl⟩)))
  omega
theorem uniq_in : ∀ {R : List (List Int)}, (R.flatten.map ab).Nodup → ∀ {r r' : List Int} {x y : Int}, r ∈ R → r' ∈ R → x ∈ r → y ∈ r' → ab x = ab y → r = r' ∧ x = y
  | [], _, _, _, _, _, h, _, _, _, _ => absurd h (by simp)
  | q :: R, nd, r, r', x, y, hr, hr', hx, hy, e => by
    rw [List.flatten_cons, List.map_append] at nd
    obtain ⟨n1, n2, n3⟩ := List.nodup_append.mp nd
    have inR : ∀ {s : List Int} {z : Int}, s ∈ R → z ∈ s → ab z ∈ R.flatten.map ab := fun hs hz => List.mem_map.mpr ⟨_, List.mem_flatten.mpr ⟨_, hs, hz⟩, rfl⟩
    rcases List.mem_cons.mp hr with rfl | k1
    · rcases List.mem_cons.mp hr' with rfl | k2
      · refine ⟨rfl, ?_⟩
        rw [List.Nodup, List.pairwise_map] at n1
        by_cases c : x = y
        · exact c
        · exfalso
          obtain ⟨i, hi⟩ := List.getElem?_of_mem hx
          obtain ⟨j, hj⟩ := List.getElem?_of_mem hy
          have pw := List.pairwise_iff_getElem.mp n1
          obtain ⟨hi1, hi2⟩ := List.getElem?_eq_some_iff.mp hi
          obtain ⟨hj1, hj2⟩ := List.getElem?_eq_some_iff.mp hj
          rcases Nat.lt_trichotomy i j with z | z | z
          · exact pw i j hi1 hj1 z (by rw [hi2, hj2]; exact e)
          · subst z; exact c (hi2.symm.trans hj2)
          · exact pw j i hj1 hi1 z (by rw [hi2, hj2]; exact e.symm)
      · exact (n3 (ab x) (List.mem_map.mpr ⟨x, hx, rfl⟩) (ab y) (inR k2 hy) e).elim
    · rcases List.mem_cons.mp hr' with rfl | k2
      · exact (n3 (ab y) (List.mem_map.mpr ⟨y, hy, rfl⟩) (ab x) (inR k1 hx) e.symm).elim
      · exact uniq_in n2 k1 k2 hx hy e
theorem Sys.uR (h : Sys n L R G) {r r' : List Int} {x y : Int} (hr : r ∈ R) (hr' : r' ∈ R) (hx : x ∈ r) (hy : y ∈ r') (e : ab x = ab y) : r = r' ∧ x = y := uniq_in (List.nodup_append.mp h.nd).1 hr hr' hx hy e
theorem Sys.uG (h : Sys n L R G) {r r' : List Int} {x y : Int} (hr : r ∈ G) (hr' : r' ∈ G) (hx : x ∈ r) (hy : y ∈ r') (e : ab x = ab y) : r = r' ∧ x = y := uniq_in (List.nodup_append.mp h.nd).2.1 hr hr' hx hy e
theorem Sys.apart (h : Sys n L R G) {r g : List Int} {x y : Int} (hr : r ∈ R) (hg : g ∈ G) (hx : x ∈ r) (hy : y ∈ g) : ab x ≠ ab y := fun e =>
  (List.nodup_append.mp h.nd).2.2 _ (List.mem_map.mpr ⟨x, List.mem_flatten.mpr ⟨r, hr, hx⟩, rfl⟩) _ (List.mem_map.mpr ⟨y, List.mem_flatten.mpr ⟨g, hg, hy⟩, rfl⟩) e
theorem nd_of_in {R : List (List Int)} (nd : (R.flatten.map ab).Nodup) {r : List Int} (hr : r ∈ R) : (r.map ab).Nodup := by
  have : (r.map ab).Sublist (R.flatten.map ab) := (List.sublist_flatten_of_mem hr).map ab
  exact this.nodup nd
theorem Sys.ndR (h : Sys n L R G) {r : List Int} (hr : r ∈ R) : (r.map ab).Nodup := nd_of_in (List.nodup_append.mp h.nd).1 hr
theorem Sys.ndG (h : Sys n L R G) {r : List Int} (hr : r ∈ G) : (r.map ab).Nodup := nd_of_in (List.nodup_append.mp h.nd).2.1 hr
theorem nd_ab {r : List Int} (h : (r.map ab).Nodup) : r.Nodup := by
  rw [List.Nodup, List.pairwise_map] at h
  exact h.imp fun c e => c (by rw [e])
theorem split_uniq {x : Int} : ∀ {u u' v v' : List Int}, (u ++ x :: v).Nodup → u ++ x :: v = u' ++ x :: v' → u = u' ∧ v = v'
  | [], [], v, v', _, e => by simp at e; exact ⟨rfl, e⟩
  | [], b :: u', v, v', nd, e => by
    simp at e
    obtain ⟨rfl, e⟩ := e
    exfalso
    have := (List.nodup_cons.mp nd).1
    exact this (by rw [e]; simp)
  | a :: u, [], v, v', nd, e => by
    simp at e
    obtain ⟨rfl, e⟩ := e
    exact ((List.nodup_cons.mp nd).1 (by simp)).elim
  | a :: u, b :: u', v, v', nd, e => by
    simp only [List.cons_append, List.cons.injEq] at e
    obtain ⟨rfl, e⟩ := e
    obtain ⟨h1, h2⟩ := split_uniq (List.nodup_cons.mp nd).2 e
    exact ⟨by rw [h1], h2⟩
/-- which ends are coupled -/
theorem Sys.coupled (h : Sys n L R G) {e : Int} (he : e ∈ flat L) : (∃ r ∈ R, ∃ u x y v, r = u ++ x :: y :: v ∧ (e = x ∨ e = -y)) ∨ (∃ g ∈ G, ∃ x ∈ g, ab e = ab x) := by
  obtain ⟨p, hp, h2⟩ := mem_flat.mp ((flat_perm h.cp).mem_iff.mpr he)
  rcases List.mem_append.mp hp with hp | hp
  · obtain ⟨r, hr, hm⟩ := List.mem_flatMap.mp hp
    obtain ⟨u, x, y, v, e1, rfl⟩ := mem_steps.mp hm
    exact .inl ⟨r, hr, u, x, y, v, e1, mem_prI.mp h2⟩
  · obtain ⟨g, hg, hm⟩ := List.mem_flatMap.mp hp
    obtain ⟨a, t, u, x, y, v, rfl, e1, rfl⟩ := mem_ringC.mp hm
    have all : ∀ z ∈ u ++ x :: y :: v, z ∈ a :: t := fun z hz => by
      rw [← e1] at hz
      rcases List.mem_cons.mp hz with rfl | hz
      · simp
      · rcases List.mem_append.mp hz with hz | hz
        · exact List.mem_cons_of_mem _ hz
        · rw [List.mem_singleton.mp hz]; simp
    refine .inr ⟨a :: t, hg, ?_⟩
    rcases mem_prI.mp h2 with rfl | rfl
    · exact ⟨e, all e (by simp), rfl⟩
    · exact ⟨y, all y (by simp), ab_neg y⟩
theorem Sys.open1 (h : Sys n L R G) (hL : Lay n L) {r u : List Int} {x : Int} (hr : r ∈ R) (e : r = u ++ [x]) : ptb L x = 0 := by
  have hx : x ∈ r := by rw [e]; simp
  have hx1 := h.rangeR hr hx
  have x0 : x ≠ 0 := fun z => by rw [z] at hx1; unfold ab at hx1; simp at hx1
  refine (ptb_zero hL x).mpr ⟨x0, fun hf => ?_⟩
  rcases h.coupled hf with ⟨r', hr', u', a, b, v, e', q⟩ | ⟨g, hg, y, hy, q⟩
  · have ha : a ∈ r' := by rw [e']; simp
    have hb : b ∈ r' := by rw [e']; simp
    rcases q with rfl | q
    · obtain ⟨rfl, _⟩ := h.uR hr hr' hx ha rfl
      have nd := nd_ab (h.ndR hr)
      rw [e] at nd
      have := (split_uniq nd (e.symm.trans e')).2
      cases this
    · obtain ⟨rfl, e2⟩ := h.uR hr hr' hx hb (by rw [q, ab_neg])
      omega
  · exact h.apart hr hg hx hy q
theorem Sys.open2 (h : Sys n L R G) (hL : Lay n L) {r v : List Int} {x : Int} (hr : r ∈ R) (e : r = x :: v) : ptb L (-x) = 0 := by
  have hx : x ∈ r := by rw [e]; simp
  have hx1 := h.rangeR hr hx
  have x0 : x ≠ 0 := fun z => by rw [z] at hx1; unfold ab at hx1; simp at hx1
  refine (ptb_zero hL (-x)).mpr ⟨by omega, fun hf => ?_⟩
  rcases h.coupled hf with ⟨r', hr', u', a, b, v', e', q⟩ | ⟨g, hg, y, hy, q⟩
  · have ha : a ∈ r' := by rw [e']; simp
    have hb : b ∈ r' := by rw [e']; simp
    rcases q with q | q
    · obtain ⟨rfl, e2⟩ := h.uR hr hr' hx ha (by rw [← q, ab_neg])
      omega
    · have q' : x = b := by omega
      subst q'
      obtain ⟨rfl, _⟩ := h.uR hr hr' hx hb rfl
      have nd := nd_ab (h.ndR hr)
      have e3 : r = (u' ++ [a]) ++ x :: v' := by rw [e']; simp
      rw [e] at nd
      have := (split_uniq (u := []) nd (show [] ++ x :: v = (u' ++ [a]) ++ x :: v' by rw [← e3, e]; rfl)).1
      simp at this
  · exact h.apart hr hg hx hy (by rw [← q, ab_neg])
end
end Vf

namespace Vf
open PySem PySem.Spec PyProof.Rows L2

/-! ### readings turned about and begun elsewhere -/
def revn (r : List Int) : List Int := r.reverse.map fun x => 0 - x
theorem prI_comm (a b : Int) : prI a b = prI b a := by unfold prI; rw [Int.min_comm, Int.max_comm]
theorem steps_app : ∀ (u : List Int) (x : Int) (v : List Int), steps (u ++ x :: v) = steps (u ++ [x]) ++ steps (x :: v)
  | [], x, v => by show steps (x :: v) = steps [x] ++ _; rfl
  | [a], x, v => by
    show prI a (-x) :: steps (x :: v) = _
    rfl
  | a :: b :: u, x, v => by
    show prI a (-b) :: steps (b :: (u ++ x :: v)) = prI a (-b) :: steps (b :: (u ++ [x])) ++ _
    have := steps_app (b :: u) x v
    rw [List.cons_append, List.cons_append] at this
    rw [this]
    rfl
theorem revn_cons (x : Int) (r : List Int) : revn (x :: r) = revn r ++ [-x] := by unfold revn; rw [List.reverse_cons, List.map_append]; simp
theorem revn_snoc (r : List Int) (x : Int) : revn (r ++ [x]) = -x :: revn r := by unfold revn; simp
theorem revn_ab (r : List Int) : ((revn r).map ab).Perm (r.map ab) := by
  unfold revn
  rw [List.map_map]
  have e : (ab ∘ fun x => 0 - x) = ab := by funext x; show ab (0 - x) = ab x; rw [Int.zero_sub, ab_neg]
  rw [e]
  exact (List.reverse_perm r).map ab
theorem revn_steps : ∀ r : List Int, steps (revn r) = (steps r).reverse
  | [] => rfl
  | [x] => rfl
  | x :: y :: t => by
    rw [steps_cons2, List.reverse_cons, ← revn_steps (y :: t), revn_cons x, revn_cons y, List.append_assoc]
    show steps (revn t ++ -y :: [-x]) = _
    rw [steps_app]
    congr 1
    show [prI (-y) (- -x)] = _
    rw [Int.neg_neg, prI_comm]
theorem ring_rot (u v : List Int) : (ringC (u ++ v)).Perm (ringC (v ++ u)) := by
  cases u with
  | nil => rw [List.nil_append, List.append_nil]
  | cons a u =>
    cases v with
    | nil => rw [List.nil_append, List.append_nil]
    | cons b v =>
      show (steps (a :: ((u ++ b :: v) ++ [a]))).Perm (steps (b :: ((v ++ a :: u) ++ [b])))
      have e1 : a :: ((u ++ b :: v) ++ [a]) = (a :: u) ++ b :: (v ++ [a]) := by simp
      have e2 : b :: ((v ++ a :: u) ++ [b]) = (b :: v) ++ a :: (u ++ [b]) := by simp
      rw [e1, e2, steps_app, steps_app (b :: v)]
      exact List.perm_append_comm
theorem ring_rev (g : List Int) : (ringC (revn g)).Perm (ringC g) := by
  cases g with
  | nil => exact List.Perm.refl _
  | cons a t =>
    rw [revn_cons]
    refine (ring_rot (revn t) [-a]).trans ?_
    show (steps (-a :: (revn t ++ [-a]))).Perm (steps (a :: (t ++ [a])))
    have e : -a :: (revn t ++ [-a]) = revn (a :: (t ++ [a])) := by rw [revn_cons, revn_snoc]; rfl
    rw [e, revn_steps]
    exact List.reverse_perm _
/-! the least piece -/
def mnA : List Int → Int
  | [] => 0
  | [x] => ab x
  | x :: y :: t => min (ab x) (mnA (y :: t))
def IsMn (r : List Int) (m : Int) : Prop := (∃ x ∈ r, m = ab x) ∧ ∀ y ∈ r, m ≤ ab y
theorem mnA_is : ∀ {r : List Int}, r ≠ [] → IsMn r (mnA r)
  | [], h => absurd rfl h
  | [x], _ => ⟨⟨x, by simp, rfl⟩, fun y hy => by rw [List.mem_singleton.mp hy]; exact Int.le_refl _⟩
  | x :: y :: t, _ => by
    obtain ⟨⟨z, hz, e⟩, h2⟩ := mnA_is (r := y :: t) (by simp)
    show IsMn (x :: y :: t) (min (ab x) (mnA (y :: t)))
    refine ⟨?_, fun w hw => ?_⟩
    · by_cases c : ab x ≤ mnA (y :: t)
      · exact ⟨x, by simp, Int.min_eq_left c⟩
      · exact ⟨z, List.mem_cons_of_mem _ hz, by rw [← e]; exact Int.min_eq_right (by omega)⟩
    · rcases List.mem_cons.mp hw with rfl | hw
      · exact Int.min_le_left _ _
      · exact Int.le_trans (Int.min_le_right _ _) (h2 w hw)
theorem isMn_uniq {r : List Int} {m m' : Int} (h : IsMn r m) (h' : IsMn r m') : m = m' := by
  obtain ⟨⟨x, hx, e⟩, h2⟩ := h
  obtain ⟨⟨y, hy, e'⟩, h2'⟩ := h'
  have a := h2 y hy
  have b := h2' x hx
  omega
theorem isMn_perm {r r' : List Int} {m : Int} (p : (r.map ab).Perm (r'.map ab)) (h : IsMn r m) : IsMn r' m := by
  obtain ⟨⟨x, hx, e⟩, h2⟩ := h
  refine ⟨?_, fun y hy => ?_⟩
  · obtain ⟨z, hz, e2⟩ := List.mem_map.mp (p.mem_iff.mp (List.mem_map.mpr ⟨x, hx, rfl⟩))
    exact ⟨z, hz, by rw [e, e2]⟩
  · obtain ⟨z, hz, e2⟩ := List.mem_map.mp (p.mem_iff.mpr (List.mem_map.mpr ⟨y, hy, rfl⟩))
    rw [← e2]
    exact h2 z hz
theorem mnA_of {r : List Int} {m : Int} (h : IsMn r m) : mnA r = m := by
  refine isMn_uniq (mnA_is ?_) h
  rintro rfl
  obtain ⟨⟨x, hx, _⟩, _⟩ := h
  cases hx
theorem mnA_perm {r r' : List Int} (ne : r ≠ []) (p : (r.map ab).Perm (r'.map ab)) : mnA r' = mnA r := mnA_of (isMn_perm p (mnA_is ne))
def nrow (r : List Int) : List Int := if mnA r ∈ r then r else revn r
theorem nrow_ab (r : List Int) : ((nrow r).map ab).Perm (r.map ab) := by
  unfold nrow
  split
  · exact List.Perm.refl _
  · exact revn_ab r
theorem nrow_steps (r : List Int) : (steps (nrow r)).Perm (steps r) := by
  unfold nrow
  split
  · exact List.Perm.refl _
  · rw [revn_steps]; exact List.reverse_perm _
theorem nrow_ring (r : List Int) : (ringC (nrow r)).Perm (ringC r) := by
  unfold nrow
  split
  · exact List.Perm.refl _
  · exact ring_rev r
theorem nrow_mn {r : List Int} (ne : r ≠ []) : mnA (nrow r) = mnA r := mnA_perm ne (nrow_ab r).symm
theorem nrow_mem {r : List Int} (ne : r ≠ []) : mnA r ∈ nrow r := by
  unfold nrow
  by_cases c : mnA r ∈ r
  · rw [if_pos c]; exact c
  · rw [if_neg c]
    obtain ⟨⟨x, hx, e⟩, _⟩ := mnA_is ne
    unfold revn
    refine List.mem_map.mpr ⟨x, List.mem_reverse.mpr hx, ?_⟩
    by_cases c2 : 0 ≤ x
    · exact absurd (by rw [e]; unfold ab; rw [show ((x.natAbs : Nat) : Int) = x by omega]; exact hx) c
    · rw [e]; unfold ab; omega
def rot (m : Int) (r : List Int) : List Int := r.dropWhile (fun x => decide (x ≠ m)) ++ r.takeWhile (fun x => decide (x ≠ m))
theorem rot_of {m : Int} : ∀ {u v : List Int}, m ∉ u → rot m (u ++ m :: v) = m :: (v ++ u) ∧ True := by
  intro u v h
  have h1 : (u ++ m :: v).dropWhile (fun x => decide (x ≠ m)) = m :: v ∧ (u ++ m :: v).takeWhile (fun x => decide (x ≠ m)) = u := by
    induction u with
    | nil => exact ⟨by rw [List.nil_append, List.dropWhile_cons_of_neg (by simp)], by rw [List.nil_append, List.takeWhile_cons_of_neg (by simp)]⟩
    | cons a u ih =>
      have ha : a ≠ m := fun z => h (by rw [z]; simp)
      obtain ⟨i1, i2⟩ := ih fun z => h (List.mem_cons_of_mem _ z)
      refine ⟨?_, ?_⟩
      · rw [List.cons_append, List.dropWhile_cons_of_pos (by simpa using ha), i1]
      · rw [List.cons_append, List.takeWhile_cons_of_pos (by simpa using ha), i2]
  unfold rot
  rw [h1.1, h1.2]
  exact ⟨rfl, trivial⟩
theorem mem_first {m : Int} : ∀ {r : List Int}, m ∈ r → ∃ u v, r = u ++ m :: v ∧ m ∉ u
  | [], h => by cases h
  | a :: r, h => by
    by_cases c : a = m
    · exact ⟨[], r, by rw [c]; rfl, by simp⟩
    · obtain ⟨u, v, e, n⟩ := mem_first (r := r) (by rcases List.mem_cons.mp h with z | z; exact absurd z.symm c; exact z)
      refine ⟨a :: u, v, by rw [e]; rfl, fun z => ?_⟩
      rcases List.mem_cons.mp z with z | z
      · exact c z.symm
      · exact n z
def nring (g : List Int) : List Int := rot (mnA g) (nrow g)
theorem nring_of {g : List Int} (ne : g ≠ []) : ∃ u v, nrow g = u ++ mnA g :: v ∧ mnA g ∉ u ∧ nring g = mnA g :: (v ++ u) := by
  obtain ⟨u, v, e, h⟩ := mem_first (nrow_mem ne)
  refine ⟨u, v, e, h, ?_⟩
  unfold nring
  rw [e]
  exact (rot_of h).1
theorem nring_ab {g : List Int} (ne : g ≠ []) : ((nring g).map ab).Perm (g.map ab) := by
  obtain ⟨u, v, e, _, e2⟩ := nring_of ne
  have h := nrow_ab g
  rw [e] at h
  rw [e2]
  refine List.Perm.trans ?_ h
  rw [← List.cons_append, List.map_append, List.map_append]
  exact List.perm_append_comm
theorem nring_ring {g : List Int} (ne : g ≠ []) : (ringC (nring g)).Perm (ringC g) := by
  obtain ⟨u, v, e, _, e2⟩ := nring_of ne
  have h := nrow_ring g
  rw [e] at h
  rw [e2]
  exact (ring_rot (mnA g :: v) u).trans h
theorem nring_head {g : List Int} (ne : g ≠ []) : ∃ t, nring g = mnA (nring g) :: t := by
  obtain ⟨u, v, _, _, e2⟩ := nring_of ne
  exact ⟨v ++ u, by rw [mnA_perm ne (nring_ab ne).symm]; exact e2⟩

/-! ### systems changed -/
theorem flatMap_perm {α β : Type} {f g : α → List β} : ∀ {l : List α}, (∀ a ∈ l, (f a).Perm (g a)) → (l.flatMap f).Perm (l.flatMap g)
  | [], _ => List.Perm.refl _
  | a :: l, h => by
    rw [List.flatMap_cons, List.flatMap_cons]
    exact (h a List.mem_cons_self).append (flatMap_perm fun b hb => h b (List.mem_cons_of_mem _ hb))
theorem flatten_ab {R : List (List Int)} : R.flatten.map ab = R.flatMap fun r => r.map ab := by
  rw [List.map_flatten, List.flatMap_def]
section
variable {n : Int} {L : List (Int × Int)} {R G R' G' : List (List Int)}
theorem Sys.perm (h : Sys n L R G) (pR : R'.Perm R) (pG : G'.Perm G) : Sys n L R' G' := by
  refine ⟨fun r hr => h.neR r (pR.mem_iff.mp hr), fun r hr => h.neG r (pG.mem_iff.mp hr), ?_, ?_⟩
  · rw [flatten_ab, flatten_ab]
    refine ((pR.flatMap_right _).append (pG.flatMap_right _)).trans ?_
    have := h.pcs
    rw [flatten_ab, flatten_ab] at this
    exact this
  · exact ((pR.flatMap_right _).append (pG.flatMap_right _)).trans h.cp
theorem Sys.map (h : Sys n L R G) (f g : List Int → List Int) (f1 : ∀ r ∈ R, ((f r).map ab).Perm (r.map ab)) (f2 : ∀ r ∈ R, (steps (f r)).Perm (steps r))
    (g1 : ∀ r ∈ G, ((g r).map ab).Perm (r.map ab)) (g2 : ∀ r ∈ G, (ringC (g r)).Perm (ringC r)) : Sys n L (R.map f) (G.map g) := by
  have ne : ∀ {r s : List Int}, (s.map ab).Perm (r.map ab) → r ≠ [] → s ≠ [] := fun {r s} p h e => by
    rw [e] at p
    exact h (List.eq_nil_of_length_eq_zero (by simpa using p.length_eq.symm))
  refine ⟨fun r hr => ?_, fun r hr => ?_, ?_, ?_⟩
  · obtain ⟨q, hq, rfl⟩ := List.mem_map.mp hr
    exact ne (f1 q hq) (h.neR q hq)
  · obtain ⟨q, hq, rfl⟩ := List.mem_map.mp hr
    exact ne (g1 q hq) (h.neG q hq)
  · rw [flatten_ab, flatten_ab, List.flatMap_map, List.flatMap_map]
    refine ((flatMap_perm f1).append (flatMap_perm g1)).trans ?_
    have := h.pcs
    rw [flatten_ab, flatten_ab] at this
    exact this
  · unfold cps
    rw [List.flatMap_map, List.flatMap_map]
    exact ((flatMap_perm f2).append (flatMap_perm g2)).trans h.cp
structure NSys (n : Int) (L : List (Int × Int)) (R G : List (List Int)) : Prop extends Sys n L R G where
  nR : ∀ r ∈ R, mnA r ∈ r
  nG : ∀ g ∈ G, ∃ t, g = mnA g :: t
theorem Sys.normal (h : Sys n L R G) : NSys n L (R.map nrow) (G.map nring) := by
  refine ⟨h.map nrow nring (fun r _ => nrow_ab r) (fun r _ => nrow_steps r) (fun r hr => nring_ab (h.neG r hr)) (fun r hr => nring_ring (h.neG r hr)), fun r hr => ?_, fun r hr => ?_⟩
  · obtain ⟨q, hq, rfl⟩ := List.mem_map.mp hr
    have := h.neR q hq
    rw [nrow_mn this]
    exact nrow_mem this
  · obtain ⟨q, hq, rfl⟩ := List.mem_map.mp hr
    exact nring_head (h.neG q hq)
theorem NSys.perm (h : NSys n L R G) (pR : R'.Perm R) (pG : G'.Perm G) : NSys n L R' G' := ⟨h.toSys.perm pR pG, fun r hr => h.nR r (pR.mem_iff.mp hr), fun g hg => h.nG g (pG.mem_iff.mp hg)⟩

/-! ### each layout has readings -/
theorem Sys.ringIn (h : Sys n L R G) {g : List Int} {x : Int} (hg : g ∈ G) (hx : x ∈ g) : x ∈ flat L ∧ -x ∈ flat L := by
  have up : ∀ {e : Int}, e ∈ flat (ringC g) → e ∈ flat L := fun {e} he => by
    obtain ⟨p, hp, q⟩ := mem_flat.mp he
    exact (flat_perm h.cp).mem_iff.mp (mem_flat.mpr ⟨p, List.mem_append_right _ (List.mem_flatMap.mpr ⟨g, hg, hp⟩), q⟩)
  obtain ⟨u, v, e⟩ := List.append_of_mem hx
  have pr := ring_rot u (x :: v)
  rw [← e] at pr
  have in1 : ∀ {e : Int}, e ∈ flat (ringC (x :: (v ++ u))) → e ∈ flat L := fun {e} he => up ((flat_perm pr).mem_iff.mpr he)
  have st : ∃ y, prI x (-y) ∈ ringC (x :: (v ++ u)) := by
    cases hw : v ++ u with
    | nil => exact ⟨x, by show prI x (-x) ∈ steps (x :: ([] ++ [x])); exact List.mem_cons_self⟩
    | cons y w => exact ⟨y, by show prI x (-y) ∈ steps (x :: (y :: w ++ [x])); exact List.mem_cons_self⟩
  have en : ∃ y, prI y (-x) ∈ ringC (x :: (v ++ u)) := by
    rcases List.eq_nil_or_concat (v ++ u) with z | ⟨w, y, z⟩
    · rw [z]; exact ⟨x, by show prI x (-x) ∈ steps (x :: ([] ++ [x])); exact List.mem_cons_self⟩
    · rw [z]
      refine ⟨y, ?_⟩
      show _ ∈ steps _
      exact mem_steps.mpr ⟨x :: w, y, x, [], by simp, rfl⟩
  obtain ⟨y, hy⟩ := st
  obtain ⟨z, hz⟩ := en
  exact ⟨in1 (mem_flat.mpr ⟨_, hy, mem_prI.mpr (.inl rfl)⟩), in1 (mem_flat.mpr ⟨_, hz, mem_prI.mpr (.inr rfl)⟩)⟩
theorem Sys.stepIn (h : Sys n L R G) {r u v : List Int} {x y : Int} (hr : r ∈ R) (e : r = u ++ x :: y :: v) : x ∈ flat L ∧ -y ∈ flat L := by
  have := h.cp.mem_iff.mp (List.mem_append_left _ (List.mem_flatMap.mpr ⟨r, hr, mem_steps.mpr ⟨u, x, y, v, e, rfl⟩⟩))
  exact ⟨mem_flat.mpr ⟨_, this, mem_prI.mpr (.inl rfl)⟩, mem_flat.mpr ⟨_, this, mem_prI.mpr (.inr rfl)⟩⟩
/-- an open end is at the end of a row -/
theorem Sys.endRow (h : Sys n L R G) {e : Int} (he : e ∈ endsL n) (ho : e ∉ flat L) : ∃ r ∈ R, (∃ u, r = u ++ [e]) ∨ ∃ v, r = -e :: v := by
  have h1 := mem_endsL.mp he
  have hm : ab e ∈ rng 1 n.toNat := mem_rng.mpr (by unfold ab; omega)
  rcases List.mem_append.mp (h.pcs.mem_iff.mpr hm) with hm | hm
  · obtain ⟨x, hx, e1⟩ := List.mem_map.mp hm
    obtain ⟨r, hr, hx⟩ := List.mem_flatten.mp hx
    obtain ⟨u, v, e2⟩ := List.append_of_mem hx
    refine ⟨r, hr, ?_⟩
    rcases ab_eq e1 with rfl | rfl
    · cases v with
      | nil => exact .inl ⟨u, e2⟩
      | cons y v => exact absurd (h.stepIn hr e2).1 ho
    · rcases List.eq_nil_or_concat u with rfl | ⟨w, y, rfl⟩
      · exact .inr ⟨v, e2⟩
      · have := (h.stepIn (u := w) (x := y) (y := -e) (v := v) hr (by rw [e2]; simp)).2
        rw [Int.neg_neg] at this
        exact absurd this ho
  · obtain ⟨x, hx, e1⟩ := List.mem_map.mp hm
    obtain ⟨g, hg, hx⟩ := List.mem_flatten.mp hx
    have := h.ringIn hg hx
    rcases ab_eq e1 with rfl | rfl
    · exact absurd this.1 ho
    · rw [Int.neg_neg] at this; exact absurd this.2 ho
theorem Sys.turn (h : Sys n L (R' ++ R) G) {f : List Int} {r : List Int} (e : R' = [r]) (f1 : (f.map ab).Perm (r.map ab)) (f2 : (steps f).Perm (steps r)) : Sys n L (f :: R) G := by
  subst e
  have ne : f ≠ [] := fun z => by
    rw [z] at f1
    exact h.neR r (by simp) (List.eq_nil_of_length_eq_zero (by simpa using f1.length_eq.symm))
  refine ⟨fun q hq => ?_, h.neG, ?_, ?_⟩
  · rcases List.mem_cons.mp hq with rfl | hq
    · exact ne
    · exact h.neR q (by simp [hq])
  · have := h.pcs
    rw [List.singleton_append, List.flatten_cons, List.map_append] at this
    rw [List.flatten_cons, List.map_append]
    exact ((f1.append_right _).append_right _).trans this
  · have := h.cp
    unfold cps at this ⊢
    rw [List.singleton_append, List.flatMap_cons] at this
    rw [List.flatMap_cons]
    exact ((f2.append_right _).append_right _).trans this
theorem sys_exists : ∀ {L : List (Int × Int)}, Lay n L → ∃ R G, Sys n L R G
  | [], hL => by
    have n1 := hL.n1
    refine ⟨(rng 1 n.toNat).map fun k => [k], [], ⟨fun r hr => ?_, fun r hr => (by cases hr), ?_, ?_⟩⟩
    · obtain ⟨k, _, rfl⟩ := List.mem_map.mp hr
      simp
    · have e : ∀ l : List Int, (∀ k ∈ l, 0 ≤ k) → ((l.map fun k => [k]).flatten.map ab) = l := fun l => by
        induction l with
        | nil => intro _; rfl
        | cons a l ih =>
          intro h
          rw [List.map_cons, List.flatten_cons, List.map_append, ih fun k hk => h k (List.mem_cons_of_mem _ hk)]
          have := h a List.mem_cons_self
          show [ab a] ++ l = a :: l
          rw [show ab a = a by unfold ab; omega]
          rfl
      rw [e _ fun k hk => by have := mem_rng.mp hk; omega]
      simp
    · have e : ∀ l : List Int, (l.map fun k => [k]).flatMap steps = [] := fun l => by
        induction l with
        | nil => rfl
        | cons a l ih => rw [List.map_cons, List.flatMap_cons, ih]; rfl
      unfold cps
      rw [e]
      exact List.Perm.refl _
  | p :: M, hL => by
    obtain ⟨a, b⟩ := p
    have hM : Lay n M := Lay.tail (d := [(a, b)]) hL
    obtain ⟨R, G, h⟩ := sys_exists hM
    have hc := hL.cp (a, b) (by simp)
    simp only at hc
    have nd := hL.nd
    rw [flat_cons] at nd
    obtain ⟨q1, q2⟩ := List.nodup_cons.mp nd
    obtain ⟨q3, q4⟩ := List.nodup_cons.mp q2
    simp only at q1 q3
    have ha : a ∉ flat M := fun z => q1 (List.mem_cons_of_mem _ z)
    have pab : prI a b = (a, b) := by
      rcases prI_two (a := a) (b := b) (by omega) with ⟨e, _⟩ | ⟨_, z⟩
      · exact e
      · omega
    obtain ⟨r, hr, er⟩ := h.endRow (e := a) (mem_endsL.mpr (by omega)) ha
    obtain ⟨R0, pR⟩ : ∃ R0, R.Perm (r :: R0) := ⟨R.erase r, List.perm_cons_erase hr⟩
    have h1 : Sys n M ([r] ++ R0) G := h.perm pR.symm (List.Perm.refl _)
    -- a row that ends with a
    obtain ⟨u1, h2⟩ : ∃ u1, Sys n M ((u1 ++ [a]) :: R0) G := by
      rcases er with ⟨u, rfl⟩ | ⟨v, rfl⟩
      · exact ⟨u, h1⟩
      · refine ⟨revn v, ?_⟩
        have e : revn (-a :: v) = revn v ++ [a] := by rw [revn_cons, Int.neg_neg]
        rw [← e]
        exact h1.turn rfl (revn_ab _) (by rw [revn_steps]; exact List.reverse_perm _)
    obtain ⟨r2, hr2, er2⟩ := h2.endRow (e := b) (mem_endsL.mpr (by omega)) q3
    rcases List.mem_cons.mp hr2 with rfl | hr2
    · -- a ring
      have ev : ∃ v, u1 ++ [a] = -b :: v := by
        rcases er2 with ⟨u, e⟩ | z
        · have := congrArg List.getLast? e
          simp at this
          omega
        · exact z
      obtain ⟨v, ev⟩ := ev
      refine ⟨R0, (u1 ++ [a]) :: G, fun q hq => h2.neR q (List.mem_cons_of_mem _ hq), fun q hq => ?_, ?_, ?_⟩
      · rcases List.mem_cons.mp hq with rfl | hq
        · simp
        · exact h2.neG q hq
      · have := h2.pcs
        rw [List.flatten_cons, List.map_append] at this ⊢
        refine List.Perm.trans ?_ this
        rw [← List.append_assoc]
        exact List.perm_append_comm.append_right _
      · have := h2.cp
        unfold cps at this ⊢
        rw [List.flatMap_cons] at this ⊢
        have er3 : ringC (u1 ++ [a]) = steps (u1 ++ [a]) ++ [(a, b)] := by
          rw [ev]
          show steps (-b :: (v ++ [-b])) = _
          rw [← List.cons_append, ← ev, List.append_assoc]
          show steps (u1 ++ a :: [-b]) = _
          rw [steps_app]
          show _ ++ [prI a (- -b)] = _
          rw [Int.neg_neg, pab]
        rw [er3]
        have p1 : (R0.flatMap steps ++ (steps (u1 ++ [a]) ++ [(a, b)] ++ G.flatMap ringC)).Perm ((a, b) :: (steps (u1 ++ [a]) ++ R0.flatMap steps ++ G.flatMap ringC)) := by
          rw [List.append_assoc (steps _)]
          refine (List.perm_append_comm_assoc _ _ _).trans ?_
          rw [List.append_assoc]
          refine (List.Perm.append_left _ (List.perm_append_comm_assoc _ _ _)).trans ?_
          exact List.perm_middle
        exact p1.trans (List.Perm.cons _ this)
    · -- two rows
      obtain ⟨R1, pR1⟩ : ∃ R1, R0.Perm (r2 :: R1) := ⟨R0.erase r2, List.perm_cons_erase hr2⟩
      have h3 : Sys n M ([r2] ++ ((u1 ++ [a]) :: R1)) G := h2.perm ((List.Perm.swap _ _ _).trans (List.Perm.cons _ pR1.symm)) (List.Perm.refl _)
      obtain ⟨v2, h4⟩ : ∃ v2, Sys n M ((-b :: v2) :: (u1 ++ [a]) :: R1) G := by
        rcases er2 with ⟨u, rfl⟩ | ⟨v, rfl⟩
        · refine ⟨revn u, ?_⟩
          rw [← revn_snoc]
          exact h3.turn rfl (revn_ab _) (by rw [revn_steps]; exact List.reverse_perm _)
        · exact ⟨v, h3⟩
      refine ⟨(u1 ++ [a] ++ (-b :: v2)) :: R1, G, fun q hq => ?_, h4.neG, ?_, ?_⟩
      · rcases List.mem_cons.mp hq with rfl | hq
        · simp
        · exact h4.neR q (by simp [hq])
      · have := h4.pcs
        rw [List.flatten_cons, List.flatten_cons, List.map_append, List.map_append] at this
        rw [List.flatten_cons, List.map_append, List.map_append]
        refine List.Perm.trans (List.Perm.append_right _ ?_) this
        rw [List.append_assoc]
        exact List.perm_append_comm_assoc _ _ _
      · have := h4.cp
        unfold cps at this ⊢
        rw [List.flatMap_cons, List.flatMap_cons] at this
        rw [List.flatMap_cons]
        have e : steps (u1 ++ [a] ++ (-b :: v2)) = steps (u1 ++ [a]) ++ ((a, b) :: steps (-b :: v2)) := by
          rw [List.append_assoc]
          show steps (u1 ++ a :: (-b :: v2)) = _
          rw [steps_app]
          show _ ++ prI a (- -b) :: _ = _
          rw [Int.neg_neg, pab]
        rw [e]
        refine List.Perm.trans ?_ (List.Perm.cons _ this)
        refine (List.Perm.append_right _ (List.Perm.append_right _ List.perm_middle)).trans ?_
        show ((a, b) :: ((steps (u1 ++ [a]) ++ steps (-b :: v2)) ++ R1.flatMap steps ++ G.flatMap ringC)).Perm _
        refine List.Perm.cons _ (List.Perm.append_right _ ?_)
        rw [List.append_assoc]
        exact List.perm_append_comm_assoc _ _ _
end
end Vf

namespace Vf
open PySem PySem.Spec PyProof.Rows L2

/-! ### a list of marks -/
def marks (n : Int) (s : Nat → Bool) : List V := (List.range (n.toNat + 1)).map fun q => V.bl (s q)
theorem marks_len (n : Int) (s : Nat → Bool) : (marks n s).length = n.toNat + 1 := by unfold marks; rw [List.length_map, List.length_range]
theorem marks_at {n : Int} {s : Nat → Bool} {i : Int} (h0 : 0 ≤ i) (h1 : i ≤ n) : atI (marks n s) i = some (.bl (s i.toNat)) := by
  refine at_of (j := i.toNat) (by omega) ?_
  unfold marks
  rw [List.getElem?_map, List.getElem?_range (by omega)]
  rfl
theorem marks_ix {n : Int} {s : Nat → Bool} {i : Int} (h0 : 0 ≤ i) (h1 : i ≤ n) : ixN (marks n s).length i = some i.toNat := by
  rw [marks_len, ixN_of (by omega) (by omega), if_pos h0]
theorem marks_set {n : Int} {s : Nat → Bool} {i : Nat} : (marks n s).set i (.bl true) = marks n fun q => if q = i then true else s q := by
  unfold marks
  refine List.ext_getElem? fun j => ?_
  rw [List.getElem?_set, List.getElem?_map, List.getElem?_map, List.length_map, List.length_range]
  by_cases c : i = j
  · subst c
    rw [if_pos rfl]
    by_cases c2 : i < n.toNat + 1
    · rw [if_pos c2, List.getElem?_range c2]
      show _ = some (V.bl (if i = i then true else s i))
      rw [if_pos rfl]
    · rw [if_neg c2, List.getElem?_eq_none (by simpa using c2)]; rfl
  · rw [if_neg c]
    by_cases c2 : j < n.toNat + 1
    · rw [List.getElem?_range c2]
      show some (V.bl (s j)) = some (V.bl (if j = i then true else s j))
      rw [if_neg (fun z => c z.symm)]
    · rw [List.getElem?_eq_none (by simpa using c2)]; rfl
theorem marks_new {n : Int} (h : 0 ≤ n) : (List.replicate (n + 1).toNat [V.bl false]).flatten = marks n fun _ => false := by
  unfold marks
  rw [show (n + 1).toNat = n.toNat + 1 by omega]
  generalize n.toNat + 1 = k
  induction k with
  | zero => rfl
  | succ k ih =>
    rw [List.range_succ, List.map_append, ← ih]
    show _ = _ ++ [V.bl false]
    rw [List.replicate_succ', List.flatten_append]
    rfl

/-! ### all but some -/
theorem hid_ils {H : Hp} {t : List Addr} {xs : List V} {R : List (List Int)} (h : ILs H xs R) (n : ∀ c, V.ref c ∈ xs → c ∉ t) : ILs (Hid t H) xs R := by
  induction h with
  | nil => exact .nil
  | @cons x r xs R f _ ih =>
    obtain ⟨c, rfl, e⟩ := f
    exact .cons ⟨c, rfl, hid_get e (n c (by simp))⟩ (ih fun c hc => n c (List.mem_cons_of_mem _ hc))
theorem hid_un {H : Hp} {t : List Addr} {b : Addr} {o : HO} (h : Hid t H b = some o) : b ∉ t := fun z => by
  unfold Hid at h
  rw [if_pos z] at h
  cases h
theorem hid_set {H H' : Hp} {t : List Addr} {a : Addr} {o : HO} (s : Same (Hid t H) H') (h : a ∈ t) : Same (Hid t H) (upd H' a o) := fun b u e => by
  have := s b u e
  rw [upd_ne (fun z : b = a => hid_un e (z ▸ h))]
  exact this
/-- a new list of new lists of ints -/
structure NewR (H H' : Hp) (a : Addr) (xs : List V) (R : List (List Int)) : Prop where
  new : H a = none
  at' : H' a = some (.lst xs)
  ils : ILs H' xs R
  fresh : ∀ c, V.ref c ∈ xs → H c = none

/-! ### what is read so far -/
structure Stt (n : Int) (R G : List (List Int)) (k : Int) (Ra Ga : List (List Int)) (s : Nat → Bool) : Prop where
  ndR : Ra.Nodup
  inR : ∀ r, r ∈ Ra ↔ r ∈ R ∧ mnA r ≤ k
  asG : Ga.Pairwise fun g g' => mnA g < mnA g'
  inG : ∀ g, g ∈ Ga ↔ g ∈ G ∧ mnA g ≤ k
  mark : ∀ q : Nat, k < q → (q : Int) ≤ n → (s q = true ↔ ∃ r, (r ∈ R ∨ r ∈ G) ∧ mnA r ≤ k ∧ ∃ x ∈ r, ab x = q)
section
variable {n : Int} {L : List (Int × Int)} {R G Ra Ga : List (List Int)} {k : Int} {s s' : Nat → Bool}
theorem mn_le {r : List Int} {x : Int} (h : x ∈ r) : mnA r ≤ ab x := (mnA_is (fun e => by rw [e] at h; cases h)).2 x h
theorem Sys.mnPos (h : Sys n L R G) {r : List Int} (hr : r ∈ R ∨ r ∈ G) : 1 ≤ mnA r ∧ mnA r ≤ n := by
  rcases hr with hr | hr
  · obtain ⟨⟨x, hx, e⟩, _⟩ := mnA_is (h.neR r hr)
    rw [e]; exact h.rangeR hr hx
  · obtain ⟨⟨x, hx, e⟩, _⟩ := mnA_is (h.neG r hr)
    rw [e]; exact h.rangeG hr hx
/-- one piece stands in one reading -/
theorem Sys.same (h : Sys n L R G) {r r' : List Int} {x y : Int} (hr : r ∈ R ∨ r ∈ G) (hr' : r' ∈ R ∨ r' ∈ G) (hx : x ∈ r) (hy : y ∈ r') (e : ab x = ab y) : r = r' ∧ x = y := by
  rcases hr with hr | hr <;> rcases hr' with hr' | hr'
  · exact h.uR hr hr' hx hy e
  · exact absurd e (h.apart hr hr' hx hy)
  · exact absurd e.symm (h.apart hr' hr hy hx)
  · exact h.uG hr hr' hx hy e
theorem Sys.cover (h : Sys n L R G) {p : Int} (h1 : 1 ≤ p) (h2 : p ≤ n) : ∃ r x, (r ∈ R ∨ r ∈ G) ∧ x ∈ r ∧ ab x = p := by
  rcases List.mem_append.mp (h.pcs.mem_iff.mpr (mem_rng.mpr (by omega : 1 ≤ p ∧ p < 1 + n.toNat))) with z | z
  · obtain ⟨x, hx, e⟩ := List.mem_map.mp z
    obtain ⟨r, hr, hx⟩ := List.mem_flatten.mp hx
    exact ⟨r, x, .inl hr, hx, e⟩
  · obtain ⟨x, hx, e⟩ := List.mem_map.mp z
    obtain ⟨r, hr, hx⟩ := List.mem_flatten.mp hx
    exact ⟨r, x, .inr hr, hx, e⟩
theorem Stt.start (h : Sys n L R G) : Stt n R G 0 [] [] fun _ => false := by
  refine ⟨List.nodup_nil, fun r => ⟨fun z => (by cases z), fun z => ?_⟩, .nil, fun r => ⟨fun z => (by cases z), fun z => ?_⟩, fun q _ _ => ⟨fun z => (by cases z), ?_⟩⟩
  · have := h.mnPos (.inl z.1); omega
  · have := h.mnPos (.inr z.1); omega
  · rintro ⟨r, hr, z, _⟩
    have := h.mnPos hr; omega
theorem mn_ab {r : List Int} (ne : r ≠ []) : ∃ x ∈ r, ab x = mnA r := by
  obtain ⟨⟨x, hx, e⟩, _⟩ := mnA_is ne
  exact ⟨x, hx, e.symm⟩
theorem Sys.ne (h : Sys n L R G) {r : List Int} (hr : r ∈ R ∨ r ∈ G) : r ≠ [] := hr.elim (h.neR r) (h.neG r)
theorem Stt.skip (h : Sys n L R G) (st : Stt n R G k Ra Ga s) (k0 : 0 ≤ k) (hk : k + 1 ≤ n) (hs : s (k + 1).toNat = true) : Stt n R G (k + 1) Ra Ga s := by
  obtain ⟨r0, hr0, m0, x0, hx0, e0⟩ := (st.mark (k + 1).toNat (by omega) (by omega)).mp hs
  have no : ∀ r, (r ∈ R ∨ r ∈ G) → mnA r ≤ k + 1 → mnA r ≤ k := fun r hr hm => by
    by_cases c : mnA r ≤ k
    · exact c
    · obtain ⟨x, hx, e⟩ := mn_ab (h.ne hr)
      have := (h.same hr hr0 hx hx0 (by rw [e, e0]; omega)).1
      rw [this]; exact m0
  refine ⟨st.ndR, fun r => ⟨fun z => ?_, fun z => (st.inR r).mpr ⟨z.1, no r (.inl z.1) z.2⟩⟩, st.asG, fun r => ⟨fun z => ?_, fun z => (st.inG r).mpr ⟨z.1, no r (.inr z.1) z.2⟩⟩, fun q h1 h2 => ?_⟩
  · have := (st.inR r).mp z; exact ⟨this.1, by omega⟩
  · have := (st.inG r).mp z; exact ⟨this.1, by omega⟩
  · rw [st.mark q (by omega) h2]
    constructor
    · rintro ⟨r, a, b, c⟩; exact ⟨r, a, by omega, c⟩
    · rintro ⟨r, a, b, c⟩; exact ⟨r, a, no r a b, c⟩
theorem Stt.cases (h : NSys n L R G) (st : Stt n R G k Ra Ga s) (k0 : 0 ≤ k) (hk : k + 1 ≤ n) (hs : s (k + 1).toNat = false) : (∃ pre post, (pre ++ (k + 1) :: post) ∈ R ∧ mnA (pre ++ (k + 1) :: post) = k + 1) ∨ ∃ t, ((k + 1) :: t) ∈ G ∧ mnA ((k + 1) :: t) = k + 1 := by
  obtain ⟨r, x, hr, hx, e⟩ := h.toSys.cover (p := k + 1) (by omega) hk
  have m1 : mnA r ≤ k + 1 := e ▸ mn_le hx
  have m2 : mnA r = k + 1 := by
    by_cases c : mnA r ≤ k
    · have := (st.mark (k + 1).toNat (by omega) (by omega)).mpr ⟨r, hr, c, x, hx, by rw [e]; omega⟩
      rw [hs] at this; cases this
    · omega
  rcases hr with hr | hr
  · obtain ⟨u, v, e2⟩ := List.append_of_mem (h.nR r hr)
    rw [m2] at e2
    exact .inl ⟨u, v, e2 ▸ hr, e2 ▸ m2⟩
  · obtain ⟨t, e2⟩ := h.nG r hr
    rw [m2] at e2
    exact .inr ⟨t, e2 ▸ hr, e2 ▸ m2⟩
theorem Stt.row (h : Sys n L R G) (st : Stt n R G k Ra Ga s) {pre post : List Int} (k0 : 0 ≤ k) (hr : (pre ++ (k + 1) :: post) ∈ R) (hm : mnA (pre ++ (k + 1) :: post) = k + 1) (hs : ∀ q, s' q = true ↔ s q = true ∨ ∃ x ∈ pre ++ post, ab x = (q : Int)) :
    Stt n R G (k + 1) (Ra ++ [pre ++ (k + 1) :: post]) Ga s' := by
  have one : ∀ r, (r ∈ R ∨ r ∈ G) → mnA r = k + 1 → r = pre ++ (k + 1) :: post := fun r hr' e => by
    obtain ⟨x, hx, e1⟩ := mn_ab (h.ne hr')
    obtain ⟨y, hy, e2⟩ := mn_ab (h.ne (.inl hr))
    exact (h.same hr' (.inl hr) hx hy (by rw [e1, e2, e, hm])).1
  refine ⟨?_, fun r => ?_, st.asG, fun g => ?_, fun q h1 h2 => ?_⟩
  · rw [List.nodup_append]
    refine ⟨st.ndR, by simp, fun a ha b hb e => ?_⟩
    rw [List.mem_singleton.mp hb] at e
    have := ((st.inR a).mp ha).2
    rw [e, hm] at this
    omega
  · rw [List.mem_append, List.mem_singleton, st.inR]
    constructor
    · rintro (⟨a, b⟩ | rfl)
      · exact ⟨a, by omega⟩
      · exact ⟨hr, by omega⟩
    · rintro ⟨a, b⟩
      by_cases c : mnA r ≤ k
      · exact .inl ⟨a, c⟩
      · exact .inr (one r (.inl a) (by omega))
  · rw [st.inG]
    constructor
    · rintro ⟨a, b⟩; exact ⟨a, by omega⟩
    · rintro ⟨a, b⟩
      refine ⟨a, ?_⟩
      by_cases c : mnA g ≤ k
      · exact c
      · have e := one g (.inr a) (by omega)
        obtain ⟨x, hx, _⟩ := mn_ab (h.ne (.inr a))
        exact absurd rfl (h.apart hr a (e ▸ hx) hx)
  · rw [hs, st.mark q (by omega) h2]
    constructor
    · rintro (⟨r, a, b, c⟩ | ⟨x, hx, e⟩)
      · exact ⟨r, a, by omega, c⟩
      · refine ⟨_, .inl hr, by omega, x, ?_, e⟩
        rcases List.mem_append.mp hx with z | z
        · simp [z]
        · simp [z]
    · rintro ⟨r, a, b, x, hx, e⟩
      by_cases c : mnA r ≤ k
      · exact .inl ⟨r, a, c, x, hx, e⟩
      · have e2 := one r a (by omega)
        refine .inr ⟨x, ?_, e⟩
        rw [e2] at hx
        rcases List.mem_append.mp hx with z | z
        · simp [z]
        · rcases List.mem_cons.mp z with z | z
          · rw [z] at e; unfold ab at e; omega
          · simp [z]
theorem Stt.ring (h : Sys n L R G) (st : Stt n R G k Ra Ga s) {t : List Int} (k0 : 0 ≤ k) (hr : ((k + 1) :: t) ∈ G) (hm : mnA ((k + 1) :: t) = k + 1) (hs : ∀ q, s' q = true ↔ s q = true ∨ ∃ x ∈ t, ab x = (q : Int)) :
    Stt n R G (k + 1) Ra (Ga ++ [(k + 1) :: t]) s' := by
  have one : ∀ r, (r ∈ R ∨ r ∈ G) → mnA r = k + 1 → r = (k + 1) :: t := fun r hr' e => by
    obtain ⟨x, hx, e1⟩ := mn_ab (h.ne hr')
    obtain ⟨y, hy, e2⟩ := mn_ab (h.ne (.inr hr))
    exact (h.same hr' (.inr hr) hx hy (by rw [e1, e2, e, hm])).1
  refine ⟨st.ndR, fun g => ?_, ?_, fun r => ?_, fun q h1 h2 => ?_⟩
  · rw [st.inR]
    constructor
    · rintro ⟨a, b⟩; exact ⟨a, by omega⟩
    · rintro ⟨a, b⟩
      refine ⟨a, ?_⟩
      by_cases c : mnA g ≤ k
      · exact c
      · have e := one g (.inl a) (by omega)
        obtain ⟨x, hx, _⟩ := mn_ab (h.ne (.inl a))
        exact absurd rfl (h.apart a hr hx (e ▸ hx))
  · rw [List.pairwise_append]
    refine ⟨st.asG, List.pairwise_singleton _ _, fun a ha b hb => ?_⟩
    have := ((st.inG a).mp ha).2
    rw [List.mem_singleton.mp hb, hm]
    omega
  · rw [List.mem_append, List.mem_singleton, st.inG]
    constructor
    · rintro (⟨a, b⟩ | rfl)
      · exact ⟨a, by omega⟩
      · exact ⟨hr, by omega⟩
    · rintro ⟨a, b⟩
      by_cases c : mnA r ≤ k
      · exact .inl ⟨a, c⟩
      · exact .inr (one r (.inr a) (by omega))
  · rw [hs, st.mark q (by omega) h2]
    constructor
    · rintro (⟨r, a, b, c⟩ | ⟨x, hx, e⟩)
      · exact ⟨r, a, by omega, c⟩
      · exact ⟨_, .inr hr, by omega, x, List.mem_cons_of_mem _ hx, e⟩
    · rintro ⟨r, a, b, x, hx, e⟩
      by_cases c : mnA r ≤ k
      · exact .inl ⟨r, a, c, x, hx, e⟩
      · have e2 := one r a (by omega)
        refine .inr ⟨x, ?_, e⟩
        rw [e2] at hx
        rcases List.mem_cons.mp hx with z | z
        · rw [z] at e; unfold ab at e; omega
        · exact z
theorem nd_lists (h : Sys n L R G) : R.Nodup ∧ G.Nodup := by
  have gen : ∀ {R : List (List Int)}, (R.flatten.map ab).Nodup → (∀ r ∈ R, r ≠ []) → R.Nodup := fun {R} => by
    induction R with
    | nil => intro _ _; exact List.nodup_nil
    | cons r R ih =>
      intro nd ne
      rw [List.flatten_cons, List.map_append] at nd
      obtain ⟨_, n2, n3⟩ := List.nodup_append.mp nd
      refine List.nodup_cons.mpr ⟨fun z => ?_, ih n2 fun q hq => ne q (List.mem_cons_of_mem _ hq)⟩
      obtain ⟨x, hx⟩ := List.exists_mem_of_ne_nil r (ne r List.mem_cons_self)
      exact n3 (ab x) (List.mem_map.mpr ⟨x, hx, rfl⟩) (ab x) (List.mem_map.mpr ⟨x, List.mem_flatten.mpr ⟨r, z, hx⟩, rfl⟩) rfl
  exact ⟨gen (List.nodup_append.mp h.nd).1 h.neR, gen (List.nodup_append.mp h.nd).2.1 h.neG⟩
theorem Stt.done (h : Sys n L R G) (st : Stt n R G n Ra Ga s) : Ra.Perm R ∧ Ga.Perm G := by
  obtain ⟨n1, n2⟩ := nd_lists h
  have ng : Ga.Nodup := st.asG.imp fun z e => by rw [e] at z; omega
  refine ⟨(List.perm_ext_iff_of_nodup st.ndR n1).mpr fun r => ?_, (List.perm_ext_iff_of_nodup ng n2).mpr fun r => ?_⟩
  · rw [st.inR]; exact ⟨fun z => z.1, fun z => ⟨z, (h.mnPos (.inl z)).2⟩⟩
  · rw [st.inG]; exact ⟨fun z => z.1, fun z => ⟨z, (h.mnPos (.inr z)).2⟩⟩
/-- rings by their least pieces stand in the order of lists -/
theorem ringsSrt (h : NSys n L R G) (p : Ga.Perm G) (a : Ga.Pairwise fun g g' => mnA g < mnA g') : Ga = srtR G := by
  rw [← srtR_eq p]
  refine (srtR_id ?_).symm
  refine List.Pairwise.imp_of_mem (fun {x y} hx hy z => ?_) a
  obtain ⟨t, e⟩ := h.nG x (p.mem_iff.mp hx)
  obtain ⟨u, e2⟩ := h.nG y (p.mem_iff.mp hy)
  rw [e, e2]
  exact List.le_of_lt (List.cons_lt_cons_iff.mpr (.inl z))
/-! the way along a row -/
def nxR (E : Int) : List Int → Int
  | [] => E
  | y :: _ => -y
def nxL : List Int → Int
  | [] => 0
  | y :: _ => y
theorem Sys.walkR (h : Sys n L R G) (hL : Lay n L) {pre post : List Int} {p : Int} (hr : (pre ++ p :: post) ∈ R) : ptb L p = nxR 0 post ∧ ∀ d y rest, post = d ++ y :: rest → ptb L y = nxR 0 rest ∧ y ≠ 0 ∧ -n ≤ y ∧ y ≤ n ∧ y ≠ p ∧ y ≠ -p := by
  have gen : ∀ u x v, pre ++ p :: post = u ++ x :: v → ptb L x = nxR 0 v := fun u x v e => by
    cases v with
    | nil => exact h.open1 hL hr e
    | cons y v => exact (h.row hL hr e).1
  refine ⟨gen pre p post rfl, fun d y rest e => ?_⟩
  have e2 : pre ++ p :: post = (pre ++ p :: d) ++ y :: rest := by rw [e]; simp
  have hy : y ∈ pre ++ p :: post := by rw [e2]; simp
  have rg := h.rangeR hr hy
  have nd := h.ndR hr
  have ne : ab y ≠ ab p := fun z => by
    rw [e, List.map_append, List.map_cons] at nd
    have := (List.nodup_cons.mp (List.nodup_append.mp nd).2.1).1
    exact this (by rw [← z]; simp)
  refine ⟨gen _ y rest e2, ?_, ?_, ?_, fun z => ne (by rw [z]), fun z => ne (by rw [z, ab_neg])⟩ <;> (unfold ab at rg; omega)
theorem Sys.walkL (h : Sys n L R G) (hL : Lay n L) {pre post : List Int} {p : Int} (hr : (pre ++ p :: post) ∈ R) : ptb L (-p) = nxL pre.reverse ∧ ∀ d y rest, pre.reverse = d ++ y :: rest → ptb L (-y) = nxL rest ∧ y ≠ 0 ∧ -n ≤ y ∧ y ≤ n := by
  have gen : ∀ u x v, pre ++ p :: post = u ++ x :: v → ptb L (-x) = nxL u.reverse := fun u x v e => by
    rcases List.eq_nil_or_concat u with rfl | ⟨w, y, rfl⟩
    · exact h.open2 hL hr e
    · rw [show w.concat y ++ x :: v = w ++ y :: x :: v by simp] at e
      rw [(h.row hL hr e).2.1]
      simp [nxL]
  refine ⟨gen pre p post rfl, fun d y rest e => ?_⟩
  have e1 : pre = rest.reverse ++ y :: d.reverse := by
    have := congrArg List.reverse e
    rw [List.reverse_reverse] at this
    rw [this]
    simp
  have e2 : pre ++ p :: post = rest.reverse ++ y :: (d.reverse ++ p :: post) := by rw [e1]; simp
  have hy : y ∈ pre ++ p :: post := by rw [e2]; simp
  have rg := h.rangeR hr hy
  have := gen _ y _ e2
  rw [List.reverse_reverse] at this
  refine ⟨this, ?_, ?_, ?_⟩ <;> (unfold ab at rg; omega)
theorem Sys.walkG (h : Sys n L R G) (hL : Lay n L) {t : List Int} {p : Int} (hr : (p :: t) ∈ G) : ptb L p = nxR (-p) t ∧ ∀ d y rest, t = d ++ y :: rest → ptb L y = nxR (-p) rest ∧ y ≠ 0 ∧ -n ≤ y ∧ y ≤ n ∧ y ≠ p ∧ y ≠ -p := by
  have gen : ∀ u x v, p :: t = u ++ x :: v → ptb L x = nxR (-p) v := fun u x v e => by
    have e2 : p :: (t ++ [p]) = u ++ x :: (v ++ [p]) := by rw [← List.cons_append, e]; simp
    cases v with
    | nil => exact (h.ring hL hr e2).1
    | cons y v => exact (h.ring hL hr e2).1
  refine ⟨gen [] p t rfl, fun d y rest e => ?_⟩
  have e2 : p :: t = (p :: d) ++ y :: rest := by rw [e]; simp
  have hy : y ∈ p :: t := by rw [e2]; simp
  have rg := h.rangeG hr hy
  have nd := h.ndG hr
  have ne : ab y ≠ ab p := fun z => by
    rw [List.map_cons] at nd
    exact (List.nodup_cons.mp nd).1 (by rw [← z, e]; simp)
  refine ⟨gen _ y rest e2, ?_, ?_, ?_, fun z => ne (by rw [z]), fun z => ne (by rw [z, ab_neg])⟩ <;> (unfold ab at rg; omega)
theorem rng_split {lo p : Int} {m : Nat} {d r : List Int} (e : rng lo m = d ++ p :: r) : p = lo + d.length ∧ d.length < m := by
  have h := congrArg (fun l => l[d.length]?) e
  simp only [List.getElem?_append_right (Nat.le_refl _), Nat.sub_self, List.getElem?_cons_zero] at h
  have hl := congrArg List.length e
  rw [rng_len, List.length_append, List.length_cons] at hl
  unfold rng at h
  rw [List.getElem?_map, List.getElem?_range (by omega)] at h
  exact ⟨by simpa using h.symm, by omega⟩
theorem Sys.few (h : Sys n L R G) (h60 : n ≤ 60) {r : List Int} (hr : r ∈ R ∨ r ∈ G) : r.length ≤ 60 := by
  have nd : (r.map ab).Nodup := hr.elim (fun z => h.ndR z) fun z => h.ndG z
  have := nodup_sub (m := rng 1 n.toNat) nd fun x hx => by
    obtain ⟨y, hy, rfl⟩ := List.mem_map.mp hx
    have := hr.elim (fun z => h.rangeR z hy) fun z => h.rangeG z hy
    exact mem_rng.mpr (by omega)
  rw [List.length_map, rng_len] at this
  omega
theorem Stt.kase (h : NSys n L R G) (hL : Lay n L) (st : Stt n R G k Ra Ga s) (k0 : 0 ≤ k) (hk : k + 1 ≤ n) (hs : s (k + 1).toNat = false) :
    ∃ E post, ((E = 0 ∧ ∃ pre, (pre ++ (k + 1) :: post) ∈ R ∧ mnA (pre ++ (k + 1) :: post) = k + 1) ∨ (E = -(k + 1) ∧ ((k + 1) :: post) ∈ G ∧ mnA ((k + 1) :: post) = k + 1)) ∧ post.length ≤ 60 ∧ ptb L (k + 1) = nxR E post ∧
      ∀ d y rest, post = d ++ y :: rest → ptb L y = nxR E rest ∧ y ≠ 0 ∧ -n ≤ y ∧ y ≤ n ∧ y ≠ k + 1 ∧ y ≠ -(k + 1) := by
  rcases st.cases h k0 hk hs with ⟨pre, post, hr, hm⟩ | ⟨t, hg, hm⟩
  · have hl := h.toSys.few hL.n60 (.inl hr)
    rw [List.length_append, List.length_cons] at hl
    exact ⟨0, post, .inl ⟨rfl, pre, hr, hm⟩, by omega, (h.toSys.walkR hL hr).1, (h.toSys.walkR hL hr).2⟩
  · have hl := h.toSys.few hL.n60 (.inr hg)
    rw [List.length_cons] at hl
    exact ⟨_, t, .inr ⟨rfl, hg, hm⟩, by omega, (h.toSys.walkG hL hg).1, (h.toSys.walkG hL hg).2⟩
theorem Sys.numR (h : Sys n L R G) (h60 : n ≤ 60) : R.length ≤ 60 ∧ G.length ≤ 60 := by
  have len : ∀ {R : List (List Int)}, (∀ r ∈ R, r ≠ []) → R.length ≤ (R.flatten.map ab).length := fun {R} => by
    induction R with
    | nil => intro _; exact Nat.zero_le _
    | cons r R ih =>
      intro ne
      have h1 := ih fun q hq => ne q (List.mem_cons_of_mem _ hq)
      have h2 := List.length_pos_iff.mpr (ne r List.mem_cons_self)
      rw [List.flatten_cons, List.map_append, List.length_append, List.length_cons, List.length_map]
      omega
  have h1 := len h.neR
  have h2 := len h.neG
  have h3 := h.pcs.length_eq
  rw [List.length_append, rng_len] at h3
  omega
end
end Vf

namespace Vf
open PySem PySem.Spec PyProof.Rows L2

/-! ### ranges as lists; what stands apart -/
theorem rgV_eq (a b : Int) : rgV a b = (rng a (b - a).toNat).map V.int := by unfold rgV rng; rw [List.map_map]; rfl
theorem r_lstRg2 {ta tb : TE} {σ : L2.St} {H : Hp} {Q : VK} (h : ta σ H fun x H1 => tb σ H1 fun y H2 => ∃ i j, x = .int i ∧ y = .int j ∧ RgOk i j ∧ ∀ q, H2 q = none → Q (.ref q) (upd H2 q (.lst ((rng i (j - i).toNat).map V.int)))) : tLstRg (tRg2 ta tb) σ H Q := by
  have e : (fun a b (H1 : Hp) => RgOk a b ∧ ∀ q, H1 q = none → Q (.ref q) (upd H1 q (.lst (rgV a b)))) = fun a b H1 => RgOk a b ∧ ∀ q, H1 q = none → Q (.ref q) (upd H1 q (.lst ((rng a (b - a).toNat).map V.int))) := by
    funext a b H1
    rw [rgV_eq]
  show tRg2 ta tb σ H _
  rw [e]
  exact h
theorem hid_butL {t : Addr} {ts : List Addr} {H H' : Hp} (b : But t H H') (h : t ∈ ts) : Hid ts H' = Hid ts H := funext fun x => by
  unfold Hid
  by_cases c : x ∈ ts
  · rw [if_pos c, if_pos c]
  · rw [if_neg c, if_neg c, b x fun z => c (z ▸ h)]
/-- a list of lists of ints at a place -/
def LL (H : Hp) (a : Addr) (R : List (List Int)) : Prop := ∃ xs, H a = some (.lst xs) ∧ ILs H xs R
theorem LL.mono {H H' : Hp} {a : Addr} {R : List (List Int)} (s : Same H H') (h : LL H a R) : LL H' a R := let ⟨xs, e, f⟩ := h; ⟨xs, s _ _ e, f.mono s⟩
theorem LL.dp {K : PySem.W.Frag} {H : Hp} {a : Addr} {R : List (List Int)} (h : LL H a R) : Dp K H (.ref a) (dRs R) := let ⟨xs, e, f⟩ := h; .lst (sql e) (dpa_ils f)

/-! ### the couplings of readings, pair by pair -/
def zs (la lb : List Int) : List (Int × Int) := (la.zip lb).map fun p => prI p.1 (0 - p.2)
theorem zs_cons (x y : Int) (la lb : List Int) : zs (x :: la) (y :: lb) = prI x (0 - y) :: zs la lb := rfl
theorem steps_zip : ∀ r : List Int, steps r = zs r (r.drop 1)
  | [] => rfl
  | [x] => rfl
  | x :: y :: t => by
    rw [steps_cons2, steps_zip (y :: t)]
    show _ = zs (x :: y :: t) (y :: t)
    rw [zs_cons, Int.zero_sub]
    rfl
theorem zs_last (z : Int) : ∀ (t : List Int) (x : Int), zs (x :: (t ++ [z])) (t ++ [z]) = zs (x :: t) (t ++ [z])
  | [], x => rfl
  | y :: t, x => by
    show zs (x :: y :: (t ++ [z])) (y :: (t ++ [z])) = zs (x :: y :: t) (y :: (t ++ [z]))
    rw [zs_cons, zs_cons, zs_last z t y]
theorem ringC_zip : ∀ r : List Int, ringC r = zs r (r.drop 1 ++ r.take 1)
  | [] => rfl
  | x :: t => by
    show steps (x :: (t ++ [x])) = zs (x :: t) (t ++ [x])
    rw [steps_zip]
    exact zs_last x t x
theorem r_lcZ {K : PySem.W.Frag} {a b : Addr} {xs ys : List V} {g : TG} {tt : TT} {te : TE} {vs : List Nat} {D : Addr} {σ : L2.St} {H1 : Hp} {Qd : Hp → Prop} (Pv : Nat → Hp → Prop) (h0 : Pv 0 (upd H1 D (.lst [])))
    (hk : ∀ i H, Pv i H → SqL K H a xs ∧ SqL K H b ys) (hs : ∀ i x y T H, xs[i]? = some x → ys[i]? = some y → Pv i H → H T = none → g (.ref T) (wipe σ vs) (upd H T (.tup [x, y])) fun σ2 H2 => wipe σ2 vs = wipe σ vs ∧ tt σ2 H2 fun b H3 =>
      if b = true then te σ2 H3 fun y H4 => ∃ acc, H4 D = some (.lst acc) ∧ acc.length < sizeLine ∧ Pv (i + 1) (upd H4 D (.lst (acc ++ [y]))) else Pv (i + 1) H3) (hd : ∀ H, Pv (min xs.length ys.length) H → Qd H) : LcW (Itz K a b) g tt te vs D σ H1 Qd := by
  refine ⟨fun i m H => m = min xs.length ys.length - i ∧ i ≤ min xs.length ys.length ∧ Pv i H, ⟨_, rfl, Nat.zero_le _, h0⟩, ?_⟩
  rintro i m H ⟨rfl, hi, p0⟩
  obtain ⟨q1, q2⟩ := hk i H p0
  by_cases hlt : i < min xs.length ys.length
  · refine .inr ⟨⟨xs, ys, xs[i]'(by omega), ys[i]'(by omega), q1, q2, by simp, by simp⟩, Pv (i + 1), fun H' p' => ⟨min xs.length ys.length - (i + 1), by omega, rfl, by omega, p'⟩, fun v H' z => ?_⟩
    obtain ⟨T, x, y, rfl, nT, rfl, f1, f2⟩ := z
    exact hs i x y T H (f1 xs q1) (f2 ys q2) p0 nT
  · have e : i = min xs.length ys.length := by omega
    subst e
    exact .inl ⟨⟨xs, ys, q1, q2, by omega⟩, hd H p0⟩

/-! ### readings that are dealt make a layout -/
theorem flat_steps : ∀ r : List Int, (flat (steps r)).Perm (r.dropLast ++ r.tail.map fun x => -x)
  | [] => List.Perm.refl _
  | [x] => List.Perm.refl _
  | x :: y :: t => by
    rw [steps_cons2, flat_cons]
    have p1 : ([(prI x (-y)).1, (prI x (-y)).2] : List Int).Perm [x, -y] := by
      unfold prI
      by_cases c : x ≤ -y
      · simp only [Int.min_eq_left c, Int.max_eq_right c]; exact List.Perm.refl _
      · simp only [Int.min_eq_right (Int.le_of_lt (Int.not_le.mp c)), Int.max_eq_left (Int.le_of_lt (Int.not_le.mp c))]; exact List.Perm.swap _ _ _
    show ([(prI x (-y)).1, (prI x (-y)).2] ++ flat (steps (y :: t))).Perm (x :: (y :: t).dropLast ++ (-y :: t.map fun x => -x))
    refine (p1.append (flat_steps (y :: t))).trans ?_
    show (x :: -y :: ((y :: t).dropLast ++ t.map fun x => -x)).Perm (x :: ((y :: t).dropLast ++ (-y :: t.map fun x => -x)))
    exact List.Perm.cons _ List.perm_middle.symm
theorem flat_ring (r : List Int) : (flat (ringC r)).Perm (r ++ r.map fun x => -x) := by
  cases r with
  | nil => exact List.Perm.refl _
  | cons x t =>
    show (flat (steps (x :: (t ++ [x])))).Perm _
    refine (flat_steps _).trans ?_
    have e : (x :: (t ++ [x])).dropLast = x :: t := by rw [← List.cons_append, List.dropLast_concat]
    rw [e]
    refine List.Perm.append_left _ ?_
    show ((t ++ [x]).map fun x => -x).Perm _
    refine List.Perm.map _ ?_
    exact List.perm_append_comm
/-- readings that hold each piece once -/
structure Dealt (n : Int) (R G : List (List Int)) : Prop where
  neR : ∀ r ∈ R, r ≠ []
  neG : ∀ r ∈ G, r ≠ []
  pcs : (R.flatten.map ab ++ G.flatten.map ab).Perm (rng 1 n.toNat)
theorem flat_flatMap {α : Type} (f : α → List (Int × Int)) : ∀ l : List α, flat (l.flatMap f) = l.flatMap fun a => flat (f a)
  | [] => rfl
  | a :: l => by rw [List.flatMap_cons, List.flatMap_cons, flat_app, flat_flatMap f l]
theorem inter_perm {α : Type} (A B : α → List Int) : ∀ l : List α, (l.flatMap fun a => A a ++ B a).Perm (l.flatMap A ++ l.flatMap B)
  | [] => List.Perm.refl _
  | a :: l => by
    rw [List.flatMap_cons, List.flatMap_cons, List.flatMap_cons]
    refine ((inter_perm A B l).append_left _).trans ?_
    rw [List.append_assoc, List.append_assoc]
    exact List.Perm.append_left _ (List.perm_append_comm_assoc _ _ _)
theorem sub_flatMap {f : List Int → List Int} (h : ∀ r, (f r).Sublist r) : ∀ R : List (List Int), (R.flatMap f).Sublist R.flatten
  | [] => List.Sublist.refl _
  | r :: R => by rw [List.flatMap_cons, List.flatten_cons]; exact (h r).append (sub_flatMap h R)
theorem Dealt.flatNd {n : Int} {R G : List (List Int)} (h : Dealt n R G) : (flat (cps R G)).Nodup ∧ ∀ e ∈ flat (cps R G), ∃ x ∈ R.flatten ++ G.flatten, e = x ∨ e = -x := by
  have ndA : ((R.flatten ++ G.flatten).map ab).Nodup := by rw [List.map_append]; exact h.pcs.nodup_iff.mpr ((rng_asc _ _).imp fun h => by omega)
  have pos : ∀ x ∈ R.flatten ++ G.flatten, 1 ≤ ab x := fun x hx => by
    have : ab x ∈ R.flatten.map ab ++ G.flatten.map ab := by rw [← List.map_append]; exact List.mem_map.mpr ⟨x, hx, rfl⟩
    have := mem_rng.mp (h.pcs.mem_iff.mp this)
    omega
  have P : (flat (cps R G)).Perm ((R.flatMap List.dropLast ++ G.flatten) ++ ((R.flatMap List.tail ++ G.flatten).map fun x => -x)) := by
    unfold cps
    rw [flat_app, flat_flatMap, flat_flatMap]
    have p1 := (flatMap_perm (f := fun r => flat (steps r)) (g := fun r => r.dropLast ++ r.tail.map fun x => -x) (l := R) fun r _ => flat_steps r).trans (inter_perm _ _ R)
    have p2 := (flatMap_perm (f := fun r => flat (ringC r)) (g := fun r => r ++ r.map fun x => -x) (l := G) fun r _ => flat_ring r).trans (inter_perm _ _ G)
    refine (p1.append p2).trans ?_
    have e1 : (R.flatMap fun r => r.tail.map fun x => -x) = (R.flatMap List.tail).map fun x => -x := by rw [List.map_flatMap]
    have e2 : (G.flatMap fun r => r.map fun x => -x) = G.flatten.map fun x => -x := by rw [List.map_flatten, List.flatMap_def]
    have e3 : (G.flatMap fun r => r) = G.flatten := by rw [List.flatMap_def, List.map_id']
    rw [e1, e2, e3, List.map_append, List.append_assoc, List.append_assoc]
    exact List.Perm.append_left _ (List.perm_append_comm_assoc _ _ _)
  have sA : (R.flatMap List.dropLast ++ G.flatten).Sublist (R.flatten ++ G.flatten) := (sub_flatMap (fun r => List.dropLast_sublist r) R).append (List.Sublist.refl _)
  have sB : (R.flatMap List.tail ++ G.flatten).Sublist (R.flatten ++ G.flatten) := (sub_flatMap (fun r => List.tail_sublist r) R).append (List.Sublist.refl _)
  have ndN : (R.flatten ++ G.flatten).Nodup := nd_ab ndA
  refine ⟨P.nodup_iff.mpr ?_, fun e he => ?_⟩
  · refine List.nodup_append.mpr ⟨sA.nodup ndN, ?_, fun x hx y hy e => ?_⟩
    · rw [List.Nodup, List.pairwise_map]
      exact (sB.nodup ndN).imp fun h z => h (by omega)
    · obtain ⟨w, hw, rfl⟩ := List.mem_map.mp hy
      have hx' := sA.subset hx
      have hw' := sB.subset hw
      have one : x = w := by
        rw [List.Nodup, List.pairwise_map] at ndA
        by_cases c : x = w
        · exact c
        · obtain ⟨i, hi⟩ := List.getElem?_of_mem hx'
          obtain ⟨j, hj⟩ := List.getElem?_of_mem hw'
          obtain ⟨i1, i2⟩ := List.getElem?_eq_some_iff.mp hi
          obtain ⟨j1, j2⟩ := List.getElem?_eq_some_iff.mp hj
          have pw := List.pairwise_iff_getElem.mp ndA
          have ea : ab x = ab w := by rw [e, ab_neg]
          rcases Nat.lt_trichotomy i j with z | z | z
          · exact (pw i j i1 j1 z (by rw [i2, j2]; exact ea)).elim
          · subst z; exact absurd (i2.symm.trans j2) c
          · exact (pw j i j1 i1 z (by rw [i2, j2]; exact ea.symm)).elim
      have := pos x hx'
      unfold ab at this
      omega
  · rcases List.mem_append.mp (P.mem_iff.mp he) with z | z
    · exact ⟨e, sA.subset z, .inl rfl⟩
    · obtain ⟨w, hw, rfl⟩ := List.mem_map.mp z
      exact ⟨w, sB.subset hw, .inr rfl⟩
theorem mem_cps {R G : List (List Int)} {p : Int × Int} (h : p ∈ cps R G) : p.1 ≤ p.2 := by
  have ok : ∀ {r : List Int}, p ∈ steps r → p.1 ≤ p.2 := fun {r} hp => by
    obtain ⟨_, x, y, _, _, rfl⟩ := mem_steps.mp hp
    unfold prI; simp only; omega
  rcases List.mem_append.mp h with z | z
  · obtain ⟨r, _, hm⟩ := List.mem_flatMap.mp z
    exact ok hm
  · obtain ⟨g, _, hm⟩ := List.mem_flatMap.mp z
    cases g with
    | nil => cases hm
    | cons a t => exact ok hm
theorem Dealt.lay {n : Int} {R G : List (List Int)} {M : List (Int × Int)} (h : Dealt n R G) (n1 : 1 ≤ n) (n60 : n ≤ 60) (pm : M.Perm (cps R G)) (asc : Asc M) : Lay n M := by
  obtain ⟨nd, al⟩ := h.flatNd
  have ndM : (flat M).Nodup := (flat_perm pm).nodup_iff.mpr nd
  have rg : ∀ e ∈ flat M, -n ≤ e ∧ e ≤ n ∧ e ≠ 0 := fun e he => by
    obtain ⟨x, hx, z⟩ := al e ((flat_perm pm).mem_iff.mp he)
    have : ab x ∈ R.flatten.map ab ++ G.flatten.map ab := by rw [← List.map_append]; exact List.mem_map.mpr ⟨x, hx, rfl⟩
    have := mem_rng.mp (h.pcs.mem_iff.mp this)
    unfold ab at this
    omega
  refine ⟨n1, n60, fun p hp => ?_, asc, ndM⟩
  have h1 := rg p.1 (mem_flat.mpr ⟨p, hp, .inl rfl⟩)
  have h2 := rg p.2 (mem_flat.mpr ⟨p, hp, .inr rfl⟩)
  have h3 := mem_cps (pm.mem_iff.mp hp)
  have ne : p.1 ≠ p.2 := fun z => by
    obtain ⟨u, v, e⟩ := List.append_of_mem hp
    rw [e, flat_app, flat_cons] at ndM
    have := (List.nodup_cons.mp (List.nodup_append.mp ndM).2.1).1
    exact this (by rw [z]; simp)
  exact ⟨h1.1, by omega, h2.2.1, h1.2.2, h2.2.2⟩
theorem Dealt.sys {n : Int} {R G : List (List Int)} {M : List (Int × Int)} (h : Dealt n R G) (pm : M.Perm (cps R G)) : Sys n M R G := ⟨h.neR, h.neG, h.pcs, pm.symm⟩
theorem cut_from {xs : List V} {k : Nat} : cutV xs (some (k : Int)) none = xs.drop k := by
  unfold cutV
  rw [HT.sIx_none, HT.sIx_nat]
  by_cases c : k ≤ xs.length
  · rw [Nat.min_eq_left c, List.take_of_length_le (by rw [List.length_drop]; omega)]
  · rw [Nat.min_eq_right (by omega), List.drop_of_length_le (by omega), List.drop_of_length_le (by omega)]; simp
theorem cut_to {xs : List V} {k : Nat} : cutV xs none (some (k : Int)) = xs.take k := by
  unfold cutV
  rw [HT.sIx_none, HT.sIx_nat]
  rw [Nat.sub_zero, List.drop_zero]
  by_cases c : k ≤ xs.length
  · rw [Nat.min_eq_left c]
  · rw [Nat.min_eq_right (by omega), List.take_of_length_le (Nat.le_refl _), List.take_of_length_le (by omega)]
theorem cut_f1 {xs : List V} : cutV xs (some 1) none = xs.drop 1 := cut_from (k := 1)
theorem cut_t1 {xs : List V} : cutV xs none (some 1) = xs.take 1 := cut_to (k := 1)
theorem filt_t {α : Type} (l : List α) : l.filter (fun _ => true) = l := List.filter_eq_self.mpr fun _ _ => rfl
/-- where a whole number stands first -/
theorem r_idx {K : PySem.W.Frag} {H : Hp} {Q : VK} {p : Addr} {u v : List Int} {m : Int} (hs : SqL K H p ((u ++ m :: v).map V.int)) (hm : m ∉ u) (q : Q (.int (u.length : Nat)) H) : rIndex K (.ref p) [.int m] H Q := by
  refine ⟨p, _, .int m, u.length, .int m, rfl, rfl, hs, rfl, flat_ints _, ?_, by simp [eqV], fun k z hk hz => ?_, q⟩
  · rw [List.getElem?_map, List.getElem?_append_right (Nat.le_refl _), Nat.sub_self]; rfl
  · rw [List.getElem?_map, List.getElem?_append_left hk] at hz
    obtain ⟨x, hx, rfl⟩ := Option.map_eq_some_iff.mp hz
    have : x ≠ m := fun e => hm (e ▸ List.mem_of_getElem? hx)
    simp [eqV, this]
theorem pair_withmem {α β : Type} {F : α → β → Prop} {xs : List α} {L : List β} (h : Paired F xs L) : Paired (fun x p => x ∈ xs ∧ F x p) xs L := by
  induction h with
  | nil => exact .nil
  | cons r _ ih => exact .cons ⟨by simp, r⟩ (pair_mono ih fun _ _ z => ⟨List.mem_cons_of_mem _ z.1, z.2⟩)
theorem asc_uniq {M L : List (Int × Int)} (a1 : Asc M) (a2 : Asc L) (p : M.Perm L) : M = L :=
  p.eq_of_pairwise (le := fun p q : Int × Int => p.1 < q.1 ∨ (p.1 = q.1 ∧ p.2 < q.2)) (fun a b _ _ h1 h2 => by omega) a1 a2
theorem ints_uniq {l m : List Int} (p : l.Perm m) (h : l.Pairwise (· ≤ ·)) (h2 : m.Pairwise (· < ·)) : l = m :=
  p.eq_of_pairwise (le := fun a b : Int => a ≤ b) (fun a b _ _ h1 h2 => by omega) h (h2.imp fun z => by omega)
/-- the data of readings is small -/
theorem Sys.small {n : Int} {L : List (Int × Int)} {R G S : List (List Int)} (h : Sys n L R G) (n60 : n ≤ 60) (hS : ∀ r ∈ S, r ∈ R ∨ r ∈ G) (hl : S.length ≤ 60) : Sm 54303 3 (dRs S) := by
  refine (Sm.lst (N := 903) (k := 2) (ds := S.map dR) fun e he => ?_).mono (by rw [List.length_map]; omega) (by omega)
  obtain ⟨r, hr, rfl⟩ := List.mem_map.mp he
  refine sm_ints (N := 60) (fun i hi => ?_) (h.few n60 (hS r hr))
  have := (hS r hr).elim (fun z => h.rangeR z hi) fun z => h.rangeG z hi
  unfold ab at this
  omega
theorem Sys.nums {n : Int} {L : List (Int × Int)} {R G : List (List Int)} (h : Sys n L R G) : ((R ++ G).flatten.map ab).Perm (rng 1 n.toNat) := by
  rw [List.flatten_append, List.map_append]
  exact h.pcs
/-- the scope of the comprehension that a def's last statement compares -/
def lcCmp (s : Stmt) : Scope := match (defBody s).getLast? with
  | some (.Return (some (.Compare (.ListComp _ _ sc _) _ _ _)) _) => sc
  | _ => defScope s
theorem r_par3 {ts : TA} {σ : L2.St} {H : Hp} {nx bk ct : L2.St → Hp → Prop} {rt : VK} {a b c : Nat} (h : ts σ H fun vs H1 => ∃ u v w, vs = [u, v, w] ∧ nx (((σ.set a (some u)).set b (some v)).set c (some w)) H1) : tPar3 a b c ts ⟨nx, rt, bk, ct⟩ σ H := h
theorem dta_ils {K : PySem.W.Frag} {H : Hp} : ∀ {xs : List V} {R : List (List Int)}, ILs H xs R → DtAll K H xs (R.map dR)
  | _, _, .nil => .nil
  | _, _, .cons ⟨c, e, h⟩ t => .cons (e ▸ .lst h (dta_ints _)) (dta_ils t)
theorem at_last {u : List Int} {x : Int} : atI ((u ++ [x]).map V.int) (-1) = some (.int x) := by
  have h := atI_neg (xs := (u ++ [x]).map V.int) (j := u.length) (by simp)
  rw [List.length_map, List.length_append, List.length_singleton, show ((u.length : Nat) : Int) - ((u.length + 1 : Nat) : Int) = -1 by omega] at h
  rw [h, List.getElem?_map, List.getElem?_append_right (Nat.le_refl _), Nat.sub_self]
  rfl
theorem at_first {v : List Int} {x : Int} : atI ((x :: v).map V.int) 0 = some (.int x) := by
  have h := atI_pos (xs := (x :: v).map V.int) (j := 0) (by simp)
  exact h
theorem Dealt.few {n : Int} {R G : List (List Int)} (h : Dealt n R G) (n60 : n ≤ 60) : (∀ r, r ∈ R ∨ r ∈ G → r.length ≤ 60) ∧ (cps R G).length ≤ 60 ∧ (cps R G).Nodup ∧ R.length ≤ 60 ∧ G.length ≤ 60 := by
  have hs : Sys n (cps R G) R G := h.sys (List.Perm.refl _)
  obtain ⟨nd, al⟩ := h.flatNd
  refine ⟨fun r hr => hs.few n60 hr, ?_, nd_of_flat nd, hs.numR n60⟩
  by_cases n0 : 0 ≤ n
  · have := nodup_sub (m := endsL n) nd fun e he => by
      obtain ⟨x, hx, z⟩ := al e he
      have : ab x ∈ R.flatten.map ab ++ G.flatten.map ab := by rw [← List.map_append]; exact List.mem_map.mpr ⟨x, hx, rfl⟩
      have := mem_rng.mp (h.pcs.mem_iff.mp this)
      refine mem_endsL.mpr ?_
      unfold ab at this
      omega
    rw [endsL_card n0, flat_len] at this
    omega
  · have e0 : R.flatten.map ab ++ G.flatten.map ab = [] := by
      have := h.pcs.length_eq
      rw [rng_len] at this
      exact List.eq_nil_of_length_eq_zero (by omega)
    have := nodup_sub (m := ([] : List Int)) nd fun e he => by
      obtain ⟨x, hx, z⟩ := al e he
      have : ab x ∈ R.flatten.map ab ++ G.flatten.map ab := by rw [← List.map_append]; exact List.mem_map.mpr ⟨x, hx, rfl⟩
      rw [e0] at this
      cases this
    rw [flat_len] at this
    simp at this
    omega
end Vf

namespace Vf
open PySem PySem.Spec PyProof.Rows L2

/-! ### two tables of partners: walks by turns -/
structure Inv2 (n : Int) (f : Int → Int) : Prop where
  to : ∀ e, e ∈ endsL n → f e ≠ 0 → f e ∈ endsL n ∧ f (f e) = e ∧ f e ≠ e
theorem ptb_inv {n : Int} {L : List (Int × Int)} (hL : Lay n L) : Inv2 n (ptb L) := by
  refine ⟨fun e he h => ?_⟩
  have he' := mem_endsL.mp he
  have hp : parI L e = some (ptb L e) := by
    unfold ptb at h ⊢
    rw [if_neg he'.2.2] at h ⊢
    cases c : parI L e with
    | none => rw [c] at h; exact absurd rfl h
    | some x => rfl
  have hm := (parI_iff hL).mp hp
  have hb : parI L (ptb L e) = some e := (parI_iff hL).mpr hm.symm
  have h2 := par_mem hL hp
  refine ⟨mem_endsL.mpr ⟨h2.1, h2.2.1, h2.2.2⟩, ?_, fun z => ?_⟩
  · show (if ptb L e = 0 then 1 else (parI L (ptb L e)).getD 0) = e
    rw [if_neg h2.2.2, hb]
    rfl
  · rcases hm with hm | hm
    · have := (hL.cp _ hm).2.1; simp only at this; omega
    · have := (hL.cp _ hm).2.1; simp only at this; omega
/-- each item leads to the next one, by f and by g by turns -/
def AltI (f g : Int → Int) (xs : List Int) : Prop := ∀ i x y, xs[i]? = some x → xs[i + 1]? = some y → y = (if i % 2 = 0 then f x else g x) ∧ y ≠ 0
theorem alt_nil {f g : Int → Int} {x : Int} : AltI f g [x] := fun i a b h1 h2 => by
  have := (List.getElem?_eq_some_iff.mp h2).1
  simp at this
theorem get_app {α : Type} {xs : List α} {y a : α} {i : Nat} (h : (xs ++ [y])[i]? = some a) : (i < xs.length ∧ xs[i]? = some a) ∨ (i = xs.length ∧ a = y) := by
  by_cases c : i < xs.length
  · rw [List.getElem?_append_left c] at h
    exact .inl ⟨c, h⟩
  · have hl := (List.getElem?_eq_some_iff.mp h).1
    rw [List.length_append, List.length_singleton] at hl
    have e : i = xs.length := by omega
    rw [e, List.getElem?_append_right (Nat.le_refl _), Nat.sub_self] at h
    exact .inr ⟨e, (Option.some.inj h).symm⟩
theorem AltI.snoc {f g : Int → Int} {xs : List Int} {l y : Int} (h : AltI f g xs) (hl : xs[xs.length - 1]? = some l) (hy : y = if (xs.length - 1) % 2 = 0 then f l else g l) (y0 : y ≠ 0) : AltI f g (xs ++ [y]) := fun i a b h1 h2 => by
  have ln := (List.getElem?_eq_some_iff.mp hl).1
  rcases get_app h2 with ⟨c, h2⟩ | ⟨c, rfl⟩
  · rw [List.getElem?_append_left (by omega)] at h1
    exact h i a b h1 h2
  · rw [List.getElem?_append_left (by omega)] at h1
    have e : i = xs.length - 1 := by omega
    rw [e, hl] at h1
    cases h1
    rw [e]
    exact ⟨hy, y0⟩
theorem nd_at {xs : List Int} (nd : xs.Nodup) {i j : Nat} {a : Int} (h1 : xs[i]? = some a) (h2 : xs[j]? = some a) : i = j := by
  obtain ⟨i1, i2⟩ := List.getElem?_eq_some_iff.mp h1
  obtain ⟨j1, j2⟩ := List.getElem?_eq_some_iff.mp h2
  have pw := List.pairwise_iff_getElem.mp nd
  rcases Nat.lt_trichotomy i j with z | z | z
  · exact (pw i j i1 j1 z (by rw [i2, j2])).elim
  · exact z
  · exact (pw j i j1 i1 z (by rw [i2, j2])).elim
/-- one more item of a walk that begins at an end of it is new -/
theorem alt_fresh {n : Int} {f g : Int → Int} (F : Inv2 n f) (G : Inv2 n g) {xs : List Int} {x0 l y : Int} (h : AltI f g xs) (nd : xs.Nodup) (hE : ∀ x ∈ xs, x ∈ endsL n) (h0 : xs[0]? = some x0) (g0 : g x0 = 0)
    (hl : xs[xs.length - 1]? = some l) (hy : y = if (xs.length - 1) % 2 = 0 then f l else g l) (y0 : y ≠ 0) : y ∉ xs := fun hm => by
  have ln := (List.getElem?_eq_some_iff.mp hl).1
  obtain ⟨j, hj⟩ := List.getElem?_of_mem hm
  have jl := (List.getElem?_eq_some_iff.mp hj).1
  have lE := hE l (List.mem_of_getElem? hl)
  -- back from y
  have bk : (if (xs.length - 1) % 2 = 0 then f y else g y) = l ∧ y ≠ l := by
    split at hy
    · rename_i c
      rw [if_pos c, hy]
      have := F.to l lE (by rw [← hy]; exact y0)
      exact ⟨this.2.1, this.2.2⟩
    · rename_i c
      rw [if_neg c, hy]
      have := G.to l lE (by rw [← hy]; exact y0)
      exact ⟨this.2.1, this.2.2⟩
  by_cases par : j % 2 = (xs.length - 1) % 2
  · by_cases jk : j = xs.length - 1
    · rw [jk, hl] at hj
      exact bk.2 (Option.some.inj hj).symm
    · obtain ⟨z, hz⟩ : ∃ z, xs[j + 1]? = some z := ⟨_, List.getElem?_eq_getElem (by omega)⟩
      have e1 := (h j y z hj hz).1
      rw [par] at e1
      rw [bk.1] at e1
      subst e1
      have := nd_at nd hz hl
      omega
  · cases j with
    | zero =>
      rw [h0] at hj
      have e : x0 = y := Option.some.inj hj
      have c : (xs.length - 1) % 2 ≠ 0 := fun z => par (by rw [z])
      rw [if_neg c, ← e, g0] at bk
      have := mem_endsL.mp lE
      omega
    | succ j =>
      obtain ⟨z, hz⟩ : ∃ z, xs[j]? = some z := ⟨_, List.getElem?_eq_getElem (by omega)⟩
      have zE := hE z (List.mem_of_getElem? hz)
      obtain ⟨e1, _⟩ := h j z y hz hj
      have c : j % 2 = (xs.length - 1) % 2 := by omega
      rw [c] at e1
      have e2 : (if (xs.length - 1) % 2 = 0 then f y else g y) = z := by
        split at e1
        · rename_i d
          rw [if_pos d, e1]
          exact (F.to z zE (by rw [← e1]; exact y0)).2.1
        · rename_i d
          rw [if_neg d, e1]
          exact (G.to z zE (by rw [← e1]; exact y0)).2.1
      rw [bk.1] at e2
      subst e2
      have := nd_at nd hz hl
      omega
/-- closed under both tables -/
def Clo (f g : Int → Int) (S : List Int) : Prop := ∀ e ∈ S, (f e ≠ 0 → f e ∈ S) ∧ (g e ≠ 0 → g e ∈ S)
theorem clo_out {n : Int} {f g : Int → Int} (F : Inv2 n f) (G : Inv2 n g) {S : List Int} (c : Clo f g S) {e : Int} (he : e ∈ endsL n) (hS : e ∉ S) : (f e ≠ 0 → f e ∉ S) ∧ (g e ≠ 0 → g e ∉ S) := by
  refine ⟨fun h z => hS ?_, fun h z => hS ?_⟩
  · have := F.to e he h
    have h2 := (c _ z).1 (by rw [this.2.1]; have := mem_endsL.mp he; omega)
    rw [this.2.1] at h2
    exact h2
  · have := G.to e he h
    have h2 := (c _ z).2 (by rw [this.2.1]; have := mem_endsL.mp he; omega)
    rw [this.2.1] at h2
    exact h2
theorem AltI.rev {n : Int} {f g : Int → Int} (F : Inv2 n f) (G : Inv2 n g) {xs : List Int} (h : AltI f g xs) (hE : ∀ x ∈ xs, x ∈ endsL n) : AltI (if xs.length % 2 = 0 then f else g) (if xs.length % 2 = 0 then g else f) xs.reverse := fun i x y hx hy => by
  have h1 := (List.getElem?_eq_some_iff.mp hy).1
  rw [List.length_reverse] at h1
  rw [List.getElem?_reverse (by omega)] at hx hy
  have e : xs.length - 1 - i = (xs.length - 1 - (i + 1)) + 1 := by omega
  rw [e] at hx
  obtain ⟨e1, e0⟩ := h _ y x hy hx
  have yE := hE y (List.mem_of_getElem? hy)
  have y0 := (mem_endsL.mp yE).2.2
  refine ⟨?_, y0⟩
  have back : (if (xs.length - 1 - (i + 1)) % 2 = 0 then f x else g x) = y := by
    split at e1
    · rename_i d
      rw [if_pos d, e1]
      exact (F.to y yE (by rw [← e1]; exact e0)).2.1
    · rename_i d
      rw [if_neg d, e1]
      exact (G.to y yE (by rw [← e1]; exact e0)).2.1
  rw [← back]
  by_cases c : xs.length % 2 = 0
  · rw [if_pos c, if_pos c]
    by_cases d : i % 2 = 0
    · rw [if_pos d, if_pos (by omega)]
    · rw [if_neg d, if_neg (by omega)]
  · rw [if_neg c, if_neg c]
    by_cases d : i % 2 = 0
    · rw [if_pos d, if_neg (by omega)]
    · rw [if_neg d, if_pos (by omega)]
/-! rings -/
/-- a walk in a component without outer ends: the next first place is new, or the beginning -/
theorem ring_next {n : Int} {f g : Int → Int} (F : Inv2 n f) (G : Inv2 n g) {xs : List Int} {x0 l y : Int} (h : AltI f g xs) (nd : xs.Nodup) (hE : ∀ x ∈ xs, x ∈ endsL n) (h0 : xs[0]? = some x0) (ev : xs.length % 2 = 0) (hl : xs[xs.length - 1]? = some l)
    (hy : y = g l) (y0 : y ≠ 0) (hm : y ∈ xs) : y = x0 := by
  have ln := (List.getElem?_eq_some_iff.mp hl).1
  obtain ⟨j, hj⟩ := List.getElem?_of_mem hm
  have jl := (List.getElem?_eq_some_iff.mp hj).1
  have lE := hE l (List.mem_of_getElem? hl)
  have bk := G.to l lE (by rw [← hy]; exact y0)
  rw [← hy] at bk
  by_cases par : j % 2 = 1
  · by_cases jk : j = xs.length - 1
    · rw [jk, hl] at hj
      exact absurd (Option.some.inj hj).symm bk.2.2
    · obtain ⟨z, hz⟩ : ∃ z, xs[j + 1]? = some z := ⟨_, List.getElem?_eq_getElem (by omega)⟩
      have e1 := (h j y z hj hz).1
      rw [if_neg (by omega), bk.2.1] at e1
      subst e1
      have := nd_at nd hz hl
      omega
  · cases j with
    | zero => rw [h0] at hj; exact (Option.some.inj hj).symm
    | succ j =>
      obtain ⟨z, hz⟩ : ∃ z, xs[j]? = some z := ⟨_, List.getElem?_eq_getElem (by omega)⟩
      have zE := hE z (List.mem_of_getElem? hz)
      obtain ⟨e1, _⟩ := h j z y hz hj
      rw [if_neg (by omega)] at e1
      have e2 := (G.to z zE (by rw [← e1]; exact y0)).2.1
      rw [← e1, bk.2.1] at e2
      subst e2
      have := nd_at nd hz hl
      omega
/-- its partner in the first table is new, too -/
theorem ring_here {n : Int} {f g : Int → Int} (F : Inv2 n f) {xs : List Int} {x y : Int} (h : AltI f g xs) (nd : xs.Nodup) (hE : ∀ x ∈ xs, x ∈ endsL n) (ev : xs.length % 2 = 0) (hx : x ∈ endsL n) (nx : x ∉ xs) (hy : y = f x) (y0 : y ≠ 0) : y ∉ xs := fun hm => by
  obtain ⟨j, hj⟩ := List.getElem?_of_mem hm
  have jl := (List.getElem?_eq_some_iff.mp hj).1
  have bk := F.to x hx (by rw [← hy]; exact y0)
  rw [← hy] at bk
  by_cases par : j % 2 = 0
  · obtain ⟨z, hz⟩ : ∃ z, xs[j + 1]? = some z := ⟨_, List.getElem?_eq_getElem (by omega)⟩
    have e1 := (h j y z hj hz).1
    rw [if_pos par, bk.2.1] at e1
    exact nx (e1 ▸ List.mem_of_getElem? hz)
  · cases j with
    | zero => omega
    | succ j =>
      obtain ⟨z, hz⟩ : ∃ z, xs[j]? = some z := ⟨_, List.getElem?_eq_getElem (by omega)⟩
      have zE := hE z (List.mem_of_getElem? hz)
      obtain ⟨e1, _⟩ := h j z y hz hj
      rw [if_pos (by omega)] at e1
      have e2 := (F.to z zE (by rw [← e1]; exact y0)).2.1
      rw [← e1, bk.2.1] at e2
      exact nx (e2 ▸ List.mem_of_getElem? hz)
end Vf

namespace Vf
open PySem PySem.Spec PyProof.Rows L2

/-! ### components: words, ways, rings -/
inductive Wd | odd | one | other | ring deriving DecidableEq
abbrev Cm := Wd × List Int
/-- a way from x to y: along p first, then q, by turns; it ends at both -/
structure Wy (n : Int) (p q : Int → Int) (w : List Int) (x y : Int) : Prop where
  alt : AltI p q w
  fst : w[0]? = some x
  lst : w[w.length - 1]? = some y
  x0 : q x = 0
  y0 : (if (w.length - 1) % 2 = 0 then p y else q y) = 0
  nd : w.Nodup
  sub : ∀ z ∈ w, z ∈ endsL n
structure Rg (n : Int) (f g : Int → Int) (w : List Int) (x : Int) : Prop where
  alt : AltI f g (w ++ [x])
  fst : w[0]? = some x
  ev : w.length % 2 = 0
  min : ∀ z ∈ w, x ≤ z
  nd : w.Nodup
  sub : ∀ z ∈ w, z ∈ endsL n
inductive PartOk (n : Int) (f g : Int → Int) : Cm → Prop
  | odd {w : List Int} {x y : Int} (h : Wy n g f w x y) (l : w.length % 2 = 1) : PartOk n f g (.odd, w)
  | one {w : List Int} {x y : Int} (h : Wy n f g w x y) (l : w.length % 2 = 0) (xy : x ≤ y) : PartOk n f g (.one, w)
  | other {w : List Int} {x y : Int} (h : Wy n g f w x y) (l : w.length % 2 = 0) (xy : x ≤ y) : PartOk n f g (.other, w)
  | ring {w : List Int} {x : Int} (h : Rg n f g w x) : PartOk n f g (.ring, w)
structure Right (n : Int) (f g : Int → Int) (C : List Cm) : Prop where
  ok : ∀ c ∈ C, PartOk n f g c
  pm : (C.flatMap (·.2)).Perm (endsL n)
theorem PartOk.nd {n : Int} {f g : Int → Int} {c : Cm} (h : PartOk n f g c) : c.2.Nodup ∧ (∀ z ∈ c.2, z ∈ endsL n) ∧ c.2 ≠ [] := by
  cases h with
  | odd h => exact ⟨h.nd, h.sub, fun z => by have := h.fst; simp only at z; rw [z] at this; cases this⟩
  | one h => exact ⟨h.nd, h.sub, fun z => by have := h.fst; simp only at z; rw [z] at this; cases this⟩
  | other h => exact ⟨h.nd, h.sub, fun z => by have := h.fst; simp only at z; rw [z] at this; cases this⟩
  | ring h => exact ⟨h.nd, h.sub, fun z => by have := h.fst; simp only at z; rw [z] at this; cases this⟩
theorem Wy.rev {n : Int} {p q : Int → Int} {w : List Int} {x y : Int} (P : Inv2 n p) (G : Inv2 n q) (h : Wy n p q w x y) : Wy n (if w.length % 2 = 0 then p else q) (if w.length % 2 = 0 then q else p) w.reverse y x := by
  have l0 := (List.getElem?_eq_some_iff.mp h.fst).1
  have hy0 := h.y0
  refine ⟨h.alt.rev P G h.sub, ?_, ?_, ?_, ?_, (List.pairwise_reverse.mpr (h.nd.imp fun z => Ne.symm z)), fun z hz => h.sub z (List.mem_reverse.mp hz)⟩
  · rw [List.getElem?_reverse l0]; exact h.lst
  · rw [List.length_reverse, List.getElem?_reverse (by omega), show w.length - 1 - (w.length - 1) = 0 by omega]; exact h.fst
  · by_cases c : w.length % 2 = 0
    · rw [if_pos c]; rw [if_neg (by omega)] at hy0; exact hy0
    · rw [if_neg c]; rw [if_pos (by omega)] at hy0; exact hy0
  · rw [List.length_reverse]
    by_cases c : w.length % 2 = 0
    · rw [if_neg (by omega), if_pos c]; exact h.x0
    · rw [if_pos (by omega), if_neg c]; exact h.x0
/-- ahead of it, and behind it -/
theorem Wy.pre {n : Int} {p q : Int → Int} {w : List Int} {x y z : Int} (P : Inv2 n p) (G : Inv2 n q) (h : Wy n p q w x y) {i : Nat} (hz : w[i + 1]? = some z) : ∃ u, w[i]? = some u ∧ u ≠ 0 ∧ (if (i + 1) % 2 = 0 then q z else p z) = u := by
  have l := (List.getElem?_eq_some_iff.mp hz).1
  obtain ⟨u, hu⟩ : ∃ u, w[i]? = some u := ⟨_, List.getElem?_eq_getElem (by omega)⟩
  have uE := h.sub u (List.mem_of_getElem? hu)
  obtain ⟨e1, e2⟩ := h.alt i u z hu hz
  refine ⟨u, hu, (mem_endsL.mp uE).2.2, ?_⟩
  by_cases c : i % 2 = 0
  · rw [if_pos c] at e1
    rw [if_neg (by omega), e1]
    exact (P.to u uE (by rw [← e1]; exact e2)).2.1
  · rw [if_neg c] at e1
    rw [if_pos (by omega), e1]
    exact (G.to u uE (by rw [← e1]; exact e2)).2.1
theorem Wy.post {n : Int} {p q : Int → Int} {w : List Int} {x y z : Int} (h : Wy n p q w x y) {i : Nat} (hz : w[i]? = some z) (l : i + 1 < w.length) : ∃ u, w[i + 1]? = some u ∧ u ≠ 0 ∧ (if i % 2 = 0 then p z else q z) = u := by
  obtain ⟨u, hu⟩ : ∃ u, w[i + 1]? = some u := ⟨_, List.getElem?_eq_getElem l⟩
  obtain ⟨e1, e2⟩ := h.alt i z u hz hu
  exact ⟨u, hu, e2, e1.symm⟩
/-- a way is closed -/
theorem Wy.clo {n : Int} {p q : Int → Int} {w : List Int} {x y : Int} (P : Inv2 n p) (G : Inv2 n q) (h : Wy n p q w x y) : Clo p q w := fun z hz => by
  obtain ⟨i, hi⟩ := List.getElem?_of_mem hz
  have l := (List.getElem?_eq_some_iff.mp hi).1
  have fw : (if i % 2 = 0 then p z else q z) = 0 ∨ (if i % 2 = 0 then p z else q z) ∈ w := by
    by_cases c : i + 1 < w.length
    · obtain ⟨u, hu, _, e⟩ := h.post hi c
      rw [e]
      exact .inr (List.mem_of_getElem? hu)
    · have e : i = w.length - 1 := by omega
      rw [e] at hi ⊢
      rw [h.lst] at hi
      cases hi
      exact .inl h.y0
  have bw : (if i % 2 = 0 then q z else p z) = 0 ∨ (if i % 2 = 0 then q z else p z) ∈ w := by
    cases i with
    | zero =>
      rw [h.fst] at hi
      cases hi
      exact .inl h.x0
    | succ i =>
      obtain ⟨u, hu, _, e⟩ := h.pre P G hi
      rw [e]
      exact .inr (List.mem_of_getElem? hu)
  by_cases c : i % 2 = 0
  · rw [if_pos c] at fw bw
    exact ⟨fun k => fw.resolve_left k, fun k => bw.resolve_left k⟩
  · rw [if_neg c] at fw bw
    exact ⟨fun k => bw.resolve_left k, fun k => fw.resolve_left k⟩
/-- what is next in a ring, and what is ahead -/
theorem Rg.post {n : Int} {f g : Int → Int} {w : List Int} {x z : Int} (h : Rg n f g w x) {i : Nat} (hz : w[i]? = some z) : ∃ u, (w ++ [x])[i + 1]? = some u ∧ u ≠ 0 ∧ (if i % 2 = 0 then f z else g z) = u ∧ u ∈ w := by
  have l := (List.getElem?_eq_some_iff.mp hz).1
  obtain ⟨u, hu⟩ : ∃ u, (w ++ [x])[i + 1]? = some u := ⟨_, List.getElem?_eq_getElem (by rw [List.length_append, List.length_singleton]; omega)⟩
  obtain ⟨e1, e2⟩ := h.alt i z u (by rw [List.getElem?_append_left l]; exact hz) hu
  refine ⟨u, hu, e2, e1.symm, ?_⟩
  rcases get_app hu with ⟨_, k⟩ | ⟨_, rfl⟩
  · exact List.mem_of_getElem? k
  · exact List.mem_of_getElem? h.fst
theorem Rg.pre {n : Int} {f g : Int → Int} {w : List Int} {x z : Int} (F : Inv2 n f) (G : Inv2 n g) (h : Rg n f g w x) {i : Nat} (hz : (w ++ [x])[i + 1]? = some z) : ∃ u, w[i]? = some u ∧ u ≠ 0 ∧ (if (i + 1) % 2 = 0 then g z else f z) = u := by
  have l := (List.getElem?_eq_some_iff.mp hz).1
  rw [List.length_append, List.length_singleton] at l
  obtain ⟨u, hu⟩ : ∃ u, w[i]? = some u := ⟨_, List.getElem?_eq_getElem (by omega)⟩
  have uE := h.sub u (List.mem_of_getElem? hu)
  obtain ⟨e1, e2⟩ := h.alt i u z (by rw [List.getElem?_append_left (by omega)]; exact hu) hz
  refine ⟨u, hu, (mem_endsL.mp uE).2.2, ?_⟩
  by_cases c : i % 2 = 0
  · rw [if_pos c] at e1
    rw [if_neg (by omega), e1]
    exact (F.to u uE (by rw [← e1]; exact e2)).2.1
  · rw [if_neg c] at e1
    rw [if_pos (by omega), e1]
    exact (G.to u uE (by rw [← e1]; exact e2)).2.1
/-- the item ahead of one, going round -/
theorem Rg.back {n : Int} {f g : Int → Int} {w : List Int} {x z : Int} (F : Inv2 n f) (G : Inv2 n g) (h : Rg n f g w x) {i : Nat} (hz : w[i]? = some z) : ∃ u j, w[j]? = some u ∧ u ≠ 0 ∧ (if i % 2 = 0 then g z else f z) = u ∧ j = (if i = 0 then w.length - 1 else i - 1) := by
  have l := (List.getElem?_eq_some_iff.mp hz).1
  cases i with
  | zero =>
    rw [h.fst] at hz
    cases hz
    obtain ⟨u, hu, u0, e⟩ := h.pre (i := w.length - 1) F G (z := x) (by rw [show w.length - 1 + 1 = w.length by omega]; simp)
    rw [show w.length - 1 + 1 = w.length by omega, if_pos h.ev] at e
    exact ⟨u, _, hu, u0, by rw [if_pos rfl]; exact e, by rw [if_pos rfl]⟩
  | succ i =>
    obtain ⟨u, hu, u0, e⟩ := h.pre (i := i) F G (z := z) (by rw [List.getElem?_append_left l]; exact hz)
    exact ⟨u, _, hu, u0, e, by rw [if_neg (by omega)]; rfl⟩
theorem Rg.both {n : Int} {f g : Int → Int} {w : List Int} {x z : Int} (F : Inv2 n f) (G : Inv2 n g) (h : Rg n f g w x) (hz : z ∈ w) : (f z ≠ 0 ∧ f z ∈ w) ∧ (g z ≠ 0 ∧ g z ∈ w) := by
  obtain ⟨i, hi⟩ := List.getElem?_of_mem hz
  obtain ⟨u, _, u0, e, um⟩ := h.post hi
  obtain ⟨v, j, hv, v0, e', _⟩ := h.back F G hi
  have vm := List.mem_of_getElem? hv
  by_cases c : i % 2 = 0
  · rw [if_pos c] at e e'
    rw [e, e']; exact ⟨⟨u0, um⟩, ⟨v0, vm⟩⟩
  · rw [if_neg c] at e e'
    rw [e, e']; exact ⟨⟨v0, vm⟩, ⟨u0, um⟩⟩
theorem PartOk.clo {n : Int} {f g : Int → Int} {c : Cm} (F : Inv2 n f) (G : Inv2 n g) (h : PartOk n f g c) : Clo f g c.2 := by
  cases h with
  | odd h => exact fun z hz => ⟨(h.clo G F z hz).2, (h.clo G F z hz).1⟩
  | one h => exact h.clo F G
  | other h => exact fun z hz => ⟨(h.clo G F z hz).2, (h.clo G F z hz).1⟩
  | ring h => exact fun z hz => ⟨fun _ => (h.both F G hz).1.2, fun _ => (h.both F G hz).2.2⟩

/-! there is one -/
theorem ends_len_le {n : Int} (n0 : 0 ≤ n) {w : List Int} (nd : w.Nodup) (sub : ∀ z ∈ w, z ∈ endsL n) : (w.length : Int) ≤ 2 * n + 1 := by
  have := nodup_sub nd fun z hz => (List.mem_filter.mp (sub z hz)).1
  rw [rng_len] at this
  omega
theorem wy_go {n : Int} {p q : Int → Int} (n0 : 0 ≤ n) (P : Inv2 n p) (G : Inv2 n q) {x : Int} (x0 : q x = 0) : ∀ (k : Nat) (w : List Int) (l : Int), 2 * n + 1 - (w.length : Int) ≤ k → AltI p q w → w.Nodup → (∀ z ∈ w, z ∈ endsL n) → w[0]? = some x → w[w.length - 1]? = some l → ∃ w' y, Wy n p q w' x y := by
  intro k
  induction k with
  | zero =>
    intro w l hk h nd sub h0 hl
    by_cases c : (if (w.length - 1) % 2 = 0 then p l else q l) = 0
    · exact ⟨w, l, h, h0, hl, x0, c, nd, sub⟩
    · have fr := alt_fresh P G h nd sub h0 x0 hl rfl c
      have ln := (List.getElem?_eq_some_iff.mp hl).1
      have lE := sub l (List.mem_of_getElem? hl)
      have yE : (if (w.length - 1) % 2 = 0 then p l else q l) ∈ endsL n := by
        by_cases d : (w.length - 1) % 2 = 0
        · rw [if_pos d] at c ⊢; exact (P.to l lE c).1
        · rw [if_neg d] at c ⊢; exact (G.to l lE c).1
      have := ends_len_le n0 (w := w ++ [if (w.length - 1) % 2 = 0 then p l else q l]) (by
        rw [List.nodup_append]
        refine ⟨nd, (List.pairwise_singleton _ _), fun a ha b hb => ?_⟩
        rw [List.mem_singleton.mp hb]
        exact fun z => fr (z ▸ ha)) (fun z hz => by
          rcases List.mem_append.mp hz with hz | hz
          · exact sub z hz
          · rw [List.mem_singleton.mp hz]; exact yE)
      rw [List.length_append, List.length_singleton] at this
      omega
  | succ k ih =>
    intro w l hk h nd sub h0 hl
    by_cases c : (if (w.length - 1) % 2 = 0 then p l else q l) = 0
    · exact ⟨w, l, h, h0, hl, x0, c, nd, sub⟩
    · have fr := alt_fresh P G h nd sub h0 x0 hl rfl c
      have ln := (List.getElem?_eq_some_iff.mp hl).1
      have lE := sub l (List.mem_of_getElem? hl)
      have yE : (if (w.length - 1) % 2 = 0 then p l else q l) ∈ endsL n := by
        by_cases d : (w.length - 1) % 2 = 0
        · rw [if_pos d] at c ⊢; exact (P.to l lE c).1
        · rw [if_neg d] at c ⊢; exact (G.to l lE c).1
      refine ih (w ++ [if (w.length - 1) % 2 = 0 then p l else q l]) (if (w.length - 1) % 2 = 0 then p l else q l) (by rw [List.length_append, List.length_singleton]; omega) (h.snoc hl rfl c) ?_ ?_ (by rw [List.getElem?_append_left (by omega)]; exact h0) (by rw [List.length_append, List.length_singleton, show w.length + 1 - 1 = w.length by omega]; simp)
      · rw [List.nodup_append]
        refine ⟨nd, (List.pairwise_singleton _ _), fun a ha b hb => ?_⟩
        rw [List.mem_singleton.mp hb]
        exact fun z => fr (z ▸ ha)
      · intro z hz
        rcases List.mem_append.mp hz with hz | hz
        · exact sub z hz
        · rw [List.mem_singleton.mp hz]; exact yE
theorem wy_ex {n : Int} {p q : Int → Int} (n0 : 0 ≤ n) (P : Inv2 n p) (G : Inv2 n q) {x : Int} (xE : x ∈ endsL n) (x0 : q x = 0) : ∃ w y, Wy n p q w x y :=
  wy_go n0 P G x0 _ [x] x (Int.self_le_toNat _) alt_nil ((List.pairwise_singleton _ _)) (fun z hz => by rw [List.mem_singleton.mp hz]; exact xE) rfl rfl
theorem alt_out {n : Int} {p q : Int → Int} (P : Inv2 n p) (G : Inv2 n q) {S w : List Int} {x : Int} (c : Clo p q S) (h : AltI p q w) (sub : ∀ z ∈ w, z ∈ endsL n) (h0 : w[0]? = some x) (hx : x ∉ S) : ∀ z ∈ w, z ∉ S := by
  have : ∀ (i : Nat) z, w[i]? = some z → z ∉ S := fun i => by
    induction i with
    | zero => intro z hz; rw [h0] at hz; cases hz; exact hx
    | succ i ih =>
      intro z hz
      have l := (List.getElem?_eq_some_iff.mp hz).1
      obtain ⟨u, hu⟩ : ∃ u, w[i]? = some u := ⟨_, List.getElem?_eq_getElem (by omega)⟩
      obtain ⟨e1, e2⟩ := h i u z hu hz
      have o := clo_out P G c (sub u (List.mem_of_getElem? hu)) (ih u hu)
      by_cases d : i % 2 = 0
      · rw [if_pos d] at e1; rw [e1]; exact o.1 (by rw [← e1]; exact e2)
      · rw [if_neg d] at e1; rw [e1]; exact o.2 (by rw [← e1]; exact e2)
  intro z hz
  obtain ⟨i, hi⟩ := List.getElem?_of_mem hz
  exact this i z hi
theorem rg_go {n : Int} {f g : Int → Int} (n0 : 0 ≤ n) (F : Inv2 n f) (G : Inv2 n g) {S : List Int} (cl : Clo f g S) (all : ∀ z ∈ endsL n, z ∉ S → f z ≠ 0 ∧ g z ≠ 0) {x : Int} (xS : x ∉ S) (mn : ∀ z ∈ endsL n, z ∉ S → x ≤ z) :
    ∀ (k : Nat) (w : List Int) (l : Int), 2 * n + 1 - (w.length : Int) ≤ k → AltI f g w → w.Nodup → (∀ z ∈ w, z ∈ endsL n) → w[0]? = some x → w[w.length - 1]? = some l → w.length % 2 = 0 → ∃ w', Rg n f g w' x := by
  intro k
  induction k with
  | zero =>
    intro w l hk h nd sub h0 hl ev
    have ln := (List.getElem?_eq_some_iff.mp hl).1
    have out := alt_out F G cl h sub h0 xS
    have lE := sub l (List.mem_of_getElem? hl)
    have lS := out l (List.mem_of_getElem? hl)
    have g0 := (all l lE lS).2
    by_cases c : g l ∈ w
    · have e := ring_next F G h nd sub h0 ev hl rfl g0 c
      refine ⟨w, ?_, h0, ev, fun z hz => mn z (sub z hz) (out z hz), nd, sub⟩
      refine h.snoc hl (by rw [if_neg (by omega)]; exact e.symm) (by rw [← e]; exact g0)
    · have := ends_len_le n0 (w := w ++ [g l]) (by
        rw [List.nodup_append]
        refine ⟨nd, (List.pairwise_singleton _ _), fun a ha b hb => ?_⟩
        rw [List.mem_singleton.mp hb]
        exact fun z => c (z ▸ ha)) (fun z hz => by
          rcases List.mem_append.mp hz with hz | hz
          · exact sub z hz
          · rw [List.mem_singleton.mp hz]; exact (G.to l lE g0).1)
      rw [List.length_append, List.length_singleton] at this
      omega
  | succ k ih =>
    intro w l hk h nd sub h0 hl ev
    have ln := (List.getElem?_eq_some_iff.mp hl).1
    have out := alt_out F G cl h sub h0 xS
    have lE := sub l (List.mem_of_getElem? hl)
    have lS := out l (List.mem_of_getElem? hl)
    have g0 := (all l lE lS).2
    by_cases c : g l ∈ w
    · have e := ring_next F G h nd sub h0 ev hl rfl g0 c
      refine ⟨w, ?_, h0, ev, fun z hz => mn z (sub z hz) (out z hz), nd, sub⟩
      refine h.snoc hl (by rw [if_neg (by omega)]; exact e.symm) (by rw [← e]; exact g0)
    · have yE := (G.to l lE g0).1
      have yS := (clo_out F G cl lE lS).2 g0
      have f0 := (all _ yE yS).1
      have y2 := ring_here F h nd sub ev yE c rfl f0
      have ne := (F.to _ yE f0).2.2
      have y2E := (F.to _ yE f0).1
      have a1 := h.snoc (y := g l) hl (by rw [if_neg (by omega)]) g0
      have a2 := a1.snoc (y := f (g l)) (l := g l) (by rw [List.length_append, List.length_singleton, show w.length + 1 - 1 = w.length by omega]; simp) (by rw [List.length_append, List.length_singleton, if_pos (by omega)]) f0
      refine ih ((w ++ [g l]) ++ [f (g l)]) (f (g l)) (by simp; omega) a2 ?_ ?_ ?_ ?_ (by simp; omega)
      · rw [List.append_assoc, List.nodup_append]
        refine ⟨nd, by simp; exact fun z => ne z.symm, fun a ha b hb => ?_⟩
        simp at hb
        rcases hb with rfl | rfl
        · exact fun z => c (z ▸ ha)
        · exact fun z => y2 (z ▸ ha)
      · intro z hz
        simp at hz
        rcases hz with hz | rfl | rfl
        · exact sub z hz
        · exact yE
        · exact y2E
      · rw [List.append_assoc, List.getElem?_append_left (by omega)]; exact h0
      · simp
theorem rg_ex {n : Int} {f g : Int → Int} (n0 : 0 ≤ n) (F : Inv2 n f) (G : Inv2 n g) {S : List Int} (cl : Clo f g S) (all : ∀ z ∈ endsL n, z ∉ S → f z ≠ 0 ∧ g z ≠ 0) {x : Int} (xE : x ∈ endsL n) (xS : x ∉ S) (mn : ∀ z ∈ endsL n, z ∉ S → x ≤ z) : ∃ w, Rg n f g w x := by
  have f0 := (all x xE xS).1
  have t := F.to x xE f0
  refine rg_go n0 F G cl all xS mn _ [x, f x] (f x) (Int.self_le_toNat _) ?_ ?_ ?_ rfl rfl (by simp)
  · exact (alt_nil (x := x)).snoc (l := x) (y := f x) rfl rfl f0
  · simp; exact fun z => t.2.2 z.symm
  · intro z hz
    simp at hz
    rcases hz with rfl | rfl
    · exact xE
    · exact t.1
theorem min_of : ∀ (l : List Int) (P : Int → Prop) [DecidablePred P], (∃ x ∈ l, P x) → ∃ x ∈ l, P x ∧ ∀ z ∈ l, P z → x ≤ z
  | [], _, _, ⟨_, h, _⟩ => nomatch h
  | a :: l, P, _, h => by
    by_cases c : ∃ x ∈ l, P x
    · obtain ⟨x, hx, px, mn⟩ := min_of l P c
      by_cases d : P a ∧ a ≤ x
      · refine ⟨a, by simp, d.1, fun z hz pz => ?_⟩
        rcases List.mem_cons.mp hz with rfl | hz
        · exact Int.le_refl _
        · have := mn z hz pz; omega
      · refine ⟨x, List.mem_cons_of_mem _ hx, px, fun z hz pz => ?_⟩
        rcases List.mem_cons.mp hz with rfl | hz
        · by_cases e : z ≤ x
          · exact absurd ⟨pz, e⟩ d
          · omega
        · exact mn z hz pz
    · obtain ⟨x, hx, px⟩ := h
      rcases List.mem_cons.mp hx with rfl | hx
      · exact ⟨x, by simp, px, fun z hz pz => by
          rcases List.mem_cons.mp hz with rfl | hz
          · exact Int.le_refl _
          · exact absurd ⟨z, hz, pz⟩ c⟩
      · exact absurd ⟨x, hx, px⟩ c
theorem clo_swap {f g : Int → Int} {S : List Int} (h : Clo f g S) : Clo g f S := fun z hz => ⟨(h z hz).2, (h z hz).1⟩
/-- one more component -/
theorem part_ex {n : Int} {f g : Int → Int} (n0 : 0 ≤ n) (F : Inv2 n f) (G : Inv2 n g) {S : List Int} (cl : Clo f g S) (more : ∃ x ∈ endsL n, x ∉ S) : ∃ c, PartOk n f g c ∧ ∀ z ∈ c.2, z ∉ S := by
  by_cases c : ∃ x ∈ endsL n, x ∉ S ∧ (f x = 0 ∨ g x = 0)
  · obtain ⟨x, xE, xS, h⟩ := c
    rcases h with h | h
    · obtain ⟨w, y, k⟩ := wy_ex n0 G F xE h
      have o := alt_out G F (clo_swap cl) k.alt k.sub k.fst xS
      by_cases l : w.length % 2 = 0
      · by_cases xy : x ≤ y
        · exact ⟨(.other, w), .other k l xy, o⟩
        · have r := k.rev G F
          rw [if_pos l, if_pos l] at r
          exact ⟨(.other, w.reverse), .other r (by rw [List.length_reverse]; exact l) (by omega), fun z hz => o z (List.mem_reverse.mp hz)⟩
      · exact ⟨(.odd, w), .odd k (by omega), o⟩
    · obtain ⟨w, y, k⟩ := wy_ex n0 F G xE h
      have o := alt_out F G cl k.alt k.sub k.fst xS
      have r := k.rev F G
      have o' : ∀ z ∈ w.reverse, z ∉ S := fun z hz => o z (List.mem_reverse.mp hz)
      by_cases l : w.length % 2 = 0
      · rw [if_pos l, if_pos l] at r
        by_cases xy : x ≤ y
        · exact ⟨(.one, w), .one k l xy, o⟩
        · exact ⟨(.one, w.reverse), .one r (by rw [List.length_reverse]; exact l) (by omega), o'⟩
      · rw [if_neg l, if_neg l] at r
        exact ⟨(.odd, w.reverse), .odd r (by rw [List.length_reverse]; omega), o'⟩
  · obtain ⟨x, xE, xS, mn⟩ := min_of (endsL n) (fun z => z ∉ S) more
    have all : ∀ z ∈ endsL n, z ∉ S → f z ≠ 0 ∧ g z ≠ 0 := fun z hz hS => ⟨fun e => c ⟨z, hz, hS, .inl e⟩, fun e => c ⟨z, hz, hS, .inr e⟩⟩
    obtain ⟨w, k⟩ := rg_ex n0 F G cl all xE xS mn
    have o := alt_out (w := w) F G cl (fun i a b h1 h2 => k.alt i a b (by rw [List.getElem?_append_left (List.getElem?_eq_some_iff.mp h1).1]; exact h1) (by rw [List.getElem?_append_left (List.getElem?_eq_some_iff.mp h2).1]; exact h2)) k.sub k.fst xS
    exact ⟨(.ring, w), .ring k, o⟩
theorem right_go {n : Int} {f g : Int → Int} (n0 : 0 ≤ n) (F : Inv2 n f) (G : Inv2 n g) : ∀ (k : Nat) (C : List Cm), 2 * n + 1 - ((C.flatMap (·.2)).length : Int) ≤ k → (∀ c ∈ C, PartOk n f g c) → (C.flatMap (·.2)).Nodup → ∃ C', Right n f g C' := by
  have sub : ∀ C : List Cm, (∀ c ∈ C, PartOk n f g c) → ∀ z ∈ C.flatMap (·.2), z ∈ endsL n := fun C ok z hz => by
    obtain ⟨c, hc, hz⟩ := List.mem_flatMap.mp hz
    exact (ok c hc).nd.2.1 z hz
  have clo : ∀ C : List Cm, (∀ c ∈ C, PartOk n f g c) → Clo f g (C.flatMap (·.2)) := fun C ok z hz => by
    obtain ⟨c, hc, hz⟩ := List.mem_flatMap.mp hz
    have := (ok c hc).clo F G z hz
    exact ⟨fun k => List.mem_flatMap.mpr ⟨c, hc, this.1 k⟩, fun k => List.mem_flatMap.mpr ⟨c, hc, this.2 k⟩⟩
  have done : ∀ C : List Cm, (∀ c ∈ C, PartOk n f g c) → (C.flatMap (·.2)).Nodup → (¬ ∃ x ∈ endsL n, x ∉ C.flatMap (·.2)) → Right n f g C := fun C ok nd no => ⟨ok, (List.perm_ext_iff_of_nodup nd (endsL_nd n)).mpr fun x => ⟨sub C ok x, fun h => by
    by_cases c : x ∈ C.flatMap (·.2)
    · exact c
    · exact absurd ⟨x, h, c⟩ no⟩⟩
  have ext : ∀ (C : List Cm) (c : Cm), (C.flatMap (·.2)).Nodup → PartOk n f g c → (∀ z ∈ c.2, z ∉ C.flatMap (·.2)) → ((C ++ [c]).flatMap (·.2)).Nodup := fun C c nd h o => by
    rw [List.flatMap_append, List.nodup_append]
    refine ⟨nd, by simpa using h.nd.1, fun a ha b hb e => ?_⟩
    simp at hb
    exact o b hb (e ▸ ha)
  intro k
  induction k with
  | zero =>
    intro C hk ok nd
    by_cases more : ∃ x ∈ endsL n, x ∉ C.flatMap (·.2)
    · obtain ⟨c, h, o⟩ := part_ex n0 F G (clo C ok) more
      have ok' : ∀ d ∈ C ++ [c], PartOk n f g d := fun d hd => by
        rcases List.mem_append.mp hd with z | z
        · exact ok d z
        · rw [List.mem_singleton.mp z]; exact h
      have := ends_len_le n0 (ext C c nd h o) (sub _ ok')
      have l : 0 < c.2.length := List.length_pos_iff.mpr h.nd.2.2
      rw [List.flatMap_append, List.length_append] at this
      simp at this
      simp at hk
      omega
    · exact ⟨C, done C ok nd more⟩
  | succ k ih =>
    intro C hk ok nd
    by_cases more : ∃ x ∈ endsL n, x ∉ C.flatMap (·.2)
    · obtain ⟨c, h, o⟩ := part_ex n0 F G (clo C ok) more
      have ok' : ∀ d ∈ C ++ [c], PartOk n f g d := fun d hd => by
        rcases List.mem_append.mp hd with z | z
        · exact ok d z
        · rw [List.mem_singleton.mp z]; exact h
      have l : 0 < c.2.length := List.length_pos_iff.mpr h.nd.2.2
      refine ih (C ++ [c]) ?_ ok' (ext C c nd h o)
      rw [List.flatMap_append, List.length_append]
      simp
      simp at hk
      omega
    · exact ⟨C, done C ok nd more⟩
theorem right_ex {n : Int} {f g : Int → Int} (n0 : 0 ≤ n) (F : Inv2 n f) (G : Inv2 n g) : ∃ C, Right n f g C :=
  right_go n0 F G _ [] (Int.self_le_toNat _) (fun _ h => nomatch h) (by simp)
end Vf

namespace Vf
open PySem PySem.Spec PyProof.Rows L2

/-! ### which component an end stands in -/
theorem Right.has {n : Int} {f g : Int → Int} {C : List Cm} (h : Right n f g C) {e : Int} (he : e ∈ endsL n) : ∃ c ∈ C, e ∈ c.2 := List.mem_flatMap.mp (h.pm.mem_iff.mpr he)
theorem flat_uniq : ∀ {C : List Cm}, (C.flatMap (·.2)).Nodup → ∀ {c c' : Cm} {e : Int}, c ∈ C → c' ∈ C → e ∈ c.2 → e ∈ c'.2 → c = c'
  | [], _, _, _, _, h, _, _, _ => nomatch h
  | a :: C, nd, c, c', e, h, h', k, k' => by
    rw [List.flatMap_cons, List.nodup_append] at nd
    obtain ⟨n1, n2, n3⟩ := nd
    rcases List.mem_cons.mp h with z | z <;> rcases List.mem_cons.mp h' with z' | z'
    · rw [z, z']
    · rw [z] at k
      exact absurd rfl (n3 e k e (List.mem_flatMap.mpr ⟨c', z', k'⟩))
    · rw [z'] at k'
      exact absurd rfl (n3 e k' e (List.mem_flatMap.mpr ⟨c, z, k⟩))
    · exact flat_uniq n2 z z' k k'
theorem Right.nd {n : Int} {f g : Int → Int} {C : List Cm} (h : Right n f g C) : (C.flatMap (·.2)).Nodup := h.pm.nodup_iff.mpr (endsL_nd n)
theorem Right.uniq {n : Int} {f g : Int → Int} {C : List Cm} (h : Right n f g C) {c c' : Cm} {e : Int} (hc : c ∈ C) (hc' : c' ∈ C) (k : e ∈ c.2) (k' : e ∈ c'.2) : c = c' := flat_uniq h.nd hc hc' k k'
theorem Right.ndC {n : Int} {f g : Int → Int} {C : List Cm} (h : Right n f g C) : C.Nodup := by
  have : ∀ C : List Cm, (C.flatMap (·.2)).Nodup → (∀ c ∈ C, c.2 ≠ []) → C.Nodup := fun C => by
    induction C with
    | nil => exact fun _ _ => List.Pairwise.nil
    | cons a C ih =>
      intro nd ne
      rw [List.flatMap_cons, List.nodup_append] at nd
      obtain ⟨n1, n2, n3⟩ := nd
      refine List.nodup_cons.mpr ⟨fun z => ?_, ih n2 fun c hc => ne c (List.mem_cons_of_mem _ hc)⟩
      obtain ⟨x, hx⟩ := List.exists_mem_of_ne_nil _ (ne a (by simp))
      exact n3 x hx x (List.mem_flatMap.mpr ⟨a, z, hx⟩) rfl
  exact this C h.nd fun c hc => (h.ok c hc).nd.2.2
theorem Right.few {n : Int} {f g : Int → Int} {C : List Cm} (h : Right n f g C) (n0 : 0 ≤ n) : (C.length : Int) ≤ 2 * n + 1 ∧ ∀ c ∈ C, (c.2.length : Int) ≤ 2 * n + 1 := by
  refine ⟨?_, fun c hc => ends_len_le n0 (h.ok c hc).nd.1 (h.ok c hc).nd.2.1⟩
  have l1 : ∀ C : List Cm, (∀ c ∈ C, c.2 ≠ []) → C.length ≤ (C.flatMap (·.2)).length := fun C => by
    induction C with
    | nil => exact fun _ => Nat.le_refl _
    | cons a C ih =>
      intro ne
      have := ih fun c hc => ne c (List.mem_cons_of_mem _ hc)
      have l : 0 < a.2.length := List.length_pos_iff.mpr (ne a (by simp))
      rw [List.flatMap_cons, List.length_append, List.length_cons]
      omega
  have := l1 C fun c hc => (h.ok c hc).nd.2.2
  have l2 := ends_len_le n0 (endsL_nd n) (fun z hz => hz)
  rw [h.pm.length_eq] at this
  omega
/-- an end from which a walk begins, or a component of one or two ends is told -/
def trig (f g : Int → Int) (x : Int) : Prop := f x = g x ∨ f x = 0 ∨ g x = 0
instance (f g : Int → Int) (x : Int) : Decidable (trig f g x) := by unfold trig; exact inferInstance
theorem Wy.single {n : Int} {p q : Int → Int} {w : List Int} {x y e : Int} (P : Inv2 n p) (G : Inv2 n q) (h : Wy n p q w x y) (he : e ∈ w) (p0 : p e = 0) (q0 : q e = 0) : w = [e] := by
  obtain ⟨i, hi⟩ := List.getElem?_of_mem he
  have l := (List.getElem?_eq_some_iff.mp hi).1
  have i0 : i = 0 := by
    cases i with
    | zero => rfl
    | succ i =>
      obtain ⟨u, _, u0, e'⟩ := h.pre P G hi
      rw [p0, q0] at e'
      split at e' <;> exact absurd e'.symm u0
  subst i0
  have l1 : ¬ 0 + 1 < w.length := fun z => by
    obtain ⟨u, _, u0, e'⟩ := h.post hi z
    rw [p0, q0] at e'
    split at e' <;> exact absurd e'.symm u0
  match w, hi, l, l1 with
  | [a], hi, _, _ => cases hi; rfl
  | _ :: _ :: _, _, _, l1 => exact absurd (by simp) l1
/-- open in both layouts -/
theorem part_A {n : Int} {f g : Int → Int} {c : Cm} {e : Int} (F : Inv2 n f) (G : Inv2 n g) (h : PartOk n f g c) (he : e ∈ c.2) (f0 : f e = 0) (g0 : g e = 0) : c = (.odd, [e]) := by
  cases h with
  | odd h l => rw [h.single G F he g0 f0]
  | one h l => rw [h.single F G he f0 g0] at l; exact absurd l (by simp)
  | other h l => rw [h.single G F he g0 f0] at l; exact absurd l (by simp)
  | ring h => exact absurd f0 (h.both F G he).1.1
theorem Wy.inner {n : Int} {p q : Int → Int} {w : List Int} {x y e : Int} (P : Inv2 n p) (G : Inv2 n q) (h : Wy n p q w x y) (he : e ∈ w) (e0 : p e ≠ 0) (e1 : p e = q e) : False := by
  obtain ⟨i, hi⟩ := List.getElem?_of_mem he
  have l := (List.getElem?_eq_some_iff.mp hi).1
  cases i with
  | zero => rw [h.fst] at hi; cases hi; rw [h.x0] at e1; exact e0 e1
  | succ i =>
    obtain ⟨u, hu, u0, e'⟩ := h.pre P G hi
    have eu : u = p e := by rw [← e']; split <;> simp [e1]
    by_cases c : i + 1 + 1 < w.length
    · obtain ⟨v, hv, v0, e2⟩ := h.post hi c
      have ev : v = p e := by rw [← e2]; split <;> simp [e1]
      have := nd_at h.nd hu (by rw [eu, ← ev]; exact hv)
      omega
    · have ei : i + 1 = w.length - 1 := by omega
      rw [ei, h.lst] at hi
      cases hi
      have := h.y0
      rw [e1] at this
      split at this
      · exact e0 (e1.trans this)
      · exact e0 (e1.trans this)
/-- coupled alike in both -/
theorem part_B {n : Int} {f g : Int → Int} {c : Cm} {e y : Int} (F : Inv2 n f) (G : Inv2 n g) (h : PartOk n f g c) (he : e ∈ c.2) (fy : f e = y) (gy : g e = y) (y0 : y ≠ 0) : c = (.ring, [e, y]) ∧ e < y ∨ c = (.ring, [y, e]) ∧ y < e := by
  cases h with
  | odd h l => exact (h.inner G F he (by rw [gy]; exact y0) (by rw [fy, gy])).elim
  | one h l => exact (h.inner F G he (by rw [fy]; exact y0) (by rw [fy, gy])).elim
  | other h l => exact (h.inner G F he (by rw [gy]; exact y0) (by rw [fy, gy])).elim
  | @ring w x h =>
    obtain ⟨i, hi⟩ := List.getElem?_of_mem he
    have l := (List.getElem?_eq_some_iff.mp hi).1
    obtain ⟨u, hu, u0, e1, um⟩ := h.post hi
    obtain ⟨v, j, hv, v0, e2, ej⟩ := h.back F G hi
    have eu : u = y := by rw [← e1]; split <;> simp [fy, gy]
    have ev : v = y := by rw [← e2]; split <;> simp [fy, gy]
    subst eu
    subst ev
    have ney : e ≠ v := by
      have := (F.to e (h.sub e he) (by rw [fy]; exact y0)).2.2
      rw [fy] at this
      exact this.symm
    have hev := h.ev
    have jl := (List.getElem?_eq_some_iff.mp hv).1
    -- the place of the next one
    have nx : (i + 1 < w.length ∧ j = i + 1) ∨ (i + 1 = w.length ∧ j = 0) := by
      rcases get_app hu with ⟨c, k⟩ | ⟨c, k⟩
      · exact .inl ⟨c, nd_at h.nd hv k⟩
      · refine .inr ⟨c, nd_at h.nd hv (by rw [h.fst, k])⟩
    have l2 : w.length = 2 := by
      by_cases i0 : i = 0
      · rw [if_pos i0] at ej
        rcases nx with z | z <;> omega
      · rw [if_neg i0] at ej
        rcases nx with z | z <;> omega
    match w, l2, hi, hv, l, h, nx, ej with
    | [a, b], _, hi, hv, l, h, nx, ej =>
      have ha : a = x := by have := h.fst; simpa using this
      have mn := h.min
      subst ha
      have i01 : i = 0 ∨ i = 1 := by simp at l; omega
      rcases i01 with rfl | rfl
      · have j1 : j = 1 := by simp at nx; omega
        subst j1
        simp at hi hv
        subst hi
        subst hv
        have := mn b (by simp)
        exact .inl ⟨rfl, by omega⟩
      · have j1 : j = 0 := by simp at nx; omega
        subst j1
        simp at hi hv
        subst hi
        subst hv
        have := mn b (by simp)
        exact .inr ⟨rfl, by omega⟩
/-- what is walked from an outer end -/
def WK (n : Int) (f g : Int → Int) (e : Int) (w : List Int) (c : Cm) : Prop := ∃ y, (f e ≠ 0 ∧ g e = 0 ∧ Wy n f g w e y ∧ c = (if w.length % 2 = 0 then (.one, w) else (.odd, w.reverse))) ∨ (f e = 0 ∧ g e ≠ 0 ∧ Wy n g f w e y ∧ c = (if w.length % 2 = 0 then (.other, w) else (.odd, w)))
theorem Wy.outer {n : Int} {p q : Int → Int} {w : List Int} {x y e : Int} (P : Inv2 n p) (G : Inv2 n q) (h : Wy n p q w x y) (he : e ∈ w) (o : (p e = 0) ∨ (q e = 0)) (no : ¬ (p e = 0 ∧ q e = 0)) : (e = x ∧ q e = 0 ∧ p e ≠ 0) ∨ (e = y ∧ e ≠ x ∧ (if w.length % 2 = 0 then q e = 0 ∧ p e ≠ 0 else p e = 0 ∧ q e ≠ 0)) := by
  obtain ⟨i, hi⟩ := List.getElem?_of_mem he
  have l := (List.getElem?_eq_some_iff.mp hi).1
  cases i with
  | zero =>
    rw [h.fst] at hi
    cases hi
    exact .inl ⟨rfl, h.x0, fun z => no ⟨z, h.x0⟩⟩
  | succ i =>
    obtain ⟨u, hu, u0, e'⟩ := h.pre P G hi
    have nx : e ≠ x := fun z => by
      have := nd_at h.nd hi (by rw [z]; exact h.fst)
      omega
    by_cases c : i + 1 + 1 < w.length
    · obtain ⟨v, hv, v0, e2⟩ := h.post hi c
      exfalso
      by_cases d : (i + 1) % 2 = 0
      · rw [if_pos d] at e' e2
        rcases o with o | o
        · exact v0 (e2.symm.trans o)
        · exact u0 (e'.symm.trans o)
      · rw [if_neg d] at e' e2
        rcases o with o | o
        · exact u0 (e'.symm.trans o)
        · exact v0 (e2.symm.trans o)
    · have ei : i + 1 = w.length - 1 := by omega
      have ey : e = y := by rw [ei, h.lst] at hi; cases hi; rfl
      have y0 := h.y0
      rw [← ey] at y0
      refine .inr ⟨ey, nx, ?_⟩
      by_cases d : w.length % 2 = 0
      · rw [if_neg (by omega)] at y0
        rw [if_pos d]
        exact ⟨y0, fun z => no ⟨z, y0⟩⟩
      · rw [if_pos (by omega)] at y0
        rw [if_neg d]
        exact ⟨y0, fun z => no ⟨y0, z⟩⟩
theorem part_C {n : Int} {f g : Int → Int} {c : Cm} {e : Int} (F : Inv2 n f) (G : Inv2 n g) (h : PartOk n f g c) (he : e ∈ c.2) (o : f e = 0 ∨ g e = 0) (no : f e ≠ g e) (mn : ∀ z ∈ c.2, trig f g z → e ≤ z) : ∃ w, WK n f g e w c := by
  have no' : ¬ (f e = 0 ∧ g e = 0) := fun z => no (z.1.trans z.2.symm)
  have no2 : ¬ (g e = 0 ∧ f e = 0) := fun z => no' ⟨z.2, z.1⟩
  cases h with
  | @odd w x y h l =>
    rcases h.outer G F he o.symm no2 with ⟨rfl, a, b⟩ | ⟨rfl, ne, k⟩
    · exact ⟨w, y, .inr ⟨a, b, h, by rw [if_neg (by omega)]⟩⟩
    · rw [if_neg (by omega)] at k
      have r := h.rev G F
      rw [if_neg (by omega), if_neg (by omega)] at r
      exact ⟨w.reverse, x, .inl ⟨k.2, k.1, r, by rw [List.length_reverse, if_neg (by omega), List.reverse_reverse]⟩⟩
  | @one w x y h l xy =>
    rcases h.outer F G he o no' with ⟨rfl, a, b⟩ | ⟨rfl, ne, k⟩
    · exact ⟨w, y, .inl ⟨b, a, h, by rw [if_pos l]⟩⟩
    · have := mn x (List.mem_of_getElem? h.fst) (.inr (.inr h.x0))
      exact absurd (by omega) ne
  | @other w x y h l xy =>
    rcases h.outer G F he o.symm no2 with ⟨rfl, a, b⟩ | ⟨rfl, ne, k⟩
    · exact ⟨w, y, .inr ⟨a, b, h, by rw [if_pos l]⟩⟩
    · have := mn x (List.mem_of_getElem? h.fst) (.inr (.inl h.x0))
      exact absurd (by omega) ne
  | ring h =>
    have := h.both F G he
    exact (o.elim this.1.1 this.2.1).elim
/-- a component without such ends is a ring -/
theorem part_D {n : Int} {f g : Int → Int} {c : Cm} (h : PartOk n f g c) (no : ∀ z ∈ c.2, ¬ trig f g z) : ∃ w x, c = (.ring, w) ∧ Rg n f g w x := by
  cases h with
  | odd h l => exact absurd (.inr (.inl h.x0)) (no _ (List.mem_of_getElem? h.fst))
  | one h l => exact absurd (.inr (.inr h.x0)) (no _ (List.mem_of_getElem? h.fst))
  | other h l => exact absurd (.inr (.inl h.x0)) (no _ (List.mem_of_getElem? h.fst))
  | ring h => exact ⟨_, _, rfl, h⟩
/-- what is next along a walk, or 0 -/
def hd0 : List Int → Int
  | [] => 0
  | y :: _ => y
theorem Wy.next {n : Int} {p q : Int → Int} {w dn rest : List Int} {x y z : Int} (h : Wy n p q w x y) (e : w = dn ++ z :: rest) : (if dn.length % 2 = 0 then p z else q z) = hd0 rest := by
  have hz : w[dn.length]? = some z := by rw [e]; simp
  cases rest with
  | nil =>
    have el : dn.length = w.length - 1 := by rw [e]; simp
    rw [el, h.lst] at hz
    cases hz
    rw [el]
    exact h.y0
  | cons v rest =>
    obtain ⟨u, hu, _, k⟩ := h.post hz (by rw [e]; simp)
    rw [k]
    have : w[dn.length + 1]? = some v := by rw [e]; simp
    rw [this] at hu
    cases hu
    rfl
theorem Rg.next {n : Int} {f g : Int → Int} {w dn rest : List Int} {x z : Int} (h : Rg n f g w x) (e : w = dn ++ z :: rest) : (if dn.length % 2 = 0 then f z else g z) = hd0 (rest ++ [x]) := by
  have hz : w[dn.length]? = some z := by rw [e]; simp
  obtain ⟨u, hu, _, k, _⟩ := h.post hz
  rw [k]
  rw [e, List.append_assoc] at hu
  rw [List.getElem?_append_right (by omega), show dn.length + 1 - dn.length = 1 by omega] at hu
  cases rest with
  | nil => simp at hu; exact hu.symm
  | cons v rest => simp at hu; exact hu.symm

/-! ### a list of truths as a table -/
structure IsV (n : Int) (s : Int → Bool) (ts : List V) : Prop where
  n0 : 0 ≤ n
  len : (ts.length : Int) = 2 * n + 1
  get : ∀ e, -n ≤ e → e ≤ n → atI ts e = some (.bl (s e))
theorem IsV.set {n : Int} {s : Int → Bool} {ts : List V} (h : IsV n s ts) {e : Int} (h1 : -n ≤ e) (h2 : e ≤ n) :
    ∃ j, ixN ts.length e = some j ∧ IsV n (fun x => if x = e then true else s x) (ts.set j (.bl true)) := by
  have hl := h.len
  have n0 := h.n0
  have ev := ixN_of (m := ts.length) (e := e) (by omega) (by omega)
  refine ⟨_, ev, n0, by rw [List.length_set]; exact hl, fun x x1 x2 => ?_⟩
  have ex := ixN_of (m := ts.length) (e := x) (by omega) (by omega)
  have gx := h.get x x1 x2
  unfold atI at gx ⊢
  rw [ex] at gx
  rw [List.length_set, ex]
  show (ts.set _ (V.bl true))[_]? = _
  rw [List.getElem?_set]
  by_cases c : x = e
  · subst c
    rw [if_pos rfl, if_pos rfl, if_pos]
    split <;> omega
  · rw [if_neg c, if_neg]
    · exact gx
    · intro z
      split at z <;> split at z <;> omega
theorem IsV.start {n : Int} (h : 0 ≤ n) : IsV n (fun _ => false) (List.replicate (2 * n + 1).toNat [V.bl false]).flatten := by
  have e : ∀ k : Nat, (List.replicate k [V.bl false]).flatten = List.replicate k (V.bl false) := fun k => by
    induction k with
    | zero => rfl
    | succ k ih => rw [List.replicate_succ, List.flatten_cons, ih, List.replicate_succ]; rfl
  rw [e]
  refine ⟨h, by rw [List.length_replicate]; omega, fun e h1 h2 => ?_⟩
  unfold atI
  rw [List.length_replicate, ixN_of (by omega) (by omega)]
  show (List.replicate _ (V.bl false))[_]? = _
  rw [List.getElem?_replicate, if_pos]
  split <;> omega

/-! ### components as data -/
def wS : Wd → Str
  | .odd => "odd"
  | .one => "one"
  | .other => "other"
  | .ring => "ring"
def rk : Wd → Int
  | .odd => 0
  | .one => 1
  | .other => 2
  | .ring => 3
def key (c : Cm) : List Int := rk c.1 :: c.2
def dC (c : Cm) : PyData := .tuple [.str (wS c.1), dR c.2]
def dCs (C : List Cm) : PyData := .list (C.map dC)
theorem key_inj {a b : Cm} (h : key a = key b) : a = b := by
  obtain ⟨u, x⟩ := a
  obtain ⟨v, y⟩ := b
  unfold key at h
  simp only [List.cons.injEq] at h
  obtain ⟨h1, rfl⟩ := h
  cases u <;> cases v <;> first | rfl | (exact absurd h1 (by decide))
def CM (H : Hp) (v : V) (c : Cm) : Prop := ∃ p e, v = .ref p ∧ H p = some (.tup [.str (wS c.1), .ref e]) ∧ H e = some (.lst (c.2.map V.int))
abbrev CMs (H : Hp) : List V → List Cm → Prop := Paired (CM H)
theorem CM.mono {H H' : Hp} {v : V} {c : Cm} (s : Same H H') (h : CM H v c) : CM H' v c := let ⟨p, e, e1, e2, e3⟩ := h; ⟨p, e, e1, s _ _ e2, s _ _ e3⟩
theorem CMs.mono {H H' : Hp} {xs : List V} {C : List Cm} (s : Same H H') (h : CMs H xs C) : CMs H' xs C := pair_mono h fun _ _ q => q.mono s
theorem alike_dC (a b : Cm) : PySem.W.alike (dC a) (dC b) = true := by
  unfold dC
  simp [PySem.W.alike, PySem.W.alikeAll, alike_dR]
theorem rowLt_cons (i j : Int) (x y : List Int) : decide ((i :: x) < (j :: y)) = if i = j then decide (x < y) else decide (i < j) := by
  by_cases c : i = j
  · subst c
    rw [if_pos rfl]
    congr 1
    rw [List.cons_lt_cons_iff]
    simp
  · rw [if_neg c]
    congr 1
    rw [List.cons_lt_cons_iff]
    simp [c]
theorem wlt (u v : Wd) : PySem.W.dataLt (.str (wS u)) (.str (wS v)) = decide (rk u < rk v) := by
  rw [PySem.W.dataLt_str]
  cases u <;> cases v <;> decide +kernel
theorem weq (u v : Wd) : PyData.eqv (.str (wS u)) (.str (wS v)) = decide (rk u = rk v) := by
  cases u <;> cases v <;> decide +kernel
theorem lt_dC (a b : Cm) : PySem.W.dataLt (dC a) (dC b) = decide (key a < key b) := by
  obtain ⟨u, x⟩ := a
  obtain ⟨v, y⟩ := b
  unfold dC key
  simp only
  rw [PySem.W.dataLt_pair (by simp [PySem.W.alike]) (alike_dR x y), rowLt_cons, wlt, weq]
  have e : PySem.W.dataLt (dR x) (dR y) = decide (x < y) := PySem.W.dataLt_ints x y
  by_cases c : rk u = rk v
  · rw [if_pos (by simpa using c), if_pos c, e]
    split
    · rename_i h
      have h2 : decide (x = y) = true := (eqv_ints x y).symm.trans h
      have := of_decide_eq_true h2
      subst this
      simp [List.lt_irrefl]
    · rfl
  · rw [if_neg (by simpa using c), if_neg c]
theorem le_dC : PySem.W.dataLe false dC = fun p q => decide (key p ≤ key q) := by
  funext a b
  show (!PySem.W.dataLt (dC b) (dC a)) = _
  rw [lt_dC]
  by_cases h : key b < key a
  · have h' : ¬ key a ≤ key b := fun z => List.not_lt.mpr z h
    simp [h, h']
  · have h' : key a ≤ key b := List.not_lt.mp h
    simp [h, h']
theorem CM.dp {K : PySem.W.Frag} {H : Hp} {v : V} {c : Cm} (h : CM H v c) : Dp K H v (dC c) := by
  obtain ⟨p, e, rfl, h1, h2⟩ := h
  exact .tup (sqt h1) (.cons (.str _) (.cons (.lst (sql h2) (dpa_ints c.2)) .nil))
theorem dpa_cms {K : PySem.W.Frag} {H : Hp} : ∀ {xs : List V} {C : List Cm}, CMs H xs C → DpAll K H xs (C.map dC)
  | _, _, .nil => .nil
  | _, _, .cons h t => .cons h.dp (dpa_cms t)
theorem depth_dC (c : Cm) : (dC c).depth ≤ 2 := by
  have := depth_dR c.2
  unfold dC
  rw [PyData.depth, PyData.depthAll, PyData.depthAll, PyData.depthAll, PyData.depth]
  omega
/-- components in their order -/
def srtC (C : List Cm) : List Cm := C.mergeSort fun p q => decide (key p ≤ key q)
theorem r_sortC {K : PySem.W.Frag} {H : Hp} {Q : VK} {a : Addr} {xs : List V} {C : List Cm} (hs : SqL K H a xs) (h : CMs H xs C) (hl : C.length ≤ 100000)
    (q : ∀ ys p, CMs H ys (srtC C) → (∀ y ∈ ys, y ∈ xs) → H p = none → Q (.ref p) (upd H p (.lst ys))) : rSortD K [.ref a] H Q := by
  have hx : ∀ {xs : List V} {C : List Cm}, CMs H xs C → Paired (fun v b => v ∈ xs ∧ CM H v b) xs C := fun {xs C} h => by
    induction h with
    | nil => exact .nil
    | cons r _ ih => exact .cons ⟨by simp, r⟩ (pair_mono ih fun _ _ z => ⟨List.mem_cons_of_mem _ z.1, z.2⟩)
  refine ⟨a, xs, Cm, C, dC, fun v b => v ∈ xs ∧ CM H v b, rfl, hs, hx h, fun v b z => z.2.dp, PySem.W.AllAlike.of alike_dC, PySem.W.Sortable.tuples fun b => ⟨_, _, rfl⟩, fun b _ => Nat.le_trans (depth_dC b) (by decide), szl hl, fun ys p h2 np => ?_⟩
  rw [le_dC] at h2
  refine q ys p (pair_mono h2 fun _ _ z => z.2) (fun y hy => ?_) np
  obtain ⟨i, hi⟩ := List.getElem?_of_mem hy
  obtain ⟨_, _, z⟩ := pair_get h2 hi
  exact z.1
theorem key_tr : ∀ a b c : Cm, decide (key a ≤ key b) = true → decide (key b ≤ key c) = true → decide (key a ≤ key c) = true := fun a b c h1 h2 => decide_eq_true (List.le_trans (of_decide_eq_true h1) (of_decide_eq_true h2))
theorem key_to : ∀ a b : Cm, (decide (key a ≤ key b) || decide (key b ≤ key a)) = true := fun a b => by
  rcases List.le_total (key a) (key b) with z | z
  · simp [z]
  · simp [z]
theorem srtC_perm (C : List Cm) : (srtC C).Perm C := List.mergeSort_perm C _
theorem srtC_srt (C : List Cm) : (srtC C).Pairwise fun p q => key p ≤ key q := (List.pairwise_mergeSort key_tr key_to C).imp fun z => of_decide_eq_true z
theorem cms_uniq {C C' : List Cm} (h : C.Perm C') (s1 : C.Pairwise fun p q => key p ≤ key q) (s2 : C'.Pairwise fun p q => key p ≤ key q) : C = C' :=
  List.Perm.eq_of_pairwise (le := fun p q => key p ≤ key q) (fun a b _ _ h1 h2 => key_inj (List.le_antisymm h1 h2)) s1 s2 h
theorem srtC_eq {C C' : List Cm} (h : C.Perm C') : srtC C = srtC C' := cms_uniq ((srtC_perm C).trans (h.trans (srtC_perm C').symm)) (srtC_srt C) (srtC_srt C')
theorem srtC_two (C : List Cm) : srtC (srtC C) = srtC C := srtC_eq (srtC_perm C)
theorem Right.perm {n : Int} {f g : Int → Int} {C C' : List Cm} (h : Right n f g C) (p : C'.Perm C) : Right n f g C' :=
  ⟨fun c hc => h.ok c (p.mem_iff.mp hc), (p.flatMap_right (fun c : Cm => c.2)).trans h.pm⟩
end Vf

namespace Vf
open PySem PySem.Spec PyProof.Rows L2

theorem hid_hid {t : List Addr} {H H' : Hp} (s : Same (Hid t H) H') : Same (Hid t H) (Hid t H') := fun b o e => by
  have := s b o e
  exact hid_get this (hid_un e)
/-- a component at some place that was new -/
def CMN (H0 H : Hp) (v : V) (c : Cm) : Prop := ∃ p e, v = .ref p ∧ H0 p = none ∧ H0 e = none ∧ H p = some (.tup [.str (wS c.1), .ref e]) ∧ H e = some (.lst (c.2.map V.int))
abbrev CMNs (H0 H : Hp) : List V → List Cm → Prop := Paired (CMN H0 H)
theorem CMN.mono {H0 H H' : Hp} {v : V} {c : Cm} (s : Same H H') (h : CMN H0 H v c) : CMN H0 H' v c := let ⟨p, e, e1, k1, k2, e2, e3⟩ := h; ⟨p, e, e1, k1, k2, s _ _ e2, s _ _ e3⟩
theorem CMN.cm {H0 H : Hp} {v : V} {c : Cm} (h : CMN H0 H v c) : CM H v c := let ⟨p, e, e1, _, _, e2, e3⟩ := h; ⟨p, e, e1, e2, e3⟩
theorem CMNs.mono {H0 H H' : Hp} {xs : List V} {C : List Cm} (s : Same H H') (h : CMNs H0 H xs C) : CMNs H0 H' xs C := pair_mono h fun _ _ q => q.mono s
theorem CMNs.cms {H0 H : Hp} {xs : List V} {C : List Cm} (h : CMNs H0 H xs C) : CMs H xs C := pair_mono h fun _ _ q => q.cm
theorem CMN.old {H0 H1 H : Hp} {v : V} {c : Cm} (s : Same H0 H1) (h : CMN H1 H v c) : CMN H0 H v c := let ⟨p, e, e1, k1, k2, e2, e3⟩ := h; ⟨p, e, e1, s.free k1, s.free k2, e2, e3⟩
theorem CMNs.old {H0 H1 H : Hp} {xs : List V} {C : List Cm} (s : Same H0 H1) (h : CMNs H1 H xs C) : CMNs H0 H xs C := pair_mono h fun _ _ q => q.old s
/-- a new list of new components -/
structure NewC (H H' : Hp) (p : Addr) (xs : List V) (C : List Cm) : Prop where
  new : H p = none
  at' : H' p = some (.lst xs)
  cms : CMNs H H' xs C
theorem r_sortCF {K : PySem.W.Frag} {H : Hp} {Q : VK} {a : Addr} {xs : List V} {C : List Cm} {F : V → Cm → Prop} (hs : SqL K H a xs) (h : Paired F xs C) (hF : ∀ v c, F v c → CM H v c) (hl : C.length ≤ 100000)
    (q : ∀ ys p, Paired F ys (srtC C) → H p = none → Q (.ref p) (upd H p (.lst ys))) : rSortD K [.ref a] H Q := by
  refine ⟨a, xs, Cm, C, dC, F, rfl, hs, h, fun v b z => (hF v b z).dp, PySem.W.AllAlike.of alike_dC, PySem.W.Sortable.tuples fun b => ⟨_, _, rfl⟩, fun b _ => Nat.le_trans (depth_dC b) (by decide), szl hl, fun ys p h2 np => ?_⟩
  rw [le_dC] at h2
  exact q ys p h2 np

/-! ### the components found one by one -/
structure St1 (n : Int) (f g : Int → Int) (C : List Cm) (cur : Int) (C1 : List Cm) (ks : List Int) (s : Int → Bool) : Prop where
  sub : ∀ c ∈ C1, c ∈ C
  nd : C1.Nodup
  inC : ∀ c ∈ C, c ∈ C1 ↔ ∃ x ∈ c.2, x < cur ∧ trig f g x
  seen1 : ∀ x, s x = true → x = 0 ∨ ∃ c ∈ C1, x ∈ c.2
  seen2 : ∀ c ∈ C1, ∀ x ∈ c.2, s x = true ∨ (x < cur ∧ trig f g x)
  s0 : s 0 = true
  ks1 : ∀ x ∈ ks, x ∈ endsL n ∧ x < cur ∧ ¬ trig f g x
  ks2 : ∀ x ∈ endsL n, x < cur → ¬ trig f g x → x ∈ ks ∨ ∃ c ∈ C1, x ∈ c.2
  asc : ks.Pairwise (· < ·)
section
variable {n : Int} {f g : Int → Int} {C : List Cm}
theorem ends_c (R : Right n f g C) {c : Cm} (hc : c ∈ C) {x : Int} (hx : x ∈ c.2) : -n ≤ x ∧ x ≤ n ∧ x ≠ 0 := mem_endsL.mp ((R.ok c hc).nd.2.1 x hx)
theorem St1.start (R : Right n f g C) {s : Int → Bool} (hs : ∀ x, s x = true ↔ x = 0) : St1 n f g C (-n) [] [] s := by
  refine ⟨fun _ h => (nomatch h), List.Pairwise.nil, fun c hc => ⟨fun h => (nomatch h), fun ⟨x, hx, h, _⟩ => ?_⟩, fun x h => .inl ((hs x).mp h), fun _ h => (nomatch h), (hs 0).mpr rfl, fun _ h => (nomatch h), fun x hx h => ?_, List.Pairwise.nil⟩
  · have := ends_c R hc hx; omega
  · have := mem_endsL.mp hx; omega
theorem St1.skip (R : Right n f g C) {k : Int} {C1 : List Cm} {ks : List Int} {s : Int → Bool} (h : St1 n f g C k C1 ks s) (hs : s k = true) : St1 n f g C (k + 1) C1 ks s := by
  have kc : k = 0 ∨ ∃ c ∈ C1, k ∈ c.2 := h.seen1 k hs
  refine ⟨h.sub, h.nd, fun c hc => ⟨fun z => ?_, fun ⟨x, hx, hl, ht⟩ => ?_⟩, h.seen1, fun c hc x hx => ?_, h.s0, fun x hx => ?_, fun x hx hl ht => ?_, h.asc⟩
  · obtain ⟨x, hx, h1, h2⟩ := (h.inC c hc).mp z
    exact ⟨x, hx, by omega, h2⟩
  · by_cases e : x = k
    · subst e
      rcases kc with e0 | ⟨c', h1, h2⟩
      · exact absurd e0 (ends_c R hc hx).2.2
      · rw [R.uniq hc (h.sub c' h1) hx h2]; exact h1
    · exact (h.inC c hc).mpr ⟨x, hx, by omega, ht⟩
  · rcases h.seen2 c hc x hx with z | z
    · exact .inl z
    · exact .inr ⟨by omega, z.2⟩
  · have := h.ks1 x hx
    exact ⟨this.1, by omega, this.2.2⟩
  · by_cases e : x = k
    · subst e
      rcases kc with e0 | z
      · exact absurd e0 (mem_endsL.mp hx).2.2
      · exact .inr z
    · exact h.ks2 x hx (by omega) ht
/-- the component of an end that is not seen yet -/
theorem St1.mine (R : Right n f g C) {k : Int} {C1 : List Cm} {ks : List Int} {s : Int → Bool} (h : St1 n f g C k C1 ks s) (h1 : -n ≤ k) (h2 : k ≤ n) (hs : s k = false) : k ∈ endsL n ∧ ∃ c ∈ C, k ∈ c.2 ∧ c ∉ C1 ∧ ∀ z ∈ c.2, trig f g z → k ≤ z := by
  have k0 : k ≠ 0 := fun z => by rw [z, h.s0] at hs; cases hs
  have kE : k ∈ endsL n := mem_endsL.mpr ⟨h1, h2, k0⟩
  obtain ⟨c, hc, hk⟩ := R.has kE
  have nc : c ∉ C1 := fun z => by
    rcases h.seen2 c z k hk with y | y
    · rw [hs] at y; cases y
    · omega
  refine ⟨kE, c, hc, hk, nc, fun z hz ht => ?_⟩
  by_cases e : k ≤ z
  · exact e
  · exact absurd ((h.inC c hc).mpr ⟨z, hz, by omega, ht⟩) nc
theorem St1.add (R : Right n f g C) {k : Int} {C1 : List Cm} {ks : List Int} {s s' : Int → Bool} (h : St1 n f g C k C1 ks s) {c : Cm} (hc : c ∈ C) (hk : k ∈ c.2) (nc : c ∉ C1) (tk : trig f g k) (a1 : ∀ x, s x = true → s' x = true) (a2 : ∀ x, s' x = true → s x = true ∨ x = 0 ∨ x ∈ c.2) (a3 : ∀ x ∈ c.2, s' x = true ∨ x = k) : St1 n f g C (k + 1) (C1 ++ [c]) ks s' := by
  refine ⟨fun d hd => ?_, ?_, fun d hd => ⟨fun z => ?_, fun ⟨x, hx, hl, ht⟩ => ?_⟩, fun x hx => ?_, fun d hd x hx => ?_, a1 0 h.s0, fun x hx => ?_, fun x hx hl ht => ?_, h.asc⟩
  · rcases List.mem_append.mp hd with z | z
    · exact h.sub d z
    · rw [List.mem_singleton.mp z]; exact hc
  · rw [List.nodup_append]
    refine ⟨h.nd, by simp, fun a ha b hb e => ?_⟩
    rw [List.mem_singleton.mp hb] at e
    exact nc (e ▸ ha)
  · rcases List.mem_append.mp z with z | z
    · obtain ⟨x, hx, h1, h2⟩ := (h.inC d hd).mp z
      exact ⟨x, hx, by omega, h2⟩
    · rw [List.mem_singleton.mp z]
      exact ⟨k, hk, by omega, tk⟩
  · by_cases e : x = k
    · subst e
      rw [R.uniq hd hc hx hk]
      simp
    · exact List.mem_append_left _ ((h.inC d hd).mpr ⟨x, hx, by omega, ht⟩)
  · rcases a2 x hx with z | z | z
    · rcases h.seen1 x z with y | ⟨d, h1, h2⟩
      · exact .inl y
      · exact .inr ⟨d, List.mem_append_left _ h1, h2⟩
    · exact .inl z
    · exact .inr ⟨c, by simp, z⟩
  · rcases List.mem_append.mp hd with z | z
    · rcases h.seen2 d z x hx with y | y
      · exact .inl (a1 x y)
      · exact .inr ⟨by omega, y.2⟩
    · rw [List.mem_singleton.mp z] at hx
      rcases a3 x hx with y | y
      · exact .inl y
      · exact .inr ⟨by omega, y ▸ tk⟩
  · have := h.ks1 x hx
    exact ⟨this.1, by omega, this.2.2⟩
  · by_cases e : x = k
    · subst e; exact absurd tk ht
    · rcases h.ks2 x hx (by omega) ht with z | ⟨d, h1, h2⟩
      · exact .inl z
      · exact .inr ⟨d, List.mem_append_left _ h1, h2⟩
theorem St1.keep {k : Int} {C1 : List Cm} {ks : List Int} {s : Int → Bool} (h : St1 n f g C k C1 ks s) (kE : k ∈ endsL n) (tk : ¬ trig f g k) : St1 n f g C (k + 1) C1 (ks ++ [k]) s := by
  refine ⟨h.sub, h.nd, fun c hc => ⟨fun z => ?_, fun ⟨x, hx, hl, ht⟩ => ?_⟩, h.seen1, fun c hc x hx => ?_, h.s0, fun x hx => ?_, fun x hx hl ht => ?_, ?_⟩
  · obtain ⟨x, hx, h1, h2⟩ := (h.inC c hc).mp z
    exact ⟨x, hx, by omega, h2⟩
  · by_cases e : x = k
    · subst e; exact absurd ht tk
    · exact (h.inC c hc).mpr ⟨x, hx, by omega, ht⟩
  · rcases h.seen2 c hc x hx with z | z
    · exact .inl z
    · exact .inr ⟨by omega, z.2⟩
  · rcases List.mem_append.mp hx with z | z
    · have := h.ks1 x z
      exact ⟨this.1, by omega, this.2.2⟩
    · rw [List.mem_singleton.mp z]
      exact ⟨kE, by omega, tk⟩
  · by_cases e : x = k
    · subst e; exact .inl (by simp)
    · rcases h.ks2 x hx (by omega) ht with z | z
      · exact .inl (List.mem_append_left _ z)
      · exact .inr z
  · rw [List.pairwise_append]
    refine ⟨h.asc, List.pairwise_singleton _ _, fun a ha b hb => ?_⟩
    rw [List.mem_singleton.mp hb]
    exact (h.ks1 a ha).2.1
structure St2 (n : Int) (f g : Int → Int) (C C1 : List Cm) (ks dn : List Int) (C2 : List Cm) (s : Int → Bool) : Prop where
  sub : ∀ c ∈ C2, c ∈ C
  nd : C2.Nodup
  inC : ∀ c ∈ C, c ∈ C2 ↔ c ∈ C1 ∨ ∃ x ∈ dn, x ∈ c.2
  seen1 : ∀ x, s x = true → x = 0 ∨ ∃ c ∈ C2, x ∈ c.2
  seen2 : ∀ c ∈ C2, ∀ x ∈ c.2, x ∈ ks → s x = true
theorem St1.two {C1 : List Cm} {ks : List Int} {s : Int → Bool} (h : St1 n f g C (n + 1) C1 ks s) : St2 n f g C C1 ks [] C1 s :=
  ⟨h.sub, h.nd, fun c _ => ⟨.inl, fun z => z.elim id fun ⟨_, k, _⟩ => nomatch k⟩, h.seen1, fun c hc x hx hk => (h.seen2 c hc x hx).resolve_right fun z => (h.ks1 x hk).2.2 z.2⟩
theorem St2.skip (R : Right n f g C) {C1 C2 : List Cm} {ks dn : List Int} {s : Int → Bool} {x : Int} (h : St2 n f g C C1 ks dn C2 s) (xE : x ∈ endsL n) (hs : s x = true) : St2 n f g C C1 ks (dn ++ [x]) C2 s := by
  refine ⟨h.sub, h.nd, fun c hc => ⟨fun z => ?_, fun z => ?_⟩, h.seen1, h.seen2⟩
  · rcases (h.inC c hc).mp z with y | ⟨u, h1, h2⟩
    · exact .inl y
    · exact .inr ⟨u, List.mem_append_left _ h1, h2⟩
  · rcases z with y | ⟨u, h1, h2⟩
    · exact (h.inC c hc).mpr (.inl y)
    · rcases List.mem_append.mp h1 with h1 | h1
      · exact (h.inC c hc).mpr (.inr ⟨u, h1, h2⟩)
      · rw [List.mem_singleton.mp h1] at h2
        rcases h.seen1 x hs with e | ⟨d, k1, k2⟩
        · exact absurd e (mem_endsL.mp xE).2.2
        · rw [R.uniq hc (h.sub d k1) h2 k2]; exact k1
theorem St2.mine (R : Right n f g C) {C1 C2 : List Cm} {ks dn rest : List Int} {s1 s : Int → Bool} {x : Int} (o : St1 n f g C (n + 1) C1 ks s1) (h : St2 n f g C C1 ks dn C2 s) (e : ks = dn ++ x :: rest) (hs : s x = false) :
    ∃ w, Rg n f g w x ∧ (.ring, w) ∈ C ∧ (Wd.ring, w) ∉ C2 ∧ x ∈ w ∧ ∀ z ∈ w, s z = false := by
  have xk : x ∈ ks := by rw [e]; simp
  have xE := (o.ks1 x xk).1
  obtain ⟨c, hc, hx⟩ := R.has xE
  have nc : c ∉ C2 := fun z => by
    have := h.seen2 c z x hx xk
    rw [hs] at this; cases this
  have n1 : c ∉ C1 := fun z => nc ((h.inC c hc).mpr (.inl z))
  have no : ∀ z ∈ c.2, ¬ trig f g z := fun z hz ht => n1 ((o.inC c hc).mpr ⟨z, hz, by have := ends_c R hc hz; omega, ht⟩)
  obtain ⟨w, x0, rfl, hw⟩ := part_D (R.ok c hc) no
  have x0w : x0 ∈ w := List.mem_of_getElem? hw.fst
  have x0E := hw.sub x0 x0w
  have x0k : x0 ∈ ks := by
    rcases o.ks2 x0 x0E (by have := mem_endsL.mp x0E; omega) (no x0 x0w) with z | ⟨d, k1, k2⟩
    · exact z
    · rw [R.uniq (o.sub d k1) hc k2 x0w] at k1
      exact absurd k1 n1
  have ex : x0 = x := by
    have le := hw.min x hx
    by_cases c : x0 = x
    · exact c
    · rw [e] at x0k
      have asc := o.asc
      rw [e, List.pairwise_append] at asc
      rcases List.mem_append.mp x0k with z | z
      · exact absurd ((h.inC _ hc).mpr (.inr ⟨x0, z, x0w⟩)) nc
      · rcases List.mem_cons.mp z with z | z
        · exact z
        · have := (List.pairwise_cons.mp asc.2.1).1 x0 z
          omega
  subst ex
  refine ⟨w, hw, hc, nc, hx, fun z hz => ?_⟩
  cases k : s z with
  | false => rfl
  | true =>
    rcases h.seen1 z k with y | ⟨d, k1, k2⟩
    · exact absurd y (ends_c R hc hz).2.2
    · rw [R.uniq (h.sub d k1) hc k2 hz] at k1
      exact absurd k1 nc
theorem St2.add (R : Right n f g C) {C1 C2 : List Cm} {ks dn : List Int} {s s' : Int → Bool} {x : Int} {w : List Int} (h : St2 n f g C C1 ks dn C2 s) (hc : (.ring, w) ∈ C) (nc : (Wd.ring, w) ∉ C2) (hx : x ∈ w) (hs : ∀ z, s' z = true ↔ s z = true ∨ z ∈ w) : St2 n f g C C1 ks (dn ++ [x]) (C2 ++ [(.ring, w)]) s' := by
  refine ⟨fun d hd => ?_, ?_, fun d hd => ⟨fun z => ?_, fun z => ?_⟩, fun z hz => ?_, fun d hd z hz hk => ?_⟩
  · rcases List.mem_append.mp hd with z | z
    · exact h.sub d z
    · rw [List.mem_singleton.mp z]; exact hc
  · rw [List.nodup_append]
    refine ⟨h.nd, by simp, fun a ha b hb e => ?_⟩
    rw [List.mem_singleton.mp hb] at e
    exact nc (e ▸ ha)
  · rcases List.mem_append.mp z with z | z
    · rcases (h.inC d hd).mp z with y | ⟨u, h1, h2⟩
      · exact .inl y
      · exact .inr ⟨u, List.mem_append_left _ h1, h2⟩
    · rw [List.mem_singleton.mp z]
      exact .inr ⟨x, by simp, hx⟩
  · rcases z with y | ⟨u, h1, h2⟩
    · exact List.mem_append_left _ ((h.inC d hd).mpr (.inl y))
    · rcases List.mem_append.mp h1 with h1 | h1
      · exact List.mem_append_left _ ((h.inC d hd).mpr (.inr ⟨u, h1, h2⟩))
      · rw [List.mem_singleton.mp h1] at h2
        rw [R.uniq hd hc h2 hx]
        simp
  · rcases (hs z).mp hz with y | y
    · rcases h.seen1 z y with e | ⟨d, k1, k2⟩
      · exact .inl e
      · exact .inr ⟨d, List.mem_append_left _ k1, k2⟩
    · exact .inr ⟨(.ring, w), by simp, y⟩
  · rcases List.mem_append.mp hd with y | y
    · exact (hs z).mpr (.inl (h.seen2 d y z hz hk))
    · rw [List.mem_singleton.mp y] at hz
      exact (hs z).mpr (.inr hz)
theorem St2.done (R : Right n f g C) {C1 C2 : List Cm} {ks : List Int} {s1 s : Int → Bool} (o : St1 n f g C (n + 1) C1 ks s1) (h : St2 n f g C C1 ks ks C2 s) : C2.Perm C := by
  refine (List.perm_ext_iff_of_nodup h.nd R.ndC).mpr fun c => ⟨h.sub c, fun hc => ?_⟩
  by_cases n1 : c ∈ C1
  · exact (h.inC c hc).mpr (.inl n1)
  · have no : ∀ z ∈ c.2, ¬ trig f g z := fun z hz ht => n1 ((o.inC c hc).mpr ⟨z, hz, by have := ends_c R hc hz; omega, ht⟩)
    obtain ⟨x, hx⟩ := List.exists_mem_of_ne_nil _ (R.ok c hc).nd.2.2
    have xE := (R.ok c hc).nd.2.1 x hx
    rcases o.ks2 x xE (by have := mem_endsL.mp xE; omega) (no x hx) with z | ⟨d, k1, k2⟩
    · exact (h.inC c hc).mpr (.inr ⟨x, z, hx⟩)
    · rw [R.uniq (o.sub d k1) hc k2 hx] at k1
      exact absurd k1 n1
end
end Vf

namespace Vf
open PySem PySem.Spec PyProof.Rows L2

/-! ### the layout that a move makes -/
theorem lay_share {n : Int} {L : List (Int × Int)} (hL : Lay n L) {p q : Int × Int} (hp : p ∈ L) (hq : q ∈ L) {e : Int} (h1 : e = p.1 ∨ e = p.2) (h2 : e = q.1 ∨ e = q.2) : p = q := by
  have cp := hL.cp p hp
  have cq := hL.cp q hq
  have g : ∀ {x y : Int}, ((e, x) ∈ L ∨ (x, e) ∈ L) → ((e, y) ∈ L ∨ (y, e) ∈ L) → x = y := fun {x y} a b => by
    have a' := (parI_iff hL).mpr a
    have b' := (parI_iff hL).mpr b
    rw [a'] at b'
    exact Option.some.inj b'
  obtain ⟨a, b⟩ := p
  obtain ⟨c, d⟩ := q
  simp only at h1 h2 cp cq
  rcases h1 with rfl | rfl <;> rcases h2 with rfl | rfl
  · rw [g (.inl hp) (.inl hq)]
  · have := g (.inl hp) (.inr hq); omega
  · have := g (.inr hp) (.inl hq); omega
  · rw [g (.inr hp) (.inr hq)]
theorem cpl_two (a b : Int) : cpl a b = (a, b) ∨ cpl a b = (b, a) := by
  unfold cpl
  split
  · exact .inl rfl
  · exact .inr rfl
theorem mv_flat {n : Int} {L C J : List (Int × Int)} (hL : Lay n L) (h : mvD n L (mD C J) = true) : (∀ p ∈ C, p ∈ L) ∧ (flat J).Nodup ∧ (∀ e ∈ flat J, e ∈ flat C ∨ e ∉ flat L) ∧ (∀ p ∈ J, -n ≤ p.1 ∧ p.1 < p.2 ∧ p.2 ≤ n ∧ p.1 ≠ 0 ∧ p.2 ≠ 0) ∧ C.length ≤ 2 ∧ J.length ≤ 2 := by
  unfold mvD at h
  rw [Bool.and_eq_true] at h
  obtain ⟨h1, h2⟩ := h
  obtain ⟨C', J', he, hC, hJ, cC, cJ, aC, aJ, hl⟩ := formD_ok h1
  simp only [mD, PyData.tuple.injEq, List.cons.injEq, PyData.list.injEq, and_true] at he
  have eC : C = C' := by have := he.1; exact dL_inj (by unfold dL; rw [this])
  have eJ : J = J' := by have := he.2; exact dL_inj (by unfold dL; rw [this])
  subst eC
  subst eJ
  simp only [mD] at h2
  rw [hC, hJ] at h2
  simp only at h2
  unfold mvB at h2
  rw [Bool.and_eq_true, List.all_eq_true] at h2
  obtain ⟨inL, k⟩ := h2
  have inL' : ∀ p ∈ C, p ∈ L := fun p hp => of_decide_eq_true (inL p hp)
  refine ⟨inL', ?_, ?_, cJ, by omega, by omega⟩
  · match C, J, hl, k with
    | [p, q], J, hl, k =>
      have hp := inL' p (by simp)
      have hq := inL' q (by simp)
      have ne : p ≠ q := fun z => by
        subst z
        unfold ascP pltB at aC
        simp at aC
      have d1 : p.1 ≠ q.1 := fun z => ne (lay_share hL hp hq (.inl rfl) (.inl z))
      have d2 : p.1 ≠ q.2 := fun z => ne (lay_share hL hp hq (.inl rfl) (.inr z))
      have d3 : p.2 ≠ q.1 := fun z => ne (lay_share hL hp hq (.inr rfl) (.inl z))
      have d4 : p.2 ≠ q.2 := fun z => ne (lay_share hL hp hq (.inr rfl) (.inr z))
      have e1 := cC p (by simp)
      have e2 := cC q (by simp)
      unfold otherB at k
      rw [Bool.or_eq_true, decide_eq_true_eq, decide_eq_true_eq] at k
      rcases k with rfl | rfl
      · rcases cpl_two p.2 q.2 with z | z <;> rw [z] <;> simp [flat] <;> omega
      · rcases cpl_two p.2 q.1 with z | z <;> rw [z] <;> simp [flat] <;> omega
    | [p], [], _, _ => simp [flat]
    | [p], [q], _, k => have := cJ q (by simp); simp [flat]; omega
    | [], [q], _, k => have := cJ q (by simp); simp [flat]; omega
    | [], [], hl, _ => simp at hl
    | [], _ :: _ :: _, hl, _ => simp at hl
    | [_], _ :: _ :: _, hl, _ => simp at hl
    | _ :: _ :: _ :: _, _, hl, _ => simp at hl
  · match C, J, hl, k with
    | [p, q], J, hl, k =>
      unfold otherB at k
      rw [Bool.or_eq_true, decide_eq_true_eq, decide_eq_true_eq] at k
      intro e he
      refine .inl ?_
      rcases k with rfl | rfl
      · rcases cpl_two p.2 q.2 with z | z <;> rw [z] at he <;> simp [flat] at he ⊢ <;> omega
      · rcases cpl_two p.2 q.1 with z | z <;> rw [z] at he <;> simp [flat] at he ⊢ <;> omega
    | [p], [], _, _ => exact fun e he => by simp [flat] at he
    | [p], [q], _, k =>
      intro e he
      have hk : openB L p q = true := k
      unfold openB at hk
      simp [flat] at he ⊢
      split at hk
      · rename_i c
        have hk := of_decide_eq_true hk
        rcases he with rfl | rfl
        · exact .inl (by omega)
        · exact .inr (by simpa [flat] using hk)
      · have hk := of_decide_eq_true hk
        rcases he with rfl | rfl
        · exact .inr (by simpa [flat] using hk.2)
        · exact .inl (by omega)
    | [], [q], _, k =>
      intro e he
      have hk := of_decide_eq_true k
      simp [flat] at he
      rcases he with rfl | rfl
      · exact .inr hk.1
      · exact .inr hk.2
    | [], [], hl, _ => simp at hl
    | [], _ :: _ :: _, hl, _ => simp at hl
    | [_], _ :: _ :: _, hl, _ => simp at hl
    | _ :: _ :: _ :: _, _, hl, _ => simp at hl
theorem mv_nd {n : Int} {L C J : List (Int × Int)} (hL : Lay n L) (h : mvD n L (mD C J) = true) : (flat (L.filter (fun p => decide (p ∈ C) != true) ++ J)).Nodup := by
  obtain ⟨hC, nJ, dj, bJ, _, _⟩ := mv_flat hL h
  rw [flat_app, List.nodup_append]
  refine ⟨?_, nJ, fun a ha b hb e => ?_⟩
  · unfold flat
    refine List.Pairwise.sublist ?_ (show ((L.flatMap fun p => [p.1, p.2])).Nodup from hL.nd)
    have : ∀ L : List (Int × Int), ((L.filter (fun p => decide (p ∈ C) != true)).flatMap fun p => [p.1, p.2]).Sublist (L.flatMap fun p => [p.1, p.2]) := fun L => by
      induction L with
      | nil => exact List.Sublist.refl _
      | cons p L ih =>
        rw [List.filter_cons]
        split
        · rw [List.flatMap_cons, List.flatMap_cons]
          exact ih.append_left _
        · rw [List.flatMap_cons]
          exact ih.trans (List.sublist_append_right _ _)
    exact this L
  · subst e
    obtain ⟨p, hp, hep⟩ := mem_flat.mp ha
    have hp' := List.mem_filter.mp hp
    have pC : p ∉ C := by simpa using hp'.2
    rcases dj a hb with z | z
    · obtain ⟨q, hq, heq⟩ := mem_flat.mp z
      exact pC (lay_share hL hp'.1 (hC q hq) hep heq ▸ hq)
    · exact z (mem_flat.mpr ⟨p, hp'.1, hep⟩)
theorem mv_lay {n : Int} {L C J M : List (Int × Int)} (hL : Lay n L) (h : mvD n L (mD C J) = true) (pm : M.Perm (L.filter (fun p => decide (p ∈ C) != true) ++ J)) (asc : Asc M) : Lay n M := by
  refine ⟨hL.n1, hL.n60, fun p hp => ?_, asc, (flat_perm pm).nodup_iff.mpr (mv_nd hL h)⟩
  rcases List.mem_append.mp (pm.mem_iff.mp hp) with z | z
  · exact hL.cp p (List.mem_filter.mp z).1
  · exact (mv_flat hL h).2.2.2.1 p z
end Vf
namespace Vf
open PySem PySem.Spec PyProof.Rows L2
theorem sm_word (w : Wd) : Sm 13 1 (.str (wS w)) := by
  refine ⟨?_, by simp only [PyData.hasDict], by simp only [PyData.depth]; omega, ?_, by simp only [PyData.canLay0]; cases w <;> decide +kernel⟩
  · cases w <;> decide +kernel
  · cases w <;> decide +kernel
theorem Right.small {n : Int} {f g : Int → Int} {C D : List Cm} (R : Right n f g C) (n0 : 0 ≤ n) (n60 : n ≤ 60) (hD : ∀ c ∈ D, c ∈ C) (hl : D.length ≤ 121) : Sm 441048 4 (dCs D) := by
  have fw := R.few n0
  refine (Sm.lst (N := 3643) (k := 3) (ds := D.map dC) fun e he => ?_).mono (by rw [List.length_map]; omega) (by omega)
  obtain ⟨c, hc, rfl⟩ := List.mem_map.mp he
  have cC := hD c hc
  have := fw.2 c cC
  refine (Sm.tup (N := 1818) (k := 2) (ds := [.str (wS c.1), dR c.2]) fun e he => ?_).mono (by simp) (by omega)
  rcases List.mem_cons.mp he with rfl | he
  · exact (sm_word c.1).mono (by omega) (by omega)
  · rw [List.mem_singleton.mp he]
    refine (sm_ints (N := 121) (fun i hi => ?_) (by omega)).mono (by omega) (by omega)
    have := ends_c R cC hi
    omega
theorem CM.dt {K : PySem.W.Frag} {H : Hp} {v : V} {c : Cm} (h : CM H v c) : Dt K H v (dC c) := by
  obtain ⟨p, e, rfl, h1, h2⟩ := h
  exact .tup h1 (.cons (.str _) (.cons (.lst h2 (dta_ints c.2)) .nil))
theorem dta_cms {K : PySem.W.Frag} {H : Hp} : ∀ {xs : List V} {C : List Cm}, CMs H xs C → DtAll K H xs (C.map dC)
  | _, _, .nil => .nil
  | _, _, .cons h t => .cons h.dt (dta_cms t)
theorem srtC_mem {C : List Cm} {c : Cm} : c ∈ srtC C ↔ c ∈ C := (srtC_perm C).mem_iff
end Vf

namespace Vf
open PySem PySem.Spec PyProof.Rows L2

/-! ### the components of a layout and itself -/
def rgC (p : Int × Int) : Cm := (.ring, [p.1, p.2])
def selfC (n : Int) (L : List (Int × Int)) : List Cm := ((endsL n).filter fun e => decide (e ∉ flat L)).map (fun e => ((.odd, [e]) : Cm)) ++ L.map rgC
theorem right_self {n : Int} {L : List (Int × Int)} (hL : Lay n L) : Right n (ptb L) (ptb L) (selfC n L) := by
  refine ⟨fun c hc => ?_, ?_⟩
  · rcases List.mem_append.mp hc with h | h
    · obtain ⟨e, he, rfl⟩ := List.mem_map.mp h
      have he' := List.mem_filter.mp he
      have z : ptb L e = 0 := (ptb_zero hL e).mpr ⟨(mem_endsL.mp he'.1).2.2, by simpa using he'.2⟩
      exact .odd (x := e) (y := e) ⟨alt_nil, rfl, rfl, z, by simpa using z, List.pairwise_singleton _ _, fun x hx => by rw [List.mem_singleton.mp hx]; exact he'.1⟩ rfl
    · obtain ⟨p, hp, rfl⟩ := List.mem_map.mp h
      have cp := hL.cp p hp
      have e1 : ptb L p.1 = p.2 := by
        unfold ptb
        rw [if_neg cp.2.2.2.1, (parI_iff hL).mpr (.inl hp)]
        rfl
      have e2 : ptb L p.2 = p.1 := by
        unfold ptb
        rw [if_neg cp.2.2.2.2, (parI_iff hL).mpr (.inr hp)]
        rfl
      refine .ring (x := p.1) ⟨?_, rfl, by simp, fun z hz => ?_, ?_, fun z hz => ?_⟩
      · intro i a b h1 h2
        match i with
        | 0 => simp at h1 h2; subst h1; subst h2; rw [e1]; simp; omega
        | 1 => simp at h1 h2; subst h1; subst h2; rw [e2]; simp; omega
        | 2 => simp at h2
        | i + 3 => simp at h2
      · simp at hz; omega
      · simp; omega
      · simp at hz
        refine mem_endsL.mpr ?_
        rcases hz with rfl | rfl <;> omega
  · refine (List.perm_ext_iff_of_nodup ?_ (endsL_nd n)).mpr fun x => ?_
    · unfold selfC
      rw [List.flatMap_append, List.nodup_append]
      have f1 : ∀ l : List Int, (l.map (fun e => ((.odd, [e]) : Cm))).flatMap (·.2) = l := fun l => by
        induction l with
        | nil => rfl
        | cons a l ih => rw [List.map_cons, List.flatMap_cons, ih]; rfl
      have f2 : ∀ L : List (Int × Int), (L.map rgC).flatMap (·.2) = flat L := fun L => by
        induction L with
        | nil => rfl
        | cons a l ih => rw [List.map_cons, List.flatMap_cons, ih]; rfl
      rw [f1, f2]
      refine ⟨(endsL_nd n).filter _, hL.nd, fun a ha b hb e => ?_⟩
      have := (List.mem_filter.mp ha).2
      simp at this
      exact this (e ▸ hb)
    · unfold selfC
      rw [List.mem_flatMap]
      constructor
      · rintro ⟨c, hc, hx⟩
        rcases List.mem_append.mp hc with h | h
        · obtain ⟨e, he, rfl⟩ := List.mem_map.mp h
          rw [List.mem_singleton.mp hx]
          exact (List.mem_filter.mp he).1
        · obtain ⟨p, hp, rfl⟩ := List.mem_map.mp h
          have cp := hL.cp p hp
          simp [rgC] at hx
          refine mem_endsL.mpr ?_
          rcases hx with rfl | rfl <;> omega
      · intro hx
        by_cases c : x ∈ flat L
        · obtain ⟨p, hp, e⟩ := mem_flat.mp c
          exact ⟨rgC p, List.mem_append_right _ (List.mem_map.mpr ⟨p, hp, rfl⟩), by simp [rgC]; exact e⟩
        · exact ⟨(.odd, [x]), List.mem_append_left _ (List.mem_map.mpr ⟨x, List.mem_filter.mpr ⟨hx, by simpa using c⟩, rfl⟩), by simp⟩
def isRg (c : Cm) : Bool := decide (c.1 = .ring)
theorem self_rings {n : Int} {L : List (Int × Int)} (hL : Lay n L) : (srtC (selfC n L)).filter isRg = L.map rgC := by
  refine cms_uniq ?_ ((srtC_srt _).filter _) ?_
  · refine ((srtC_perm _).filter _).trans ?_
    unfold selfC
    rw [List.filter_append]
    have h1 : (((endsL n).filter fun e => decide (e ∉ flat L)).map (fun e => ((.odd, [e]) : Cm))).filter isRg = [] := by
      rw [List.filter_eq_nil_iff]
      intro c hc
      obtain ⟨e, _, rfl⟩ := List.mem_map.mp hc
      simp [isRg]
    have h2 : (L.map rgC).filter isRg = L.map rgC := List.filter_eq_self.mpr fun c hc => by
      obtain ⟨p, _, rfl⟩ := List.mem_map.mp hc
      simp [isRg, rgC]
    rw [h1, h2]
    exact List.Perm.refl _
  · rw [List.pairwise_map]
    refine hL.asc.imp fun {p q} h => ?_
    refine List.not_lt.mp fun z => ?_
    unfold key rgC at z
    simp only at z
    rw [List.cons_lt_cons_iff, List.cons_lt_cons_iff, List.cons_lt_cons_iff] at z
    simp at z
    omega
theorem self_len {n : Int} {L : List (Int × Int)} (hL : Lay n L) : (L.map rgC).length ≤ 60 ∧ ∀ c ∈ L.map rgC, c ∈ selfC n L := by
  have := hL.len
  have := hL.n60
  exact ⟨by rw [List.length_map]; omega, fun c hc => List.mem_append_right _ hc⟩
end Vf

namespace Vf
open PySem PySem.Spec PyProof.Rows L2

/-! ### xs.remove(p), xs a list of pairs in which p stands -/
def rRemP (K : PySem.W.Frag) : V → List V → Hp → VK → Prop := fun x vs H Q => ∃ (l : Addr) (xs : List V) (L : List (Int × Int)) (y : V) (p : Int × Int) (j : Nat), x = .ref l ∧ vs = [y] ∧ H l = some (.lst xs) ∧ Prs H xs L ∧ Pr H y p ∧ L[j]? = some p ∧ (∀ m : Nat, m < j → L[m]? ≠ some p) ∧ Q .non (upd H l (.lst (xs.eraseIdx j)))
theorem plain_dP (p : Int × Int) : PyData.plain (dP p) = true := by
  obtain ⟨a, b⟩ := p
  simp [dP, PyData.plain, PyData.plainAll]
theorem plain_dPs : ∀ L : List (Int × Int), PyData.plainAll (L.map dP) = true
  | [] => rfl
  | p :: L => by
    show (PyData.plain (dP p) && PyData.plainAll (L.map dP)) = true
    rw [plain_dP, plain_dPs L]
    rfl
theorem removePK {X : Cx} {K : PySem.W.Frag} (hu : X.A.units + 64 < cLine) (hK : X.K = K := by rfl) : MtM X "list.remove" (rRemP K) := by
  subst hK
  rintro pins s σ H x vs v us Q I rx rv ⟨l, xs, L, y, p, j, rfl, rfl, hH, hP, hy, hj, hno, q⟩
  cases rx
  obtain ⟨u, rfl, ru⟩ := rv.one
  obtain ⟨z, its, n, r, hl, e⟩ := I.lstM hH
  obtain ⟨as, rp⟩ := Dp.reads I _ _ u (dp_pr (K := X.K) hy) ru
  have eq := each_of_pair (α := Unit) r hP
  have er : PySem.W.EachIs (fun v b => ∃ as, Reads s.heap v (dP b) as) its L := each_mono (α := Value) (β := Int × Int) (fun u b ⟨x, r, f⟩ => Dp.reads I (dP b) x u (dp_pr (K := X.K) f) r) eq
  obtain ⟨bs, rs⟩ := PySem.W.each_readsAll dP er
  have hp : SeqAt.dataPlace (L.map dP) (dP p) = some j := by
    unfold SeqAt.dataPlace
    rw [List.findIdx?_map]
    have hjl := (List.getElem?_eq_some_iff.mp hj).1
    rw [List.findIdx?_eq_some_iff_getElem]
    refine ⟨hjl, ?_, fun m hm => ?_⟩
    · have := (List.getElem?_eq_some_iff.mp hj).2
      simp only [Function.comp_apply, this, eqv_pair, decide_true]
    · have h2 := hno m hm
      rw [List.getElem?_eq_getElem (by omega)] at h2
      simp only [Function.comp_apply, eqv_pair, decide_eq_true_eq]
      exact fun z => h2 (by rw [z])
  have lis : s.heap.IsList l its.toArray := ⟨_, e, rfl, n, rfl⟩
  have dl : PyData.depthAll (L.map dP) ≤ 2 := by
    have : ∀ L : List (Int × Int), PyData.depthAll (L.map dP) ≤ 2 := fun L => by
      induction L with
      | nil => simp [PyData.depthAll]
      | cons p L ih =>
        have := depth_pair p
        simp only [List.map_cons, PyData.depthAll]
        omega
    exact this L
  refine SeqAt.remove_list_data lis (by simpa using rs) rp (plain_dPs L) (plain_dP p) (by omega) hp (by rw [List.size_toArray, ← hl]; exact z) ?_
  refine ⟨.non, _, I.lset (its' := its.eraseIdx j) hH e ?_ (r.eraseIdx j) ?_, rfl, q⟩
  · show its.toArray.eraseIdxIfInBounds j = (its.eraseIdx j).toArray
    rw [List.eraseIdxIfInBounds_toArray]
  · have := List.length_eraseIdx_le xs j
    omega
/-- where p stands first -/
theorem pair_place {L : List (Int × Int)} {p : Int × Int} (h : p ∈ L) : ∃ j : Nat, L[j]? = some p ∧ (∀ m : Nat, m < j → L[m]? ≠ some p) ∧ (L.eraseIdx j) = L.erase p := by
  induction L with
  | nil => cases h
  | cons a L ih =>
    by_cases e : a = p
    · subst e
      exact ⟨0, rfl, fun m hm => absurd hm (Nat.not_lt_zero _), by simp⟩
    · obtain ⟨j, h1, h2, h3⟩ := ih ((List.mem_cons.mp h).resolve_left (Ne.symm e))
      refine ⟨j + 1, h1, fun m hm => ?_, ?_⟩
      · cases m with
        | zero => exact fun z => e (Option.some.inj z)
        | succ m => exact h2 m (by omega)
      · rw [List.erase_cons_tail (by simpa using e), ← h3]
        rfl
theorem prs_erase {H : Hp} : ∀ {xs : List V} {L : List (Int × Int)} (j : Nat), Prs H xs L → Prs H (xs.eraseIdx j) (L.eraseIdx j)
  | _, _, _, .nil => by simpa using Paired.nil
  | _, _, 0, .cons _ t => t
  | _, _, j + 1, .cons r t => .cons r (prs_erase j t)
theorem r_remP {K : PySem.W.Frag} {l : Addr} {xs : List V} {L : List (Int × Int)} {y : V} {p : Int × Int} {H : Hp} {Q : VK} (h : H l = some (.lst xs)) (hP : Prs H xs L) (hy : Pr H y p) (hm : p ∈ L) (q : ∀ j : Nat, L.eraseIdx j = L.erase p → Q .non (upd H l (.lst (xs.eraseIdx j)))) : rRemP K (.ref l) [y] H Q := by
  obtain ⟨j, h1, h2, h3⟩ := pair_place hm
  exact ⟨l, xs, L, y, p, j, rfl, rfl, h, hP, hy, h1, h2, q j h3⟩
/-- the data of a move, in the heap -/
theorem mv_at {K : PySem.W.Frag} {H : Hp} {v : V} {C J : List (Int × Int)} (h : Dt K H v (mD C J)) : MvAt H v C J := by
  obtain ⟨p, us, rfl, hp, hu⟩ := dt_tup h
  cases hu with
  | cons h1 r1 =>
    cases r1 with
    | cons h2 r2 =>
      cases r2
      obtain ⟨a1, x1, rfl, e1, d1⟩ := dt_lst h1
      obtain ⟨a2, x2, rfl, e2, d2⟩ := dt_lst h2
      exact ⟨p, a1, a2, x1, x2, rfl, hp, e1, prs_dta d1, e2, prs_dta d2⟩
theorem mv_data {n : Int} {L : List (Int × Int)} {e : PyData} (h : mvD n L e = true) : ∃ C J, e = mD C J := by
  unfold mvD at h
  rw [Bool.and_eq_true] at h
  obtain ⟨C, J, he, _⟩ := formD_ok h.1
  exact ⟨C, J, he⟩
theorem foldl_erase {X : List (Int × Int)} : ∀ {C Y : List (Int × Int)}, Y.Perm (C ++ X) → (C.foldl List.erase Y).Perm X
  | [], _, h => h
  | c :: C, Y, h => by
    show (C.foldl List.erase (Y.erase c)).Perm X
    refine foldl_erase ?_
    have := h.erase c
    rwa [List.cons_append, List.erase_cons_head] at this
/-- what is left when the couplings of a move are taken away -/
theorem mv_left {n : Int} {L C J : List (Int × Int)} (hL : Lay n L) (h : mvD n L (mD C J) = true) : (L ++ J).Perm (C ++ (L.filter (fun p => decide (p ∈ C) != true) ++ J)) ∧ C.Nodup := by
  have hC := (mv_flat hL h).1
  have ndC : C.Nodup := by
    unfold mvD at h
    rw [Bool.and_eq_true] at h
    obtain ⟨C', J', he, _, _, _, _, aC, _, hl⟩ := formD_ok h.1
    simp only [mD, PyData.tuple.injEq, List.cons.injEq, PyData.list.injEq, and_true] at he
    have eC : C = C' := by have := he.1; exact dL_inj (by unfold dL; rw [this])
    subst eC
    match C, aC with
    | [], _ => exact List.Pairwise.nil
    | [_], _ => simp
    | [p, q], aC =>
      simp
      intro z
      subst z
      unfold ascP pltB at aC
      simp at aC
    | _ :: _ :: _ :: _, _ => simp at hl
  refine ⟨?_, ndC⟩
  rw [← List.append_assoc]
  refine List.Perm.append_right _ ?_
  have ndL := nd_of_flat hL.nd
  refine (List.perm_ext_iff_of_nodup ndL ?_).mpr fun p => ?_
  · rw [List.nodup_append]
    refine ⟨ndC, ndL.filter _, fun a ha b hb e => ?_⟩
    have := (List.mem_filter.mp hb).2
    simp at this
    exact this (e ▸ ha)
  · rw [List.mem_append, List.mem_filter]
    constructor
    · intro hp
      by_cases c : p ∈ C
      · exact .inl c
      · exact .inr ⟨hp, by simpa using c⟩
    · rintro (z | z)
      · exact hC p z
      · exact z.1
end Vf

namespace Vf
open PySem PySem.Spec PyProof.Rows L2

/-! ### comprehensions with two fors -/
/-- the inner for, its turn's end in Z -/
def LcIn (J : It) (g : TG) (tt : TT) (te : TE) (own : List Nat) (D : Addr) (σ : L2.St) (H : Hp) (Z : Hp → Prop) : Prop :=
  ∃ V : Nat → Nat → Hp → Prop, (∃ m, V 0 m H) ∧ ∀ k m G, V k m G →
    (J.stop k G ∧ Z G) ∨ (J.go k G ∧ ∃ T : Hp → Prop, (∀ G', T G' → ∃ m', m' < m ∧ V (k + 1) m' G') ∧ ∀ x G', J.yld k G x G' →
      g x (wipe σ own) G' fun τ G2 => wipe τ own = wipe σ own ∧ tt τ G2 fun c G3 =>
        if c = true then te τ G3 fun y G4 => ∃ got, G4 D = some (.lst got) ∧ got.length < sizeLine ∧ T (upd G4 D (.lst (got ++ [y])))
        else T G3)
def Lc2W (J : It) (g : TG) (tt : TT) (wi : TI) (g1 : TG) (tt1 : TT) (te : TE) (own own1 : List Nat) (D : Addr) (σ : L2.St) (H1 : Hp) (Qd : Hp → Prop) : Prop :=
  ∃ V : Nat → Nat → Hp → Prop, (∃ m, V 0 m (upd H1 D (.lst []))) ∧ ∀ k m G, V k m G →
    (J.stop k G ∧ Qd G) ∨ (J.go k G ∧ ∃ T : Hp → Prop, (∀ G', T G' → ∃ m', m' < m ∧ V (k + 1) m' G') ∧ ∀ x G', J.yld k G x G' →
      g x (wipe σ own) G' fun τ G2 => wipe τ own = wipe σ own ∧ tt τ G2 fun c G3 =>
        if c = true then wi τ G3 fun J1 G4 => LcIn J1 g1 tt1 te own1 D τ G4 T
        else T G3)
theorem r_lc2 {wi wi1 : TI} {g g1 : TG} {tt tt1 : TT} {te : TE} {vs vs1 : List Nat} {σ : L2.St} {H : Hp} {Q : VK} (h : wi σ H fun J H1 => ∀ D, H1 D = none → Lc2W J g tt wi1 g1 tt1 te vs vs1 D σ H1 (Q (.ref D))) : tLc2 wi g tt wi1 g1 tt1 te vs vs1 σ H Q := h
theorem r_lcIn {α : Type} {J : It} {G : Hp → Prop} {rel : V → α → Prop} {L : List α} {g : TG} {tt : TT} {te : TE} {vs : List Nat} {D : Addr} {σ : L2.St} {H1 : Hp} {Z : Hp → Prop} (S : Seq J G rel L) (Pv : List α → Hp → Prop) (h0 : Pv [] H1)
    (hk : ∀ d H, Pv d H → G H) (hs : ∀ d p r v H, L = d ++ p :: r → rel v p → Pv d H → g v (wipe σ vs) H fun σ2 H2 => wipe σ2 vs = wipe σ vs ∧ tt σ2 H2 fun b H3 =>
      if b = true then te σ2 H3 fun y H4 => ∃ acc, H4 D = some (.lst acc) ∧ acc.length < sizeLine ∧ Pv (d ++ [p]) (upd H4 D (.lst (acc ++ [y]))) else Pv (d ++ [p]) H3) (hd : ∀ H, Pv L H → Z H) : LcIn J g tt te vs D σ H1 Z := by
  refine ⟨fun i m H => m = L.length - i ∧ i ≤ L.length ∧ Pv (L.take i) H, ⟨L.length, by simp, Nat.zero_le _, h0⟩, ?_⟩
  rintro i m H ⟨rfl, hi, p0⟩
  have q := hk _ H p0
  by_cases hlt : i < L.length
  · refine .inr ⟨S.goes i H hlt q, Pv (L.take (i + 1)), fun H' p' => ⟨L.length - (i + 1), by omega, rfl, hlt, p'⟩, fun x H' y => ?_⟩
    obtain ⟨e, p, hp, r⟩ := S.yields i H x H' hlt q y
    subst e
    obtain ⟨e1, e2⟩ := split_at hp
    rw [e2]
    exact hs _ p _ x _ e1 r p0
  · have e : i = L.length := by omega
    subst e
    rw [List.take_length] at p0
    exact .inl ⟨S.stops H q, hd H p0⟩
theorem r_lc2S {α : Type} {J : It} {G : Hp → Prop} {rel : V → α → Prop} {L : List α} {g : TG} {tt : TT} {wi : TI} {g1 : TG} {tt1 : TT} {te : TE} {vs vs1 : List Nat} {D : Addr} {σ : L2.St} {H1 : Hp} {Qd : Hp → Prop} (S : Seq J G rel L) (Pv : List α → Hp → Prop) (h0 : Pv [] (upd H1 D (.lst [])))
    (hk : ∀ d H, Pv d H → G H) (hs : ∀ d p r v H, L = d ++ p :: r → rel v p → Pv d H → g v (wipe σ vs) H fun σ2 H2 => wipe σ2 vs = wipe σ vs ∧ tt σ2 H2 fun b H3 =>
      if b = true then wi σ2 H3 fun J1 H4 => LcIn J1 g1 tt1 te vs1 D σ2 H4 (Pv (d ++ [p])) else Pv (d ++ [p]) H3) (hd : ∀ H, Pv L H → Qd H) : Lc2W J g tt wi g1 tt1 te vs vs1 D σ H1 Qd := by
  refine ⟨fun i m H => m = L.length - i ∧ i ≤ L.length ∧ Pv (L.take i) H, ⟨L.length, by simp, Nat.zero_le _, h0⟩, ?_⟩
  rintro i m H ⟨rfl, hi, p0⟩
  have q := hk _ H p0
  by_cases hlt : i < L.length
  · refine .inr ⟨S.goes i H hlt q, Pv (L.take (i + 1)), fun H' p' => ⟨L.length - (i + 1), by omega, rfl, hlt, p'⟩, fun x H' y => ?_⟩
    obtain ⟨e, p, hp, r⟩ := S.yields i H x H' hlt q y
    subst e
    obtain ⟨e1, e2⟩ := split_at hp
    rw [e2]
    exact hs _ p _ x _ e1 r p0
  · have e : i = L.length := by omega
    subst e
    rw [List.take_length] at p0
    exact .inl ⟨S.stops H q, hd H p0⟩
theorem r_lc2E {K : PySem.W.Frag} {a : Addr} {xs : List V} {g : TG} {tt : TT} {wi : TI} {g1 : TG} {tt1 : TT} {te : TE} {vs vs1 : List Nat} {D : Addr} {σ : L2.St} {H1 : Hp} {Qd : Hp → Prop} (Pv : Nat → Hp → Prop) (h0 : Pv 0 (upd H1 D (.lst [])))
    (hk : ∀ i H, Pv i H → SqL K H a xs) (hs : ∀ i x T H, xs[i]? = some x → Pv i H → H T = none → g (.ref T) (wipe σ vs) (upd H T (.tup [.int (i : Nat), x])) fun σ2 H2 => wipe σ2 vs = wipe σ vs ∧ tt σ2 H2 fun b H3 =>
      if b = true then wi σ2 H3 fun J1 H4 => LcIn J1 g1 tt1 te vs1 D σ2 H4 (Pv (i + 1)) else Pv (i + 1) H3) (hd : ∀ H, Pv xs.length H → Qd H) : Lc2W (Ite K a) g tt wi g1 tt1 te vs vs1 D σ H1 Qd := by
  refine ⟨fun i m H => m = xs.length - i ∧ i ≤ xs.length ∧ Pv i H, ⟨_, rfl, Nat.zero_le _, h0⟩, ?_⟩
  rintro i m H ⟨rfl, hi, p0⟩
  have q := hk i H p0
  by_cases hlt : i < xs.length
  · refine .inr ⟨⟨xs, xs[i], q, by simp [hlt]⟩, Pv (i + 1), fun H' p' => ⟨xs.length - (i + 1), by omega, rfl, hlt, p'⟩, fun v H' z => ?_⟩
    obtain ⟨T, x, rfl, nT, rfl, f1⟩ := z
    exact hs i x T H (f1 xs q) p0 nT
  · have e : i = xs.length := by omega
    subst e
    exact .inl ⟨⟨xs, q, Nat.le_refl _⟩, hd H p0⟩

/-! ### moves made, in lists that are all new and all apart -/
abbrev Mv := List (Int × Int) × List (Int × Int)
/-- a move at a tuple, its two lists at given places -/
def MvB (H : Hp) (v : V) (b : Mv × Addr × Addr) : Prop := ∃ p x1 x2, v = .ref p ∧ H p = some (.tup [.ref b.2.1, .ref b.2.2]) ∧ H b.2.1 = some (.lst x1) ∧ Prs H x1 b.1.1 ∧ H b.2.2 = some (.lst x2) ∧ Prs H x2 b.1.2
theorem MvB.mono {H H' : Hp} {v : V} {b : Mv × Addr × Addr} (s : Same H H') (h : MvB H v b) : MvB H' v b := let ⟨p, x1, x2, e, h1, h2, h3, h4, h5⟩ := h; ⟨p, x1, x2, e, s _ _ h1, s _ _ h2, h3.mono s, s _ _ h4, h5.mono s⟩
theorem MvB.at' {H : Hp} {v : V} {b : Mv × Addr × Addr} (h : MvB H v b) : MvAt H v b.1.1 b.1.2 := let ⟨p, x1, x2, e, h1, h2, h3, h4, h5⟩ := h; ⟨p, _, _, x1, x2, e, h1, h2, h3, h4, h5⟩
abbrev MvBs (H : Hp) : List V → List (Mv × Addr × Addr) → Prop := Paired (MvB H)
theorem MvBs.mono {H H' : Hp} {xs : List V} {bs : List (Mv × Addr × Addr)} (s : Same H H') (h : MvBs H xs bs) : MvBs H' xs bs := pair_mono h fun _ _ q => q.mono s
def lists (bs : List (Mv × Addr × Addr)) : List Addr := bs.flatMap fun b => [b.2.1, b.2.2]
/-- a list of moves, all of whose lists are new -/
structure NewM (H H' : Hp) (p : Addr) (xs : List V) (ms : List Mv) : Prop where
  new : H p = none
  at' : H' p = some (.lst xs)
  more : ∃ bs, MvBs H' xs bs ∧ bs.map (·.1) = ms ∧ (lists bs).Nodup ∧ (∀ a ∈ lists bs, H a = none) ∧ p ∉ lists bs
/-- the moves that only join two of some ends -/
def joinsM : List Int → List Mv
  | [] => []
  | x :: r => r.map (fun y => ([], [(x, y)])) ++ joinsM r
def swapsM (p : Int × Int) : List (Int × Int) → List Mv
  | [] => []
  | q :: r => ([p, q], [(p.1, q.1), cpl p.2 q.2]) :: ([p, q], [(p.1, q.2), cpl p.2 q.1]) :: swapsM p r
theorem lists_app (a b : List (Mv × Addr × Addr)) : lists (a ++ b) = lists a ++ lists b := by unfold lists; rw [List.flatMap_append]
theorem joinsM_len : ∀ es : List Int, (joinsM es).length ≤ es.length * es.length
  | [] => by simp [joinsM]
  | x :: r => by
    have := joinsM_len r
    rw [joinsM, List.length_append, List.length_map, List.length_cons, Nat.mul_add, Nat.add_mul]
    omega
/-- moves in a list that grows -/
structure Grow (H0 H' : Hp) (D : Addr) (ms : List Mv) : Prop where
  ex : ∃ acc bs, H' D = some (.lst acc) ∧ MvBs (Hid [D] H') acc bs ∧ bs.map (·.1) = ms ∧ (lists bs).Nodup ∧ (∀ a ∈ lists bs, H0 a = none) ∧ D ∉ lists bs
theorem Grow.mono {H0 H1 H2 : Hp} {D : Addr} {ms : List Mv} (s : Same H1 H2) (h : Grow H0 H1 D ms) : Grow H0 H2 D ms := by
  obtain ⟨acc, bs, h1, h2, h3, h4, h5, h6⟩ := h.ex
  exact ⟨acc, bs, s _ _ h1, h2.mono (hid_hid (hid_le.trans s)), h3, h4, h5, h6⟩
/-- one move more, of new lists -/
theorem Grow.add {H0 H1 H2 : Hp} {D : Addr} {ms : List Mv} {m : Mv} {v : V} {a1 a2 : Addr} {acc : List V} (h : Grow H0 H1 D ms) (s01 : Same H0 H1) (hD : H0 D = none) (s : Same H1 H2) (n1 : H1 a1 = none) (n2 : H1 a2 = none) (ne : a1 ≠ a2) (hv : MvB H2 v (m, a1, a2)) (hacc : H2 D = some (.lst acc)) :
    Grow H0 (upd H2 D (.lst (acc ++ [v]))) D (ms ++ [m]) ∧ acc.length = ms.length := by
  obtain ⟨acc', bs, h1, h2, h3, h4, h5, h6⟩ := h.ex
  have ea : acc' = acc := by
    have := s _ _ h1
    rw [hacc] at this
    cases this
    rfl
  subst ea
  have d1 : a1 ≠ D := fun z => by rw [z, h1] at n1; cases n1
  have d2 : a2 ≠ D := fun z => by rw [z, h1] at n2; cases n2
  have old : ∀ a ∈ lists bs, ∃ o, H1 a = some o := fun a ha => by
    obtain ⟨b, hb, hab⟩ := List.mem_flatMap.mp ha
    obtain ⟨i, hi⟩ := List.getElem?_of_mem hb
    obtain ⟨x, hx, p, x1, x2, _, _, k1, _, k2, _⟩ := pair_get2 h2 hi
    simp at hab
    rcases hab with rfl | rfl
    · exact ⟨_, hid_le _ _ k1⟩
    · exact ⟨_, hid_le _ _ k2⟩
  have s2 : Same (Hid [D] H1) (upd H2 D (.lst (acc' ++ [v]))) := hid_set (hid_le.trans s) (by simp)
  refine ⟨⟨acc' ++ [v], bs ++ [(m, a1, a2)], upd_same, pair_app (h2.mono (hid_hid s2)) (.cons ?_ .nil), by rw [List.map_append, h3]; rfl, ?_, ?_, ?_⟩, by rw [pair_len h2, ← h3, List.length_map]⟩
  · obtain ⟨p, x1, x2, e, k0, k1, k2, k3, k4⟩ := hv
    have dp : p ≠ D := fun z => by rw [z, hacc] at k0; cases k0
    have pr : ∀ {xs : List V} {L : List (Int × Int)}, Prs H2 xs L → Prs (Hid [D] (upd H2 D (.lst (acc' ++ [v])))) xs L := fun {xs L} h => pair_mono h fun x p ⟨t, e, ht⟩ => ⟨t, e, by
      have dt : t ≠ D := fun z => by rw [z, hacc] at ht; cases ht
      exact hid_get (by rw [upd_ne dt]; exact ht) (by simpa using dt)⟩
    exact ⟨p, x1, x2, e, hid_get (by rw [upd_ne dp]; exact k0) (by simpa using dp), hid_get (by rw [upd_ne d1]; exact k1) (by simpa using d1), pr k2, hid_get (by rw [upd_ne d2]; exact k3) (by simpa using d2), pr k4⟩
  · rw [lists_app, List.nodup_append]
    refine ⟨h4, by simp [lists]; exact ne, fun a ha b hb e => ?_⟩
    obtain ⟨o, ho⟩ := old a ha
    simp [lists] at hb
    rcases hb with rfl | rfl
    · rw [e, n1] at ho; cases ho
    · rw [e, n2] at ho; cases ho
  · intro a ha
    rw [lists_app] at ha
    rcases List.mem_append.mp ha with z | z
    · exact h5 a z
    · simp [lists] at z
      rcases z with rfl | rfl
      · exact s01.free n1
      · exact s01.free n2
  · rw [lists_app]
    intro z
    rcases List.mem_append.mp z with z | z
    · exact h6 z
    · simp [lists] at z
      rcases z with z | z
      · exact d1 z.symm
      · exact d2 z.symm
theorem Grow.done {H0 H' : Hp} {D : Addr} {ms : List Mv} (h : Grow H0 H' D ms) (hD : H0 D = none) : ∃ xs, NewM H0 H' D xs ms := by
  obtain ⟨acc, bs, h1, h2, h3, h4, h5, h6⟩ := h.ex
  exact ⟨acc, hD, h1, bs, h2.mono hid_le, h3, h4, h5, h6⟩
theorem swapsM_app (p : Int × Int) : ∀ O O' : List (Int × Int), swapsM p (O ++ O') = swapsM p O ++ swapsM p O'
  | [], _ => rfl
  | q :: O, O' => by
    rw [List.cons_append, swapsM, swapsM, swapsM_app p O O']
    rfl
theorem swapsM_len (p : Int × Int) : ∀ O : List (Int × Int), (swapsM p O).length = 2 * O.length
  | [] => rfl
  | q :: O => by
    rw [swapsM, List.length_cons, List.length_cons, swapsM_len p O, List.length_cons]
    omega
/-- pairs in their order -/
def lePB (p q : Int × Int) : Bool := decide (p.1 < q.1 ∨ (p.1 = q.1 ∧ p.2 ≤ q.2))
def srtP (X : List (Int × Int)) : List (Int × Int) := X.mergeSort lePB
theorem srtP_of {X M : List (Int × Int)} (pm : M.Perm X) (asc : Asc M) : srtP X = M := by
  have tr : ∀ a b c : Int × Int, lePB a b = true → lePB b c = true → lePB a c = true := fun a b c h1 h2 => by
    have h1 := of_decide_eq_true h1
    have h2 := of_decide_eq_true h2
    exact decide_eq_true (by omega)
  have to : ∀ a b : Int × Int, (lePB a b || lePB b a) = true := fun a b => by
    unfold lePB
    rw [Bool.or_eq_true, decide_eq_true_eq, decide_eq_true_eq]
    omega
  have s1 := List.pairwise_mergeSort tr to X
  have s2 : M.Pairwise fun p q => lePB p q = true := asc.imp fun {p q} h => decide_eq_true (by omega)
  refine List.Perm.eq_of_pairwise (le := fun p q => lePB p q = true) (fun a b _ _ h1 h2 => ?_) s1 s2 ((List.mergeSort_perm X _).trans pm.symm)
  have h1 := of_decide_eq_true h1
  have h2 := of_decide_eq_true h2
  exact Prod.ext (by omega) (by omega)
def newP (p : Int × Int) (E : List Int) : List (Int × Int) := E.map (cpl p.1) ++ E.map (cpl p.2)
def transM (p : Int × Int) (E : List Int) : List Mv := (srtP (newP p E)).map fun q => ([p], [q])
theorem cpl_inj {a b c d : Int} (h : cpl a b = cpl c d) : (a = c ∧ b = d) ∨ (a = d ∧ b = c) := by
  rcases cpl_two a b with z | z <;> rcases cpl_two c d with y | y <;> rw [z, y] at h <;> simp at h <;> omega
theorem newP_nd {p : Int × Int} {E : List Int} (nd : E.Nodup) (h1 : p.1 ∉ E) (h2 : p.2 ∉ E) (ne : p.1 ≠ p.2) : (newP p E).Nodup := by
  have one : ∀ {a : Int}, a ∉ E → (E.map (cpl a)).Nodup := fun {a} ha => by
    rw [List.Nodup, List.pairwise_map]
    refine List.Pairwise.imp_of_mem (fun {x y} hx hy n z => ?_) nd
    rcases cpl_inj z with k | k
    · exact n k.2
    · exact ha (k.1 ▸ hy)
  unfold newP
  rw [List.nodup_append]
  refine ⟨one h1, one h2, fun x hx y hy z => ?_⟩
  obtain ⟨a, ha, rfl⟩ := List.mem_map.mp hx
  obtain ⟨b, hb, rfl⟩ := List.mem_map.mp hy
  rcases cpl_inj z with k | k
  · exact ne k.1
  · exact h1 (k.1 ▸ hb)
theorem lists_at {H : Hp} {xs : List V} {bs : List (Mv × Addr × Addr)} (h : MvBs H xs bs) : ∀ a ∈ lists bs, ∃ o, H a = some o := fun a ha => by
  obtain ⟨b, hb, hab⟩ := List.mem_flatMap.mp ha
  obtain ⟨i, hi⟩ := List.getElem?_of_mem hb
  obtain ⟨x, hx, p, x1, x2, _, _, k1, _, k2, _⟩ := pair_get2 h hi
  simp at hab
  rcases hab with rfl | rfl
  · exact ⟨_, k1⟩
  · exact ⟨_, k2⟩
/-- a list's place does not matter to moves that stand elsewhere -/
theorem mvb_hid {H : Hp} {D : Addr} {us : List V} (hD : H D = some (.lst us)) : ∀ {xs : List V} {bs : List (Mv × Addr × Addr)}, MvBs H xs bs → D ∉ lists bs → MvBs (Hid [D] H) xs bs := fun {xs bs} h => by
  induction h with
  | nil => exact fun _ => .nil
  | @cons x b xs bs hv t ih =>
    intro nd
    have nd1 : D ≠ b.2.1 ∧ D ≠ b.2.2 ∧ D ∉ lists bs := by
      simp only [lists, List.flatMap_cons, List.mem_append, not_or] at nd
      simp at nd
      exact ⟨nd.1.1, nd.1.2, by simpa [lists] using nd.2⟩
    refine .cons ?_ (ih nd1.2.2)
    obtain ⟨p, x1, x2, e, k0, k1, k2, k3, k4⟩ := hv
    have dp : p ≠ D := fun z => by rw [z, hD] at k0; cases k0
    have pr : ∀ {xs : List V} {L : List (Int × Int)}, Prs H xs L → Prs (Hid [D] H) xs L := fun {xs L} h => pair_mono h fun x p ⟨t, e, ht⟩ => ⟨t, e, by
      have dt : t ≠ D := fun z => by rw [z, hD] at ht; cases ht
      exact hid_get ht (by simpa using dt)⟩
    exact ⟨p, x1, x2, e, hid_get k0 (by simpa using dp), hid_get k1 (by simpa using Ne.symm nd1.1), pr k2, hid_get k3 (by simpa using Ne.symm nd1.2.1), pr k4⟩
theorem NewM.grow {H H' : Hp} {D : Addr} {xs : List V} {ms : List Mv} (h : NewM H H' D xs ms) : Grow H H' D ms := by
  obtain ⟨k1, k2, bs, k3, k4, k5, k6, k7⟩ := h
  exact ⟨xs, bs, k2, mvb_hid k2 k3 k7, k4, k5, k6, k7⟩
/-- a list of new moves behind -/
theorem Grow.ext {H0 H1 H2 : Hp} {D R : Addr} {ms ms2 : List Mv} {acc ys : List V} (h : Grow H0 H1 D ms) (s01 : Same H0 H1) (s : Same H1 H2) (hn : NewM H1 H2 R ys ms2) (hacc : H2 D = some (.lst acc)) :
    Grow H0 (upd H2 D (.lst (acc ++ ys))) D (ms ++ ms2) ∧ acc.length = ms.length ∧ ys.length = ms2.length := by
  obtain ⟨acc', bs, h1, h2, h3, h4, h5, h6⟩ := h.ex
  obtain ⟨k1, k2, cs, k3, k4, k5, k6, k7⟩ := hn
  have ea : acc' = acc := by
    have := s _ _ h1
    rw [hacc] at this
    cases this
    rfl
  subst ea
  have dcs : D ∉ lists cs := fun z => by
    have := k6 D z
    rw [h1] at this; cases this
  have s2 : Same (Hid [D] H1) (upd H2 D (.lst (acc' ++ ys))) := hid_set (hid_le.trans s) (by simp)
  have s3 : Same (Hid [D] H2) (Hid [D] (upd H2 D (.lst (acc' ++ ys)))) := hid_hid (hid_set hid_le (by simp))
  refine ⟨⟨acc' ++ ys, bs ++ cs, upd_same, pair_app (h2.mono (hid_hid s2)) (MvBs.mono s3 (mvb_hid hacc k3 dcs)), by rw [List.map_append, h3, k4], ?_, ?_, ?_⟩, by rw [pair_len h2, ← h3, List.length_map], by rw [pair_len k3, ← k4, List.length_map]⟩
  · rw [lists_app, List.nodup_append]
    refine ⟨h4, k5, fun a ha b hb e => ?_⟩
    obtain ⟨o, ho⟩ := lists_at h2 a ha
    have := k6 b hb
    rw [← e, hid_le _ _ ho] at this
    cases this
  · intro a ha
    rw [lists_app] at ha
    rcases List.mem_append.mp ha with z | z
    · exact h5 a z
    · exact s01.free (k6 a z)
  · rw [lists_app]
    intro z
    rcases List.mem_append.mp z with z | z
    · exact h6 z
    · exact dcs z
def goM (E : List Int) : List (Int × Int) → List Mv
  | [] => []
  | p :: r => ([p], []) :: (transM p E ++ swapsM p r) ++ goM E r
/-- all moves of a layout -/
def movesM (n : Int) (L : List (Int × Int)) : List Mv := joinsM (opensL n L) ++ goM (opensL n L) L
theorem transM_len (p : Int × Int) (E : List Int) : (transM p E).length = 2 * E.length := by
  unfold transM srtP newP
  rw [List.length_map, List.length_mergeSort, List.length_append, List.length_map, List.length_map]
  omega
theorem goM_len (E : List Int) : ∀ L : List (Int × Int), (goM E L).length ≤ L.length * (1 + 2 * E.length + 2 * L.length)
  | [] => by simp [goM]
  | p :: r => by
    have := goM_len E r
    rw [goM, List.length_append, List.length_cons, List.length_append, transM_len, swapsM_len, List.length_cons]
    have h1 : r.length * (1 + 2 * E.length + 2 * r.length) ≤ r.length * (1 + 2 * E.length + 2 * (r.length + 1)) := Nat.mul_le_mul_left _ (by omega)
    rw [Nat.add_mul, Nat.one_mul]
    omega
theorem pairD {α β : Type} {F : α → β → Prop} : ∀ {xs : List α} {L : List β} (k : Nat), Paired F xs L → Paired F (xs.drop k) (L.drop k)
  | _, _, 0, h => h
  | _, _, _ + 1, .nil => .nil
  | _, _, k + 1, .cons _ t => pairD k t
/-- how many moves there are, told by the numbers of couplings and of open ends -/
def cntM (n : Int) (L : List (Int × Int)) : Int := (L.length : Int) + (2 * (n - L.length) * (2 * (n - L.length) - 1)).fdiv 2 + 2 * L.length * (2 * (n - L.length)) + L.length * (L.length - 1)
end Vf

namespace Vf
open PySem PySem.Spec PyProof.Rows L2

/-! ### how many moves there are -/
theorem joinsM_cnt : ∀ es : List Int, 2 * (joinsM es).length + es.length = es.length * es.length
  | [] => rfl
  | x :: r => by
    have := joinsM_cnt r
    rw [joinsM, List.length_append, List.length_map, List.length_cons]
    have h : (r.length + 1) * (r.length + 1) = r.length * r.length + 2 * r.length + 1 := by
      rw [Nat.add_mul, Nat.mul_add]; omega
    omega
theorem goM_cnt (E : List Int) : ∀ L : List (Int × Int), (goM E L).length = 2 * L.length * E.length + L.length * L.length
  | [] => by simp [goM]
  | p :: r => by
    have := goM_cnt E r
    rw [goM, List.length_append, List.length_cons, List.length_append, transM_len, swapsM_len, List.length_cons, this]
    have h : (r.length + 1) * (r.length + 1) = r.length * r.length + 2 * r.length + 1 := by
      rw [Nat.add_mul, Nat.mul_add]; omega
    have h2 : 2 * (r.length + 1) * E.length = 2 * r.length * E.length + 2 * E.length := by
      rw [Nat.mul_add, Nat.add_mul]
    omega
theorem opens_cnt {n : Int} {L : List (Int × Int)} (hL : Lay n L) : ((opensL n L).length : Int) = 2 * (n - L.length) := by
  have n1 := hL.n1
  have pm : (opensL n L ++ flat L).Perm (endsL n) := by
    refine (List.perm_ext_iff_of_nodup ?_ (endsL_nd n)).mpr fun x => ?_
    · rw [List.nodup_append]
      refine ⟨opens_nd n L, hL.nd, fun a ha b hb e => ?_⟩
      exact (mem_opens.mp ha).2 (e ▸ hb)
    · rw [List.mem_append, mem_opens, mem_endsL]
      constructor
      · rintro (z | z)
        · exact z.1
        · obtain ⟨p, hp, e⟩ := mem_flat.mp z
          have := hL.cp p hp
          rcases e with rfl | rfl <;> omega
      · intro z
        by_cases c : x ∈ flat L
        · exact .inr c
        · exact .inl ⟨z, c⟩
  have h := pm.length_eq
  rw [List.length_append, flat_len, endsL_card (by omega)] at h
  omega
theorem movesM_cnt {n : Int} {L : List (Int × Int)} (hL : Lay n L) : ((movesM n L).length : Int) = cntM n L := by
  have o := opens_cnt hL
  have j := joinsM_cnt (opensL n L)
  have g := goM_cnt (opensL n L) L
  unfold movesM cntM
  rw [List.length_append, ← o, g]
  generalize (opensL n L).length = k at *
  generalize L.length = l at *
  generalize (joinsM (opensL n L)).length = m at *
  have h : ((k : Int) * ((k : Int) - 1)) = 2 * (m : Int) := by
    have : (2 * (m : Int) + k) = (k : Int) * k := by exact_mod_cast j
    rw [Int.mul_sub]
    omega
  rw [h, Int.fdiv_eq_ediv_of_nonneg _ (by decide)]
  have h2 : (2 * (m : Int)) / 2 = m := by omega
  rw [h2]
  have h3 : (l : Int) * ((l : Int) - 1) = (l : Int) * l - l := by rw [Int.mul_sub]; omega
  rw [h3]
  have h4 : ((m + (2 * l * k + l * l) : Nat) : Int) = (m : Int) + (2 * (l : Int) * k + (l : Int) * l) := by push_cast; rfl
  rw [h4]
  omega
end Vf

namespace Vf
open PySem PySem.Spec PyProof.Rows L2

/-! ### moves in their order -/
open PySem.W in
theorem lt_pairs : ∀ C D : List (Int × Int), PySem.W.rowLt (C.map dP) (D.map dP) = decide (flat C < flat D)
  | [], [] => by
    have e : PySem.W.rowLt [] [] = false := lex_irrefl _
    show PySem.W.rowLt [] [] = _
    rw [e]
    simp [flat]
  | [], q :: D => by
    have e : PySem.W.rowLt [] (dP q :: D.map dP) = true := by
      unfold PySem.W.rowLt dP
      rw [toks_all_cons]
      simp only [keyToksAll, keyToks]
      rw [lex_diff (O := itemOrd) (by simp)]
      rfl
    show PySem.W.rowLt [] (dP q :: D.map dP) = _
    rw [e, flat_cons]
    simp [flat]
  | p :: C, [] => by
    have e : PySem.W.rowLt (dP p :: C.map dP) [] = false := by
      unfold PySem.W.rowLt dP
      rw [toks_all_cons]
      simp only [keyToksAll, keyToks]
      rw [lex_diff (O := itemOrd) (by simp)]
      rfl
    show PySem.W.rowLt (dP p :: C.map dP) [] = _
    rw [e, flat_cons]
    simp [flat]
  | p :: C, q :: D => by
    have al : PySem.W.alike (dP p) (dP q) = true := by simp [dP, PySem.W.alike, PySem.W.alikeAll]
    have e : PySem.W.rowLt (dP p :: C.map dP) (dP q :: D.map dP) = if p = q then PySem.W.rowLt (C.map dP) (D.map dP) else decide (p.1 < q.1 ∨ (p.1 = q.1 ∧ p.2 < q.2)) := by
      unfold PySem.W.rowLt
      rw [PySem.W.dataLt_cons al, eqv_pair]
      by_cases h : p = q
      · rw [if_pos (by simpa using h), if_pos h]
      · rw [if_neg (by simpa using h), if_neg h]
        exact PySem.W.dataLt_ii p.1 p.2 q.1 q.2
    show PySem.W.rowLt (dP p :: C.map dP) (dP q :: D.map dP) = _
    rw [e, flat_cons, flat_cons, lt_pairs C D]
    obtain ⟨a, b⟩ := p
    obtain ⟨c, d⟩ := q
    simp only [List.cons_append, List.nil_append]
    by_cases h : (a, b) = (c, d)
    · rw [if_pos h]
      cases h
      congr 1
      simp [List.cons_lt_cons_iff]
    · rw [if_neg h]
      congr 1
      simp only [List.cons_lt_cons_iff, eq_iff_iff]
      have h' : ¬ (a = c ∧ b = d) := fun z => h (by rw [z.1, z.2])
      constructor
      · rintro (z | z)
        · exact .inl z
        · exact .inr ⟨z.1, .inl z.2⟩
      · rintro (z | ⟨z, y | y⟩)
        · exact .inl z
        · exact .inr ⟨z, y⟩
        · exact absurd ⟨z, y.1⟩ h'
/-- a move is ahead of another one, or it is this one -/
def leM (m k : Mv) : Bool := decide (flat m.1 < flat k.1 ∨ (flat m.1 = flat k.1 ∧ flat m.2 ≤ flat k.2))
def encM (m : Mv) : PyData := mD m.1 m.2
theorem flat_inj : ∀ {C D : List (Int × Int)}, flat C = flat D → C = D
  | [], [], _ => rfl
  | [], q :: D, h => by rw [flat_cons] at h; simp [flat] at h
  | p :: C, [], h => by rw [flat_cons] at h; simp [flat] at h
  | p :: C, q :: D, h => by
    rw [flat_cons, flat_cons] at h
    simp at h
    rw [flat_inj h.2.2, Prod.ext h.1 h.2.1]
theorem alike_dL (C D : List (Int × Int)) : PySem.W.alike (dL C) (dL D) = true := by
  have : ∀ C D : List (Int × Int), PySem.W.alikeAll (C.map dP) (D.map dP) = true := fun C => by
    induction C with
    | nil => intro D; cases D <;> simp [PySem.W.alikeAll]
    | cons p C ih =>
      intro D
      cases D with
      | nil => simp [PySem.W.alikeAll]
      | cons q D =>
        simp only [List.map_cons, PySem.W.alikeAll]
        rw [ih]
        simp [dP, PySem.W.alike, PySem.W.alikeAll]
  unfold dL
  rw [PySem.W.alike]
  exact this C D
theorem le_encM : PySem.W.dataLe false encM = leM := by
  funext m k
  show (!PySem.W.dataLt (encM k) (encM m)) = _
  have e : PySem.W.dataLt (encM k) (encM m) = decide (flat k.1 < flat m.1 ∨ (flat k.1 = flat m.1 ∧ flat k.2 < flat m.2)) := by
    show PySem.W.dataLt (.tuple [dL k.1, dL k.2]) (.tuple [dL m.1, dL m.2]) = _
    rw [PySem.W.dataLt_pair (alike_dL _ _) (alike_dL _ _), eqv_pairs, eqv_pairs]
    have l : ∀ C D : List (Int × Int), PySem.W.dataLt (dL C) (dL D) = decide (flat C < flat D) := fun C D => by
      unfold dL
      rw [PySem.W.dataLt_list]
      exact lt_pairs C D
    rw [l, l]
    by_cases h : k.1 = m.1
    · rw [if_pos (by simpa using h), h]
      by_cases h2 : k.2 = m.2
      · rw [if_pos (by simpa using h2), h2]
        simp [List.lt_irrefl]
      · rw [if_neg (by simpa using h2)]
        simp [List.lt_irrefl]
    · rw [if_neg (by simpa using h)]
      have h' : flat k.1 ≠ flat m.1 := fun z => h (flat_inj z)
      simp [h']
  rw [e]
  unfold leM
  rw [Bool.eq_iff_iff]
  simp only [Bool.not_eq_true', decide_eq_false_iff_not, decide_eq_true_eq, not_or, not_and]
  constructor
  · rintro ⟨h1, h2⟩
    by_cases c : flat m.1 = flat k.1
    · exact .inr ⟨c, List.not_lt.mp (h2 c.symm)⟩
    · refine .inl ?_
      rcases List.le_total (flat m.1) (flat k.1) with z | z
      · rcases List.le_iff_lt_or_eq.mp z with y | y
        · exact y
        · exact absurd y c
      · rcases List.le_iff_lt_or_eq.mp z with y | y
        · exact absurd y h1
        · exact absurd y.symm c
  · rintro (z | ⟨z, y⟩)
    · exact ⟨fun w => List.lt_asymm z w, fun w => absurd z (by rw [w]; exact List.lt_irrefl _)⟩
    · exact ⟨by rw [z]; exact List.lt_irrefl _, fun _ w => List.not_lt.mpr y w⟩
end Vf

namespace Vf
open PySem PySem.Spec PyProof.Rows L2

/-! ### all moves of a layout ascend -/
def ltM (a b : Mv) : Prop := flat a.1 < flat b.1 ∨ (flat a.1 = flat b.1 ∧ flat a.2 < flat b.2)
theorem ltM.le {a b : Mv} (h : ltM a b) : leM a b = true := decide_eq_true (h.elim .inl fun z => .inr ⟨z.1, List.le_of_lt z.2⟩)
theorem ltM.ne {a b : Mv} (h : ltM a b) : a ≠ b := fun e => by
  subst e
  rcases h with z | z
  · exact List.lt_irrefl _ z
  · exact List.lt_irrefl _ z.2
theorem flat_lt_one {p q : Int × Int} {C D : List (Int × Int)} (h : p.1 < q.1 ∨ (p.1 = q.1 ∧ p.2 < q.2)) : flat (p :: C) < flat (q :: D) := by
  rw [flat_cons, flat_cons]
  simp only [List.cons_append, List.nil_append, List.cons_lt_cons_iff]
  rcases h with h | ⟨h1, h2⟩
  · exact .inl h
  · exact .inr ⟨h1, .inl h2⟩
theorem flat_lt_two {p : Int × Int} {C D : List (Int × Int)} (h : flat C < flat D) : flat (p :: C) < flat (p :: D) := by
  rw [flat_cons, flat_cons]
  simp only [List.cons_append, List.nil_append, List.cons_lt_cons_iff]
  exact .inr ⟨trivial, .inr ⟨trivial, h⟩⟩
theorem flat_lt_nil {p : Int × Int} {C : List (Int × Int)} : flat [] < flat (p :: C) := by
  rw [flat_cons]
  simp [flat]
theorem joinsM_mem {m : Mv} : ∀ {es : List Int}, m ∈ joinsM es → ∃ x y, x ∈ es ∧ y ∈ es ∧ m = ([], [(x, y)])
  | [], h => nomatch h
  | x :: r, h => by
    rw [joinsM] at h
    rcases List.mem_append.mp h with z | z
    · obtain ⟨y, hy, rfl⟩ := List.mem_map.mp z
      exact ⟨x, y, by simp, List.mem_cons_of_mem _ hy, rfl⟩
    · obtain ⟨a, b, ha, hb, rfl⟩ := joinsM_mem z
      exact ⟨a, b, List.mem_cons_of_mem _ ha, List.mem_cons_of_mem _ hb, rfl⟩
theorem joinsM_srt : ∀ {es : List Int}, es.Pairwise (· < ·) → (joinsM es).Pairwise ltM
  | [], _ => List.Pairwise.nil
  | x :: r, h => by
    obtain ⟨h1, h2⟩ := List.pairwise_cons.mp h
    rw [joinsM, List.pairwise_append]
    refine ⟨?_, joinsM_srt h2, fun a ha b hb => ?_⟩
    · rw [List.pairwise_map]
      exact h2.imp fun {a b} z => .inr ⟨rfl, flat_lt_one (.inr ⟨rfl, z⟩)⟩
    · obtain ⟨y, hy, rfl⟩ := List.mem_map.mp ha
      obtain ⟨c, d, hc, hd, rfl⟩ := joinsM_mem hb
      exact .inr ⟨rfl, flat_lt_one (.inl (h1 c hc))⟩
theorem transM_mem {p : Int × Int} {E : List Int} {m : Mv} (h : m ∈ transM p E) : ∃ q, q ∈ newP p E ∧ m = ([p], [q]) := by
  obtain ⟨q, hq, rfl⟩ := List.mem_map.mp h
  exact ⟨q, (List.mergeSort_perm _ _).mem_iff.mp hq, rfl⟩
theorem srtP_asc {X : List (Int × Int)} (nd : X.Nodup) : Asc (srtP X) := by
  have tr : ∀ a b c : Int × Int, lePB a b = true → lePB b c = true → lePB a c = true := fun a b c h1 h2 => by
    have h1 := of_decide_eq_true h1
    have h2 := of_decide_eq_true h2
    exact decide_eq_true (by omega)
  have to : ∀ a b : Int × Int, (lePB a b || lePB b a) = true := fun a b => by
    unfold lePB
    rw [Bool.or_eq_true, decide_eq_true_eq, decide_eq_true_eq]
    omega
  have s1 := List.pairwise_mergeSort tr to X
  have nd2 : (srtP X).Nodup := (List.mergeSort_perm X _).nodup_iff.mpr nd
  refine (s1.and nd2).imp fun {p q} h => ?_
  have h1 := of_decide_eq_true h.1
  have h2 := h.2
  by_cases c : p.1 = q.1
  · refine .inr ⟨c, ?_⟩
    have : p.2 ≠ q.2 := fun z => h2 (Prod.ext c z)
    omega
  · exact .inl (by omega)
theorem transM_srt {p : Int × Int} {E : List Int} (nd : (newP p E).Nodup) : (transM p E).Pairwise ltM := by
  unfold transM
  rw [List.pairwise_map]
  exact (srtP_asc nd).imp fun {a b} h => .inr ⟨rfl, flat_lt_one h⟩
theorem swapsM_mem {p : Int × Int} {m : Mv} : ∀ {O : List (Int × Int)}, m ∈ swapsM p O → ∃ q, q ∈ O ∧ (m = ([p, q], [(p.1, q.1), cpl p.2 q.2]) ∨ m = ([p, q], [(p.1, q.2), cpl p.2 q.1]))
  | [], h => nomatch h
  | q :: O, h => by
    rw [swapsM] at h
    rcases List.mem_cons.mp h with rfl | h
    · exact ⟨q, by simp, .inl rfl⟩
    · rcases List.mem_cons.mp h with rfl | h
      · exact ⟨q, by simp, .inr rfl⟩
      · obtain ⟨q', h1, h2⟩ := swapsM_mem h
        exact ⟨q', List.mem_cons_of_mem _ h1, h2⟩
theorem swapsM_srt {p : Int × Int} : ∀ {O : List (Int × Int)}, Asc O → (∀ q ∈ O, q.1 < q.2) → (swapsM p O).Pairwise ltM
  | [], _, _ => List.Pairwise.nil
  | q :: O, h, hc => by
    obtain ⟨h1, h2⟩ := List.pairwise_cons.mp h
    have ih := swapsM_srt (p := p) h2 fun q' hq' => hc q' (List.mem_cons_of_mem _ hq')
    have far : ∀ J m, m ∈ swapsM p O → ltM ([p, q], J) m := fun J m hm => by
      obtain ⟨q', hq', rfl | rfl⟩ := swapsM_mem hm
      · exact .inl (flat_lt_two (flat_lt_one (h1 q' hq')))
      · exact .inl (flat_lt_two (flat_lt_one (h1 q' hq')))
    rw [swapsM]
    refine List.pairwise_cons.mpr ⟨fun m hm => ?_, List.pairwise_cons.mpr ⟨fun m hm => far _ m hm, ih⟩⟩
    rcases List.mem_cons.mp hm with rfl | hm
    · exact .inr ⟨rfl, flat_lt_one (.inr ⟨rfl, hc q (by simp)⟩)⟩
    · exact far _ m hm
theorem goM_mem {E : List Int} {m : Mv} : ∀ {L : List (Int × Int)}, m ∈ goM E L → ∃ p C, p ∈ L ∧ m.1 = p :: C
  | [], h => nomatch h
  | p :: r, h => by
    rw [goM] at h
    rcases List.mem_append.mp h with h | h
    · rcases List.mem_cons.mp h with rfl | h
      · exact ⟨p, [], by simp, rfl⟩
      · rcases List.mem_append.mp h with h | h
        · obtain ⟨q, _, rfl⟩ := transM_mem h
          exact ⟨p, [], by simp, rfl⟩
        · obtain ⟨q, _, rfl | rfl⟩ := swapsM_mem h
          · exact ⟨p, [q], by simp, rfl⟩
          · exact ⟨p, [q], by simp, rfl⟩
    · obtain ⟨p', C, h1, h2⟩ := goM_mem h
      exact ⟨p', C, List.mem_cons_of_mem _ h1, h2⟩
theorem goM_srt {E : List Int} : ∀ {L : List (Int × Int)}, Asc L → (∀ q ∈ L, q.1 < q.2) → (∀ q ∈ L, (newP q E).Nodup) → (goM E L).Pairwise ltM
  | [], _, _, _ => List.Pairwise.nil
  | p :: r, h, hc, hn => by
    obtain ⟨h1, h2⟩ := List.pairwise_cons.mp h
    have ih := goM_srt (E := E) h2 (fun q hq => hc q (List.mem_cons_of_mem _ hq)) fun q hq => hn q (List.mem_cons_of_mem _ hq)
    have ts := transM_srt (hn p (by simp))
    have ss := swapsM_srt (p := p) h2 fun q hq => hc q (List.mem_cons_of_mem _ hq)
    rw [goM, List.pairwise_append]
    refine ⟨List.pairwise_cons.mpr ⟨fun m hm => ?_, ?_⟩, ih, fun a ha b hb => ?_⟩
    · rcases List.mem_append.mp hm with hm | hm
      · obtain ⟨q, _, rfl⟩ := transM_mem hm
        exact .inr ⟨rfl, flat_lt_nil⟩
      · obtain ⟨q, _, rfl | rfl⟩ := swapsM_mem hm
        · exact .inl (flat_lt_two flat_lt_nil)
        · exact .inl (flat_lt_two flat_lt_nil)
    · rw [List.pairwise_append]
      refine ⟨ts, ss, fun a ha b hb => ?_⟩
      obtain ⟨q, _, rfl⟩ := transM_mem ha
      obtain ⟨q', _, rfl | rfl⟩ := swapsM_mem hb
      · exact .inl (flat_lt_two flat_lt_nil)
      · exact .inl (flat_lt_two flat_lt_nil)
    · obtain ⟨p', C, hp', e⟩ := goM_mem hb
      have ea : ∃ C, a.1 = p :: C := by
        rcases List.mem_cons.mp ha with rfl | ha
        · exact ⟨[], rfl⟩
        · rcases List.mem_append.mp ha with ha | ha
          · obtain ⟨q, _, rfl⟩ := transM_mem ha; exact ⟨[], rfl⟩
          · obtain ⟨q, _, rfl | rfl⟩ := swapsM_mem ha
            · exact ⟨[q], rfl⟩
            · exact ⟨[q], rfl⟩
      obtain ⟨C', ea⟩ := ea
      refine .inl ?_
      rw [ea, e]
      exact flat_lt_one (h1 p' hp')
theorem opens_asc (n : Int) (L : List (Int × Int)) : (opensL n L).Pairwise (· < ·) := (endsL_asc n).filter _
theorem movesM_srt {n : Int} {L : List (Int × Int)} (hL : Lay n L) : (movesM n L).Pairwise ltM := by
  unfold movesM
  rw [List.pairwise_append]
  refine ⟨joinsM_srt (opens_asc n L), goM_srt hL.asc (fun q hq => (hL.cp q hq).2.1) (fun q hq => ?_), fun a ha b hb => ?_⟩
  · have cp := hL.cp q hq
    exact newP_nd (opens_nd n L) (fun z => (mem_opens.mp z).2 (mem_flat.mpr ⟨q, hq, .inl rfl⟩)) (fun z => (mem_opens.mp z).2 (mem_flat.mpr ⟨q, hq, .inr rfl⟩)) (by omega)
  · obtain ⟨x, y, _, _, rfl⟩ := joinsM_mem ha
    obtain ⟨p, C, _, e⟩ := goM_mem hb
    refine .inl ?_
    rw [e]
    exact flat_lt_nil
end Vf

namespace Vf
open PySem PySem.Spec PyProof.Rows L2

/-! ### these are all moves -/
theorem cpl_prI (a b : Int) : cpl a b = prI a b := by
  unfold cpl prI
  split
  · exact Prod.ext (by simp only; omega) (by simp only; omega)
  · exact Prod.ext (by simp only; omega) (by simp only; omega)
theorem joinsM_lt {m : Mv} : ∀ {es : List Int}, es.Pairwise (· < ·) → m ∈ joinsM es → ∃ x y, x ∈ es ∧ y ∈ es ∧ x < y ∧ m = ([], [(x, y)])
  | [], _, h => nomatch h
  | x :: r, hp, h => by
    obtain ⟨h1, h2⟩ := List.pairwise_cons.mp hp
    rw [joinsM] at h
    rcases List.mem_append.mp h with z | z
    · obtain ⟨y, hy, rfl⟩ := List.mem_map.mp z
      exact ⟨x, y, by simp, List.mem_cons_of_mem _ hy, h1 y hy, rfl⟩
    · obtain ⟨a, b, ha, hb, hab, rfl⟩ := joinsM_lt h2 z
      exact ⟨a, b, List.mem_cons_of_mem _ ha, List.mem_cons_of_mem _ hb, hab, rfl⟩
theorem joinsM_in {x y : Int} : ∀ {es : List Int}, es.Pairwise (· < ·) → x ∈ es → y ∈ es → x < y → (([], [(x, y)]) : Mv) ∈ joinsM es
  | [], _, h, _, _ => nomatch h
  | a :: r, hp, hx, hy, h => by
    obtain ⟨h1, h2⟩ := List.pairwise_cons.mp hp
    rw [joinsM]
    rcases List.mem_cons.mp hx with e | hx
    · subst e
      rcases List.mem_cons.mp hy with e | hy
      · omega
      · exact List.mem_append_left _ (List.mem_map.mpr ⟨y, hy, rfl⟩)
    · rcases List.mem_cons.mp hy with e | hy
      · have := h1 x hx; omega
      · exact List.mem_append_right _ (joinsM_in h2 hx hy h)
theorem swapsM_in {p q : Int × Int} {m : Mv} : ∀ {O : List (Int × Int)}, q ∈ O → (m = ([p, q], [(p.1, q.1), cpl p.2 q.2]) ∨ m = ([p, q], [(p.1, q.2), cpl p.2 q.1])) → m ∈ swapsM p O
  | [], h, _ => nomatch h
  | a :: O, h, e => by
    rw [swapsM]
    rcases List.mem_cons.mp h with rfl | h
    · rcases e with rfl | rfl
      · simp
      · simp
    · exact List.mem_cons_of_mem _ (List.mem_cons_of_mem _ (swapsM_in h e))
theorem goM_cut {E : List Int} {p : Int × Int} : ∀ {L : List (Int × Int)}, p ∈ L → (([p], []) : Mv) ∈ goM E L
  | [], h => nomatch h
  | a :: r, h => by
    rw [goM]
    rcases List.mem_cons.mp h with rfl | h
    · simp
    · exact List.mem_append_right _ (goM_cut h)
theorem goM_trans {E : List Int} {p q : Int × Int} : ∀ {L : List (Int × Int)}, p ∈ L → q ∈ newP p E → (([p], [q]) : Mv) ∈ goM E L
  | [], h, _ => nomatch h
  | a :: r, h, hq => by
    rw [goM]
    rcases List.mem_cons.mp h with rfl | h
    · refine List.mem_append_left _ (List.mem_cons_of_mem _ (List.mem_append_left _ ?_))
      exact List.mem_map.mpr ⟨q, (List.mergeSort_perm _ _).mem_iff.mpr hq, rfl⟩
    · exact List.mem_append_right _ (goM_trans h hq)
theorem goM_swap {E : List Int} {p q : Int × Int} {m : Mv} : ∀ {L : List (Int × Int)}, Asc L → p ∈ L → q ∈ L → (p.1 < q.1 ∨ (p.1 = q.1 ∧ p.2 < q.2)) → (m = ([p, q], [(p.1, q.1), cpl p.2 q.2]) ∨ m = ([p, q], [(p.1, q.2), cpl p.2 q.1])) → m ∈ goM E L
  | [], _, h, _, _, _ => nomatch h
  | a :: r, hL, hp, hq, lt, e => by
    obtain ⟨h1, h2⟩ := List.pairwise_cons.mp hL
    rw [goM]
    rcases List.mem_cons.mp hp with ep | hp'
    · subst ep
      rcases List.mem_cons.mp hq with eq | hq'
      · subst eq; omega
      · exact List.mem_append_left _ (List.mem_cons_of_mem _ (List.mem_append_right _ (swapsM_in hq' e)))
    · rcases List.mem_cons.mp hq with eq | hq'
      · subst eq; have := h1 p hp'; omega
      · exact List.mem_append_right _ (goM_swap h2 hp' hq' lt e)
theorem goM_kinds {E : List Int} {m : Mv} : ∀ {L : List (Int × Int)}, Asc L → m ∈ goM E L → ∃ p, p ∈ L ∧ (m = ([p], []) ∨ (∃ q, q ∈ newP p E ∧ m = ([p], [q])) ∨ ∃ q, q ∈ L ∧ (p.1 < q.1 ∨ (p.1 = q.1 ∧ p.2 < q.2)) ∧ (m = ([p, q], [(p.1, q.1), cpl p.2 q.2]) ∨ m = ([p, q], [(p.1, q.2), cpl p.2 q.1])))
  | [], _, h => nomatch h
  | p :: r, hL, h => by
    obtain ⟨h1, h2⟩ := List.pairwise_cons.mp hL
    rw [goM] at h
    rcases List.mem_append.mp h with h | h
    · rcases List.mem_cons.mp h with rfl | h
      · exact ⟨p, by simp, .inl rfl⟩
      · rcases List.mem_append.mp h with h | h
        · obtain ⟨q, hq, rfl⟩ := transM_mem h
          exact ⟨p, by simp, .inr (.inl ⟨q, hq, rfl⟩)⟩
        · obtain ⟨q, hq, e⟩ := swapsM_mem h
          exact ⟨p, by simp, .inr (.inr ⟨q, List.mem_cons_of_mem _ hq, h1 q hq, e⟩)⟩
    · obtain ⟨p', hp', k⟩ := goM_kinds h2 h
      refine ⟨p', List.mem_cons_of_mem _ hp', ?_⟩
      rcases k with k | k | ⟨q, hq, k⟩
      · exact .inl k
      · exact .inr (.inl k)
      · exact .inr (.inr ⟨q, List.mem_cons_of_mem _ hq, k⟩)
theorem movesM_are {n : Int} {L : List (Int × Int)} (hL : Lay n L) {m : Mv} (h : m ∈ movesM n L) : mvD n L (mD m.1 m.2) = true := by
  unfold movesM at h
  rcases List.mem_append.mp h with h | h
  · obtain ⟨x, y, hx, hy, lt, rfl⟩ := joinsM_lt (opens_asc n L) h
    have := mv_join hL hx hy (by omega)
    have e : prI x y = (x, y) := Prod.ext (by show min x y = x; omega) (by show max x y = y; omega)
    rwa [e] at this
  · obtain ⟨p, hp, k⟩ := goM_kinds hL.asc h
    have cp := hL.cp p hp
    rcases k with rfl | ⟨q, hq, rfl⟩ | ⟨q, hq, lt, k⟩
    · exact mv_cut hL hp
    · unfold newP at hq
      rcases List.mem_append.mp hq with hq | hq
      · obtain ⟨e, he, rfl⟩ := List.mem_map.mp hq
        rw [cpl_prI]
        exact mv_move hL hp (.inl rfl) he
      · obtain ⟨e, he, rfl⟩ := List.mem_map.mp hq
        rw [cpl_prI]
        exact mv_move hL hp (.inr rfl) he
    · have cq := hL.cp q hq
      have ne : p ≠ q := fun z => by subst z; omega
      have d1 : p.1 ≠ q.1 := fun z => ne (lay_share hL hp hq (.inl rfl) (.inl z))
      have lt' : p.1 < q.1 := by omega
      have aC : Asc [p, q] := by
        refine List.pairwise_cons.mpr ⟨fun x hx => ?_, List.pairwise_singleton _ _⟩
        rw [List.mem_singleton.mp hx]; exact .inl lt'
      rcases k with rfl | rfl
      · refine mv_swap hL hp hq ne (x := q.1) (y := q.2) (.inl ⟨rfl, rfl⟩) (List.Perm.refl _) ?_ aC ?_
        · rw [cpl_prI, show (p.1, q.1) = prI p.1 q.1 from Prod.ext (by show p.1 = min p.1 q.1; omega) (by show q.1 = max p.1 q.1; omega)]
        · refine List.pairwise_cons.mpr ⟨fun x hx => ?_, List.pairwise_singleton _ _⟩
          rw [List.mem_singleton.mp hx, cpl_prI]
          refine .inl ?_
          show p.1 < min p.2 q.2
          omega
      · refine mv_swap hL hp hq ne (x := q.2) (y := q.1) (.inr ⟨rfl, rfl⟩) (List.Perm.refl _) ?_ aC ?_
        · rw [cpl_prI, show (p.1, q.2) = prI p.1 q.2 from Prod.ext (by show p.1 = min p.1 q.2; omega) (by show q.2 = max p.1 q.2; omega)]
        · refine List.pairwise_cons.mpr ⟨fun x hx => ?_, List.pairwise_singleton _ _⟩
          rw [List.mem_singleton.mp hx, cpl_prI]
          refine .inl ?_
          show p.1 < min p.2 q.1
          omega
theorem movesM_all {n : Int} {L C J : List (Int × Int)} (hL : Lay n L) (h : mvD n L (mD C J) = true) : ((C, J) : Mv) ∈ movesM n L := by
  have hh := h
  unfold mvD at h
  rw [Bool.and_eq_true] at h
  obtain ⟨h1, h2⟩ := h
  obtain ⟨C', J', he, hC, hJ, cC, cJ, aC, aJ, hl⟩ := formD_ok h1
  simp only [mD, PyData.tuple.injEq, List.cons.injEq, PyData.list.injEq, and_true] at he
  have eC : C = C' := by have := he.1; exact dL_inj (by unfold dL; rw [this])
  have eJ : J = J' := by have := he.2; exact dL_inj (by unfold dL; rw [this])
  subst eC
  subst eJ
  simp only [mD] at h2
  rw [hC, hJ] at h2
  simp only at h2
  unfold mvB at h2
  rw [Bool.and_eq_true, List.all_eq_true] at h2
  obtain ⟨inL, k⟩ := h2
  have inL' : ∀ p ∈ C, p ∈ L := fun p hp => of_decide_eq_true (inL p hp)
  have op : ∀ e : Int, -n ≤ e → e ≤ n → e ≠ 0 → e ∉ flat L → e ∈ opensL n L := fun e a b c d => mem_opens.mpr ⟨⟨a, b, c⟩, d⟩
  unfold movesM
  match C, J, hl, k with
  | [p, q], J, hl, k =>
    have hp := inL' p (by simp)
    have hq := inL' q (by simp)
    have lt : p.1 < q.1 ∨ (p.1 = q.1 ∧ p.2 < q.2) := by
      have : pltB p q = true := aC
      unfold pltB at this
      simpa using this
    unfold otherB at k
    rw [Bool.or_eq_true, decide_eq_true_eq, decide_eq_true_eq] at k
    refine List.mem_append_right _ (goM_swap hL.asc hp hq lt ?_)
    rcases k with rfl | rfl
    · exact .inl rfl
    · exact .inr rfl
  | [p], [], _, _ => exact List.mem_append_right _ (goM_cut (inL' p (by simp)))
  | [p], [q], _, k =>
    have hp := inL' p (by simp)
    have cq := cJ q (by simp)
    refine List.mem_append_right _ (goM_trans hp ?_)
    have hk : openB L p q = true := k
    unfold openB at hk
    have c1 : ∀ {a b : Int}, a < b → cpl a b = (a, b) := fun {a b} h => if_pos h
    have c2 : ∀ {a b : Int}, a < b → cpl b a = (a, b) := fun {a b} h => if_neg (by omega)
    unfold newP
    split at hk
    · rename_i c
      have hk := of_decide_eq_true hk
      have ho := op q.2 (by omega) cq.2.2.1 cq.2.2.2.2 hk
      rcases c with c | c
      · exact List.mem_append_left _ (List.mem_map.mpr ⟨q.2, ho, by rw [← c]; exact c1 cq.2.1⟩)
      · exact List.mem_append_right _ (List.mem_map.mpr ⟨q.2, ho, by rw [← c]; exact c1 cq.2.1⟩)
    · have hk := of_decide_eq_true hk
      have ho := op q.1 cq.1 (by omega) cq.2.2.2.1 hk.2
      rcases hk.1 with c | c
      · exact List.mem_append_left _ (List.mem_map.mpr ⟨q.1, ho, by rw [← c]; exact c2 cq.2.1⟩)
      · exact List.mem_append_right _ (List.mem_map.mpr ⟨q.1, ho, by rw [← c]; exact c2 cq.2.1⟩)
  | [], [q], _, k =>
    have hk := of_decide_eq_true k
    have cq := cJ q (by simp)
    exact List.mem_append_left _ (joinsM_in (opens_asc n L) (op q.1 cq.1 (by omega) cq.2.2.2.1 hk.1) (op q.2 (by omega) cq.2.2.1 cq.2.2.2.2 hk.2) cq.2.1)
  | [], [], hl, _ => simp at hl
  | [], _ :: _ :: _, hl, _ => simp at hl
  | [_], _ :: _ :: _, hl, _ => simp at hl
  | _ :: _ :: _ :: _, _, hl, _ => simp at hl
end Vf

namespace Vf
open PySem PySem.Spec PyProof.Rows L2

/-! ### lists of lists of couplings -/
def LP (H : Hp) (v : V) (C : List (Int × Int)) : Prop := ∃ a ys, v = .ref a ∧ H a = some (.lst ys) ∧ Prs H ys C
abbrev LPs (H : Hp) : List V → List (List (Int × Int)) → Prop := Paired (LP H)
theorem LP.mono {H H' : Hp} {v : V} {C : List (Int × Int)} (s : Same H H') (h : LP H v C) : LP H' v C := let ⟨a, ys, e, h1, h2⟩ := h; ⟨a, ys, e, s _ _ h1, h2.mono s⟩
theorem LPs.mono {H H' : Hp} {xs : List V} {Cs : List (List (Int × Int))} (s : Same H H') (h : LPs H xs Cs) : LPs H' xs Cs := pair_mono h fun _ _ q => q.mono s
def twosM : List (Int × Int) → List (List (Int × Int))
  | [] => []
  | p :: r => r.map (fun q => [p, q]) ++ twosM r
def listsM (X : List (Int × Int)) : List (List (Int × Int)) := [[]] ++ X.map (fun p => [p]) ++ twosM X
theorem twosM_len : ∀ X : List (Int × Int), (twosM X).length ≤ X.length * X.length
  | [] => by simp [twosM]
  | x :: r => by
    have := twosM_len r
    rw [twosM, List.length_append, List.length_map, List.length_cons, Nat.mul_add, Nat.add_mul]
    omega
/-- a hidden list, and others that stand elsewhere -/
theorem lp_hid {H : Hp} {D : Addr} {us : List V} (hD : H D = some (.lst us)) {v : V} {C : List (Int × Int)} {a : Addr} (e : v = .ref a) (ne : a ≠ D) (h : LP H v C) : LP (Hid [D] H) v C := by
  obtain ⟨a', ys, e', h1, h2⟩ := h
  subst e
  cases e'
  refine ⟨_, ys, rfl, hid_get h1 (by simpa using ne), pair_mono h2 fun x p ⟨t, e, ht⟩ => ⟨t, e, ?_⟩⟩
  have dt : t ≠ D := fun z => by rw [z, hD] at ht; cases ht
  exact hid_get ht (by simpa using dt)
theorem lp_hids {H : Hp} {t : List Addr} (hD : ∀ d ∈ t, ∃ us, H d = some (.lst us)) {v : V} {C : List (Int × Int)} {a : Addr} (e : v = .ref a) (ne : a ∉ t) (h : LP H v C) : LP (Hid t H) v C := by
  obtain ⟨a', ys, e', h1, h2⟩ := h
  subst e
  cases e'
  refine ⟨_, ys, rfl, hid_get h1 ne, pair_mono h2 fun x p ⟨u, e, hu⟩ => ⟨u, e, ?_⟩⟩
  exact hid_get hu fun z => by
    obtain ⟨us, k⟩ := hD u z
    rw [hu] at k; cases k
theorem lps_less {H : Hp} {D F : Addr} {xs : List V} {Cs : List (List (Int × Int))} (h : LPs (Hid [D, F] H) xs Cs) : LPs (Hid [F] H) xs Cs := LPs.mono (fun x o e => hid_get (hid_le _ _ e) (by have := hid_un e; simp at this ⊢; exact this.2)) h
end Vf

namespace Vf
open PySem PySem.Spec PyProof.Rows L2

/-! ### the opposite move -/
theorem perm_mem {L C J M : List (Int × Int)} (pm : M.Perm (L.filter (fun p => decide (p ∈ C) != true) ++ J)) (p : Int × Int) : p ∈ M ↔ (p ∈ L ∧ p ∉ C) ∨ p ∈ J := by
  rw [pm.mem_iff, List.mem_append, List.mem_filter]
  simp
/-- open behind a move: an end that no coupling of it has, and that was open or is one of those cut -/
theorem open_after {n : Int} {L C J M : List (Int × Int)} (hL : Lay n L) (hC : ∀ p ∈ C, p ∈ L) (pm : M.Perm (L.filter (fun p => decide (p ∈ C) != true) ++ J)) {e : Int} (b : -n ≤ e ∧ e ≤ n ∧ e ≠ 0) (hJ : e ∉ flat J) (h : e ∉ flat L ∨ e ∈ flat C) : e ∈ opensL n M := by
  refine mem_opens.mpr ⟨b, fun z => ?_⟩
  obtain ⟨p, hp, ep⟩ := mem_flat.mp z
  rcases (perm_mem pm p).mp hp with ⟨pL, pC⟩ | pJ
  · rcases h with h | h
    · exact h (mem_flat.mpr ⟨p, pL, ep⟩)
    · obtain ⟨q, hq, eq⟩ := mem_flat.mp h
      exact pC (lay_share hL pL (hC q hq) ep eq ▸ hq)
  · exact hJ (mem_flat.mpr ⟨p, pJ, ep⟩)
theorem prI_self {p : Int × Int} (h : p.1 < p.2) : prI p.1 p.2 = p := Prod.ext (by show min p.1 p.2 = p.1; omega) (by show max p.1 p.2 = p.2; omega)
theorem mv_opp {n : Int} {L C J M : List (Int × Int)} (hL : Lay n L) (h : mvD n L (mD C J) = true) (hM : Lay n M) (pm : M.Perm (L.filter (fun p => decide (p ∈ C) != true) ++ J)) : mvD n M (mD J C) = true := by
  have hC := (mv_flat hL h).1
  have hm := movesM_all hL h
  unfold movesM at hm
  rcases List.mem_append.mp hm with hm | hm
  · obtain ⟨x, y, hx, hy, lt, e⟩ := joinsM_lt (opens_asc n L) hm
    cases e
    exact mv_cut hM ((perm_mem pm _).mpr (.inr (by simp)))
  · obtain ⟨p, hp, k⟩ := goM_kinds hL.asc hm
    have cp := hL.cp p hp
    rcases k with e | ⟨q, hq, e⟩ | ⟨q, hq, lt, k⟩
    · cases e
      have o1 := open_after hL hC pm (e := p.1) (by omega) (by simp [flat]) (.inr (by simp [flat]))
      have o2 := open_after hL hC pm (e := p.2) (by omega) (by simp [flat]) (.inr (by simp [flat]))
      have := mv_join hM o1 o2 (by omega)
      rwa [prI_self cp.2.1] at this
    · cases e
      have qM : q ∈ M := (perm_mem pm _).mpr (.inr (by simp))
      have fq : flat [q] = [q.1, q.2] := by simp [flat]
      unfold newP at hq
      rcases List.mem_append.mp hq with hq | hq
      · obtain ⟨o, ho, eo⟩ := List.mem_map.mp hq
        have ho' := (mem_opens.mp ho).2
        have n1 : o ≠ p.1 := fun z => ho' (mem_flat.mpr ⟨p, hp, .inl z⟩)
        have n2 : o ≠ p.2 := fun z => ho' (mem_flat.mpr ⟨p, hp, .inr z⟩)
        have eq2 : (p.1 = q.1 ∧ o = q.2) ∨ (p.1 = q.2 ∧ o = q.1) := by rcases cpl_two p.1 o with z | z <;> rw [z] at eo <;> rw [← eo] <;> simp
        have o2 := open_after hL hC pm (e := p.2) (by omega) (by rw [fq]; simp; omega) (.inr (by simp [flat]))
        have := mv_move hM qM (e := p.1) (f := p.2) (by omega) o2
        rwa [prI_self cp.2.1] at this
      · obtain ⟨o, ho, eo⟩ := List.mem_map.mp hq
        have ho' := (mem_opens.mp ho).2
        have n1 : o ≠ p.1 := fun z => ho' (mem_flat.mpr ⟨p, hp, .inl z⟩)
        have n2 : o ≠ p.2 := fun z => ho' (mem_flat.mpr ⟨p, hp, .inr z⟩)
        have eq2 : (p.2 = q.1 ∧ o = q.2) ∨ (p.2 = q.2 ∧ o = q.1) := by rcases cpl_two p.2 o with z | z <;> rw [z] at eo <;> rw [← eo] <;> simp
        have o1 := open_after hL hC pm (e := p.1) (by omega) (by rw [fq]; simp; omega) (.inr (by simp [flat]))
        have := mv_move hM qM (e := p.2) (f := p.1) (by omega) o1
        rw [prI_comm, prI_self cp.2.1] at this
        exact this
    · have cq := hL.cp q hq
      have ne : p ≠ q := fun z => by subst z; omega
      have d1 : p.1 ≠ q.1 := fun z => ne (lay_share hL hp hq (.inl rfl) (.inl z))
      have lt' : p.1 < q.1 := by omega
      have aC : Asc [p, q] := by
        refine List.pairwise_cons.mpr ⟨fun x hx => ?_, List.pairwise_singleton _ _⟩
        rw [List.mem_singleton.mp hx]; exact .inl lt'
      have asc : ∀ {b : Int} {o : Int × Int}, p.1 < o.1 → Asc [(p.1, b), o] := fun {b o} h => by
        refine List.pairwise_cons.mpr ⟨fun x hx => ?_, List.pairwise_singleton _ _⟩
        rw [List.mem_singleton.mp hx]; exact .inl h
      rcases k with e | e
      · cases e
        have m1 : (p.1, q.1) ∈ M := (perm_mem pm _).mpr (.inr (by simp))
        have m2 : cpl p.2 q.2 ∈ M := (perm_mem pm _).mpr (.inr (by simp))
        have two := cpl_two p.2 q.2
        have l2 : p.1 < (cpl p.2 q.2).1 := by rcases two with z | z <;> (rw [z]; simp only; omega)
        refine mv_swap hM m1 m2 (fun z => by have := congrArg Prod.fst z; simp only at this; omega) (x := p.2) (y := q.2) (by rcases two with z | z <;> (rw [z]; simp)) (List.Perm.refl _) ?_ (asc l2) aC
        rw [prI_self cp.2.1, prI_self cq.2.1]
      · cases e
        have m1 : (p.1, q.2) ∈ M := (perm_mem pm _).mpr (.inr (by simp))
        have m2 : cpl p.2 q.1 ∈ M := (perm_mem pm _).mpr (.inr (by simp))
        have two := cpl_two p.2 q.1
        have l2 : p.1 < (cpl p.2 q.1).1 := by rcases two with z | z <;> (rw [z]; simp only; omega)
        refine mv_swap hM m1 m2 (fun z => by have := congrArg Prod.fst z; simp only at this; omega) (x := p.2) (y := q.1) (by rcases two with z | z <;> (rw [z]; simp)) (List.Perm.refl _) ?_ (asc l2) aC
        show [p, q].Perm [prI p.1 p.2, prI q.2 q.1]
        rw [prI_self cp.2.1, prI_comm q.2 q.1, prI_self cq.2.1]
theorem mv_back {n : Int} {L C J M : List (Int × Int)} (hL : Lay n L) (h : mvD n L (mD C J) = true) (hM : Lay n M) (pm : M.Perm (L.filter (fun p => decide (p ∈ C) != true) ++ J)) : (M.filter (fun p => decide (p ∈ J) != true) ++ C).Perm L := by
  have hC := (mv_flat hL h).1
  have nd := nd_of_flat (mv_nd hL h)
  have ndC := (mv_left hL h).2
  have dis : ∀ p, p ∈ L → p ∉ C → p ∉ J := fun p pL pC pJ => (List.nodup_append.mp nd).2.2 p (List.mem_filter.mpr ⟨pL, by simpa using pC⟩) p pJ rfl
  have disC : ∀ p ∈ C, p ∉ M.filter (fun p => decide (p ∈ J) != true) := fun p pC z => by
    have z := List.mem_filter.mp z
    rcases (perm_mem pm p).mp z.1 with k | k
    · exact k.2 pC
    · simp [k] at z
  refine (List.perm_ext_iff_of_nodup ?_ (nd_of_flat hL.nd)).mpr fun p => ?_
  · rw [List.nodup_append]
    exact ⟨(nd_of_flat hM.nd).filter _, ndC, fun a ha b hb e => disC b hb (e ▸ ha)⟩
  · rw [List.mem_append, List.mem_filter]
    constructor
    · rintro (⟨k1, k2⟩ | k)
      · rcases (perm_mem pm p).mp k1 with y | y
        · exact y.1
        · simp [y] at k2
      · exact hC p k
    · intro k
      by_cases c : p ∈ C
      · exact .inr c
      · exact .inl ⟨(perm_mem pm p).mpr (.inl ⟨k, c⟩), by simpa using dis p k c⟩
end Vf

namespace Vf
open PySem PySem.Spec PyProof.Rows L2

/-! ### lists of moves, made in any sequence, sorted -/
theorem nw_eq {H Hn : Hp} {c : Addr} {o : HO} (nc : H c = none) (e : upd H c o = Hn) : Same H Hn ∧ Hn c = some o := e ▸ ⟨same_new nc, upd_same⟩
theorem leM_trans {a b c : Mv} (h1 : leM a b = true) (h2 : leM b c = true) : leM a c = true := by
  unfold leM at *
  have h1 := of_decide_eq_true h1
  have h2 := of_decide_eq_true h2
  apply decide_eq_true
  rcases h1 with h1 | ⟨h1, g1⟩
  · rcases h2 with h2 | ⟨h2, g2⟩
    · exact .inl (List.lt_trans h1 h2)
    · exact .inl (h2 ▸ h1)
  · rcases h2 with h2 | ⟨h2, g2⟩
    · exact .inl (h1 ▸ h2)
    · exact .inr ⟨h1.trans h2, List.le_trans g1 g2⟩
theorem leM_total (a b : Mv) : (leM a b || leM b a) = true := by
  rw [Bool.or_eq_true]
  unfold leM
  rcases List.le_total (flat a.1) (flat b.1) with h | h
  · by_cases e : flat a.1 = flat b.1
    · rcases List.le_total (flat a.2) (flat b.2) with g | g
      · exact .inl (decide_eq_true (.inr ⟨e, g⟩))
      · exact .inr (decide_eq_true (.inr ⟨e.symm, g⟩))
    · exact .inl (decide_eq_true (.inl ((List.le_iff_lt_or_eq.mp h).resolve_right e)))
  · by_cases e : flat a.1 = flat b.1
    · rcases List.le_total (flat a.2) (flat b.2) with g | g
      · exact .inl (decide_eq_true (.inr ⟨e, g⟩))
      · exact .inr (decide_eq_true (.inr ⟨e.symm, g⟩))
    · exact .inr (decide_eq_true (.inl ((List.le_iff_lt_or_eq.mp h).resolve_right (fun z => e z.symm))))
theorem leM_anti {a b : Mv} (h1 : leM a b = true) (h2 : leM b a = true) : a = b := by
  unfold leM at *
  have h1 := of_decide_eq_true h1
  have h2 := of_decide_eq_true h2
  have : flat a.1 = flat b.1 ∧ flat a.2 = flat b.2 := by
    rcases h1 with h1 | ⟨h1, g1⟩
    · rcases h2 with h2 | ⟨h2, g2⟩
      · exact absurd h2 (List.lt_asymm h1)
      · rw [h2] at h1; exact absurd h1 (List.lt_irrefl _)
    · rcases h2 with h2 | ⟨h2, g2⟩
      · rw [h1] at h2; exact absurd h2 (List.lt_irrefl _)
      · exact ⟨h1, List.le_antisymm g1 g2⟩
  exact Prod.ext (flat_inj this.1) (flat_inj this.2)
theorem srtM_eq {bs ms : List Mv} (pm : bs.Perm ms) (hs : ms.Pairwise ltM) : bs.mergeSort (PySem.W.dataLe false encM) = ms := by
  rw [le_encM]
  have s1 := List.pairwise_mergeSort (le := leM) (fun a b c => leM_trans) leM_total bs
  exact List.Perm.eq_of_pairwise (le := fun p q => leM p q = true) (fun a b _ _ h1 h2 => leM_anti h1 h2) s1 (hs.imp fun z => z.le) ((List.mergeSort_perm bs leM).trans pm)
theorem ltM_nd {ms : List Mv} (hs : ms.Pairwise ltM) : ms.Nodup := hs.imp fun z => z.ne
/-! all lists of up to two couplings -/
def pairsM : List Int → List (Int × Int)
  | [] => []
  | x :: r => r.map (fun y => (x, y)) ++ pairsM r
theorem pairsM_len : ∀ es : List Int, (pairsM es).length ≤ es.length * es.length
  | [] => Nat.le_refl _
  | x :: r => by
    have := pairsM_len r
    simp only [pairsM, List.length_append, List.length_map, List.length_cons]
    rw [Nat.mul_add, Nat.add_mul]
    omega
theorem pairsM_mem {p : Int × Int} : ∀ {es : List Int}, es.Pairwise (· < ·) → (p ∈ pairsM es ↔ p.1 ∈ es ∧ p.2 ∈ es ∧ p.1 < p.2)
  | [], _ => by simp [pairsM]
  | x :: r, h => by
    have ⟨h1, h2⟩ := List.pairwise_cons.mp h
    have ih := pairsM_mem (p := p) h2
    obtain ⟨a, b⟩ := p
    simp only [pairsM, List.mem_append, List.mem_map, List.mem_cons, Prod.mk.injEq]
    rw [ih]
    constructor
    · rintro (⟨y, hy, rfl, rfl⟩ | ⟨u, v, w⟩)
      · exact ⟨.inl rfl, .inr hy, h1 _ hy⟩
      · exact ⟨.inr u, .inr v, w⟩
    · rintro ⟨u, v, w⟩
      rcases u with rfl | u
      · rcases v with rfl | v
        · exact absurd w (Int.lt_irrefl _)
        · exact .inl ⟨_, v, rfl, rfl⟩
      · rcases v with rfl | v
        · exact absurd (h1 _ u) (by show ¬ b < a; have : a < b := w; omega)
        · exact .inr ⟨u, v, w⟩
theorem pairsM_asc : ∀ {es : List Int}, es.Pairwise (· < ·) → Asc (pairsM es)
  | [], _ => .nil
  | x :: r, h => by
    have ⟨h1, h2⟩ := List.pairwise_cons.mp h
    refine List.pairwise_append.mpr ⟨List.pairwise_map.mpr (h2.imp fun z => .inr ⟨rfl, z⟩), pairsM_asc h2, ?_⟩
    intro p hp q hq
    obtain ⟨y, hy, rfl⟩ := List.mem_map.mp hp
    exact .inl (h1 _ ((pairsM_mem h2).mp hq).1)
theorem twosM_mem {C : List (Int × Int)} : ∀ {X : List (Int × Int)}, C ∈ twosM X → ∃ p q, C = [p, q]
  | [], h => nomatch h
  | x :: r, h => by
    rcases List.mem_append.mp h with h | h
    · obtain ⟨q, _, rfl⟩ := List.mem_map.mp h; exact ⟨_, _, rfl⟩
    · exact twosM_mem h
theorem twosM_head {C : List (Int × Int)} {p q : Int × Int} : ∀ {X : List (Int × Int)}, [p, q] ∈ twosM X → p ∈ X ∧ q ∈ X
  | [], h => nomatch h
  | x :: r, h => by
    rcases List.mem_append.mp h with h | h
    · obtain ⟨y, hy, e⟩ := List.mem_map.mp h
      cases e
      exact ⟨List.mem_cons_self, List.mem_cons_of_mem _ hy⟩
    · have := twosM_head (C := C) h
      exact ⟨List.mem_cons_of_mem _ this.1, List.mem_cons_of_mem _ this.2⟩
theorem twosM_in {p q : Int × Int} : ∀ {X : List (Int × Int)}, Asc X → p ∈ X → q ∈ X → (p.1 < q.1 ∨ (p.1 = q.1 ∧ p.2 < q.2)) → [p, q] ∈ twosM X
  | [], _, h, _, _ => nomatch h
  | x :: r, a, hp, hq, lt => by
    have ⟨a1, a2⟩ := List.pairwise_cons.mp a
    rcases List.mem_cons.mp hp with rfl | hp'
    · rcases List.mem_cons.mp hq with rfl | hq'
      · omega
      · exact List.mem_append_left _ (List.mem_map.mpr ⟨_, hq', rfl⟩)
    · rcases List.mem_cons.mp hq with rfl | hq'
      · have := a1 _ hp'; omega
      · exact List.mem_append_right _ (twosM_in a2 hp' hq' lt)
theorem asc_nd {X : List (Int × Int)} (h : Asc X) : X.Nodup := h.imp fun {a b} z e => by subst e; omega
theorem twosM_nd : ∀ {X : List (Int × Int)}, X.Nodup → (twosM X).Nodup
  | [], _ => .nil
  | x :: r, h => by
    have ⟨h1, h2⟩ := List.nodup_cons.mp h
    refine List.nodup_append.mpr ⟨?_, twosM_nd h2, ?_⟩
    · exact List.Pairwise.map _ (fun a b (ne : a ≠ b) e => ne (by injection e with _ e; injection e)) h2
    · intro A hA B hB e
      obtain ⟨q, _, rfl⟩ := List.mem_map.mp hA
      subst e
      exact h1 (twosM_head (C := []) hB).1
theorem listsM_nd {X : List (Int × Int)} (h : X.Nodup) : (listsM X).Nodup := by
  unfold listsM
  rw [List.append_assoc]
  refine List.nodup_append.mpr ⟨by simp, List.nodup_append.mpr ⟨List.Pairwise.map _ (fun a b (ne : a ≠ b) e => ne (by injection e)) h, twosM_nd h, ?_⟩, ?_⟩
  · intro A hA B hB e
    obtain ⟨q, _, rfl⟩ := List.mem_map.mp hA
    subst e
    obtain ⟨p, r, e⟩ := twosM_mem hB
    cases e
  · intro A hA B hB e
    have : A = [] := by simpa using hA
    subst this
    subst e
    rcases List.mem_append.mp hB with hB | hB
    · obtain ⟨q, _, e⟩ := List.mem_map.mp hB; cases e
    · obtain ⟨p, r, e⟩ := twosM_mem hB; cases e
theorem listsM_in {X C : List (Int × Int)} (hX : Asc X) (hC : ∀ p ∈ C, p ∈ X) (l : C.length ≤ 2) (a : ascP C = true) : C ∈ listsM X := by
  unfold listsM
  match C, l with
  | [], _ => simp
  | [p], _ => exact List.mem_append_left _ (List.mem_append_right _ (List.mem_map.mpr ⟨p, hC p (by simp), rfl⟩))
  | [p, q], _ => exact List.mem_append_right _ (twosM_in hX (hC p (by simp)) (hC q (by simp)) (of_decide_eq_true a))
  | _ :: _ :: _ :: _, z => simp at z
/-- what is found by trying -/
def triedM (n : Int) (L : List (Int × Int)) (Cs Js : List (List (Int × Int))) : List Mv := Cs.flatMap fun C => (Js.filter fun J => mvD n L (mD C J)).map fun J => (C, J)
theorem tried_perm {n : Int} {L : List (Int × Int)} (hL : Lay n L) : (triedM n L (listsM L) (listsM (pairsM (endsL n)))).Perm (movesM n L) := by
  have e1 := endsL_asc n
  have aX := pairsM_asc e1
  have nd1 := listsM_nd (asc_nd hL.asc)
  have nd2 := listsM_nd (asc_nd aX)
  refine (List.perm_ext_iff_of_nodup ?_ (ltM_nd (movesM_srt hL))).mpr fun m => ?_
  · unfold triedM
    refine List.nodup_iff_pairwise_ne.mpr (List.pairwise_flatMap.mpr ⟨fun C hC => ?_, ?_⟩)
    · exact List.Pairwise.map _ (fun a b (ne : a ≠ b) e => ne (by injection e)) (nd2.filter _)
    · refine nd1.imp fun {C D} ne a ha b hb e => ne ?_
      obtain ⟨J, _, rfl⟩ := List.mem_map.mp ha
      obtain ⟨J', _, rfl⟩ := List.mem_map.mp hb
      injection e
  · constructor
    · intro h
      obtain ⟨C, hC, h⟩ := List.mem_flatMap.mp h
      obtain ⟨J, hJ, rfl⟩ := List.mem_map.mp h
      exact movesM_all hL (List.mem_filter.mp hJ).2
    · intro h
      have hm := movesM_are hL h
      obtain ⟨C, J⟩ := m
      have fl := mv_flat hL hm
      have hf : formD n (mD C J) = true := by
        have := hm
        unfold mvD at this
        exact (Bool.and_eq_true _ _ ▸ this).1
      obtain ⟨C', J', e, _, _, _, _, aC, aJ, _⟩ := formD_ok hf
      injection e with e
      injection e with e1' e
      injection e with e2' _
      have eC : C = C' := dL_inj e1'
      have eJ : J = J' := dL_inj e2'
      subst eC
      subst eJ
      refine List.mem_flatMap.mpr ⟨C, listsM_in hL.asc fl.1 fl.2.2.2.2.1 aC, List.mem_map.mpr ⟨J, List.mem_filter.mpr ⟨listsM_in aX (fun p hp => ?_) fl.2.2.2.2.2 aJ, hm⟩, rfl⟩⟩
      have := fl.2.2.2.1 p hp
      exact (pairsM_mem e1).mpr ⟨mem_endsL.mpr (by omega), mem_endsL.mpr (by omega), by omega⟩
/-! by their forms -/
def goF (E : List Int) : List (Int × Int) → List Mv
  | [] => []
  | p :: r => ([p], []) :: ((newP p E).map (fun q => ([p], [q])) ++ swapsM p r) ++ goF E r
theorem goF_perm (E : List Int) : ∀ L : List (Int × Int), (goF E L).Perm (goM E L)
  | [] => .refl _
  | p :: r => by
    show ((([p], []) : Mv) :: (_ ++ _) ++ _).Perm (_ :: (_ ++ _) ++ _)
    refine List.Perm.append (.cons _ (List.Perm.append ?_ (.refl _))) (goF_perm E r)
    exact List.Perm.map _ (List.mergeSort_perm _ _).symm
theorem goF_len (E : List Int) (L : List (Int × Int)) : (goF E L).length = (goM E L).length := (goF_perm E L).length_eq
def formsM (n : Int) (L : List (Int × Int)) : List Mv := joinsM (opensL n L) ++ goF (opensL n L) L
theorem forms_perm (n : Int) (L : List (Int × Int)) : (formsM n L).Perm (movesM n L) := List.Perm.append (.refl _) (goF_perm _ _)
/-- of up to twelve pieces there are not many -/
theorem movesM_few {n : Int} {L : List (Int × Int)} (hL : Lay n L) (h : n ≤ 12) : (movesM n L).length ≤ 600 := by
  have hc := movesM_cnt hL
  have hl : (L.length : Int) ≤ n := by
    have := opens_cnt hL
    omega
  unfold cntM at hc
  have n1 := hL.n1
  have h0 : L.length ≤ 12 := by omega
  generalize hk : L.length = k at *
  have : n = 1 ∨ n = 2 ∨ n = 3 ∨ n = 4 ∨ n = 5 ∨ n = 6 ∨ n = 7 ∨ n = 8 ∨ n = 9 ∨ n = 10 ∨ n = 11 ∨ n = 12 := by omega
  have hk2 : k = 0 ∨ k = 1 ∨ k = 2 ∨ k = 3 ∨ k = 4 ∨ k = 5 ∨ k = 6 ∨ k = 7 ∨ k = 8 ∨ k = 9 ∨ k = 10 ∨ k = 11 ∨ k = 12 := by omega
  rcases hk2 with rfl | rfl | rfl | rfl | rfl | rfl | rfl | rfl | rfl | rfl | rfl | rfl | rfl <;> (rcases this with rfl | rfl | rfl | rfl | rfl | rfl | rfl | rfl | rfl | rfl | rfl | rfl <;> first | (exfalso; omega) | (simp [Int.fdiv] at hc; omega))
/-- the data of a list of moves -/
def dM (ms : List Mv) : PyData := .list (ms.map encM)
theorem sm_mv {n : Int} {L : List (Int × Int)} (hL : Lay n L) {m : Mv} (h : mvD n L (mD m.1 m.2) = true) : Sm 153 4 (encM m) := by
  have fl := mv_flat hL h
  have h60 := hL.n60
  have smC : ∀ {Y : List (Int × Int)}, (∀ p ∈ Y, -n ≤ p.1 ∧ p.2 ≤ n ∧ p.1 < p.2) → Y.length ≤ 2 → Sm 73 3 (dL Y) := fun {Y} h hl => (sm_lay (N := 2) (fun p hp => by have := h p hp; omega) hl).mono (by omega) (by omega)
  refine (Sm.tup (N := 73) (k := 3) (ds := [dL m.1, dL m.2]) fun d hd => ?_).mono (by simp) (by omega)
  rcases List.mem_cons.mp hd with rfl | hd
  · exact smC (fun p hp => by have := hL.cp p (fl.1 p hp); omega) fl.2.2.2.2.1
  · rw [List.mem_singleton.mp hd]; exact smC (fun p hp => by have := fl.2.2.2.1 p hp; omega) fl.2.2.2.2.2
theorem sm_mvs {n : Int} {L : List (Int × Int)} (hL : Lay n L) {ms : List Mv} (h : ∀ m ∈ ms, mvD n L (mD m.1 m.2) = true) (hl : ms.length ≤ 600) : Sm 93003 5 (dM ms) := by
  refine (Sm.lst (N := 153) (k := 4) fun d hd => ?_).mono ?_ (by omega)
  · obtain ⟨m, hm, rfl⟩ := List.mem_map.mp hd
    exact sm_mv hL (h m hm)
  · rw [List.length_map]; omega
abbrev MvL (H : Hp) : List V → List Mv → Prop := Paired (fun v m => MvAt H v m.1 m.2)
theorem MvL.mono {H H' : Hp} {xs : List V} {ms : List Mv} (s : Same H H') (h : MvL H xs ms) : MvL H' xs ms := pair_mono h fun _ _ z => z.mono s
theorem MvAt.dp {K : PySem.W.Frag} {H : Hp} {v : V} {m : Mv} (h : MvAt H v m.1 m.2) : Dp K H v (encM m) := by
  obtain ⟨p, a1, a2, x1, x2, e, h1, h2, h3, h4, h5⟩ := h
  exact e ▸ .tup (sqt h1) (.cons (dp_lay (sql h2) h3) (.cons (dp_lay (sql h4) h5) .nil))
theorem dp_mvs {K : PySem.W.Frag} {H : Hp} {a : Addr} {xs : List V} {ms : List Mv} (h : SqL K H a xs) (p : MvL H xs ms) : Dp K H (.ref a) (dM ms) := by
  refine .lst h (dpa_of ?_)
  clear h
  induction p with
  | nil => exact .nil
  | cons h _ ih => exact .cons h.dp ih
theorem MvBs.at' {H : Hp} {xs : List V} {bs : List (Mv × Addr × Addr)} (h : MvBs H xs bs) : MvL H xs (bs.map (·.1)) := by
  induction h with
  | nil => exact .nil
  | cons h _ ih => exact .cons h.at' ih
theorem NewM.at'' {H H' : Hp} {p : Addr} {xs : List V} {ms : List Mv} (h : NewM H H' p xs ms) : MvL H' xs ms := by
  obtain ⟨bs, hb, e, _⟩ := h.more
  exact e ▸ hb.at'
theorem alike_mv (x y : Mv) : PySem.W.alike (encM x) (encM y) = true := by
  show PySem.W.alike (.tuple [dL x.1, dL x.2]) (.tuple [dL y.1, dL y.2]) = true
  simp only [PySem.W.alike, PySem.W.alikeAll, alike_dL, Bool.and_self]
/-- sorted lists of moves -/
theorem r_sortM {K : PySem.W.Frag} {H : Hp} {Q : VK} {a : Addr} {xs : List V} {bs ms : List Mv} {n : Int} {L : List (Int × Int)} (hs : SqL K H a xs) (h : MvL H xs bs) (pm : bs.Perm ms) (asc : ms.Pairwise ltM) (hl : bs.length ≤ 100000)
    (q : ∀ ys p, MvL H ys ms → H p = none → Q (.ref p) (upd H p (.lst ys))) : rSortD K [.ref a] H Q := by
  have dep : ∀ X : List (Int × Int), (dL X).depth ≤ 3 := fun X => by
    have := (canLay_pairs X).2
    unfold dL
    simp only [PyData.depth]
    omega
  refine ⟨a, xs, Mv, bs, encM, fun v m => MvAt H v m.1 m.2, rfl, hs, h, fun v m z => z.dp, PySem.W.AllAlike.of alike_mv, PySem.W.Sortable.tuples fun b => ⟨_, _, rfl⟩, fun m _ => ?_, szl hl, fun ys p hy np => q ys p (by rw [srtM_eq pm asc] at hy; exact hy) np⟩
  · show (PyData.tuple [dL m.1, dL m.2]).depth ≤ 20
    have h1 := dep m.1
    have h2 := dep m.2
    simp only [PyData.depth, PyData.depthAll]
    omega
/-- lists whose places were free -/
def NwL (H : Hp) (xs : List V) : Prop := ∀ y ∈ xs, ∃ c, y = V.ref c ∧ H c = none
theorem nwl_nil {H : Hp} : NwL H [] := fun _ h => nomatch h
theorem nwl_one {H : Hp} {c : Addr} (h : H c = none) : NwL H [.ref c] := fun y hy => ⟨c, List.mem_singleton.mp hy, h⟩
theorem nwl_app {H : Hp} {xs ys : List V} (h : NwL H xs) (g : NwL H ys) : NwL H (xs ++ ys) := fun y hy => (List.mem_append.mp hy).elim (h y) (g y)
/-- lists that stand elsewhere than at a hidden place -/
theorem lps_nwl {H0 H : Hp} {D : Addr} {o : HO} {us : List V} (hD : H0 D = some o) (hu : H D = some (.lst us)) : ∀ {xs : List V} {Cs : List (List (Int × Int))}, LPs H xs Cs → NwL H0 xs → LPs (Hid [D] H) xs Cs
  | _, _, .nil, _ => .nil
  | _, _, .cons h t, n => by
    obtain ⟨c, rfl, hc⟩ := n _ List.mem_cons_self
    exact .cons (lp_hid hu rfl (fun z => by subst z; rw [hD] at hc; cases hc) h) (lps_nwl hD hu t fun y hy => n y (List.mem_cons_of_mem _ hy))
theorem tried_app {n : Int} {L : List (Int × Int)} (A B Js : List (List (Int × Int))) : triedM n L (A ++ B) Js = triedM n L A Js ++ triedM n L B Js := by
  unfold triedM; rw [List.flatMap_append]
theorem tried_one {n : Int} {L C : List (Int × Int)} (Js : List (List (Int × Int))) : triedM n L [C] Js = (Js.filter fun J => mvD n L (mD C J)).map fun J => (C, J) := by
  simp [triedM]
theorem tried_len {n : Int} {L : List (Int × Int)} (Js : List (List (Int × Int))) : ∀ Cs : List (List (Int × Int)), (triedM n L Cs Js).length ≤ Cs.length * Js.length
  | [] => Nat.zero_le _
  | C :: r => by
    have e : triedM n L (C :: r) Js = triedM n L [C] Js ++ triedM n L r Js := tried_app [C] r Js
    have h1 := tried_len (n := n) (L := L) Js r
    have h2 := List.length_filter_le (fun J => mvD n L (mD C J)) Js
    rw [e, List.length_append, tried_one, List.length_map, List.length_cons, Nat.add_mul]
    omega
/-- the draws' list is none of a move -/
theorem tap_no {H : Hp} {t a : Addr} {xs : List V} {C : List (Int × Int)} (ht : Tap H t) (ha : H a = some (.lst xs)) (hP : Prs H xs C) : a ≠ t := by
  rintro rfl
  obtain ⟨x, y, z, e, _⟩ := ht
  rw [e] at ha
  cases ha
  cases hP with
  | cons h _ => obtain ⟨q, z, _⟩ := h; cases z
theorem prs_hid {H : Hp} {t : Addr} {us : List V} (ht : H t = some (.lst us)) {xs : List V} {C : List (Int × Int)} (h : Prs H xs C) : Prs (Hid [t] H) xs C :=
  pair_mono h fun v p ⟨q, e, hq⟩ => ⟨q, e, hid_get hq fun z => by rw [List.mem_singleton.mp z, ht] at hq; cases hq⟩
theorem mv_tap {H : Hp} {t : Addr} {v : V} {C J : List (Int × Int)} (ht : Tap H t) (h : MvAt H v C J) : MvAt (Hid [t] H) v C J := by
  obtain ⟨p, a1, a2, x1, x2, e, h1, h2, h3, h4, h5⟩ := h
  obtain ⟨us, hu⟩ := ht.lst
  exact ⟨p, a1, a2, x1, x2, e, hid_get h1 (fun z => by rw [List.mem_singleton.mp z, hu] at h1; cases h1), hid_get h2 (fun z => tap_no ht h2 h3 (List.mem_singleton.mp z)), prs_hid hu h3, hid_get h4 (fun z => tap_no ht h4 h5 (List.mem_singleton.mp z)), prs_hid hu h5⟩
/-- there is a move -/
theorem movesM_some {n : Int} {L : List (Int × Int)} (hL : Lay n L) : 0 < (movesM n L).length := by
  match L, hL with
  | [], h =>
    have := opens_empty h.n1
    unfold movesM
    match hE : opensL n [], this with
    | _ :: _ :: _, _ => simp [joinsM]
    | [_], z => simp at z
    | [], z => simp at z
  | p :: r, h => simp only [movesM, goM, List.length_append, List.length_cons]; omega
theorem grow_new {H0 H' : Hp} {D : Addr} (h : H' D = some (.lst [])) : Grow H0 H' D [] := ⟨[], [], h, .nil, rfl, List.Pairwise.nil, fun _ h => (nomatch h), fun h => (nomatch h)⟩
theorem NewM.less {H H1 H' : Hp} {p : Addr} {xs : List V} {ms : List Mv} (s : Same H H1) (h : NewM H1 H' p xs ms) : NewM H H' p xs ms := by
  obtain ⟨k1, k2, bs, k3, k4, k5, k6, k7⟩ := h
  exact ⟨s.free k1, k2, bs, k3, k4, k5, fun a ha => s.free (k6 a ha), k7⟩
def swA (p o : Int × Int) (i : Int) : Mv := ([p, o], if i = 0 then [(p.1, o.1), cpl p.2 o.2] else [(p.1, o.2), cpl p.2 o.1])
theorem swA_two (p o : Int × Int) (O : List (Int × Int)) : swapsM p (O ++ [o]) = swapsM p O ++ [0, 1].map (swA p o) := by
  rw [swapsM_app]; rfl
theorem sw_asc {p : Int × Int} {x y : Int} {M : List (Int × Int)} (h1 : p.1 < p.2) (h2 : p.1 < x) (h3 : p.1 < y) (pm : M.Perm [prI p.1 x, prI p.2 y]) (a : Asc M) : M = [(p.1, x), cpl p.2 y] := by
  have e1 : prI p.1 x = (p.1, x) := by unfold prI; rw [Int.min_eq_left (by omega), Int.max_eq_right (by omega)]
  rw [e1, ← cpl_prI] at pm
  refine asc_uniq a ?_ pm
  refine List.pairwise_cons.mpr ⟨fun q hq => ?_, List.pairwise_singleton _ _⟩
  rw [List.mem_singleton.mp hq]
  rcases cpl_two p.2 y with e | e <;> rw [e] <;> simp <;> omega
/-- a move's lists, a number of items longer than its own -/
def LsW (H : Hp) (b : Mv × Addr × Addr) (k : Nat) : Prop := ∃ w1 w2, H b.2.1 = some (.lst w1) ∧ w1.length = b.1.1.length + k ∧ H b.2.2 = some (.lst w2) ∧ w2.length = b.1.2.length + k
theorem LsW.mono {H H' : Hp} {b : Mv × Addr × Addr} {k : Nat} (s : Same H H') (h : LsW H b k) : LsW H' b k := by
  obtain ⟨w1, w2, h2, l1, h3, l2⟩ := h
  exact ⟨w1, w2, s _ _ h2, l1, s _ _ h3, l2⟩
theorem MvB.w {H : Hp} {v : V} {b : Mv × Addr × Addr} (h : MvB H v b) : LsW H b 0 := by
  obtain ⟨p, x1, x2, e, h1, h2, h3, h4, h5⟩ := h
  exact ⟨x1, x2, h2, pair_len h3, h4, pair_len h5⟩
theorem LsW.upd {H : Hp} {b : Mv × Addr × Addr} {k : Nat} {D : Addr} {o : HO} (n1 : D ≠ b.2.1) (n2 : D ≠ b.2.2) (h : LsW H b k) : LsW (L2.upd H D o) b k := by
  obtain ⟨w1, w2, h2, l1, h3, l2⟩ := h
  exact ⟨w1, w2, by rw [upd_ne n1.symm]; exact h2, l1, by rw [upd_ne n2.symm]; exact h3, l2⟩
/-- a tuple is none of the lists of moves -/
theorem lists_tup {H : Hp} {xs : List V} {bs : List (Mv × Addr × Addr)} (h : MvBs H xs bs) {p : Addr} {us : List V} (hp : H p = some (.tup us)) : p ∉ lists bs := by
  induction h with
  | nil => exact fun z => nomatch z
  | cons h _ ih =>
    obtain ⟨q, x1, x2, e, h1, h2, h3, h4, h5⟩ := h
    intro z
    rcases List.mem_append.mp z with z | z
    · simp at z
      rcases z with rfl | rfl
      · rw [h2] at hp; cases hp
      · rw [h4] at hp; cases hp
    · exact ih z
theorem lists_mem {bs : List (Mv × Addr × Addr)} {b : Mv × Addr × Addr} (h : b ∈ bs) : b.2.1 ∈ lists bs ∧ b.2.2 ∈ lists bs := ⟨List.mem_flatMap.mpr ⟨b, h, by simp⟩, List.mem_flatMap.mpr ⟨b, h, by simp⟩⟩
/-- lists of two moves are apart -/
theorem lists_apart {bs ds : List (Mv × Addr × Addr)} {b c : Mv × Addr × Addr} (nd : (lists (ds ++ b :: bs)).Nodup) (h : c ∈ ds ∨ c ∈ bs) : b.2.1 ≠ c.2.1 ∧ b.2.1 ≠ c.2.2 ∧ b.2.2 ≠ c.2.1 ∧ b.2.2 ≠ c.2.2 := by
  have e : lists (ds ++ b :: bs) = lists ds ++ ([b.2.1, b.2.2] ++ lists bs) := by rw [lists_app]; rfl
  rw [e] at nd
  obtain ⟨_, n2, n3⟩ := List.nodup_append.mp nd
  obtain ⟨_, _, n5⟩ := List.nodup_append.mp n2
  rcases h with h | h
  · have := lists_mem h
    exact ⟨(n3 _ this.1 _ (by simp)).symm, (n3 _ this.2 _ (by simp)).symm, (n3 _ this.1 _ (by simp)).symm, (n3 _ this.2 _ (by simp)).symm⟩
  · have := lists_mem h
    exact ⟨n5 _ (by simp) _ this.1, n5 _ (by simp) _ this.2, n5 _ (by simp) _ this.1, n5 _ (by simp) _ this.2⟩
theorem lists_two {bs ds : List (Mv × Addr × Addr)} {b : Mv × Addr × Addr} (nd : (lists (ds ++ b :: bs)).Nodup) : b.2.1 ≠ b.2.2 := by
  have e : lists (ds ++ b :: bs) = lists ds ++ ([b.2.1, b.2.2] ++ lists bs) := by rw [lists_app]; rfl
  rw [e] at nd
  have n2 := (List.nodup_append.mp (List.nodup_append.mp nd).2.1).1
  simpa using n2
/-- what each of a list's items has, by places -/
theorem pair_each {α β : Type} {F : α → β → Prop} : ∀ {xs : List α} {L : List β}, xs.length = L.length → (∀ (i : Nat) (x : α) (p : β), xs[i]? = some x → L[i]? = some p → F x p) → Paired F xs L
  | [], [], _, _ => .nil
  | [], _ :: _, h, _ => by simp at h
  | _ :: _, [], h, _ => by simp at h
  | x :: xs, p :: L, h, g => .cons (g 0 x p rfl rfl) (pair_each (by simpa using h) fun i y q h1 h2 => g (i + 1) y q (by simpa using h1) (by simpa using h2))
end Vf

namespace Vf
open PySem PySem.Spec PyProof.Rows L2

/-! ### the other outer end of a row, found by walking -/
def FarN (n : Int) (f : Int → Int) : Nat → Int → Int → Prop
  | 0, x, y => x = y ∧ f x = 0 ∧ -n ≤ x ∧ x ≤ n
  | k + 1, x, y => f x ≠ 0 ∧ (-n ≤ x ∧ x ≤ n) ∧ FarN n f k (-(f x)) y
def farI (f : Int → Int) : Nat → Int → Int
  | 0, x => x
  | k + 1, x => if f x = 0 then x else farI f k (-(f x))
/-- the outer end at which the row ends that begins with an open end -/
def farE (f : Int → Int) (e : Int) : Int := farI f 100 (-e)
theorem farI_of {n : Int} {f : Int → Int} : ∀ {k m : Nat} {x y : Int}, FarN n f k x y → k ≤ m → farI f m x = y
  | 0, 0, x, y, h, _ => h.1
  | 0, m + 1, x, y, h, _ => by unfold farI; rw [if_pos h.2.1]; exact h.1
  | k + 1, 0, x, y, h, l => absurd l (by omega)
  | k + 1, m + 1, x, y, h, l => by unfold farI; rw [if_neg h.1]; exact farI_of h.2.2 (by omega)
theorem far_row {n : Int} {f : Int → Int} : ∀ {t : List Int} {x : Int}, f x = nxR 0 t → -n ≤ x → x ≤ n → (∀ d y r, t = d ++ y :: r → f y = nxR 0 r ∧ y ≠ 0 ∧ -n ≤ y ∧ y ≤ n) → FarN n f t.length x ((x :: t).getLast (by simp))
  | [], x, h, h1, h2, _ => ⟨rfl, h, h1, h2⟩
  | y :: t, x, h, h1, h2, g => by
    obtain ⟨g1, g2, g3, g4⟩ := g [] y t rfl
    have e : f x = -y := h
    refine ⟨by omega, ⟨h1, h2⟩, ?_⟩
    rw [e, Int.neg_neg]
    rw [List.getLast_cons (by simp)]
    exact far_row g1 g3 g4 fun d z r er => g (y :: d) z r (by rw [er]; rfl)
/-- a row, told from an end of it on, in any system of rows and rings -/
theorem Sys.far {n : Int} {L : List (Int × Int)} {R G : List (List Int)} (h : Sys n L R G) (hL : Lay n L) {e : Int} {v : List Int} (hr : (-e :: v) ∈ R) : FarN n (ptb L) v.length (-e) ((-e :: v).getLast (by simp)) ∧ farE (ptb L) e = (-e :: v).getLast (by simp) := by
  obtain ⟨h1, h2⟩ := h.walkR hL (pre := []) (p := -e) (post := v) hr
  have rg := h.rangeR hr (x := -e) (by simp)
  have ea : ab (-e) = -e ∨ ab (-e) = e := by unfold ab; omega
  have F : FarN n (ptb L) v.length (-e) ((-e :: v).getLast (by simp)) := far_row h1 (by omega) (by omega) fun d y r er => let ⟨a, b, c, d', _⟩ := h2 d y r er; ⟨a, b, c, d'⟩
  have few := h.few hL.n60 (r := -e :: v) (.inl hr)
  exact ⟨F, farI_of F (by simp at few; omega)⟩
/-- each open end begins a row, in some system -/
theorem sys_from {n : Int} {L : List (Int × Int)} (hL : Lay n L) {e : Int} (he : e ∈ endsL n) (ho : e ∉ flat L) : ∃ R G v, Sys n L ((-e :: v) :: R) G := by
  obtain ⟨R, G, h⟩ := sys_exists hL
  obtain ⟨r, hr, hk⟩ := h.endRow he ho
  obtain ⟨s, t, rfl⟩ := List.append_of_mem hr
  have h2 : Sys n L ([r] ++ (s ++ t)) G := h.perm (by simpa using List.perm_middle.symm) (.refl _)
  rcases hk with ⟨u, rfl⟩ | ⟨v, rfl⟩
  · refine ⟨s ++ t, G, revn u, h2.turn rfl (f := -e :: revn u) ?_ ?_⟩
    · rw [← revn_snoc]; exact revn_ab _
    · rw [← revn_snoc, revn_steps]; exact List.reverse_perm _
  · exact ⟨s ++ t, G, v, h2⟩
theorem far_ok {n : Int} {L : List (Int × Int)} (hL : Lay n L) {e : Int} (he : e ∈ endsL n) (ho : e ∉ flat L) : ∃ k, k ≤ 100 ∧ FarN n (ptb L) k (-e) (farE (ptb L) e) := by
  obtain ⟨R, G, v, h⟩ := sys_from hL he ho
  obtain ⟨h1, h2⟩ := h.far hL (e := e) (v := v) (by simp)
  have few := h.few hL.n60 (r := -e :: v) (.inl (by simp))
  exact ⟨v.length, by simp at few; omega, by rw [h2]; exact h1⟩
/-! ### tables of partners while a move is made -/
theorem ptb_iff {n : Int} {L : List (Int × Int)} (hL : Lay n L) {a b : Int} (a0 : a ≠ 0) (b0 : b ≠ 0) : ptb L a = b ↔ (a, b) ∈ L ∨ (b, a) ∈ L := by
  unfold ptb
  rw [if_neg a0]
  constructor
  · intro h
    cases hp : parI L a with
    | none => rw [hp] at h; exact absurd h.symm b0
    | some x => rw [hp] at h; exact (parI_iff hL).mp (by rw [hp]; exact congrArg some h)
  · intro h
    rw [(parI_iff hL).mpr h]; rfl
theorem ptb_no {L : List (Int × Int)} {a : Int} (a0 : a ≠ 0) : a ∉ flat L → ptb L a = 0 := fun h => by
  unfold ptb
  rw [if_neg a0, parI_none.mpr h]; rfl
theorem ptb_some {n : Int} {L : List (Int × Int)} (hL : Lay n L) {a : Int} (h : a ∈ flat L) : ptb L a ≠ 0 ∧ ((a, ptb L a) ∈ L ∨ (ptb L a, a) ∈ L) := by
  obtain ⟨p, hp, e⟩ := mem_flat.mp h
  have cp := hL.cp p hp
  rcases e with rfl | rfl
  · have := (ptb_iff hL (a := p.1) (b := p.2) (by omega) (by omega)).mpr (.inl hp)
    rw [this]; exact ⟨by omega, .inl hp⟩
  · have := (ptb_iff hL (a := p.2) (b := p.1) (by omega) (by omega)).mpr (.inr hp)
    rw [this]; exact ⟨by omega, .inr hp⟩
/-- the partners when some couplings are taken out -/
theorem ptb_cut {n : Int} {L B C : List (Int × Int)} (hL : Lay n L) (hB : Lay n B) (hC : ∀ p ∈ C, p ∈ L) (eB : ∀ p, p ∈ B ↔ p ∈ L ∧ p ∉ C) (e : Int) : ptb B e = if e ∈ flat C then 0 else ptb L e := by
  by_cases e0 : e = 0
  · subst e0
    have : (0 : Int) ∉ flat C := fun z => by
      obtain ⟨p, hp, k⟩ := mem_flat.mp z
      have := hL.cp p (hC p hp)
      omega
    rw [if_neg this]; rfl
  by_cases hc : e ∈ flat C
  · rw [if_pos hc]
    refine ptb_no e0 fun z => ?_
    obtain ⟨p, hp, k⟩ := mem_flat.mp z
    obtain ⟨q, hq, k2⟩ := mem_flat.mp hc
    have hp' := (eB p).mp hp
    have := lay_share hL hp'.1 (hC q hq) k k2
    subst this
    exact hp'.2 hq
  · rw [if_neg hc]
    by_cases hl : e ∈ flat L
    · obtain ⟨h1, h2⟩ := ptb_some hL hl
      refine (ptb_iff hB e0 h1).mpr ?_
      rcases h2 with h2 | h2
      · exact .inl ((eB _).mpr ⟨h2, fun z => hc (mem_flat.mpr ⟨_, z, .inl rfl⟩)⟩)
      · exact .inr ((eB _).mpr ⟨h2, fun z => hc (mem_flat.mpr ⟨_, z, .inr rfl⟩)⟩)
    · rw [ptb_no e0 hl]
      refine ptb_no e0 fun z => hl ?_
      obtain ⟨p, hp, k⟩ := mem_flat.mp z
      exact mem_flat.mpr ⟨p, ((eB p).mp hp).1, k⟩
theorem ptb_perm {n : Int} {L M : List (Int × Int)} (hL : Lay n L) (nd : (flat M).Nodup) (p : M.Perm L) (e : Int) : ptb M e = ptb L e := by
  by_cases e0 : e = 0
  · subst e0; rfl
  have key : ∀ {a b : Int}, parI M a = some b ↔ (a, b) ∈ M ∨ (b, a) ∈ M := fun {a b} => by
    rw [← tabI_mem]
    have ndk : ((tabI M).map (·.1)).Nodup := by rw [tabI_keys]; exact nd
    unfold parI
    constructor
    · intro h
      obtain ⟨q, hq, e⟩ := Option.map_eq_some_iff.mp h
      have h1 := List.mem_of_find?_eq_some hq
      have h2 := List.find?_some hq
      simp at h2
      obtain ⟨x, y⟩ := q
      simp at h2 e
      subst h2; subst e
      exact h1
    · intro h
      cases hf : (tabI M).find? (fun q => decide (q.1 = a)) with
      | none => exact absurd h (by simpa using List.find?_eq_none.mp hf (a, b))
      | some q =>
        have h1 := List.mem_of_find?_eq_some hf
        have h2 := List.find?_some hf
        simp at h2
        obtain ⟨x, y⟩ := q
        simp at h2
        subst h2
        simp [nodup_keys ndk h1 h]
  have : parI M e = parI L e := by
    apply Option.ext
    intro b
    rw [key, parI_iff hL, p.mem_iff, p.mem_iff]
  unfold ptb
  rw [if_neg e0, if_neg e0, this]
/-- the layout that is left when the couplings of a move are cut -/
def cutL (L C : List (Int × Int)) : List (Int × Int) := L.filter fun p => decide (p ∈ C) != true
theorem flat_sub {L M : List (Int × Int)} (s : M.Sublist L) : (flat M).Sublist (flat L) := by
  induction s with
  | slnil => exact .refl _
  | cons a _ ih => rw [flat_cons]; exact (ih.cons _).cons _
  | cons_cons a _ ih => rw [flat_cons, flat_cons]; exact (ih.cons_cons _).cons_cons _
theorem Lay.sub {n : Int} {L M : List (Int × Int)} (hL : Lay n L) (s : M.Sublist L) : Lay n M := ⟨hL.n1, hL.n60, fun p hp => hL.cp p (s.subset hp), hL.asc.sublist s, hL.nd.sublist (flat_sub s)⟩
theorem cutL_lay {n : Int} {L : List (Int × Int)} (C : List (Int × Int)) (hL : Lay n L) : Lay n (cutL L C) := hL.sub List.filter_sublist
theorem cutL_mem {L C : List (Int × Int)} {p : Int × Int} : p ∈ cutL L C ↔ p ∈ L ∧ p ∉ C := by
  unfold cutL; rw [List.mem_filter]; simp
/-- an end of a move is open when its couplings are cut -/
theorem mv_open {n : Int} {L C J : List (Int × Int)} (hL : Lay n L) (h : mvD n L (mD C J) = true) {e : Int} (he : e ∈ flat C ∨ e ∈ flat J) : e ∈ endsL n ∧ e ∉ flat (cutL L C) := by
  obtain ⟨f1, f2, f3, f4, _⟩ := mv_flat hL h
  have hC : ∀ p ∈ C, -n ≤ p.1 ∧ p.1 < p.2 ∧ p.2 ≤ n ∧ p.1 ≠ 0 ∧ p.2 ≠ 0 := fun p hp => hL.cp p (f1 p hp)
  have no : e ∈ flat C → e ∉ flat (cutL L C) := fun hc z => by
    obtain ⟨p, hp, k⟩ := mem_flat.mp z
    obtain ⟨q, hq, k2⟩ := mem_flat.mp hc
    have hp' := cutL_mem.mp hp
    have := lay_share hL hp'.1 (f1 q hq) k k2
    subst this
    exact hp'.2 hq
  have sub : e ∉ flat L → e ∉ flat (cutL L C) := fun hl z => by
    obtain ⟨p, hp, k⟩ := mem_flat.mp z
    exact hl (mem_flat.mpr ⟨p, (cutL_mem.mp hp).1, k⟩)
  refine ⟨?_, ?_⟩
  · rcases he with he | he
    · obtain ⟨p, hp, k⟩ := mem_flat.mp he
      have := hC p hp
      exact mem_endsL.mpr (by omega)
    · obtain ⟨p, hp, k⟩ := mem_flat.mp he
      have := f4 p hp
      exact mem_endsL.mpr (by omega)
  · rcases he with he | he
    · exact no he
    · rcases f3 e he with z | z
      · exact no z
      · exact sub z
/-! ### the word for a move -/
def kSwap (fe : Int → Int) (p q : Int × Int) (J : List (Int × Int)) : Str :=
  if (fe p.1 = q.1 ∨ fe p.1 = q.2) ∨ (fe p.2 = q.1 ∨ fe p.2 = q.2) then
    if (if fe p.1 = q.1 ∨ fe p.1 = q.2 then cpl p.1 (fe p.1) else cpl p.2 (fe p.2)) ∈ J then
      (if (fe p.1 = q.1 ∨ fe p.1 = q.2) ∧ (fe p.2 = q.1 ∨ fe p.2 = q.2) then "part" else "let")
    else "turn"
  else if fe p.1 = p.2 then (if fe q.1 = q.2 then "merge" else "take") else (if fe q.1 = q.2 then "take" else "exchange")
def kTransE (p q : Int × Int) : Int × Int × Int :=
  let left := if p.1 = q.1 ∨ p.1 = q.2 then p.2 else p.1
  (left, p.1 + p.2 - left, q.1 + q.2 - (p.1 + p.2 - left))
def kTrans (fe : Int → Int) (p q : Int × Int) : Str :=
  if fe (kTransE p q).2.1 = (kTransE p q).1 then "take" else if fe (kTransE p q).2.1 = (kTransE p q).2.2 then "let" else if fe (kTransE p q).1 = (kTransE p q).2.2 then "turn" else "exchange"
def kindM (fe : Int → Int) : List (Int × Int) → List (Int × Int) → Str
  | [p, q], J => kSwap fe p q J
  | [p], [] => if fe p.1 = p.2 then "open" else "cut"
  | [p], q :: _ => kTrans fe p q
  | _, q :: _ => if fe q.1 = q.2 then "close" else "join"
  | _, [] => ""
/-- the kind of a move of a layout -/
def kindL (L C J : List (Int × Int)) : Str := kindM (farE (ptb (cutL L C))) C J
/-- the forms of moves -/
theorem mv_forms {n : Int} {L C J : List (Int × Int)} (h : mvD n L (mD C J) = true) : (∃ p q r s, C = [p, q] ∧ J = [r, s]) ∨ (∃ p q, C = [p] ∧ J = [q]) ∨ (∃ p, C = [p] ∧ J = []) ∨ (∃ q, C = [] ∧ J = [q]) := by
  have hf : formD n (mD C J) = true := by
    unfold mvD at h
    exact (Bool.and_eq_true _ _ ▸ h).1
  obtain ⟨C', J', e, _, _, _, _, _, _, l⟩ := formD_ok hf
  injection e with e
  injection e with e1' e
  injection e with e2' _
  have eC : C = C' := dL_inj e1'
  have eJ : J = J' := dL_inj e2'
  subst eC
  subst eJ
  match C, J, l with
  | [p, q], [r, s], _ => exact .inl ⟨p, q, r, s, rfl, rfl⟩
  | [p], [q], _ => exact .inr (.inl ⟨p, q, rfl, rfl⟩)
  | [p], [], _ => exact .inr (.inr (.inl ⟨p, rfl, rfl⟩))
  | [], [q], _ => exact .inr (.inr (.inr ⟨q, rfl, rfl⟩))
  | [], [], l => simp at l
  | [_, _], [], l => simp at l
  | [_, _], [_], l => simp at l
  | [], _ :: _ :: _, l => simp at l
  | [_], _ :: _ :: _, l => simp at l
  | [_, _], _ :: _ :: _ :: _, l => simp at l
  | _ :: _ :: _ :: _, _, l => simp at l
theorem r_in2 {K : PySem.W.Frag} {H : Hp} {Q : VK} {a : Addr} {i x y : Int} (h : SqT K H a [.int x, .int y]) (q : Q (.bl (decide (i = x ∨ i = y))) H) : rIn K false (.int i) (.ref a) H Q := by
  have inT : inV (.int i) [.int x, .int y] = decide (i = x ∨ i = y) := by
    rw [show ([V.int x, V.int y] : List V) = [x, y].map V.int from rfl, in_ints]
    simp
  refine ⟨a, _, rfl, .inr h, rfl, rfl, ?_⟩
  rw [if_neg Bool.false_ne_true, inT]
  exact q
theorem inT2 (i x y : Int) : (if false = true then !inV (.int i) [.int x, .int y] else inV (.int i) [.int x, .int y]) = decide (i = x ∨ i = y) := by
  rw [if_neg Bool.false_ne_true, show ([V.int x, V.int y] : List V) = [x, y].map V.int from rfl, in_ints]
  simp
theorem kt_cases {p q : Int × Int} : ((kTransE p q).1 = p.1 ∧ (kTransE p q).2.1 = p.2) ∨ ((kTransE p q).1 = p.2 ∧ (kTransE p q).2.1 = p.1) := by
  unfold kTransE
  by_cases h : p.1 = q.1 ∨ p.1 = q.2
  · rw [if_pos h]; right; constructor
    · rfl
    · show p.1 + p.2 - p.2 = p.1; omega
  · rw [if_neg h]; left; constructor
    · rfl
    · show p.1 + p.2 - p.1 = p.2; omega
/-- two tables after a coupling is cut, or made -/
theorem IsF.two {n : Int} {f : Int → Int} {ts : List Int} (h : IsF n f ts) {a b u v : Int} (h1 : -n ≤ a ∧ a ≤ n) (h2 : -n ≤ b ∧ b ≤ n) :
    ∃ i j, ixN (ts.map V.int).length a = some i ∧ ixN ((ts.map V.int).set i (.int u)).length b = some j ∧ ((ts.map V.int).set i (.int u)).set j (.int v) = ((ts.set i u).set j v).map V.int ∧ IsF n (fun x => if x = b then v else if x = a then u else f x) ((ts.set i u).set j v) := by
  obtain ⟨i, e1, e2, e3⟩ := h.ix u h1.1 h1.2
  obtain ⟨j, g1, g2, g3⟩ := e3.ix v h2.1 h2.2
  exact ⟨i, j, e1, by rw [e2]; exact g1, by rw [e2]; exact g2, g3⟩
theorem flat_snoc (d : List (Int × Int)) (p : Int × Int) (e : Int) : e ∈ flat (d ++ [p]) ↔ e ∈ flat d ∨ e = p.1 ∨ e = p.2 := by
  rw [flat_app, List.mem_append]
  simp [flat]
/-- partners, coupling by coupling -/
theorem ptb_make {n : Int} {B M J : List (Int × Int)} (hM : Lay n M) (pm : M.Perm (B ++ J)) (nd : (flat (B ++ J)).Nodup) (e : Int) : ptb (B ++ J) e = ptb M e := ptb_perm hM nd pm.symm e
/-- the layout behind a move -/
def behind (L C J : List (Int × Int)) : List (Int × Int) := srtP (cutL L C ++ J)
theorem mv_sorted {n : Int} {L C J : List (Int × Int)} (hL : Lay n L) (h : mvD n L (mD C J) = true) : Lay n (behind L C J) ∧ (behind L C J).Perm (cutL L C ++ J) := by
  have pm : (behind L C J).Perm (cutL L C ++ J) := List.mergeSort_perm _ _
  exact ⟨mv_lay hL h pm (srtP_asc (nd_of_flat (mv_nd hL h))), pm⟩
end Vf

namespace Vf
open PySem PySem.Spec PyProof.Rows L2

/-! ### rows told by their outer ends and their pieces -/
abbrev Rw := Int × Int × List Int
def Ends (r : List Int) (a b : Int) : Prop := (∃ v, r = -a :: v) ∧ ∃ u, r = u ++ [b]
theorem pair_perm {α β : Type} {F : α → β → Prop} {L L' : List β} (p : L'.Perm L) : ∀ {xs : List α}, Paired F xs L → ∃ xs', xs'.Perm xs ∧ Paired F xs' L' := by
  induction p with
  | nil => intro xs h; exact ⟨xs, .refl _, h⟩
  | cons a _ ih =>
    intro xs h
    cases h with
    | cons h1 h2 =>
      obtain ⟨ys, p, g⟩ := ih h2
      exact ⟨_, p.cons _, .cons h1 g⟩
  | swap a b l =>
    intro xs h
    cases h with
    | cons h1 h2 =>
    cases h2 with
    | cons h3 h4 => exact ⟨_, .swap _ _ _, .cons h3 (.cons h1 h4)⟩
  | trans _ _ ih1 ih2 =>
    intro xs h
    obtain ⟨ys, p1, g1⟩ := ih2 h
    obtain ⟨zs, p2, g2⟩ := ih1 g1
    exact ⟨zs, p2.trans p1, g2⟩
def AS (n : Int) (B : List (Int × Int)) (T : List Rw) (Gs : List (List Int)) : Prop :=
  ∃ R G, Sys n B R G ∧ Paired (fun r t => Ends r t.1 t.2.1 ∧ t.2.2.Perm (r.map ab)) R T ∧ Paired (fun g s => s.Perm (g.map ab)) G Gs
variable {n : Int} {B B' : List (Int × Int)} {T T' P : List Rw} {Gs Gs' : List (List Int)} {a b c d : Int} {S S' : List Int}
def tripR (r : List Int) : Rw := (-(r.headD 0), r.getLastD 0, r.map ab)
theorem tripR_ends {r : List Int} (ne : r ≠ []) : Ends r (tripR r).1 (tripR r).2.1 := by
  match r, ne with
  | x :: t, _ =>
    refine ⟨⟨t, by simp [tripR]⟩, ⟨(x :: t).dropLast, ?_⟩⟩
    show _ = _ ++ [(x :: t).getLastD 0]
    rw [List.getLastD_cons, ← List.getLast_eq_getLastD (by simp : x :: t ≠ [])]
    exact (List.dropLast_concat_getLast _).symm
theorem AS.of {R G : List (List Int)} (h : Sys n B R G) : AS n B (R.map tripR) (G.map fun g => g.map ab) := by
  refine ⟨R, G, h, ?_, ?_⟩
  · have : ∀ {R : List (List Int)}, (∀ r ∈ R, r ≠ []) → Paired (fun r (t : Rw) => Ends r t.1 t.2.1 ∧ t.2.2.Perm (r.map ab)) R (R.map tripR) := fun {R} ne => by
      induction R with
      | nil => exact .nil
      | cons r R ih => exact .cons ⟨tripR_ends (ne r (by simp)), .refl _⟩ (ih fun r hr => ne r (List.mem_cons_of_mem _ hr))
    exact this h.neR
  · have : ∀ G : List (List Int), Paired (fun g s => s.Perm (g.map ab)) G (G.map fun g => g.map ab) := fun G => by
      induction G with
      | nil => exact .nil
      | cons g G ih => exact .cons (.refl _) ih
    exact this G
theorem AS.perm (h : AS n B T Gs) (p : T'.Perm T) : AS n B T' Gs := by
  obtain ⟨R, G, hs, h1, h2⟩ := h
  obtain ⟨R', pR, h1'⟩ := pair_perm p h1
  exact ⟨R', G, hs.perm pR (.refl _), h1', h2⟩
theorem AS.permB (h : AS n B T Gs) (p : B'.Perm B) : AS n B' T Gs := by
  obtain ⟨R, G, hs, h1, h2⟩ := h
  exact ⟨R, G, ⟨hs.neR, hs.neG, hs.pcs, hs.cp.trans p.symm⟩, h1, h2⟩
theorem Ends.rev {r : List Int} (h : Ends r a b) : Ends (revn r) b a := by
  obtain ⟨⟨v, hv⟩, ⟨u, hu⟩⟩ := h
  exact ⟨⟨revn u, by rw [hu, revn_snoc]⟩, ⟨revn v, by rw [hv, revn_cons, Int.neg_neg]⟩⟩
theorem AS.turn (h : AS n B ((a, b, S) :: T) Gs) : AS n B ((b, a, S) :: T) Gs := by
  obtain ⟨R, G, hs, h1, h2⟩ := h
  cases h1 with
  | cons k h1 =>
    rename_i r R'
    exact ⟨revn r :: R', G, Sys.turn (R' := [r]) hs rfl (revn_ab r) (by rw [revn_steps]; exact List.reverse_perm _), .cons ⟨k.1.rev, k.2.trans (revn_ab r).symm⟩ h1, h2⟩
theorem AS.join (h : AS n B ((a, b, S) :: (c, d, S') :: T) Gs) (p : B'.Perm (prI b c :: B)) : AS n B' ((a, d, S ++ S') :: T) Gs := by
  obtain ⟨R, G, hs, h1, h2⟩ := h
  cases h1 with
  | cons k1 h1 =>
  cases h1 with
  | cons k2 h1 =>
    rename_i r1 r2 R'
    obtain ⟨⟨⟨v1, e1⟩, ⟨u1, f1⟩⟩, q1⟩ := k1
    obtain ⟨⟨⟨v2, e2⟩, ⟨u2, f2⟩⟩, q2⟩ := k2
    simp only at e1 f1 e2 f2 q1 q2
    refine ⟨(r1 ++ r2) :: R', G, ⟨fun r hr => ?_, hs.neG, ?_, ?_⟩, .cons ⟨⟨⟨v1 ++ r2, by rw [e1]; rfl⟩, ⟨r1 ++ u2, by rw [f2, List.append_assoc]⟩⟩, by rw [List.map_append]; exact q1.append q2⟩ h1, h2⟩
    · rcases List.mem_cons.mp hr with rfl | hr
      · rw [e1]; simp
      · exact hs.neR r (List.mem_cons_of_mem _ (List.mem_cons_of_mem _ hr))
    · have := hs.pcs
      simp only [List.flatten_cons, List.map_append, List.append_assoc] at this ⊢
      exact this
    · have e : steps (r1 ++ r2) = steps r1 ++ prI b c :: steps r2 := by
        rw [f1, e2, List.append_assoc]
        show steps (u1 ++ b :: (-c :: v2)) = _
        rw [steps_app, steps_cons2, Int.neg_neg]
      have hc := hs.cp
      unfold cps at hc ⊢
      rw [List.flatMap_cons, e]
      simp only [List.flatMap_cons, List.append_assoc, List.cons_append] at hc ⊢
      exact (List.perm_middle.trans (hc.cons _)).trans p.symm
theorem AS.close (h : AS n B ((a, b, S) :: T) Gs) (p : B'.Perm (prI b a :: B)) : AS n B' T (S :: Gs) := by
  obtain ⟨R, G, hs, h1, h2⟩ := h
  cases h1 with
  | cons k1 h1 =>
    rename_i r R'
    obtain ⟨⟨⟨v1, e1⟩, ⟨u1, f1⟩⟩, q1⟩ := k1
    simp only at e1 f1 q1
    refine ⟨R', r :: G, ⟨fun r hr => hs.neR r (List.mem_cons_of_mem _ hr), fun g hg => ?_, ?_, ?_⟩, h1, .cons q1 h2⟩
    · rcases List.mem_cons.mp hg with rfl | hg
      · rw [e1]; simp
      · exact hs.neG g hg
    · have := hs.pcs
      simp only [List.flatten_cons, List.map_append, List.append_assoc] at this ⊢
      refine List.Perm.trans ?_ this
      rw [← List.append_assoc, ← List.append_assoc]
      exact List.Perm.append_right _ List.perm_append_comm
    · have e : ringC r = steps r ++ [prI b a] := by
        have e2 : ringC r = steps (r ++ [-a]) := by rw [e1]; rfl
        rw [e2, f1, List.append_assoc]
        show steps (u1 ++ b :: [-a]) = _
        rw [steps_app, steps_cons2, Int.neg_neg]
        rfl
      have hc := hs.cp
      unfold cps at hc ⊢
      rw [List.flatMap_cons, e]
      simp only [List.flatMap_cons, List.append_assoc, List.cons_append, List.nil_append] at hc ⊢
      refine List.Perm.trans ?_ ((hc.cons (prI b a)).trans p.symm)
      refine (List.Perm.append_left _ List.perm_middle).trans (List.perm_middle.trans (List.Perm.cons _ ?_))
      exact List.perm_append_comm_assoc _ _ _
theorem AS.far (h : AS n B ((a, b, S) :: T) Gs) (hL : Lay n B) : farE (ptb B) a = b := by
  obtain ⟨R, G, hs, h1, h2⟩ := h
  cases h1 with
  | cons k1 h1 =>
    rename_i r R'
    obtain ⟨⟨⟨v1, e1⟩, ⟨u1, f1⟩⟩, q1⟩ := k1
    simp only at e1 f1
    have := (hs.far hL (e := a) (v := v1) (by rw [← e1]; simp)).2
    rw [this]
    have e3 : -a :: v1 = u1 ++ [b] := by rw [← e1, f1]
    simp [e3]
/-- a row with an open end that is none of those ahead -/
theorem AS.pick (h : AS n B (P ++ T) Gs) (hL : Lay n B) {e : Int} (he : e ∈ endsL n) (ho : e ∉ flat B) (no : ∀ t ∈ P, e ≠ t.1 ∧ e ≠ t.2.1) : ∃ f S T', AS n B (P ++ (e, f, S) :: T') Gs := by
  have h0 := h
  obtain ⟨R, G, hs, h1, h2⟩ := h
  obtain ⟨r, hr, hk⟩ := hs.endRow he ho
  obtain ⟨i, hi, ei⟩ := List.mem_iff_getElem.mp hr
  obtain ⟨t, ht, ⟨⟨⟨v1, e1⟩, ⟨u1, f1⟩⟩, q1⟩⟩ := pair_get h1 (i := i) (x := r) (by rw [List.getElem?_eq_getElem hi, ei])
  have he : e = t.1 ∨ e = t.2.1 := by
    rcases hk with ⟨u, hu⟩ | ⟨v, hv⟩
    · have := congrArg List.getLast? (hu.symm.trans f1)
      simp at this
      exact .inr this
    · rw [e1] at hv
      injection hv with z _
      exact .inl (by omega)
  have htm := List.mem_of_getElem? ht
  have htT : t ∈ T := by
    rcases List.mem_append.mp htm with z | z
    · have := no t z
      rcases he with z | z
      · exact absurd z this.1
      · exact absurd z this.2
    · exact z
  obtain ⟨s, s', es⟩ := List.append_of_mem htT
  have pm : (t :: (P ++ (s ++ s'))).Perm (P ++ T) := by
    rw [es]
    refine List.Perm.trans ?_ (List.Perm.append_left P List.perm_middle.symm)
    exact List.perm_middle.symm
  have h3 := h0.perm pm
  have fin : ∀ {f : Int} {S : List Int}, AS n B ((e, f, S) :: (P ++ (s ++ s'))) Gs → ∃ f S T', AS n B (P ++ (e, f, S) :: T') Gs := fun {f S} z => ⟨f, S, s ++ s', z.perm List.perm_middle⟩
  obtain ⟨t1, t2, t3⟩ := t
  simp only at he
  rcases he with rfl | rfl
  · exact fin h3
  · exact fin h3.turn
/-- each piece stands once -/
theorem AS.pcs (h : AS n B T Gs) : (T.flatMap (fun t => t.2.2) ++ Gs.flatten).Perm (rng 1 n.toNat) := by
  obtain ⟨R, G, hs, h1, h2⟩ := h
  refine List.Perm.trans (List.Perm.append ?_ ?_) hs.pcs
  · clear hs h2
    induction h1 with
    | nil => exact .refl _
    | cons k _ ih => rw [List.flatMap_cons, List.flatten_cons, List.map_append]; exact k.2.append ih
  · clear hs h1
    induction h2 with
    | nil => exact .refl _
    | cons k _ ih => rw [List.flatten_cons, List.flatten_cons, List.map_append]; exact k.append ih
theorem AS.nd (h : AS n B T Gs) : (T.flatMap (fun t => t.2.2) ++ Gs.flatten).Nodup := h.pcs.symm.nodup ((rng_asc 1 n.toNat).imp fun h => by omega)
theorem AS.ne (h : AS n B T Gs) : (∀ t ∈ T, t.2.2 ≠ []) ∧ ∀ s ∈ Gs, s ≠ [] := by
  obtain ⟨R, G, hs, h1, h2⟩ := h
  constructor
  · intro t ht
    obtain ⟨i, hi, ei⟩ := List.mem_iff_getElem.mp ht
    obtain ⟨r, hr, ⟨⟨v, e⟩, _⟩, q⟩ := pair_get2 h1 (i := i) (p := t) (by rw [List.getElem?_eq_getElem hi, ei])
    intro z
    rw [z, e] at q
    have := q.length_eq
    simp at this
  · intro s hsm
    obtain ⟨i, hi, ei⟩ := List.mem_iff_getElem.mp hsm
    obtain ⟨g, hg, q⟩ := pair_get2 h2 (i := i) (p := s) (by rw [List.getElem?_eq_getElem hi, ei])
    intro z
    rw [z] at q
    have := q.length_eq
    have ne := hs.neG g (List.mem_of_getElem? hg)
    match g, ne with
    | x :: t, _ => simp at this
theorem AS.apart {t u : Rw} (h : AS n B (t :: u :: T) Gs) : ∀ z ∈ t.2.2, z ∉ u.2.2 := fun z hz hu => by
  have := h.nd
  rw [List.flatMap_cons, List.flatMap_cons, List.append_assoc, List.append_assoc] at this
  exact (List.nodup_append.mp this).2.2 z hz z (List.mem_append_left _ hu) rfl
/-! ### groups of pieces -/
def mS (l : List Int) : List Int := l.mergeSort fun x y => decide (x ≤ y)
theorem mS_perm (l : List Int) : (mS l).Perm l := List.mergeSort_perm _ _
theorem mS_srt (l : List Int) : (mS l).Pairwise (· ≤ ·) := by
  have := List.pairwise_mergeSort (le := fun x y : Int => decide (x ≤ y)) (fun a b c h1 h2 => decide_eq_true (Int.le_trans (of_decide_eq_true h1) (of_decide_eq_true h2))) (fun a b => by
    rcases Int.le_total a b with z | z <;> simp [z]) l
  exact this.imp fun z => of_decide_eq_true z
theorem srt_uniq {l m : List Int} (p : l.Perm m) (h : l.Pairwise (· ≤ ·)) (h2 : m.Pairwise (· ≤ ·)) : l = m :=
  List.Perm.eq_of_pairwise (le := fun p q : Int => p ≤ q) (fun a b _ _ h1 h2 => Int.le_antisymm h1 h2) h h2 p
theorem mS_eq {l m : List Int} : mS l = mS m ↔ l.Perm m :=
  ⟨fun h => (mS_perm l).symm.trans (h ▸ mS_perm m), fun h => srt_uniq ((mS_perm l).trans (h.trans (mS_perm m).symm)) (mS_srt l) (mS_srt m)⟩
def rsG (T : List Rw) : List (List Int) := srtR (T.map fun t => mS t.2.2)
def gsG (Gs : List (List Int)) : List (List Int) := srtR (Gs.map mS)
theorem srtR_iff {R R' : List (List Int)} : srtR R = srtR R' ↔ R.Perm R' := ⟨fun h => (srtR_perm R).symm.trans (h ▸ srtR_perm R'), srtR_eq⟩
theorem rsG_len (T : List Rw) : (rsG T).length = T.length := by unfold rsG; rw [(srtR_perm _).length_eq, List.length_map]
theorem gsG_len (Gs : List (List Int)) : (gsG Gs).length = Gs.length := by unfold gsG; rw [(srtR_perm _).length_eq, List.length_map]
/-- the word by the groups -/
def wordG (r g r' g' : List (List Int)) : Str :=
  if (r'.length : Int) - r.length = 1 ∧ (g'.length : Int) - g.length = 0 then "cut" else
  if (r'.length : Int) - r.length = -1 ∧ (g'.length : Int) - g.length = 0 then "join" else
  if (r'.length : Int) - r.length = 1 ∧ (g'.length : Int) - g.length = -1 then "open" else
  if (r'.length : Int) - r.length = -1 ∧ (g'.length : Int) - g.length = 1 then "close" else
  if (r'.length : Int) - r.length = 0 ∧ (g'.length : Int) - g.length = 1 then (if r = r' then "part" else "let") else
  if (r'.length : Int) - r.length = 0 ∧ (g'.length : Int) - g.length = -1 then (if r = r' then "merge" else "take") else
  if r = r' ∧ g = g' then "turn" else "exchange"
def oppW (w : Str) : Str :=
  if w = "cut" then "join" else if w = "join" then "cut" else if w = "open" then "close" else if w = "close" then "open" else if w = "let" then "take" else if w = "take" then "let" else if w = "part" then "merge" else if w = "merge" then "part" else if w = "turn" then "turn" else "exchange"
theorem wordG_opp (r g r' g' : List (List Int)) : oppW (wordG r g r' g') = wordG r' g' r g := by
  unfold wordG
  generalize hx : (r'.length : Int) - r.length = x
  generalize hy : (g'.length : Int) - g.length = y
  have hx' : (r.length : Int) - r'.length = -x := by omega
  have hy' : (g.length : Int) - g'.length = -y := by omega
  rw [hx', hy']
  have case : (x = 1 ∧ y = 0) ∨ (x = -1 ∧ y = 0) ∨ (x = 1 ∧ y = -1) ∨ (x = -1 ∧ y = 1) ∨ (x = 0 ∧ y = 1) ∨ (x = 0 ∧ y = -1) ∨ (¬ (x = 1 ∧ y = 0) ∧ ¬ (x = -1 ∧ y = 0) ∧ ¬ (x = 1 ∧ y = -1) ∧ ¬ (x = -1 ∧ y = 1) ∧ ¬ (x = 0 ∧ y = 1) ∧ ¬ (x = 0 ∧ y = -1)) := by omega
  have o1 : oppW "cut" = "join" := by decide +kernel
  have o2 : oppW "join" = "cut" := by decide +kernel
  have o3 : oppW "open" = "close" := by decide +kernel
  have o4 : oppW "close" = "open" := by decide +kernel
  have o5 : oppW "let" = "take" := by decide +kernel
  have o6 : oppW "take" = "let" := by decide +kernel
  have o7 : oppW "part" = "merge" := by decide +kernel
  have o8 : oppW "merge" = "part" := by decide +kernel
  have o9 : oppW "turn" = "turn" := by decide +kernel
  have o10 : oppW "exchange" = "exchange" := by decide +kernel
  rcases case with ⟨rfl, rfl⟩ | ⟨rfl, rfl⟩ | ⟨rfl, rfl⟩ | ⟨rfl, rfl⟩ | ⟨rfl, rfl⟩ | ⟨rfl, rfl⟩ | ⟨h1, h2, h3, h4, h5, h6⟩
  · simpa using o1
  · simpa using o2
  · simpa using o3
  · simpa using o4
  · by_cases h : r = r'
    · subst h; simpa using o7
    · have h' : ¬ r' = r := fun z => h z.symm
      simpa [h, h'] using o5
  · by_cases h : r = r'
    · subst h; simpa using o8
    · have h' : ¬ r' = r := fun z => h z.symm
      simpa [h, h'] using o6
  · have k1 : ¬ (-x = 1 ∧ -y = 0) := by omega
    have k2 : ¬ (-x = -1 ∧ -y = 0) := by omega
    have k3 : ¬ (-x = 1 ∧ -y = -1) := by omega
    have k4 : ¬ (-x = -1 ∧ -y = 1) := by omega
    have k5 : ¬ (-x = 0 ∧ -y = 1) := by omega
    have k6 : ¬ (-x = 0 ∧ -y = -1) := by omega
    rw [if_neg h1, if_neg h2, if_neg h3, if_neg h4, if_neg h5, if_neg h6, if_neg k1, if_neg k2, if_neg k3, if_neg k4, if_neg k5, if_neg k6]
    by_cases h : r = r' ∧ g = g'
    · rw [if_pos h, if_pos ⟨h.1.symm, h.2.symm⟩]; exact o9
    · rw [if_neg h, if_neg fun z => h ⟨z.1.symm, z.2.symm⟩]; exact o10
end Vf

namespace Vf
open PySem PySem.Spec PyProof.Rows L2

/-! ### the kind of a move is the word by its groups -/
variable {n : Int} {L M B C J : List (Int × Int)} {T T' X : List Rw} {Gs Gs' : List (List Int)}
def W (T : List Rw) (Gs : List (List Int)) (T' : List Rw) (Gs' : List (List Int)) : Str := wordG (rsG T) (gsG Gs) (rsG T') (gsG Gs')
theorem W_cut (h : T'.length = T.length + 1) (g : Gs'.length = Gs.length) : W T Gs T' Gs' = "cut" := by
  unfold W wordG; rw [rsG_len, rsG_len, gsG_len, gsG_len, if_pos (by omega)]
theorem W_join (h : T'.length + 1 = T.length) (g : Gs'.length = Gs.length) : W T Gs T' Gs' = "join" := by
  unfold W wordG; rw [rsG_len, rsG_len, gsG_len, gsG_len, if_neg (by omega), if_pos (by omega)]
theorem W_open (h : T'.length = T.length + 1) (g : Gs'.length + 1 = Gs.length) : W T Gs T' Gs' = "open" := by
  unfold W wordG; rw [rsG_len, rsG_len, gsG_len, gsG_len, if_neg (by omega), if_neg (by omega), if_pos (by omega)]
theorem W_close (h : T'.length + 1 = T.length) (g : Gs'.length = Gs.length + 1) : W T Gs T' Gs' = "close" := by
  unfold W wordG; rw [rsG_len, rsG_len, gsG_len, gsG_len, if_neg (by omega), if_neg (by omega), if_neg (by omega), if_pos (by omega)]
theorem W_more (h : T'.length = T.length) (g : Gs'.length = Gs.length + 1) : W T Gs T' Gs' = if rsG T = rsG T' then ("part" : Str) else "let" := by
  unfold W wordG; rw [rsG_len, rsG_len, gsG_len, gsG_len, if_neg (by omega), if_neg (by omega), if_neg (by omega), if_neg (by omega), if_pos (by omega)]
theorem W_less (h : T'.length = T.length) (g : Gs'.length + 1 = Gs.length) : W T Gs T' Gs' = if rsG T = rsG T' then ("merge" : Str) else "take" := by
  unfold W wordG; rw [rsG_len, rsG_len, gsG_len, gsG_len, if_neg (by omega), if_neg (by omega), if_neg (by omega), if_neg (by omega), if_neg (by omega), if_pos (by omega)]
theorem W_same (h : T'.length = T.length) (g : Gs'.length = Gs.length) : W T Gs T' Gs' = if rsG T = rsG T' ∧ gsG Gs = gsG Gs' then ("turn" : Str) else "exchange" := by
  unfold W wordG; rw [rsG_len, rsG_len, gsG_len, gsG_len, if_neg (by omega), if_neg (by omega), if_neg (by omega), if_neg (by omega), if_neg (by omega), if_neg (by omega)]
theorem rsG_one {t u : Rw} (e : t.2.2.Perm u.2.2) (X : List Rw) : rsG (t :: X) = rsG (u :: X) := by
  unfold rsG
  rw [List.map_cons, List.map_cons, mS_eq.mpr e]
theorem rsG_no1 {t u : Rw} {X : List Rw} (h : ¬ t.2.2.Perm u.2.2) : rsG (t :: X) ≠ rsG (u :: X) := fun z => by
  unfold rsG at z
  have p := srtR_iff.mp z
  rw [List.map_cons, List.map_cons] at p
  have c := p.count_eq (mS t.2.2)
  rw [List.count_cons_self, List.count_cons_of_ne (fun k => h (mS_eq.mp k.symm))] at c
  omega
theorem rsG_no2 {t1 t2 u1 u2 : Rw} {X : List Rw} (h1 : ¬ t1.2.2.Perm u1.2.2) (h2 : ¬ t1.2.2.Perm u2.2.2) : rsG (t1 :: t2 :: X) ≠ rsG (u1 :: u2 :: X) := fun z => by
  unfold rsG at z
  have p := srtR_iff.mp z
  simp only [List.map_cons] at p
  have p2 : ([mS t1.2.2, mS t2.2.2] ++ X.map fun t => mS t.2.2).Perm ([mS u1.2.2, mS u2.2.2] ++ X.map fun t => mS t.2.2) := p
  have m := ((List.perm_append_right_iff _).mp p2).mem_iff (a := mS t1.2.2)
  have : mS t1.2.2 ∈ [mS u1.2.2, mS u2.2.2] := m.mp (by simp)
  simp only [List.mem_cons, List.not_mem_nil, or_false] at this
  rcases this with k | k
  · exact h1 (mS_eq.mp k)
  · exact h2 (mS_eq.mp k)
/-- a piece more is no permutation -/
theorem no_perm {S S' X : List Int} (ne : S' ≠ []) (h : ∀ z ∈ S', z ∉ X) : ¬ X.Perm (S ++ S') := fun p => by
  match S', ne with
  | x :: t, _ => exact h x (by simp) (p.symm.subset (by simp))
theorem no_len {S S' : List Int} (ne : S' ≠ []) : ¬ (S ++ S').Perm S := fun p => by
  have := p.length_eq
  match S', ne with
  | x :: t, _ => simp at this
/-- one pair after another -/
theorem kind_join {x y : Int} (hB : Lay n B) (hx : x ∈ endsL n ∧ x ∉ flat B) (hy : y ∈ endsL n ∧ y ∉ flat B) (ne : x ≠ y) (pm : M.Perm (prI x y :: B)) :
    ∃ T Gs T' Gs', AS n B T Gs ∧ AS n M T' Gs' ∧ (if farE (ptb B) x = y then ("close" : Str) else "join") = W T Gs T' Gs' ∧ (if farE (ptb B) x = y then ("open" : Str) else "cut") = W T' Gs' T Gs := by
  obtain ⟨R, G, hs⟩ := sys_exists hB
  have h0 := AS.of hs
  obtain ⟨f, S, T1, h1⟩ := AS.pick (P := []) h0 hB hx.1 hx.2 (fun _ z => nomatch z)
  have hf : farE (ptb B) x = f := AS.far h1 hB
  by_cases c : f = y
  · subst c
    rw [if_pos hf, if_pos hf]
    exact ⟨_, _, _, _, h1, h1.close (pm.trans (by rw [prI_comm])), (W_close rfl rfl).symm, (W_open rfl rfl).symm⟩
  · rw [if_neg (by rw [hf]; exact c), if_neg (by rw [hf]; exact c)]
    obtain ⟨g, S2, T2, h2⟩ := AS.pick (P := [(x, f, S)]) h1 hB hy.1 hy.2 (fun t ht => by
      rw [List.mem_singleton.mp ht]; exact ⟨ne.symm, fun z => c z.symm⟩)
    have h2' : AS n B ((x, f, S) :: (y, g, S2) :: T2) _ := h2
    exact ⟨_, _, _, _, h2', h2'.turn.join pm, (W_join rfl rfl).symm, (W_cut rfl rfl).symm⟩
theorem kind_trans {a e o : Int} (hB : Lay n B) (ha : a ∈ endsL n ∧ a ∉ flat B) (he : e ∈ endsL n ∧ e ∉ flat B) (ho : o ∈ endsL n ∧ o ∉ flat B) (ae : a ≠ e) (ao : a ≠ o) (eo : e ≠ o)
    (pL : L.Perm (prI a e :: B)) (pM : M.Perm (prI e o :: B)) :
    ∃ T Gs T' Gs', AS n L T Gs ∧ AS n M T' Gs' ∧ (if farE (ptb B) e = a then ("take" : Str) else if farE (ptb B) e = o then "let" else if farE (ptb B) a = o then "turn" else "exchange") = W T Gs T' Gs' := by
  obtain ⟨R, G, hs⟩ := sys_exists hB
  have h0 := AS.of hs
  obtain ⟨f, S, T1, h1⟩ := AS.pick (P := []) h0 hB he.1 he.2 (fun _ z => nomatch z)
  have hf : farE (ptb B) e = f := AS.far h1 hB
  rw [hf]
  by_cases c1 : f = a
  · subst c1
    rw [if_pos rfl]
    obtain ⟨g, S2, T2, h2⟩ := AS.pick (P := [(e, f, S)]) h1 hB ho.1 ho.2 (fun t ht => by rw [List.mem_singleton.mp ht]; exact ⟨eo.symm, ao.symm⟩)
    have h2' : AS n B ((e, f, S) :: (o, g, S2) :: T2) _ := h2
    have hL := h2'.close pL
    have hM := h2'.turn.join pM
    refine ⟨_, _, _, _, hL, hM, ?_⟩
    rw [W_less (by rfl) (by rfl), if_neg]
    refine rsG_no1 fun p => ?_
    exact no_len (h2'.ne.1 (e, f, S) (by simp)) (List.perm_append_comm.trans p.symm)
  rw [if_neg c1]
  by_cases c2 : f = o
  · subst c2
    rw [if_pos rfl]
    obtain ⟨g, S2, T2, h2⟩ := AS.pick (P := [(e, f, S)]) h1 hB ha.1 ha.2 (fun t ht => by rw [List.mem_singleton.mp ht]; exact ⟨ae, ao⟩)
    have h2' : AS n B ((e, f, S) :: (a, g, S2) :: T2) _ := h2
    have hL := h2'.turn.join (pL.trans (by rw [prI_comm]))
    have hM := h2'.close (pM.trans (by rw [prI_comm]))
    refine ⟨_, _, _, _, hL, hM, ?_⟩
    rw [W_more (by rfl) (by rfl), if_neg]
    refine rsG_no1 fun p => ?_
    exact no_len (h2'.ne.1 (e, f, S) (by simp)) (List.perm_append_comm.trans p)
  rw [if_neg c2]
  obtain ⟨g, S2, T2, h2⟩ := AS.pick (P := [(e, f, S)]) h1 hB ha.1 ha.2 (fun t ht => by rw [List.mem_singleton.mp ht]; exact ⟨ae, fun z => c1 z.symm⟩)
  have h2' : AS n B ((e, f, S) :: (a, g, S2) :: T2) _ := h2
  have hg : farE (ptb B) a = g := AS.far (h2'.perm (List.Perm.swap _ _ _)) hB
  rw [hg]
  by_cases c3 : g = o
  · subst c3
    rw [if_pos rfl]
    have hL := h2'.turn.join (pL.trans (by rw [prI_comm]))
    have hM := (((h2'.perm (List.Perm.swap _ _ _)).turn.perm (List.Perm.swap _ _ _)).turn).join pM
    refine ⟨_, _, _, _, hL, hM, ?_⟩
    rw [W_same (by rfl) (by rfl), if_pos ⟨rsG_one (.refl _) _, rfl⟩]
  · rw [if_neg c3]
    obtain ⟨k, S3, T3, h3⟩ := AS.pick (P := [(e, f, S), (a, g, S2)]) h2 hB ho.1 ho.2 (fun t ht => by
      rcases List.mem_cons.mp ht with rfl | ht
      · exact ⟨eo.symm, fun z => c2 z.symm⟩
      · rw [List.mem_singleton.mp ht]; exact ⟨ao.symm, fun z => c3 z.symm⟩)
    have h3' : AS n B ((e, f, S) :: (a, g, S2) :: (o, k, S3) :: T3) _ := h3
    have hL := h3'.turn.join (pL.trans (by rw [prI_comm]))
    have hM0 : AS n B ((e, f, S) :: (o, k, S3) :: (a, g, S2) :: T3) _ := h3'.perm (List.Perm.cons _ (List.Perm.swap _ _ _))
    have hM := hM0.turn.join pM
    refine ⟨_, _, _, _, hL, hM, ?_⟩
    have ap : ∀ z ∈ S2, z ∉ S3 := AS.apart (t := (a, g, S2)) (u := (o, k, S3)) (T := (e, f, S) :: T3) (h3'.perm ((List.Perm.cons _ (List.Perm.swap _ _ _)).trans (List.Perm.swap _ _ _)))
    have ap2 : ∀ z ∈ S3, z ∉ S ++ S2 := fun z hz hm => by
      rcases List.mem_append.mp hm with hm | hm
      · exact AS.apart (t := (e, f, S)) (u := (o, k, S3)) (T := (a, g, S2) :: T3) hM0 z hm hz
      · exact ap z hm hz
    rw [W_same (by rfl) (by rfl), if_neg]
    intro z
    refine rsG_no2 ?_ ?_ z.1
    · exact no_perm (h3'.ne.1 (o, k, S3) (by simp)) ap2
    · exact no_len (h3'.ne.1 (e, f, S) (by simp)) ∘ fun p => List.perm_append_comm.trans p
theorem AS.s12 {t u : Rw} (h : AS n B (t :: u :: X) Gs) : AS n B (u :: t :: X) Gs := h.perm (List.Perm.swap _ _ _)
theorem AS.s23 {t u v : Rw} (h : AS n B (t :: u :: v :: X) Gs) : AS n B (t :: v :: u :: X) Gs := h.perm ((List.Perm.swap _ _ _).cons _)
theorem AS.s34 {t u v w : Rw} (h : AS n B (t :: u :: v :: w :: X) Gs) : AS n B (t :: u :: w :: v :: X) Gs := h.perm (((List.Perm.swap _ _ _).cons _).cons _)
theorem far_sym (hB : Lay n B) {x y : Int} (hx : x ∈ endsL n ∧ x ∉ flat B) (h : farE (ptb B) x = y) : farE (ptb B) y = x := by
  obtain ⟨R, G, hs⟩ := sys_exists hB
  obtain ⟨f, S, T1, h1⟩ := AS.pick (P := []) (AS.of hs) hB hx.1 hx.2 (fun _ z => nomatch z)
  have hf : farE (ptb B) x = f := AS.far h1 hB
  rw [hf] at h
  subst h
  exact AS.far (AS.turn (T := T1) h1) hB
theorem gsG_one {s s' : List Int} (e : s.Perm s') (X : List (List Int)) : gsG (s :: X) = gsG (s' :: X) := by
  unfold gsG
  rw [List.map_cons, List.map_cons, mS_eq.mpr e]
def swW (fe : Int → Int) (l h x y : Int) : Str :=
  if (fe l = x ∨ fe l = y) ∨ (fe h = x ∨ fe h = y) then
    (if ((fe l = x ∨ fe l = y) ∧ fe l = x) ∨ (¬ (fe l = x ∨ fe l = y) ∧ fe h = y) then (if (fe l = x ∨ fe l = y) ∧ (fe h = x ∨ fe h = y) then ("part" : Str) else "let") else "turn")
  else if fe l = h then (if fe x = y then ("merge" : Str) else "take") else (if fe x = y then ("take" : Str) else "exchange")
theorem kind_swap {l h x y : Int} (hB : Lay n B) (hl : l ∈ endsL n ∧ l ∉ flat B) (hh : h ∈ endsL n ∧ h ∉ flat B) (hx : x ∈ endsL n ∧ x ∉ flat B) (hy : y ∈ endsL n ∧ y ∉ flat B)
    (lh : l ≠ h) (lx : l ≠ x) (ly : l ≠ y) (hx' : h ≠ x) (hy' : h ≠ y) (xy : x ≠ y) (pL : L.Perm (prI l h :: prI x y :: B)) (pM : M.Perm (prI l x :: prI h y :: B)) :
    ∃ T Gs T' Gs', AS n L T Gs ∧ AS n M T' Gs' ∧ swW (farE (ptb B)) l h x y = W T Gs T' Gs' := by
  have pL2 : L.Perm (prI x y :: (prI l h :: B)) := pL.trans (List.Perm.swap _ _ _)
  have pM2 : M.Perm (prI h y :: (prI l x :: B)) := pM.trans (List.Perm.swap _ _ _)
  have r0 : ∀ {a b : Int}, (prI a b :: B).Perm (prI a b :: B) := fun {a b} => .refl _
  have r1 : ∀ {a b : Int}, (prI a b :: B).Perm (prI b a :: B) := fun {a b} => by rw [prI_comm]
  obtain ⟨R, G, hs⟩ := sys_exists hB
  have h0 := AS.of hs
  generalize (G.map fun g => g.map ab) = Gs at h0
  obtain ⟨f1, S1, T1, h1⟩ := AS.pick (P := []) h0 hB hl.1 hl.2 (fun _ z => nomatch z)
  have e1 : farE (ptb B) l = f1 := AS.far h1 hB
  obtain ⟨f2, S2', T2', h2'⟩ := AS.pick (P := []) h0 hB hh.1 hh.2 (fun _ z => nomatch z)
  have e2 : farE (ptb B) h = f2 := AS.far h2' hB
  have f12 : f1 ≠ f2 := fun z => by
    have a1 := far_sym hB hl e1
    have a2 := far_sym hB hh e2
    rw [z, a2] at a1
    exact lh a1.symm
  unfold swW
  rw [e1, e2]
  by_cases cA : f1 = x ∨ f1 = y
  · rw [if_pos (Or.inl cA)]
    have hf1 : h ≠ f1 := by rcases cA with rfl | rfl <;> assumption
    obtain ⟨g2, S2, T2, h2⟩ := AS.pick (P := [(l, f1, S1)]) h1 hB hh.1 hh.2 (fun t ht => by rw [List.mem_singleton.mp ht]; exact ⟨lh.symm, hf1⟩)
    have h2 : AS n B ((l, f1, S1) :: (h, g2, S2) :: T2) Gs := h2
    have : g2 = f2 := by rw [← e2]; exact (AS.far h2.s12 hB).symm
    subst this
    by_cases cB : g2 = x ∨ g2 = y
    · by_cases c : f1 = x
      · subst c
        have : g2 = y := by rcases cB with z | z; exact absurd z.symm f12; exact z
        subst this
        rw [if_pos (Or.inl ⟨cA, rfl⟩), if_pos ⟨cA, cB⟩]
        have hL := (h2.turn.join (c := h) r0).close (pL2.trans (by rw [prI_comm f1 g2]))
        have hM := (h2.close (r1)).close (pM2.trans (by rw [prI_comm h g2]))
        exact ⟨_, _, _, _, hL, hM, by rw [W_more (by rfl) (by rfl), if_pos rfl]⟩
      · have : f1 = y := by rcases cA with z | z; exact absurd z c; exact z
        subst this
        have : g2 = x := by rcases cB with z | z; exact z; exact absurd z.symm f12
        subst this
        rw [if_neg (fun z => z.elim (fun z => c z.2) (fun z => z.1 cA))]
        have hL := (h2.turn.join (c := h) r0).close pL2
        have hM := (h2.s12.join (c := l) r1).close (pM2.trans (by rw [prI_comm h f1]))
        exact ⟨_, _, _, _, hL, hM, by rw [W_same (by rfl) (by rfl), if_pos ⟨rfl, gsG_one List.perm_append_comm _⟩]⟩
    · by_cases c : f1 = x
      · subst c
        rw [if_pos (Or.inl ⟨cA, rfl⟩), if_neg (fun z => cB z.2)]
        obtain ⟨f3, S3, T3, h3⟩ := AS.pick (P := [(l, f1, S1), (h, g2, S2)]) h2 hB hy.1 hy.2 (fun t ht => by
          rcases List.mem_cons.mp ht with rfl | ht
          · exact ⟨ly.symm, xy.symm⟩
          · rw [List.mem_singleton.mp ht]; exact ⟨hy'.symm, fun z => cB (.inr z.symm)⟩)
        have h3 : AS n B ((l, f1, S1) :: (h, g2, S2) :: (y, f3, S3) :: T3) Gs := h3
        have hL := ((h3.turn.join (c := h) r0).turn).join pL2
        have hM := ((h3.close (r1)).turn).join pM2
        refine ⟨_, _, _, _, hL, hM, ?_⟩
        rw [W_more (by rfl) (by rfl), if_neg]
        refine rsG_no1 fun p => ?_
        have q := p.length_eq
        have ne := h3.ne.1 (l, f1, S1) (by simp)
        simp at q ne
        exact ne q
      · have : f1 = y := by rcases cA with z | z; exact absurd z c; exact z
        subst this
        rw [if_neg (fun z => z.elim (fun z => c z.2) (fun z => z.1 cA))]
        obtain ⟨f3, S3, T3, h3⟩ := AS.pick (P := [(l, f1, S1), (h, g2, S2)]) h2 hB hx.1 hx.2 (fun t ht => by
          rcases List.mem_cons.mp ht with rfl | ht
          · exact ⟨lx.symm, xy⟩
          · rw [List.mem_singleton.mp ht]; exact ⟨hx'.symm, fun z => cB (.inl z.symm)⟩)
        have h3 : AS n B ((l, f1, S1) :: (h, g2, S2) :: (x, f3, S3) :: T3) Gs := h3
        have hL := ((h3.turn.join (c := h) r0).turn).join (pL2.trans (by rw [prI_comm x f1]))
        have hM := ((h3.turn.s23.join (c := x) r0).s12.turn).join pM2
        refine ⟨_, _, _, _, hL, hM, ?_⟩
        have hp : ((S1 ++ S2) ++ S3).Perm (S2 ++ (S1 ++ S3)) := by
          rw [List.append_assoc]
          exact List.perm_append_comm_assoc _ _ _
        rw [W_same (by rfl) (by rfl), if_pos ⟨rsG_one hp _, rfl⟩]
  · by_cases cB : f2 = x ∨ f2 = y
    · rw [if_pos (Or.inr cB)]
      have lf2 : l ≠ f2 := by rcases cB with rfl | rfl <;> assumption
      have h2' : AS n B ((h, f2, S2') :: T2') Gs := h2'
      obtain ⟨g1, S1', T3, h3⟩ := AS.pick (P := [(h, f2, S2')]) h2' hB hl.1 hl.2 (fun t ht => by rw [List.mem_singleton.mp ht]; exact ⟨lh, lf2⟩)
      have h3 : AS n B ((h, f2, S2') :: (l, g1, S1') :: T3) Gs := h3
      have : g1 = f1 := by rw [← e1]; exact (AS.far h3.s12 hB).symm
      subst this
      by_cases c : f2 = y
      · subst c
        rw [if_pos (Or.inr ⟨cA, rfl⟩), if_neg (fun z => cA z.1)]
        obtain ⟨f3, S3, T4, h4⟩ := AS.pick (P := [(h, f2, S2'), (l, g1, S1')]) h3 hB hx.1 hx.2 (fun t ht => by
          rcases List.mem_cons.mp ht with rfl | ht
          · exact ⟨hx'.symm, xy⟩
          · rw [List.mem_singleton.mp ht]; exact ⟨lx.symm, fun z => cA (.inl z.symm)⟩)
        have h4 : AS n B ((h, f2, S2') :: (l, g1, S1') :: (x, f3, S3) :: T4) Gs := h4
        have hL := (h4.s12.turn.join (c := h) r0).join (pL2.trans (by rw [prI_comm x f2]))
        have hM := (h4.close (r1)).turn.join (c := x) (pM.trans (by rw [prI_comm h f2]))
        refine ⟨_, _, _, _, hL, hM, ?_⟩
        rw [W_more (by rfl) (by rfl), if_neg]
        refine rsG_no1 fun p => ?_
        have q := p.length_eq
        have ne := h4.ne.1 (h, f2, S2') (by simp)
        simp at q ne
        exact ne q
      · have : f2 = x := by rcases cB with z | z; exact z; exact absurd z c
        subst this
        rw [if_neg (fun z => z.elim (fun z => cA z.1) (fun z => c z.2))]
        obtain ⟨f3, S3, T4, h4⟩ := AS.pick (P := [(h, f2, S2'), (l, g1, S1')]) h3 hB hy.1 hy.2 (fun t ht => by
          rcases List.mem_cons.mp ht with rfl | ht
          · exact ⟨hy'.symm, xy.symm⟩
          · rw [List.mem_singleton.mp ht]; exact ⟨ly.symm, fun z => cA (.inr z.symm)⟩)
        have h4 : AS n B ((h, f2, S2') :: (l, g1, S1') :: (y, f3, S3) :: T4) Gs := h4
        have hL := (h4.s12.turn.join (c := h) r0).join pL2
        have hM := (h4.turn.s12.turn.join (c := f2) r0).join pM2
        exact ⟨_, _, _, _, hL, hM, by rw [W_same (by rfl) (by rfl), if_pos ⟨rsG_one (.refl _) _, rfl⟩]⟩
    · rw [if_neg (fun z => z.elim cA cB)]
      have h1 : AS n B ((l, f1, S1) :: T1) Gs := h1
      by_cases c1 : f1 = h
      · subst c1
        rw [if_pos rfl]
        obtain ⟨f3, S3, T2, h2⟩ := AS.pick (P := [(l, f1, S1)]) h1 hB hx.1 hx.2 (fun t ht => by rw [List.mem_singleton.mp ht]; exact ⟨lx.symm, hx'.symm⟩)
        have h2 : AS n B ((l, f1, S1) :: (x, f3, S3) :: T2) Gs := h2
        have e3 : farE (ptb B) x = f3 := AS.far h2.s12 hB
        rw [e3]
        by_cases c3 : f3 = y
        · subst c3
          rw [if_pos rfl]
          have hL := (h2.close (r1)).close (pL2.trans (by rw [prI_comm x f3, prI_comm l f1]))
          have hM := (h2.turn.join (c := x) r0).close (pM2.trans (by rw [prI_comm f1 f3]))
          exact ⟨_, _, _, _, hL, hM, by rw [W_less (by rfl) (by rfl), if_pos rfl]⟩
        · rw [if_neg c3]
          obtain ⟨f4, S4, T3, h3⟩ := AS.pick (P := [(l, f1, S1), (x, f3, S3)]) h2 hB hy.1 hy.2 (fun t ht => by
            rcases List.mem_cons.mp ht with rfl | ht
            · exact ⟨ly.symm, hy'.symm⟩
            · rw [List.mem_singleton.mp ht]; exact ⟨xy.symm, fun z => c3 z.symm⟩)
          have h3 : AS n B ((l, f1, S1) :: (x, f3, S3) :: (y, f4, S4) :: T3) Gs := h3
          have hL := (h3.close (r1)).turn.join (pL2.trans (by rw [prI_comm l f1]))
          have hM := ((h3.turn.join (c := x) r0).turn).join pM2
          refine ⟨_, _, _, _, hL, hM, ?_⟩
          rw [W_less (by rfl) (by rfl), if_neg]
          refine rsG_no1 fun p => ?_
          have q := p.length_eq
          have ne := h3.ne.1 (l, f1, S1) (by simp)
          simp at q ne
          exact ne (by omega)
      · rw [if_neg c1]
        obtain ⟨g2, S2, T2, h2⟩ := AS.pick (P := [(l, f1, S1)]) h1 hB hh.1 hh.2 (fun t ht => by rw [List.mem_singleton.mp ht]; exact ⟨lh.symm, fun z => c1 z.symm⟩)
        have h2 : AS n B ((l, f1, S1) :: (h, g2, S2) :: T2) Gs := h2
        have : g2 = f2 := by rw [← e2]; exact (AS.far h2.s12 hB).symm
        subst this
        obtain ⟨f3, S3, T3, h3⟩ := AS.pick (P := [(l, f1, S1), (h, g2, S2)]) h2 hB hx.1 hx.2 (fun t ht => by
          rcases List.mem_cons.mp ht with rfl | ht
          · exact ⟨lx.symm, fun z => cA (.inl z.symm)⟩
          · rw [List.mem_singleton.mp ht]; exact ⟨hx'.symm, fun z => cB (.inl z.symm)⟩)
        have h3 : AS n B ((l, f1, S1) :: (h, g2, S2) :: (x, f3, S3) :: T3) Gs := h3
        have e3 : farE (ptb B) x = f3 := AS.far h3.s23.s12 hB
        rw [e3]
        by_cases c3 : f3 = y
        · subst c3
          rw [if_pos rfl]
          have hL := ((h3.turn.join (c := h) r0).s12).close (pL2.trans (by rw [prI_comm x f3]))
          have hM := (h3.turn.s23.join (c := x) r0).join (pM2.trans (by rw [prI_comm h f3]))
          refine ⟨_, _, _, _, hL, hM, ?_⟩
          rw [W_less (by rfl) (by rfl), if_neg]
          refine rsG_no1 fun p => ?_
          have q := p.length_eq
          have ne := h3.ne.1 (x, f3, S3) (by simp)
          simp at q ne
          exact ne (by omega)
        · rw [if_neg c3]
          obtain ⟨f4, S4, T4, h4⟩ := AS.pick (P := [(l, f1, S1), (h, g2, S2), (x, f3, S3)]) h3 hB hy.1 hy.2 (fun t ht => by
            rcases List.mem_cons.mp ht with rfl | ht
            · exact ⟨ly.symm, fun z => cA (.inr z.symm)⟩
            rcases List.mem_cons.mp ht with rfl | ht
            · exact ⟨hy'.symm, fun z => cB (.inr z.symm)⟩
            · rw [List.mem_singleton.mp ht]; exact ⟨xy.symm, fun z => c3 z.symm⟩)
          have h4 : AS n B ((l, f1, S1) :: (h, g2, S2) :: (x, f3, S3) :: (y, f4, S4) :: T4) Gs := h4
          have hL1 := h4.turn.join (c := h) r0
          have hL := (hL1.perm (T' := (x, f3, S3) :: (y, f4, S4) :: (f1, g2, S1 ++ S2) :: T4) (List.perm_middle (l₁ := [(x, f3, S3), (y, f4, S4)]))).turn.join pL2
          have hM1 := h4.turn.s23.join (c := x) r0
          have hM := (hM1.s12.turn.s23.join (c := y) pM2)
          refine ⟨_, _, _, _, hL.s12, hM.s12, ?_⟩
          have a3 : ∀ z ∈ S3, z ∉ S1 ++ S2 := fun z hz hm => by
            rcases List.mem_append.mp hm with hm | hm
            · exact AS.apart (h4.s23) z hm hz
            · exact AS.apart (h4.s12.s23) z hm hz
          have a4 : ∀ z ∈ S4, z ∉ S1 ++ S2 := fun z hz hm => by
            rcases List.mem_append.mp hm with hm | hm
            · exact AS.apart (h4.s34.s23) z hm hz
            · exact AS.apart (h4.s12.s34.s23) z hm hz
          rw [W_same (by rfl) (by rfl), if_neg]
          intro z
          refine rsG_no2 ?_ ?_ z.1
          · exact no_perm (h4.ne.1 (x, f3, S3) (by simp)) a3
          · exact no_perm (h4.ne.1 (y, f4, S4) (by simp)) a4
end Vf

namespace Vf
open PySem PySem.Spec PyProof.Rows L2

/-! ### the kind of any move -/
theorem cutL_perm {n : Int} {L C J : List (Int × Int)} (hL : Lay n L) (h : mvD n L (mD C J) = true) : L.Perm (C ++ cutL L C) := by
  have := (mv_left hL h).1
  rw [← List.append_assoc] at this
  exact (List.perm_append_right_iff _).mp this
theorem prI_sum (a b : Int) : (prI a b).1 + (prI a b).2 = a + b := by unfold prI; simp only; omega
theorem prI_has {a b c : Int} : (c = (prI a b).1 ∨ c = (prI a b).2) ↔ (c = a ∨ c = b) := mem_prI
/-- the shapes of moves -/
theorem mv_shape {n : Int} {L C J : List (Int × Int)} (hL : Lay n L) (h : mvD n L (mD C J) = true) :
    (∃ x y, C = [] ∧ J = [(x, y)] ∧ x < y ∧ x ∈ opensL n L ∧ y ∈ opensL n L) ∨ (∃ p, C = [p] ∧ J = [] ∧ p ∈ L) ∨
    (∃ p e y, C = [p] ∧ J = [prI e y] ∧ p ∈ L ∧ (e = p.1 ∨ e = p.2) ∧ y ∈ opensL n L) ∨
    (∃ p q x y, C = [p, q] ∧ J = [(p.1, x), cpl p.2 y] ∧ p ∈ L ∧ q ∈ L ∧ p.1 < q.1 ∧ ((x = q.1 ∧ y = q.2) ∨ (x = q.2 ∧ y = q.1))) := by
  have hm := movesM_all hL h
  unfold movesM at hm
  rcases List.mem_append.mp hm with hm | hm
  · obtain ⟨x, y, hx, hy, lt, e⟩ := joinsM_lt (opens_asc n L) hm
    injection e with e1 e2
    exact .inl ⟨x, y, e1, e2, lt, hx, hy⟩
  · obtain ⟨p, hp, e | ⟨q, hq, e⟩ | ⟨q, hq, lt, e⟩⟩ := goM_kinds hL.asc hm
    · injection e with e1 e2
      exact .inr (.inl ⟨p, e1, e2, hp⟩)
    · injection e with e1 e2
      refine .inr (.inr (.inl ?_))
      unfold newP at hq
      rcases List.mem_append.mp hq with hq | hq
      · obtain ⟨y, hy, rfl⟩ := List.mem_map.mp hq
        exact ⟨p, p.1, y, e1, by rw [e2, cpl_prI], hp, .inl rfl, hy⟩
      · obtain ⟨y, hy, rfl⟩ := List.mem_map.mp hq
        exact ⟨p, p.2, y, e1, by rw [e2, cpl_prI], hp, .inr rfl, hy⟩
    · have lt' : p.1 < q.1 := by
        rcases lt with lt | ⟨z, lt⟩
        · exact lt
        · have := lay_share hL hp hq (.inl rfl) (.inl z)
          subst this; omega
      rcases e with e | e
      · injection e with e1 e2
        exact .inr (.inr (.inr ⟨p, q, q.1, q.2, e1, e2, hp, hq, lt', .inl ⟨rfl, rfl⟩⟩))
      · injection e with e1 e2
        exact .inr (.inr (.inr ⟨p, q, q.2, q.1, e1, e2, hp, hq, lt', .inr ⟨rfl, rfl⟩⟩))
theorem kind_word {n : Int} {L C J M : List (Int × Int)} (hL : Lay n L) (h : mvD n L (mD C J) = true) (pM : M.Perm (cutL L C ++ J)) :
    ∃ T Gs T' Gs', AS n L T Gs ∧ AS n M T' Gs' ∧ kindL L C J = W T Gs T' Gs' := by
  have pL := cutL_perm hL h
  have op := fun e he => mv_open hL h (e := e) he
  have hB := cutL_lay C hL
  unfold kindL
  rcases mv_shape hL h with ⟨x, y, rfl, rfl, lt, hx, hy⟩ | ⟨p, rfl, rfl, hp⟩ | ⟨p, e, y, rfl, rfl, hp, he, hy⟩ | ⟨p, q, x, y, rfl, rfl, hp, hq, lt, hxy⟩
  · obtain ⟨T, Gs, T', Gs', h1, h2, h3, _⟩ := kind_join (M := M) (x := x) (y := y) hB (op x (.inr (by simp [flat]))) (op y (.inr (by simp [flat]))) (by omega) (by
      rw [show prI x y = (x, y) from prI_self (p := (x, y)) lt]
      exact pM.trans List.perm_append_comm)
    exact ⟨T, Gs, T', Gs', h1.permB (pL.trans (by simp)), h2, h3⟩
  · have cp := hL.cp p hp
    obtain ⟨T, Gs, T', Gs', h1, h2, _, h3⟩ := kind_join (M := L) (x := p.1) (y := p.2) hB (op p.1 (.inl (by simp [flat]))) (op p.2 (.inl (by simp [flat]))) (by omega) (by
      rw [prI_self (by omega)]; exact pL)
    exact ⟨T', Gs', T, Gs, h2, h1.permB (pM.trans (by simp)), h3⟩
  · have cp := hL.cp p hp
    have yL : y ∉ flat L := (mem_opens.mp hy).2
    have y1 : y ≠ p.1 := fun z => yL (z ▸ mem_flat.mpr ⟨p, hp, .inl rfl⟩)
    have y2 : y ≠ p.2 := fun z => yL (z ▸ mem_flat.mpr ⟨p, hp, .inr rfl⟩)
    have oy := op y (.inr (mem_flat.mpr ⟨_, List.mem_singleton.mpr rfl, prI_has.mpr (.inr rfl)⟩))
    have o1 := op p.1 (.inl (by simp [flat]))
    have o2 := op p.2 (.inl (by simp [flat]))
    have pM' : M.Perm (prI e y :: cutL L [p]) := pM.trans List.perm_append_comm
    show ∃ T Gs T' Gs', AS n L T Gs ∧ AS n M T' Gs' ∧ kTrans (farE (ptb (cutL L [p]))) p (prI e y) = W T Gs T' Gs'
    rcases he with rfl | rfl
    · obtain ⟨T, Gs, T', Gs', h1, h2, h3⟩ := kind_trans (L := L) (a := p.2) (e := p.1) (o := y) hB o2 o1 oy (by omega) (fun z => y2 z.symm) (fun z => y1 z.symm) (by rw [prI_comm, prI_self (by omega)]; exact pL) pM'
      refine ⟨T, Gs, T', Gs', h1, h2, ?_⟩
      rw [← h3]
      have k : kTransE p (prI p.1 y) = (p.2, p.1, y) := by
        unfold kTransE
        rw [if_pos (prI_has.mpr (.inl rfl))]
        have := prI_sum p.1 y
        simp only
        rw [this]
        congr 1
        · congr 1 <;> omega
      unfold kTrans
      rw [k]
    · obtain ⟨T, Gs, T', Gs', h1, h2, h3⟩ := kind_trans (L := L) (a := p.1) (e := p.2) (o := y) hB o1 o2 oy (by omega) (fun z => y1 z.symm) (fun z => y2 z.symm) (by rw [prI_self (by omega)]; exact pL) pM'
      refine ⟨T, Gs, T', Gs', h1, h2, ?_⟩
      rw [← h3]
      have k : kTransE p (prI p.2 y) = (p.1, p.2, y) := by
        unfold kTransE
        rw [if_neg (fun z => by rcases prI_has.mp z with z | z; omega; exact y1 z.symm)]
        have := prI_sum p.2 y
        simp only
        rw [this]
        congr 1
        · congr 1 <;> omega
      unfold kTrans
      rw [k]
  · have cp := hL.cp p hp
    have cq := hL.cp q hq
    have ne : p ≠ q := fun z => by subst z; omega
    obtain ⟨n1, n2, n3, n4⟩ := nd_two hL hp hq ne
    have o1 := op p.1 (.inl (by simp [flat]))
    have o2 := op p.2 (.inl (by simp [flat]))
    have o3 := op q.1 (.inl (by simp [flat]))
    have o4 := op q.2 (.inl (by simp [flat]))
    have pxy : prI x y = q := by
      rcases hxy with ⟨rfl, rfl⟩ | ⟨rfl, rfl⟩
      · exact prI_self (by omega)
      · rw [prI_comm]; exact prI_self (by omega)
    have ox : x ∈ endsL n ∧ x ∉ flat (cutL L [p, q]) := by rcases hxy with ⟨rfl, rfl⟩ | ⟨rfl, rfl⟩ <;> assumption
    have oy : y ∈ endsL n ∧ y ∉ flat (cutL L [p, q]) := by rcases hxy with ⟨rfl, rfl⟩ | ⟨rfl, rfl⟩ <;> assumption
    have d : p.1 < x ∧ p.1 ≠ y ∧ p.2 ≠ x ∧ p.2 ≠ y ∧ x ≠ y := by
      rcases hxy with ⟨rfl, rfl⟩ | ⟨rfl, rfl⟩ <;> (refine ⟨?_, ?_, ?_, ?_, ?_⟩ <;> omega)
    obtain ⟨T, Gs, T', Gs', h1, h2, h3⟩ := kind_swap (L := L) (l := p.1) (h := p.2) (x := x) (y := y) (M := M) hB o1 o2 ox oy (by omega) (by omega) d.2.1 d.2.2.1 d.2.2.2.1 d.2.2.2.2 (by rw [pxy, prI_self (by omega)]; exact pL) (by
      rw [show prI p.1 x = (p.1, x) from prI_self (p := (p.1, x)) d.1, ← cpl_prI]
      exact pM.trans List.perm_append_comm)
    refine ⟨T, Gs, T', Gs', h1, h2, ?_⟩
    rw [← h3]
    show kSwap (farE (ptb (cutL L [p, q]))) p q [(p.1, x), cpl p.2 y] = _
    have sx : farE (ptb (cutL L [p, q])) q.1 = q.2 ↔ farE (ptb (cutL L [p, q])) x = y := by
      rcases hxy with ⟨rfl, rfl⟩ | ⟨rfl, rfl⟩
      · exact Iff.rfl
      · exact ⟨fun z => far_sym hB o3 z, fun z => far_sym hB o4 z⟩
    have in1 : ∀ e : Int, (e = q.1 ∨ e = q.2) ↔ (e = x ∨ e = y) := fun e => by
      rcases hxy with ⟨rfl, rfl⟩ | ⟨rfl, rfl⟩
      · exact Iff.rfl
      · exact or_comm
    unfold kSwap swW
    generalize farE (ptb (cutL L [p, q])) p.1 = f1
    generalize farE (ptb (cutL L [p, q])) p.2 = f2
    generalize farE (ptb (cutL L [p, q])) q.1 = f3 at sx ⊢
    generalize farE (ptb (cutL L [p, q])) x = f4 at sx ⊢
    have c1 : ∀ f : Int, cpl p.1 f ∈ [(p.1, x), cpl p.2 y] ↔ f = x := fun f => by
      simp only [List.mem_cons, List.not_mem_nil, or_false]
      constructor
      · rintro (z | z)
        · rw [show (p.1, x) = cpl p.1 x by unfold cpl; rw [if_pos d.1]] at z
          rcases cpl_inj z with z | z
          · exact z.2
          · rw [← z.1] at d; omega
        · rcases cpl_inj z with z | z
          · omega
          · exact absurd z.1 d.2.1
      · rintro rfl
        exact .inl (by unfold cpl; rw [if_pos d.1])
    have c2 : ∀ f : Int, cpl p.2 f ∈ [(p.1, x), cpl p.2 y] ↔ f = y := fun f => by
      simp only [List.mem_cons, List.not_mem_nil, or_false]
      constructor
      · rintro (z | z)
        · rw [show (p.1, x) = cpl p.1 x by unfold cpl; rw [if_pos d.1]] at z
          rcases cpl_inj z with z | z
          · omega
          · exact absurd z.1 d.2.2.1
        · rcases cpl_inj z with z | z
          · exact z.2
          · exact absurd z.1 d.2.2.2.1
      · rintro rfl
        exact .inr rfl
    have hin : (if f1 = q.1 ∨ f1 = q.2 then cpl p.1 f1 else cpl p.2 f2) ∈ [(p.1, x), cpl p.2 y] ↔ ((f1 = x ∨ f1 = y) ∧ f1 = x) ∨ (¬ (f1 = x ∨ f1 = y) ∧ f2 = y) := by
      by_cases a1 : f1 = x ∨ f1 = y
      · rw [if_pos ((in1 _).mpr a1), c1]
        exact ⟨fun z => .inl ⟨a1, z⟩, fun z => z.elim (fun z => z.2) fun z => absurd a1 z.1⟩
      · rw [if_neg (fun z => a1 ((in1 _).mp z)), c2]
        exact ⟨fun z => .inr ⟨a1, z⟩, fun z => z.elim (fun z => absurd z.1 a1) fun z => z.2⟩
    simp only [hin]
    simp only [in1, sx]
end Vf

namespace Vf
open PySem PySem.Spec PyProof.Rows L2

/-! ### what hangs together by couplings -/
def IsE (z e : Int) : Prop := e = z ∨ e = 0 - z
structure Grp (n : Int) (L : List (Int × Int)) (S : List Int) (row : Bool) : Prop where
  rg : ∀ z ∈ S, 1 ≤ z ∧ z ≤ n
  nd : S.Nodup
  ne : S ≠ []
  inn : ∀ z ∈ S, ∀ e, IsE z e → ptb L e ≠ 0 → ab (ptb L e) ∈ S
  all : ∀ P : Int → Prop, (∃ z ∈ S, P z) → (∀ z ∈ S, P z → ∀ e, IsE z e → ptb L e ≠ 0 → P (ab (ptb L e))) → ∀ z ∈ S, P z
  opn : row = true → ∃ z ∈ S, ∃ e, IsE z e ∧ ptb L e = 0
  cls : row = false → ∀ z ∈ S, ∀ e, IsE z e → ptb L e ≠ 0
/-- what spreads along a list in both directions -/
theorem spread {P : Int → Prop} : ∀ {r : List Int}, (∀ u x y v, r = u ++ x :: y :: v → (P x ↔ P y)) → ∀ x ∈ r, P x → ∀ y ∈ r, P y
  | [], _, _, h, _, _, _ => nomatch h
  | [a], _, x, hx, px, y, hy => by rw [List.mem_singleton.mp hx] at px; rw [List.mem_singleton.mp hy]; exact px
  | a :: b :: t, h, x, hx, px, y, hy => by
    have ih := spread (r := b :: t) (P := P) (fun u x y v e => h (a :: u) x y v (by rw [e]; rfl))
    have ab' := h [] a b t rfl
    have hb : P b := by
      rcases List.mem_cons.mp hx with rfl | hx
      · exact ab'.mp px
      · exact ih x hx px b (by simp)
    rcases List.mem_cons.mp hy with rfl | hy
    · exact ab'.mpr hb
    · exact ih b (by simp) hb y hy
theorem ab_pos {x : Int} (h : x ≠ 0) : 1 ≤ ab x := by unfold ab; omega
theorem ab_cases (x : Int) : ab x = x ∨ ab x = -x := by unfold ab; omega
theorem isE_ab {x e : Int} : IsE (ab x) e ↔ e = x ∨ e = -x := by
  unfold IsE
  rcases ab_cases x with h | h <;> rw [h] <;> omega
theorem ab_ab (x : Int) : ab (-x) = ab x := by unfold ab; omega
variable {n : Int} {L : List (Int × Int)} {R G : List (List Int)}
/-- of what reading it is, of one that steps lead through -/
theorem grp_of {r S : List Int} {row : Bool} (ne : r ≠ []) (pS : S.Perm (r.map ab)) (nd : (r.map ab).Nodup) (rg : ∀ x ∈ r, 1 ≤ ab x ∧ ab x ≤ n)
    (st : ∀ u x y v, r = u ++ x :: y :: v → ptb L x = -y ∧ ptb L (-y) = x) (last : ∀ u x, r = u ++ [x] → ptb L x = 0 ∨ ∃ y ∈ r, ab (ptb L x) = ab y) (first : ∀ x v, r = x :: v → ptb L (-x) = 0 ∨ ∃ y ∈ r, ab (ptb L (-x)) = ab y)
    (hr : row = true → ∃ x v, r = x :: v ∧ ptb L (-x) = 0) (hc : row = false → (∀ x ∈ r, ptb L x ≠ 0 ∧ ptb L (-x) ≠ 0)) : Grp n L S row := by
  have mem : ∀ {z}, z ∈ S ↔ ∃ x ∈ r, ab x = z := fun {z} => by rw [pS.mem_iff, List.mem_map]
  refine ⟨fun z hz => ?_, pS.symm.nodup nd, fun z => ?_, fun z hz e he h0 => ?_, fun P hP cl => ?_, fun hrow => ?_, fun hrow z hz e he => ?_⟩
  · obtain ⟨x, hx, rfl⟩ := mem.mp hz; exact rg x hx
  · rw [z] at pS
    have := pS.length_eq
    match r, ne with
    | _ :: _, _ => simp at this
  · obtain ⟨x, hx, rfl⟩ := mem.mp hz
    obtain ⟨u, v, er⟩ := List.append_of_mem hx
    rcases isE_ab.mp he with rfl | rfl
    · match v, er with
      | [], er =>
        rcases last u e er with h | ⟨y, hy, h⟩
        · exact absurd h h0
        · rw [h]; exact mem.mpr ⟨y, hy, rfl⟩
      | y :: v, er =>
        rw [(st u e y v er).1, ab_ab]
        exact mem.mpr ⟨y, by rw [er]; simp, rfl⟩
    · by_cases hu : u = []
      · subst hu
        rcases first x v er with h | ⟨y, hy, h⟩
        · exact absurd h h0
        · rw [h]; exact mem.mpr ⟨y, hy, rfl⟩
      · have eu := (List.dropLast_concat_getLast hu).symm
        generalize u.dropLast = w at eu
        generalize u.getLast hu = y at eu
        have er2 : r = w ++ y :: x :: v := by rw [er, eu]; simp
        rw [(st w y x v er2).2]
        exact mem.mpr ⟨y, by rw [er2]; simp, rfl⟩
  · obtain ⟨z, hz, pz⟩ := hP
    obtain ⟨x, hx, rfl⟩ := mem.mp hz
    intro z' hz'
    obtain ⟨y, hy, rfl⟩ := mem.mp hz'
    refine spread (P := fun x => P (ab x)) (r := r) (fun u a b v e => ?_) x hx pz y hy
    have s := st u a b v e
    have ha : a ∈ r := by rw [e]; simp
    have hb : b ∈ r := by rw [e]; simp
    have a0 : a ≠ 0 := fun z => by have := rg a ha; subst z; simp [ab] at this
    have b0 : b ≠ 0 := fun z => by have := rg b hb; subst z; simp [ab] at this
    constructor
    · intro pa
      have := cl (ab a) (mem.mpr ⟨a, ha, rfl⟩) pa a (isE_ab.mpr (.inl rfl)) (by rw [s.1]; omega)
      rwa [s.1, ab_ab] at this
    · intro pb
      have := cl (ab b) (mem.mpr ⟨b, hb, rfl⟩) pb (-b) (isE_ab.mpr (.inr rfl)) (by rw [s.2]; exact a0)
      rwa [s.2] at this
  · obtain ⟨x, v, e, h⟩ := hr hrow
    exact ⟨ab x, mem.mpr ⟨x, by rw [e]; simp, rfl⟩, -x, isE_ab.mpr (.inr rfl), h⟩
  · obtain ⟨x, hx, rfl⟩ := mem.mp hz
    rcases isE_ab.mp he with rfl | rfl
    · exact (hc hrow _ hx).1
    · exact (hc hrow _ hx).2
/-- the groups with their kinds -/
def flags (T : List Rw) (Gs : List (List Int)) : List (List Int × Bool) := T.map (fun t => (t.2.2, true)) ++ Gs.map fun s => (s, false)
theorem AS.grps {T : List Rw} {Gs : List (List Int)} (h : AS n L T Gs) (hL : Lay n L) : ∀ g ∈ flags T Gs, Grp n L g.1 g.2 := by
  obtain ⟨R, G, hs, h1, h2⟩ := h
  intro g hg
  rcases List.mem_append.mp hg with hg | hg
  · obtain ⟨t, ht, rfl⟩ := List.mem_map.mp hg
    obtain ⟨i, hi, ei⟩ := List.mem_iff_getElem.mp ht
    obtain ⟨r, hr, ⟨_, q⟩⟩ := pair_get2 h1 (i := i) (p := t) (by rw [List.getElem?_eq_getElem hi, ei])
    have hr := List.mem_of_getElem? hr
    refine grp_of (hs.neR r hr) q (hs.ndR hr) (fun x hx => hs.rangeR hr hx) (fun u x y v e => ?_) (fun u x e => .inl (hs.open1 hL hr e)) (fun x v e => .inl (hs.open2 hL hr e)) (fun _ => ?_) (fun z => nomatch z)
    · have := hs.row hL hr e
      exact ⟨this.1, this.2.1⟩
    · match r, hs.neR r hr, hr with
      | x :: v, _, hr => exact ⟨x, v, rfl, hs.open2 hL hr rfl⟩
  · obtain ⟨s, hsm, rfl⟩ := List.mem_map.mp hg
    obtain ⟨i, hi, ei⟩ := List.mem_iff_getElem.mp hsm
    obtain ⟨r, hr, q⟩ := pair_get2 h2 (i := i) (p := s) (by rw [List.getElem?_eq_getElem hi, ei])
    have hr := List.mem_of_getElem? hr
    have io : ∀ x ∈ r, ptb L x ≠ 0 ∧ ptb L (-x) ≠ 0 := fun x hx => by
      have := hs.ringIn hr hx
      exact ⟨(ptb_some hL this.1).1, (ptb_some hL this.2).1⟩
    refine grp_of (hs.neG r hr) q (hs.ndG hr) (fun x hx => hs.rangeG hr hx) (fun u x y v e => ?_) (fun u x e => .inr ?_) (fun x v e => .inr ?_) (fun z => nomatch z) (fun _ => io)
    · match r, hs.neG r hr, hr with
      | a :: t, _, hr =>
        have := hs.ring hL (u := u) (v := v ++ [a]) (x := x) (y := y) hr (by
          have : a :: (t ++ [a]) = (a :: t) ++ [a] := rfl
          rw [this, e]; simp)
        exact ⟨this.1, this.2.1⟩
    · match r, hs.neG r hr, hr with
      | a :: t, _, hr =>
        have := hs.ring hL (u := u) (v := []) (x := x) (y := a) hr (by
          have : a :: (t ++ [a]) = (a :: t) ++ [a] := rfl
          rw [this, e]; simp)
        exact ⟨a, by simp, by rw [this.1, ab_ab]⟩
    · subst e
      obtain ⟨u, b, eb⟩ : ∃ u b, x :: v = u ++ [b] := ⟨(x :: v).dropLast, (x :: v).getLast (by simp), (List.dropLast_concat_getLast (by simp)).symm⟩
      have := hs.ring hL (u := u) (v := []) (x := b) (y := x) hr (by
        have : x :: (v ++ [x]) = (x :: v) ++ [x] := rfl
        rw [this, eb]; simp)
      exact ⟨b, by rw [eb]; simp, by rw [this.2.1]⟩
theorem flags_pcs {T : List Rw} {Gs : List (List Int)} : (flags T Gs).flatMap (·.1) = T.flatMap (fun t => t.2.2) ++ Gs.flatten := by
  unfold flags
  rw [List.flatMap_append, List.flatMap_map, List.flatMap_map]
  congr 1
  induction Gs with
  | nil => rfl
  | cons s Gs ih => rw [List.flatMap_cons, ih, List.flatten_cons]
theorem filt_f {α : Type} (l : List α) : l.filter (fun _ => false) = [] := List.filter_eq_nil_iff.mpr fun _ _ z => nomatch z
theorem flags_rows {T : List Rw} {Gs : List (List Int)} {D : List (List Int × Bool)} (p : D.Perm (flags T Gs)) : srtR ((D.filter (·.2)).map fun g => mS g.1) = rsG T ∧ srtR ((D.filter fun g => !g.2).map fun g => mS g.1) = gsG Gs := by
  have e1 : (flags T Gs).filter (·.2) = T.map fun t => (t.2.2, true) := by
    unfold flags
    rw [List.filter_append, List.filter_map, List.filter_map]
    simp only [Function.comp_def, filt_t, filt_f]; simp
  have e2 : ((flags T Gs).filter fun g => !g.2) = Gs.map fun s => (s, false) := by
    unfold flags
    rw [List.filter_append, List.filter_map, List.filter_map]
    simp only [Function.comp_def, Bool.not_true, Bool.not_false, filt_t, filt_f]; simp
  constructor
  · unfold rsG
    refine srtR_eq ?_
    have := (p.filter (·.2)).map fun g => mS g.1
    rw [e1, List.map_map] at this
    exact this
  · unfold gsG
    refine srtR_eq ?_
    have := (p.filter fun g => !g.2).map fun g => mS g.1
    rw [e2, List.map_map] at this
    exact this
theorem ptb_par {L : List (Int × Int)} {e : Int} (e0 : e ≠ 0) : ptb L e = (parI L e).getD 0 := by unfold ptb; rw [if_neg e0]
theorem ab_if (i : Int) : (if i < 0 then -i else i) = ab i := by unfold ab; split <;> omega
theorem flatMap_few {α : Type} (f : α → List Int) : ∀ {l : List α}, (∀ a ∈ l, f a ≠ []) → l.length ≤ (l.flatMap f).length
  | [], _ => Nat.le_refl _
  | a :: l, h => by
    have := flatMap_few f (l := l) fun b hb => h b (List.mem_cons_of_mem _ hb)
    have h1 : 1 ≤ (f a).length := by
      have := h a (by simp)
      match f a, this with
      | _ :: _, _ => simp
    rw [List.flatMap_cons, List.length_append, List.length_cons]
    omega
theorem AS.few {T : List Rw} {Gs : List (List Int)} (h : AS n L T Gs) (hL : Lay n L) : (flags T Gs).length ≤ 60 ∧ ∀ g ∈ flags T Gs, g.1.length ≤ 60 := by
  have p := h.pcs
  rw [← flags_pcs] at p
  have l := p.length_eq
  rw [rng_len] at l
  have n60 := hL.n60
  have n1 := hL.n1
  constructor
  · have := flatMap_few (fun g : List Int × Bool => g.1) (l := flags T Gs) fun g hg => (h.grps hL g hg).ne
    omega
  · intro g hg
    have := List.length_flatMap (l := flags T Gs) (f := fun g : List Int × Bool => g.1)
    obtain ⟨s, t, e⟩ := List.append_of_mem hg
    rw [e, List.flatMap_append, List.flatMap_cons, List.length_append, List.length_append] at l
    omega
/-- groups stand apart -/
theorem flags_apart {T : List Rw} {Gs : List (List Int)} {D Rl : List (List Int × Bool)} {g : List Int × Bool} (h : AS n L T Gs) (p : (D ++ g :: Rl).Perm (flags T Gs)) {z : Int} (hz : z ∈ g.1) : ∀ g' ∈ Rl, z ∉ g'.1 := fun g' hg' hz' => by
  have nd := h.nd
  rw [← flags_pcs] at nd
  have nd2 := ((p.flatMap_right (fun g : List Int × Bool => g.1)).symm).nodup nd
  rw [List.flatMap_append, List.flatMap_cons] at nd2
  have := (List.nodup_append.mp (List.nodup_append.mp nd2).2.1).2.2 z hz z (List.mem_flatMap.mpr ⟨g', hg', hz'⟩)
  exact this rfl
theorem flags_cover {T : List Rw} {Gs : List (List Int)} {D : List (List Int × Bool)} (h : AS n L T Gs) (p : D.Perm (flags T Gs)) {z : Int} : (∃ g ∈ D, z ∈ g.1) ↔ 1 ≤ z ∧ z ≤ n := by
  have q := h.pcs
  rw [← flags_pcs] at q
  have := (p.flatMap_right (fun g : List Int × Bool => g.1)).trans q
  rw [← List.mem_flatMap, this.mem_iff, mem_rng]
  omega
theorem ils_hid {H H' : Hp} {t : List Addr} {xs : List V} {R : List (List Int)} (s : Same H H') (h : ILs (Hid t H) xs R) : ILs (Hid t H') xs R := h.mono (hid_same s)
theorem eqv_dR (r t : List Int) : PyData.eqv (dR r) (dR t) = decide (r = t) := eqv_ints r t
theorem eqv_dRs (R T : List (List Int)) : PyData.eqv (dRs R) (dRs T) = decide (R = T) := by
  unfold dRs
  show PyData.eqvAll (R.map dR) (T.map dR) = _
  induction R generalizing T with
  | nil => cases T with
    | nil => simp [PyData.eqvAll]
    | cons q M => simp [PyData.eqvAll]
  | cons p L ih => cases T with
    | nil => simp [PyData.eqvAll]
    | cons q M =>
      rw [List.map_cons, List.map_cons]
      show (PyData.eqv (dR p) (dR q) && PyData.eqvAll (L.map dR) (M.map dR)) = _
      rw [eqv_dR, ih]
      by_cases h1 : p = q <;> by_cases h2 : L = M <;> simp [h1, h2]
theorem shaped_dRs (R : List (List Int)) : SeqAt.shaped (dRs R) = true := by
  have h : ∀ R : List (List Int), PyData.canLayAll0 (R.map dR) = true ∧ PyData.depthAll (R.map dR) ≤ 1 := fun R => by
    induction R with
    | nil => exact ⟨by simp only [List.map_nil, PyData.canLayAll0], by simp only [List.map_nil, PyData.depthAll]; omega⟩
    | cons r R ih =>
      have h1 : (dR r).canLay0 = true := (lay_ints r).1
      have h2 := depth_dR r
      exact ⟨by simp only [List.map_cons, PyData.canLayAll0, h1, ih.1, Bool.and_self], by simp only [List.map_cons, PyData.depthAll]; omega⟩
  obtain ⟨a, b⟩ := h R
  unfold SeqAt.shaped
  have h1 : (dRs R).canLay0 = true := by simp only [dRs, PyData.canLay0, a]
  rw [h1, Bool.true_and]
  exact decide_eq_true (by simp only [dRs, PyData.depth]; omega)
/-- lists of lists of ints compared -/
theorem r_eqRs {K : PySem.W.Frag} {H : Hp} {Q : VK} {a b : Addr} {R T : List (List Int)} (ha : LL H a R) (hb : LL H b T) (q : Q (.bl (decide (R = T))) H) : rEqD K (.ref a) (.ref b) H Q :=
  ⟨dRs R, dRs T, ha.dp, hb.dp, shaped_dRs R, shaped_dRs T, by rw [eqv_dRs]; exact q⟩
/-- the groups of a layout are told by the layout -/
def fg (g : List Int × Bool) : List Int × Bool := (mS g.1, g.2)
theorem fg_nd {T : List Rw} {Gs : List (List Int)} (hL : Lay n L) (h : AS n L T Gs) : ((flags T Gs).map fg).Nodup := by
  have nd := h.nd
  rw [← flags_pcs] at nd
  have pw := (List.pairwise_flatMap.mp nd).2
  have ne : ∀ g ∈ flags T Gs, g.1 ≠ [] := fun g hg => (h.grps hL g hg).ne
  refine List.pairwise_map.mpr (List.Pairwise.imp_of_mem (fun {a b} ha hb (z : ∀ x ∈ a.1, ∀ y ∈ b.1, x ≠ y) e => ?_) pw)
  have e1 : mS a.1 = mS b.1 := congrArg Prod.fst e
  have pm := mS_eq.mp e1
  match hx : a.1, ne a ha with
  | x :: t, _ => exact z x (by rw [hx]; simp) x (pm.mem_iff.mp (by rw [hx]; simp)) rfl
theorem fg_sub {T T' : List Rw} {Gs Gs' : List (List Int)} (hL : Lay n L) (h : AS n L T Gs) (h' : AS n L T' Gs') : ∀ g ∈ (flags T Gs).map fg, g ∈ (flags T' Gs').map fg := fun g hg => by
  obtain ⟨a, ha, rfl⟩ := List.mem_map.mp hg
  have ga := h.grps hL a ha
  obtain ⟨x, hx⟩ : ∃ x, x ∈ a.1 := by
    match hx : a.1, ga.ne with
    | x :: t, _ => exact ⟨x, by simp⟩
  obtain ⟨b, hb, hxb⟩ := (flags_cover h' (.refl _)).mpr (ga.rg x hx)
  have gb := h'.grps hL b hb
  have s1 : ∀ z ∈ a.1, z ∈ b.1 := ga.all (fun z => z ∈ b.1) ⟨x, hx, hxb⟩ fun z _ hz e he h0 => gb.inn z hz e he h0
  have s2 : ∀ z ∈ b.1, z ∈ a.1 := gb.all (fun z => z ∈ a.1) ⟨x, hxb, hx⟩ fun z _ hz e he h0 => ga.inn z hz e he h0
  have pm : a.1.Perm b.1 := (List.perm_ext_iff_of_nodup ga.nd gb.nd).mpr fun z => ⟨s1 z, s2 z⟩
  have ef : a.2 = b.2 := by
    cases h1 : a.2 with
    | true =>
      cases h2 : b.2 with
      | true => rfl
      | false =>
        obtain ⟨z, hz, e, he, h0⟩ := ga.opn h1
        exact absurd h0 (gb.cls h2 z (s1 z hz) e he)
    | false =>
      cases h2 : b.2 with
      | false => rfl
      | true =>
        obtain ⟨z, hz, e, he, h0⟩ := gb.opn h2
        exact absurd h0 (ga.cls h1 z (s2 z hz) e he)
  exact List.mem_map.mpr ⟨b, hb, by unfold fg; rw [mS_eq.mpr pm.symm, ef]⟩
theorem fg_rows (T : List Rw) (Gs : List (List Int)) : ((((flags T Gs).map fg).filter (·.2)).map (·.1)) = T.map (fun t => mS t.2.2) ∧ ((((flags T Gs).map fg).filter fun g => !g.2).map (·.1)) = Gs.map mS := by
  unfold flags fg
  rw [List.map_append, List.map_map, List.map_map, List.filter_append, List.filter_append, List.filter_map, List.filter_map, List.filter_map, List.filter_map]
  simp only [Function.comp_def, Bool.not_true, Bool.not_false, filt_t, filt_f]
  simp [Function.comp_def]
theorem groups_uniq {T T' : List Rw} {Gs Gs' : List (List Int)} (hL : Lay n L) (h : AS n L T Gs) (h' : AS n L T' Gs') : rsG T = rsG T' ∧ gsG Gs = gsG Gs' := by
  have pm : ((flags T Gs).map fg).Perm ((flags T' Gs').map fg) := (List.perm_ext_iff_of_nodup (fg_nd hL h) (fg_nd hL h')).mpr fun g => ⟨fg_sub hL h h' g, fg_sub hL h' h g⟩
  have e := fg_rows T Gs
  have e' := fg_rows T' Gs'
  constructor
  · unfold rsG
    rw [← e.1, ← e'.1]
    exact srtR_eq ((pm.filter _).map _)
  · unfold gsG
    rw [← e.2, ← e'.2]
    exact srtR_eq ((pm.filter _).map _)
end Vf

namespace K8
open PySem PySem.Spec PyProof.Rows L2 Vf
def topS (i : Nat) : Stmt := PySem.Challenge.pw_crosshitch_k08_kinds_of_moves.main.body.getD i (.Pass ⟨0, 0, 0, 0⟩)
abbrev s_is_integer : Stmt := topS 7
abbrev N_is_integer : List Str := ["value"]
theorem sc_is_integer : FnScope ["value"] ["value"] (defScope s_is_integer) := ⟨rfl, rfl, rfl, by decide +kernel, rfl, by decide +kernel, by decide +kernel⟩
abbrev s_are_integers : Stmt := topS 8
abbrev N_are_integers : List Str := ["one", "other"]
theorem sc_are_integers : FnScope ["one", "other"] ["one", "other"] (defScope s_are_integers) := ⟨rfl, rfl, rfl, by decide +kernel, rfl, by decide +kernel, by decide +kernel⟩
abbrev s_is_coupling : Stmt := topS 9
abbrev N_is_coupling : List Str := ["pieces", "value", "low", "high"]
theorem sc_is_coupling : FnScope ["pieces", "value", "low", "high"] ["pieces", "value"] (defScope s_is_coupling) := ⟨rfl, rfl, rfl, by decide +kernel, rfl, by decide +kernel, by decide +kernel⟩
abbrev s_coupling_of : Stmt := topS 10
abbrev N_coupling_of : List Str := ["end", "other"]
theorem sc_coupling_of : FnScope ["end", "other"] ["end", "other"] (defScope s_coupling_of) := ⟨rfl, rfl, rfl, by decide +kernel, rfl, by decide +kernel, by decide +kernel⟩
abbrev s_opens_in : Stmt := topS 11
abbrev N_opens_in : List Str := ["pieces", "partners", "end"]
theorem sc_opens_in : FnScope ["pieces", "partners", "end"] ["pieces", "partners"] (defScope s_opens_in) := ⟨rfl, rfl, rfl, by decide +kernel, rfl, by decide +kernel, by decide +kernel⟩
abbrev s_couplings_in : Stmt := topS 12
abbrev N_couplings_in : List Str := ["partners"]
theorem sc_couplings_in : FnScope ["partners"] ["partners"] (defScope s_couplings_in) := ⟨rfl, rfl, rfl, by decide +kernel, rfl, by decide +kernel, by decide +kernel⟩
abbrev s_check_pieces : Stmt := topS 13
abbrev N_check_pieces : List Str := ["pieces"]
theorem sc_check_pieces : FnScope ["pieces"] ["pieces"] (defScope s_check_pieces) := ⟨rfl, rfl, rfl, by decide +kernel, rfl, by decide +kernel, by decide +kernel⟩
abbrev s_partners_or_wrong : Stmt := topS 14
abbrev N_partners_or_wrong : List Str := ["pieces", "items", "partners", "ahead", "item", "low", "high"]
theorem sc_partners_or_wrong : FnScope ["pieces", "items", "partners", "ahead", "item", "low", "high"] ["pieces", "items"] (defScope s_partners_or_wrong) := ⟨rfl, rfl, rfl, by decide +kernel, rfl, by decide +kernel, by decide +kernel⟩
abbrev s_checked_partners : Stmt := topS 15
abbrev N_checked_partners : List Str := ["pieces", "layout", "partners"]
theorem sc_checked_partners : FnScope ["pieces", "layout", "partners"] ["pieces", "layout"] (defScope s_checked_partners) := ⟨rfl, rfl, rfl, by decide +kernel, rfl, by decide +kernel, by decide +kernel⟩
abbrev s__are_ascending_couplings : Stmt := topS 18
abbrev N__are_ascending_couplings : List Str := ["pieces", "items", "item"]
theorem sc__are_ascending_couplings : FnScope ["pieces", "items", "item"] ["pieces", "items"] (defScope s__are_ascending_couplings) := ⟨rfl, rfl, rfl, by decide +kernel, rfl, by decide +kernel, by decide +kernel⟩
abbrev s__has_form : Stmt := topS 19
abbrev N__has_form : List Str := ["pieces", "value", "cut", "joined"]
theorem sc__has_form : FnScope ["pieces", "value", "cut", "joined"] ["pieces", "value"] (defScope s__has_form) := ⟨rfl, rfl, rfl, by decide +kernel, rfl, by decide +kernel, by decide +kernel⟩
abbrev s__joins_otherwise : Stmt := topS 20
abbrev N__joins_otherwise : List Str := ["cut", "joined", "low", "high", "near", "far"]
theorem sc__joins_otherwise : FnScope ["cut", "joined", "low", "high", "near", "far"] ["cut", "joined"] (defScope s__joins_otherwise) := ⟨rfl, rfl, rfl, by decide +kernel, rfl, by decide +kernel, by decide +kernel⟩
abbrev s__joins_to_open : Stmt := topS 21
abbrev N__joins_to_open : List Str := ["cut", "joined", "partners", "low", "high"]
theorem sc__joins_to_open : FnScope ["cut", "joined", "partners", "low", "high"] ["cut", "joined", "partners"] (defScope s__joins_to_open) := ⟨rfl, rfl, rfl, by decide +kernel, rfl, by decide +kernel, by decide +kernel⟩
abbrev s_is_move_by_partners : Stmt := topS 22
abbrev N_is_move_by_partners : List Str := ["pieces", "partners", "value", "cut", "joined", "low", "high"]
theorem sc_is_move_by_partners : FnScope ["pieces", "partners", "value", "cut", "joined", "low", "high"] ["pieces", "partners", "value"] (defScope s_is_move_by_partners) := ⟨rfl, rfl, rfl, by decide +kernel, rfl, by decide +kernel, by decide +kernel⟩
abbrev s_checked_move : Stmt := topS 23
abbrev N_checked_move : List Str := ["pieces", "layout", "move", "partners"]
theorem sc_checked_move : FnScope ["pieces", "layout", "move", "partners"] ["pieces", "layout", "move"] (defScope s_checked_move) := ⟨rfl, rfl, rfl, by decide +kernel, rfl, by decide +kernel, by decide +kernel⟩
abbrev s__joins : Stmt := topS 24
abbrev N__joins : List Str := ["ends", "at", "low", "high"]
theorem sc__joins : FnScope ["ends", "at", "low", "high"] ["ends"] (defScope s__joins) := ⟨rfl, rfl, rfl, by decide +kernel, rfl, by decide +kernel, by decide +kernel⟩
abbrev s__transfers : Stmt := topS 25
abbrev N__transfers : List Str := ["coupling", "ends", "joined", "new", "end", "other"]
theorem sc__transfers : FnScope ["coupling", "ends", "joined", "new", "end", "other"] ["coupling", "ends"] (defScope s__transfers) := ⟨rfl, rfl, rfl, by decide +kernel, rfl, by decide +kernel, by decide +kernel⟩
abbrev s__swaps : Stmt := topS 26
abbrev N__swaps : List Str := ["coupling", "others", "swaps", "low", "high", "other", "near", "far"]
theorem sc__swaps : FnScope ["coupling", "others", "swaps", "low", "high", "other", "near", "far"] ["coupling", "others"] (defScope s__swaps) := ⟨rfl, rfl, rfl, by decide +kernel, rfl, by decide +kernel, by decide +kernel⟩
abbrev s_moves_of : Stmt := topS 27
abbrev N_moves_of : List Str := ["pieces", "layout", "partners", "ends", "moves", "at", "coupling"]
theorem sc_moves_of : FnScope ["pieces", "layout", "partners", "ends", "moves", "at", "coupling"] ["pieces", "layout"] (defScope s_moves_of) := ⟨rfl, rfl, rfl, by decide +kernel, rfl, by decide +kernel, by decide +kernel⟩
abbrev s__far_end : Stmt := topS 28
abbrev N__far_end : List Str := ["partners", "end"]
theorem sc__far_end : FnScope ["partners", "end"] ["partners", "end"] (defScope s__far_end) := ⟨rfl, rfl, rfl, by decide +kernel, rfl, by decide +kernel, by decide +kernel⟩
abbrev s__kind_of_swap : Stmt := topS 29
abbrev N__kind_of_swap : List Str := ["partners", "cut", "joined", "low", "high", "near", "far", "across", "back", "in_ring", "start", "end", "rings"]
theorem sc__kind_of_swap : FnScope ["partners", "cut", "joined", "low", "high", "near", "far", "across", "back", "in_ring", "start", "end", "rings"] ["partners", "cut", "joined"] (defScope s__kind_of_swap) := ⟨rfl, rfl, rfl, by decide +kernel, rfl, by decide +kernel, by decide +kernel⟩
abbrev s__kind_of_transfer : Stmt := topS 30
abbrev N__kind_of_transfer : List Str := ["partners", "cut", "joined", "low", "high", "left", "end", "other", "across"]
theorem sc__kind_of_transfer : FnScope ["partners", "cut", "joined", "low", "high", "left", "end", "other", "across"] ["partners", "cut", "joined"] (defScope s__kind_of_transfer) := ⟨rfl, rfl, rfl, by decide +kernel, rfl, by decide +kernel, by decide +kernel⟩
abbrev s__kind_when_cut : Stmt := topS 31
abbrev N__kind_when_cut : List Str := ["partners", "cut", "joined", "low", "high"]
theorem sc__kind_when_cut : FnScope ["partners", "cut", "joined", "low", "high"] ["partners", "cut", "joined"] (defScope s__kind_when_cut) := ⟨rfl, rfl, rfl, by decide +kernel, rfl, by decide +kernel, by decide +kernel⟩
abbrev s_make_named_move : Stmt := topS 32
abbrev N_make_named_move : List Str := ["partners", "move", "cut", "joined", "low", "high", "kind"]
theorem sc_make_named_move : FnScope ["partners", "move", "cut", "joined", "low", "high", "kind"] ["partners", "move"] (defScope s_make_named_move) := ⟨rfl, rfl, rfl, by decide +kernel, rfl, by decide +kernel, by decide +kernel⟩
abbrev s_kind_of : Stmt := topS 33
abbrev N_kind_of : List Str := ["pieces", "layout", "move"]
theorem sc_kind_of : FnScope ["pieces", "layout", "move"] ["pieces", "layout", "move"] (defScope s_kind_of) := ⟨rfl, rfl, rfl, by decide +kernel, rfl, by decide +kernel, by decide +kernel⟩
abbrev s__law_tap : Stmt := topS 35
abbrev N__law_tap : List Str := ["cell", "turn", "whole"]
theorem sc__law_tap : FnScope ["cell", "turn", "whole"] ["cell", "turn"] (defScope s__law_tap) := ⟨rfl, rfl, rfl, by decide +kernel, rfl, by decide +kernel, by decide +kernel⟩
abbrev s__law_draw : Stmt := topS 36
abbrev N__law_draw : List Str := ["tap", "bound", "found"]
theorem sc__law_draw : FnScope ["tap", "bound", "found"] ["tap", "bound"] (defScope s__law_draw) := ⟨rfl, rfl, rfl, by decide +kernel, rfl, by decide +kernel, by decide +kernel⟩
abbrev s__law_cells : Stmt := topS 37
abbrev N__law_cells : List Str := ["script", "many"]
theorem sc__law_cells : FnScope ["script", "many"] ["script", "many"] (defScope s__law_cells) := ⟨rfl, rfl, rfl, by decide +kernel, rfl, by decide +kernel, by decide +kernel⟩
abbrev s__law_ends : Stmt := topS 38
abbrev N__law_ends : List Str := ["pieces", "end"]
theorem sc__law_ends : FnScope ["pieces", "end"] ["pieces"] (defScope s__law_ends) := ⟨rfl, rfl, rfl, by decide +kernel, rfl, by decide +kernel, by decide +kernel⟩
abbrev s__law_pair : Stmt := topS 39
abbrev N__law_pair : List Str := ["one", "other"]
theorem sc__law_pair : FnScope ["one", "other"] ["one", "other"] (defScope s__law_pair) := ⟨rfl, rfl, rfl, by decide +kernel, rfl, by decide +kernel, by decide +kernel⟩
abbrev s__law_partners : Stmt := topS 40
abbrev N__law_partners : List Str := ["layout", "found", "one", "other"]
theorem sc__law_partners : FnScope ["layout", "found", "one", "other"] ["layout"] (defScope s__law_partners) := ⟨rfl, rfl, rfl, by decide +kernel, rfl, by decide +kernel, by decide +kernel⟩
abbrev s__law_layout : Stmt := topS 41
abbrev N__law_layout : List Str := ["tap", "pieces", "left", "found", "part", "one", "other"]
theorem sc__law_layout : FnScope ["tap", "pieces", "left", "found", "part", "one", "other"] ["tap", "pieces"] (defScope s__law_layout) := ⟨rfl, rfl, rfl, by decide +kernel, rfl, by decide +kernel, by decide +kernel⟩
abbrev s__law_after : Stmt := topS 42
abbrev N__law_after : List Str := ["layout", "move", "pair"]
theorem sc__law_after : FnScope ["layout", "move", "pair"] ["layout", "move"] (defScope s__law_after) := ⟨rfl, rfl, rfl, by decide +kernel, rfl, by decide +kernel, by decide +kernel⟩
abbrev s__law_free : Stmt := topS 43
abbrev N__law_free : List Str := ["pieces", "layout", "known", "end"]
theorem sc__law_free : FnScope ["pieces", "layout", "known", "end"] ["pieces", "layout"] (defScope s__law_free) := ⟨rfl, rfl, rfl, by decide +kernel, rfl, by decide +kernel, by decide +kernel⟩
abbrev s__law_any_move : Stmt := topS 44
abbrev N__law_any_move : List Str := ["tap", "pieces", "layout", "free", "forms", "form", "one", "pair", "others", "other", "at", "made_here"]
theorem sc__law_any_move : FnScope ["tap", "pieces", "layout", "free", "forms", "form", "one", "pair", "others", "other", "at", "made_here"] ["tap", "pieces", "layout"] (defScope s__law_any_move) := ⟨rfl, rfl, rfl, by decide +kernel, rfl, by decide +kernel, by decide +kernel⟩
abbrev s__law_groups : Stmt := topS 45
abbrev N__law_groups : List Str := ["pieces", "layout", "known", "left", "found", "some", "is_row", "done", "end", "row", "piece"]
theorem sc__law_groups : FnScope ["pieces", "layout", "known", "left", "found", "some", "is_row", "done", "end", "row", "piece"] ["pieces", "layout"] (defScope s__law_groups) := ⟨rfl, rfl, rfl, by decide +kernel, rfl, by decide +kernel, by decide +kernel⟩
abbrev s__law_word : Stmt := topS 46
abbrev N__law_word : List Str := ["pieces", "layout", "later", "rows", "rings", "others", "more", "changes"]
theorem sc__law_word : FnScope ["pieces", "layout", "later", "rows", "rings", "others", "more", "changes"] ["pieces", "layout", "later"] (defScope s__law_word) := ⟨rfl, rfl, rfl, by decide +kernel, rfl, by decide +kernel, by decide +kernel⟩
abbrev s__law_opposite : Stmt := topS 47
abbrev N__law_opposite : List Str := ["word", "pairs", "one", "other"]
theorem sc__law_opposite : FnScope ["word", "pairs", "one", "other"] ["word"] (defScope s__law_opposite) := ⟨rfl, rfl, rfl, by decide +kernel, rfl, by decide +kernel, by decide +kernel⟩
abbrev s__law_told : Stmt := topS 48
abbrev N__law_told : List Str := ["pieces", "layout", "move", "later", "given", "passed", "word"]
theorem sc__law_told : FnScope ["pieces", "layout", "move", "later", "given", "passed", "word"] ["pieces", "layout", "move"] (defScope s__law_told) := ⟨rfl, rfl, rfl, by decide +kernel, rfl, by decide +kernel, by decide +kernel⟩
abbrev s__law_right : Stmt := topS 49
abbrev N__law_right : List Str := ["tap", "pieces", "layout", "move", "turn"]
theorem sc__law_right : FnScope ["tap", "pieces", "layout", "move", "turn"] ["tap"] (defScope s__law_right) := ⟨rfl, rfl, rfl, by decide +kernel, rfl, by decide +kernel, by decide +kernel⟩
abbrev s_law : Stmt := topS 50
abbrev N_law : List Str := ["script", "cells", "k"]
theorem sc_law : FnScope ["script", "cells", "k"] ["script"] (defScope s_law) := ⟨rfl, rfl, rfl, by decide +kernel, rfl, by decide +kernel, by decide +kernel⟩
abbrev i_InvalidLayout : Stmt := initOf (topS 2)











def sp_is_integer (K : PySem.W.Frag) : Sp := fun vs H Q _ => ∃ (v : V) (d : PyData), vs = [v] ∧ Dt K H v d ∧ Q (.bl (isIntD d)) H
def sp_are_integers (K : PySem.W.Frag) : Sp := fun vs H Q _ => ∃ (v : V) (d : PyData) (u : V) (e : PyData), vs = [v, u] ∧ Dt K H v d ∧ Dt K H u e ∧ Q (.bl (isIntD d && isIntD e)) H
def sp_is_coupling (K : PySem.W.Frag) : Sp := fun vs H Q _ => ∃ (n : Int) (v : V) (d : PyData), vs = [.int n, v] ∧ Dt K H v d ∧ Q (.bl (cpD n d).isSome) H
def sp_coupling_of (K : PySem.W.Frag) : Sp := fun vs H Q _ => ∃ a b : Int, vs = [.int a, .int b] ∧ NewO H (.tup [.int (cpl a b).1, .int (cpl a b).2]) Q
def sp_opens_in (K : PySem.W.Frag) : Sp := fun vs H Q _ => ∃ (n : Int) (a : Addr) (ts : List Int), vs = [.int n, .ref a] ∧ (∃ f, IsF n f ts ∧ n ≤ 60 ∧ H a = some (.lst (ts.map V.int)) ∧ NewO H (.lst (((rng (-n) (2 * n + 1).toNat).filter fun e => decide (f e = 0)).map V.int)) Q)
def sp_couplings_in (K : PySem.W.Frag) : Sp := fun vs H Q _ => ∃ (n : Int) (T : Addr) (ts : List Int) (L : List (Int × Int)), vs = [.ref T] ∧ Lay n L ∧ H T = some (.lst (ts.map V.int)) ∧ IsF n (ptb L) ts ∧ Q (.int (L.length : Nat)) H
def sp_check_pieces (K : PySem.W.Frag) : Sp := fun vs H Q E => ∃ (v : V) (d : PyData), vs = [v] ∧ Dt K H v d ∧ (∀ n, piecesD d = some n → Q .non H) ∧ (piecesD d = none → E (.ref (clsOf K "InvalidPieces")) none H)
def sp_partners_or_wrong (K : PySem.W.Frag) : Sp := fun vs H Q _ => ∃ (n : Int) (a : Addr) (xs : List V) (ds : List PyData), vs = [.int n, .ref a] ∧ 1 ≤ n ∧ n ≤ 60 ∧ H a = some (.lst xs) ∧ DtAll K H xs ds ∧ (∀ L T ts H', Lay n L → ds = L.map dP → Same H H' → H T = none → H' T = some (.lst (ts.map V.int)) → IsF n (ptb L) ts → Q (.ref T) H') ∧ (∀ (i : Nat) H', layW n [] ds = some i → Same H H' → Q (.int i) H')
def sp_checked_partners (K : PySem.W.Frag) : Sp := fun vs H Q E => ∃ (n : Int) (v : V) (d : PyData), vs = [.int n, v] ∧ 1 ≤ n ∧ n ≤ 60 ∧ Dt K H v d ∧ fewD d ∧ (∀ L T ts H', Lay n L → d = dL L → Same H H' → H T = none → H' T = some (.lst (ts.map V.int)) → IsF n (ptb L) ts → Q (.ref T) H') ∧ (∀ i dx H', LayE n d i → Same H H' → H dx = none → H' dx = some (.xd [("index", i)]) → E (.ref (clsOf K "InvalidLayout")) (some dx) H')
def sp__are_ascending_couplings (K : PySem.W.Frag) : Sp := fun vs H Q _ => ∃ (n : Int) (a : Addr) (xs : List V) (ds : List PyData), vs = [.int n, .ref a] ∧ H a = some (.lst xs) ∧ DtAll K H xs ds ∧ ds.length ≤ 2 ∧ Q (.bl (ascD n ds)) H
def sp__has_form (K : PySem.W.Frag) : Sp := fun vs H Q _ => ∃ (n : Int) (v : V) (d : PyData), vs = [.int n, v] ∧ Dt K H v d ∧ ∀ H', Same H H' → Q (.bl (formD n d)) H'
def sp__joins_otherwise (K : PySem.W.Frag) : Sp := fun vs H Q _ => ∃ (a b : Addr) (xs ys : List V) (p q : Int × Int) (J : List (Int × Int)), vs = [.ref a, .ref b] ∧ H a = some (.lst xs) ∧ Prs H xs [p, q] ∧ H b = some (.lst ys) ∧ Prs H ys J ∧ ∀ H', Same H H' → Q (.bl (otherB p q J)) H'
def sp__joins_to_open (K : PySem.W.Frag) : Sp := fun vs H Q _ => ∃ (a b c : Addr) (p q : Int × Int) (n : Int) (L : List (Int × Int)) (ts : List Int), vs = [.ref a, .ref b, .ref c] ∧ H a = some (.tup [.int p.1, .int p.2]) ∧ H b = some (.tup [.int q.1, .int q.2]) ∧ H c = some (.lst (ts.map V.int)) ∧ IsF n (ptb L) ts ∧ Lay n L ∧ (-n ≤ q.1 ∧ q.1 < q.2 ∧ q.2 ≤ n ∧ q.1 ≠ 0 ∧ q.2 ≠ 0) ∧ Q (.bl (openB L p q)) H
def sp_is_move_by_partners (K : PySem.W.Frag) : Sp := fun vs H Q _ => ∃ (n : Int) (c : Addr) (v : V) (L : List (Int × Int)) (ts : List Int) (d : PyData), vs = [.int n, .ref c, v] ∧ H c = some (.lst (ts.map V.int)) ∧ IsF n (ptb L) ts ∧ Lay n L ∧ Dt K H v d ∧ ∀ H', Same H H' → Q (.bl (mvD n L d)) H'
def sp_checked_move (K : PySem.W.Frag) : Sp := fun vs H Q E => ∃ (u : V) (c : PyData) (v : V) (d : PyData) (x : V) (e : PyData), vs = [u, v, x] ∧ Dt K H u c ∧ Dt K H v d ∧ Dt K H x e ∧ fewD d ∧ (∀ n L T ts H', piecesD c = some n → Lay n L → d = dL L → mvD n L e = true → Same H H' → H T = none → H' T = some (.lst (ts.map V.int)) → IsF n (ptb L) ts → Q (.ref T) H') ∧ (piecesD c = none → E (.ref (clsOf K "InvalidPieces")) none H) ∧ (∀ n i dx H', piecesD c = some n → LayE n d i → Same H H' → H dx = none → H' dx = some (.xd [("index", i)]) → E (.ref (clsOf K "InvalidLayout")) (some dx) H') ∧ (∀ n L H', piecesD c = some n → Lay n L → d = dL L → mvD n L e = false → Same H H' → E (.ref (clsOf K "InvalidMove")) none H')
def sp__joins (K : PySem.W.Frag) : Sp := fun vs H Q _ => ∃ (a : Addr) (es : List Int), vs = [.ref a] ∧ H a = some (.lst (es.map V.int)) ∧ es.length ≤ 121 ∧ ∀ p xs H', Same H H' → NewM H H' p xs (joinsM es) → Q (.ref p) H'
def sp__transfers (K : PySem.W.Frag) : Sp := fun vs H Q _ => ∃ (v : V) (p : Int × Int) (a : Addr) (es : List Int), vs = [v, .ref a] ∧ Pr H v p ∧ H a = some (.lst (es.map V.int)) ∧ es.length ≤ 121 ∧ es.Nodup ∧ p.1 ∉ es ∧ p.2 ∉ es ∧ p.1 ≠ p.2 ∧ ∀ pp ys H', Same H H' → NewM H H' pp ys (transM p es) → Q (.ref pp) H'
def sp__swaps (K : PySem.W.Frag) : Sp := fun vs H Q _ => ∃ (v : V) (p : Int × Int) (b : Addr) (xs : List V) (O : List (Int × Int)), vs = [v, .ref b] ∧ Pr H v p ∧ H b = some (.lst xs) ∧ Prs H xs O ∧ O.length ≤ 60 ∧ ∀ pp ys H', Same H H' → NewM H H' pp ys (swapsM p O) → Q (.ref pp) H'
def sp_moves_of (K : PySem.W.Frag) : Sp := fun vs H Q E => ∃ (u : V) (c : PyData) (v : V) (d : PyData), vs = [u, v] ∧ Dt K H u c ∧ Dt K H v d ∧ fewD d ∧ (∀ n L p xs H', piecesD c = some n → Lay n L → d = dL L → Same H H' → NewM H H' p xs (movesM n L) → Q (.ref p) H') ∧ (piecesD c = none → E (.ref (clsOf K "InvalidPieces")) none H) ∧ (∀ n i dx H', piecesD c = some n → LayE n d i → Same H H' → H dx = none → H' dx = some (.xd [("index", i)]) → E (.ref (clsOf K "InvalidLayout")) (some dx) H')
def sp__far_end (K : PySem.W.Frag) : Sp := fun vs H Q _ => ∃ (n : Int) (f : Int → Int) (T : Addr) (ts : List Int) (e : Int) (k : Nat) (y : Int), vs = [.ref T, .int e] ∧ H T = some (.lst (ts.map V.int)) ∧ IsF n f ts ∧ FarN n f k (-e) y ∧ Q (.int y) H
def sp__kind_of_swap (K : PySem.W.Frag) : Sp := fun vs H Q _ => ∃ (n : Int) (T a b : Addr) (ts : List Int) (xs ys : List V) (B : List (Int × Int)) (p r : Int × Int) (J : List (Int × Int)), vs = [.ref T, .ref a, .ref b] ∧ Lay n B ∧ H T = some (.lst (ts.map V.int)) ∧ IsF n (ptb B) ts ∧ H a = some (.lst xs) ∧ Prs H xs [p, r] ∧ H b = some (.lst ys) ∧ Prs H ys J ∧ (∀ e, e = p.1 ∨ e = p.2 ∨ e = r.1 ∨ e = r.2 → e ∈ endsL n ∧ e ∉ flat B) ∧ ∀ H', Same H H' → Q (.str (kSwap (farE (ptb B)) p r J)) H'
def sp__kind_of_transfer (K : PySem.W.Frag) : Sp := fun vs H Q _ => ∃ (n : Int) (T a b : Addr) (ts : List Int) (B : List (Int × Int)) (p q : Int × Int), vs = [.ref T, .ref a, .ref b] ∧ Lay n B ∧ H T = some (.lst (ts.map V.int)) ∧ IsF n (ptb B) ts ∧ H a = some (.tup [.int p.1, .int p.2]) ∧ H b = some (.tup [.int q.1, .int q.2]) ∧ (∀ e, e = p.1 ∨ e = p.2 → e ∈ endsL n ∧ e ∉ flat B) ∧ ∀ H', Same H H' → Q (.str (kTrans (farE (ptb B)) p q)) H'
def sp__kind_when_cut (K : PySem.W.Frag) : Sp := fun vs H Q _ => ∃ (n : Int) (T a b : Addr) (ts : List Int) (xs ys : List V) (B C J : List (Int × Int)), vs = [.ref T, .ref a, .ref b] ∧ Lay n B ∧ H T = some (.lst (ts.map V.int)) ∧ IsF n (ptb B) ts ∧ H a = some (.lst xs) ∧ Prs H xs C ∧ H b = some (.lst ys) ∧ Prs H ys J ∧ (∀ e, e ∈ flat C ∨ e ∈ flat J → e ∈ endsL n ∧ e ∉ flat B) ∧ ((∃ p q r s, C = [p, q] ∧ J = [r, s]) ∨ (∃ p q, C = [p] ∧ J = [q]) ∨ (∃ p, C = [p] ∧ J = []) ∨ (∃ q, C = [] ∧ J = [q])) ∧ ∀ H', Same H H' → Q (.str (kindM (farE (ptb B)) C J)) H'
def sp_make_named_move (K : PySem.W.Frag) : Sp := fun vs H Q _ => ∃ (n : Int) (T : Addr) (v : V) (ts : List Int) (L C J M : List (Int × Int)), vs = [.ref T, v] ∧ Lay n L ∧ Lay n M ∧ H T = some (.lst (ts.map V.int)) ∧ IsF n (ptb L) ts ∧ MvAt H v C J ∧ mvD n L (mD C J) = true ∧ M.Perm (cutL L C ++ J) ∧ ∀ H' us, Same (Hid [T] H) H' → H' T = some (.lst (us.map V.int)) → IsF n (ptb M) us → Q (.str (kindL L C J)) H'
def sp_kind_of (K : PySem.W.Frag) : Sp := fun vs H Q E => ∃ (u : V) (c : PyData) (v : V) (d : PyData) (x : V) (e : PyData), vs = [u, v, x] ∧ Dt K H u c ∧ Dt K H v d ∧ Dt K H x e ∧ fewD d ∧ (∀ n L C J H', piecesD c = some n → Lay n L → d = dL L → e = mD C J → mvD n L e = true → Same H H' → Q (.str (kindL L C J)) H') ∧ (piecesD c = none → E (.ref (clsOf K "InvalidPieces")) none H) ∧ (∀ n i dx H', piecesD c = some n → LayE n d i → Same H H' → H dx = none → H' dx = some (.xd [("index", i)]) → E (.ref (clsOf K "InvalidLayout")) (some dx) H') ∧ (∀ n L H', piecesD c = some n → Lay n L → d = dL L → mvD n L e = false → Same H H' → E (.ref (clsOf K "InvalidMove")) none H')
def sp__law_tap (K : PySem.W.Frag) : Sp := fun vs H Q _ => ∃ c k : Int, vs = [.int c, .int k] ∧ 0 ≤ k ∧ k ≤ 100 ∧ ∀ p H', Same H H' → H p = none → Tap H' p → Q (.ref p) H'
def sp__law_draw (K : PySem.W.Frag) : Sp := fun vs H Q _ => ∃ (t : Addr) (n : Int), vs = [.ref t, .int n] ∧ Tap H t ∧ 0 < n ∧ n < 1000000 ∧ ∀ (r : Int) H', 0 ≤ r → r < n → But t H H' → Tap H' t → Q (.int r) H'
def sp__law_cells (K : PySem.W.Frag) : Sp := fun vs H Q _ => ∃ (a : Addr) (ns : List Int) (m : Int), vs = [.ref a, .int m] ∧ SqL K H a (ns.map V.int) ∧ ns.length ≤ 63 ∧ 1 ≤ m ∧ m ≤ 63 ∧ ∀ p H' (cs : List Int), Same H H' → H p = none → H' p = some (.lst (cs.map V.int)) → cs.length ≤ 64 → Q (.ref p) H'
def sp__law_ends (K : PySem.W.Frag) : Sp := fun vs H Q _ => ∃ n : Int, vs = [.int n] ∧ 1 ≤ n ∧ n ≤ 60 ∧ NewO H (.lst ((endsL n).map V.int)) Q
def sp__law_pair (K : PySem.W.Frag) : Sp := fun vs H Q _ => ∃ a b : Int, vs = [.int a, .int b] ∧ NewO H (.tup [.int (min a b), .int (max a b)]) Q
def sp__law_partners (K : PySem.W.Frag) : Sp := fun vs H Q _ => ∃ (a : Addr) (xs : List V) (L : List (Int × Int)) (n : Int), vs = [.ref a] ∧ SqL K H a xs ∧ Prs H xs L ∧ Lay n L ∧ NewO H (.dK (tab L)) Q
def sp__law_layout (K : PySem.W.Frag) : Sp := fun vs H Q _ => ∃ (t : Addr) (n : Int), vs = [.ref t, .int n] ∧ Tap H t ∧ 1 ≤ n ∧ n ≤ 60 ∧ ∀ p H' L xs, Lay n L → SameX t H H' → Tap H' t → H p = none → H' p = some (.lst xs) → Prs H' xs L → Q (.ref p) H'
def sp__law_after (K : PySem.W.Frag) : Sp := fun vs H Q _ => ∃ (n : Int) (a : Addr) (v : V) (xs : List V) (L C J : List (Int × Int)), vs = [.ref a, v] ∧ Lay n L ∧ H a = some (.lst xs) ∧ Prs H xs L ∧ MvAt H v C J ∧ mvD n L (mD C J) = true ∧ ∀ p H' ys M, Lay n M → M.Perm (L.filter (fun p => decide (p ∈ C) != true) ++ J) → Same H H' → H p = none → H' p = some (.lst ys) → Prs H' ys M → Q (.ref p) H'
def sp__law_free (K : PySem.W.Frag) : Sp := fun vs H Q _ => ∃ (n : Int) (a : Addr) (xs : List V) (L : List (Int × Int)), vs = [.int n, .ref a] ∧ H a = some (.lst xs) ∧ Prs H xs L ∧ Lay n L ∧ NewO H (.lst ((opensL n L).map V.int)) Q
def sp__law_any_move (K : PySem.W.Frag) : Sp := fun vs H Q _ => ∃ (t : Addr) (n : Int) (a : Addr) (xs : List V) (L : List (Int × Int)), vs = [.ref t, .int n, .ref a] ∧ Tap H t ∧ H a = some (.lst xs) ∧ Prs H xs L ∧ Lay n L ∧ ∀ v H' C J, mvD n L (mD C J) = true → SameX t H H' → Tap H' t → MvAt (Hid [t] H') v C J → Q v H'
def sp__law_groups (K : PySem.W.Frag) : Sp := fun vs H Q _ => ∃ (n : Int) (a : Addr) (xs : List V) (L : List (Int × Int)) (T : List Rw) (Gs : List (List Int)), vs = [.int n, .ref a] ∧ H a = some (.lst xs) ∧ Prs H xs L ∧ Lay n L ∧ AS n L T Gs ∧ ∀ p c d H', Same H H' → H p = none → H c = none → H d = none → H' p = some (.lst [.ref c, .ref d]) → LL H' c (rsG T) → LL H' d (gsG Gs) → Q (.ref p) H'
def sp__law_word (K : PySem.W.Frag) : Sp := fun vs H Q _ => ∃ (n : Int) (a b : Addr) (xs ys : List V) (L M : List (Int × Int)) (T T' : List Rw) (Gs Gs' : List (List Int)), vs = [.int n, .ref a, .ref b] ∧ H a = some (.lst xs) ∧ Prs H xs L ∧ Lay n L ∧ H b = some (.lst ys) ∧ Prs H ys M ∧ Lay n M ∧ AS n L T Gs ∧ AS n M T' Gs' ∧ ∀ H', Same H H' → Q (.str (W T Gs T' Gs')) H'
def sp__law_opposite (K : PySem.W.Frag) : Sp := fun vs H Q _ => ∃ w : Str, vs = [.str w] ∧ ∀ H', Same H H' → Q (.str (oppW w)) H'
def sp__law_told (K : PySem.W.Frag) : Sp := fun vs H Q _ => ∃ (n : Int) (a : Addr) (v : V) (xs : List V) (L C J : List (Int × Int)), vs = [.int n, .ref a, v] ∧ Lay n L ∧ H a = some (.lst xs) ∧ Prs H xs L ∧ MvAt H v C J ∧ mvD n L (mD C J) = true ∧ ∀ H', Same H H' → Q (.bl true) H'
def sp__law_right (K : PySem.W.Frag) : Sp := fun vs H Q _ => ∃ (t : Addr), vs = [.ref t] ∧ Tap H t ∧ ∀ H', SameX t H H' → Q (.bl true) H'
def sp_law (K : PySem.W.Frag) : Sp := fun vs H Q _ => ∃ (a : Addr) (ns : List Int), vs = [.ref a] ∧ SqL K H a (ns.map V.int) ∧ ns.length ≤ 63 ∧ ∀ H', Q (.bl true) H'
theorem ok_moves {K : PySem.W.Frag} {n : Int} {g : Addr} {xs : List V} {L : List (Int × Int)} {H : Hp} {Q : VK} {E : XK} (hL : Lay n L) (hg : H g = some (.lst xs)) (hP : Prs H xs L) (q : ∀ p zs H', Same H H' → NewM H H' p zs (movesM n L) → Q (.ref p) H') : sp_moves_of K [.int n, .ref g] H Q E :=
  ⟨.int n, .int n, .ref g, dL L, rfl, .int n, dt_lay hg hP, hL.few, fun m L' p zs H' em _ e2 s nM => by
    rw [pieces_int hL.n1 hL.n60] at em; cases em; cases dL_inj e2
    exact q p zs H' s nM,
  fun em => (by rw [pieces_int hL.n1 hL.n60] at em; cases em), fun m i dx H' em h => (by rw [pieces_int hL.n1 hL.n60] at em; cases em; exact (layE_no hL h).elim)⟩
theorem ok_kind {K : PySem.W.Frag} {n : Int} {g : Addr} {xs : List V} {L C J : List (Int × Int)} {x : V} {H : Hp} {Q : VK} {E : XK} (hL : Lay n L) (hg : H g = some (.lst xs)) (hP : Prs H xs L) (hv : MvAt H x C J) (hm : mvD n L (mD C J) = true) (q : ∀ H', Same H H' → Q (.str (kindL L C J)) H') : sp_kind_of K [.int n, .ref g, x] H Q E :=
  ⟨.int n, .int n, .ref g, dL L, x, mD C J, rfl, .int n, dt_lay hg hP, hv.dt, hL.few, fun m L' C' J' H' em _ e2 e3 _ s => by
    rw [pieces_int hL.n1 hL.n60] at em; cases em; cases dL_inj e2
    simp only [mD, PyData.tuple.injEq, List.cons.injEq, PyData.list.injEq, and_true] at e3
    have eC : C = C' := by have := e3.1; exact dL_inj (by unfold dL; rw [this])
    have eJ : J = J' := by have := e3.2; exact dL_inj (by unfold dL; rw [this])
    subst eC
    subst eJ
    exact q H' s,
    fun e => (by rw [pieces_int hL.n1 hL.n60] at e; cases e), fun m i dx H' e h => (by rw [pieces_int hL.n1 hL.n60] at e; cases e; exact (layE_no hL h).elim), fun m L' H' em _ e2 hf => (by rw [pieces_int hL.n1 hL.n60] at em; cases em; cases dL_inj e2; rw [hm] at hf; cases hf)⟩
theorem evPr_call {K : PySem.W.Frag} {t : List Addr} {σ : L2.St} {H0 : Hp} {ta tb : TE} {i j : Int} (ha : EvI t σ H0 ta i) (hb : EvI t σ H0 tb j) : EvPr t σ H0 (tCall (sp__law_pair K) [] E0 (tCons ta (tCons tb tNil))) (prI i j) := fun H Q s n q =>
  ha H _ s (hb H _ s ⟨i, j, rfl, fun p H' s' np hp => q _ _ s' ⟨p, rfl, hid_get hp (hid_at n np)⟩⟩)
end K8
local macro_rules | `(tactic| walk_at "side") => `(tactic| first | assumption | decide | omega | exact Or.inl ⟨by decide, by decide⟩ | exact Or.inr ⟨by decide, by decide⟩ | exact Or.inl ⟨by omega, by omega⟩ | exact Or.inr ⟨by omega, by omega⟩ | exact ⟨by decide, by decide, by decide⟩ | exact ⟨by omega, by omega⟩ | (show _ ≠ _; decide) | (show _ ≠ _; omega))
local macro_rules | `(tactic| walk_at "cond") => `(tactic| first | assumption | omega | rfl | (intro h; exact V.noConfusion h))
local macro_rules | `(tactic| walk_at "ev1") => `(tactic| first
  | with_reducible refine Vf.r_seq ?_ | with_reducible refine Vf.r_asg ?_ | with_reducible refine Vf.r_next ?_ | with_reducible refine Vf.r_drop ?_ | with_reducible refine Vf.r_ret ?_ | with_reducible refine Vf.r_retN ?_ | with_reducible refine Vf.r_ifS ?_ | with_reducible refine Vf.r_par ?_ | with_reducible refine Vf.r_dput ?_
  | with_reducible refine Vf.r_gname ?_ | with_reducible refine Vf.r_gnil ?_ | with_reducible refine Vf.r_gcons ?_ | with_reducible refine Vf.r_gsub ?_
  | ((with_reducible refine Vf.r_var ?_); refine ⟨_, rfl, ?_⟩)
  | with_reducible refine Vf.r_c ?_ | with_reducible refine Vf.r_op ?_ | with_reducible refine Vf.r_I0 ?_ | with_reducible refine Vf.r_U ?_ | with_reducible refine Vf.r_un ?_ | with_reducible refine Vf.r_eqI ?_ | with_reducible refine Vf.r_neI ?_ | with_reducible refine Vf.r_eqS ?_ | with_reducible refine Vf.r_neS ?_
  | ((with_reducible refine Vf.r_I ?evc ?_); (case evc => walk_at "side"))
  | with_reducible refine Vf.r_cb ?_ | with_reducible refine Vf.r_cons ?_ | with_reducible refine Vf.r_nil ?_ | with_reducible refine Vf.r_lst ?_ | with_reducible refine Vf.r_tup ?_ | with_reducible refine Vf.r_call ?_
  | with_reducible refine Vf.r_test ?_ | with_reducible refine Vf.r_b ?_ | with_reducible refine Vf.r_and ?_ | with_reducible refine Vf.r_or ?_ | with_reducible refine Vf.r_not ?_ | with_reducible refine Vf.r_andV ?_ | with_reducible refine Vf.r_orV ?_ | with_reducible refine Vf.r_notV ?_ | with_reducible refine Vf.r_if ?_
  | with_reducible refine Vf.r_blV ?_ | with_reducible refine Vf.r_chain ?_ | with_reducible refine Vf.r_sl ?_ | with_reducible refine Vf.r_noPart ?_ | with_reducible refine Vf.r_part ?_ | with_reducible refine Vf.r_bm ?_ | with_reducible refine Vf.r_bm0 ?_
  | with_reducible refine Vf.r_ienum ?_ | with_reducible refine Vf.r_sadd ?_ | with_reducible refine Vf.r_for ?_ | with_reducible refine Vf.r_lc ?_ | with_reducible refine Vf.r_dget ?_ | with_reducible refine Vf.r_din ?_ | with_reducible refine Vf.r_dnotin ?_ | with_reducible refine Vf.r_dget1 ?_ | with_reducible refine Vf.r_dget2 ?_ | with_reducible refine Vf.r_dnew ?_
  | with_reducible refine Vf.r_n1 ?_
  | with_reducible refine Vf.r_nF ?_
  | with_reducible refine Vf.r_xfv ?_
  | with_reducible refine Vf.r_m1 ?_
  | with_reducible refine Vf.r_mk1 ?_
  | with_reducible refine Vf.r_mkF ?_
  | with_reducible refine Vf.r_callS ?_
  | with_reducible refine Vf.r_tru ?_
  | with_reducible refine Vf.r_truI ?_
  | with_reducible refine Vf.r_truB ?_
  | with_reducible refine Vf.r_ch3 ?_
  | with_reducible refine Vf.r_cv3 ?_
  | with_reducible refine Vf.r_notT ?_
  | with_reducible refine Vf.r_asg2 ?_
  | with_reducible refine Vf.r_cont ?_
  | with_reducible refine Vf.r_break ?_
  | with_reducible refine Vf.r_lstRg2 ?_
  | with_reducible refine Vf.r_par3 ?_
  | with_reducible refine Vf.r_lc2 ?_
  | with_reducible refine Vf.r_rng1 ?_ | with_reducible refine Vf.r_rng2 ?_ | with_reducible refine Vf.r_ilist ?_ | with_reducible refine Vf.r_yes ?_
  | ((with_reducible refine' Vf.r_ixL ?evs ?eva ?_); (case evs => first | assumption | exact Vf.sql (by assumption)); (case eva => rfl))
  | ((with_reducible refine' Vf.r_gtup ?evs ?eva ?_); (case evs => first | assumption | exact Vf.sqt (by assumption)); (case eva => rfl))
  | refine ⟨_, _, rfl, .inl (Vf.sql (by assumption)), ?_⟩ | refine ⟨_, _, rfl, .inl (by assumption), ?_⟩ | refine ⟨_, _, rfl, .inr (Vf.sqt (by assumption)), ?_⟩
  | ((with_reducible refine' Vf.r_ixT ?evs ?eva ?_); (case evs => first | assumption | exact Vf.sqt (by assumption)); (case eva => rfl))
  | ((with_reducible refine' Vf.r_setL ?evs ?eva ?_); (case evs => assumption); (case eva => rfl))
  | with_reducible refine Vf.ifNT ?_ | with_reducible refine Vf.ifNF ?_ | ((with_reducible refine' Vf.r_sin ?evs ?_); (case evs => assumption)) | with_reducible refine L2.iteT ?_ | with_reducible refine L2.iteF ?_ | (with_reducible refine Vf.ifD (by walk_at "cond") ?_) | (with_reducible refine Vf.ifDn (by walk_at "cond") ?_) | (with_reducible refine Vf.ifN (by walk_at "cond") ?_) | (with_reducible refine Vf.ifNn (by walk_at "cond") ?_)
  | with_reducible dsimp only
  | refine Or.inl ⟨_, rfl, ?_⟩ | refine Or.inr ⟨_, rfl, ?_⟩ | refine ⟨_, _, rfl, ?_⟩ | refine ⟨_, rfl, ?_⟩ | refine ⟨rfl, ?_⟩)
local macro_rules | `(tactic| walk_at "ev") => `(tactic| repeat (walk_at "ev1"))
local macro_rules | `(tactic| walk_at "val1") => `(tactic| first
  | exact Vf.asV (by assumption) | exact Vf.asL (by assumption) | exact Vf.asI (by assumption) | exact Vf.evA_nil | apply Vf.evA_cons | exact Vf.evV_non | exact Vf.evV_bl | exact Vf.evV_dct0 | exact Vf.evV_str0 | apply Vf.evV_tup | apply Vf.evV_lst | apply Vf.evV_cat | apply Vf.evV_sl | apply Vf.evV_rev | apply Vf.evV_tupOf | apply Vf.evV_listOf | apply Vf.evV_rep2
  | exact Vf.asV (by assumption) | exact Vf.evV_var rfl (by assumption) | apply Vf.evV_eqI | apply Vf.evV_strE | exact Vf.evV_dct1 rfl (by assumption) (Nat.le_refl _) | exact Vf.evV_ixL rfl (by assumption) (Vf.evI_var rfl) (by assumption) (by assumption)
  | apply Vf.evL_lst | apply Vf.evL_cat | apply Vf.evL_sl | apply Vf.evL_rev | apply Vf.evL_listOf | apply Vf.evL_rep2 | exact Vf.asL (by assumption) | exact Vf.evL_var rfl (by assumption)
  | exact Vf.evI_c | exact Vf.asI (by assumption) | exact Vf.evI_var rfl | apply Vf.evI_op | apply Vf.evI_un | apply Vf.evI_rI | exact Vf.evI_ixLT rfl (by assumption) (Vf.evI_var rfl) (by assumption) (by assumption) rfl
  | exact Vf.evO_no | apply Vf.evO_i | apply Vf.evV_i)
local macro_rules | `(tactic| walk_at "val") => `(tactic| ((repeat' (walk_at "val1")); all_goals (first | decide | omega)))
local macro_rules | `(tactic| walk_at "evS") => `(tactic| repeat ((fail_if_success (with_reducible show L2.tSeq _ _ _ _ _)); walk_at "ev1"))
local macro_rules | `(tactic| walk_at "nw") => `(tactic| (refine ⟨Vf.szl (by first | exact Nat.le_of_ble_eq_true rfl | (simp only [List.length_cons, List.length_append, List.length_map, List.length_nil]; omega)), fun c nc => ?_⟩; generalize hE : L2.upd _ c _ = Hn; obtain ⟨sn, hn⟩ := Vf.nw_eq nc hE; clear hE))
local macro_rules | `(tactic| walk_at "nw0") => `(tactic| (intro c nc; generalize hE : L2.upd _ c _ = Hn; obtain ⟨sn, hn⟩ := Vf.nw_eq nc hE; clear hE))

namespace K8
open PySem PySem.Spec PyProof.Rows L2 Vf
section
variable {P : Program} {w : World} {K : PySem.W.Frag} {mg : Str → Option Value} {base : Heap}
theorem ok_is_integer {f : Addr} {fd : FuncData} (F : Fun K "is_integer" "is_integer" s_is_integer f fd) (m_isinstance : mg "isinstance" = none) (m_int : mg "int" = none) (m_bool : mg "bool" = none) : FnOk P w K mg base CX0 1 f fd ["value"] (sp_is_integer K) := by
  refine F.ok sc_is_integer (fun vs H Q E h => ?_) (fun cdv A outer s H vs Q E hr h => ?_)
  · obtain ⟨_, _, rfl, _⟩ := h
    rfl
  · have hu := hu_of hr
    obtain ⟨v, d, rfl, hd, q⟩ := h
    refine ⟨_, (pss_one (ps_ret (pe_and (pe_callB (isiK (K := K)) (by rfl) m_isinstance (by decide +kernel) (pa_cons (pv 0) (pa_cons (pe_bltn (v := .ty "int") (by rfl) m_int (by decide +kernel) rfl) pa_nil))) (pe_one (pe_not (pe_callB (isiK (K := K)) (by rfl) m_isinstance (by decide +kernel) (pa_cons (pv 0) (pa_cons (pe_bltn (v := .ty "bool") (by rfl) m_bool (by decide +kernel) rfl) pa_nil)))))))), ?_⟩
    walk_at "ev"
    refine r_isD hd (.inl rfl) ?_
    walk_at "ev"
    refine ite2 (fun h => ?_) (fun h => ?_)
    · walk_at "ev"
      refine r_isD hd (.inr (.inl rfl)) ?_
      walk_at "ev"
      rw [isInt_t h]
      exact q
    · rw [isInt_f h] at q
      exact q
end
end K8
namespace K8
open PySem PySem.Spec PyProof.Rows L2 Vf
section
variable {P : Program} {w : World} {K : PySem.W.Frag} {mg : Str → Option Value} {base : Heap}
theorem ok_are_integers {f : Addr} {fd : FuncData} (F : Fun K "are_integers" "are_integers" s_are_integers f fd) (D_is_integer : Def P w K mg base 1 "is_integer" ["value"] (sp_is_integer K)) (m_int : mg "int" = none) (m_type : mg "type" = none) : FnOk P w K mg base CX0 2 f fd ["one", "other"] (sp_are_integers K) := by
  refine F.ok sc_are_integers (fun vs H Q E h => ?_) (fun cdv A outer s H vs Q E hr h => ?_)
  · obtain ⟨_, _, _, _, rfl, _⟩ := h
    rfl
  · have hu := hu_of hr
    obtain ⟨v, d, u, e, rfl, hd, he, q⟩ := h
    refine ⟨_, (pss_cons (ps_if (PW.pt (pw_and (pt_cmpR op_tyEq (pe_callTy (typK (K := K)) (by rfl) m_type (by decide +kernel) (pa_cons (pv 0) pa_nil)) (pe_bltn (v := .ty "int") (by rfl) m_int (by decide +kernel) rfl) (nomark _)) (pw_and1 (pt_cmpR op_tyEq (pe_callTy (typK (K := K)) (by rfl) m_type (by decide +kernel) (pa_cons (pv 1) pa_nil)) (pe_bltn (v := .ty "int") (by rfl) m_int (by decide +kernel) rfl) (nomark _))))) (pss_one (ps_ret pe_bl)) pss_nil)
        (pss_one (ps_ret (pe_and (pe_def D_is_integer (hr.mono (by decide)) (pa_cons (pv 0) pa_nil)) (pe_one (pe_def D_is_integer (hr.mono (by decide)) (pa_cons (pv 1) pa_nil))))))), ?_⟩
    walk_at "ev"
    refine r_typ hd ?_
    walk_at "ev"
    refine r_tyC (tyN_d d) .int ?_
    walk_at "ev"
    refine ite2 (fun h => ?_) (fun h => ?_)
    · have h' : tyD d = "int" := by simpa using h
      rw [tyD_int.mp h', Bool.true_and] at q
      walk_at "ev"
      refine r_typ he ?_
      walk_at "ev"
      refine r_tyC (tyN_d e) .int ?_
      walk_at "ev"
      refine ite2 (fun h2 => ?_) (fun h2 => ?_)
      · rw [tyD_int.mp (show tyD e = "int" by simpa using h2)] at q
        walk_at "ev"
        exact q
      · walk_at "ev"
        refine ⟨v, d, rfl, hd, ?_⟩
        rw [tyD_int.mp h']
        walk_at "ev"
        exact ⟨u, e, rfl, he, q⟩
    · walk_at "ev"
      refine ⟨v, d, rfl, hd, ?_⟩
      walk_at "ev"
      refine ite2 (fun h2 => absurd (tyD_int.mpr h2) (by simpa using h)) (fun h2 => ?_)
      rw [Bool.eq_false_iff.mpr h2, Bool.false_and] at q
      exact q
end
end K8
namespace K8
open PySem PySem.Spec PyProof.Rows L2 Vf
section
variable {P : Program} {w : World} {K : PySem.W.Frag} {mg : Str → Option Value} {base : Heap}
theorem ok_is_coupling {f : Addr} {fd : FuncData} (F : Fun K "is_coupling" "is_coupling" s_is_coupling f fd) (D_are_integers : Def P w K mg base 2 "are_integers" ["one", "other"] (sp_are_integers K)) (m_tuple : mg "tuple" = none) (m_type : mg "type" = none) (m_len : mg "len" = none) : FnOk P w K mg base CX0 3 f fd ["pieces", "value"] (sp_is_coupling K) := by
  refine F.ok sc_is_coupling (fun vs H Q E h => ?_) (fun cdv A outer s H vs Q E hr h => ?_)
  · obtain ⟨_, _, _, rfl, _⟩ := h
    rfl
  · have hu := hu_of hr
    obtain ⟨n, v, d, rfl, hd, q⟩ := h
    refine ⟨_, (pss_cons (ps_if (PW.pt (pw_or (pt_cmpR op_tyNe (pe_callTy (typK (K := K)) (by rfl) m_type (by decide +kernel) (pa_cons (pv 1) pa_nil)) (pe_bltn (v := .ty "tuple") (by rfl) m_tuple (by decide +kernel) rfl) (nomark _)) (pw_or1 (pt_cmpR op_ne (pe_callB (lenK (K := K)) (by rfl) m_len (by decide +kernel) (pa_cons (pv 1) pa_nil)) pe_int (nomark _))))) (pss_one (ps_ret pe_bl)) pss_nil)
        (pss_cons (ps_asg (pv 1) (pg_tup rfl (pgs_cons (pg_name (i := 2) sc_is_coupling.nd rfl (Or.inl rfl)) (pgs_cons (pg_name (i := 3) sc_is_coupling.nd rfl (Or.inl rfl)) pgs_nil))))
        (pss_one (ps_ret (pe_and (pe_def D_are_integers (hr.mono (by decide)) (pa_cons (pv 2) (pa_cons (pv 3) pa_nil))) (pe_and (pe_ch3 op_le op_lt op_le (pe_un un_neg (pv 0)) (pv 2) (pv 3) (pv 0)) (pe_and (pe_cmpR op_ne (pv 2) pe_int (nomark _)) (pe_one (pe_cmpR op_ne (pv 3) pe_int (nomark _)))))))))), ?_⟩
    walk_at "ev"
    refine r_typ hd ?_
    walk_at "ev"
    refine r_tyC (tyN_d d) .tup ?_
    walk_at "ev"
    refine ite2 (fun h => ?_) (fun h => ?_)
    · walk_at "ev"
      rw [cp_none_tup (fun z => by simp [tyD_tup.mpr z] at h)] at q
      exact q
    obtain ⟨ds, rfl⟩ := tyD_tup.mp (show tyD d = "tuple" by simpa using h)
    obtain ⟨t, ys, rfl, ht, hys⟩ := dt_tup hd
    walk_at "ev"
    refine ite2 (fun h2 => ?_) (fun h2 => ?_)
    · walk_at "ev"
      rw [cp_none_len (fun z => by rw [← dta_len hys] at z; simp [z] at h2)] at q
      exact q
    have hl : ys.length = 2 := by
      have : (ys.length : Int) = 2 := by simpa using h2
      omega
    obtain ⟨u, v, rfl⟩ : ∃ u v, ys = [u, v] := by
      match ys, hl with
      | [u, v], _ => exact ⟨u, v, rfl⟩
    cases hys with
    | @cons _ _ d1 _ k1 hr1 =>
    cases hr1 with
    | @cons _ _ d2 _ k2 hr2 =>
    cases hr2
    walk_at "ev"
    refine ⟨u, d1, v, d2, rfl, k1, k2, ?_⟩
    walk_at "ev"
    by_cases hI : isIntD d1 = true ∧ isIntD d2 = true
    case neg =>
      rw [show (isIntD d1 && isIntD d2) = false by simpa using hI]
      rw [cp_none_int hI] at q
      walk_at "ev"
      exact q
    obtain ⟨i, rfl⟩ := isInt_some hI.1
    obtain ⟨j, rfl⟩ := isInt_some hI.2
    cases dt_int k1
    cases dt_int k2
    rw [show (isIntD (.int i) && isIntD (.int j)) = true from rfl]
    have no : ¬ (-n ≤ i ∧ i < j ∧ j ≤ n ∧ i ≠ 0 ∧ j ≠ 0) → Q (.bl false) H := fun c => by rw [cp_none_rng c] at q; exact q
    have yes : (-n ≤ i ∧ i < j ∧ j ≤ n ∧ i ≠ 0 ∧ j ≠ 0) → Q (.bl true) H := fun c => by rw [show cpD n (.tuple [.int i, .int j]) = some (i, j) from if_pos c] at q; exact q
    walk_at "ev"
    refine ite2 (fun c1 => ?_) (fun c1 => by walk_at "ev"; exact no (by simp at c1; omega))
    walk_at "ev"
    refine ite2 (fun c2 => ?_) (fun c2 => by walk_at "ev"; exact no (by simp at c2; omega))
    walk_at "ev"
    refine ite2 (fun c3 => ?_) (fun c3 => by walk_at "ev"; exact no (by simp at c3; omega))
    walk_at "ev"
    refine ite2 (fun c4 => ?_) (fun c4 => by walk_at "ev"; exact no (by simp at c4; omega))
    walk_at "ev"
    by_cases c5 : j = 0
    · subst c5
      exact no (by omega)
    · rw [decide_eq_false c5]
      exact yes ⟨of_decide_eq_true c1, of_decide_eq_true c2, of_decide_eq_true c3, by simpa using c4, c5⟩
end
end K8
namespace K8
open PySem PySem.Spec PyProof.Rows L2 Vf
section
variable {P : Program} {w : World} {K : PySem.W.Frag} {mg : Str → Option Value} {base : Heap}
theorem ok_coupling_of {f : Addr} {fd : FuncData} (F : Fun K "coupling_of" "coupling_of" s_coupling_of f fd)  : FnOk P w K mg base CX0 1 f fd ["end", "other"] (sp_coupling_of K) := by
  refine F.ok sc_coupling_of (fun vs H Q E h => ?_) (fun cdv A outer s H vs Q E hr h => ?_)
  · obtain ⟨_, _, rfl, _⟩ := h
    rfl
  · have hu := hu_of hr
    obtain ⟨a, b, rfl, q⟩ := h
    refine ⟨_, (pss_one (ps_ret (pe_ifExp (pt_cmpR op_lt (pv 0) (pv 1) (nomark _)) (pe_tup (pa_cons (pv 0) (pa_cons (pv 1) pa_nil))) (pe_tup (pa_cons (pv 1) (pa_cons (pv 0) pa_nil)))))), ?_⟩
    walk_at "ev"
    unfold cpl at q
    refine ite2 (fun c => ?_) (fun c => ?_)
    · rw [if_pos (of_decide_eq_true c)] at q
      walk_at "ev"
      exact ⟨szl (by show 2 ≤ 100000; decide), q.mk (Same.refl H)⟩
    · rw [if_neg (by simpa using c)] at q
      walk_at "ev"
      exact ⟨szl (by show 2 ≤ 100000; decide), q.mk (Same.refl H)⟩
end
end K8
namespace K8
open PySem PySem.Spec PyProof.Rows L2 Vf
section
variable {P : Program} {w : World} {K : PySem.W.Frag} {mg : Str → Option Value} {base : Heap}
theorem ok_opens_in {f : Addr} {fd : FuncData} (F : Fun K "opens_in" "opens_in" s_opens_in f fd) (m_range : mg "range" = none) : FnOk P w K mg base CX0 1 f fd ["pieces", "partners"] (sp_opens_in K) := by
  refine F.ok sc_opens_in (fun vs H Q E h => ?_) (fun cdv A outer s H vs Q E hr h => ?_)
  · obtain ⟨_, _, _, rfl, _⟩ := h
    rfl
  · have hu := hu_of hr
    obtain ⟨n, a, ts, rfl, f, hF, n60, ha, q⟩ := h
    refine ⟨_, (pss_one (ps_ret (pe_lc (own := [("end", 2)]) rfl sc_opens_in.nd (pi_range2 (by rfl) m_range (pa_cons (pe_un un_neg (pv 0)) (pa_cons (pe_op op_add (pv 0) pe_int) pa_nil))) (blkOk_by (own := [("end", 2)]) (N := N_opens_in) (sc := defScope s_opens_in) (by decide +kernel)) (fun _ _ _ _ _ => (pg_name (i := 2) sc_opens_in.nd rfl (Or.inl rfl))) (fun _ _ _ _ _ => pts_one (pt_not (pt_tru (K := K) (pe_ix (ixL (K := K)) (pv 1) (pv 2) (fun _ _ => rfl))))) (fun _ _ _ _ _ => (pv 2))))), ?_⟩
    have n0 := hF.n0
    walk_at "ev"
    refine ⟨⟨by omega, by omega, by omega, by omega⟩, fun D np => ?_⟩
    rw [show (n + 1 - -n).toNat = (2 * n + 1).toNat by omega]
    refine r_lcP seq_range (fun e => decide (f e = 0)) V.int (by rw [rng_len]; omega) np (fun _ _ => trivial) ?_ (q.mk (Same.refl H) D np)
    intro e v H2 acc hm hv s2 ha2 hz N h1 h2
    subst hv
    have he := mem_rng.mp hm
    walk_at "ev"
    refine r_ixL (sql (s2 _ _ ha)) (hF.at (by omega) (by omega)) ?_
    walk_at "ev"
    refine ite2 (fun hb => ?_) (fun hb => ?_)
    · walk_at "ev"
      exact ⟨acc, ha2, hz, h1 (by simpa using hb)⟩
    · exact h2 (by simpa using hb)
end
end K8
namespace K8
open PySem PySem.Spec PyProof.Rows L2 Vf
section
variable {P : Program} {w : World} {K : PySem.W.Frag} {mg : Str → Option Value} {base : Heap}
theorem ok_couplings_in {f : Addr} {fd : FuncData} (F : Fun K "couplings_in" "couplings_in" s_couplings_in f fd) (m_len : mg "len" = none) : FnOk P w K mg base CX0 1 f fd ["partners"] (sp_couplings_in K) := by
  refine F.ok sc_couplings_in (fun vs H Q E h => ?_) (fun cdv A outer s H vs Q E hr h => ?_)
  · obtain ⟨_, _, _, _, rfl, _⟩ := h
    rfl
  · have hu := hu_of hr
    obtain ⟨n, T, ts, L, rfl, hL, hT, hF, q⟩ := h
    refine ⟨_, (pss_one (ps_ret (pe_op op_fdivN (pe_op op_sub (pe_callB (lenK (K := K)) (by rfl) m_len (by decide +kernel) (pa_cons (pv 0) pa_nil)) (pe_bm PySem.F.plainAttrs_list PySem.F.slot_list_count PySem.F.type_list_count (lcountK (K := K)) (pv 0) (pa_cons pe_int pa_nil))) pe_int))), ?_⟩
    have c := lay_count hL hF
    walk_at "ev"
    refine ⟨tyL hT, ?_⟩
    walk_at "ev"
    refine r_cnt (sql hT) ?_
    walk_at "ev"
    rw [List.length_map, c.1]
    exact q
end
end K8
namespace K8
open PySem PySem.Spec PyProof.Rows L2 Vf
section
variable {P : Program} {w : World} {K : PySem.W.Frag} {mg : Str → Option Value} {base : Heap}
theorem ok_check_pieces {f : Addr} {fd : FuncData} (F : Fun K "check_pieces" "check_pieces" s_check_pieces f fd) (D_is_integer : Def P w K mg base 1 "is_integer" ["value"] (sp_is_integer K)) (m_int : mg "int" = none) (m_type : mg "type" = none) (N_InvalidPieces : New1 K mg "InvalidPieces") {t_MOST_PIECES : Tok} (g_MOST_PIECES : mg "MOST_PIECES" = some (.int 60 t_MOST_PIECES)) : FnG P w K mg base (L2.CX P w) 2 f fd ["pieces"] (sp_check_pieces K) := by
  refine okG F sc_check_pieces (fun vs H Q E h => ?_) (fun cdv A outer s H vs Q E hr hgd h => ?_)
  · obtain ⟨_, _, rfl, _⟩ := h
    rfl
  · have hu := hu_of hr
    obtain ⟨v, d, rfl, hd, q1, q2⟩ := h
    refine ⟨_, (pss_one (ps_if (PW.pt (pw_or (PW.pt (pw_and (pt_cmpR op_tyIsN (pe_callTy (typK (K := K)) (by rfl) m_type (by decide +kernel) (pa_cons (pv 0) pa_nil)) (pe_bltn (v := .ty "int") (by rfl) m_int (by decide +kernel) rfl) (nomark _)) (pw_and1 (pt_not (pt_val (pe_def D_is_integer (hr.mono (by decide)) (pa_cons (pv 0) pa_nil))))))) (pw_or (pt_cmpR op_lt (pv 0) pe_int (nomark _)) (pw_or1 (pt_cmpR op_gt (pv 0) (pe_glob (v := .int 60) rfl g_MOST_PIECES ⟨_, rfl⟩) (nomark _)))))) (pss_one (ps_raise rfl (takes_of (E := E) rfl rfl rfl rfl) (pmk_1 N_InvalidPieces (pe_joined (PJ.cons pe_str (PJ.cons (pe_fmtE (pe_glob (v := .int 60) rfl g_MOST_PIECES ⟨_, rfl⟩)) PJ.nil)))))) pss_nil)), ?_⟩
    have easy : Easy (.int 60) := .inr ⟨60, rfl, by decide +kernel⟩
    have bad : ∀ σ, piecesD d = none → tMk1 (clsOf K "InvalidPieces") (fun σ H Q => tJs [tC (V.str "the number of pieces is an integer from 1 to "), fun σ H Q => tC (V.int 60) σ H fun x H1 => Easy x ∧ ∀ (m : Str), m.length ≤ 2000 → Q (V.str m) H1] Str.empty σ H fun out H1 => Q (V.str out) H1) σ H fun cls d H' => E cls d H' :=
      fun σ h => ⟨_, rfl, by decide, easy, fun m hm => ⟨m, rfl, by rw [strLen_append]; exact szl (Nat.le_trans (Nat.add_le_add (show _ ≤ 100 by decide) hm) (by decide)), q2 h⟩⟩
    walk_at "ev"
    refine r_typ hd ?_
    walk_at "ev"
    refine r_tyC (tyN_d d) .int ?_
    walk_at "ev"
    refine ite2 (fun h0 => ?_) (fun h0 => ?_)
    · have nI : isIntD d = false := Bool.eq_false_iff.mpr fun z => by have := tyD_int.mpr z; simp [this] at h0
      walk_at "ev"
      refine ⟨v, d, rfl, hd, ?_⟩
      rw [nI]
      walk_at "ev"
      refine ⟨by decide, easy, fun m hm => ⟨m, rfl, by rw [strLen_append]; exact szl (Nat.le_trans (Nat.add_le_add (show _ ≤ 100 by decide) hm) (by decide)), q2 ?_⟩⟩
      cases d <;> first | rfl | cases nI
    · obtain ⟨i, rfl⟩ := isInt_some (tyD_int.mp (show tyD d = "int" by simpa using h0))
      cases dt_int hd
      walk_at "ev"
      refine ite2 (fun h => ?_) (fun h => ?_)
      · refine L2.iteT ?_
        exact bad _ (if_neg (by simp at h; omega))
      · walk_at "ev"
        refine ite2 (fun h2 => ?_) (fun h2 => ?_)
        · exact bad _ (if_neg (by simp at h2; omega))
        · walk_at "ev"
          exact q1 i (if_pos (by simp at h h2; omega))
end
end K8
namespace K8
open PySem PySem.Spec PyProof.Rows L2 Vf
section
variable {P : Program} {w : World} {K : PySem.W.Frag} {mg : Str → Option Value} {base : Heap}
theorem ok_partners_or_wrong {f : Addr} {fd : FuncData} (F : Fun K "partners_or_wrong" "partners_or_wrong" s_partners_or_wrong f fd) (D_couplings_in : Def P w K mg base 1 "couplings_in" ["partners"] (sp_couplings_in K)) (D_are_integers : Def P w K mg base 2 "are_integers" ["one", "other"] (sp_are_integers K)) (m_tuple : mg "tuple" = none) (m_type : mg "type" = none) (m_len : mg "len" = none) (m_int : mg "int" = none) : FnOk P w K mg base CX0 3 f fd ["pieces", "items"] (sp_partners_or_wrong K) := by
  refine F.ok sc_partners_or_wrong (fun vs H Q E h => ?_) (fun cdv A outer s H vs Q E hr h => ?_)
  · obtain ⟨_, _, _, _, rfl, _⟩ := h
    rfl
  · have hu := hu_of hr
    obtain ⟨n, a, xs, ds, rfl, n1, n60, ha, hD, q1, q2⟩ := h
    refine ⟨_, (pss_cons (ps_set (i := 2) sc_partners_or_wrong.nd rfl (Or.inl rfl) (pe_op op_rep (pe_lst (pa_cons pe_int pa_nil)) (pe_op op_add (pe_op op_mul pe_int (pv 0)) pe_int)))
        (pss_cons (ps_asg pe_int (pg_sub (pv 2) pe_int set_list))
        (pss_cons (ps_set (i := 3) sc_partners_or_wrong.nd rfl (Or.inl rfl) (pe_op op_sub (pe_un un_neg (pv 0)) pe_int))
        (pss_cons (ps_for PassesOwn.never rfl (pi_list (pv 1)) (pg_name (i := 4) sc_partners_or_wrong.nd rfl (Or.inl rfl))
          (pss_cons (ps_if (PW.pt (pw_and (pt_cmpR op_tyIs (pe_callTy (typK (K := K)) (by rfl) m_type (by decide +kernel) (pa_cons (pv 4) pa_nil)) (pe_bltn (v := .ty "tuple") (by rfl) m_tuple (by decide +kernel) rfl) (nomark _)) (pw_and1 (pt_cmpR op_eq (pe_callB (lenK (K := K)) (by rfl) m_len (by decide +kernel) (pa_cons (pv 4) pa_nil)) pe_int (nomark _))))) (pss_cons (ps_asg (pv 4) (pg_tup rfl (pgs_cons (pg_name (i := 5) sc_partners_or_wrong.nd rfl (Or.inl rfl)) (pgs_cons (pg_name (i := 6) sc_partners_or_wrong.nd rfl (Or.inl rfl)) pgs_nil))))
        (pss_one (ps_if (PW.pt (pw_or (PW.pt (pw_and (pt_cmpR op_tyIs (pe_callTy (typK (K := K)) (by rfl) m_type (by decide +kernel) (pa_cons (pv 5) pa_nil)) (pe_bltn (v := .ty "int") (by rfl) m_int (by decide +kernel) rfl) (nomark _)) (pw_and1 (pt_cmpR op_tyIs (pe_callTy (typK (K := K)) (by rfl) m_type (by decide +kernel) (pa_cons (pv 6) pa_nil)) (pe_bltn (v := .ty "int") (by rfl) m_int (by decide +kernel) rfl) (nomark _))))) (pw_or1 (pt_val (pe_def D_are_integers (hr.mono (by decide)) (pa_cons (pv 5) (pa_cons (pv 6) pa_nil))))))) (pss_one (ps_if (PW.pt (pw_and (pt_ch3 op_lt op_lt op_le (pv 3) (pv 5) (pv 6) (pv 0)) (pw_and (pt_not (pt_tru (K := K) (pe_ix (ixL (K := K)) (pv 2) (pv 5) (fun _ _ => rfl)))) (pw_and1 (pt_not (pt_tru (K := K) (pe_ix (ixL (K := K)) (pv 2) (pv 6) (fun _ _ => rfl)))))))) (pss_cons (ps_asg (pv 6) (pg_sub (pv 2) (pv 5) set_list))
        (pss_cons (ps_asg2 (pv 5) (pg_sub (pv 2) (pv 6) set_list) (pg_name (i := 3) sc_partners_or_wrong.nd rfl (Or.inl rfl)))
        (pss_one ps_continue))) pss_nil)) pss_nil))) pss_nil)
        (pss_one (ps_ret (pe_def D_couplings_in (hr.mono (by decide)) (pa_cons (pv 2) pa_nil))))))
        (pss_one (ps_ret (pv 2))))))), ?_⟩
    walk_at "ev"
    refine ⟨szl (by show 1 ≤ 100000; decide), fun z nz => ?_⟩
    have sz := same_new (o := .lst [.int 0]) nz
    have hz : upd H z (.lst [.int 0]) z = some (.lst [.int 0]) := upd_same
    generalize upd H z (.lst [.int 0]) = H1 at sz hz ⊢
    walk_at "ev"
    refine ⟨z, 2 * n + 1, [.int 0], rfl, rfl, hz, by omega, by omega, szl (by show 1 * (2 * n + 1).toNat ≤ 100000; omega), fun T nT => ?_⟩
    rw [rep_one]
    have nT0 := sz.free nT
    walk_at "ev"
    obtain ⟨j0, e0, s0, F0⟩ := (IsF.start (n := n) (by omega)).ix (e := 0) 1 (by omega) (by omega)
    refine r_setL upd_same e0 ?_
    rw [s0, upd_upd]
    have F1 := F0.congr (g := ptb []) fun x _ _ => ptb_start x
    generalize (List.replicate (2 * n + 1).toNat (0 : Int)).set j0 1 = t0 at F1 ⊢
    have s1 := sz.trans (same_new (o := .lst (t0.map V.int)) nT)
    have hT : upd H1 T (.lst (t0.map V.int)) T = some (.lst (t0.map V.int)) := upd_same
    generalize upd H1 T (.lst (t0.map V.int)) = H2 at s1 hT ⊢
    walk_at "ev"
    refine ⟨⟨_, sql (s1 _ _ ha)⟩, ?_⟩
    refine r_forS (seq_list (dta_pair hD)) (fun dn σ H' => ∃ L ts ah y4 y5 y6, σ = [some (.int n), some (.ref a), some (.ref T), some (.int ah), y4, y5, y6] ∧ Same H H' ∧ H' T = some (.lst (ts.map V.int)) ∧ IsF n (ptb L) ts ∧ Lay n L ∧ dn = L.map dP ∧ (∀ q ∈ L, q.1 ≤ ah) ∧ (ah = -n - 1 ∨ ∃ q ∈ L, ah = q.1))
      ⟨[], t0, -n - 1, none, none, none, rfl, s1, hT, F1, Lay.nil n1 n60, rfl, fun _ z => (nomatch z), .inl rfl⟩ (fun dn σ H' ⟨_, _, _, _, _, _, _, s, _⟩ => sql (s _ _ ha)) ?_ ?_
    · rintro dn d r x σ H4 e hd ⟨L, ts, ah, y4, y5, y6, rfl, s4, hT4, hF, hL, rfl, hle, hah⟩
      have hd4 := hd.mono s4
      have fin : (∀ q, cpD n d = some q → ¬ okN L q) → Q (.int (L.length : Nat)) H4 := fun hb => q2 L.length H4 (by rw [e]; exact layW_bad hL hb) s4
      walk_at "ev"
      refine r_typ hd4 ?_
      walk_at "ev"
      refine r_tyC (tyN_d d) .tup ?_
      walk_at "ev"
      refine ite2 (fun h => ?_) (fun h => ?_)
      rotate_left
      · walk_at "ev"
        refine ⟨n, T, ts, L, rfl, hL, hT4, hF, fin (fun q c => ?_)⟩
        rw [cp_none_tup (fun z => by simp [tyD_tup.mpr z] at h)] at c
        cases c
      obtain ⟨ds', rfl⟩ := tyD_tup.mp (show tyD d = "tuple" by simpa using h)
      obtain ⟨t, ys, rfl, ht, hys⟩ := dt_tup hd4
      walk_at "ev"
      refine ite2 (fun h2 => ?_) (fun h2 => ?_)
      rotate_left
      · walk_at "ev"
        refine ⟨n, T, ts, L, rfl, hL, hT4, hF, fin (fun q c => ?_)⟩
        rw [cp_none_len (fun z => by rw [← dta_len hys] at z; simp [z] at h2)] at c
        cases c
      have hl : ys.length = 2 := by
        have : (ys.length : Int) = 2 := by simpa using h2
        omega
      obtain ⟨u, v, rfl⟩ : ∃ u v, ys = [u, v] := by
        match ys, hl with
        | [u, v], _ => exact ⟨u, v, rfl⟩
      cases hys with
      | @cons _ _ d1 _ k1 hr1 =>
      cases hr1 with
      | @cons _ _ d2 _ k2 hr2 =>
      cases hr2
      walk_at "ev"
      by_cases hI : isIntD d1 = true ∧ isIntD d2 = true
      · obtain ⟨i, rfl⟩ := isInt_some hI.1
        obtain ⟨j, rfl⟩ := isInt_some hI.2
        cases dt_int k1
        cases dt_int k2
        refine r_typ k1 ?_
        walk_at "ev"
        refine r_tyC (tyN_d _) .int ?_
        walk_at "ev"
        refine r_typ k2 ?_
        walk_at "ev"
        refine r_tyC (tyN_d _) .int ?_
        walk_at "ev"
        have bad : ¬ (-n ≤ i ∧ i < j ∧ j ≤ n ∧ i ≠ 0 ∧ j ≠ 0) → ∀ q, cpD n (.tuple [.int i, .int j]) = some q → ¬ okN L q := fun hb q c => by rw [cp_none_rng hb] at c; cases c
        have ah0 : -n - 1 ≤ ah := by
          rcases hah with z | ⟨q, hq, z⟩
          · omega
          · have := (hL.cp q hq).1; omega
        have bad2 : ¬ okN L (i, j) → ∀ q, cpD n (.tuple [.int i, .int j]) = some q → ¬ okN L q := fun hb q c => by
          obtain ⟨c1, _⟩ := cpD_dP c
          have : q = (i, j) := by cases c1; rfl
          rw [this]; exact hb
        refine ite2 (fun c1 => ?p1) (fun c1 => ?n1)
        case n1 =>
          walk_at "ev"
          refine ⟨n, T, ts, L, rfl, hL, hT4, hF, fin ?_⟩
          have c1' : ¬ ah < i := by simpa using c1
          rcases hah with z | ⟨q, hq, z⟩
          · exact bad (by omega)
          · exact bad2 fun k => by have := k.1 q hq; simp only at this; omega
        have c1' : ah < i := by simpa using c1
        walk_at "ev"
        refine ite2 (fun c2 => ?p2) (fun c2 => ?n2)
        case n2 =>
          walk_at "ev"
          refine ⟨n, T, ts, L, rfl, hL, hT4, hF, fin (bad ?_)⟩
          have c2' : ¬ i < j := by simpa using c2
          omega
        have c2' : i < j := by simpa using c2
        walk_at "ev"
        refine ite2 (fun c3 => ?_) (fun c3 => ?_)
        rotate_left
        · have c3' : ¬ j ≤ n := by simpa using c3
          walk_at "ev"
          exact ⟨n, T, ts, L, rfl, hL, hT4, hF, fin (bad (by omega))⟩
        have c3' : j ≤ n := by simpa using c3
        walk_at "ev"
        refine r_ixL (sql hT4) (hF.at (by omega) (by omega)) ?_
        walk_at "ev"
        refine ite2 (fun c4 => ?_) (fun c4 => ?_)
        rotate_left
        · walk_at "ev"
          refine ⟨n, T, ts, L, rfl, hL, hT4, hF, fin ?_⟩
          have c4' : ¬ ptb L i = 0 := by simpa using c4
          rw [ptb_zero hL] at c4'
          by_cases z : i = 0
          · exact bad (by omega)
          · exact bad2 fun k => c4' ⟨z, k.2.1⟩
        have c4' : ptb L i = 0 := by simpa using c4
        walk_at "ev"
        refine r_ixL (sql hT4) (hF.at (by omega) (by omega)) ?_
        walk_at "ev"
        refine ite2 (fun c5 => ?_) (fun c5 => ?_)
        rotate_left
        · walk_at "ev"
          refine ⟨n, T, ts, L, rfl, hL, hT4, hF, fin ?_⟩
          have c5' : ¬ ptb L j = 0 := by simpa using c5
          rw [ptb_zero hL] at c5'
          by_cases z : j = 0
          · exact bad (by omega)
          · exact bad2 fun k => c5' ⟨z, k.2.2⟩
        have c5' : ptb L j = 0 := by simpa using c5
        rw [ptb_zero hL] at c4' c5'
        walk_at "ev"
        obtain ⟨j1, e1, w1, F1⟩ := hF.ix (e := i) j (by omega) (by omega)
        refine r_setL hT4 e1 ?_
        rw [w1]
        walk_at "ev"
        obtain ⟨j2, e2, w2, F2⟩ := F1.ix (e := j) i (by omega) (by omega)
        refine r_setL upd_same e2 ?_
        rw [w2, upd_upd]
        walk_at "ev"
        have hok : okN L (i, j) := by
          refine ⟨fun q hq => ?_, c4'.2, c5'.2⟩
          have := hle q hq
          show q.1 < i
          omega
        refine ⟨L ++ [(i, j)], _, i, _, _, _, rfl, Vf.Same.set s4 nT0, upd_same, F2.congr fun x _ _ => ptb_snoc c4'.2 c5'.2 c4'.1 c5'.1 (by omega) x, hL.snoc ⟨by show -n ≤ i; omega, c2', c3', c4'.1, c5'.1⟩ hok, by rw [List.map_append]; rfl, fun q hq => ?_, .inr ⟨(i, j), by simp, rfl⟩⟩
        rcases List.mem_append.mp hq with z | z
        · have := hle q z; omega
        · rw [List.mem_singleton.mp z]; exact Int.le_refl _
      · have bad : ∀ q, cpD n (.tuple [d1, d2]) = some q → ¬ okN L q := fun q c => by rw [cp_none_int hI] at c; cases c
        have both : (isIntD d1 && isIntD d2) = false := by simpa using hI
        refine r_typ k1 ?_
        walk_at "ev"
        refine r_tyC (tyN_d _) .int ?_
        walk_at "ev"
        refine ite2 (fun c1 => ?g2) (fun c1 => ?g1)
        case' g2 =>
          walk_at "ev"
          refine r_typ k2 ?_
          walk_at "ev"
          refine r_tyC (tyN_d _) .int ?_
          walk_at "ev"
          refine ite2 (fun c2 => absurd ⟨tyD_int.mp (by simpa using c1), tyD_int.mp (by simpa using c2)⟩ hI) (fun c2 => ?g3)
        all_goals
          walk_at "ev"
          refine ⟨u, d1, v, d2, rfl, k1, k2, ?_⟩
          rw [both]
          walk_at "ev"
          exact ⟨n, T, ts, L, rfl, hL, hT4, hF, fin bad⟩
    · rintro σ H3 ⟨L, ts, ah, y4, y5, y6, rfl, s3, hT3, hF, hL, he, _⟩
      walk_at "ev"
      exact q1 L T ts H3 hL he s3 nT0 hT3 hF
end
end K8
namespace K8
open PySem PySem.Spec PyProof.Rows L2 Vf
section
variable {P : Program} {w : World} {K : PySem.W.Frag} {mg : Str → Option Value} {base : Heap}
theorem ok_checked_partners {f : Addr} {fd : FuncData} (F : Fun K "checked_partners" "checked_partners" s_checked_partners f fd) (D_partners_or_wrong : Def P w K mg base 3 "partners_or_wrong" ["pieces", "items"] (sp_partners_or_wrong K)) (m_list : mg "list" = none) (m_int : mg "int" = none) (m_type : mg "type" = none) (F_InvalidLayout : NewF P w K mg base "InvalidLayout" "index") : FnG P w K mg base (L2.CX P w) 4 f fd ["pieces", "layout"] (sp_checked_partners K) := by
  refine okG F sc_checked_partners (fun vs H Q E h => ?_) (fun cdv A outer s H vs Q E hr hgd h => ?_)
  · obtain ⟨_, _, _, rfl, _⟩ := h
    rfl
  · have hu := hu_of hr
    obtain ⟨n, v, d, rfl, n1, n60, hd, hf, q1, q2⟩ := h
    refine ⟨_, (pss_cons (ps_if (pt_cmpR op_tyIsN (pe_callTy (typK (K := K)) (by rfl) m_type (by decide +kernel) (pa_cons (pv 1) pa_nil)) (pe_bltn (v := .ty "list") (by rfl) m_list (by decide +kernel) rfl) (nomark _)) (pss_one (ps_raise rfl (takes_of (E := E) rfl rfl rfl rfl) (pmk_F F_InvalidLayout (hr.mono (by decide)) pe_non))) pss_nil)
        (pss_cons (ps_set (i := 2) sc_checked_partners.nd rfl (Or.inl rfl) (pe_def D_partners_or_wrong (hr.mono (by decide)) (pa_cons (pv 0) (pa_cons (pv 1) pa_nil))))
        (pss_cons (ps_if (pt_cmpR op_tyIs (pe_callTy (typK (K := K)) (by rfl) m_type (by decide +kernel) (pa_cons (pv 2) pa_nil)) (pe_bltn (v := .ty "int") (by rfl) m_int (by decide +kernel) rfl) (nomark _)) (pss_one (ps_raise rfl (takes_of (E := E) rfl rfl rfl rfl) (pmk_F F_InvalidLayout (hr.mono (by decide)) (pv 2)))) pss_nil)
        (pss_one (ps_ret (pv 2)))))), ?_⟩
    walk_at "ev"
    refine r_typ hd ?_
    walk_at "ev"
    refine r_tyC (tyN_d d) .lst ?_
    walk_at "ev"
    refine ite2 (fun h => ?_) (fun h => ?_)
    · walk_at "ev"
      refine ⟨.inl rfl, fun dx nd => ?_⟩
      refine q2 _ dx _ (.list ?_) (same_new nd) nd upd_same
      cases d <;> first | rfl | simp [tyD] at h
    · obtain ⟨ds, rfl⟩ := tyD_lst.mp (show tyD d = "list" by simpa using h)
      obtain ⟨a, xs, rfl, ha, hD⟩ := dt_lst hd
      walk_at "ev"
      refine ⟨n, a, xs, ds, rfl, n1, n60, ha, hD, fun L T ts H' hL e s nT hT hF => ?_, fun i H' e s => ?_⟩
      · walk_at "ev"
        refine r_typ (.lst hT (dta_ints ts)) ?_
        walk_at "ev"
        refine r_tyC (tyN_d _) .int ?_
        walk_at "ev"
        subst e
        exact q1 L T ts H' hL rfl s nT hT hF
      · walk_at "ev"
        refine r_typ (.int _) ?_
        walk_at "ev"
        refine r_tyC (tyN_d _) .int ?_
        walk_at "ev"
        refine ⟨easy_nat (by have := layW_lt e; have := hf ds rfl; simp at *; omega), fun dx nd => ?_⟩
        exact q2 _ dx _ (.item e) (s.trans (same_new nd)) (s.free nd) upd_same
end
end K8
namespace K8
open PySem PySem.Spec PyProof.Rows L2 Vf
section
variable {P : Program} {w : World} {K : PySem.W.Frag} {mg : Str → Option Value} {base : Heap}
theorem ok__are_ascending_couplings {f : Addr} {fd : FuncData} (F : Fun K "_are_ascending_couplings" "_are_ascending_couplings" s__are_ascending_couplings f fd) (D_is_coupling : Def P w K mg base 3 "is_coupling" ["pieces", "value"] (sp_is_coupling K)) (m_len : mg "len" = none) : FnOk P w K mg base CX0 4 f fd ["pieces", "items"] (sp__are_ascending_couplings K) := by
  refine F.ok sc__are_ascending_couplings (fun vs H Q E h => ?_) (fun cdv A outer s H vs Q E hr h => ?_)
  · obtain ⟨_, _, _, _, rfl, _⟩ := h
    rfl
  · have hu := hu_of hr
    obtain ⟨n, a, xs, ds, rfl, ha, hD, hl, q⟩ := h
    refine ⟨_, (pss_cons (ps_for PassesOwn.never rfl (pi_list (pv 1)) (pg_name (i := 2) sc__are_ascending_couplings.nd rfl (Or.inl rfl))
          (pss_one (ps_if (pt_not (pt_val (pe_def D_is_coupling (hr.mono (by decide)) (pa_cons (pv 0) (pa_cons (pv 2) pa_nil))))) (pss_one (ps_ret pe_bl)) pss_nil)))
        (pss_one (ps_ret (pe_or (pe_cmpR op_lt (pe_callB (lenK (K := K)) (by rfl) m_len (by decide +kernel) (pa_cons (pv 1) pa_nil)) pe_int (nomark _)) (pe_one (pe_cmpR (ltTK (K := K) hr.units0) (pe_ix (ixL (K := K)) (pv 1) pe_int (fun _ _ => rfl)) (pe_ix (ixL (K := K)) (pv 1) pe_int (fun _ _ => rfl)) (nomark _))))))), ?_⟩
    have hxl := dta_len hD
    walk_at "ev"
    refine ⟨⟨xs, sql ha⟩, ?_⟩
    refine r_forS (seq_list (dta_pair hD)) (fun dn σ H' => ∃ y, σ = [some (.int n), some (.ref a), y] ∧ H = H' ∧ ∃ C, cpsD n dn = some C) ⟨_, rfl, rfl, [], rfl⟩ (fun _ _ _ ⟨_, _, e, _⟩ => e ▸ sql ha) ?_ ?_
    · rintro dn d r v σ H' e hv ⟨y, rfl, rfl, C, hC⟩
      walk_at "ev"
      refine ⟨n, v, d, rfl, hv, ?_⟩
      walk_at "ev"
      cases hc : cpD n d with
      | none =>
        walk_at "ev"
        have : ascD n ds = false := by
          unfold ascD
          rw [e, cpsD_bad hc]
        rw [this] at q
        exact q
      | some p =>
        walk_at "ev"
        exact ⟨_, cpsD_snoc hc hC⟩
    · rintro σ H' ⟨y, rfl, rfl, C, hC⟩
      obtain ⟨e1, hcp⟩ := cpsD_dP hC
      have ea : ascD n ds = ascP C := by unfold ascD; rw [hC]
      rw [ea] at q
      have hCl : C.length = ds.length := by rw [e1, List.length_map]
      walk_at "ev"
      refine ite2 (fun c1 => ?_) (fun c1 => ?_)
      · have : (xs.length : Int) < 2 := of_decide_eq_true c1
        rw [show ascP C = true by
          match C, hCl with
          | [], _ => rfl
          | [_], _ => rfl
          | _ :: _ :: _, z => simp at z; omega] at q
        exact q
      · have c1' : ¬ (xs.length : Int) < 2 := by simpa using c1
        obtain ⟨p, p', rfl⟩ : ∃ p p', C = [p, p'] := by
          match C, hCl with
          | [p, p'], _ => exact ⟨p, p', rfl⟩
          | [], z => simp at z; omega
          | [_], z => simp at z; omega
          | _ :: _ :: _ :: _, z => simp at z; omega
        subst e1
        obtain ⟨x0, x1, rfl⟩ : ∃ x0 x1, xs = [x0, x1] := by
          match xs, hxl with
          | [x0, x1], _ => exact ⟨x0, x1, rfl⟩
        cases hD with
        | cons k0 r0 =>
        cases r0 with
        | cons k1 r1 =>
        obtain ⟨t0, ys0, rfl, ht0, hy0⟩ := dt_tup (show Dt K H x0 (.tuple [.int p.1, .int p.2]) from k0)
        obtain ⟨t1, ys1, rfl, ht1, hy1⟩ := dt_tup (show Dt K H x1 (.tuple [.int p'.1, .int p'.2]) from k1)
        obtain rfl := dta_two hy0
        obtain rfl := dta_two hy1
        walk_at "ev"
        refine r_ltP (sqt ht0) (sqt ht1) ?_
        exact q
end
end K8
namespace K8
open PySem PySem.Spec PyProof.Rows L2 Vf
section
variable {P : Program} {w : World} {K : PySem.W.Frag} {mg : Str → Option Value} {base : Heap}
theorem ok__has_form {f : Addr} {fd : FuncData} (F : Fun K "_has_form" "_has_form" s__has_form f fd) (D__are_ascending_couplings : Def P w K mg base 4 "_are_ascending_couplings" ["pieces", "items"] (sp__are_ascending_couplings K)) (m_tuple : mg "tuple" = none) (m_list : mg "list" = none) (m_type : mg "type" = none) (m_len : mg "len" = none) {A_FORMS : Addr} (g_FORMS : mg "FORMS" = some (.ref A_FORMS)) (p_FORMS : pairsK K A_FORMS = some [(2, 2), (1, 1), (1, 0), (0, 1)]) : FnOk P w K mg base CX0 5 f fd ["pieces", "value"] (sp__has_form K) := by
  refine F.ok sc__has_form (fun vs H Q E h => ?_) (fun cdv A outer s H vs Q E hr h => ?_)
  · obtain ⟨_, _, _, rfl, _⟩ := h
    rfl
  · have hu := hu_of hr
    obtain ⟨n, v, d, rfl, hd, q⟩ := h
    refine ⟨_, (pss_cons (ps_if (PW.pt (pw_or (pt_cmpR op_tyNe (pe_callTy (typK (K := K)) (by rfl) m_type (by decide +kernel) (pa_cons (pv 1) pa_nil)) (pe_bltn (v := .ty "tuple") (by rfl) m_tuple (by decide +kernel) rfl) (nomark _)) (pw_or1 (pt_cmpR op_ne (pe_callB (lenK (K := K)) (by rfl) m_len (by decide +kernel) (pa_cons (pv 1) pa_nil)) pe_int (nomark _))))) (pss_one (ps_ret pe_bl)) pss_nil)
        (pss_cons (ps_asg (pv 1) (pg_tup rfl (pgs_cons (pg_name (i := 2) sc__has_form.nd rfl (Or.inl rfl)) (pgs_cons (pg_name (i := 3) sc__has_form.nd rfl (Or.inl rfl)) pgs_nil))))
        (pss_cons (ps_if (PW.pt (pw_or (pt_cmpR op_tyNe (pe_callTy (typK (K := K)) (by rfl) m_type (by decide +kernel) (pa_cons (pv 2) pa_nil)) (pe_bltn (v := .ty "list") (by rfl) m_list (by decide +kernel) rfl) (nomark _)) (pw_or (pt_cmpR op_tyNe (pe_callTy (typK (K := K)) (by rfl) m_type (by decide +kernel) (pa_cons (pv 3) pa_nil)) (pe_bltn (v := .ty "list") (by rfl) m_list (by decide +kernel) rfl) (nomark _)) (pw_or1 (pt_cmpR (notInPK (K := K) hr.units) (pe_tup (pa_cons (pe_callB (lenK (K := K)) (by rfl) m_len (by decide +kernel) (pa_cons (pv 2) pa_nil)) (pa_cons (pe_callB (lenK (K := K)) (by rfl) m_len (by decide +kernel) (pa_cons (pv 3) pa_nil)) pa_nil))) (pe_glob (v := .ref A_FORMS) rfl g_FORMS rfl) rfl))))) (pss_one (ps_ret pe_bl)) pss_nil)
        (pss_one (ps_ret (pe_and (pe_def D__are_ascending_couplings (hr.mono (by decide)) (pa_cons (pv 0) (pa_cons (pv 2) pa_nil))) (pe_one (pe_def D__are_ascending_couplings (hr.mono (by decide)) (pa_cons (pv 0) (pa_cons (pv 3) pa_nil)))))))))), ?_⟩
    have no : formD n d = false → ∀ H', Same H H' → Q (.bl false) H' := fun e H' s => e ▸ q H' s
    walk_at "ev"
    refine r_typ hd ?_
    walk_at "ev"
    refine r_tyC (tyN_d d) .tup ?_
    walk_at "ev"
    refine ite2 (fun h => ?_) (fun h => ?_)
    · walk_at "ev"
      exact no (by unfold formD; split <;> first | rfl | (rename_i cs js; simp [tyD] at h)) _ (Same.refl _)
    obtain ⟨ds, rfl⟩ := tyD_tup.mp (show tyD d = "tuple" by simpa using h)
    obtain ⟨t, ys, rfl, ht, hys⟩ := dt_tup hd
    have hyl := dta_len hys
    walk_at "ev"
    refine ite2 (fun h2 => ?_) (fun h2 => ?_)
    · walk_at "ev"
      refine no ?_ _ (Same.refl _)
      unfold formD
      split
      · rename_i cs js e
        cases e
        simp [hyl] at h2
      · rfl
    have hl : ys.length = 2 := by
      have : (ys.length : Int) = 2 := by simpa using h2
      omega
    obtain ⟨u, w', rfl⟩ : ∃ u v, ys = [u, v] := by
      match ys, hl with
      | [u, v], _ => exact ⟨u, v, rfl⟩
    cases hys with
    | @cons _ _ d1 _ k1 hr1 =>
    cases hr1 with
    | @cons _ _ d2 _ k2 hr2 =>
    cases hr2
    walk_at "ev"
    refine r_typ k1 ?_
    walk_at "ev"
    refine r_tyC (tyN_d d1) .lst ?_
    walk_at "ev"
    refine ite2 (fun h3 => ?_) (fun h3 => ?_)
    · walk_at "ev"
      refine no ?_ _ (Same.refl _)
      unfold formD
      split
      · rename_i cs js e; cases e; simp [tyD] at h3
      · rfl
    obtain ⟨cs, rfl⟩ := tyD_lst.mp (show tyD d1 = "list" by simpa using h3)
    obtain ⟨a1, xs1, rfl, ha1, hD1⟩ := dt_lst k1
    walk_at "ev"
    refine r_typ k2 ?_
    walk_at "ev"
    refine r_tyC (tyN_d d2) .lst ?_
    walk_at "ev"
    refine ite2 (fun h4 => ?_) (fun h4 => ?_)
    · walk_at "ev"
      refine no ?_ _ (Same.refl _)
      unfold formD
      split
      · rename_i cs js e; cases e; simp [tyD] at h4
      · rfl
    obtain ⟨js, rfl⟩ := tyD_lst.mp (show tyD d2 = "list" by simpa using h4)
    obtain ⟨a2, xs2, rfl, ha2, hD2⟩ := dt_lst k2
    have hx1 := dta_len hD1
    have hx2 := dta_len hD2
    walk_at "ev"
    refine ⟨szl (by show 2 ≤ 100000; decide), fun p np => ?_⟩
    have s1 := same_new (o := .tup [.int (xs1.length : Nat), .int (xs2.length : Nat)]) np
    have hp : upd H p (.tup [.int (xs1.length : Nat), .int (xs2.length : Nat)]) p = some (.tup [.int (xs1.length : Nat), .int (xs2.length : Nat)]) := upd_same
    generalize upd H p (.tup [.int (xs1.length : Nat), .int (xs2.length : Nat)]) = H1 at s1 hp ⊢
    walk_at "ev"
    have hF : formD n (.tuple [.list cs, .list js]) = (formL cs.length js.length && ascD n cs && ascD n js) := rfl
    refine ⟨A_FORMS, ((xs1.length : Int), (xs2.length : Int)), _, rfl, .tup (sqt hp) (.cons (.int _) (.cons (.int _) .nil)), .inr (pairsK_ok p_FORMS), ?_⟩
    have hfm : (decide ((((xs1.length : Int), (xs2.length : Int)) : Int × Int) ∈ ([(2, 2), (1, 1), (1, 0), (0, 1)] : List (Int × Int))) != true) = !formL cs.length js.length := by
      have e : ((((xs1.length : Int), (xs2.length : Int)) : Int × Int) ∈ ([(2, 2), (1, 1), (1, 0), (0, 1)] : List (Int × Int))) ↔ ((cs.length = 2 ∧ js.length = 2) ∨ (cs.length = 1 ∧ js.length = 1) ∨ (cs.length = 1 ∧ js.length = 0) ∨ (cs.length = 0 ∧ js.length = 1)) := by
        rw [← hx1, ← hx2]
        simp only [List.mem_cons, Prod.mk.injEq, List.not_mem_nil, or_false]
        omega
      unfold formL
      rw [decide_eq_decide.mpr e]
      exact bneT _
    rw [hfm]
    walk_at "ev"
    by_cases hf : formL cs.length js.length = true
    case neg =>
      rw [Bool.eq_false_iff.mpr hf] at hF ⊢
      walk_at "ev"
      exact no (by rw [hF]; rfl) _ s1
    rw [hf] at hF ⊢
    have hlen : cs.length ≤ 2 ∧ js.length ≤ 2 := by
      have := of_decide_eq_true hf
      omega
    walk_at "ev"
    refine ⟨n, a1, xs1, cs, rfl, s1 _ _ ha1, hD1.mono s1, hlen.1, ?_⟩
    walk_at "ev"
    by_cases hc : ascD n cs = true
    case neg =>
      rw [Bool.eq_false_iff.mpr hc] at hF ⊢
      walk_at "ev"
      exact no (by rw [hF]; rfl) _ s1
    rw [hc] at hF ⊢
    walk_at "ev"
    refine ⟨n, a2, xs2, js, rfl, s1 _ _ ha2, hD2.mono s1, hlen.2, ?_⟩
    have := q _ s1
    rw [hF] at this
    exact this
end
end K8
namespace K8
open PySem PySem.Spec PyProof.Rows L2 Vf
section
variable {P : Program} {w : World} {K : PySem.W.Frag} {mg : Str → Option Value} {base : Heap}
theorem ok__joins_otherwise {f : Addr} {fd : FuncData} (F : Fun K "_joins_otherwise" "_joins_otherwise" s__joins_otherwise f fd) (D_coupling_of : Def P w K mg base 1 "coupling_of" ["end", "other"] (sp_coupling_of K)) : FnOk P w K mg base CX0 2 f fd ["cut", "joined"] (sp__joins_otherwise K) := by
  refine F.ok sc__joins_otherwise (fun vs H Q E h => ?_) (fun cdv A outer s H vs Q E hr h => ?_)
  · obtain ⟨_, _, _, _, _, _, _, rfl, _⟩ := h
    rfl
  · have hu := hu_of hr
    obtain ⟨a, b, xs, ys, p, q, J, rfl, ha, hx, hb, hy, qq⟩ := h
    refine ⟨_, (pss_cons (ps_asg (pv 0) (pg_lst rfl (pgs_cons (pg_tup rfl (pgs_cons (pg_name (i := 2) sc__joins_otherwise.nd rfl (Or.inl rfl)) (pgs_cons (pg_name (i := 3) sc__joins_otherwise.nd rfl (Or.inl rfl)) pgs_nil))) (pgs_cons (pg_tup rfl (pgs_cons (pg_name (i := 4) sc__joins_otherwise.nd rfl (Or.inl rfl)) (pgs_cons (pg_name (i := 5) sc__joins_otherwise.nd rfl (Or.inl rfl)) pgs_nil))) pgs_nil))))
        (pss_one (ps_ret (pe_or (pe_cmpR (eqD (K := K) hr.units) (pv 1) (pe_lst (pa_cons (pe_tup (pa_cons (pv 2) (pa_cons (pv 4) pa_nil))) (pa_cons (pe_def D_coupling_of (hr.mono (by decide)) (pa_cons (pv 3) (pa_cons (pv 5) pa_nil))) pa_nil))) (nomark _)) (pe_one (pe_cmpR (eqD (K := K) hr.units) (pv 1) (pe_lst (pa_cons (pe_tup (pa_cons (pv 2) (pa_cons (pv 5) pa_nil))) (pa_cons (pe_def D_coupling_of (hr.mono (by decide)) (pa_cons (pv 3) (pa_cons (pv 4) pa_nil))) pa_nil))) (nomark _))))))), ?_⟩
    obtain ⟨x0, x1, rfl⟩ : ∃ x0 x1, xs = [x0, x1] := by
      match xs, pair_len hx with
      | [x0, x1], _ => exact ⟨x0, x1, rfl⟩
    cases hx with
    | cons k0 r0 =>
    cases r0 with
    | cons k1 r1 =>
    obtain ⟨t0, rfl, ht0⟩ := k0
    obtain ⟨t1, rfl, ht1⟩ := k1
    walk_at "ev"
    refine r_glst (sql ha) rfl ?_
    refine r_gcons ?_
    refine r_gtup (sqt ht0) rfl ?_
    refine r_gcons (r_gname (r_gcons (r_gname (r_gnil ?_))))
    refine r_gcons ?_
    refine r_gtup (sqt ht1) rfl ?_
    refine r_gcons (r_gname (r_gcons (r_gname (r_gnil ?_))))
    refine r_gnil ?_
    refine Vf.r_atS (σ' := [some (.ref a), some (.ref b), some (.int p.1), some (.int p.2), some (.int q.1), some (.int q.2)]) rfl ?_
    walk_at "ev"
    refine ⟨szl (by show 2 ≤ 100000; decide), fun u nu => ?_⟩
    have s1 := same_new (o := .tup [.int p.1, .int q.1]) nu
    have hu1 : upd H u (.tup [.int p.1, .int q.1]) u = some (.tup [.int p.1, .int q.1]) := upd_same
    generalize upd H u (.tup [.int p.1, .int q.1]) = H1 at s1 hu1 ⊢
    walk_at "ev"
    intro u2 H2 s2 nu2 hu2
    walk_at "ev"
    refine ⟨szl (by show 2 ≤ 100000; decide), fun l nl => ?_⟩
    have s3 := s2.trans (same_new (o := .lst [.ref u, .ref u2]) nl)
    have s4 := same_new (o := .lst [.ref u, .ref u2]) nl
    have hl : upd H2 l (.lst [.ref u, .ref u2]) l = some (.lst [.ref u, .ref u2]) := upd_same
    generalize upd H2 l (.lst [.ref u, .ref u2]) = H3 at s3 s4 hl ⊢
    refine r_eqPs (L := J) (M := [(p.1, q.1), cpl p.2 q.2]) (sql (s3 _ _ (s1 _ _ hb))) (dpa_prs (hy.mono (s1.trans s3))) (sql hl) (.cons (dp_pr ⟨u, rfl, s3 _ _ hu1⟩) (.cons (dp_pr ⟨u2, rfl, s4 _ _ hu2⟩) .nil)) ?_
    walk_at "ev"
    refine ite2 (fun c => ?_) (fun c => ?_)
    · have := qq H3 (s1.trans s3)
      unfold otherB at this
      rw [c, Bool.true_or] at this
      exact this
    · have c' : decide (J = [(p.1, q.1), cpl p.2 q.2]) = false := Bool.eq_false_iff.mpr c
      have s13 := s1.trans s3
      walk_at "ev"
      refine ⟨szl (by show 2 ≤ 100000; decide), fun u nu => ?_⟩
      have s5 := same_new (o := .tup [.int p.1, .int q.2]) nu
      have hu5 : upd H3 u (.tup [.int p.1, .int q.2]) u = some (.tup [.int p.1, .int q.2]) := upd_same
      generalize upd H3 u (.tup [.int p.1, .int q.2]) = H5 at s5 hu5 ⊢
      walk_at "ev"
      intro u6 H6 s6 nu6 hu6
      walk_at "ev"
      refine ⟨szl (by show 2 ≤ 100000; decide), fun l nl => ?_⟩
      have s7 := same_new (o := .lst [.ref u, .ref u6]) nl
      have hl7 : upd H6 l (.lst [.ref u, .ref u6]) l = some (.lst [.ref u, .ref u6]) := upd_same
      generalize upd H6 l (.lst [.ref u, .ref u6]) = H7 at s7 hl7 ⊢
      have s37 := s5.trans (s6.trans s7)
      refine r_eqPs (L := J) (M := [(p.1, q.2), cpl p.2 q.1]) (sql (s37 _ _ (s13 _ _ hb))) (dpa_prs (hy.mono (s13.trans s37))) (sql hl7) (.cons (dp_pr ⟨u, rfl, s7 _ _ (s6 _ _ hu5)⟩) (.cons (dp_pr ⟨u6, rfl, s7 _ _ hu6⟩) .nil)) ?_
      have := qq H7 (s13.trans s37)
      unfold otherB at this
      rw [c', Bool.false_or] at this
      exact this
end
end K8
namespace K8
open PySem PySem.Spec PyProof.Rows L2 Vf
section
variable {P : Program} {w : World} {K : PySem.W.Frag} {mg : Str → Option Value} {base : Heap}
theorem ok__joins_to_open {f : Addr} {fd : FuncData} (F : Fun K "_joins_to_open" "_joins_to_open" s__joins_to_open f fd)  : FnOk P w K mg base CX0 1 f fd ["cut", "joined", "partners"] (sp__joins_to_open K) := by
  refine F.ok sc__joins_to_open (fun vs H Q E h => ?_) (fun cdv A outer s H vs Q E hr h => ?_)
  · obtain ⟨_, _, _, _, _, _, _, _, rfl, _⟩ := h
    rfl
  · have hu := hu_of hr
    obtain ⟨a, b, c, p, q, n, L, ts, rfl, ha, hb, hc, hF, hL, hq, qq⟩ := h
    refine ⟨_, (pss_cons (ps_asg (pv 1) (pg_tup rfl (pgs_cons (pg_name (i := 3) sc__joins_to_open.nd rfl (Or.inl rfl)) (pgs_cons (pg_name (i := 4) sc__joins_to_open.nd rfl (Or.inl rfl)) pgs_nil))))
        (pss_cons (ps_if (pt_cmpR (inSeqK (K := K)) (pv 3) (pv 0) rfl) (pss_one (ps_ret (notTK (K := K) (pe_ix (ixL (K := K)) (pv 2) (pv 4) (fun _ _ => rfl))))) pss_nil)
        (pss_one (ps_ret (pe_and (pe_cmpR (inSeqK (K := K)) (pv 4) (pv 0) rfl) (pe_one (notTK (K := K) (pe_ix (ixL (K := K)) (pv 2) (pv 3) (fun _ _ => rfl))))))))), ?_⟩
    have inT : ∀ i : Int, inV (.int i) [.int p.1, .int p.2] = decide (i = p.1 ∨ i = p.2) := fun i => by
      rw [show ([V.int p.1, V.int p.2] : List V) = [p.1, p.2].map V.int from rfl, in_ints]
      simp
    have hS : SqT K H a [.int p.1, .int p.2] := sqt ha
    clear ha
    walk_at "ev"
    refine ⟨a, _, rfl, .inr hS, rfl, rfl, _, rfl, ?_⟩
    rw [if_neg Bool.false_ne_true, inT]
    unfold openB at qq
    refine ite2 (fun c1 => ?_) (fun c1 => ?_)
    · rw [if_pos (of_decide_eq_true c1)] at qq
      walk_at "ev"
      refine r_ixL (sql hc) (hF.at (by omega) (by omega)) ?_
      walk_at "ev"
      rw [ptb_open hL hq.2.2.2.2]
      exact qq
    · rw [if_neg (by simpa using c1)] at qq
      walk_at "ev"
      refine ⟨a, _, rfl, .inr hS, rfl, rfl, _, rfl, ?_⟩
      rw [if_neg Bool.false_ne_true, inT]
      refine ite2 (fun c2 => ?_) (fun c2 => ?_)
      · rw [decide_eq_decide.mpr (show ((q.2 = p.1 ∨ q.2 = p.2) ∧ q.1 ∉ flat L) ↔ q.1 ∉ flat L from ⟨fun z => z.2, fun z => ⟨of_decide_eq_true c2, z⟩⟩)] at qq
        walk_at "ev"
        refine r_ixL (sql hc) (hF.at (by omega) (by omega)) ?_
        walk_at "ev"
        rw [ptb_open hL hq.2.2.2.1]
        exact qq
      · rw [decide_eq_false (show ¬ ((q.2 = p.1 ∨ q.2 = p.2) ∧ q.1 ∉ flat L) from fun z => c2 (decide_eq_true z.1))] at qq
        exact qq
end
end K8
namespace K8
open PySem PySem.Spec PyProof.Rows L2 Vf
section
variable {P : Program} {w : World} {K : PySem.W.Frag} {mg : Str → Option Value} {base : Heap}
theorem ok_is_move_by_partners {f : Addr} {fd : FuncData} (F : Fun K "is_move_by_partners" "is_move_by_partners" s_is_move_by_partners f fd) (D__has_form : Def P w K mg base 5 "_has_form" ["pieces", "value"] (sp__has_form K)) (D__joins_otherwise : Def P w K mg base 2 "_joins_otherwise" ["cut", "joined"] (sp__joins_otherwise K)) (D__joins_to_open : Def P w K mg base 1 "_joins_to_open" ["cut", "joined", "partners"] (sp__joins_to_open K)) (m_len : mg "len" = none) : FnOk P w K mg base CX0 6 f fd ["pieces", "partners", "value"] (sp_is_move_by_partners K) := by
  refine F.ok sc_is_move_by_partners (fun vs H Q E h => ?_) (fun cdv A outer s H vs Q E hr h => ?_)
  · obtain ⟨_, _, _, _, _, _, rfl, _⟩ := h
    rfl
  · have hu := hu_of hr
    obtain ⟨n, c, v, L, ts, d, rfl, hc, hF, hL, hd, qq⟩ := h
    refine ⟨_, (pss_cons (ps_if (pt_not (pt_val (pe_def D__has_form (hr.mono (by decide)) (pa_cons (pv 0) (pa_cons (pv 2) pa_nil))))) (pss_one (ps_ret pe_bl)) pss_nil)
        (pss_cons (ps_asg (pv 2) (pg_tup rfl (pgs_cons (pg_name (i := 3) sc_is_move_by_partners.nd rfl (Or.inl rfl)) (pgs_cons (pg_name (i := 4) sc_is_move_by_partners.nd rfl (Or.inl rfl)) pgs_nil))))
        (pss_cons (ps_for PassesOwn.never rfl (pi_list (pv 3)) (pg_tup rfl (pgs_cons (pg_name (i := 5) sc_is_move_by_partners.nd rfl (Or.inl rfl)) (pgs_cons (pg_name (i := 6) sc_is_move_by_partners.nd rfl (Or.inl rfl)) pgs_nil)))
          (pss_one (ps_if (pt_cmpR op_ne (pe_ix (ixL (K := K)) (pv 1) (pv 5) (fun _ _ => rfl)) (pv 6) (nomark _)) (pss_one (ps_ret pe_bl)) pss_nil)))
        (pss_cons (ps_if (pt_cmpR op_eq (pe_callB (lenK (K := K)) (by rfl) m_len (by decide +kernel) (pa_cons (pv 4) pa_nil)) pe_int (nomark _)) (pss_one (ps_ret pe_bl)) pss_nil)
        (pss_cons (ps_if (pt_cmpR op_eq (pe_callB (lenK (K := K)) (by rfl) m_len (by decide +kernel) (pa_cons (pv 4) pa_nil)) pe_int (nomark _)) (pss_one (ps_ret (pe_def D__joins_otherwise (hr.mono (by decide)) (pa_cons (pv 3) (pa_cons (pv 4) pa_nil))))) pss_nil)
        (pss_cons (ps_if (pt_cmpR op_eq (pe_callB (lenK (K := K)) (by rfl) m_len (by decide +kernel) (pa_cons (pv 3) pa_nil)) pe_int (nomark _)) (pss_one (ps_ret (pe_def D__joins_to_open (hr.mono (by decide)) (pa_cons (pe_ix (ixL (K := K)) (pv 3) pe_int (fun _ _ => rfl)) (pa_cons (pe_ix (ixL (K := K)) (pv 4) pe_int (fun _ _ => rfl)) (pa_cons (pv 1) pa_nil)))))) pss_nil)
        (pss_cons (ps_asg (pe_ix (ixL (K := K)) (pv 4) pe_int (fun _ _ => rfl)) (pg_tup rfl (pgs_cons (pg_name (i := 5) sc_is_move_by_partners.nd rfl (Or.inl rfl)) (pgs_cons (pg_name (i := 6) sc_is_move_by_partners.nd rfl (Or.inl rfl)) pgs_nil))))
        (pss_one (ps_ret (pe_and (notTK (K := K) (pe_ix (ixL (K := K)) (pv 1) (pv 5) (fun _ _ => rfl))) (pe_one (notTK (K := K) (pe_ix (ixL (K := K)) (pv 1) (pv 6) (fun _ _ => rfl)))))))))))))), ?_⟩
    walk_at "ev"
    refine ⟨n, v, d, rfl, hd, fun H1 s1 => ?_⟩
    walk_at "ev"
    by_cases hf : formD n d = true
    case neg =>
      rw [Bool.eq_false_iff.mpr hf]
      walk_at "ev"
      have := qq H1 s1
      rw [show mvD n L d = false by unfold mvD; rw [Bool.eq_false_iff.mpr hf]; rfl] at this
      exact this
    rw [hf]
    obtain ⟨C, J, rfl, hC, hJ, hCc, hJc, hCa, hJa, hlen⟩ := formD_ok hf
    have hmv : mvD n L (.tuple [.list (C.map dP), .list (J.map dP)]) = mvB L C J := by
      unfold mvD
      rw [hf]
      simp only [hC, hJ, Bool.true_and]
    rw [hmv] at qq
    obtain ⟨t, ys, rfl, ht, hys⟩ := dt_tup (hd.mono s1)
    cases hys with
    | cons k1 hr1 =>
    cases hr1 with
    | cons k2 hr2 =>
    cases hr2
    obtain ⟨a1, xs1, rfl, ha1, hD1⟩ := dt_lst k1
    obtain ⟨a2, xs2, rfl, ha2, hD2⟩ := dt_lst k2
    have hP1 := prs_dta hD1
    have hP2 := prs_dta hD2
    have hx1 := pair_len hP1
    have hx2 := pair_len hP2
    have hc1 := s1 _ _ hc
    walk_at "ev"
    refine ⟨⟨xs1, sql ha1⟩, ?_⟩
    refine r_forS (seq_list hP1) (fun dn σ H' => ∃ y z, σ = [some (.int n), some (.ref c), some (.ref t), some (.ref a1), some (.ref a2), y, z] ∧ H1 = H' ∧ ∀ p ∈ dn, p ∈ L) ⟨_, _, rfl, rfl, fun _ z => (nomatch z)⟩ (fun _ _ _ ⟨_, _, _, e, _⟩ => e ▸ sql ha1) ?_ ?_
    · rintro dn p r v σ H' e hv ⟨y, z, rfl, rfl, hin⟩
      obtain ⟨u, rfl, hu⟩ := hv
      have hpC : p ∈ C := by rw [e]; simp
      have cp := hCc p hpC
      walk_at "ev"
      refine r_ixL (sql hc1) (hF.at (by omega) (by omega)) ?_
      walk_at "ev"
      have hpp := par_pair hL cp.2.1 cp.2.2.2.1
      by_cases hm : p ∈ L
      · refine ifNn (hpp.mpr (.inl ⟨cp.2.2.2.2, hm⟩)) ?_
        walk_at "ev"
        intro q hq
        rcases List.mem_append.mp hq with hq | hq
        · exact hin q hq
        · rw [List.mem_singleton.mp hq]; exact hm
      · refine ifN (fun z => ?_) ?_
        · rcases hpp.mp z with ⟨_, h⟩ | ⟨h, _⟩
          · exact hm h
          · exact cp.2.2.2.2 h
        · walk_at "ev"
          have := qq H1 s1
          rw [show mvB L C J = false by
            unfold mvB
            rw [show C.all (fun p => decide (p ∈ L)) = false by
              rw [Bool.eq_false_iff]
              intro z
              exact hm (of_decide_eq_true (List.all_eq_true.mp z p hpC))]
            rfl] at this
          exact this
    · rintro σ H' ⟨y, z, rfl, rfl, hin⟩
      have hall : C.all (fun p => decide (p ∈ L)) = true := List.all_eq_true.mpr fun p hp => decide_eq_true (hin p hp)
      have q1 := qq H1 s1
      unfold mvB at q1
      rw [hall, Bool.true_and] at q1
      have hc0 : ((xs1.length : Nat) : Int) = C.length := by rw [hx1]
      have hj0 : ((xs2.length : Nat) : Int) = J.length := by rw [hx2]
      walk_at "ev"
      by_cases h0 : J.length = 0
      · refine ifD (by rw [hj0, h0]; rfl) ?_
        walk_at "ev"
        match C, J, hlen, h0 with
        | [_], [], _, _ => exact q1
        | [], [], h, _ => simp at h
        | _ :: _ :: _, [], h, _ => simp at h
      refine ifDn (by omega) ?_
      walk_at "ev"
      by_cases h2 : J.length = 2
      · refine ifD (by omega) ?_
        obtain ⟨p, q, rfl⟩ : ∃ p q, C = [p, q] := by
          match C, hlen with
          | [p, q], _ => exact ⟨p, q, rfl⟩
          | [], h => simp [h2] at h
          | [_], h => simp [h2] at h
          | _ :: _ :: _ :: _, h => simp at h
        walk_at "ev"
        exact ⟨a1, a2, xs1, xs2, p, q, J, rfl, ha1, hP1, ha2, hP2, fun H' s' => by
          have := qq H' (s1.trans s')
          unfold mvB at this
          rw [hall, Bool.true_and] at this
          exact this⟩
      refine ifDn (by omega) ?_
      walk_at "ev"
      obtain ⟨q, rfl⟩ : ∃ q, J = [q] := by
        match J, hlen, h0, h2 with
        | [q], _, _, _ => exact ⟨q, rfl⟩
        | [], _, h, _ => exact absurd rfl h
        | [_, _], _, _, h => exact absurd rfl h
        | _ :: _ :: _ :: _, h, _, _ => simp at h
      obtain ⟨x2, rfl⟩ : ∃ x, xs2 = [x] := by
        match xs2, hx2 with
        | [x], _ => exact ⟨x, rfl⟩
      cases hP2 with
      | cons r2 _ =>
      obtain ⟨u2, rfl, hu2⟩ := r2
      have cq := hJc q (by simp)
      by_cases h1 : C.length = 1
      · refine ifD (by omega) ?_
        obtain ⟨p, rfl⟩ : ∃ p, C = [p] := by
          match C, h1 with
          | [p], _ => exact ⟨p, rfl⟩
        obtain ⟨x1, rfl⟩ : ∃ x, xs1 = [x] := by
          match xs1, hx1 with
          | [x], _ => exact ⟨x, rfl⟩
        cases hP1 with
        | cons r1 _ =>
        obtain ⟨u1, rfl, hu1⟩ := r1
        walk_at "ev"
        exact ⟨u1, u2, c, p, q, n, L, ts, rfl, hu1, hu2, hc1, hF, hL, cq, q1⟩
      refine ifDn (by omega) ?_
      have hC0 : C = [] := by
        match C, hlen, h1 with
        | [], _, _ => rfl
        | [_], _, h => exact absurd rfl h
        | _ :: _ :: _, h, _ => simp at h
      subst hC0
      have q2 : Q (.bl (decide (q.1 ∉ flat L ∧ q.2 ∉ flat L))) H1 := q1
      walk_at "ev"
      refine r_ixL (sql hc1) (hF.at (by omega) (by omega)) ?_
      walk_at "ev"
      rw [ptb_open hL cq.2.2.2.1]
      refine ite2 (fun c1 => ?_) (fun c1 => ?_)
      · walk_at "ev"
        refine r_ixL (sql hc1) (hF.at (by omega) (by omega)) ?_
        walk_at "ev"
        rw [ptb_open hL cq.2.2.2.2]
        rw [decide_eq_decide.mpr (show (q.1 ∉ flat L ∧ q.2 ∉ flat L) ↔ q.2 ∉ flat L from ⟨fun z => z.2, fun z => ⟨of_decide_eq_true c1, z⟩⟩)] at q2
        exact q2
      · rw [decide_eq_false (show ¬ (q.1 ∉ flat L ∧ q.2 ∉ flat L) from fun z => c1 (decide_eq_true z.1))] at q2
        exact q2
end
end K8
namespace K8
open PySem PySem.Spec PyProof.Rows L2 Vf
section
variable {P : Program} {w : World} {K : PySem.W.Frag} {mg : Str → Option Value} {base : Heap}
theorem ok_checked_move {f : Addr} {fd : FuncData} (F : Fun K "checked_move" "checked_move" s_checked_move f fd) (D_check_pieces : DefR P w K mg base 2 "check_pieces" ["pieces"] (sp_check_pieces K)) (D_checked_partners : DefR P w K mg base 4 "checked_partners" ["pieces", "layout"] (sp_checked_partners K)) (D_is_move_by_partners : Def P w K mg base 6 "is_move_by_partners" ["pieces", "partners", "value"] (sp_is_move_by_partners K)) (N_InvalidMove : New1 K mg "InvalidMove") : FnG P w K mg base (L2.CX P w) 7 f fd ["pieces", "layout", "move"] (sp_checked_move K) := by
  refine okG F sc_checked_move (fun vs H Q E h => ?_) (fun cdv A outer s H vs Q E hr hgd h => ?_)
  · obtain ⟨_, _, _, _, _, _, rfl, _⟩ := h
    rfl
  · have hu := hu_of hr
    obtain ⟨u, c, v, d, x, e, rfl, hc, hd, he, hf, q1, q2, q3, q4⟩ := h
    refine ⟨_, (pss_cons (ps_expr (pe_defR D_check_pieces (E := E) (passes_call (takes_of (E := E) rfl rfl rfl rfl) fun _ _ _ _ z => z) (hr.mono (by decide)) hgd (pa_cons (pv 0) pa_nil)))
        (pss_cons (ps_set (i := 3) sc_checked_move.nd rfl (Or.inl rfl) (pe_defR D_checked_partners (E := E) (passes_call (takes_of (E := E) rfl rfl rfl rfl) fun _ _ _ _ z => z) (hr.mono (by decide)) hgd (pa_cons (pv 0) (pa_cons (pv 1) pa_nil))))
        (pss_cons (ps_if (pt_not (pt_val (pe_def D_is_move_by_partners (hr.mono (by decide)) (pa_cons (pv 0) (pa_cons (pv 3) (pa_cons (pv 2) pa_nil)))))) (pss_one (ps_raise rfl (takes_of (E := E) rfl rfl rfl rfl) (pmk_1 N_InvalidMove pe_str))) pss_nil)
        (pss_one (ps_ret (pv 3)))))), ?_⟩
    walk_at "ev"
    refine ⟨u, c, rfl, hc, fun n hn => ?_, q2⟩
    obtain ⟨n1, n2, rfl⟩ := piecesD_some hn
    cases dt_int hc
    walk_at "ev"
    refine ⟨n, v, d, rfl, n1, n2, hd, hf, fun L T ts H1 hL ed s nT hT hF => ?_, fun i dx H1 h s nd hx => q3 n i dx H1 hn h s nd hx⟩
    walk_at "ev"
    refine ⟨n, T, x, L, ts, e, rfl, hT, hF, hL, he.mono s, fun H2 s2 => ?_⟩
    cases hm : mvD n L e with
    | true =>
      walk_at "ev"
      exact q1 n L T ts H2 hn hL ed hm (s.trans s2) nT (s2 _ _ hT) hF
    | false =>
      walk_at "ev"
      exact q4 n L H2 hn hL ed hm (s.trans s2)
end
end K8
namespace K8
open PySem PySem.Spec PyProof.Rows L2 Vf
section
variable {P : Program} {w : World} {K : PySem.W.Frag} {mg : Str → Option Value} {base : Heap}
theorem ok__joins {f : Addr} {fd : FuncData} (F : Fun K "_joins" "_joins" s__joins f fd) (m_enumerate : mg "enumerate" = none) : FnOk P w K mg base CX0 1 f fd ["ends"] (sp__joins K) := by
  refine F.ok sc__joins (fun vs H Q E h => ?_) (fun cdv A outer s H vs Q E hr h => ?_)
  · obtain ⟨_, _, rfl, _⟩ := h
    rfl
  · have hu := hu_of hr
    obtain ⟨a, es, rfl, ha, hl, q⟩ := h
    refine ⟨_, (pss_one (ps_ret (pe_lc2 (g := gTup K 2 (gCons (gName 1) (gCons (gName 2) gNil))) (own := [("at", 1), ("low", 2), ("high", 3)]) (vs1 := [3]) rfl sc__joins.nd (pi_enum (by rfl) m_enumerate (pa_cons (pv 0) pa_nil)) (blkOk_by (own := [("at", 1), ("low", 2), ("high", 3)]) (N := N__joins) (sc := defScope s__joins) (by decide +kernel)) (by decide) (fun _ _ _ _ _ => (pg_tup rfl (pgs_cons (pg_name (i := 1) sc__joins.nd rfl (Or.inl rfl)) (pgs_cons (pg_name (i := 2) sc__joins.nd rfl (Or.inl rfl)) pgs_nil)))) (fun _ _ _ _ _ => pts_nil) (fun _ _ _ _ _ => (piLK (K := K) (pe_slice (slK (K := K)) (pv 0) (po_some (pe_op op_add (pv 1) pe_int)) po_none))) (fun _ _ _ _ _ => (pg_name (i := 3) sc__joins.nd rfl (Or.inl rfl))) (fun _ _ _ _ _ => pts_nil) (fun _ _ _ _ _ => (pe_tup (pa_cons (pe_lst pa_nil) (pa_cons (pe_lst (pa_cons (pe_tup (pa_cons (pv 2) (pa_cons (pv 3) pa_nil))) pa_nil)) pa_nil))))))), ?_⟩
    have jl := joinsM_len es
    have jl2 : (joinsM es).length ≤ 14641 := Nat.le_trans jl (Nat.mul_le_mul hl hl)
    walk_at "ev"
    refine ⟨a, _, rfl, sql ha, fun D nD => ?_⟩
    have haD : a ≠ D := ne_of_none ha nD
    refine r_lc2E (fun i H' => Same H H' ∧ ∃ ms, ms ++ joinsM (es.drop i) = joinsM es ∧ Grow H H' D ms) ⟨same_new nD, [], rfl, ⟨[], [], upd_same, .nil, rfl, List.Pairwise.nil, fun _ h => (nomatch h), fun h => (nomatch h)⟩⟩ (fun i H' c => sql (c.1 _ _ ha)) ?_ ?_
    · rintro i x T H1 hx ⟨s1, ms, hms, gr⟩ nT
      rw [List.getElem?_map] at hx
      obtain ⟨e0, he0, rfl⟩ := Option.map_eq_some_iff.mp hx
      have il := (List.getElem?_eq_some_iff.mp he0).1
      have ed : es.drop i = e0 :: es.drop (i + 1) := by
        rw [List.drop_eq_getElem_cons il, (List.getElem?_eq_some_iff.mp he0).2]
      rw [ed] at hms
      have s2 := same_new (o := .tup [.int (i : Nat), .int e0]) nT
      have gr2 := gr.mono s2
      have s12 := s1.trans s2
      walk_at "ev"
      refine r_gtup (sqt upd_same) rfl ?_
      generalize upd H1 T (.tup [.int (i : Nat), .int e0]) = H2 at s2 gr2 s12 ⊢
      have ha2 := s12 _ _ ha
      walk_at "ev"
      refine ⟨a, _, rfl, sql ha2, fun R nR => ?_⟩
      rw [show ((i : Int) + 1) = ((i + 1 : Nat) : Int) by omega, cut_from, ← List.map_drop]
      have s3 := same_new (o := .lst ((es.drop (i + 1)).map V.int)) nR
      have hR : upd H2 R (.lst ((es.drop (i + 1)).map V.int)) R = some (.lst ((es.drop (i + 1)).map V.int)) := upd_same
      have gr3 := gr2.mono s3
      have s13 := s12.trans s3
      have nRD : D ≠ R := by
        obtain ⟨_, _, h, _⟩ := gr2.ex
        exact ne_of_none h nR
      generalize upd H2 R (.lst ((es.drop (i + 1)).map V.int)) = H3 at s3 hR gr3 s13 ⊢
      refine ⟨R, rfl, ⟨_, sql hR⟩, ?_⟩
      refine r_lcIn (seq_list (rel := fun v (e : Int) => v = .int e) (L := es.drop (i + 1)) (pair_map fun _ _ => rfl)) (fun dn H' => Same H H' ∧ H' R = some (.lst ((es.drop (i + 1)).map V.int)) ∧ Grow H H' D (ms ++ dn.map fun y => ([], [(e0, y)]))) ⟨s13, hR, by simpa using gr3⟩ (fun _ _ c => sql c.2.1) ?_ ?_
      · rintro dn y r v H4 e4 rfl ⟨s4, hR4, gr4⟩
        walk_at "ev"
        obtain ⟨acc, _, hacc, _⟩ := gr4.ex
        refine ⟨szl (by show 0 ≤ 100000; decide), fun c1 n1 => ?_⟩
        have s5 := same_new (o := .lst []) n1
        have h1 : upd H4 c1 (.lst []) c1 = some (.lst []) := upd_same
        generalize upd H4 c1 (.lst []) = H5 at s5 h1 ⊢
        walk_at "ev"
        refine ⟨szl (by show 2 ≤ 100000; decide), fun pt npt => ?_⟩
        have s6 := same_new (o := .tup [.int e0, .int y]) npt
        have hpt : upd H5 pt (.tup [.int e0, .int y]) pt = some (.tup [.int e0, .int y]) := upd_same
        generalize upd H5 pt (.tup [.int e0, .int y]) = H6 at s6 hpt ⊢
        walk_at "ev"
        refine ⟨szl (by show 1 ≤ 100000; decide), fun c2 n2 => ?_⟩
        have s7 := same_new (o := .lst [.ref pt]) n2
        have h2 : upd H6 c2 (.lst [.ref pt]) c2 = some (.lst [.ref pt]) := upd_same
        generalize upd H6 c2 (.lst [.ref pt]) = H7 at s7 h2 ⊢
        walk_at "ev"
        refine ⟨szl (by show 2 ≤ 100000; decide), fun p np => ?_⟩
        have s8 := same_new (o := .tup [.ref c1, .ref c2]) np
        have hp : upd H7 p (.tup [.ref c1, .ref c2]) p = some (.tup [.ref c1, .ref c2]) := upd_same
        generalize upd H7 p (.tup [.ref c1, .ref c2]) = H8 at s8 hp ⊢
        have s48 := s5.trans (s6.trans (s7.trans s8))
        obtain ⟨gr5, al⟩ := gr4.add (m := ([], [(e0, y)])) (v := .ref p) s4 nD s48 n1 (s5.free (s6.free n2)) (ne_of_none (s6 _ _ h1) n2) ⟨p, [], [.ref pt], rfl, hp, s8 _ _ (s7 _ _ (s6 _ _ h1)), .nil, s8 _ _ h2, .cons ⟨pt, rfl, s8 _ _ (s7 _ _ hpt)⟩ .nil⟩ (s48 _ _ hacc)
        refine ⟨acc, s48 _ _ hacc, szs ?_, Vf.Same.set (s4.trans s48) nD, by rw [upd_ne nRD.symm]; exact s48 _ _ hR4, by rw [List.map_append, ← List.append_assoc]; exact gr5⟩
        have := congrArg List.length hms
        have h5 := congrArg List.length e4
        rw [List.length_append] at this h5
        simp only [joinsM, List.length_append, List.length_map, List.length_cons] at this h5 al
        omega
      · rintro H4 ⟨s4, hR4, gr4⟩
        refine ⟨s4, _, ?_, gr4⟩
        rw [List.append_assoc]
        exact hms
    · rintro H1 ⟨s1, ms, hms, gr⟩
      rw [List.length_map, List.drop_length] at hms
      have e : ms = joinsM es := by rw [← hms]; simp [joinsM]
      subst e
      walk_at "ev"
      obtain ⟨xs, hx⟩ := gr.done nD
      exact q D xs H1 s1 hx
end
end K8
namespace K8
open PySem PySem.Spec PyProof.Rows L2 Vf
section
variable {P : Program} {w : World} {K : PySem.W.Frag} {mg : Str → Option Value} {base : Heap}
theorem ok__transfers {f : Addr} {fd : FuncData} (F : Fun K "_transfers" "_transfers" s__transfers f fd) (D_coupling_of : Def P w K mg base 1 "coupling_of" ["end", "other"] (sp_coupling_of K)) (m_sorted : mg "sorted" = none) : FnOk P w K mg base CX0 2 f fd ["coupling", "ends"] (sp__transfers K) := by
  refine F.ok sc__transfers (fun vs H Q E h => ?_) (fun cdv A outer s H vs Q E hr h => ?_)
  · obtain ⟨_, _, _, _, rfl, _⟩ := h
    rfl
  · have hu := hu_of hr
    obtain ⟨v, p, a, es, rfl, ⟨tp, rfl, htp⟩, ha, hl, nd, e1, e2, ne, q⟩ := h
    refine ⟨_, (pss_cons (ps_set (i := 2) sc__transfers.nd rfl (Or.inl rfl) (pe_callB (sortedK (K := K)) (by rfl) m_sorted (by decide +kernel) (pa_cons (pe_lc2 (own := [("end", 4), ("other", 5)]) (vs1 := [5]) rfl sc__transfers.nd (pi_tup (pv 0)) (blkOk_by (own := [("end", 4), ("other", 5)]) (N := N__transfers) (sc := defScope s__transfers) (by decide +kernel)) (by decide) (fun _ _ _ _ _ => (pg_name (i := 4) sc__transfers.nd rfl (Or.inl rfl))) (fun _ _ _ _ _ => pts_nil) (fun _ _ _ _ _ => (piLK (K := K) (pv 1))) (fun _ _ _ _ _ => (pg_name (i := 5) sc__transfers.nd rfl (Or.inl rfl))) (fun _ _ _ _ _ => pts_nil) (fun _ _ _ _ _ => (pe_def D_coupling_of (hr.mono (by decide)) (pa_cons (pv 4) (pa_cons (pv 5) pa_nil))))) pa_nil)))
        (pss_one (ps_ret (pe_lc (own := [("new", 3)]) rfl sc__transfers.nd (pi_list (pv 2)) (blkOk_by (own := [("new", 3)]) (N := N__transfers) (sc := defScope s__transfers) (by decide +kernel)) (fun _ _ _ _ _ => (pg_name (i := 3) sc__transfers.nd rfl (Or.inl rfl))) (fun _ _ _ _ _ => pts_nil) (fun _ _ _ _ _ => (pe_tup (pa_cons (pe_lst (pa_cons (pv 0) pa_nil)) (pa_cons (pe_lst (pa_cons (pv 3) pa_nil)) pa_nil)))))))), ?_⟩
    have tl : (newP p es).length ≤ 242 := by unfold newP; rw [List.length_append, List.length_map, List.length_map]; omega
    walk_at "ev"
    refine ⟨⟨_, sqt htp⟩, fun D nD => ?_⟩
    refine r_lc2S (seq_tup (rel := fun v (i : Int) => v = .int i) (xs := [.int p.1, .int p.2]) (L := [p.1, p.2]) (.cons rfl (.cons rfl .nil))) (fun dn H' => Same H H' ∧ ∃ acc, H' D = some (.lst acc) ∧ Prs (Hid [D] H') acc (dn.flatMap fun e => es.map (cpl e))) ⟨same_new nD, [], upd_same, .nil⟩ (fun _ _ c => sqt (c.1 _ _ htp)) ?_ ?_
    · rintro dn e rr v H1 e3 rfl ⟨s1, acc, hacc, hA⟩
      have ha1 := s1 _ _ ha
      have dl : dn.length < 2 := by have := congrArg List.length e3; simp at this; omega
      have fl : ∀ dn : List Int, (dn.flatMap fun e => es.map (cpl e)).length = dn.length * es.length := fun dn => by
        induction dn with
        | nil => simp
        | cons x d ih => rw [List.flatMap_cons, List.length_append, List.length_map, ih, List.length_cons, Nat.add_mul]; omega
      walk_at "ev"
      refine ⟨⟨_, sql ha1⟩, ?_⟩
      refine r_lcIn (seq_list (rel := fun v (e : Int) => v = .int e) (L := es) (pair_map fun _ _ => rfl)) (fun d2 H' => Same H H' ∧ ∃ acc, H' D = some (.lst acc) ∧ Prs (Hid [D] H') acc ((dn.flatMap fun e => es.map (cpl e)) ++ d2.map (cpl e))) ⟨s1, acc, hacc, by simpa using hA⟩ (fun _ _ c => sql (c.1 _ _ ha)) ?_ ?_
      · rintro d2 y r2 v H2 e4 rfl ⟨s2, acc2, hacc2, hA2⟩
        walk_at "ev"
        intro c H3 s3 nc hc
        have al := pair_len hA2
        have h5 := congrArg List.length e4
        rw [List.length_append, List.length_map, fl] at al
        rw [List.length_append, List.length_cons] at h5
        have ncD : c ≠ D := fun z => by rw [z, hacc2] at nc; cases nc
        have s4 : Same (Hid [D] H2) (upd H3 D (.lst (acc2 ++ [.ref c]))) := hid_set (hid_le.trans s3) (by simp)
        have dm : dn.length * es.length ≤ es.length := by
          have : dn.length * es.length ≤ 1 * es.length := Nat.mul_le_mul_right _ (by omega)
          omega
        refine ⟨acc2, s3 _ _ hacc2, szs (by omega), Vf.Same.set (s2.trans s3) nD, acc2 ++ [.ref c], upd_same, ?_⟩
        rw [List.map_append, ← List.append_assoc]
        exact pair_app (hA2.mono (hid_hid s4)) (.cons ⟨c, rfl, hid_get (by rw [upd_ne ncD]; exact hc) (by simpa using ncD)⟩ .nil)
      · rintro H2 ⟨s2, acc2, hacc2, hA2⟩
        refine ⟨s2, acc2, hacc2, ?_⟩
        rw [List.flatMap_append]
        simpa using hA2
    · rintro H1 ⟨s1, acc, hacc, hA⟩
      have eN : ([p.1, p.2].flatMap fun e => es.map (cpl e)) = newP p es := by simp [newP]
      rw [eN] at hA
      walk_at "ev"
      refine r_sortedP (sql hacc) (hA.mono hid_le) (newP_nd nd e1 e2 ne) fun ys M z pm asc hM nz => ?_
      have eM := srtP_of pm asc
      have s2 := same_new (o := .lst ys) nz
      have hz : upd H1 z (.lst ys) z = some (.lst ys) := upd_same
      have hM2 := hM.mono s2
      have s02 := s1.trans s2
      have ml : M.length ≤ 242 := by rw [pm.length_eq]; exact tl
      generalize upd H1 z (.lst ys) = H2 at s2 hz hM2 s02 ⊢
      walk_at "ev"
      refine ⟨⟨_, sql hz⟩, fun D2 nD2 => ?_⟩
      have g0 : Grow H2 (upd H2 D2 (.lst [])) D2 [] := ⟨[], [], upd_same, .nil, rfl, List.Pairwise.nil, fun _ h => (nomatch h), fun h => (nomatch h)⟩
      refine r_lcS (seq_list hM2) (fun dn H' => Same H2 H' ∧ Grow H2 H' D2 (dn.map fun q => ([p], [q]))) ⟨same_new nD2, g0⟩ (fun _ _ c => sql (c.1 _ _ hz)) ?_ ?_
      · rintro dn r rr v H4 e4 hv ⟨s4, gr4⟩
        obtain ⟨tr, rfl, htr⟩ := hv.mono s4
        have htp4 := s4 _ _ (s02 _ _ htp)
        obtain ⟨acc4, _, hacc4, _⟩ := gr4.ex
        walk_at "ev"
        refine ⟨szl (by show 1 ≤ 100000; decide), fun c1 n1 => ?_⟩
        have u1 := same_new (o := .lst [.ref tp]) n1
        have h1 : upd H4 c1 (.lst [.ref tp]) c1 = some (.lst [.ref tp]) := upd_same
        generalize upd H4 c1 (.lst [.ref tp]) = K1 at u1 h1 ⊢
        walk_at "ev"
        refine ⟨szl (by show 1 ≤ 100000; decide), fun c2 n2 => ?_⟩
        have u2 := same_new (o := .lst [.ref tr]) n2
        have h2 : upd K1 c2 (.lst [.ref tr]) c2 = some (.lst [.ref tr]) := upd_same
        generalize upd K1 c2 (.lst [.ref tr]) = K2 at u2 h2 ⊢
        walk_at "ev"
        refine ⟨szl (by show 2 ≤ 100000; decide), fun pp npp => ?_⟩
        have u3 := same_new (o := .tup [.ref c1, .ref c2]) npp
        have hp : upd K2 pp (.tup [.ref c1, .ref c2]) pp = some (.tup [.ref c1, .ref c2]) := upd_same
        generalize upd K2 pp (.tup [.ref c1, .ref c2]) = K3 at u3 hp ⊢
        have u13 := u1.trans (u2.trans u3)
        obtain ⟨gn, al⟩ := gr4.add (m := ([p], [r])) (v := .ref pp) s4 nD2 u13 n1 (u1.free n2) (ne_of_none h1 n2) ⟨pp, [.ref tp], [.ref tr], rfl, hp, u3 _ _ (u2 _ _ h1), .cons ⟨tp, rfl, u13 _ _ htp4⟩ .nil, u3 _ _ h2, .cons ⟨tr, rfl, u13 _ _ htr⟩ .nil⟩ (u13 _ _ hacc4)
        refine ⟨acc4, u13 _ _ hacc4, szs ?_, Vf.Same.set (s4.trans u13) nD2, by rw [List.map_append]; exact gn⟩
        have h5 := congrArg List.length e4
        rw [List.length_append] at h5
        rw [List.length_map] at al
        omega
      · rintro H4 ⟨s4, gr4⟩
        obtain ⟨zs, hzs⟩ := gr4.done nD2
        rw [← eM] at hzs
        obtain ⟨k1, k2, bs, k3, k4, k5, k6, k7⟩ := hzs
        exact q D2 zs H4 (s02.trans s4) ⟨s02.free k1, k2, bs, k3, k4, k5, fun a ha => s02.free (k6 a ha), k7⟩
end
end K8
namespace K8
open PySem PySem.Spec PyProof.Rows L2 Vf
section
variable {P : Program} {w : World} {K : PySem.W.Frag} {mg : Str → Option Value} {base : Heap}
theorem ok__swaps {f : Addr} {fd : FuncData} (F : Fun K "_swaps" "_swaps" s__swaps f fd) (D_coupling_of : Def P w K mg base 1 "coupling_of" ["end", "other"] (sp_coupling_of K)) : FnOk P w K mg base CX0 2 f fd ["coupling", "others"] (sp__swaps K) := by
  refine F.ok sc__swaps (fun vs H Q E h => ?_) (fun cdv A outer s H vs Q E hr h => ?_)
  · obtain ⟨_, _, _, _, _, rfl, _⟩ := h
    rfl
  · have hu := hu_of hr
    obtain ⟨v, p, b, xs, O, rfl, ⟨tp, rfl, htp⟩, hb, hP, hl, q⟩ := h
    refine ⟨_, (pss_cons (ps_set (i := 2) sc__swaps.nd rfl (Or.inl rfl) (pe_lst pa_nil))
        (pss_cons (ps_asg (pv 0) (pg_tup rfl (pgs_cons (pg_name (i := 3) sc__swaps.nd rfl (Or.inl rfl)) (pgs_cons (pg_name (i := 4) sc__swaps.nd rfl (Or.inl rfl)) pgs_nil))))
        (pss_cons (ps_for PassesOwn.never rfl (pi_list (pv 1)) (pg_name (i := 5) sc__swaps.nd rfl (Or.inl rfl))
          (pss_cons (ps_asg (pv 5) (pg_tup rfl (pgs_cons (pg_name (i := 6) sc__swaps.nd rfl (Or.inl rfl)) (pgs_cons (pg_name (i := 7) sc__swaps.nd rfl (Or.inl rfl)) pgs_nil))))
        (pss_cons (ps_expr (pe_bm PySem.F.plainAttrs_list PySem.F.slot_list_append PySem.F.type_list_append mt_append (pv 2) (pa_cons (pe_tup (pa_cons (pe_lst (pa_cons (pv 0) (pa_cons (pv 5) pa_nil))) (pa_cons (pe_lst (pa_cons (pe_tup (pa_cons (pv 3) (pa_cons (pv 6) pa_nil))) (pa_cons (pe_def D_coupling_of (hr.mono (by decide)) (pa_cons (pv 4) (pa_cons (pv 7) pa_nil))) pa_nil))) pa_nil))) pa_nil)))
        (pss_one (ps_expr (pe_bm PySem.F.plainAttrs_list PySem.F.slot_list_append PySem.F.type_list_append mt_append (pv 2) (pa_cons (pe_tup (pa_cons (pe_lst (pa_cons (pv 0) (pa_cons (pv 5) pa_nil))) (pa_cons (pe_lst (pa_cons (pe_tup (pa_cons (pv 3) (pa_cons (pv 7) pa_nil))) (pa_cons (pe_def D_coupling_of (hr.mono (by decide)) (pa_cons (pv 4) (pa_cons (pv 6) pa_nil))) pa_nil))) pa_nil))) pa_nil)))))))
        (pss_one (ps_ret (pv 2)))))), ?_⟩
    walk_at "ev"
    refine ⟨szl (by show 0 ≤ 100000; decide), fun D nD => ?_⟩
    have s1 := same_new (o := .lst []) nD
    have g0 : Grow H (upd H D (.lst [])) D [] := ⟨[], [], upd_same, .nil, rfl, List.Pairwise.nil, fun _ h => (nomatch h), fun h => (nomatch h)⟩
    generalize upd H D (.lst []) = H1 at s1 g0 ⊢
    have htp1 := s1 _ _ htp
    walk_at "ev"
    refine ⟨⟨_, sql (s1 _ _ hb)⟩, ?_⟩
    refine r_forS (bk := fun _ _ => False) (ct := fun _ _ => False) (seq_list hP) (fun dn σ H' => ∃ y5 y6 y7, σ = [some (.ref tp), some (.ref b), some (.ref D), some (.int p.1), some (.int p.2), y5, y6, y7] ∧ Same H H' ∧ Grow H H' D (swapsM p dn)) ⟨_, _, _, rfl, s1, g0⟩ (fun _ _ _ ⟨_, _, _, _, s, _⟩ => sql (s _ _ hb)) ?_ ?_
    · rintro dn r rr v σ H4 e4 hv ⟨y5, y6, y7, rfl, s4, gr4⟩
      obtain ⟨tr, rfl, htr⟩ := hv.mono s4
      have htp4 := s4 _ _ htp
      walk_at "ev"
      obtain ⟨acca, _, hacca, _⟩ := gr4.ex
      refine ⟨tyL hacca, ?_⟩
      walk_at "ev"
      refine ⟨szl (by show 2 ≤ 100000; decide), fun c1a n1a => ?_⟩
      have u1a := same_new (o := .lst [.ref tp, .ref tr]) n1a
      have h1a : upd H4 c1a (.lst [.ref tp, .ref tr]) c1a = some (.lst [.ref tp, .ref tr]) := upd_same
      generalize upd H4 c1a (.lst [.ref tp, .ref tr]) = K1a at u1a h1a ⊢
      walk_at "ev"
      refine ⟨szl (by show 2 ≤ 100000; decide), fun pta npta => ?_⟩
      have u2a := same_new (o := .tup [.int p.1, .int r.1]) npta
      have hpta : upd K1a pta (.tup [.int p.1, .int r.1]) pta = some (.tup [.int p.1, .int r.1]) := upd_same
      generalize upd K1a pta (.tup [.int p.1, .int r.1]) = K2a at u2a hpta ⊢
      walk_at "ev"
      intro cpa K3a u3a ncpa hcpa
      walk_at "ev"
      refine ⟨szl (by show 2 ≤ 100000; decide), fun c2a n2a => ?_⟩
      have u4a := same_new (o := .lst [.ref pta, .ref cpa]) n2a
      have h2a : upd K3a c2a (.lst [.ref pta, .ref cpa]) c2a = some (.lst [.ref pta, .ref cpa]) := upd_same
      generalize upd K3a c2a (.lst [.ref pta, .ref cpa]) = K4a at u4a h2a ⊢
      walk_at "ev"
      refine ⟨szl (by show 2 ≤ 100000; decide), fun ppa nppa => ?_⟩
      have u5a := same_new (o := .tup [.ref c1a, .ref c2a]) nppa
      have hpa : upd K4a ppa (.tup [.ref c1a, .ref c2a]) ppa = some (.tup [.ref c1a, .ref c2a]) := upd_same
      generalize upd K4a ppa (.tup [.ref c1a, .ref c2a]) = K5a at u5a hpa ⊢
      have u15a := u1a.trans (u2a.trans (u3a.trans (u4a.trans u5a)))
      have u25a := u2a.trans (u3a.trans (u4a.trans u5a))
      obtain ⟨gna, ala⟩ := gr4.add (m := ([p, r], [(p.1, r.1), cpl p.2 r.2])) (v := .ref ppa) s4 nD u15a n1a (u1a.free (u2a.free (u3a.free n2a))) (ne_of_none (u3a _ _ (u2a _ _ h1a)) n2a) ⟨ppa, [.ref tp, .ref tr], [.ref pta, .ref cpa], rfl, hpa, u25a _ _ h1a, .cons ⟨tp, rfl, u15a _ _ (s4 _ _ htp)⟩ (.cons ⟨tr, rfl, u15a _ _ htr⟩ .nil), u5a _ _ h2a, .cons ⟨pta, rfl, u5a _ _ (u4a _ _ (u3a _ _ hpta))⟩ (.cons ⟨cpa, rfl, u5a _ _ (u4a _ _ hcpa)⟩ .nil)⟩ (u15a _ _ hacca)
      have lma := swapsM_len p dn
      have lda : dn.length ≤ 60 := by have := congrArg List.length e4; rw [List.length_append] at this; omega
      walk_at "ev"
      refine r_app (u15a _ _ hacca) (szs (by omega)) ?_
      have sa := Vf.Same.set (s4.trans u15a) nD (o := .lst (acca ++ [.ref ppa]))
      have nrD : tr ≠ D := fun z => by rw [z, hacca] at htr; cases htr
      have sD : ∀ x o, x = tr → H4 x = some o → upd K5a D (.lst (acca ++ [.ref ppa])) x = some o := fun x o e h => by rw [e] at h ⊢; rw [upd_ne nrD]; exact u15a _ _ h
      have htr2 := sD _ _ rfl htr
      generalize upd K5a D (.lst (acca ++ [.ref ppa])) = H5 at gna sa htr2 ⊢
      have htr := htr2
      walk_at "ev"
      obtain ⟨accb, _, haccb, _⟩ := gna.ex
      refine ⟨tyL haccb, ?_⟩
      walk_at "ev"
      refine ⟨szl (by show 2 ≤ 100000; decide), fun c1b n1b => ?_⟩
      have u1b := same_new (o := .lst [.ref tp, .ref tr]) n1b
      have h1b : upd H5 c1b (.lst [.ref tp, .ref tr]) c1b = some (.lst [.ref tp, .ref tr]) := upd_same
      generalize upd H5 c1b (.lst [.ref tp, .ref tr]) = K1b at u1b h1b ⊢
      walk_at "ev"
      refine ⟨szl (by show 2 ≤ 100000; decide), fun ptb nptb => ?_⟩
      have u2b := same_new (o := .tup [.int p.1, .int r.2]) nptb
      have hptb : upd K1b ptb (.tup [.int p.1, .int r.2]) ptb = some (.tup [.int p.1, .int r.2]) := upd_same
      generalize upd K1b ptb (.tup [.int p.1, .int r.2]) = K2b at u2b hptb ⊢
      walk_at "ev"
      intro cpb K3b u3b ncpb hcpb
      walk_at "ev"
      refine ⟨szl (by show 2 ≤ 100000; decide), fun c2b n2b => ?_⟩
      have u4b := same_new (o := .lst [.ref ptb, .ref cpb]) n2b
      have h2b : upd K3b c2b (.lst [.ref ptb, .ref cpb]) c2b = some (.lst [.ref ptb, .ref cpb]) := upd_same
      generalize upd K3b c2b (.lst [.ref ptb, .ref cpb]) = K4b at u4b h2b ⊢
      walk_at "ev"
      refine ⟨szl (by show 2 ≤ 100000; decide), fun ppb nppb => ?_⟩
      have u5b := same_new (o := .tup [.ref c1b, .ref c2b]) nppb
      have hpb : upd K4b ppb (.tup [.ref c1b, .ref c2b]) ppb = some (.tup [.ref c1b, .ref c2b]) := upd_same
      generalize upd K4b ppb (.tup [.ref c1b, .ref c2b]) = K5b at u5b hpb ⊢
      have u15b := u1b.trans (u2b.trans (u3b.trans (u4b.trans u5b)))
      have u25b := u2b.trans (u3b.trans (u4b.trans u5b))
      obtain ⟨gnb, alb⟩ := gna.add (m := ([p, r], [(p.1, r.2), cpl p.2 r.1])) (v := .ref ppb) sa nD u15b n1b (u1b.free (u2b.free (u3b.free n2b))) (ne_of_none (u3b _ _ (u2b _ _ h1b)) n2b) ⟨ppb, [.ref tp, .ref tr], [.ref ptb, .ref cpb], rfl, hpb, u25b _ _ h1b, .cons ⟨tp, rfl, u15b _ _ (sa _ _ htp)⟩ (.cons ⟨tr, rfl, u15b _ _ htr2⟩ .nil), u5b _ _ h2b, .cons ⟨ptb, rfl, u5b _ _ (u4b _ _ (u3b _ _ hptb))⟩ (.cons ⟨cpb, rfl, u5b _ _ (u4b _ _ hcpb)⟩ .nil)⟩ (u15b _ _ haccb)
      have lmb := swapsM_len p dn
      have ldb : dn.length ≤ 60 := by have := congrArg List.length e4; rw [List.length_append] at this; omega
      walk_at "ev"
      refine r_app (u15b _ _ haccb) (szs (by rw [List.length_append] at alb; simp at alb; omega)) ?_
      refine ⟨_, _, _, rfl, Vf.Same.set (sa.trans u15b) nD, ?_⟩
      rw [swapsM_app]
      rw [List.append_assoc] at gnb
      exact gnb
    · rintro σ H4 ⟨y5, y6, y7, rfl, s4, gr4⟩
      walk_at "ev"
      obtain ⟨ys, hy⟩ := gr4.done nD
      exact q D ys H4 s4 hy
end
end K8
namespace K8
open PySem PySem.Spec PyProof.Rows L2 Vf
section
variable {P : Program} {w : World} {K : PySem.W.Frag} {mg : Str → Option Value} {base : Heap}
theorem ok_moves_of {f : Addr} {fd : FuncData} (F : Fun K "moves_of" "moves_of" s_moves_of f fd) (D_check_pieces : DefR P w K mg base 2 "check_pieces" ["pieces"] (sp_check_pieces K)) (D_checked_partners : DefR P w K mg base 4 "checked_partners" ["pieces", "layout"] (sp_checked_partners K)) (D_opens_in : Def P w K mg base 1 "opens_in" ["pieces", "partners"] (sp_opens_in K)) (D__joins : Def P w K mg base 1 "_joins" ["ends"] (sp__joins K)) (D__transfers : Def P w K mg base 2 "_transfers" ["coupling", "ends"] (sp__transfers K)) (D__swaps : Def P w K mg base 2 "_swaps" ["coupling", "others"] (sp__swaps K)) (m_enumerate : mg "enumerate" = none) : FnG P w K mg base (L2.CX P w) 5 f fd ["pieces", "layout"] (sp_moves_of K) := by
  refine okG F sc_moves_of (fun vs H Q E h => ?_) (fun cdv A outer s H vs Q E hr hgd h => ?_)
  · obtain ⟨_, _, _, _, rfl, _⟩ := h
    rfl
  · have hu := hu_of hr
    obtain ⟨u, c, v, d, rfl, hc, hd, hf, q1, q2, q3⟩ := h
    refine ⟨_, (pss_cons (ps_expr (pe_defR D_check_pieces (E := E) (passes_call (takes_of (E := E) rfl rfl rfl rfl) fun _ _ _ _ z => z) (hr.mono (by decide)) hgd (pa_cons (pv 0) pa_nil)))
        (pss_cons (ps_set (i := 2) sc_moves_of.nd rfl (Or.inl rfl) (pe_defR D_checked_partners (E := E) (passes_call (takes_of (E := E) rfl rfl rfl rfl) fun _ _ _ _ z => z) (hr.mono (by decide)) hgd (pa_cons (pv 0) (pa_cons (pv 1) pa_nil))))
        (pss_cons (ps_set (i := 3) sc_moves_of.nd rfl (Or.inl rfl) (pe_def D_opens_in (hr.mono (by decide)) (pa_cons (pv 0) (pa_cons (pv 2) pa_nil))))
        (pss_cons (ps_set (i := 4) sc_moves_of.nd rfl (Or.inl rfl) (pe_def D__joins (hr.mono (by decide)) (pa_cons (pv 3) pa_nil)))
        (pss_cons (ps_for (passes_of rfl) rfl (pi_enum (by rfl) m_enumerate (pa_cons (pv 1) pa_nil)) (pg_tup rfl (pgs_cons (pg_name (i := 5) sc_moves_of.nd rfl (Or.inl rfl)) (pgs_cons (pg_name (i := 6) sc_moves_of.nd rfl (Or.inl rfl)) pgs_nil)))
          (pss_cons (ps_expr (pe_bm PySem.F.plainAttrs_list PySem.F.slot_list_append PySem.F.type_list_append mt_append (pv 4) (pa_cons (pe_tup (pa_cons (pe_lst (pa_cons (pv 6) pa_nil)) (pa_cons (pe_lst pa_nil) pa_nil))) pa_nil)))
        (pss_cons (ps_expr (pe_bm PySem.F.plainAttrs_list PySem.F.slot_list_extend PySem.F.type_list_extend mt_extend (pv 4) (pa_cons (pe_def D__transfers (hr.mono (by decide)) (pa_cons (pv 6) (pa_cons (pv 3) pa_nil))) pa_nil)))
        (pss_one (ps_expr (pe_bm PySem.F.plainAttrs_list PySem.F.slot_list_extend PySem.F.type_list_extend mt_extend (pv 4) (pa_cons (pe_def D__swaps (hr.mono (by decide)) (pa_cons (pv 6) (pa_cons (pe_slice (slK (K := K)) (pv 1) (po_some (pe_op op_add (pv 5) pe_int)) po_none) pa_nil))) pa_nil)))))))
        (pss_one (ps_ret (pv 4)))))))), ?_⟩
    walk_at "ev"
    refine ⟨u, c, rfl, hc, fun n hn => ?_, q2⟩
    obtain ⟨n1, n2, rfl⟩ := piecesD_some hn
    cases dt_int hc
    walk_at "ev"
    refine ⟨n, v, d, rfl, n1, n2, hd, hf, fun L T ts H1 hL e s nT hT hF => ?_, fun i dx H1 h s nd hx => q3 n i dx H1 hn h s nd hx⟩
    subst e
    obtain ⟨a, xs, rfl, ha, hds⟩ := dt_lst hd
    have hP := prs_dta hds
    have l60 := hL.len
    have ol := opens_len (L := L) n1 n2
    walk_at "ev"
    refine ⟨n, T, ts, rfl, _, hF, n2, hT, fun En H2 s2 nEn hEn => ?_⟩
    rw [opens_tab hL] at hEn
    walk_at "ev"
    refine ⟨En, _, rfl, hEn, ol, fun D zs H3 s3 nM => ?_⟩
    have g0 := nM.grow
    have nD := nM.new
    have s02 := s.trans s2
    have ha2 := s02 _ _ ha
    have hP2 := hP.mono s02
    have pl := pair_len hP
    walk_at "ev"
    refine ⟨a, _, rfl, sql (s3 _ _ ha2), ?_⟩
    have nd := opens_nd n L
    have jl := joinsM_len (opensL n L)
    have jl2 : (joinsM (opensL n L)).length ≤ 14641 := Nat.le_trans jl (Nat.mul_le_mul ol ol)
    have gl := goM_len (opensL n L) L
    have gl2 : (goM (opensL n L) L).length ≤ 21780 := Nat.le_trans gl (Nat.mul_le_mul (show L.length ≤ 60 from l60) (show 1 + 2 * (opensL n L).length + 2 * L.length ≤ 363 by omega))
    have tot : (movesM n L).length ≤ 36421 := by unfold movesM; rw [List.length_append]; omega
    refine r_forE (bk := fun _ _ => False) (ct := fun _ _ => False) hP2 (fun dn σ H' => ∃ y5 y6 ms, σ = [some (.int n), some (.ref a), some (.ref T), some (.ref En), some (.ref D), y5, y6] ∧ Same H2 H' ∧ Grow H2 H' D ms ∧ ms ++ goM (opensL n L) (L.drop dn.length) = movesM n L) ⟨_, _, _, rfl, s3, g0, rfl⟩ (fun _ _ _ ⟨_, _, _, _, s, _⟩ => sql (s _ _ ha2)) ?_ ?_
    · rintro dn p rr x R σ H4 e hx hv ⟨y5, y6, ms, rfl, s4, gr4, hms⟩ nR
      obtain ⟨tp, rfl, htp⟩ := hv.mono s4
      have edrop : L.drop dn.length = p :: rr := by rw [e]; simp
      have hp : p ∈ L := by rw [e]; simp
      have cp := hL.cp p hp
      have o1 : p.1 ∉ opensL n L := fun z => (mem_opens.mp z).2 (mem_flat.mpr ⟨p, hp, .inl rfl⟩)
      have o2 : p.2 ∉ opensL n L := fun z => (mem_opens.mp z).2 (mem_flat.mpr ⟨p, hp, .inr rfl⟩)
      rw [edrop] at hms
      have rl : rr.length ≤ 60 := by have := congrArg List.length e; simp at this; omega
      have s5 := same_new (o := .tup [.int (dn.length : Nat), .ref tp]) nR
      have gr5 := gr4.mono s5
      have s25 := s4.trans s5
      have htp5 := s5 _ _ htp
      refine r_gtup (sqt upd_same) rfl ?_
      generalize upd H4 R (.tup [.int (dn.length : Nat), .ref tp]) = H5 at s5 gr5 s25 htp5 ⊢
      obtain ⟨acc, _, hacc, _⟩ := gr5.ex
      walk_at "ev"
      refine ⟨tyL hacc, ?_⟩
      walk_at "ev"
      refine ⟨szl (by show 1 ≤ 100000; decide), fun c1 n1' => ?_⟩
      have u1 := same_new (o := .lst [.ref tp]) n1'
      have h1 : upd H5 c1 (.lst [.ref tp]) c1 = some (.lst [.ref tp]) := upd_same
      generalize upd H5 c1 (.lst [.ref tp]) = K1 at u1 h1 ⊢
      walk_at "ev"
      refine ⟨szl (by show 0 ≤ 100000; decide), fun c2 n2' => ?_⟩
      have u2 := same_new (o := .lst []) n2'
      have h2 : upd K1 c2 (.lst []) c2 = some (.lst []) := upd_same
      generalize upd K1 c2 (.lst []) = K2 at u2 h2 ⊢
      walk_at "ev"
      refine ⟨szl (by show 2 ≤ 100000; decide), fun pp npp => ?_⟩
      have u3 := same_new (o := .tup [.ref c1, .ref c2]) npp
      have hpp : upd K2 pp (.tup [.ref c1, .ref c2]) pp = some (.tup [.ref c1, .ref c2]) := upd_same
      generalize upd K2 pp (.tup [.ref c1, .ref c2]) = K3 at u3 hpp ⊢
      have u13 := u1.trans (u2.trans u3)
      obtain ⟨gn, al⟩ := gr5.add (m := ([p], [])) (v := .ref pp) s25 nD u13 n1' (u1.free n2') (ne_of_none h1 n2') ⟨pp, [.ref tp], [], rfl, hpp, u3 _ _ (u2 _ _ h1), .cons ⟨tp, rfl, u13 _ _ htp5⟩ .nil, u3 _ _ h2, .nil⟩ (u13 _ _ hacc)
      have lens := congrArg List.length hms
      simp only [goM, List.length_append, List.length_cons, transM_len, swapsM_len] at lens
      walk_at "ev"
      refine r_app (u13 _ _ hacc) (szs (by omega)) ?_
      have s6 : Same H2 (upd K3 D (.lst (acc ++ [.ref pp]))) := Vf.Same.set (s25.trans u13) nD
      have hacc6 : upd K3 D (.lst (acc ++ [.ref pp])) D = some (.lst (acc ++ [.ref pp])) := upd_same
      have htp6 : upd K3 D (.lst (acc ++ [.ref pp])) tp = some (.tup [.int p.1, .int p.2]) := by
        rw [upd_ne (fun z : tp = D => by rw [z, hacc] at htp5; cases htp5)]
        exact u13 _ _ htp5
      generalize upd K3 D (.lst (acc ++ [.ref pp])) = H6 at gn s6 hacc6 htp6 ⊢
      walk_at "ev"
      refine ⟨tyL hacc6, ?_⟩
      walk_at "ev"
      refine ⟨.ref tp, p, En, opensL n L, rfl, ⟨tp, rfl, htp6⟩, s6 _ _ hEn, ol, nd, o1, o2, by omega, fun R1 ys1 H7 s7 nM1 => ?_⟩
      walk_at "ev"
      obtain ⟨gn2, al2, yl2⟩ := gn.ext s6 s7 nM1 (s7 _ _ hacc6)
      rw [transM_len] at yl2
      rw [List.length_append] at al2
      refine ⟨D, R1, _, _, rfl, rfl, s7 _ _ hacc6, nM1.at', Nat.le_trans (show _ ≤ 100000 by rw [List.length_append, List.length_singleton]; simp at al2; omega) (by decide), ?_⟩
      have s8 : Same H2 (upd H7 D (.lst (acc ++ [.ref pp] ++ ys1))) := Vf.Same.set (s6.trans s7) nD
      have hacc8 : upd H7 D (.lst (acc ++ [.ref pp] ++ ys1)) D = some (.lst (acc ++ [.ref pp] ++ ys1)) := upd_same
      have htp8 : upd H7 D (.lst (acc ++ [.ref pp] ++ ys1)) tp = some (.tup [.int p.1, .int p.2]) := by
        rw [upd_ne (fun z : tp = D => by rw [z, hacc] at htp5; cases htp5)]
        exact s7 _ _ htp6
      generalize upd H7 D (.lst (acc ++ [.ref pp] ++ ys1)) = H8 at gn2 s8 hacc8 htp8 ⊢
      walk_at "ev"
      refine ⟨tyL hacc8, ?_⟩
      walk_at "ev"
      have ha8 := s8 _ _ ha2
      refine ⟨a, _, rfl, sql ha8, fun R2 nR2 => ?_⟩
      rw [show ((dn.length : Int) + 1) = ((dn.length + 1 : Nat) : Int) by omega, cut_from]
      have s9 := same_new (o := .lst (xs.drop (dn.length + 1))) nR2
      have hR2 : upd H8 R2 (.lst (xs.drop (dn.length + 1))) R2 = some (.lst (xs.drop (dn.length + 1))) := upd_same
      have erd : L.drop (dn.length + 1) = rr := by rw [e]; simp
      have PR := pairD (dn.length + 1) hP2
      rw [erd] at PR
      have gn3 := gn2.mono s9
      generalize upd H8 R2 (.lst (xs.drop (dn.length + 1))) = H9 at s9 hR2 gn3 ⊢
      walk_at "ev"
      refine ⟨.ref tp, p, R2, _, rr, rfl, ⟨tp, rfl, s9 _ _ htp8⟩, hR2, Prs.mono (s8.trans s9) PR, rl, fun R3 ys2 H10 s10 nM2 => ?_⟩
      obtain ⟨gn4, al4, yl4⟩ := gn3.ext (s8.trans s9) s10 nM2 (s10 _ _ (s9 _ _ hacc8))
      rw [swapsM_len] at yl4
      simp only [List.length_append, List.length_singleton, transM_len] at al4
      walk_at "ev"
      refine ⟨D, R3, _, _, rfl, rfl, s10 _ _ (s9 _ _ hacc8), nM2.at', Nat.le_trans (show _ ≤ 100000 by rw [List.length_append, List.length_append, List.length_singleton]; omega) (by decide), ?_⟩
      refine ⟨_, _, _, rfl, Vf.Same.set (s8.trans (s9.trans s10)) nD, gn4, ?_⟩
      rw [List.length_append, List.length_singleton, erd, ← hms, goM]
      simp
    · rintro σ H4 ⟨y5, y6, ms, rfl, s4, gr4, hms⟩
      rw [List.drop_length] at hms
      have em : ms = movesM n L := by rw [← hms]; simp [goM]
      subst em
      walk_at "ev"
      obtain ⟨zs', k1, k2, bs, k3, k4, k5, k6, k7⟩ := gr4.done nD
      exact q1 n L D zs' H4 hn hL rfl (s02.trans s4) ⟨s02.free k1, k2, bs, k3, k4, k5, fun a ha => s02.free (k6 a ha), k7⟩
end
end K8
namespace K8
open PySem PySem.Spec PyProof.Rows L2 Vf
section
variable {P : Program} {w : World} {K : PySem.W.Frag} {mg : Str → Option Value} {base : Heap}
theorem ok__far_end {f : Addr} {fd : FuncData} (F : Fun K "_far_end" "_far_end" s__far_end f fd)  : FnOk P w K mg base CX0 1 f fd ["partners", "end"] (sp__far_end K) := by
  refine F.ok sc__far_end (fun vs H Q E h => ?_) (fun cdv A outer s H vs Q E hr h => ?_)
  · obtain ⟨_, _, _, _, _, _, _, rfl, _⟩ := h
    rfl
  · have hu := hu_of hr
    obtain ⟨n, f, T, ts, e, k, y, rfl, hT, hF, hy, q⟩ := h
    refine ⟨_, (pss_cons (ps_set (i := 1) sc__far_end.nd rfl (Or.inl rfl) (pe_un un_neg (pv 1)))
        (pss_cons (ps_while PassesOwn.never (pt_tru (K := K) (pe_ix (ixL (K := K)) (pv 0) (pv 1) (fun _ _ => rfl))) (pss_one (ps_set (i := 1) sc__far_end.nd rfl (Or.inl rfl) (pe_un un_neg (pe_ix (ixL (K := K)) (pv 0) (pv 1) (fun _ _ => rfl))))))
        (pss_one (ps_ret (pv 1))))), ?_⟩
    walk_at "ev"
    refine r_while (fun m σ H' => ∃ x, σ = [some (.ref T), some (.int x)] ∧ H' = H ∧ FarN n f m x y) k ⟨_, rfl, rfl, hy⟩ ?_
    rintro m σ H' ⟨x, rfl, rfl, hx⟩
    cases m with
    | zero =>
      obtain ⟨rfl, h0, h1, h2⟩ := hx
      walk_at "ev"
      refine r_ixL (sql hT) (hF.at h1 h2) ?_
      walk_at "ev"
      rw [h0]
      walk_at "ev"
      exact q
    | succ m =>
      obtain ⟨h0, ⟨h1, h2⟩, h3⟩ := hx
      walk_at "ev"
      refine r_ixL (sql hT) (hF.at h1 h2) ?_
      walk_at "ev"
      rw [show (f x != 0) = true by simpa using h0]
      walk_at "ev"
      refine r_whT ?_
      walk_at "ev"
      refine r_ixL (sql hT) (hF.at h1 h2) ?_
      walk_at "ev"
      exact ⟨m, by omega, _, rfl, rfl, h3⟩
end
end K8
namespace K8
open PySem PySem.Spec PyProof.Rows L2 Vf
section
variable {P : Program} {w : World} {K : PySem.W.Frag} {mg : Str → Option Value} {base : Heap}
theorem ok__kind_of_swap {f : Addr} {fd : FuncData} (F : Fun K "_kind_of_swap" "_kind_of_swap" s__kind_of_swap f fd) (D__far_end : Def P w K mg base 1 "_far_end" ["partners", "end"] (sp__far_end K)) (D_coupling_of : Def P w K mg base 1 "coupling_of" ["end", "other"] (sp_coupling_of K)) : FnOk P w K mg base CX0 2 f fd ["partners", "cut", "joined"] (sp__kind_of_swap K) := by
  refine F.ok sc__kind_of_swap (fun vs H Q E h => ?_) (fun cdv A outer s H vs Q E hr h => ?_)
  · obtain ⟨_, _, _, _, _, _, _, _, _, _, _, rfl, _⟩ := h
    rfl
  · have hu := hu_of hr
    obtain ⟨n, T, a, b, ts, xs, ys, B, p, r, J, rfl, hB, hT, hF, ha, hPa, hb, hPb, ho, q⟩ := h
    refine ⟨_, (pss_cons (ps_asg (pv 1) (pg_lst rfl (pgs_cons (pg_tup rfl (pgs_cons (pg_name (i := 3) sc__kind_of_swap.nd rfl (Or.inl rfl)) (pgs_cons (pg_name (i := 4) sc__kind_of_swap.nd rfl (Or.inl rfl)) pgs_nil))) (pgs_cons (pg_tup rfl (pgs_cons (pg_name (i := 5) sc__kind_of_swap.nd rfl (Or.inl rfl)) (pgs_cons (pg_name (i := 6) sc__kind_of_swap.nd rfl (Or.inl rfl)) pgs_nil))) pgs_nil))))
        (pss_cons (ps_par (i := 7) (j := 8) (by rfl) sc__kind_of_swap.nd rfl rfl (by decide) rfl rfl (pa_cons (pe_def D__far_end (hr.mono (by decide)) (pa_cons (pv 0) (pa_cons (pv 3) pa_nil))) (pa_cons (pe_def D__far_end (hr.mono (by decide)) (pa_cons (pv 0) (pa_cons (pv 4) pa_nil))) pa_nil)) (by rfl))
        (pss_cons (ps_if (PW.pt (pw_or (pt_cmpR (inSeqK (K := K)) (pv 7) (pe_tup (pa_cons (pv 5) (pa_cons (pv 6) pa_nil))) rfl) (pw_or1 (pt_cmpR (inSeqK (K := K)) (pv 8) (pe_tup (pa_cons (pv 5) (pa_cons (pv 6) pa_nil))) rfl)))) (pss_cons (ps_set (i := 9) sc__kind_of_swap.nd rfl (Or.inl rfl) (pe_and (pe_cmpR (inSeqK (K := K)) (pv 7) (pe_tup (pa_cons (pv 5) (pa_cons (pv 6) pa_nil))) rfl) (pe_one (pe_cmpR (inSeqK (K := K)) (pv 8) (pe_tup (pa_cons (pv 5) (pa_cons (pv 6) pa_nil))) rfl))))
        (pss_cons (ps_asg (pe_ifExp (pt_cmpR (inSeqK (K := K)) (pv 7) (pe_tup (pa_cons (pv 5) (pa_cons (pv 6) pa_nil))) rfl) (pe_tup (pa_cons (pv 3) (pa_cons (pv 7) pa_nil))) (pe_tup (pa_cons (pv 4) (pa_cons (pv 8) pa_nil)))) (pg_tup rfl (pgs_cons (pg_name (i := 10) sc__kind_of_swap.nd rfl (Or.inl rfl)) (pgs_cons (pg_name (i := 11) sc__kind_of_swap.nd rfl (Or.inl rfl)) pgs_nil))))
        (pss_cons (ps_if (pt_cmpR (inPK (K := K) hr.units) (pe_def D_coupling_of (hr.mono (by decide)) (pa_cons (pv 10) (pa_cons (pv 11) pa_nil))) (pv 2) rfl) (pss_one (ps_ret (pe_ifExp (pt_val (pv 9)) pe_str pe_str))) pss_nil)
        (pss_one (ps_ret pe_str))))) pss_nil)
        (pss_cons (ps_set (i := 12) sc__kind_of_swap.nd rfl (Or.inl rfl) (pe_op op_add (pe_ifExp (pt_cmpR op_eq (pv 7) (pv 4) (nomark _)) pe_int pe_int) (pe_ifExp (pt_cmpR op_eq (pe_def D__far_end (hr.mono (by decide)) (pa_cons (pv 0) (pa_cons (pv 5) pa_nil))) (pv 6) (nomark _)) pe_int pe_int)))
        (pss_one (ps_ret (pe_ix (ixT (K := K)) (pe_tup (pa_cons pe_str (pa_cons pe_str (pa_cons pe_str pa_nil)))) (pv 12) (fun _ _ => rfl)))))))), ?_⟩
    have o1 := ho p.1 (.inl rfl)
    have o2 := ho p.2 (.inr (.inl rfl))
    have o3 := ho r.1 (.inr (.inr (.inl rfl)))
    obtain ⟨k1, _, F1⟩ := far_ok hB o1.1 o1.2
    obtain ⟨k2, _, F2⟩ := far_ok hB o2.1 o2.2
    obtain ⟨k3, _, F3⟩ := far_ok hB o3.1 o3.2
    unfold kSwap at q
    generalize farE (ptb B) p.1 = f1 at *
    generalize farE (ptb B) p.2 = f2 at *
    generalize farE (ptb B) r.1 = f3 at *
    obtain ⟨x0, x1, rfl⟩ : ∃ x0 x1, xs = [x0, x1] := by
      match xs, pair_len hPa with
      | [x0, x1], _ => exact ⟨x0, x1, rfl⟩
    cases hPa with
    | cons c0 r0 =>
    cases r0 with
    | cons c1 r1 =>
    obtain ⟨t0, rfl, ht0⟩ := c0
    obtain ⟨t1, rfl, ht1⟩ := c1
    walk_at "ev"
    refine r_glst (sql ha) rfl ?_
    refine r_gcons ?_
    refine r_gtup (sqt ht0) rfl ?_
    refine r_gcons (r_gname (r_gcons (r_gname (r_gnil ?_))))
    refine r_gcons ?_
    refine r_gtup (sqt ht1) rfl ?_
    refine r_gcons (r_gname (r_gcons (r_gname (r_gnil ?_))))
    refine r_gnil ?_
    refine Vf.r_atS (σ' := [some (.ref T), some (.ref a), some (.ref b), some (.int p.1), some (.int p.2), some (.int r.1), some (.int r.2), none, none, none, none, none, none]) rfl ?_
    walk_at "ev"
    refine ⟨n, ptb B, T, ts, p.1, k1, f1, rfl, hT, hF, F1, ?_⟩
    walk_at "ev"
    refine ⟨n, ptb B, T, ts, p.2, k2, f2, rfl, hT, hF, F2, ?_⟩
    walk_at "ev"; walk_at "nw"; rename_i u1 n1 H1 s1 h1
    walk_at "ev"
    rw [inT2]
    by_cases ca : f1 = r.1 ∨ f1 = r.2
    · rw [if_pos (Or.inl ca), if_pos ca] at q
      rw [decide_eq_true ca]
      walk_at "ev"; walk_at "nw"; rename_i u2 n2 H2 s2 h2
      walk_at "ev"
      rw [inT2, decide_eq_true ca]
      walk_at "ev"; walk_at "nw"; rename_i u3 n3 H3 s3 h3
      walk_at "ev"
      rw [inT2]
      walk_at "ev"; walk_at "nw"; rename_i u4 n4 H4 s4 h4
      walk_at "ev"
      rw [inT2, decide_eq_true ca]
      walk_at "ev"; walk_at "nw"; rename_i u5 n5 H5 s5 h5
      walk_at "ev"
      intro u6 H6 s6 n6 h6
      have s06 := s1.trans (s2.trans (s3.trans (s4.trans (s5.trans s6))))
      walk_at "ev"
      refine r_inP (p := cpl p.1 f1) ⟨u6, rfl, h6⟩ (s06 _ _ hb) (hPb.mono s06) ?_
      by_cases cj : cpl p.1 f1 ∈ J
      · rw [if_pos cj] at q
        rw [decide_eq_true cj]
        walk_at "ev"
        by_cases cb : f2 = r.1 ∨ f2 = r.2
        · rw [if_pos ⟨ca, cb⟩] at q
          rw [decide_eq_true cb]
          walk_at "ev"
          exact q _ s06
        · rw [if_neg (fun z => cb z.2)] at q
          rw [decide_eq_false cb]
          walk_at "ev"
          exact q _ s06
      · rw [if_neg cj] at q
        rw [decide_eq_false cj]
        walk_at "ev"
        exact q _ s06
    · rw [decide_eq_false ca]
      walk_at "ev"; walk_at "nw"; rename_i u2 n2 H2 s2 h2
      walk_at "ev"
      rw [inT2]
      by_cases cb : f2 = r.1 ∨ f2 = r.2
      · rw [if_pos (Or.inr cb), if_neg ca] at q
        rw [decide_eq_true cb]
        walk_at "ev"; walk_at "nw"; rename_i u3 n3 H3 s3 h3
        walk_at "ev"
        rw [inT2, decide_eq_false ca]
        walk_at "ev"; walk_at "nw"; rename_i u4 n4 H4 s4 h4
        walk_at "ev"
        rw [inT2, decide_eq_false ca]
        walk_at "ev"; walk_at "nw"; rename_i u5 n5 H5 s5 h5
        walk_at "ev"
        intro u6 H6 s6 n6 h6
        have s06 := s1.trans (s2.trans (s3.trans (s4.trans (s5.trans s6))))
        walk_at "ev"
        refine r_inP (p := cpl p.2 f2) ⟨u6, rfl, h6⟩ (s06 _ _ hb) (hPb.mono s06) ?_
        by_cases cj : cpl p.2 f2 ∈ J
        · rw [if_pos cj, if_neg (fun z => ca z.1)] at q
          rw [decide_eq_true cj]
          walk_at "ev"
          exact q _ s06
        · rw [if_neg cj] at q
          rw [decide_eq_false cj]
          walk_at "ev"
          exact q _ s06
      · rw [if_neg (fun z => z.elim ca cb)] at q
        rw [decide_eq_false cb]
        have s02 := s1.trans s2
        walk_at "ev"
        by_cases c1 : f1 = p.2
        · rw [if_pos c1] at q
          rw [decide_eq_true c1]
          walk_at "ev"
          refine ⟨n, ptb B, T, ts, r.1, k3, f3, rfl, s02 _ _ hT, hF, F3, ?_⟩
          walk_at "ev"
          by_cases c2 : f3 = r.2
          · rw [if_pos c2] at q
            rw [decide_eq_true c2]
            walk_at "ev"; walk_at "nw"; rename_i u3 n3 H3 s3 h3
            walk_at "ev"
            exact q _ (s02.trans s3)
          · rw [if_neg c2] at q
            rw [decide_eq_false c2]
            walk_at "ev"; walk_at "nw"; rename_i u3 n3 H3 s3 h3
            walk_at "ev"
            exact q _ (s02.trans s3)
        · rw [if_neg c1] at q
          rw [decide_eq_false c1]
          walk_at "ev"
          refine ⟨n, ptb B, T, ts, r.1, k3, f3, rfl, s02 _ _ hT, hF, F3, ?_⟩
          walk_at "ev"
          by_cases c2 : f3 = r.2
          · rw [if_pos c2] at q
            rw [decide_eq_true c2]
            walk_at "ev"; walk_at "nw"; rename_i u3 n3 H3 s3 h3
            walk_at "ev"
            exact q _ (s02.trans s3)
          · rw [if_neg c2] at q
            rw [decide_eq_false c2]
            walk_at "ev"; walk_at "nw"; rename_i u3 n3 H3 s3 h3
            walk_at "ev"
            exact q _ (s02.trans s3)
end
end K8
namespace K8
open PySem PySem.Spec PyProof.Rows L2 Vf
section
variable {P : Program} {w : World} {K : PySem.W.Frag} {mg : Str → Option Value} {base : Heap}
theorem ok__kind_of_transfer {f : Addr} {fd : FuncData} (F : Fun K "_kind_of_transfer" "_kind_of_transfer" s__kind_of_transfer f fd) (D__far_end : Def P w K mg base 1 "_far_end" ["partners", "end"] (sp__far_end K)) : FnOk P w K mg base CX0 2 f fd ["partners", "cut", "joined"] (sp__kind_of_transfer K) := by
  refine F.ok sc__kind_of_transfer (fun vs H Q E h => ?_) (fun cdv A outer s H vs Q E hr h => ?_)
  · obtain ⟨_, _, _, _, _, _, _, _, rfl, _⟩ := h
    rfl
  · have hu := hu_of hr
    obtain ⟨n, T, a, b, ts, B, p, q0, rfl, hB, hT, hF, ha, hb, ho, q⟩ := h
    refine ⟨_, (pss_cons (ps_asg (pv 1) (pg_tup rfl (pgs_cons (pg_name (i := 3) sc__kind_of_transfer.nd rfl (Or.inl rfl)) (pgs_cons (pg_name (i := 4) sc__kind_of_transfer.nd rfl (Or.inl rfl)) pgs_nil))))
        (pss_cons (ps_set (i := 5) sc__kind_of_transfer.nd rfl (Or.inl rfl) (pe_ifExp (pt_cmpR (inSeqK (K := K)) (pv 3) (pv 2) rfl) (pv 4) (pv 3)))
        (pss_cons (ps_set (i := 6) sc__kind_of_transfer.nd rfl (Or.inl rfl) (pe_op op_sub (pe_op op_add (pv 3) (pv 4)) (pv 5)))
        (pss_cons (ps_set (i := 7) sc__kind_of_transfer.nd rfl (Or.inl rfl) (pe_op op_sub (pe_op op_add (pe_ix (ixT (K := K)) (pv 2) pe_int (fun _ _ => rfl)) (pe_ix (ixT (K := K)) (pv 2) pe_int (fun _ _ => rfl))) (pv 6)))
        (pss_cons (ps_set (i := 8) sc__kind_of_transfer.nd rfl (Or.inl rfl) (pe_def D__far_end (hr.mono (by decide)) (pa_cons (pv 0) (pa_cons (pv 6) pa_nil))))
        (pss_cons (ps_if (pt_cmpR op_eq (pv 8) (pv 5) (nomark _)) (pss_one (ps_ret pe_str)) pss_nil)
        (pss_cons (ps_if (pt_cmpR op_eq (pv 8) (pv 7) (nomark _)) (pss_one (ps_ret pe_str)) pss_nil)
        (pss_one (ps_ret (pe_ifExp (pt_cmpR op_eq (pe_def D__far_end (hr.mono (by decide)) (pa_cons (pv 0) (pa_cons (pv 5) pa_nil))) (pv 7) (nomark _)) pe_str pe_str)))))))))), ?_⟩
    have q1 := q H (Same.refl _)
    clear q
    obtain ⟨k1, _, F1⟩ := far_ok hB (ho p.1 (.inl rfl)).1 (ho p.1 (.inl rfl)).2
    obtain ⟨k2, _, F2⟩ := far_ok hB (ho p.2 (.inr rfl)).1 (ho p.2 (.inr rfl)).2
    have h2 : SqT K H b [.int q0.1, .int q0.2] := sqt hb
    walk_at "ev"
    rw [inT2]
    have bot : ∀ e, e = p.1 ∨ e = p.2 → ∃ k, FarN n (ptb B) k (-e) (farE (ptb B) e) := fun e he => he.elim (fun z => ⟨k1, z ▸ F1⟩) (fun z => ⟨k2, z ▸ F2⟩)
    have rest : ∀ l e o : Int, (l = p.1 ∨ l = p.2) → (e = p.1 ∨ e = p.2) → (l, e, o) = kTransE p q0 → e = p.1 + p.2 - l → o = q0.1 + q0.2 - e → (l = p.1 ∨ l = p.2) := fun _ _ _ h _ _ _ _ => h
    unfold kTrans at q1
    have kc := kt_cases (p := p) (q := q0)
    have e2 : (kTransE p q0).2.1 = p.1 + p.2 - (kTransE p q0).1 := rfl
    have e3 : (kTransE p q0).2.2 = q0.1 + q0.2 - (kTransE p q0).2.1 := rfl
    have e1 : (kTransE p q0).1 = if p.1 = q0.1 ∨ p.1 = q0.2 then p.2 else p.1 := rfl
    obtain ⟨kl, Fl⟩ := bot (kTransE p q0).1 (by omega)
    obtain ⟨ke, Fe⟩ := bot (kTransE p q0).2.1 (by omega)
    rw [e3] at q1
    refine ite2 (fun c => ?_) (fun c => ?_)
    all_goals
      first
        | rw [if_pos (of_decide_eq_true c)] at e1
        | rw [if_neg (by simpa using c)] at e1
      rw [e2] at Fe q1
      rw [e1] at Fe Fl q1
      walk_at "ev"
      refine ⟨n, ptb B, T, ts, _, ke, _, rfl, hT, hF, Fe, ?_⟩
      walk_at "ev"
      refine ite2 (fun c1 => ?_) (fun c1 => ?_)
      · rw [if_pos (of_decide_eq_true c1)] at q1
        walk_at "ev"
        exact q1
      rw [if_neg (by simpa using c1)] at q1
      walk_at "ev"
      refine ite2 (fun c2 => ?_) (fun c2 => ?_)
      · rw [if_pos (of_decide_eq_true c2)] at q1
        walk_at "ev"
        exact q1
      rw [if_neg (by simpa using c2)] at q1
      walk_at "ev"
      refine ⟨n, ptb B, T, ts, _, kl, _, rfl, hT, hF, Fl, ?_⟩
      walk_at "ev"
      refine ite2 (fun c3 => ?_) (fun c3 => ?_)
      · rw [if_pos (of_decide_eq_true c3)] at q1
        walk_at "ev"
        exact q1
      · rw [if_neg (by simpa using c3)] at q1
        walk_at "ev"
        exact q1
end
end K8
namespace K8
open PySem PySem.Spec PyProof.Rows L2 Vf
section
variable {P : Program} {w : World} {K : PySem.W.Frag} {mg : Str → Option Value} {base : Heap}
theorem ok__kind_when_cut {f : Addr} {fd : FuncData} (F : Fun K "_kind_when_cut" "_kind_when_cut" s__kind_when_cut f fd) (D__kind_of_transfer : Def P w K mg base 2 "_kind_of_transfer" ["partners", "cut", "joined"] (sp__kind_of_transfer K)) (D__kind_of_swap : Def P w K mg base 2 "_kind_of_swap" ["partners", "cut", "joined"] (sp__kind_of_swap K)) (D__far_end : Def P w K mg base 1 "_far_end" ["partners", "end"] (sp__far_end K)) (m_len : mg "len" = none) : FnOk P w K mg base CX0 3 f fd ["partners", "cut", "joined"] (sp__kind_when_cut K) := by
  refine F.ok sc__kind_when_cut (fun vs H Q E h => ?_) (fun cdv A outer s H vs Q E hr h => ?_)
  · obtain ⟨_, _, _, _, _, _, _, _, _, _, rfl, _⟩ := h
    rfl
  · have hu := hu_of hr
    obtain ⟨n, T, a, b, ts, xs, ys, B, C, J, rfl, hB, hT, hF, ha, hPa, hb, hPb, ho, hfm, q⟩ := h
    refine ⟨_, (pss_cons (ps_if (pt_cmpR op_eq (pe_callB (lenK (K := K)) (by rfl) m_len (by decide +kernel) (pa_cons (pv 1) pa_nil)) pe_int (nomark _)) (pss_one (ps_ret (pe_def D__kind_of_swap (hr.mono (by decide)) (pa_cons (pv 0) (pa_cons (pv 1) (pa_cons (pv 2) pa_nil)))))) pss_nil)
        (pss_cons (ps_if (pt_cmpR op_eq (pe_callB (lenK (K := K)) (by rfl) m_len (by decide +kernel) (pa_cons (pv 1) pa_nil)) pe_int (nomark _)) (pss_cons (ps_asg (pe_ix (ixL (K := K)) (pv 2) pe_int (fun _ _ => rfl)) (pg_tup rfl (pgs_cons (pg_name (i := 3) sc__kind_when_cut.nd rfl (Or.inl rfl)) (pgs_cons (pg_name (i := 4) sc__kind_when_cut.nd rfl (Or.inl rfl)) pgs_nil))))
        (pss_one (ps_ret (pe_ifExp (pt_cmpR op_eq (pe_def D__far_end (hr.mono (by decide)) (pa_cons (pv 0) (pa_cons (pv 3) pa_nil))) (pv 4) (nomark _)) pe_str pe_str)))) pss_nil)
        (pss_cons (ps_asg (pe_ix (ixL (K := K)) (pv 1) pe_int (fun _ _ => rfl)) (pg_tup rfl (pgs_cons (pg_name (i := 3) sc__kind_when_cut.nd rfl (Or.inl rfl)) (pgs_cons (pg_name (i := 4) sc__kind_when_cut.nd rfl (Or.inl rfl)) pgs_nil))))
        (pss_cons (ps_if (pt_cmpR op_eq (pe_callB (lenK (K := K)) (by rfl) m_len (by decide +kernel) (pa_cons (pv 2) pa_nil)) pe_int (nomark _)) (pss_one (ps_ret (pe_ifExp (pt_cmpR op_eq (pe_def D__far_end (hr.mono (by decide)) (pa_cons (pv 0) (pa_cons (pv 3) pa_nil))) (pv 4) (nomark _)) pe_str pe_str))) pss_nil)
        (pss_one (ps_ret (pe_def D__kind_of_transfer (hr.mono (by decide)) (pa_cons (pv 0) (pa_cons (pe_ix (ixL (K := K)) (pv 1) pe_int (fun _ _ => rfl)) (pa_cons (pe_ix (ixL (K := K)) (pv 2) pe_int (fun _ _ => rfl)) pa_nil)))))))))), ?_⟩
    have xl := pair_len hPa
    have yl := pair_len hPb
    have far : ∀ e, e ∈ flat C ∨ e ∈ flat J → ∃ k, FarN n (ptb B) k (-e) (farE (ptb B) e) := fun e he => let ⟨k, _, h⟩ := far_ok hB (ho e he).1 (ho e he).2; ⟨k, h⟩
    rcases hfm with ⟨p, r, s0, t0, rfl, rfl⟩ | ⟨p, r, rfl, rfl⟩ | ⟨p, rfl, rfl⟩ | ⟨r, rfl, rfl⟩
    · walk_at "ev"
      rw [xl]
      walk_at "ev"
      exact ⟨n, T, a, b, ts, xs, ys, B, p, r, _, rfl, hB, hT, hF, ha, hPa, hb, hPb, fun e he => ho e (.inl (by simp only [flat_cons, List.mem_cons]; rcases he with h | h | h | h <;> simp [h])), q⟩
    · cases hPa with
      | cons c0 r0 =>
      cases r0
      cases hPb with
      | cons c1 r1 =>
      cases r1
      obtain ⟨t0, rfl, ht0⟩ := c0
      obtain ⟨t1, rfl, ht1⟩ := c1
      walk_at "ev"
      exact ⟨n, T, t0, t1, ts, B, p, r, rfl, hB, hT, hF, ht0, ht1, fun e he => ho e (.inl (by simp only [flat_cons, List.mem_cons]; rcases he with h | h <;> simp [h])), q⟩
    · cases hPa with
      | cons c0 r0 =>
      cases r0
      obtain ⟨t0, rfl, ht0⟩ := c0
      cases hPb
      obtain ⟨k, F⟩ := far p.1 (.inl (by simp [flat]))
      walk_at "ev"
      refine ⟨n, ptb B, T, ts, p.1, k, _, rfl, hT, hF, F, ?_⟩
      have q1 : Q (.str (if farE (ptb B) p.1 = p.2 then "open" else "cut")) H := q H (Same.refl _)
      walk_at "ev"
      by_cases c : farE (ptb B) p.1 = p.2
      · rw [if_pos c] at q1
        rw [decide_eq_true c]
        walk_at "ev"
        exact q1
      · rw [if_neg c] at q1
        rw [decide_eq_false c]
        walk_at "ev"
        exact q1
    · cases hPb with
      | cons c1 r1 =>
      cases r1
      obtain ⟨t1, rfl, ht1⟩ := c1
      cases hPa
      obtain ⟨k, F⟩ := far r.1 (.inr (by simp [flat]))
      walk_at "ev"
      refine ⟨n, ptb B, T, ts, r.1, k, _, rfl, hT, hF, F, ?_⟩
      have q1 : Q (.str (if farE (ptb B) r.1 = r.2 then "close" else "join")) H := q H (Same.refl _)
      walk_at "ev"
      by_cases c : farE (ptb B) r.1 = r.2
      · rw [if_pos c] at q1
        rw [decide_eq_true c]
        walk_at "ev"
        exact q1
      · rw [if_neg c] at q1
        rw [decide_eq_false c]
        walk_at "ev"
        exact q1
end
end K8
namespace K8
open PySem PySem.Spec PyProof.Rows L2 Vf
section
variable {P : Program} {w : World} {K : PySem.W.Frag} {mg : Str → Option Value} {base : Heap}
theorem ok_make_named_move {f : Addr} {fd : FuncData} (F : Fun K "make_named_move" "make_named_move" s_make_named_move f fd) (D__kind_when_cut : Def P w K mg base 3 "_kind_when_cut" ["partners", "cut", "joined"] (sp__kind_when_cut K)) : FnOk P w K mg base CX0 4 f fd ["partners", "move"] (sp_make_named_move K) := by
  refine F.ok sc_make_named_move (fun vs H Q E h => ?_) (fun cdv A outer s H vs Q E hr h => ?_)
  · obtain ⟨_, _, _, _, _, _, _, _, rfl, _⟩ := h
    rfl
  · have hu := hu_of hr
    obtain ⟨n, T, v, ts, L, C, J, M, rfl, hL, hM, hT, hF, ⟨p, a1, a2, x1, x2, rfl, hp, h1, hP1, h2, hP2⟩, hmv, pm, q⟩ := h
    refine ⟨_, (pss_cons (ps_asg (pv 1) (pg_tup rfl (pgs_cons (pg_name (i := 2) sc_make_named_move.nd rfl (Or.inl rfl)) (pgs_cons (pg_name (i := 3) sc_make_named_move.nd rfl (Or.inl rfl)) pgs_nil))))
        (pss_cons (ps_for PassesOwn.never rfl (pi_list (pv 2)) (pg_tup rfl (pgs_cons (pg_name (i := 4) sc_make_named_move.nd rfl (Or.inl rfl)) (pgs_cons (pg_name (i := 5) sc_make_named_move.nd rfl (Or.inl rfl)) pgs_nil)))
          (pss_one (ps_asg2 pe_int (pg_sub (pv 0) (pv 4) set_list) (pg_sub (pv 0) (pv 5) set_list))))
        (pss_cons (ps_set (i := 6) sc_make_named_move.nd rfl (Or.inl rfl) (pe_def D__kind_when_cut (hr.mono (by decide)) (pa_cons (pv 0) (pa_cons (pv 2) (pa_cons (pv 3) pa_nil)))))
        (pss_cons (ps_for PassesOwn.never rfl (pi_list (pv 3)) (pg_tup rfl (pgs_cons (pg_name (i := 4) sc_make_named_move.nd rfl (Or.inl rfl)) (pgs_cons (pg_name (i := 5) sc_make_named_move.nd rfl (Or.inl rfl)) pgs_nil)))
          (pss_cons (ps_asg (pv 5) (pg_sub (pv 0) (pv 4) set_list))
        (pss_one (ps_asg (pv 4) (pg_sub (pv 0) (pv 5) set_list)))))
        (pss_one (ps_ret (pv 6))))))), ?_⟩
    obtain ⟨f1, f2, f3, f4, f5, f6⟩ := mv_flat hL hmv
    have fm := mv_forms hmv
    have op : ∀ e, e ∈ flat C ∨ e ∈ flat J → e ∈ endsL n ∧ e ∉ flat (cutL L C) := fun e he => mv_open hL hmv he
    have tl := hF.len
    have notT : ∀ {a : Addr} {xs : List V} {D : List (Int × Int)}, H a = some (.lst xs) → Prs H xs D → a ≠ T := fun {a xs D} ha hP => by
      rintro rfl
      rw [hT] at ha
      cases ha
      have n1 := hL.n1
      match ts, tl, hP with
      | [], z, _ => simp at z; omega
      | _ :: _, _, .cons h _ => obtain ⟨_, z, _⟩ := h; cases z
    have na1 := notT h1 hP1
    have na2 := notT h2 hP2
    have npT : p ≠ T := fun z => by rw [z, hT] at hp; cases hp
    have hP1' := prs_hid hT hP1
    have hP2' := prs_hid hT hP2
    have h1' : Hid [T] H a1 = some (.lst x1) := hid_get h1 (by simp [na1])
    have h2' : Hid [T] H a2 = some (.lst x2) := hid_get h2 (by simp [na2])
    have nT : Hid [T] H T = none := by simp [Hid]
    walk_at "ev"
    refine ⟨⟨_, sql h1⟩, ?_⟩
    refine r_forS (bk := fun _ _ => False) (ct := fun _ _ => False) (seq_list (K := K) (a := a1) hP1') (fun dn σ H' => ∃ y4 y5 us g, σ = [some (.ref T), some (.ref p), some (.ref a1), some (.ref a2), y4, y5, none] ∧ Same (Hid [T] H) H' ∧ H' T = some (.lst (us.map V.int)) ∧ IsF n g us ∧ ∀ x, g x = if x ∈ flat dn then 0 else ptb L x) ⟨_, _, ts, ptb L, rfl, hid_le, hT, hF, fun x => by simp [flat]⟩ (fun _ _ _ c => by obtain ⟨_, _, _, _, _, s, _⟩ := c; exact sql (s _ _ h1')) ?_ ?_
    · rintro dn r rr v σ H3 e ⟨t, rfl, ht⟩ ⟨y4, y5, us, g, rfl, s3, hT3, hg, eg⟩
      have hr : r ∈ C := by rw [e]; simp
      have cr := hL.cp r (f1 r hr)
      obtain ⟨i, j, ei, ej, eu, hg2⟩ := hg.two (a := r.1) (b := r.2) (u := 0) (v := 0) (by omega) (by omega)
      walk_at "ev"
      refine r_gtup (sqt (s3 _ _ ht)) rfl ?_
      walk_at "ev"
      refine r_setL hT3 ei ?_
      walk_at "ev"
      refine r_setL upd_same ej ?_
      refine ⟨_, _, _, _, rfl, Vf.Same.set (Vf.Same.set s3 nT) nT, by rw [upd_same, eu], hg2, fun x => ?_⟩
      rw [eg]
      by_cases c2 : x = r.2
      · rw [if_pos c2, if_pos ((flat_snoc _ _ _).mpr (.inr (.inr c2)))]
      by_cases c1 : x = r.1
      · rw [if_neg c2, if_pos c1, if_pos ((flat_snoc _ _ _).mpr (.inr (.inl c1)))]
      rw [if_neg c2, if_neg c1]
      by_cases c0 : x ∈ flat dn
      · rw [if_pos c0, if_pos ((flat_snoc _ _ _).mpr (.inl c0))]
      · rw [if_neg c0, if_neg (fun z => by rcases (flat_snoc _ _ _).mp z with z | z | z <;> contradiction)]
    rintro σ H3 ⟨y4, y5, us, g, rfl, s3, hT3, hg, eg⟩
    have hB := cutL_lay C hL
    have hg' : IsF n (ptb (cutL L C)) us := hg.congr fun x _ _ => by rw [eg, ptb_cut hL hB f1 (fun p => cutL_mem)]
    walk_at "ev"
    refine ⟨n, T, a1, a2, us, x1, x2, cutL L C, C, J, rfl, hB, hT3, hg', s3 _ _ h1', hP1'.mono s3, s3 _ _ h2', hP2'.mono s3, op, fm, fun H4 s4 => ?_⟩
    have s34 := s3.trans s4
    walk_at "ev"
    have nd := mv_nd hL hmv
    refine ⟨⟨_, sql (s34 _ _ h2')⟩, ?_⟩
    refine r_forS (bk := fun _ _ => False) (ct := fun _ _ => False) (seq_list (K := K) (a := a2) hP2') (fun dn σ H' => ∃ y4 y5 us, σ = [some (.ref T), some (.ref p), some (.ref a1), some (.ref a2), y4, y5, some (.str (kindL L C J))] ∧ Same (Hid [T] H) H' ∧ H' T = some (.lst (us.map V.int)) ∧ IsF n (ptb (cutL L C ++ dn)) us) ⟨_, _, us, rfl, s34, s4 _ _ hT3, by simpa using hg'⟩ (fun _ _ _ c => by obtain ⟨_, _, _, _, s, _⟩ := c; exact sql (s _ _ h2')) ?_ ?_
    · rintro dn r rr v σ H5 e ⟨t, rfl, ht⟩ ⟨y4, y5, us, rfl, s5, hT5, hg5⟩
      have hr : r ∈ J := by rw [e]; simp
      have cr := f4 r hr
      have ndr : (flat ((cutL L C ++ dn) ++ r :: rr)).Nodup := by
        have : cutL L C ++ J = (cutL L C ++ dn) ++ r :: rr := by rw [e, List.append_assoc]
        rw [← this]; exact nd
      have no := (tab_put (d := cutL L C ++ dn) (p := r) (r := rr) ndr).2
      obtain ⟨i, j, ei, ej, eu, hg2⟩ := hg5.two (a := r.1) (b := r.2) (u := r.2) (v := r.1) (by omega) (by omega)
      walk_at "ev"
      refine r_gtup (sqt (s5 _ _ ht)) rfl ?_
      walk_at "ev"
      refine r_setL hT5 ei ?_
      walk_at "ev"
      refine r_setL upd_same ej ?_
      refine ⟨_, _, _, rfl, Vf.Same.set (Vf.Same.set s5 nT) nT, by rw [upd_same, eu], hg2.congr fun x _ _ => ?_⟩
      rw [← List.append_assoc]
      exact ptb_snoc no.1 no.2.1 cr.2.2.2.1 cr.2.2.2.2 no.2.2 x
    · rintro σ H5 ⟨y4, y5, us, rfl, s5, hT5, hg5⟩
      walk_at "ev"
      exact q H5 us s5 hT5 (hg5.congr fun x _ _ => ptb_make hM pm nd x)
end
end K8
namespace K8
open PySem PySem.Spec PyProof.Rows L2 Vf
section
variable {P : Program} {w : World} {K : PySem.W.Frag} {mg : Str → Option Value} {base : Heap}
theorem ok_kind_of {f : Addr} {fd : FuncData} (F : Fun K "kind_of" "kind_of" s_kind_of f fd) (D_make_named_move : Def P w K mg base 4 "make_named_move" ["partners", "move"] (sp_make_named_move K)) (D_checked_move : DefR P w K mg base 7 "checked_move" ["pieces", "layout", "move"] (sp_checked_move K)) : FnG P w K mg base (L2.CX P w) 8 f fd ["pieces", "layout", "move"] (sp_kind_of K) := by
  refine okG F sc_kind_of (fun vs H Q E h => ?_) (fun cdv A outer s H vs Q E hr hgd h => ?_)
  · obtain ⟨_, _, _, _, _, _, rfl, _⟩ := h
    rfl
  · have hu := hu_of hr
    obtain ⟨u, c, v, d, x, e, rfl, hc, hd, he, hf, q1, q2, q3, q4⟩ := h
    refine ⟨_, (pss_one (ps_ret (pe_def D_make_named_move (hr.mono (by decide)) (pa_cons (pe_defR D_checked_move (E := E) (passes_call (takes_of (E := E) rfl rfl rfl rfl) fun _ _ _ _ z => z) (hr.mono (by decide)) hgd (pa_cons (pv 0) (pa_cons (pv 1) (pa_cons (pv 2) pa_nil)))) (pa_cons (pv 2) pa_nil))))), ?_⟩
    walk_at "ev"
    refine ⟨u, c, v, d, x, e, rfl, hc, hd, he, hf, fun n L T ts H1 hn hL e1 hmv s1 nT hT hF => ?_, q2, q3, q4⟩
    obtain ⟨C, J, rfl⟩ := mv_data hmv
    walk_at "ev"
    have hM := mv_sorted hL hmv
    refine ⟨n, T, x, ts, L, C, J, _, rfl, hL, hM.1, hT, hF, (mv_at he).mono s1, hmv, hM.2, fun H2 us s2 hT2 hg => ?_⟩
    exact q1 n L C J H2 hn hL e1 rfl hmv ((same_more (t := []) (by rw [hid_none]; exact s1) nT).trans s2)
end
end K8
namespace K8
open PySem PySem.Spec PyProof.Rows L2 Vf
section
variable {P : Program} {w : World} {K : PySem.W.Frag} {mg : Str → Option Value} {base : Heap}
theorem ok__law_tap {f : Addr} {fd : FuncData} (F : Fun K "_law_tap" "_law_tap" s__law_tap f fd) (m_int : mg "int" = none) (m_abs : mg "abs" = none) : FnOk P w K mg base CX0 1 f fd ["cell", "turn"] (sp__law_tap K) := by
  refine F.ok sc__law_tap (fun vs H Q E h => ?_) (fun cdv A outer s H vs Q E hr h => ?_)
  · obtain ⟨_, _, rfl, _⟩ := h
    rfl
  · have hu := hu_of hr
    obtain ⟨c, k, rfl, k0, k1, q⟩ := h
    refine ⟨_, (pss_cons (ps_set (i := 2) sc__law_tap.nd rfl (Or.inl rfl) (pe_op op_add (pe_op op_mul pe_int (pe_callB call_abs (by rfl) m_abs (by decide +kernel) (pa_cons (pv 0) pa_nil))) (pe_callTy call_int1 (by rfl) m_int (by decide +kernel) (pa_cons (pe_cmpR op_lt (pv 0) pe_int (nomark _)) pa_nil))))
        (pss_one (ps_ret (pe_lst (pa_cons (pv 2) (pa_cons (pe_op op_add (pe_op op_add (pe_op op_modN (pe_callTy call_int1 (by rfl) m_int (by decide +kernel) (pa_cons (pv 2) pa_nil)) pe_int) (pe_op op_mul pe_int (pv 1))) pe_int) (pa_cons (pe_op op_add (pe_op op_add (pe_op op_modN (pe_callTy call_int1 (by rfl) m_int (by decide +kernel) (pa_cons (pv 2) pa_nil)) pe_int) (pe_op op_mul pe_int (pv 1))) pe_int) pa_nil))))))), ?_⟩
    walk_at "ev"
    generalize hw : 2 * (if c < 0 then -c else c) + (if decide (c < 0) = true then 1 else 0) = W
    have w0 : 0 ≤ W := by
      rw [← hw]
      by_cases e : c < 0
      · rw [if_pos e, if_pos (decide_eq_true e)]; omega
      · rw [if_neg e, if_neg (by simpa using e)]; omega
    refine ⟨szl (by show 3 ≤ 100000; decide), fun p np => ?_⟩
    have e1 := fm W 4294967291 (by decide)
    have e2 := fm W 2147483587 (by decide)
    exact q p _ (same_new np) np ⟨_, _, _, upd_same, w0, by omega, by omega, by omega⟩
end
end K8
namespace K8
open PySem PySem.Spec PyProof.Rows L2 Vf
section
variable {P : Program} {w : World} {K : PySem.W.Frag} {mg : Str → Option Value} {base : Heap}
theorem ok__law_draw {f : Addr} {fd : FuncData} (F : Fun K "_law_draw" "_law_draw" s__law_draw f fd) (m_int : mg "int" = none) : FnOk P w K mg base CX0 1 f fd ["tap", "bound"] (sp__law_draw K) := by
  refine F.ok sc__law_draw (fun vs H Q E h => ?_) (fun cdv A outer s H vs Q E hr h => ?_)
  · obtain ⟨_, _, rfl, _⟩ := h
    rfl
  · have hu := hu_of hr
    obtain ⟨t, n, rfl, ⟨a, b, c, ht, a0, b0, c0, c1⟩, n0, n1, q⟩ := h
    refine ⟨_, (pss_cons (ps_if (pt_cmpR op_ge (pe_ix (ixL (K := K)) (pv 0) pe_int (fun _ _ => rfl)) (pe_op op_powW pe_int pe_int) (nomark _)) (pss_cons (ps_set (i := 2) sc__law_draw.nd rfl (Or.inl rfl) (pe_op op_modN (pe_callTy call_int1 (by rfl) m_int (by decide +kernel) (pa_cons (pe_ix (ixL (K := K)) (pv 0) pe_int (fun _ _ => rfl)) pa_nil)) (pv 1)))
        (pss_cons (ps_asg (pe_op op_fdivN (pe_ix (ixL (K := K)) (pv 0) pe_int (fun _ _ => rfl)) (pv 1)) (pg_sub (pv 0) pe_int set_list))
        (pss_one (ps_ret (pv 2))))) pss_nil)
        (pss_cons (ps_asg (pe_op op_modN (pe_callTy call_int1 (by rfl) m_int (by decide +kernel) (pa_cons (pe_op op_add (pe_op op_mul (pe_ix (ixL (K := K)) (pv 0) pe_int (fun _ _ => rfl)) pe_int) pe_int) pa_nil)) pe_int) (pg_sub (pv 0) pe_int set_list))
        (pss_cons (ps_asg (pe_op op_modN (pe_callTy call_int1 (by rfl) m_int (by decide +kernel) (pa_cons (pe_op op_add (pe_op op_mul (pe_ix (ixL (K := K)) (pv 0) pe_int (fun _ _ => rfl)) (pe_ix (ixL (K := K)) (pv 0) pe_int (fun _ _ => rfl))) (pe_ix (ixL (K := K)) (pv 0) pe_int (fun _ _ => rfl))) pa_nil)) pe_int) (pg_sub (pv 0) pe_int set_list))
        (pss_one (ps_ret (pe_op op_modN (pe_callTy call_int1 (by rfl) m_int (by decide +kernel) (pa_cons (pe_op op_add (pe_op op_fdivN (pe_ix (ixL (K := K)) (pv 0) pe_int (fun _ _ => rfl)) pe_int) (pe_op op_fdivN (pe_ix (ixL (K := K)) (pv 0) pe_int (fun _ _ => rfl)) pe_int)) pa_nil)) (pv 1))))))), ?_⟩
    have nz : n ≠ 0 := by omega
    have nb : CDivN a n := ⟨nz, by omega⟩
    have hS : SqL K H t [.int a, .int b, .int c] := .inl (.inl ht)
    walk_at "ev"
    refine ite2 (fun _ => ?_) (fun _ => ?_)
    · walk_at "ev"
      have e1 := fm a n n0
      exact q _ _ e1.1 e1.2 (fun b e => upd_ne e) ⟨_, _, _, upd_same, Int.fdiv_nonneg a0 (by omega), b0, c0, c1⟩
    · walk_at "ev"
      have e1 := fm (b * 69069 + 40503) 4294967291 (by decide)
      generalize (b * 69069 + 40503).fmod 4294967291 = b' at e1 ⊢
      have s0 : upd H t (.lst ([.int a, .int b, .int c].set (Int.toNat 1) (.int b'))) t = some (.lst [.int a, .int b', .int c]) := upd_same
      generalize h1 : upd H t (.lst ([.int a, .int b, .int c].set (Int.toNat 1) (.int b'))) = H1 at s0 ⊢
      have s1 : SqL K H1 t [.int a, .int b', .int c] := .inl (.inl s0)
      walk_at "ev"
      have e2 := fm (c * c + b') 2147483587 (by decide)
      generalize (c * c + b').fmod 2147483587 = c' at e2 ⊢
      have s2 : upd H1 t (.lst ([.int a, .int b', .int c].set (Int.toNat 2) (.int c'))) t = some (.lst [.int a, .int b', .int c']) := upd_same
      generalize h2 : upd H1 t (.lst ([.int a, .int b', .int c].set (Int.toNat 2) (.int c'))) = H2 at s2 ⊢
      have s3 : SqL K H2 t [.int a, .int b', .int c'] := .inl (.inl s2)
      walk_at "ev"
      have e3 := fm (b'.fdiv 32 + c'.fdiv 16) n n0
      exact q _ _ e3.1 e3.2 (fun b e => by rw [← h2, upd_ne e, ← h1, upd_ne e]) ⟨_, _, _, s2, a0, e1.1, e2.1, by omega⟩
end
end K8
namespace K8
open PySem PySem.Spec PyProof.Rows L2 Vf
section
variable {P : Program} {w : World} {K : PySem.W.Frag} {mg : Str → Option Value} {base : Heap}
theorem ok__law_cells {f : Addr} {fd : FuncData} (F : Fun K "_law_cells" "_law_cells" s__law_cells f fd) (m_max : mg "max" = none) (m_min : mg "min" = none) (m_len : mg "len" = none) : FnOk P w K mg base CX0 1 f fd ["script", "many"] (sp__law_cells K) := by
  refine F.ok sc__law_cells (fun vs H Q E h => ?_) (fun cdv A outer s H vs Q E hr h => ?_)
  · obtain ⟨_, _, _, rfl, _⟩ := h
    rfl
  · have hu := hu_of hr
    obtain ⟨a, ns, m, rfl, hS, hl, m1, m2, q⟩ := h
    refine ⟨_, (pss_one (ps_ret (pe_slice (slK (K := K)) (pe_op (catK (K := K)) (pv 0) (pe_lst (pa_cons pe_int pa_nil))) po_none (po_some (pe_callB (call_max2 rfl) (by rfl) m_max (by decide +kernel) (pa_cons pe_int (pa_cons (pe_callB (call_min2 rfl) (by rfl) m_min (by decide +kernel) (pa_cons (pv 1) (pa_cons (pe_callB (lenK (K := K)) (by rfl) m_len (by decide +kernel) (pa_cons (pv 0) pa_nil)) pa_nil))) pa_nil))))))), ?_⟩
    walk_at "ev"
    refine ⟨szl (by show 1 ≤ 100000; decide), fun b nb => ?_⟩
    have s1 := same_new (o := .lst [.int 0]) nb
    generalize hB : upd H b (.lst [.int 0]) = H1 at s1 ⊢
    have hb : H1 b = some (.lst [.int 0]) := by rw [← hB]; exact upd_same
    refine ⟨a, b, ns.map V.int, _, rfl, rfl, s1.seq hS, sql hb, szl (by rw [List.length_map]; show ns.length + 1 ≤ 100000; omega), fun c nc => ?_⟩
    walk_at "ev"
    have s2 := s1.trans (same_new (o := .lst (ns.map V.int ++ [.int 0])) nc)
    refine ⟨a, ns.map V.int, rfl, .inl (s2.seq hS), ?_⟩
    walk_at "ev"
    refine ⟨c, _, rfl, sql upd_same, fun e ne => ?_⟩
    obtain ⟨cs, h1, h2⟩ := cut_ints (ns ++ [0]) none (some (if (if ((ns.map V.int).length : Int) < m then ((ns.map V.int).length : Int) else m) > 1 then (if ((ns.map V.int).length : Int) < m then ((ns.map V.int).length : Int) else m) else 1))
    rw [List.map_append] at h1
    refine q e _ cs (s2.trans (same_new ne)) (s2.free ne) ?_ (by rw [List.length_append] at h2; show cs.length ≤ 64; have : ([0] : List Int).length = 1 := rfl; omega)
    rw [upd_same, ← h1]
    rfl
end
end K8
namespace K8
open PySem PySem.Spec PyProof.Rows L2 Vf
section
variable {P : Program} {w : World} {K : PySem.W.Frag} {mg : Str → Option Value} {base : Heap}
theorem ok__law_ends {f : Addr} {fd : FuncData} (F : Fun K "_law_ends" "_law_ends" s__law_ends f fd) (m_range : mg "range" = none) : FnOk P w K mg base CX0 1 f fd ["pieces"] (sp__law_ends K) := by
  refine F.ok sc__law_ends (fun vs H Q E h => ?_) (fun cdv A outer s H vs Q E hr h => ?_)
  · obtain ⟨_, rfl, _⟩ := h
    rfl
  · have hu := hu_of hr
    obtain ⟨n, rfl, n1, n60, q⟩ := h
    refine ⟨_, (pss_one (ps_ret (pe_lc (own := [("end", 1)]) rfl sc__law_ends.nd (pi_range2 (by rfl) m_range (pa_cons (pe_op op_sub pe_int (pv 0)) (pa_cons (pe_op op_add (pv 0) pe_int) pa_nil))) (blkOk_by (own := [("end", 1)]) (N := N__law_ends) (sc := defScope s__law_ends) (by decide +kernel)) (fun _ _ _ _ _ => (pg_name (i := 1) sc__law_ends.nd rfl (Or.inl rfl))) (fun _ _ _ _ _ => pts_one (pt_cmpR op_ne (pv 1) pe_int (nomark _))) (fun _ _ _ _ _ => (pv 1))))), ?_⟩
    walk_at "ev"
    refine ⟨⟨by omega, by omega, by omega, by omega⟩, fun D np => ?_⟩
    refine r_lcP seq_range (fun e => !decide (e = 0)) V.int (by rw [rng_len]; omega) np (fun _ _ => trivial) ?_ ?_
    · intro e v H2 acc _ hv _ ha hz N h1 h2
      subst hv
      walk_at "ev"
      refine ite2 (fun hb => ?_) (fun hb => ?_)
      · walk_at "ev"
        exact ⟨acc, ha, hz, h1 hb⟩
      · exact h2 (Bool.eq_false_iff.mpr hb)
    · rw [show (0 : Int) - n = -n by omega]
      exact q.mk (Same.refl H) D np
end
end K8
namespace K8
open PySem PySem.Spec PyProof.Rows L2 Vf
section
variable {P : Program} {w : World} {K : PySem.W.Frag} {mg : Str → Option Value} {base : Heap}
theorem ok__law_pair {f : Addr} {fd : FuncData} (F : Fun K "_law_pair" "_law_pair" s__law_pair f fd) (m_min : mg "min" = none) (m_max : mg "max" = none) : FnOk P w K mg base CX0 1 f fd ["one", "other"] (sp__law_pair K) := by
  refine F.ok sc__law_pair (fun vs H Q E h => ?_) (fun cdv A outer s H vs Q E hr h => ?_)
  · obtain ⟨_, _, rfl, _⟩ := h
    rfl
  · have hu := hu_of hr
    obtain ⟨a, b, rfl, q⟩ := h
    refine ⟨_, (pss_one (ps_ret (pe_tup (pa_cons (pe_callB (call_min2 rfl) (by rfl) m_min (by decide +kernel) (pa_cons (pv 0) (pa_cons (pv 1) pa_nil))) (pa_cons (pe_callB (call_max2 rfl) (by rfl) m_max (by decide +kernel) (pa_cons (pv 0) (pa_cons (pv 1) pa_nil))) pa_nil))))), ?_⟩
    walk_at "ev"
    have e1 : (if b < a then b else a) = min a b := by omega
    have e2 : (if b > a then b else a) = max a b := by omega
    rw [e1, e2]
    exact ⟨szl (by show 2 ≤ 100000; decide), fun p np => q.mk (Same.refl H) p np⟩
end
end K8
namespace K8
open PySem PySem.Spec PyProof.Rows L2 Vf
section
variable {P : Program} {w : World} {K : PySem.W.Frag} {mg : Str → Option Value} {base : Heap}
theorem ok__law_partners {f : Addr} {fd : FuncData} (F : Fun K "_law_partners" "_law_partners" s__law_partners f fd)  : FnOk P w K mg base CX0 1 f fd ["layout"] (sp__law_partners K) := by
  refine F.ok sc__law_partners (fun vs H Q E h => ?_) (fun cdv A outer s H vs Q E hr h => ?_)
  · obtain ⟨_, _, _, _, rfl, _⟩ := h
    rfl
  · have hu := hu_of hr
    obtain ⟨a, xs, L, n, rfl, hS, hP, hL, q⟩ := h
    refine ⟨_, (pss_cons (ps_set (i := 1) sc__law_partners.nd rfl (Or.inl rfl) pe_dnewK)
        (pss_cons (ps_for PassesOwn.never rfl (pi_list (pv 0)) (pg_tup rfl (pgs_cons (pg_name (i := 2) sc__law_partners.nd rfl (Or.inl rfl)) (pgs_cons (pg_name (i := 3) sc__law_partners.nd rfl (Or.inl rfl)) pgs_nil)))
          (pss_cons (ps_dput hu (pv 1) (pv 2) (pv 3) rfl)
        (pss_one (ps_dput hu (pv 1) (pv 3) (pv 2) rfl))))
        (pss_one (ps_ret (pv 1))))), ?_⟩
    walk_at "ev"
    intro d nd
    walk_at "ev"
    refine ⟨⟨xs, (same_new nd).seq hS⟩, ?_⟩
    refine r_forS (seq_list hP) (fun dn σ H' => ∃ y z, σ = [some (.ref a), some (.ref d), y, z] ∧ H' = upd H d (.dK (tab dn))) ⟨_, _, rfl, rfl⟩ (fun dn σ H' ⟨_, _, _, e⟩ => e ▸ (same_new nd).seq hS) (fun dn p r v σ H' e hv ⟨y, z, e1, e2⟩ => ?_) (fun σ H' ⟨y, z, e1, e2⟩ => ?_)
    · subst e1 e2
      obtain ⟨t, rfl, ht⟩ := hv
      have ht' : upd H d (.dK (tab dn)) t = some (.tup [.int p.1, .int p.2]) := same_new nd _ _ ht
      walk_at "ev"
      have hz : (tab dn).length < 1000 := by
        have h1 := hL.len
        rw [e, List.length_append] at h1
        rw [tab_len]; omega
      obtain ⟨t1, n1, n2, n3⟩ := tab_put (e ▸ hL.nd)
      refine ⟨_, _, rfl, DPut.k (k := .inl p.1) upd_same (szs (by omega)), ?_⟩
      rw [upd_upd]
      walk_at "ev"
      have hz2 : (putK (tab dn) (Sum.inl p.1 : Key) (.int p.2)).length < 2000 := by
        rw [putK_new _ (tab_no n1), List.length_append]
        show (tab dn).length + 1 < 2000
        omega
      refine ⟨_, _, rfl, DPut.k (k := .inl p.2) upd_same (szs (by omega)), ?_⟩
      rw [upd_upd, t1]
      walk_at "ev"
    · subst e1 e2
      walk_at "ev"
      exact q.mk (Same.refl H) d nd
end
end K8
namespace K8
open PySem PySem.Spec PyProof.Rows L2 Vf
section
variable {P : Program} {w : World} {K : PySem.W.Frag} {mg : Str → Option Value} {base : Heap}
theorem ok__law_layout {f : Addr} {fd : FuncData} (F : Fun K "_law_layout" "_law_layout" s__law_layout f fd) (D__law_ends : Def P w K mg base 1 "_law_ends" ["pieces"] (sp__law_ends K)) (D__law_draw : Def P w K mg base 1 "_law_draw" ["tap", "bound"] (sp__law_draw K)) (D__law_pair : Def P w K mg base 1 "_law_pair" ["one", "other"] (sp__law_pair K)) (m_sorted : mg "sorted" = none) (m_len : mg "len" = none) : FnOk P w K mg base CX0 2 f fd ["tap", "pieces"] (sp__law_layout K) := by
  refine F.ok sc__law_layout (fun vs H Q E h => ?_) (fun cdv A outer s H vs Q E hr h => ?_)
  · obtain ⟨_, _, rfl, _⟩ := h
    rfl
  · have hu := hu_of hr
    obtain ⟨t, n, rfl, hT, n1, n60, q⟩ := h
    refine ⟨_, (pss_cons (ps_par (i := 2) (j := 3) (by rfl) sc__law_layout.nd rfl rfl (by decide) rfl rfl (pa_cons (pe_def D__law_ends (hr.mono (by decide)) (pa_cons (pv 1) pa_nil)) (pa_cons (pe_lst pa_nil) pa_nil)) (by rfl))
        (pss_cons (ps_set (i := 4) sc__law_layout.nd rfl (Or.inl rfl) (pe_ix (ixL (K := K)) (pe_lst (pa_cons pe_int (pa_cons pe_int (pa_cons pe_int (pa_cons pe_int (pa_cons pe_int pa_nil)))))) (pe_def D__law_draw (hr.mono (by decide)) (pa_cons (pv 0) (pa_cons pe_int pa_nil))) (fun _ _ => rfl)))
        (pss_cons (ps_while PassesOwn.never (pt_cmpR op_gt (pe_callB (lenK (K := K)) (by rfl) m_len (by decide +kernel) (pa_cons (pv 2) pa_nil)) pe_int (nomark _)) (pss_cons (ps_set (i := 5) sc__law_layout.nd rfl (Or.inl rfl) (pe_bm PySem.F.plainAttrs_list PySem.F.slot_list_pop PySem.F.type_list_pop mt_popAt (pv 2) (pa_cons (pe_def D__law_draw (hr.mono (by decide)) (pa_cons (pv 0) (pa_cons (pe_callB (lenK (K := K)) (by rfl) m_len (by decide +kernel) (pa_cons (pv 2) pa_nil)) pa_nil))) pa_nil)))
        (pss_cons (ps_set (i := 6) sc__law_layout.nd rfl (Or.inl rfl) (pe_bm PySem.F.plainAttrs_list PySem.F.slot_list_pop PySem.F.type_list_pop mt_popAt (pv 2) (pa_cons (pe_def D__law_draw (hr.mono (by decide)) (pa_cons (pv 0) (pa_cons (pe_callB (lenK (K := K)) (by rfl) m_len (by decide +kernel) (pa_cons (pv 2) pa_nil)) pa_nil))) pa_nil)))
        (pss_one (ps_if (pt_cmpR op_lt (pe_def D__law_draw (hr.mono (by decide)) (pa_cons (pv 0) (pa_cons pe_int pa_nil))) (pv 4) (nomark _)) (pss_one (ps_expr (pe_bm PySem.F.plainAttrs_list PySem.F.slot_list_append PySem.F.type_list_append mt_append (pv 3) (pa_cons (pe_def D__law_pair (hr.mono (by decide)) (pa_cons (pv 5) (pa_cons (pv 6) pa_nil))) pa_nil)))) pss_nil)))))
        (pss_one (ps_ret (pe_callB (sortedK (K := K)) (by rfl) m_sorted (by decide +kernel) (pa_cons (pv 3) pa_nil))))))), ?_⟩
    walk_at "ev"
    refine ⟨n1, n60, fun l H1 s1 nl hl => ?_⟩
    walk_at "ev"
    refine ⟨szl (by show 0 ≤ 100000; decide), fun f nf => ?_⟩
    walk_at "ev"
    refine ⟨szl (by show 5 ≤ 100000; decide), fun d nd => ?_⟩
    obtain ⟨tx, htx⟩ := hT.lst
    have hlt : l ≠ t := fun z => by rw [z, htx] at nl; cases nl
    have nfH : H f = none := s1.free nf
    have hft : f ≠ t := fun z => by rw [z, htx] at nfH; cases nfH
    have hlf : l ≠ f := fun z => by rw [← z, hl] at nf; cases nf
    have sf := same_new (o := .lst []) nf
    have hf0 : upd H1 f (.lst []) f = some (.lst []) := upd_same
    have hl0 := sf _ _ hl
    generalize upd H1 f (.lst []) = H2 at sf hf0 hl0 nd ⊢
    have sd := same_new (o := .lst [.int 0, .int 2, .int 6, .int 7, .int 8]) nd
    have hd0 : upd H2 d (.lst [.int 0, .int 2, .int 6, .int 7, .int 8]) d = some (.lst [.int 0, .int 2, .int 6, .int 7, .int 8]) := upd_same
    have hdt : d ≠ t := fun z => by
      have := (s1.trans sf) _ _ htx
      rw [← z, nd] at this; cases this
    generalize upd H2 d (.lst [.int 0, .int 2, .int 6, .int 7, .int 8]) = H3 at sd hd0 ⊢
    have s3 := (s1.trans sf).trans sd
    walk_at "ev"
    refine ⟨hT.mono s3, by decide, by decide, fun r H4 r0 r1 b4 t4 => ?_⟩
    obtain ⟨pt, hpt, _⟩ := at_int (ns := [0, 2, 6, 7, 8]) r0 r1
    have hd4 : H4 d = some (.lst (([0, 2, 6, 7, 8] : List Int).map V.int)) := (b4 d hdt).trans hd0
    refine r_ixL (sql hd4) hpt ?_
    walk_at "ev"
    have x4 : SameX t H H4 := (SameX.of s3).trans (SameX.ofBut b4)
    have hl4 : H4 l = some (.lst ((endsL n).map V.int)) := (b4 l hlt).trans (sd _ _ hl0)
    have hf4 : H4 f = some (.lst []) := (b4 f hft).trans (sd _ _ hf0)
    refine r_while (fun m σ H' => ∃ lf xs L y1 y2, m = lf.length ∧ σ = [some (.ref t), some (.int n), some (.ref l), some (.ref f), some (.int pt), y1, y2] ∧ SameX t H H' ∧ Tap H' t ∧ H' l = some (.lst (lf.map V.int)) ∧ H' f = some (.lst xs) ∧ Prs H' xs L ∧ Mk n lf L) _ ⟨_, [], [], none, none, rfl, rfl, x4, t4, hl4, hf4, .nil, Mk.start n⟩ ?_
    rintro m σ H5 ⟨lf, xs, L, y1, y2, rfl, rfl, x5, t5, hl5, hf5, hp5, mk5⟩
    have hlen := mk5.len n1 n60
    walk_at "ev"
    refine ite2 (fun c => r_whT ?_) (fun c => ?_)
    · have c1 : (1 : Int) < (lf.map V.int).length := of_decide_eq_true c
      rw [List.length_map] at c1
      walk_at "ev"
      refine ⟨tyL hl5, ?_⟩
      walk_at "ev"
      refine ⟨t5, by rw [List.length_map]; omega, by rw [List.length_map]; omega, fun r H6 r0 r1 b6 t6 => ?_⟩
      rw [List.length_map] at r1
      have hl6 := (b6 l hlt).trans hl5
      obtain ⟨one, ho1, ho2⟩ := get_ints (ns := lf) (k := r.toNat) (by omega)
      walk_at "ev"
      refine r_pop hl6 r0 (by rw [List.length_map]; exact r1) (by omega) ho1 ?_
      rw [map_eraseI]
      walk_at "ev"
      have hl7 : upd H6 l (.lst ((lf.eraseIdx r.toNat).map V.int)) l = some (.lst ((lf.eraseIdx r.toNat).map V.int)) := upd_same
      have b7 : But l H6 (upd H6 l (.lst ((lf.eraseIdx r.toNat).map V.int))) := but_upd
      generalize upd H6 l (.lst ((lf.eraseIdx r.toNat).map V.int)) = H7 at hl7 b7 ⊢
      have t7 : Tap H7 t := by obtain ⟨a, b, c', e, r⟩ := t6; exact ⟨a, b, c', (b7 t hlt.symm).trans e, r⟩
      have x7 : SameX t H H7 := fun b o nb e => by
        rw [b7 b (ne_of_none e nl)]
        exact (x5.trans (SameX.ofBut b6)) b o nb e
      have hf7 : H7 f = some (.lst xs) := (b7 f hlf.symm).trans ((b6 f hft).trans hf5)
      have hp7 : Prs H7 xs L := ((SameX.ofBut b6).prs (t5.lst.choose_spec) (fun _ z => nomatch z) hp5).but b7 hl6 (fun _ z => nomatch z)
      have hlen7 : (lf.eraseIdx r.toNat).length + 1 = lf.length := by rw [List.length_eraseIdx_of_lt (by omega)]; omega
      refine ⟨tyL hl7, ?_⟩
      walk_at "ev"
      refine ⟨t7, by rw [List.length_map]; omega, by rw [List.length_map]; omega, fun q H8 q0 q1 b8 t8 => ?_⟩
      rw [List.length_map] at q1
      have hl8 := (b8 l hlt).trans hl7
      obtain ⟨other, hq1, hq2⟩ := get_ints (ns := lf.eraseIdx r.toNat) (k := q.toNat) (by omega)
      walk_at "ev"
      refine r_pop hl8 q0 (by rw [List.length_map]; exact q1) (by omega) hq1 ?_
      rw [map_eraseI]
      have hl9 : upd H8 l (.lst (((lf.eraseIdx r.toNat).eraseIdx q.toNat).map V.int)) l = some (.lst (((lf.eraseIdx r.toNat).eraseIdx q.toNat).map V.int)) := upd_same
      have b9 : But l H8 (upd H8 l (.lst (((lf.eraseIdx r.toNat).eraseIdx q.toNat).map V.int))) := but_upd
      generalize upd H8 l (.lst (((lf.eraseIdx r.toNat).eraseIdx q.toNat).map V.int)) = H9 at hl9 b9 ⊢
      have t9 : Tap H9 t := by obtain ⟨a, b, c', e, r⟩ := t8; exact ⟨a, b, c', (b9 t hlt.symm).trans e, r⟩
      have x9 : SameX t H H9 := fun b o nb e => by
        rw [b9 b (ne_of_none e nl)]
        exact (x7.trans (SameX.ofBut b8)) b o nb e
      have hf9 : H9 f = some (.lst xs) := (b9 f hlf.symm).trans ((b8 f hft).trans hf7)
      have hp9 : Prs H9 xs L := ((SameX.ofBut b8).prs (t7.lst.choose_spec) (fun _ z => nomatch z) hp7).but b9 hl8 (fun _ z => nomatch z)
      obtain ⟨mk9, mk9'⟩ := mk5.drop ho2 hq2
      have hlt9 : ((lf.eraseIdx r.toNat).eraseIdx q.toNat).length < lf.length := by
        have := List.length_eraseIdx_le (lf.eraseIdx r.toNat) q.toNat
        omega
      walk_at "ev"
      refine ⟨t9, by decide, by decide, fun u Ha u0 u1 ba ta => ?_⟩
      have hla := (ba l hlt).trans hl9
      have hfa := (ba f hft).trans hf9
      have hpa : Prs Ha xs L := (SameX.ofBut ba).prs (t9.lst.choose_spec) (fun _ z => nomatch z) hp9
      have xa := x9.trans (SameX.ofBut ba)
      walk_at "ev"
      refine ite2 (fun _ => ?_) (fun _ => ?_)
      · walk_at "ev"
        refine ⟨tyL hfa, ?_⟩
        walk_at "ev"
        intro p Hb sb np hp
        have hfb := sb _ _ hfa
        have hzb : xs.length < sizeLine := szs (by rw [pair_len hpa]; omega)
        walk_at "ev"
        refine r_app hfb hzb ?_
        refine ⟨_, hlt9, _, _, _, _, _, rfl, rfl, SameX.set (xa.trans (SameX.of sb)) nfH, ?_, (but_upd l hlf).trans (sb _ _ hla), upd_same, ?_, mk9'⟩
        · obtain ⟨a, b, c', e, r⟩ := ta
          exact ⟨a, b, c', (but_upd t hft.symm).trans (sb _ _ e), r⟩
        · exact Prs.but but_upd hfb (fun _ z => nomatch z) (pair_app (hpa.mono sb) (.cons ⟨p, rfl, hp⟩ .nil))
      · walk_at "ev"
        exact ⟨_, hlt9, _, _, _, _, _, rfl, rfl, xa, ta, hla, hfa, hpa, mk9⟩
    · walk_at "ev"
      refine r_sortedP (sql hf5) hp5 (nd_of_flat (List.nodup_append.mp mk5.nd).2.1) fun ys M p pm asc hM np => ?_
      have hpn : H p = none := by
        cases z : H p with
        | none => rfl
        | some o =>
          by_cases zt : p = t
          · subst zt
            obtain ⟨a, b, c', e, r⟩ := t5
            rw [np] at e; cases e
          · rw [x5 p o zt z] at np; cases np
      exact q p _ M ys (mk5.lay n1 n60 pm asc) (x5.trans (SameX.of (same_new np))) (t5.mono (same_new np)) hpn upd_same (hM.mono (same_new np))
end
end K8
namespace K8
open PySem PySem.Spec PyProof.Rows L2 Vf
section
variable {P : Program} {w : World} {K : PySem.W.Frag} {mg : Str → Option Value} {base : Heap}
theorem ok__law_after {f : Addr} {fd : FuncData} (F : Fun K "_law_after" "_law_after" s__law_after f fd) (m_sorted : mg "sorted" = none) : FnOk P w K mg base CX0 1 f fd ["layout", "move"] (sp__law_after K) := by
  refine F.ok sc__law_after (fun vs H Q E h => ?_) (fun cdv A outer s H vs Q E hr h => ?_)
  · obtain ⟨_, _, _, _, _, _, _, rfl, _⟩ := h
    rfl
  · have hu := hu_of hr
    obtain ⟨n, a, v, xs, L, C, J, rfl, hL, ha, hP, ⟨p, a1, a2, x1, x2, rfl, hp, h1, hP1, h2, hP2⟩, hmv, q⟩ := h
    refine ⟨_, (pss_one (ps_ret (pe_callB (sortedK (K := K)) (by rfl) m_sorted (by decide +kernel) (pa_cons (pe_op (catK (K := K)) (pe_lc (own := [("pair", 2)]) rfl sc__law_after.nd (pi_list (pv 0)) (blkOk_by (own := [("pair", 2)]) (N := N__law_after) (sc := defScope s__law_after) (by decide +kernel)) (fun _ _ _ _ _ => (pg_name (i := 2) sc__law_after.nd rfl (Or.inl rfl))) (fun _ _ _ _ _ => pts_one (pt_cmpR (notInPK (K := K) hr.units) (pv 2) (pe_ix (ixT (K := K)) (pv 1) pe_int (fun _ _ => rfl)) rfl)) (fun _ _ _ _ _ => (pv 2))) (pe_ix (ixT (K := K)) (pv 1) pe_int (fun _ _ => rfl))) pa_nil)))), ?_⟩
    have hxl := pair_len hP
    have hl60 := hL.len
    have jl := (mv_flat hL hmv).2.2.2.2.2
    have x2l := pair_len hP2
    have nd := nd_of_flat (mv_nd hL hmv)
    walk_at "ev"
    refine ⟨⟨_, sql ha⟩, fun D nD => ?_⟩
    refine r_lcS (seq_list hP) (fun d H' => Same H H' ∧ ∃ acc, H' D = some (.lst acc) ∧ Prs H acc (d.filter fun p => decide (p ∈ C) != true)) ⟨same_new nD, [], upd_same, .nil⟩ (fun _ _ c => sql (c.1 _ _ ha)) ?_ ?_
    · rintro dn r rr v H1 e hv ⟨s1, acc, hacc, hPa⟩
      have al : acc.length ≤ 60 := by
        have := pair_len hPa
        have h2 := List.length_filter_le (fun p => decide (p ∈ C) != true) dn
        have h3 := congrArg List.length e
        rw [List.length_append] at h3
        have := hL.len
        omega
      walk_at "ev"
      refine r_ixT (sqt (s1 _ _ hp)) rfl ?_
      refine r_inP (hv.mono s1) (s1 _ _ h1) (hP1.mono s1) ?_
      walk_at "ev"
      cases hb : (decide (r ∈ C) != true) with
      | true =>
        walk_at "ev"
        refine ⟨acc, hacc, szs (by omega), Vf.Same.set s1 nD, acc ++ [v], upd_same, ?_⟩
        rw [List.filter_append, List.filter_cons, if_pos hb]
        exact pair_app hPa (.cons hv .nil)
      | false =>
        walk_at "ev"
        refine ⟨s1, acc, hacc, ?_⟩
        rw [List.filter_append, List.filter_cons, if_neg (by simp [hb])]
        simpa using hPa
    · rintro H1 ⟨s1, acc, hacc, hPa⟩
      have al : acc.length ≤ 60 := by
        have := pair_len hPa
        have h2 := List.length_filter_le (fun p => decide (p ∈ C) != true) L
        omega
      walk_at "ev"
      refine r_ixT (sqt (s1 _ _ hp)) rfl ?_
      refine ⟨D, a2, acc, x2, rfl, rfl, sql hacc, sql (s1 _ _ h2), szl (by omega), fun w nw => ?_⟩
      have s2 := same_new (o := .lst (acc ++ x2)) nw
      walk_at "ev"
      refine r_sortedP (sql upd_same) (pair_app ((Prs.mono s1 hPa).mono s2) ((hP2.mono s1).mono s2)) nd fun ys M z pm asc hM nz => ?_
      have s3 := same_new (o := .lst ys) nz
      exact q z _ ys M (mv_lay hL hmv pm asc) pm (s1.trans (s2.trans s3)) (s1.free (s2.free nz)) upd_same (hM.mono s3)
end
end K8
namespace K8
open PySem PySem.Spec PyProof.Rows L2 Vf
section
variable {P : Program} {w : World} {K : PySem.W.Frag} {mg : Str → Option Value} {base : Heap}
theorem ok__law_free {f : Addr} {fd : FuncData} (F : Fun K "_law_free" "_law_free" s__law_free f fd) (D__law_partners : Def P w K mg base 1 "_law_partners" ["layout"] (sp__law_partners K)) (D__law_ends : Def P w K mg base 1 "_law_ends" ["pieces"] (sp__law_ends K)) : FnOk P w K mg base CX0 2 f fd ["pieces", "layout"] (sp__law_free K) := by
  refine F.ok sc__law_free (fun vs H Q E h => ?_) (fun cdv A outer s H vs Q E hr h => ?_)
  · obtain ⟨_, _, _, _, rfl, _⟩ := h
    rfl
  · have hu := hu_of hr
    obtain ⟨n, a, xs, L, rfl, ha, hP, hL, q⟩ := h
    refine ⟨_, (pss_cons (ps_set (i := 2) sc__law_free.nd rfl (Or.inr rfl) (pe_def D__law_partners (hr.mono (by decide)) (pa_cons (pv 1) pa_nil)))
        (pss_one (ps_ret (pe_lc (own := [("end", 3)]) rfl sc__law_free.nd (pi_list (pe_def D__law_ends (hr.mono (by decide)) (pa_cons (pv 0) pa_nil))) (blkOk_by (own := [("end", 3)]) (N := N__law_free) (sc := defScope s__law_free) (by decide +kernel)) (fun _ _ _ _ _ => (pg_name (i := 3) sc__law_free.nd rfl (Or.inl rfl))) (fun _ _ _ _ _ => pts_one (pt_cmp (pc_dnotin hu (pv 3) (pv 2)))) (fun _ _ _ _ _ => (pv 3)))))), ?_⟩
    have hle := endsL_len (n := n) (by have := hL.n1; omega)
    have h60 := hL.n60
    walk_at "ev"
    refine ⟨a, xs, L, n, rfl, sql ha, hP, hL, fun d H1 s1 nd hd => ?_⟩
    walk_at "ev"
    refine ⟨hL.n1, h60, fun e H2 s2 ne he => ?_⟩
    walk_at "ev"
    refine ⟨⟨_, sql he⟩, fun D nD => ?_⟩
    refine r_lcP (seq_list (rel := fun v (i : Int) => v = .int i) (pair_map fun _ _ => rfl)) (fun e => !(parI L e).isSome) V.int (by omega) nD (fun _ s => s.seq (sql he)) ?_ (q.mk (s1.trans s2) D nD)
    intro z v H3 acc _ hv s3 ha3 hz N h1 h2
    subst hv
    walk_at "ev"
    refine ⟨_, _, rfl, DGet.k (k := .inl z) (s3 _ _ (s2 _ _ hd)), ?_⟩
    rw [tab_get, Option.isSome_map]
    walk_at "ev"
    refine ite2 (fun hb => ?_) (fun hb => ?_)
    · walk_at "ev"
      exact ⟨acc, ha3, hz, h1 hb⟩
    · exact h2 (Bool.eq_false_iff.mpr hb)
end
end K8
namespace K8
open PySem PySem.Spec PyProof.Rows L2 Vf
section
variable {P : Program} {w : World} {K : PySem.W.Frag} {mg : Str → Option Value} {base : Heap}
theorem ok__law_any_move {f : Addr} {fd : FuncData} (F : Fun K "_law_any_move" "_law_any_move" s__law_any_move f fd) (D__law_draw : Def P w K mg base 1 "_law_draw" ["tap", "bound"] (sp__law_draw K)) (D__law_free : Def P w K mg base 2 "_law_free" ["pieces", "layout"] (sp__law_free K)) (D__law_pair : Def P w K mg base 1 "_law_pair" ["one", "other"] (sp__law_pair K)) (m_sorted : mg "sorted" = none) (m_len : mg "len" = none) : FnOk P w K mg base CX0 3 f fd ["tap", "pieces", "layout"] (sp__law_any_move K) := by
  refine F.ok sc__law_any_move (fun vs H Q E h => ?_) (fun cdv A outer s H vs Q E hr h => ?_)
  · obtain ⟨_, _, _, _, _, rfl, _⟩ := h
    rfl
  · have hu := hu_of hr
    obtain ⟨t, n, a, xs, L, rfl, hT, ha, hP, hL, q⟩ := h
    refine ⟨_, (pss_cons (ps_par (i := 3) (j := 4) (by rfl) sc__law_any_move.nd rfl rfl (by decide) rfl rfl (pa_cons (pe_def D__law_free (hr.mono (by decide)) (pa_cons (pv 1) (pa_cons (pv 2) pa_nil))) (pa_cons (pe_lst pa_nil) pa_nil)) (by rfl))
        (pss_cons (ps_if (pt_cmpR op_gt (pe_callB (lenK (K := K)) (by rfl) m_len (by decide +kernel) (pa_cons (pv 2) pa_nil)) pe_int (nomark _)) (pss_one (ps_expr (pe_bm PySem.F.plainAttrs_list PySem.F.slot_list_append PySem.F.type_list_append mt_append (pv 4) (pa_cons pe_int pa_nil)))) pss_nil)
        (pss_cons (ps_if (PW.pt (pw_and (pt_cmpR (neNilK (K := K) hr.units0) (pv 2) (pe_lst pa_nil) (nomark _)) (pw_and1 (pt_cmpR (neNilK (K := K) hr.units0) (pv 3) (pe_lst pa_nil) (nomark _))))) (pss_one (ps_expr (pe_bm PySem.F.plainAttrs_list PySem.F.slot_list_append PySem.F.type_list_append mt_append (pv 4) (pa_cons pe_int pa_nil)))) pss_nil)
        (pss_cons (ps_if (pt_cmpR (neNilK (K := K) hr.units0) (pv 2) (pe_lst pa_nil) (nomark _)) (pss_one (ps_expr (pe_bm PySem.F.plainAttrs_list PySem.F.slot_list_append PySem.F.type_list_append mt_append (pv 4) (pa_cons pe_int pa_nil)))) pss_nil)
        (pss_cons (ps_if (pt_cmpR op_gt (pe_callB (lenK (K := K)) (by rfl) m_len (by decide +kernel) (pa_cons (pv 3) pa_nil)) pe_int (nomark _)) (pss_one (ps_expr (pe_bm PySem.F.plainAttrs_list PySem.F.slot_list_append PySem.F.type_list_append mt_append (pv 4) (pa_cons pe_int pa_nil)))) pss_nil)
        (pss_cons (ps_set (i := 5) sc__law_any_move.nd rfl (Or.inl rfl) (pe_ix (ixL (K := K)) (pv 4) (pe_def D__law_draw (hr.mono (by decide)) (pa_cons (pv 0) (pa_cons (pe_callB (lenK (K := K)) (by rfl) m_len (by decide +kernel) (pa_cons (pv 4) pa_nil)) pa_nil))) (fun _ _ => rfl)))
        (pss_cons (ps_if (pt_cmpR op_eq (pv 5) pe_int (nomark _)) (pss_cons (ps_set (i := 6) sc__law_any_move.nd rfl (Or.inl rfl) (pe_bm PySem.F.plainAttrs_list PySem.F.slot_list_pop PySem.F.type_list_pop mt_popAt (pv 3) (pa_cons (pe_def D__law_draw (hr.mono (by decide)) (pa_cons (pv 0) (pa_cons (pe_callB (lenK (K := K)) (by rfl) m_len (by decide +kernel) (pa_cons (pv 3) pa_nil)) pa_nil))) pa_nil)))
        (pss_one (ps_ret (pe_tup (pa_cons (pe_lst pa_nil) (pa_cons (pe_lst (pa_cons (pe_def D__law_pair (hr.mono (by decide)) (pa_cons (pv 6) (pa_cons (pe_ix (ixL (K := K)) (pv 3) (pe_def D__law_draw (hr.mono (by decide)) (pa_cons (pv 0) (pa_cons (pe_callB (lenK (K := K)) (by rfl) m_len (by decide +kernel) (pa_cons (pv 3) pa_nil)) pa_nil))) (fun _ _ => rfl)) pa_nil))) pa_nil)) pa_nil)))))) pss_nil)
        (pss_cons (ps_set (i := 7) sc__law_any_move.nd rfl (Or.inr rfl) (pe_ix (ixL (K := K)) (pv 2) (pe_def D__law_draw (hr.mono (by decide)) (pa_cons (pv 0) (pa_cons (pe_callB (lenK (K := K)) (by rfl) m_len (by decide +kernel) (pa_cons (pv 2) pa_nil)) pa_nil))) (fun _ _ => rfl)))
        (pss_cons (ps_if (pt_cmpR op_eq (pv 5) pe_int (nomark _)) (pss_one (ps_ret (pe_tup (pa_cons (pe_lst (pa_cons (pv 7) pa_nil)) (pa_cons (pe_lst pa_nil) pa_nil))))) pss_nil)
        (pss_cons (ps_if (pt_cmpR op_eq (pv 5) pe_int (nomark _)) (pss_one (ps_ret (pe_tup (pa_cons (pe_lst (pa_cons (pv 7) pa_nil)) (pa_cons (pe_lst (pa_cons (pe_def D__law_pair (hr.mono (by decide)) (pa_cons (pe_ix (ixT (K := K)) (pv 7) (pe_def D__law_draw (hr.mono (by decide)) (pa_cons (pv 0) (pa_cons pe_int pa_nil))) (fun _ _ => rfl)) (pa_cons (pe_ix (ixL (K := K)) (pv 3) (pe_def D__law_draw (hr.mono (by decide)) (pa_cons (pv 0) (pa_cons (pe_callB (lenK (K := K)) (by rfl) m_len (by decide +kernel) (pa_cons (pv 3) pa_nil)) pa_nil))) (fun _ _ => rfl)) pa_nil))) pa_nil)) pa_nil))))) pss_nil)
        (pss_cons (ps_setLc (i := 8) (own := [("other", 9)]) rfl sc__law_any_move.nd rfl rfl (sw_true rfl rfl rfl (by decide +kernel)) (pi_list (pv 2)) (blkOk_by (own := [("other", 9)]) (N := N__law_any_move) (sc := defScope s__law_any_move) (by decide +kernel)) (fun _ _ _ _ _ => (pg_name (i := 9) sc__law_any_move.nd rfl (Or.inl rfl))) (fun _ _ _ _ _ => pts_one (pt_cmpR (neD (K := K) hr.units) (pv 9) (pv 7) (nomark _))) (fun _ _ _ _ _ => (pv 9)))
        (pss_cons (ps_set (i := 9) sc__law_any_move.nd rfl (Or.inl rfl) (pe_ix (ixL (K := K)) (pv 8) (pe_def D__law_draw (hr.mono (by decide)) (pa_cons (pv 0) (pa_cons (pe_callB (lenK (K := K)) (by rfl) m_len (by decide +kernel) (pa_cons (pv 8) pa_nil)) pa_nil))) (fun _ _ => rfl)))
        (pss_cons (ps_set (i := 10) sc__law_any_move.nd rfl (Or.inl rfl) (pe_def D__law_draw (hr.mono (by decide)) (pa_cons (pv 0) (pa_cons pe_int pa_nil))))
        (pss_cons (ps_set (i := 11) sc__law_any_move.nd rfl (Or.inl rfl) (pe_callB (sortedK (K := K)) (by rfl) m_sorted (by decide +kernel) (pa_cons (pe_lst (pa_cons (pe_def D__law_pair (hr.mono (by decide)) (pa_cons (pe_ix (ixT (K := K)) (pv 7) pe_int (fun _ _ => rfl)) (pa_cons (pe_ix (ixT (K := K)) (pv 9) (pv 10) (fun _ _ => rfl)) pa_nil))) (pa_cons (pe_def D__law_pair (hr.mono (by decide)) (pa_cons (pe_ix (ixT (K := K)) (pv 7) pe_int (fun _ _ => rfl)) (pa_cons (pe_ix (ixT (K := K)) (pv 9) (pe_op op_sub pe_int (pv 10)) (fun _ _ => rfl)) pa_nil))) pa_nil))) pa_nil)))
        (pss_one (ps_ret (pe_tup (pa_cons (pe_callB (sortedK (K := K)) (by rfl) m_sorted (by decide +kernel) (pa_cons (pe_lst (pa_cons (pv 7) (pa_cons (pv 9) pa_nil))) pa_nil)) (pa_cons (pv 11) pa_nil))))))))))))))))))), ?_⟩
    have hn1 := hL.n1
    have hn60 := hL.n60
    have hat : a ≠ t := fun z => by
      obtain ⟨x, y, u, e, _⟩ := hT
      rw [← z, ha] at e
      injection e with e1
      injection e1 with e2
      subst e2
      cases hP with
      | cons r _ => obtain ⟨t', z', _⟩ := r; cases z'
    have hxl := pair_len hP
    have hFl := opens_len (L := L) hn1 hn60
    walk_at "ev"
    refine ⟨n, a, xs, L, rfl, ha, hP, hL, fun fr H1 s1 nfr hfr => ?_⟩
    walk_at "evS"
    refine ⟨szl (by show 0 ≤ 100000; decide), fun fo nfo => ?_⟩
    have hfa : fo ≠ a := fun z => by rw [z, s1 _ _ ha] at nfo; cases nfo
    have hff : fo ≠ fr := fun z => by rw [z, hfr] at nfo; cases nfo
    have nfoH := s1.free nfo
    have hft : fo ≠ t := fun z => by obtain ⟨_, _, _, e, _⟩ := hT; rw [← z, nfoH] at e; cases e
    have hrt : fr ≠ t := fun z => by obtain ⟨_, _, _, e, _⟩ := hT; rw [z, e] at nfr; cases nfr
    have sfo := same_new (o := .lst []) nfo
    have hfo0 : upd H1 fo (.lst []) fo = some (.lst (([] : List Int).map V.int)) := upd_same
    generalize upd H1 fo (.lst []) = H2 at sfo hfo0 ⊢
    have app : ∀ {H' : Hp} {fs : List Int} (f : Int), Same H1 H' → H' fo = some (.lst (fs.map V.int)) → Same H1 (upd H' fo (.lst (fs.map V.int ++ [.int f]))) ∧ upd H' fo (.lst (fs.map V.int ++ [.int f])) fo = some (.lst ((fs ++ [f]).map V.int)) := fun {H' fs} f s h => ⟨Vf.Same.set s nfo, by rw [upd_same, List.map_append]; rfl⟩
    walk_at "evS"
    refine r_seqJ (fun σ' H' => ∃ fs : List Int, σ' = [some (.ref t), some (.int n), some (.ref a), some (.ref fr), some (.ref fo), none, none, none, none, none, none, none] ∧ Same H1 H' ∧ H' fo = some (.lst (fs.map V.int)) ∧ (∀ f ∈ fs, okForm n L f) ∧ fs.length ≤ 1) (fun nx' k => ?_) ?_
    · have h0 := (s1.trans sfo) _ _ ha
      walk_at "ev"
      refine ite2 (fun c => ?_) (fun c => ?_)
      · have c' : (1 : Int) < (xs.length : Nat) := of_decide_eq_true c
        walk_at "ev"
        refine ⟨tyL hfo0, ?_⟩
        walk_at "ev"
        refine r_app hfo0 (szs (by show 0 < 100000; decide)) ?_
        obtain ⟨g1, g2⟩ := app 0 sfo hfo0
        exact k _ _ ⟨[0], rfl, g1, g2, fun f hf => by rw [List.mem_singleton.mp hf]; exact .inl ⟨rfl, by omega⟩, by decide⟩
      · walk_at "ev"
        exact k _ _ ⟨[], rfl, sfo, hfo0, fun f hf => (nomatch hf), by decide⟩
    rintro _ H3 ⟨fs, rfl, s3, hfs3, hok3, hl3⟩
    have xne : xs = [] ↔ L = [] := nil_of_prs hP
    refine r_seqJ (fun σ' H' => ∃ fs : List Int, σ' = [some (.ref t), some (.int n), some (.ref a), some (.ref fr), some (.ref fo), none, none, none, none, none, none, none] ∧ Same H1 H' ∧ H' fo = some (.lst (fs.map V.int)) ∧ (∀ f ∈ fs, okForm n L f) ∧ fs.length ≤ 2) (fun nx' k => ?_) ?_
    · have h0 := (s1.trans s3) _ _ ha
      walk_at "ev"
      refine ⟨szl (by show 0 ≤ 100000; decide), fun z nz => ?_⟩
      have sz := same_new (o := .lst []) nz
      have hz : upd H3 z (.lst []) z = some (.lst []) := upd_same
      generalize upd H3 z (.lst []) = H4 at sz hz ⊢
      refine ⟨a, z, xs, rfl, rfl, sql (sz _ _ h0), hz, ?_⟩
      rw [bneT]
      walk_at "ev"
      by_cases c1 : xs = []
      · rw [decide_eq_true c1]
        walk_at "ev"
        exact k _ _ ⟨fs, rfl, s3.trans sz, sz _ _ hfs3, hok3, by omega⟩
      rw [decide_eq_false c1]
      walk_at "ev"
      refine ⟨szl (by show 0 ≤ 100000; decide), fun z2 nz2 => ?_⟩
      have sz2 := sz.trans (same_new (o := .lst []) nz2)
      have hz2 : upd H4 z2 (.lst []) z2 = some (.lst []) := upd_same
      generalize upd H4 z2 (.lst []) = H5 at sz2 hz2 ⊢
      have h35 := s3.trans sz2
      refine ⟨fr, z2, _, rfl, rfl, sql (h35 _ _ hfr), hz2, ?_⟩
      rw [bneT]
      walk_at "ev"
      by_cases c2 : (opensL n L).map V.int = []
      · rw [decide_eq_true c2]
        walk_at "ev"
        exact k _ _ ⟨fs, rfl, h35, sz2 _ _ hfs3, hok3, by omega⟩
      rw [decide_eq_false c2]
      walk_at "ev"
      refine ⟨tyL (sz2 _ _ hfs3), ?_⟩
      walk_at "ev"
      refine r_app (sz2 _ _ hfs3) (szs (by rw [List.length_map]; omega)) ?_
      obtain ⟨g1, g2⟩ := app 1 h35 (sz2 _ _ hfs3)
      refine k _ _ ⟨fs ++ [1], rfl, g1, g2, fun f hf => ?_, by rw [List.length_append]; simp; omega⟩
      rcases List.mem_append.mp hf with hf | hf
      · exact hok3 f hf
      · rw [List.mem_singleton.mp hf]
        exact .inr (.inl ⟨rfl, fun z => c1 (xne.mpr z), fun z => c2 (by rw [z]; rfl)⟩)
    rintro _ H4 ⟨fs, rfl, s4, hfs4, hok4, hl4⟩
    refine r_seqJ (fun σ' H' => ∃ fs : List Int, σ' = [some (.ref t), some (.int n), some (.ref a), some (.ref fr), some (.ref fo), none, none, none, none, none, none, none] ∧ Same H1 H' ∧ H' fo = some (.lst (fs.map V.int)) ∧ (∀ f ∈ fs, okForm n L f) ∧ fs.length ≤ 3 ∧ (L ≠ [] → fs ≠ [])) (fun nx' k => ?_) ?_
    · have h0 := (s1.trans s4) _ _ ha
      walk_at "ev"
      refine ⟨szl (by show 0 ≤ 100000; decide), fun z nz => ?_⟩
      have sz := same_new (o := .lst []) nz
      have hz : upd H4 z (.lst []) z = some (.lst []) := upd_same
      generalize upd H4 z (.lst []) = H5 at sz hz ⊢
      refine ⟨a, z, xs, rfl, rfl, sql (sz _ _ h0), hz, ?_⟩
      rw [bneT]
      walk_at "ev"
      by_cases c1 : xs = []
      · rw [decide_eq_true c1]
        walk_at "ev"
        exact k _ _ ⟨fs, rfl, s4.trans sz, sz _ _ hfs4, hok4, by omega, fun z => absurd (xne.mp c1) z⟩
      rw [decide_eq_false c1]
      walk_at "ev"
      refine ⟨tyL (sz _ _ hfs4), ?_⟩
      walk_at "ev"
      refine r_app (sz _ _ hfs4) (szs (by rw [List.length_map]; omega)) ?_
      obtain ⟨g1, g2⟩ := app 2 (s4.trans sz) (sz _ _ hfs4)
      refine k _ _ ⟨fs ++ [2], rfl, g1, g2, fun f hf => ?_, by rw [List.length_append]; simp; omega, fun _ => by simp⟩
      rcases List.mem_append.mp hf with hf | hf
      · exact hok4 f hf
      · rw [List.mem_singleton.mp hf]
        exact .inr (.inr (.inl ⟨rfl, fun z => c1 (xne.mpr z)⟩))
    rintro _ H5 ⟨fs, rfl, s5, hfs5, hok5, hl5, hne5⟩
    refine r_seqJ (fun σ' H' => ∃ fs : List Int, σ' = [some (.ref t), some (.int n), some (.ref a), some (.ref fr), some (.ref fo), none, none, none, none, none, none, none] ∧ Same H1 H' ∧ H' fo = some (.lst (fs.map V.int)) ∧ (∀ f ∈ fs, okForm n L f) ∧ fs.length ≤ 4 ∧ fs ≠ []) (fun nx' k => ?_) ?_
    · have h0 := s5 _ _ hfr
      walk_at "ev"
      refine ite2 (fun c => ?_) (fun c => ?_)
      · have c' : (1 : Int) < (((opensL n L).map V.int).length : Nat) := of_decide_eq_true c
        rw [List.length_map] at c'
        walk_at "ev"
        refine ⟨tyL hfs5, ?_⟩
        walk_at "ev"
        refine r_app hfs5 (szs (by rw [List.length_map]; omega)) ?_
        obtain ⟨g1, g2⟩ := app 3 s5 hfs5
        refine k _ _ ⟨fs ++ [3], rfl, g1, g2, fun f hf => ?_, by rw [List.length_append]; simp; omega, by simp⟩
        rcases List.mem_append.mp hf with hf | hf
        · exact hok5 f hf
        · rw [List.mem_singleton.mp hf]
          exact .inr (.inr (.inr ⟨rfl, by omega⟩))
      · have c' : ¬ (1 : Int) < (((opensL n L).map V.int).length : Nat) := by simpa using c
        rw [List.length_map] at c'
        walk_at "ev"
        refine k _ _ ⟨fs, rfl, s5, hfs5, hok5, by omega, hne5 fun z => ?_⟩
        subst z
        have := opens_empty hn1
        omega
    rintro _ H6 ⟨fs, rfl, s6, hfs6, hok6, hl6, hne6⟩
    have s06 := s1.trans s6
    have ha6 := s06 _ _ ha
    have hfr6 := s6 _ _ hfr
    have hfp : 0 < fs.length := List.length_pos_iff.mpr hne6
    walk_at "ev"
    refine ⟨hT.mono s06, by rw [List.length_map]; omega, by rw [List.length_map]; omega, fun r H7 r0 r1 b7 t7 => ?_⟩
    rw [List.length_map] at r1
    have hfs7 := (b7 fo hft).trans hfs6
    have ha7 := (b7 a hat).trans ha6
    have hfr7 := (b7 fr hrt).trans hfr6
    obtain ⟨f, hf1, hf2⟩ := at_int (ns := fs) r0 r1
    have hof := hok6 f (List.mem_of_getElem? hf2)
    refine r_ixL (sql hfs7) hf1 ?_
    walk_at "ev"
    have x7 : SameX t H H7 := (SameX.of s06).trans (SameX.ofBut b7)
    have hP7 : Prs H7 xs L := by
      refine pair_mono hP fun v p h => ?_
      obtain ⟨u, rfl, hu⟩ := h
      refine ⟨u, rfl, x7 u _ (fun z => ?_) hu⟩
      obtain ⟨_, _, _, e, _⟩ := hT
      rw [z, e] at hu
      cases hu
    have nt : ∀ {H' : Hp} {p : Addr}, Tap H' t → H' p = none → p ∉ [t] := fun {H' p} h np z => by
      obtain ⟨_, _, _, e, _⟩ := h
      rw [List.mem_singleton.mp z, e] at np
      cases np
    have tne : ∀ {H' : Hp} {p : Addr}, Tap H' t → H' p = none → p ≠ t := fun {H' p} h np z => nt h np (List.mem_singleton.mpr z)
    by_cases f3 : f = 3
    · refine ifD f3 ?_
      have hF1 : 1 < (opensL n L).length := by rcases hof with h | h | h | h <;> omega
      have hFd := opens_nd n L
      generalize hF : opensL n L = F at hfr7 hF1 hFd hFl
      walk_at "ev"
      refine ⟨tyL hfr7, ?_⟩
      walk_at "ev"
      refine ⟨t7, by rw [List.length_map]; omega, by rw [List.length_map]; omega, fun r2 H8 r20 r21 b8 t8 => ?_⟩
      rw [List.length_map] at r21
      have hfr8 := (b8 fr hrt).trans hfr7
      obtain ⟨one, ho1, ho2⟩ := get_ints (ns := F) (k := r2.toNat) (by omega)
      walk_at "ev"
      refine r_pop hfr8 r20 (by rw [List.length_map]; exact r21) (by omega) ho1 ?_
      rw [map_eraseI]
      have b9 : But fr H8 (upd H8 fr (.lst ((F.eraseIdx r2.toNat).map V.int))) := but_upd
      have hfr9 : upd H8 fr (.lst ((F.eraseIdx r2.toNat).map V.int)) fr = some (.lst ((F.eraseIdx r2.toNat).map V.int)) := upd_same
      have t9 : Tap (upd H8 fr (.lst ((F.eraseIdx r2.toNat).map V.int))) t := by obtain ⟨a, b, c', e, r⟩ := t8; exact ⟨a, b, c', (b9 t hrt.symm).trans e, r⟩
      have x9 : SameX t H (upd H8 fr (.lst ((F.eraseIdx r2.toNat).map V.int))) := fun b o nb e => by
        rw [b9 b (ne_of_none e nfr)]
        exact (x7.trans (SameX.ofBut b8)) b o nb e
      generalize upd H8 fr (.lst ((F.eraseIdx r2.toNat).map V.int)) = H9 at b9 hfr9 t9 x9 ⊢
      have hl9 : (F.eraseIdx r2.toNat).length + 1 = F.length := by rw [List.length_eraseIdx_of_lt (by omega)]; omega
      walk_at "ev"
      refine ⟨szl (by show 0 ≤ 100000; decide), fun e ne => ?_⟩
      have net := tne t9 ne
      have se := same_new (o := .lst []) ne
      have he : upd H9 e (.lst []) e = some (.lst []) := upd_same
      generalize upd H9 e (.lst []) = Ha at se he ⊢
      have hfra := se _ _ hfr9
      walk_at "ev"
      refine ⟨t9.mono se, by rw [List.length_map]; omega, by rw [List.length_map]; omega, fun r3 Hb r30 r31 bb tb => ?_⟩
      rw [List.length_map] at r31
      have hfrb := (bb fr hrt).trans hfra
      have heb := (bb e net).trans he
      obtain ⟨other, hp1, hp2⟩ := at_int (ns := F.eraseIdx r2.toNat) r30 r31
      refine r_ixL (sql hfrb) hp1 ?_
      walk_at "ev"
      intro u Hc sc nu hu
      walk_at "ev"
      refine ⟨szl (by show 1 ≤ 100000; decide), fun l nl => ?_⟩
      have sl := same_new (o := .lst [.ref u]) nl
      have hl : upd Hc l (.lst [.ref u]) l = some (.lst [.ref u]) := upd_same
      have tc := tb.mono sc
      have nlt := nt tc nl
      have nut := nt tb nu
      generalize upd Hc l (.lst [.ref u]) = Hd at sl hl ⊢
      walk_at "ev"
      refine ⟨szl (by show 2 ≤ 100000; decide), fun p np => ?_⟩
      have sp := same_new (o := .tup [.ref e, .ref l]) np
      have td := tc.mono sl
      have m1 : one ∈ opensL n L := hF ▸ List.mem_of_getElem? ho2
      have m2 : other ∈ opensL n L := hF ▸ List.mem_of_mem_eraseIdx (List.mem_of_getElem? hp2)
      have ne12 : one ≠ other := nodup_erase_ne hFd ho2 hp2
      have nlt' := nt td np
      have scp := sc.trans (sl.trans sp)
      refine q _ _ [] [prI one other] (mv_join hL m1 m2 ne12) (((x9.trans (SameX.of se)).trans (SameX.ofBut bb)).trans (SameX.of scp)) (tb.mono scp)
        ⟨p, e, l, [], [.ref u], rfl, hid_get upd_same nlt', hid_get (scp _ _ heb) (fun z => net (List.mem_singleton.mp z)), .nil, hid_get (sp _ _ hl) nlt, .cons ⟨u, rfl, hid_get (sp _ _ (sl _ _ hu)) nut⟩ .nil⟩
    refine ifDn f3 ?_
    have hL1 : 0 < L.length := by
      rcases hof with h | h | h | h
      · omega
      · exact List.length_pos_iff.mpr h.2.1
      · exact List.length_pos_iff.mpr h.2
      · exact absurd h.1 f3
    have hl60 := hL.len
    walk_at "ev"
    refine ⟨t7, by omega, by omega, fun r2 H8 r20 r21 b8 t8 => ?_⟩
    have ha8 := (b8 a hat).trans ha7
    have hfr8 := (b8 fr hrt).trans hfr7
    have x8 := x7.trans (SameX.ofBut b8)
    have hP8 : Prs H8 xs L := by
      refine pair_mono hP fun v p h => ?_
      obtain ⟨u, rfl, hu⟩ := h
      refine ⟨u, rfl, x8 u _ (fun z => ?_) hu⟩
      obtain ⟨_, _, _, e, _⟩ := hT
      rw [z, e] at hu
      cases hu
    obtain ⟨x0, hx0⟩ : ∃ x0, xs[r2.toNat]? = some x0 := ⟨_, List.getElem?_eq_getElem (by omega)⟩
    obtain ⟨p0, hp0, u0, rfl, hu0⟩ := pair_get hP8 hx0
    have hm0 := List.mem_of_getElem? hp0
    have c0 := hL.cp p0 hm0
    refine r_ixL (sql ha8) (at_of (j := r2.toNat) (by omega) hx0) ?_
    have hu0t : u0 ∉ [t] := fun z => by
      obtain ⟨_, _, _, e, _⟩ := t8
      rw [List.mem_singleton.mp z, e] at hu0
      cases hu0
    walk_at "ev"
    by_cases f2 : f = 2
    · refine ifD f2 ?_
      walk_at "ev"
      refine ⟨szl (by show 1 ≤ 100000; decide), fun l nl => ?_⟩
      have sl := same_new (o := .lst [.ref u0]) nl
      have hl : upd H8 l (.lst [.ref u0]) l = some (.lst [.ref u0]) := upd_same
      have nlt := nt t8 nl
      generalize upd H8 l (.lst [.ref u0]) = H9 at sl hl ⊢
      walk_at "ev"
      refine ⟨szl (by show 0 ≤ 100000; decide), fun e ne => ?_⟩
      have se := same_new (o := .lst []) ne
      have he : upd H9 e (.lst []) e = some (.lst []) := upd_same
      have t9 := t8.mono sl
      have net := nt t9 ne
      generalize upd H9 e (.lst []) = Ha at se he ⊢
      walk_at "ev"
      refine ⟨szl (by show 2 ≤ 100000; decide), fun p np => ?_⟩
      have sp := same_new (o := .tup [.ref l, .ref e]) np
      have ta := t9.mono se
      have npt := nt ta np
      have s8p := sl.trans (se.trans sp)
      exact q _ _ [p0] [] (mv_cut hL hm0) (x8.trans (SameX.of s8p)) (t8.mono s8p)
        ⟨p, l, e, [.ref u0], [], rfl, hid_get upd_same npt, hid_get (sp _ _ (se _ _ hl)) nlt, .cons ⟨u0, rfl, hid_get (s8p _ _ hu0) hu0t⟩ .nil, hid_get (sp _ _ he) net, .nil⟩
    refine ifDn f2 ?_
    walk_at "ev"
    by_cases f1 : f = 1
    · refine ifD f1 ?_
      have hF0 : 0 < (opensL n L).length := by
        rcases hof with h | h | h | h
        · omega
        · exact List.length_pos_iff.mpr h.2.2
        · omega
        · omega
      generalize hF : opensL n L = F at hfr8 hF0 hFl
      walk_at "ev"
      refine ⟨szl (by show 1 ≤ 100000; decide), fun l nl => ?_⟩
      have sl := same_new (o := .lst [.ref u0]) nl
      have hl : upd H8 l (.lst [.ref u0]) l = some (.lst [.ref u0]) := upd_same
      have nlt := nt t8 nl
      generalize upd H8 l (.lst [.ref u0]) = H9 at sl hl ⊢
      have hfr9 := sl _ _ hfr8
      have hu09 := sl _ _ hu0
      walk_at "ev"
      refine ⟨t8.mono sl, by decide, by decide, fun r3 Ha r30 r31 ba ta => ?_⟩
      have hu0a := (ba u0 (fun z => hu0t (List.mem_singleton.mpr z))).trans hu09
      have hfra := (ba fr hrt).trans hfr9
      have hla := (ba l (fun z => nlt (List.mem_singleton.mpr z))).trans hl
      obtain ⟨e, he1, he2⟩ := at_int (ns := [p0.1, p0.2]) (r := r3) r30 r31
      have hee : e = p0.1 ∨ e = p0.2 := by simpa using List.mem_of_getElem? he2
      refine r_ixT (sqt hu0a) he1 ?_
      walk_at "ev"
      refine ⟨ta, by rw [List.length_map]; omega, by rw [List.length_map]; omega, fun r4 Hb r40 r41 bb tb => ?_⟩
      rw [List.length_map] at r41
      have hfrb := (bb fr hrt).trans hfra
      have hlb := (bb l (fun z => nlt (List.mem_singleton.mpr z))).trans hla
      have hu0b := (bb u0 (fun z => hu0t (List.mem_singleton.mpr z))).trans hu0a
      obtain ⟨g, hg1, hg2⟩ := at_int (ns := F) r40 r41
      refine r_ixL (sql hfrb) hg1 ?_
      walk_at "ev"
      intro u Hc sc nu hu
      walk_at "ev"
      refine ⟨szl (by show 1 ≤ 100000; decide), fun l2 nl2 => ?_⟩
      have sl2 := same_new (o := .lst [.ref u]) nl2
      have hl2 : upd Hc l2 (.lst [.ref u]) l2 = some (.lst [.ref u]) := upd_same
      have tc := tb.mono sc
      have nl2t := nt tc nl2
      have nut := nt tb nu
      generalize upd Hc l2 (.lst [.ref u]) = Hd at sl2 hl2 ⊢
      walk_at "ev"
      refine ⟨szl (by show 2 ≤ 100000; decide), fun p np => ?_⟩
      have sp := same_new (o := .tup [.ref l, .ref l2]) np
      have td := tc.mono sl2
      have npt := nt td np
      have scp := sc.trans (sl2.trans sp)
      have mg : g ∈ opensL n L := hF ▸ List.mem_of_getElem? hg2
      exact q _ _ [p0] [prI e g] (mv_move hL hm0 hee mg) ((((x8.trans (SameX.of sl)).trans (SameX.ofBut ba)).trans (SameX.ofBut bb)).trans (SameX.of scp)) (tb.mono scp)
        ⟨p, l, l2, [.ref u0], [.ref u], rfl, hid_get upd_same npt, hid_get (scp _ _ hlb) nlt, .cons ⟨u0, rfl, hid_get (scp _ _ hu0b) hu0t⟩ .nil, hid_get (sp _ _ hl2) nl2t, .cons ⟨u, rfl, hid_get (sp _ _ (sl2 _ _ hu)) nut⟩ .nil⟩
    refine ifDn f1 ?_
    have hL2 : 1 < L.length := by rcases hof with h | h | h | h <;> omega
    walk_at "ev"
    refine ⟨⟨_, sql ha8⟩, fun D nD => ?_⟩
    have hpr0 : Pr H8 (.ref u0) p0 := ⟨u0, rfl, hu0⟩
    refine r_lcP (seq_list (pair_id xs)) (fun x => decide (keyP H8 x ≠ p0)) id (by omega) nD (fun _ s => s.seq (sql ha8)) ?_ ?_
    · intro x v H9 acc hx hv s9 ha9 hz N h1 h2
      subst hv
      obtain ⟨p, hp, hpr⟩ := hP8.mem hx
      have hk := keyP_of hpr
      walk_at "ev"
      refine r_nePr (hpr.mono s9) (hpr0.mono s9) ?_
      walk_at "ev"
      by_cases hm : p = p0
      · rw [decide_eq_true hm]
        walk_at "ev"
        exact h2 (by rw [hk]; simpa using hm)
      · rw [decide_eq_false hm]
        walk_at "ev"
        exact ⟨acc, ha9, hz, h1 (by rw [hk]; simpa using hm)⟩
    rw [List.map_id]
    have hfil := key_filter hP8 (fun p => decide (p ≠ p0))
    generalize xs.filter (fun x => decide (keyP H8 x ≠ p0)) = ys at hfil ⊢
    have hyl := pair_len hfil
    have hpos := other_ne (p := p0) (nd_of_flat hL.nd) hL2
    have hyz : ys.length ≤ 60 := by rw [hyl]; exact Nat.le_trans (List.length_filter_le _ _) hl60
    have sD := same_new (o := .lst ys) nD
    have hD : upd H8 D (.lst ys) D = some (.lst ys) := upd_same
    have nDt := tne t8 nD
    generalize upd H8 D (.lst ys) = H9 at sD hD ⊢
    walk_at "ev"
    refine ⟨t8.mono sD, by omega, by omega, fun r3 Ha r30 r31 ba ta => ?_⟩
    have hDa := (ba D nDt).trans hD
    have hu0a := (ba u0 (fun z => hu0t (List.mem_singleton.mpr z))).trans (sD _ _ hu0)
    have xa := (x8.trans (SameX.of sD)).trans (SameX.ofBut ba)
    obtain ⟨x1, hx1⟩ : ∃ x1, ys[r3.toNat]? = some x1 := ⟨_, List.getElem?_eq_getElem (by omega)⟩
    obtain ⟨p1, hp1, u1, rfl, hu1⟩ := pair_get hfil hx1
    obtain ⟨hm1, hne1⟩ := List.mem_filter.mp (List.mem_of_getElem? hp1)
    have hne1 : p1 ≠ p0 := of_decide_eq_true hne1
    have hu1t : u1 ≠ t := fun z => by
      obtain ⟨_, _, _, e, _⟩ := t8
      rw [z, e] at hu1
      cases hu1
    have hu1a := (ba u1 hu1t).trans (sD _ _ hu1)
    refine r_ixL (sql hDa) (at_of (j := r3.toNat) (by omega) hx1) ?_
    walk_at "ev"
    refine ⟨ta, by decide, by decide, fun r4 Hb r40 r41 bb tb => ?_⟩
    have hu0b := (bb u0 (fun z => hu0t (List.mem_singleton.mpr z))).trans hu0a
    have hu1b := (bb u1 hu1t).trans hu1a
    have xb := xa.trans (SameX.ofBut bb)
    obtain ⟨x, hx1, hx2⟩ := at_int (ns := [p1.1, p1.2]) (r := r4) r40 r41
    obtain ⟨y, hy1, hy2⟩ := at_int (ns := [p1.1, p1.2]) (r := 1 - r4) (by omega) (by simp; omega)
    have hxy : (x = p1.1 ∧ y = p1.2) ∨ (x = p1.2 ∧ y = p1.1) := by
      have : r4 = 0 ∨ r4 = 1 := by omega
      rcases this with rfl | rfl
      · left; exact ⟨(Option.some.inj hx2).symm, (Option.some.inj hy2).symm⟩
      · right; exact ⟨(Option.some.inj hx2).symm, (Option.some.inj hy2).symm⟩
    walk_at "ev"
    refine r_ixT (sqt hu1b) hx1 ?_
    walk_at "ev"
    intro u2 Hc sc nu2 hu2
    walk_at "ev"
    refine r_ixT (sqt (sc _ _ hu0b)) rfl ?_
    walk_at "ev"
    refine r_ixT (sqt (sc _ _ hu1b)) hy1 ?_
    walk_at "ev"
    intro u3 Hd sd nu3 hu3
    walk_at "ev"
    refine ⟨szl (by show 2 ≤ 100000; decide), fun l nl => ?_⟩
    have sl := same_new (o := .lst [.ref u2, .ref u3]) nl
    have hl : upd Hd l (.lst [.ref u2, .ref u3]) l = some (.lst [.ref u2, .ref u3]) := upd_same
    have tc := tb.mono sc
    have td := tc.mono sd
    have nu2t := nt tb nu2
    have nu3t := nt tc nu3
    generalize upd Hd l (.lst [.ref u2, .ref u3]) = He at sl hl ⊢
    have te := td.mono sl
    have n4 := nd_two hL hm0 hm1 (Ne.symm hne1)
    have hq2 : Prs He [.ref u2, .ref u3] [prI p0.1 x, prI p0.2 y] := .cons ⟨u2, rfl, sl _ _ (sd _ _ hu2)⟩ (.cons ⟨u3, rfl, sl _ _ hu3⟩ .nil)
    have ndJ : [prI p0.1 x, prI p0.2 y].Nodup := by
      have cp := hL.cp p0 hm0
      have co := hL.cp p1 hm1
      have e1 := prI_two (a := p0.1) (b := x) (by rcases hxy with h | h <;> omega)
      have e2 := prI_two (a := p0.2) (b := y) (by rcases hxy with h | h <;> omega)
      rw [List.nodup_cons]
      refine ⟨fun z => ?_, by simp⟩
      have h := List.mem_singleton.mp z
      rcases e1 with ⟨z1, k1⟩ | ⟨z1, k1⟩ <;> rcases e2 with ⟨z2, k2⟩ | ⟨z2, k2⟩ <;> (rw [z1, z2] at h; have w1 := congrArg Prod.fst h; have w2 := congrArg Prod.snd h; simp only at w1 w2; rcases hxy with g | g <;> omega)
    walk_at "ev"
    refine r_sortedP (sql hl) hq2 ndJ fun ys2 J m pmJ ascJ hMJ nm => ?_
    have sm := same_new (o := .lst ys2) nm
    have hm : upd He m (.lst ys2) m = some (.lst ys2) := upd_same
    have nmt := nt te nm
    generalize upd He m (.lst ys2) = Hf at sm hm ⊢
    have tf := te.mono sm
    walk_at "ev"
    refine ⟨szl (by show 2 ≤ 100000; decide), fun l2 nl2 => ?_⟩
    have sl2 := same_new (o := .lst [.ref u0, .ref u1]) nl2
    have hl2 : upd Hf l2 (.lst [.ref u0, .ref u1]) l2 = some (.lst [.ref u0, .ref u1]) := upd_same
    generalize upd Hf l2 (.lst [.ref u0, .ref u1]) = Hg at sl2 hl2 ⊢
    have tg := tf.mono sl2
    have sbg := sc.trans (sd.trans (sl.trans (sm.trans sl2)))
    have hq3 : Prs Hg [.ref u0, .ref u1] [p0, p1] := .cons ⟨u0, rfl, sbg _ _ hu0b⟩ (.cons ⟨u1, rfl, sbg _ _ hu1b⟩ .nil)
    walk_at "ev"
    refine r_sortedP (sql hl2) hq3 (by rw [List.nodup_cons]; exact ⟨fun z => hne1 (List.mem_singleton.mp z).symm, by simp⟩) fun ys3 C m2 pmC ascC hMC nm2 => ?_
    have sm2 := same_new (o := .lst ys3) nm2
    have hm2 : upd Hg m2 (.lst ys3) m2 = some (.lst ys3) := upd_same
    have nm2t := nt tg nm2
    generalize upd Hg m2 (.lst ys3) = Hh at sm2 hm2 ⊢
    have th := tg.mono sm2
    walk_at "ev"
    refine ⟨szl (by show 2 ≤ 100000; decide), fun p np => ?_⟩
    have sp := same_new (o := .tup [.ref m2, .ref m]) np
    have npt := nt th np
    have shid : ∀ {H' : Hp} {zs : List V} {M : List (Int × Int)}, Tap H' t → Prs H' zs M → Prs (Hid [t] H') zs M := fun {H' zs M} tt h => pair_mono h fun v p h => by
      obtain ⟨u, rfl, hu⟩ := h
      refine ⟨u, rfl, hid_get hu fun z => ?_⟩
      obtain ⟨_, _, _, e, _⟩ := tt
      rw [List.mem_singleton.mp z, e] at hu
      cases hu
    have sep := sm.trans (sl2.trans (sm2.trans sp))
    have sgp := sm2.trans sp
    have tp := th.mono sp
    exact q _ _ C J (mv_swap hL hm0 hm1 (Ne.symm hne1) hxy pmC pmJ ascC ascJ) (xb.trans (SameX.of (sbg.trans sgp))) tp
      ⟨p, m2, m, ys3, ys2, rfl, hid_get upd_same npt, hid_get (sp _ _ hm2) nm2t, shid tp (hMC.mono sgp), hid_get (sp _ _ (sm2 _ _ (sl2 _ _ hm))) nmt, shid tp (hMJ.mono sep)⟩
end
end K8
namespace K8
open PySem PySem.Spec PyProof.Rows L2 Vf
section
variable {P : Program} {w : World} {K : PySem.W.Frag} {mg : Str → Option Value} {base : Heap}
theorem ok__law_groups {f : Addr} {fd : FuncData} (F : Fun K "_law_groups" "_law_groups" s__law_groups f fd) (D__law_partners : Def P w K mg base 1 "_law_partners" ["layout"] (sp__law_partners K)) (m_list : mg "list" = none) (m_sorted : mg "sorted" = none) (m_range : mg "range" = none) (m_len : mg "len" = none) (m_int : mg "int" = none) (m_abs : mg "abs" = none) : FnOk P w K mg base CX0 2 f fd ["pieces", "layout"] (sp__law_groups K) := by
  refine F.ok sc__law_groups (fun vs H Q E h => ?_) (fun cdv A outer s H vs Q E hr h => ?_)
  · obtain ⟨_, _, _, _, _, _, rfl, _⟩ := h
    rfl
  · have hu := hu_of hr
    obtain ⟨n, a, xs, L, T, Gs, rfl, ha, hP, hL, hA, q⟩ := h
    refine ⟨_, (pss_cons (ps_par3 (i := 2) (j := 3) (l := 4) (by rfl) sc__law_groups.nd rfl rfl rfl (by decide) (by decide) (by decide) rfl rfl rfl (pa_cons (pe_def D__law_partners (hr.mono (by decide)) (pa_cons (pv 1) pa_nil)) (pa_cons (pe_listRg rfl (by rfl) m_list (prg_2 (by rfl) m_range pe_int (pe_op op_add (pv 0) pe_int))) (pa_cons (pe_lst (pa_cons (pe_lst pa_nil) (pa_cons (pe_lst pa_nil) pa_nil))) pa_nil))) (by rfl))
        (pss_cons (ps_while PassesOwn.never (pt_cmpR (neNilK (K := K) hr.units0) (pv 3) (pe_lst pa_nil) (nomark _)) (pss_cons (ps_asg (pe_tup (pa_cons (pe_lst (pa_cons (pe_ix (ixL (K := K)) (pv 3) pe_int (fun _ _ => rfl)) pa_nil)) (pa_cons pe_bl pa_nil))) (pg_tup rfl (pgs_cons (pg_name (i := 5) sc__law_groups.nd rfl (Or.inr rfl)) (pgs_cons (pg_name (i := 6) sc__law_groups.nd rfl (Or.inl rfl)) pgs_nil))))
        (pss_cons (ps_set (i := 7) sc__law_groups.nd rfl (Or.inl rfl) pe_int)
        (pss_cons (ps_while PassesOwn.never (pt_cmpR op_lt (pv 7) (pe_callB (lenK (K := K)) (by rfl) m_len (by decide +kernel) (pa_cons (pv 5) pa_nil)) (nomark _)) (pss_cons (ps_for PassesOwn.never rfl (pi_list (pe_lst (pa_cons (pe_ix (ixL (K := K)) (pv 5) (pv 7) (fun _ _ => rfl)) (pa_cons (pe_op op_sub pe_int (pe_ix (ixL (K := K)) (pv 5) (pv 7) (fun _ _ => rfl))) pa_nil)))) (pg_name (i := 8) sc__law_groups.nd rfl (Or.inl rfl))
          (pss_one (ps_if (pt_cmp (pc_dnotin hu (pv 8) (pv 2))) (pss_one (ps_set (i := 6) sc__law_groups.nd rfl (Or.inl rfl) pe_bl)) (pss_one (ps_if (pt_cmpR (notInSeqK (K := K)) (pe_callB call_abs (by rfl) m_abs (by decide +kernel) (pa_cons (pe_dget hu (pv 2) (pv 8) (fun _ _ => rfl)) pa_nil)) (pv 5) rfl) (pss_one (ps_expr (pe_bm PySem.F.plainAttrs_list PySem.F.slot_list_append PySem.F.type_list_append mt_append (pv 5) (pa_cons (pe_callB call_abs (by rfl) m_abs (by decide +kernel) (pa_cons (pe_dget hu (pv 2) (pv 8) (fun _ _ => rfl)) pa_nil)) pa_nil)))) pss_nil)))))
        (pss_one (ps_set (i := 7) sc__law_groups.nd rfl (Or.inl rfl) (pe_op op_add (pv 7) pe_int)))))
        (pss_cons (ps_setLc (i := 3) (own := [("piece", 10)]) rfl sc__law_groups.nd rfl rfl (sw_true rfl rfl rfl (by decide +kernel)) (pi_list (pv 3)) (blkOk_by (own := [("piece", 10)]) (N := N__law_groups) (sc := defScope s__law_groups) (by decide +kernel)) (fun _ _ _ _ _ => (pg_name (i := 10) sc__law_groups.nd rfl (Or.inl rfl))) (fun _ _ _ _ _ => pts_one (pt_cmpR (notInSeqK (K := K)) (pv 10) (pv 5) rfl)) (fun _ _ _ _ _ => (pv 10)))
        (pss_cons (ps_set (i := 9) sc__law_groups.nd rfl (Or.inl rfl) (pe_ix (ixL (K := K)) (pv 4) (pe_callTy call_int1 (by rfl) m_int (by decide +kernel) (pa_cons (pe_not (pv 6)) pa_nil)) (fun _ _ => rfl)))
        (pss_one (ps_expr (pe_bm PySem.F.plainAttrs_list PySem.F.slot_list_append PySem.F.type_list_append mt_append (pv 9) (pa_cons (pe_callB (sortIK (K := K)) (by rfl) m_sorted (by decide +kernel) (pa_cons (pv 5) pa_nil)) pa_nil))))))))))
        (pss_one (ps_ret (pe_lst (pa_cons (pe_callB (srtDK (K := K) hr.units) (by rfl) m_sorted (by decide +kernel) (pa_cons (pe_ix (ixL (K := K)) (pv 4) pe_int (fun _ _ => rfl)) pa_nil)) (pa_cons (pe_callB (srtDK (K := K) hr.units) (by rfl) m_sorted (by decide +kernel) (pa_cons (pe_ix (ixL (K := K)) (pv 4) pe_int (fun _ _ => rfl)) pa_nil)) pa_nil))))))), ?_⟩
    have n1 := hL.n1
    have n60 := hL.n60
    obtain ⟨few1, few2⟩ := hA.few hL
    have grp := hA.grps hL
    walk_at "ev"
    refine ⟨a, xs, L, n, rfl, sql ha, hP, hL, fun k H1 s1 nk hk => ?_⟩
    walk_at "ev"
    refine ⟨_, _, rfl, rfl, RgOk.of_le (by decide) (by omega) (by decide) (by omega), ?_⟩
    walk_at "nw0"; rename_i l nl H2 s2 hl
    rw [show n + 1 - 1 = n by omega] at hl
    walk_at "ev"; walk_at "nw"; rename_i c nc H3 s3 hc
    walk_at "ev"; walk_at "nw"; rename_i d nd H4 s4 hd
    walk_at "ev"; walk_at "nw"; rename_i F nF H5 s5 hF
    have s15 := s2.trans (s3.trans (s4.trans s5))
    have ncH : H1 c = none := s2.free nc
    have ndH : H1 d = none := s2.free (s3.free nd)
    have nFH : H1 F = none := s2.free (s3.free (s4.free nF))
    have cd : c ≠ d := ne_of_none hc nd
    have cF : c ≠ F := ne_of_none (s4 _ _ hc) nF
    have dF : d ≠ F := ne_of_none hd nF
    have lc : l ≠ c := ne_of_none hl nc
    have ld : l ≠ d := ne_of_none (s3 _ _ hl) nd
    have lF : l ≠ F := ne_of_none (s4 _ _ (s3 _ _ hl)) nF
    refine ⟨_, _, _, rfl, ?_⟩
    refine Vf.r_seq ?_
    refine r_while (fun m σ' H' => ∃ D Rl ls xs ys l y5 y6 y7 y8 y9, m = Rl.length ∧ σ' = [some (.int n), some (.ref a), some (.ref k), some (.ref l), some (.ref F), y5, y6, y7, y8, y9, none] ∧ Same H1 H' ∧ H' l = some (.lst (ls.map V.int)) ∧ l ≠ c ∧ l ≠ d ∧ H' F = some (.lst [.ref c, .ref d]) ∧ H' c = some (.lst xs) ∧ ILs (Hid [c, d] H') xs ((D.filter (·.2)).map fun g => mS g.1) ∧ H' d = some (.lst ys) ∧ ILs (Hid [c, d] H') ys ((D.filter fun g => !g.2).map fun g => mS g.1) ∧ (D ++ Rl).Perm (flags T Gs) ∧ (∀ z, z ∈ ls ↔ ∃ g ∈ Rl, z ∈ g.1) ∧ ls.length ≤ 60)
      (flags T Gs).length ⟨[], flags T Gs, rng 1 n.toNat, [], [], l, _, _, _, _, _, rfl, rfl, s15, s5 _ _ (s4 _ _ (s3 _ _ hl)), lc, ld, hF, s5 _ _ (s4 _ _ hc), .nil, s5 _ _ hd, .nil, .refl _, fun z => by rw [flags_cover hA (.refl _), mem_rng]; omega, by rw [rng_len]; omega⟩ ?_
    rintro m σ' H6 ⟨D, Rl, ls, xs6, ys6, l6, y5, y6, y7, y8, y9, rfl, rfl, s6, hl6, lc6, ld6, hF6, hc6, hx6, hd6, hy6, pm6, cov6, lsl⟩
    walk_at "ev"; walk_at "nw"; rename_i z0 nz0 H7 s7 hz0
    refine ⟨l6, z0, ls.map V.int, rfl, rfl, sql (s7 _ _ hl6), hz0, ?_⟩
    rw [bneT]
    have s17 := s6.trans s7
    have hx7 := ils_hid s7 hx6
    have hy7 := ils_hid s7 hy6
    walk_at "ev"
    have plen := pm6.length_eq
    rw [List.length_append] at plen
    by_cases cl : ls = []
    · subst cl
      rw [decide_eq_true (by rfl)]
      have eR : Rl = [] := by
        match Rl, cov6, pm6 with
        | [], _, _ => rfl
        | g :: r, cov, pm =>
          exfalso
          have gg := grp g (pm.mem_iff.mp (by simp))
          match h : g.1, gg.ne with
          | z :: t, _ => exact absurd ((cov z).mpr ⟨g, by simp, by rw [h]; simp⟩) (by simp)
      subst eR
      rw [List.append_nil] at pm6
      obtain ⟨er, eg⟩ := flags_rows pm6
      have hF7 := s7 _ _ hF6
      have hc7 := s7 _ _ hc6
      have hd7 := s7 _ _ hd6
      have xl := pair_len hx7
      have yl := pair_len hy7
      have f1 := List.length_filter_le (·.2) D
      have f2 := List.length_filter_le (fun g : List Int × Bool => !g.2) D
      rw [List.length_map] at xl yl
      walk_at "ev"
      refine r_sortR (sql hc7) (hx7.mono hid_le) (by rw [List.length_map]; simp at plen; omega) fun zs p1 hzs _ np1 => ?_
      have s8 := same_new (o := .lst zs) np1
      have hp1 : upd H7 p1 (.lst zs) p1 = some (.lst zs) := upd_same
      generalize upd H7 p1 (.lst zs) = H8 at s8 hp1 ⊢
      have hF8 := s8 _ _ hF7
      walk_at "ev"
      refine r_sortR (sql (s8 _ _ hd7)) ((ils_hid s8 hy7).mono hid_le) (by rw [List.length_map]; simp at plen; omega) fun ws p2 hws _ np2 => ?_
      have s9 := same_new (o := .lst ws) np2
      have hp2 : upd H8 p2 (.lst ws) p2 = some (.lst ws) := upd_same
      generalize upd H8 p2 (.lst ws) = H9 at s9 hp2 ⊢
      walk_at "ev"; walk_at "nw"; rename_i p3 np3 H10 s10 hp3
      have s19 := s1.trans (s17.trans (s8.trans (s9.trans s10)))
      have s17' := s1.trans s17
      rw [er] at hzs
      rw [eg] at hws
      exact q p3 p1 p2 H10 s19 (s17'.free (s8.free (s9.free np3))) (s17'.free np1) (s17'.free (s8.free np2)) hp3 ⟨zs, s10 _ _ (s9 _ _ hp1), ILs.mono (s8.trans (s9.trans s10)) hzs⟩ ⟨ws, s10 _ _ hp2, ILs.mono (s9.trans s10) hws⟩
    rw [decide_eq_false (by simpa using cl)]
    obtain ⟨x0, ls', rfl⟩ : ∃ x0 ls', ls = x0 :: ls' := by
      match ls, cl with
      | x :: t, _ => exact ⟨x, t, rfl⟩
    obtain ⟨g, hg, hx0⟩ := (cov6 x0).mp (by simp)
    obtain ⟨u1, u2, eR⟩ := List.append_of_mem hg
    have pmR : (D ++ g :: (u1 ++ u2)).Perm (flags T Gs) := by
      refine List.Perm.trans ?_ pm6
      rw [eR]
      exact List.Perm.append_left D List.perm_middle.symm
    have gF : g ∈ flags T Gs := pmR.mem_iff.mp (by simp)
    have gg := grp g gF
    have g60 := few2 g gF
    walk_at "ev"
    refine r_whT ?_
    have hl7 := s7 _ _ hl6
    walk_at "ev"
    refine r_ixL (sql hl7) at_first ?_
    walk_at "ev"; walk_at "nw"; rename_i s ns H8 s8 hs
    walk_at "ev"; walk_at "nw"; rename_i tt ntt H9 s9 htt
    walk_at "ev"
    have s79 := s8.trans s9
    have sH1 : H1 s = none := s17.free ns
    have hs9 := s9 _ _ hs
    have ldn : ∀ {x : Addr} {o : HO}, H7 x = some o → x ≠ s := fun {x o} h => ne_of_none h ns
    refine r_while (fun m σ' H' => ∃ (so : List Int) (fl : Bool) (dn : Nat) (y8 : Option V), m = 61 - dn ∧ σ' = [some (.int n), some (.ref a), some (.ref k), some (.ref l6), some (.ref F), some (.ref s), some (.bl fl), some (.int (dn : Nat)), y8, y9, none] ∧ Same H7 H' ∧ H' s = some (.lst (so.map V.int)) ∧ so.Nodup ∧ (∀ z ∈ so, z ∈ g.1) ∧ x0 ∈ so ∧ dn ≤ so.length ∧
        (∀ (j : Nat) z, j < dn → so[j]? = some z → ∀ e, IsE z e → ptb L e ≠ 0 → ab (ptb L e) ∈ so) ∧ (fl = true ↔ ∃ (j : Nat) (z : Int), j < dn ∧ so[j]? = some z ∧ ∃ e, IsE z e ∧ ptb L e = 0))
      61 ⟨[x0], false, 0, _, rfl, rfl, s79, hs9, by simp, fun z hz => by rw [List.mem_singleton.mp hz]; exact hx0, by simp, by simp, fun j z h => absurd h (by omega), by simp⟩ ?_
    · rintro m σ' H10 ⟨so, fl, dn, y8, rfl, rfl, s10, hs10, ndo, sub, hx0s, dle, clo, flg⟩
      have sol : so.length ≤ g.1.length := nodup_sub ndo sub
      walk_at "ev"
      rw [List.length_map]
      refine ite2 (fun c1 => r_whT ?_) (fun c1 => ?_)
      · have dlt : dn < so.length := by have := of_decide_eq_true c1; omega
        obtain ⟨z, hz1, hz2⟩ := get_ints (ns := so) dlt
        have hzm := List.mem_of_getElem? hz2
        have zr := gg.rg z (sub z hzm)
        walk_at "ev"
        refine r_ixL (sql hs10) (at_of (j := dn) (by rfl) hz1) ?_
        walk_at "ev"
        refine r_ixL (sql hs10) (at_of (j := dn) (by rfl) hz1) ?_
        walk_at "ev"; walk_at "nw"; rename_i w nw H11 s11 hw
        walk_at "ev"
        refine ⟨⟨_, sql hw⟩, ?_⟩
        have s7b := s10.trans s11
        have nws : w ≠ s := fun z => by rw [z, hs10] at nw; cases nw
        refine r_forS (bk := fun _ _ => False) (ct := fun _ _ => False) (seq_list (K := K) (a := w) (rel := fun v (i : Int) => v = .int i) (xs := [.int z, .int (0 - z)]) (L := [z, 0 - z]) (.cons rfl (.cons rfl .nil))) (fun d2 σ' H' => ∃ (ex : List Int) (fl2 : Bool) (y8 : Option V), σ' = [some (.int n), some (.ref a), some (.ref k), some (.ref l6), some (.ref F), some (.ref s), some (.bl fl2), some (.int (dn : Nat)), y8, y9, none] ∧ Same (Hid [s] H11) H' ∧ H' s = some (.lst ((so ++ ex).map V.int)) ∧ (so ++ ex).Nodup ∧ (∀ z ∈ so ++ ex, z ∈ g.1) ∧ (∀ e ∈ d2, ptb L e ≠ 0 → ab (ptb L e) ∈ so ++ ex) ∧ (fl2 = true ↔ fl = true ∨ ∃ e ∈ d2, ptb L e = 0)) ⟨[], fl, _, rfl, hid_le, by simpa using s11 _ _ hs10, by simpa using ndo, by simpa using sub, fun _ h => (nomatch h), by simp⟩ (fun _ _ _ c => by obtain ⟨_, _, _, _, t, _⟩ := c; exact sql (t _ _ (hid_get hw (by simpa using nws)))) ?_ ?_
        · rintro d2 e r2 v σ' H12 e2 rfl ⟨ex, fl2, y8, rfl, t12, hs12, nd12, sub12, clo12, flg12⟩
          have he : IsE z e := by
            have : e ∈ ([z, 0 - z] : List Int) := by rw [e2]; simp
            simpa [IsE] using this
          have e0 : e ≠ 0 := by rcases he with h | h <;> omega
          have kne : k ≠ s := fun z => by rw [← z, s17 _ _ hk] at ns; cases ns
          have hk12 : H12 k = some (.dK (tab L)) := t12 _ _ (hid_get (s7b _ _ (s17 _ _ hk)) (by simpa using kne))
          have ep := ptb_par (L := L) e0
          have l12 := nodup_sub nd12 sub12
          walk_at "ev"
          refine ⟨_, _, rfl, DGet.k (k := .inl e) hk12, ?_⟩
          rw [tab_get, Option.isSome_map]
          cases hp : parI L e with
          | none =>
            rw [hp] at ep
            have ep : ptb L e = 0 := ep
            walk_at "ev"
            refine ⟨ex, true, _, rfl, t12, hs12, nd12, sub12, fun e' he' h0 => ?_, ?_⟩
            · rcases List.mem_append.mp he' with h | h
              · exact clo12 e' h h0
              · rw [List.mem_singleton.mp h] at h0; exact absurd ep h0
            · exact ⟨fun _ => .inr ⟨e, by simp, ep⟩, fun _ => rfl⟩
          | some y =>
            rw [hp] at ep
            have ep : ptb L e = y := ep
            have y0 : y ≠ 0 := (par_mem hL hp).2.2
            walk_at "ev"
            refine ⟨_, _, rfl, by rw [← Option.map_some, ← hp, ← tab_get]; exact DGet.k (k := .inl e) hk12, ?_⟩
            walk_at "ev"
            rw [ab_if]
            refine ⟨flat_ints _, _, rfl, ?_⟩
            rw [if_pos rfl, in_ints]
            by_cases hm : ab y ∈ so ++ ex
            · rw [decide_eq_true hm]
              walk_at "ev"
              refine ⟨ex, fl2, _, rfl, t12, hs12, nd12, sub12, fun e' he' h0 => ?_, ?_⟩
              · rcases List.mem_append.mp he' with h | h
                · exact clo12 e' h h0
                · rw [List.mem_singleton.mp h, ep]; exact hm
              · rw [flg12]
                constructor
                · rintro (h | ⟨e', h, h0⟩)
                  · exact .inl h
                  · exact .inr ⟨e', List.mem_append_left _ h, h0⟩
                · rintro (h | ⟨e', h, h0⟩)
                  · exact .inl h
                  · rcases List.mem_append.mp h with h | h
                    · exact .inr ⟨e', h, h0⟩
                    · rw [List.mem_singleton.mp h, ep] at h0; exact absurd h0 y0
            · rw [decide_eq_false hm]
              walk_at "ev"
              refine ⟨tyL hs12, ?_⟩
              walk_at "ev"
              refine ⟨_, _, rfl, by rw [← Option.map_some, ← hp, ← tab_get]; exact DGet.k (k := .inl e) hk12, ?_⟩
              walk_at "ev"
              rw [ab_if]
              refine r_app hs12 (szs (by rw [List.length_map]; omega)) ?_
              have hin : ab y ∈ g.1 := by rw [← ep]; exact gg.inn z (sub z hzm) e he (by rw [ep]; exact y0)
              refine ⟨ex ++ [ab y], fl2, _, rfl, Vf.Same.set t12 (by simp [Hid]), by rw [upd_same]; simp, ?_, ?_, fun e' he' h0 => ?_, ?_⟩
              · rw [← List.append_assoc]
                refine List.nodup_append.mpr ⟨nd12, by simp, fun p hp' q hq e => ?_⟩
                rw [List.mem_singleton.mp hq] at e
                subst e
                exact hm hp'
              · intro p hp'
                rw [← List.append_assoc] at hp'
                rcases List.mem_append.mp hp' with h | h
                · exact sub12 p h
                · rw [List.mem_singleton.mp h]; exact hin
              · rw [← List.append_assoc]
                rcases List.mem_append.mp he' with h | h
                · exact List.mem_append_left _ (clo12 e' h h0)
                · rw [List.mem_singleton.mp h, ep]; simp
              · rw [flg12]
                constructor
                · rintro (h | ⟨e', h, h0⟩)
                  · exact .inl h
                  · exact .inr ⟨e', List.mem_append_left _ h, h0⟩
                · rintro (h | ⟨e', h, h0⟩)
                  · exact .inl h
                  · rcases List.mem_append.mp h with h | h
                    · exact .inr ⟨e', h, h0⟩
                    · rw [List.mem_singleton.mp h, ep] at h0; exact absurd h0 y0
        · rintro σ' H12 ⟨ex, fl2, y8, rfl, t12, hs12, nd12, sub12, clo12, flg12⟩
          walk_at "ev"
          refine ⟨60 - dn, by omega, so ++ ex, fl2, dn + 1, _, by omega, rfl, ?_, hs12, nd12, sub12, List.mem_append_left _ hx0s, by rw [List.length_append]; omega, fun j p hj hp e he h0 => ?_, ?_⟩
          · exact (same_more (t := []) (by rw [hid_none]; exact s7b) ns).trans t12
          · by_cases jd : j < dn
            · rw [List.getElem?_append_left (by omega)] at hp
              exact List.mem_append_left _ (clo j p jd hp e he h0)
            · have : j = dn := by omega
              subst this
              rw [List.getElem?_append_left dlt, hz2] at hp
              cases hp
              exact clo12 e (by simpa [IsE] using he) h0
          · rw [flg12, flg]
            constructor
            · rintro (⟨j, p, hj, hp, e, he, h0⟩ | ⟨e, he, h0⟩)
              · exact ⟨j, p, by omega, by rw [List.getElem?_append_left (by omega)]; exact hp, e, he, h0⟩
              · exact ⟨dn, z, by omega, by rw [List.getElem?_append_left dlt]; exact hz2, e, by simpa [IsE] using he, h0⟩
            · rintro ⟨j, p, hj, hp, e, he, h0⟩
              by_cases jd : j < dn
              · rw [List.getElem?_append_left (by omega)] at hp
                exact .inl ⟨j, p, jd, hp, e, he, h0⟩
              · have : j = dn := by omega
                subst this
                rw [List.getElem?_append_left dlt, hz2] at hp
                cases hp
                exact .inr ⟨e, by simpa [IsE] using he, h0⟩
      · have dge : dn = so.length := by
          have : ¬ ((dn : Int) < so.length) := by simpa using c1
          omega
        have full : ∀ z ∈ g.1, z ∈ so := gg.all (fun z => z ∈ so) ⟨x0, hx0, hx0s⟩ fun z _ hz e he h0 => by
          obtain ⟨j, hj, ej⟩ := List.mem_iff_getElem.mp hz
          exact clo j z (by omega) (by rw [List.getElem?_eq_getElem hj, ej]) e he h0
        have pso : so.Perm g.1 := (List.perm_ext_iff_of_nodup ndo gg.nd).mpr fun z => ⟨sub z, full z⟩
        have efl : fl = g.2 := by
          cases h2 : g.2 with
          | true =>
            rw [flg]
            obtain ⟨z, hz, e, he, h0⟩ := gg.opn h2
            obtain ⟨j, hj, ej⟩ := List.mem_iff_getElem.mp (full z hz)
            exact ⟨j, z, by omega, by rw [List.getElem?_eq_getElem hj, ej], e, he, h0⟩
          | false =>
            cases hf : fl with
            | false => rfl
            | true =>
              obtain ⟨j, z, hj, hz, e, he, h0⟩ := flg.mp hf
              exact absurd h0 (gg.cls h2 z (sub z (List.mem_of_getElem? hz)) e he)
        have hl10 := s10 _ _ hl7
        have hF10 := s10 _ _ (s7 _ _ hF6)
        have hc10 := s10 _ _ (s7 _ _ hc6)
        have hd10 := s10 _ _ (s7 _ _ hd6)
        have hx10 := ils_hid s10 hx7
        have hy10 := ils_hid s10 hy7
        have s110 := s17.trans s10
        walk_at "ev"
        refine ⟨⟨_, sql hl10⟩, fun D2 nD2 => ?_⟩
        refine r_lcP (seq_list (rel := fun v (i : Int) => v = .int i) (pair_map fun _ _ => rfl)) (fun z => !decide (z ∈ so)) V.int (by simp at lsl ⊢; omega) nD2 (fun _ t => t.seq (sql hl10)) ?_ ?_
        · intro z v H11 acc _ hv s11 ha11 hz N h1 h2
          subst hv
          walk_at "ev"
          refine r_ninI (sql (s11 _ _ hs10)) ?_
          cases hb : decide (z ∈ so) with
          | true =>
            walk_at "ev"
            exact h2 (by rw [hb]; rfl)
          | false =>
            walk_at "ev"
            exact ⟨acc, ha11, hz, h1 (by rw [hb]; rfl)⟩
        generalize hE : upd H10 D2 _ = H11
        obtain ⟨s11, hD2⟩ := Vf.nw_eq nD2 hE
        clear hE
        have s111 := s110.trans s11
        have hF11 := s11 _ _ hF10
        have hs11 := s11 _ _ hs10
        walk_at "ev"
        have wr : ∃ xt us, atI [V.ref c, V.ref d] (if (!fl) = true then 1 else 0) = some (.ref xt) ∧ H11 xt = some (.lst us) ∧ ((fl = true ∧ xt = c ∧ us = xs6) ∨ (fl = false ∧ xt = d ∧ us = ys6)) := by
          cases fl
          · exact ⟨d, ys6, rfl, s11 _ _ hd10, .inr ⟨rfl, rfl, rfl⟩⟩
          · exact ⟨c, xs6, rfl, s11 _ _ hc10, .inl ⟨rfl, rfl, rfl⟩⟩
        obtain ⟨xt, us, hxt, hus, hw⟩ := wr
        refine r_ixL (sql hF11) hxt ?_
        walk_at "ev"
        refine ⟨tyL hus, ?_⟩
        walk_at "ev"
        refine ⟨s, so, rfl, sql hs11, fun ms p2 pm2 pw2 np2 => ?_⟩
        have ems : ms = mS g.1 := srt_uniq (pm2.trans (pso.trans (mS_perm _).symm)) pw2 (mS_srt _)
        subst ems
        generalize hE : upd H11 p2 _ = H12
        obtain ⟨s12, hp2⟩ := Vf.nw_eq np2 hE
        clear hE
        have hus12 := s12 _ _ hus
        have s112 := s111.trans s12
        have xl := pair_len hx10
        have yl := pair_len hy10
        rw [List.length_map] at xl yl
        have f1 := List.length_filter_le (·.2) D
        have f2 := List.length_filter_le (fun g : List Int × Bool => !g.2) D
        have us60 : us.length ≤ 60 := by rcases hw with ⟨_, _, rfl⟩ | ⟨_, _, rfl⟩ <;> omega
        walk_at "ev"
        refine r_app hus12 (szs (by omega)) ?_
        have hx12 := ils_hid (s11.trans s12) hx10
        have hy12 := ils_hid (s11.trans s12) hy10
        have new : IL (Hid [c, d] H12) (.ref p2) (mS g.1) := ⟨p2, rfl, hid_get hp2 (by
          have h1 : p2 ≠ c := fun z => by rw [z, s11 _ _ hc10] at np2; cases np2
          have h2 : p2 ≠ d := fun z => by rw [z, s11 _ _ hd10] at np2; cases np2
          simp [h1, h2])⟩
        have c2 : D2 ≠ c := fun z => by rw [z, hc10] at nD2; cases nD2
        have d2 : D2 ≠ d := fun z => by rw [z, hd10] at nD2; cases nD2
        have cov' : ∀ z, z ∈ ((x0 :: ls').filter fun z => !decide (z ∈ so)) ↔ ∃ g' ∈ u1 ++ u2, z ∈ g'.1 := fun z => by
          rw [List.mem_filter, cov6]
          constructor
          · rintro ⟨⟨g', hg', hz⟩, hn⟩
            rw [eR] at hg'
            rcases List.mem_append.mp hg' with h | h
            · exact ⟨g', List.mem_append_left _ h, hz⟩
            · rcases List.mem_cons.mp h with rfl | h
              · exact absurd (full z hz) (by simpa using hn)
              · exact ⟨g', List.mem_append_right _ h, hz⟩
          · rintro ⟨g', hg', hz⟩
            refine ⟨⟨g', ?_, hz⟩, ?_⟩
            · rw [eR]
              rcases List.mem_append.mp hg' with h | h
              · exact List.mem_append_left _ h
              · exact List.mem_append_right _ (List.mem_cons_of_mem _ h)
            · simp only [Bool.not_eq_true', decide_eq_false_iff_not]
              exact fun hs' => flags_apart hA pmR (sub z hs') g' hg' hz
        have lenR : (u1 ++ u2).length < Rl.length := by rw [eR]; simp
        have flt : (((x0 :: ls').filter fun z => !decide (z ∈ so)).map V.int).length ≤ 60 := by
          rw [List.length_map]
          exact Nat.le_trans (List.length_filter_le _ _) lsl
        have pmD : ((D ++ [g]) ++ (u1 ++ u2)).Perm (flags T Gs) := by rw [List.append_assoc]; exact pmR
        have hD12 := s12 _ _ hD2
        have hF12 := s12 _ _ hF11
        rcases hw with ⟨hfl, rfl, rfl⟩ | ⟨hfl, rfl, rfl⟩
        · have g2 : g.2 = true := by rw [← efl]; exact hfl
          refine ⟨_, lenR, D ++ [g], u1 ++ u2, _, us ++ [.ref p2], ys6, D2, _, _, _, _, _, rfl, rfl, Vf.Same.set s112 ncH, by rw [upd_ne c2]; exact hD12, c2, d2, by rw [upd_ne cF.symm]; exact hF12, upd_same, ?_, by rw [upd_ne cd.symm]; exact s12 _ _ (s11 _ _ hd10), ?_, pmD, cov', by simpa using flt⟩
          · rw [hid_upd (by simp), List.filter_append, List.map_append, List.filter_cons, if_pos g2]
            exact pair_app hx12 (.cons new .nil)
          · rw [hid_upd (by simp), List.filter_append, List.filter_cons, if_neg (by rw [g2]; simp)]
            simpa using hy12
        · have g2 : g.2 = false := by rw [← efl]; exact hfl
          refine ⟨_, lenR, D ++ [g], u1 ++ u2, _, xs6, us ++ [.ref p2], D2, _, _, _, _, _, rfl, rfl, Vf.Same.set s112 ndH, by rw [upd_ne d2]; exact hD12, c2, d2, by rw [upd_ne dF.symm]; exact hF12, by rw [upd_ne cd]; exact s12 _ _ (s11 _ _ hc10), ?_, upd_same, ?_, pmD, cov', by simpa using flt⟩
          · rw [hid_upd (by simp), List.filter_append, List.filter_cons, if_neg (by rw [g2]; simp)]
            simpa using hx12
          · rw [hid_upd (by simp), List.filter_append, List.map_append, List.filter_cons, if_pos (by rw [g2]; rfl)]
            exact pair_app hy12 (.cons new .nil)
end
end K8
namespace K8
open PySem PySem.Spec PyProof.Rows L2 Vf
section
variable {P : Program} {w : World} {K : PySem.W.Frag} {mg : Str → Option Value} {base : Heap}
theorem ok__law_word {f : Addr} {fd : FuncData} (F : Fun K "_law_word" "_law_word" s__law_word f fd) (D__law_groups : Def P w K mg base 2 "_law_groups" ["pieces", "layout"] (sp__law_groups K)) (m_len : mg "len" = none) : FnOk P w K mg base CX0 3 f fd ["pieces", "layout", "later"] (sp__law_word K) := by
  refine F.ok sc__law_word (fun vs H Q E h => ?_) (fun cdv A outer s H vs Q E hr h => ?_)
  · obtain ⟨_, _, _, _, _, _, _, _, _, _, _, rfl, _⟩ := h
    rfl
  · have hu := hu_of hr
    obtain ⟨n, a, b, xs, ys, L, M, T, T', Gs, Gs', rfl, ha, hP, hL, hb, hP2, hM, hA, hA', q⟩ := h
    refine ⟨_, (pss_cons (ps_asg (pe_def D__law_groups (hr.mono (by decide)) (pa_cons (pv 0) (pa_cons (pv 1) pa_nil))) (pg_lst rfl (pgs_cons (pg_name (i := 3) sc__law_word.nd rfl (Or.inl rfl)) (pgs_cons (pg_name (i := 4) sc__law_word.nd rfl (Or.inl rfl)) pgs_nil))))
        (pss_cons (ps_asg (pe_def D__law_groups (hr.mono (by decide)) (pa_cons (pv 0) (pa_cons (pv 2) pa_nil))) (pg_lst rfl (pgs_cons (pg_name (i := 5) sc__law_word.nd rfl (Or.inl rfl)) (pgs_cons (pg_name (i := 6) sc__law_word.nd rfl (Or.inl rfl)) pgs_nil))))
        (pss_cons (ps_set (i := 7) sc__law_word.nd rfl (Or.inl rfl) (pe_tup (pa_cons (pe_op op_sub (pe_callB (lenK (K := K)) (by rfl) m_len (by decide +kernel) (pa_cons (pv 5) pa_nil)) (pe_callB (lenK (K := K)) (by rfl) m_len (by decide +kernel) (pa_cons (pv 3) pa_nil))) (pa_cons (pe_op op_sub (pe_callB (lenK (K := K)) (by rfl) m_len (by decide +kernel) (pa_cons (pv 6) pa_nil)) (pe_callB (lenK (K := K)) (by rfl) m_len (by decide +kernel) (pa_cons (pv 4) pa_nil))) pa_nil))))
        (pss_cons (ps_if (pt_cmpR (eqD (K := K) hr.units) (pv 7) (pe_tup (pa_cons pe_int (pa_cons pe_int pa_nil))) (nomark _)) (pss_one (ps_ret pe_str)) pss_nil)
        (pss_cons (ps_if (pt_cmpR (eqD (K := K) hr.units) (pv 7) (pe_tup (pa_cons (pe_un un_neg pe_int) (pa_cons pe_int pa_nil))) (nomark _)) (pss_one (ps_ret pe_str)) pss_nil)
        (pss_cons (ps_if (pt_cmpR (eqD (K := K) hr.units) (pv 7) (pe_tup (pa_cons pe_int (pa_cons (pe_un un_neg pe_int) pa_nil))) (nomark _)) (pss_one (ps_ret pe_str)) pss_nil)
        (pss_cons (ps_if (pt_cmpR (eqD (K := K) hr.units) (pv 7) (pe_tup (pa_cons (pe_un un_neg pe_int) (pa_cons pe_int pa_nil))) (nomark _)) (pss_one (ps_ret pe_str)) pss_nil)
        (pss_cons (ps_if (pt_cmpR (eqD (K := K) hr.units) (pv 7) (pe_tup (pa_cons pe_int (pa_cons pe_int pa_nil))) (nomark _)) (pss_one (ps_ret (pe_ifExp (pt_cmpR (eqD (K := K) hr.units) (pv 3) (pv 5) (nomark _)) pe_str pe_str))) pss_nil)
        (pss_cons (ps_if (pt_cmpR (eqD (K := K) hr.units) (pv 7) (pe_tup (pa_cons pe_int (pa_cons (pe_un un_neg pe_int) pa_nil))) (nomark _)) (pss_one (ps_ret (pe_ifExp (pt_cmpR (eqD (K := K) hr.units) (pv 3) (pv 5) (nomark _)) pe_str pe_str))) pss_nil)
        (pss_one (ps_ret (pe_ifExp (PW.pt (pw_and (pt_cmpR (eqD (K := K) hr.units) (pv 3) (pv 5) (nomark _)) (pw_and1 (pt_cmpR (eqD (K := K) hr.units) (pv 4) (pv 6) (nomark _))))) pe_str pe_str)))))))))))), ?_⟩
    walk_at "ev"
    refine ⟨n, a, xs, L, T, Gs, rfl, ha, hP, hL, hA, fun p c d H1 s1 np nc nd hp hc hd => ?_⟩
    refine r_glst (sql hp) rfl ?_
    walk_at "ev"
    refine ⟨n, b, ys, M, T', Gs', rfl, s1 _ _ hb, hP2.mono s1, hM, hA', fun p2 c2 d2 H2 s2 np2 nc2 nd2 hp2 hc2 hd2 => ?_⟩
    refine r_glst (sql hp2) rfl ?_
    have hc1 := hc.mono s2
    have hd1 := hd.mono s2
    obtain ⟨xc, hxc, ixc⟩ := hc1
    obtain ⟨xd, hxd, ixd⟩ := hd1
    obtain ⟨yc, hyc, iyc⟩ := hc2
    obtain ⟨yd, hyd, iyd⟩ := hd2
    have lxc := pair_len ixc
    have lxd := pair_len ixd
    have lyc := pair_len iyc
    have lyd := pair_len iyd
    have s02 := s1.trans s2
    have rr := q
    unfold W wordG at rr
    generalize hr : rsG T = r at *
    generalize hg : gsG Gs = g at *
    generalize hr' : rsG T' = r' at *
    generalize hg' : gsG Gs' = g' at *
    walk_at "ev"; walk_at "nw"; rename_i t nt H3 s3 ht
    rw [lxc, lxd, lyc, lyd] at ht
    clear hr hg hr' hg'
    generalize (r'.length : Int) - r.length = x at ht rr
    generalize (g'.length : Int) - g.length = y at ht rr
    have eqT : ∀ {H4 : Hp} {u : Addr} {i j : Int} {Q2 : VK}, Same H3 H4 → H4 u = some (.tup [.int i, .int j]) → Q2 (.bl (decide (x = i ∧ y = j))) H4 → rEqD K (.ref t) (.ref u) H4 Q2 := fun {H4 u i j Q2} s hu q => r_eqPr (p := (x, y)) (q := (i, j)) ⟨t, rfl, s _ _ ht⟩ ⟨u, rfl, hu⟩ (by
      rw [decide_eq_decide.mpr (show (x, y) = (i, j) ↔ x = i ∧ y = j from ⟨fun z => by cases z; exact ⟨rfl, rfl⟩, fun z => by rw [z.1, z.2]⟩)]; exact q)
    have eqR : ∀ {H4 : Hp} {Q2 : VK}, Same H2 H4 → Q2 (.bl (decide (r = r'))) H4 → rEqD K (.ref c) (.ref c2) H4 Q2 := fun {H4 Q2} s q => r_eqRs (LL.mono s ⟨xc, hxc, ixc⟩) (LL.mono s ⟨yc, hyc, iyc⟩) q
    have eqG : ∀ {H4 : Hp} {Q2 : VK}, Same H2 H4 → Q2 (.bl (decide (g = g'))) H4 → rEqD K (.ref d) (.ref d2) H4 Q2 := fun {H4 Q2} s q => r_eqRs (LL.mono s ⟨xd, hxd, ixd⟩) (LL.mono s ⟨yd, hyd, iyd⟩) q
    walk_at "ev"; walk_at "nw"; rename_i u1 nu1 H4 s4 hu1
    refine eqT s4 hu1 ?_
    walk_at "ev"
    refine ite2 (fun c1 => ?_) (fun c1 => ?_)
    · rw [if_pos (of_decide_eq_true c1)] at rr
      walk_at "ev"
      exact rr _ (s02.trans (s3.trans s4))
    rw [if_neg (by simpa using c1)] at rr
    walk_at "ev"; walk_at "nw"; rename_i u2 nu2 H5 s5 hu2
    have s35 := s4.trans s5
    refine eqT s35 hu2 ?_
    walk_at "ev"
    refine ite2 (fun c2 => ?_) (fun c2 => ?_)
    · rw [if_pos (of_decide_eq_true c2)] at rr
      walk_at "ev"
      exact rr _ (s02.trans (s3.trans s35))
    rw [if_neg (by simpa using c2)] at rr
    walk_at "ev"; walk_at "nw"; rename_i u3 nu3 H6 s6 hu3
    have s36 := s35.trans s6
    refine eqT s36 hu3 ?_
    walk_at "ev"
    refine ite2 (fun c3 => ?_) (fun c3 => ?_)
    · rw [if_pos (of_decide_eq_true c3)] at rr
      walk_at "ev"
      exact rr _ (s02.trans (s3.trans s36))
    rw [if_neg (by simpa using c3)] at rr
    walk_at "ev"; walk_at "nw"; rename_i u4 nu4 H7 s7 hu4
    have s37 := s36.trans s7
    refine eqT s37 hu4 ?_
    walk_at "ev"
    refine ite2 (fun c4 => ?_) (fun c4 => ?_)
    · rw [if_pos (of_decide_eq_true c4)] at rr
      walk_at "ev"
      exact rr _ (s02.trans (s3.trans s37))
    rw [if_neg (by simpa using c4)] at rr
    walk_at "ev"; walk_at "nw"; rename_i u5 nu5 H8 s8 hu5
    have s38 := s37.trans s8
    refine eqT s38 hu5 ?_
    walk_at "ev"
    refine ite2 (fun c5 => ?_) (fun c5 => ?_)
    · rw [if_pos (of_decide_eq_true c5)] at rr
      walk_at "ev"
      refine eqR (s3.trans s38) ?_
      walk_at "ev"
      refine ite2 (fun c6 => ?_) (fun c6 => ?_)
      · rw [if_pos (of_decide_eq_true c6)] at rr
        walk_at "ev"
        exact rr _ (s02.trans (s3.trans s38))
      · rw [if_neg (by simpa using c6)] at rr
        walk_at "ev"
        exact rr _ (s02.trans (s3.trans s38))
    rw [if_neg (by simpa using c5)] at rr
    walk_at "ev"; walk_at "nw"; rename_i u6 nu6 H9 s9 hu6
    have s39 := s38.trans s9
    refine eqT s39 hu6 ?_
    walk_at "ev"
    refine ite2 (fun c5 => ?_) (fun c5 => ?_)
    · rw [if_pos (of_decide_eq_true c5)] at rr
      walk_at "ev"
      refine eqR (s3.trans s39) ?_
      walk_at "ev"
      refine ite2 (fun c6 => ?_) (fun c6 => ?_)
      · rw [if_pos (of_decide_eq_true c6)] at rr
        walk_at "ev"
        exact rr _ (s02.trans (s3.trans s39))
      · rw [if_neg (by simpa using c6)] at rr
        walk_at "ev"
        exact rr _ (s02.trans (s3.trans s39))
    rw [if_neg (by simpa using c5)] at rr
    walk_at "ev"
    refine eqR (s3.trans s39) ?_
    walk_at "ev"
    refine ite2 (fun c6 => ?_) (fun c6 => ?_)
    · walk_at "ev"
      refine eqG (s3.trans s39) ?_
      walk_at "ev"
      refine ite2 (fun c7 => ?_) (fun c7 => ?_)
      · rw [if_pos ⟨of_decide_eq_true c6, of_decide_eq_true c7⟩] at rr
        walk_at "ev"
        exact rr _ (s02.trans (s3.trans s39))
      · rw [if_neg (fun z => c7 (decide_eq_true z.2))] at rr
        walk_at "ev"
        exact rr _ (s02.trans (s3.trans s39))
    · rw [if_neg (fun z => c6 (decide_eq_true z.1))] at rr
      walk_at "ev"
      exact rr _ (s02.trans (s3.trans s39))
end
end K8
namespace K8
open PySem PySem.Spec PyProof.Rows L2 Vf
section
variable {P : Program} {w : World} {K : PySem.W.Frag} {mg : Str → Option Value} {base : Heap}
theorem ok__law_opposite {f : Addr} {fd : FuncData} (F : Fun K "_law_opposite" "_law_opposite" s__law_opposite f fd)  : FnOk P w K mg base CX0 1 f fd ["word"] (sp__law_opposite K) := by
  refine F.ok sc__law_opposite (fun vs H Q E h => ?_) (fun cdv A outer s H vs Q E hr h => ?_)
  · obtain ⟨_, rfl, _⟩ := h
    rfl
  · have hu := hu_of hr
    obtain ⟨w, rfl, q⟩ := h
    refine ⟨_, (pss_cons (ps_set (i := 1) sc__law_opposite.nd rfl (Or.inl rfl) (pe_lst (pa_cons (pe_tup (pa_cons pe_str (pa_cons pe_str pa_nil))) (pa_cons (pe_tup (pa_cons pe_str (pa_cons pe_str pa_nil))) (pa_cons (pe_tup (pa_cons pe_str (pa_cons pe_str pa_nil))) (pa_cons (pe_tup (pa_cons pe_str (pa_cons pe_str pa_nil))) (pa_cons (pe_tup (pa_cons pe_str (pa_cons pe_str pa_nil))) pa_nil)))))))
        (pss_cons (ps_for PassesOwn.never rfl (pi_list (pv 1)) (pg_tup rfl (pgs_cons (pg_name (i := 2) sc__law_opposite.nd rfl (Or.inl rfl)) (pgs_cons (pg_name (i := 3) sc__law_opposite.nd rfl (Or.inl rfl)) pgs_nil)))
          (pss_cons (ps_if (pt_cmpR op_eq (pv 0) (pv 2) (nomark _)) (pss_one (ps_ret (pv 3))) pss_nil)
        (pss_one (ps_if (pt_cmpR op_eq (pv 0) (pv 3) (nomark _)) (pss_one (ps_ret (pv 2))) pss_nil))))
        (pss_one (ps_ret pe_str)))), ?_⟩
    unfold oppW at q
    walk_at "ev"; walk_at "nw"; rename_i t1 n1 H1 s1 h1
    walk_at "ev"; walk_at "nw"; rename_i t2 n2 H2 s2 h2
    walk_at "ev"; walk_at "nw"; rename_i t3 n3 H3 s3 h3
    walk_at "ev"; walk_at "nw"; rename_i t4 n4 H4 s4 h4
    walk_at "ev"; walk_at "nw"; rename_i t5 n5 H5 s5 h5
    walk_at "ev"; walk_at "nw"; rename_i l nl H6 s6 hl
    have e1 := s6 _ _ (s5 _ _ (s4 _ _ (s3 _ _ (s2 _ _ h1))))
    have e2 := s6 _ _ (s5 _ _ (s4 _ _ (s3 _ _ h2)))
    have e3 := s6 _ _ (s5 _ _ (s4 _ _ h3))
    have e4 := s6 _ _ (s5 _ _ h4)
    have e5 := s6 _ _ h5
    have s06 := s1.trans (s2.trans (s3.trans (s4.trans (s5.trans s6))))
    walk_at "ev"
    refine ⟨⟨_, sql hl⟩, ?_⟩
    have oq : oppW w = w → True := fun _ => trivial
    refine r_forS (bk := fun _ _ => False) (ct := fun _ _ => False) (seq_list (K := K) (a := l) (rel := fun v (p : Str × Str) => ∃ t, v = .ref t ∧ H6 t = some (.tup [.str p.1, .str p.2])) (L := [("cut", "join"), ("open", "close"), ("let", "take"), ("part", "merge"), ("turn", "turn")]) (.cons ⟨t1, rfl, e1⟩ (.cons ⟨t2, rfl, e2⟩ (.cons ⟨t3, rfl, e3⟩ (.cons ⟨t4, rfl, e4⟩ (.cons ⟨t5, rfl, e5⟩ .nil)))))) (fun dn σ H' => H' = H6 ∧ (∃ y2 y3, σ = [some (.str w), some (.ref l), y2, y3]) ∧ ∀ p ∈ dn, w ≠ p.1 ∧ w ≠ p.2) ⟨rfl, ⟨_, _, rfl⟩, fun _ h => nomatch h⟩ (fun _ _ _ c => by rw [c.1]; exact sql hl) ?_ ?_
    · rintro dn p r v σ H' ed ⟨t, rfl, ht⟩ ⟨rfl, ⟨y2, y3, rfl⟩, hno⟩
      have key : ∀ z : Str, ((w = p.1 ∧ z = p.2) ∨ (w ≠ p.1 ∧ w = p.2 ∧ z = p.1)) → z = oppW w := fun z hz => by
        have hp : p ∈ ([("cut", "join"), ("open", "close"), ("let", "take"), ("part", "merge"), ("turn", "turn")] : List (Str × Str)) := by rw [ed]; simp
        simp only [List.mem_cons, List.not_mem_nil, or_false] at hp
        rcases hp with rfl | rfl | rfl | rfl | rfl <;> rcases hz with ⟨rfl, rfl⟩ | ⟨_, rfl, rfl⟩ <;> decide +kernel
      walk_at "ev"
      refine ite2 (fun c1 => ?_) (fun c1 => ?_)
      · walk_at "ev"
        have := q H' s06
        rw [show (if w = "cut" then ("join" : Str) else _) = oppW w from rfl, ← key p.2 (.inl ⟨of_decide_eq_true c1, rfl⟩)] at this
        exact this
      walk_at "ev"
      refine ite2 (fun c2 => ?_) (fun c2 => ?_)
      · walk_at "ev"
        have := q H' s06
        rw [show (if w = "cut" then ("join" : Str) else _) = oppW w from rfl, ← key p.1 (.inr ⟨by simpa using c1, of_decide_eq_true c2, rfl⟩)] at this
        exact this
      walk_at "ev"
      refine ⟨⟨_, _, rfl⟩, fun p' hp' => ?_⟩
      rcases List.mem_append.mp hp' with h | h
      · exact hno p' h
      · rw [List.mem_singleton.mp h]; exact ⟨by simpa using c1, by simpa using c2⟩
    · rintro σ H' ⟨rfl, ⟨y2, y3, rfl⟩, hno⟩
      walk_at "ev"
      have := q H' s06
      have a1 := hno ("cut", "join") (by simp)
      have a2 := hno ("open", "close") (by simp)
      have a3 := hno ("let", "take") (by simp)
      have a4 := hno ("part", "merge") (by simp)
      have a5 := hno ("turn", "turn") (by simp)
      rw [if_neg a1.1, if_neg a1.2, if_neg a2.1, if_neg a2.2, if_neg a3.1, if_neg a3.2, if_neg a4.1, if_neg a4.2, if_neg a5.1] at this
      exact this
end
end K8
namespace K8
open PySem PySem.Spec PyProof.Rows L2 Vf
section
variable {P : Program} {w : World} {K : PySem.W.Frag} {mg : Str → Option Value} {base : Heap}
theorem ok__law_told {f : Addr} {fd : FuncData} (F : Fun K "_law_told" "_law_told" s__law_told f fd) (D__law_word : Def P w K mg base 3 "_law_word" ["pieces", "layout", "later"] (sp__law_word K)) (D__law_after : Def P w K mg base 1 "_law_after" ["layout", "move"] (sp__law_after K)) (D_kind_of : DefR P w K mg base 8 "kind_of" ["pieces", "layout", "move"] (sp_kind_of K)) (D__law_opposite : Def P w K mg base 1 "_law_opposite" ["word"] (sp__law_opposite K)) (m_list : mg "list" = none) : FnG P w K mg base CX0 9 f fd ["pieces", "layout", "move"] (sp__law_told K) := by
  refine okG0 F sc__law_told (fun vs H Q E h => ?_) (fun cdv A outer s H vs Q E hr hgd h => ?_)
  · obtain ⟨_, _, _, _, _, _, _, rfl, _⟩ := h
    rfl
  · have hu := hu_of hr
    obtain ⟨n, a, v, xs, L, C, J, rfl, hL, ha, hP, ⟨p, a1, a2, x1, x2, rfl, hp, h1, hP1, h2, hP2⟩, hmv, q⟩ := h
    refine ⟨_, (pss_cons (ps_par3 (i := 3) (j := 4) (l := 5) (by rfl) sc__law_told.nd rfl rfl rfl (by decide) (by decide) (by decide) rfl rfl rfl (pa_cons (pe_def D__law_after (hr.mono (by decide)) (pa_cons (pv 1) (pa_cons (pv 2) pa_nil))) (pa_cons (pe_callTy (listK (K := K)) (by rfl) m_list (by decide +kernel) (pa_cons (pv 1) pa_nil)) (pa_cons (pe_tup (pa_cons (pe_callTy (listK (K := K)) (by rfl) m_list (by decide +kernel) (pa_cons (pe_ix (ixT (K := K)) (pv 2) pe_int (fun _ _ => rfl)) pa_nil)) (pa_cons (pe_callTy (listK (K := K)) (by rfl) m_list (by decide +kernel) (pa_cons (pe_ix (ixT (K := K)) (pv 2) pe_int (fun _ _ => rfl)) pa_nil)) pa_nil))) pa_nil))) (by rfl))
        (pss_cons (ps_set (i := 6) sc__law_told.nd rfl (Or.inl rfl) (pe_def D__law_word (hr.mono (by decide)) (pa_cons (pv 0) (pa_cons (pv 1) (pa_cons (pv 3) pa_nil)))))
        (pss_cons (ps_if (PW.pt (pw_or (pt_cmpR op_ne (pe_defR D_kind_of (E := E0) passR0 (hr.mono (by decide)) hgd (pa_cons (pv 0) (pa_cons (pv 4) (pa_cons (pv 5) pa_nil)))) (pv 6) (nomark _)) (pw_or (pt_cmpR (neD (K := K) hr.units) (pv 4) (pv 1) (nomark _)) (pw_or1 (pt_cmpR (neD (K := K) hr.units) (pv 5) (pv 2) (nomark _)))))) (pss_one (ps_ret pe_bl)) pss_nil)
        (pss_one (ps_ret (pe_cmpR op_eq (pe_defR D_kind_of (E := E0) passR0 (hr.mono (by decide)) hgd (pa_cons (pv 0) (pa_cons (pv 3) (pa_cons (pe_tup (pa_cons (pe_ix (ixT (K := K)) (pv 2) pe_int (fun _ _ => rfl)) (pa_cons (pe_ix (ixT (K := K)) (pv 2) pe_int (fun _ _ => rfl)) pa_nil))) pa_nil)))) (pe_def D__law_opposite (hr.mono (by decide)) (pa_cons (pv 6) pa_nil)) (nomark _))))))), ?_⟩
    walk_at "ev"
    refine ⟨n, a, .ref p, xs, L, C, J, rfl, hL, ha, hP, ⟨p, a1, a2, x1, x2, rfl, hp, h1, hP1, h2, hP2⟩, hmv, fun lt H1 zs M hM pm s1 nlt hlt hPz => ?_⟩
    have ha1 := s1 _ _ ha
    walk_at "ev"; walk_at "nw0"; rename_i g ng H2 s2 hg
    have s02 := s1.trans s2
    have hp2 := s02 _ _ hp
    have h12 := s02 _ _ h1
    have h22 := s02 _ _ h2
    walk_at "ev"; walk_at "nw0"; rename_i b1 nb1 H3 s3 hb1
    have hp3 := s3 _ _ hp2
    have h23 := s3 _ _ h22
    walk_at "ev"; walk_at "nw0"; rename_i b2 nb2 H4 s4 hb2
    walk_at "ev"; walk_at "nw"; rename_i pb npb H5 s5 hpb
    have s25 := s3.trans (s4.trans s5)
    have s05 := s02.trans s25
    have s15 := s2.trans s25
    have mvP : MvAt H5 (.ref pb) C J := ⟨pb, b1, b2, x1, x2, rfl, hpb, s5 _ _ (s4 _ _ hb1), hP1.mono s05, s5 _ _ hb2, hP2.mono s05⟩
    have mvV : MvAt H5 (.ref p) C J := MvAt.mono s05 ⟨p, a1, a2, x1, x2, rfl, hp, h1, hP1, h2, hP2⟩
    have hg5 := s25 _ _ hg
    obtain ⟨T, Gs, T', Gs', hA, hA', hk⟩ := kind_word hL hmv pm
    walk_at "ev"
    refine ⟨_, _, _, rfl, ?_⟩
    walk_at "ev"
    refine ⟨n, a, lt, xs, zs, L, M, T, T', Gs, Gs', rfl, s05 _ _ ha, hP.mono s05, hL, s15 _ _ hlt, hPz.mono s15, hM, hA, hA', fun H6 s6 => ?_⟩
    rw [← hk]
    walk_at "ev"
    refine ok_kind hL (s6 _ _ hg5) ((hP.mono s05).mono s6) (mvP.mono s6) hmv fun H7 s7 => ?_
    walk_at "ev"
    have s57 := s6.trans s7
    have s07 := s05.trans s57
    refine r_neD (dp_lay (sql (s57 _ _ hg5)) (hP.mono s07)) (dp_lay (sql (s07 _ _ ha)) (hP.mono s07)) hL.small (by decide) ?_
    walk_at "ev"
    have smm := sm_mv hL (m := (C, J)) hmv
    refine r_neD (MvAt.dp (m := (C, J)) (mvP.mono s57)) (MvAt.dp (m := (C, J)) (mvV.mono s57)) smm (by decide) ?_
    walk_at "ev"
    have hp7 := s07 _ _ hp
    walk_at "ev"; walk_at "nw"; rename_i o1 no1 H8 s8 ho1
    have s08 := s07.trans s8
    have s18 := s15.trans (s57.trans s8)
    have mvO : MvAt H8 (.ref o1) J C := ⟨o1, a2, a1, x2, x1, rfl, ho1, s08 _ _ h2, hP2.mono s08, s08 _ _ h1, hP1.mono s08⟩
    have opp := mv_opp hL hmv hM pm
    obtain ⟨T2, Gs2, T3, Gs3, hB, hB', hk2⟩ := kind_word hM opp (mv_back hL hmv hM pm).symm
    walk_at "ev"
    refine ok_kind hM (s18 _ _ hlt) (hPz.mono s18) mvO opp fun H9 s9 => ?_
    walk_at "ev"
    intro H10 s10
    walk_at "ev"
    have ee : kindL M J C = oppW (kindL L C J) := by
      rw [hk, hk2]
      unfold W
      rw [wordG_opp]
      obtain ⟨e1, e2⟩ := groups_uniq hM hB hA'
      obtain ⟨e3, e4⟩ := groups_uniq hL hB' hA
      rw [e1, e2, e3, e4]
    rw [ee, decide_eq_true rfl]
    exact q _ (s08.trans (s9.trans s10))
end
end K8
namespace K8
open PySem PySem.Spec PyProof.Rows L2 Vf
section
variable {P : Program} {w : World} {K : PySem.W.Frag} {mg : Str → Option Value} {base : Heap}
theorem ok__law_right {f : Addr} {fd : FuncData} (F : Fun K "_law_right" "_law_right" s__law_right f fd) (D__law_layout : Def P w K mg base 2 "_law_layout" ["tap", "pieces"] (sp__law_layout K)) (D__law_draw : Def P w K mg base 1 "_law_draw" ["tap", "bound"] (sp__law_draw K)) (D__law_any_move : Def P w K mg base 3 "_law_any_move" ["tap", "pieces", "layout"] (sp__law_any_move K)) (D__law_after : Def P w K mg base 1 "_law_after" ["layout", "move"] (sp__law_after K)) (D__law_told : DefG P w K mg base 9 "_law_told" ["pieces", "layout", "move"] (sp__law_told K)) (D_moves_of : DefR P w K mg base 5 "moves_of" ["pieces", "layout"] (sp_moves_of K)) (m_range : mg "range" = none) : FnG P w K mg base CX0 10 f fd ["tap"] (sp__law_right K) := by
  refine okG0 F sc__law_right (fun vs H Q E h => ?_) (fun cdv A outer s H vs Q E hr hgd h => ?_)
  · obtain ⟨_, rfl, _⟩ := h
    rfl
  · have hu := hu_of hr
    obtain ⟨t, rfl, hT, q⟩ := h
    refine ⟨_, (pss_cons (ps_set (i := 1) sc__law_right.nd rfl (Or.inr rfl) (pe_op op_add pe_int (pe_def D__law_draw (hr.mono (by decide)) (pa_cons (pv 0) (pa_cons pe_int pa_nil)))))
        (pss_cons (ps_set (i := 2) sc__law_right.nd rfl (Or.inr rfl) (pe_def D__law_layout (hr.mono (by decide)) (pa_cons (pv 0) (pa_cons (pv 1) pa_nil))))
        (pss_cons (ps_if (pt_cmpR (neNilK (K := K) hr.units0) (pe_lc (own := [("move", 3)]) rfl sc__law_right.nd (pi_list (pe_defR D_moves_of (E := E0) passR0 (hr.mono (by decide)) hgd (pa_cons (pv 1) (pa_cons (pv 2) pa_nil)))) (blkOk_by (own := [("move", 3)]) (N := N__law_right) (sc := defScope s__law_right) (by decide +kernel)) (fun _ _ _ _ _ => (pg_name (i := 3) sc__law_right.nd rfl (Or.inl rfl))) (fun _ _ _ _ _ => pts_one (pt_not (pt_val (pe_defG D__law_told (hr.mono (by decide)) hgd (pa_cons (pv 1) (pa_cons (pv 2) (pa_cons (pv 3) pa_nil))))))) (fun _ _ _ _ _ => (pv 3))) (pe_lst pa_nil) (nomark _)) (pss_one (ps_ret pe_bl)) pss_nil)
        (pss_cons (ps_set (i := 1) sc__law_right.nd rfl (Or.inr rfl) (pe_op op_add pe_int (pe_def D__law_draw (hr.mono (by decide)) (pa_cons (pv 0) (pa_cons (pe_ix (ixL (K := K)) (pe_lst (pa_cons pe_int (pa_cons pe_int pa_nil))) (pe_def D__law_draw (hr.mono (by decide)) (pa_cons (pv 0) (pa_cons pe_int pa_nil))) (fun _ _ => rfl)) pa_nil)))))
        (pss_cons (ps_set (i := 2) sc__law_right.nd rfl (Or.inr rfl) (pe_def D__law_layout (hr.mono (by decide)) (pa_cons (pv 0) (pa_cons (pv 1) pa_nil))))
        (pss_cons (ps_for PassesOwn.never rfl (pi_range1 (by rfl) m_range (pa_cons (pe_op op_add pe_int (pe_def D__law_draw (hr.mono (by decide)) (pa_cons (pv 0) (pa_cons pe_int pa_nil)))) pa_nil)) (pg_name (i := 4) sc__law_right.nd rfl (Or.inl rfl))
          (pss_cons (ps_set (i := 3) sc__law_right.nd rfl (Or.inl rfl) (pe_def D__law_any_move (hr.mono (by decide)) (pa_cons (pv 0) (pa_cons (pv 1) (pa_cons (pv 2) pa_nil)))))
        (pss_cons (ps_if (pt_not (pt_val (pe_defG D__law_told (hr.mono (by decide)) hgd (pa_cons (pv 1) (pa_cons (pv 2) (pa_cons (pv 3) pa_nil)))))) (pss_one (ps_ret pe_bl)) pss_nil)
        (pss_one (ps_set (i := 2) sc__law_right.nd rfl (Or.inr rfl) (pe_def D__law_after (hr.mono (by decide)) (pa_cons (pv 2) (pa_cons (pv 3) pa_nil))))))))
        (pss_one (ps_ret pe_bl)))))))), ?_⟩
    walk_at "ev"
    refine ⟨hT, by decide, by decide, fun r1 H1 r10 r11 b1 t1 => ?_⟩
    walk_at "ev"
    refine ⟨t1, by omega, by omega, fun a H2 L xs hL x2 t2 na ha hP => ?_⟩
    have x02 : SameX t H H2 := (SameX.ofBut b1).trans x2
    walk_at "ev"
    refine ok_moves hL ha hP fun D zs H3 s3 nM => ?_
    have hD := nM.at'
    have hMz := nM.at''
    have few := movesM_few hL (by omega)
    have zl := pair_len hMz
    have are : ∀ m ∈ movesM (1 + r1) L, mvD (1 + r1) L (mD m.1 m.2) = true := fun m h => movesM_are hL h
    walk_at "ev"
    refine ⟨⟨_, sql hD⟩, fun E nE => ?_⟩
    refine r_lcS (seq_list hMz) (fun dn H' => Same H3 H' ∧ H' E = some (.lst [])) ⟨same_new nE, upd_same⟩ (fun _ _ c => sql (c.1 _ _ hD)) ?_ ?_
    · rintro dn m r v H4 e4 hv ⟨s4, h4⟩
      have hm : m ∈ movesM (1 + r1) L := by rw [e4]; simp
      have s34 := s3.trans s4
      walk_at "ev"
      refine ⟨_, a, v, xs, L, m.1, m.2, rfl, hL, s34 _ _ ha, hP.mono s34, hv.mono s4, are m hm, fun H5 s5 => ?_⟩
      walk_at "ev"
      exact ⟨s4.trans s5, s5 _ _ h4⟩
    rintro H4 ⟨s4, h4⟩
    walk_at "ev"; walk_at "nw"; rename_i z nz H5 s5 hz
    refine ⟨E, z, [], rfl, rfl, sql (s5 _ _ h4), hz, ?_⟩
    rw [bneT]
    have s25 := s3.trans (s4.trans s5)
    have x05 := x02.trans (SameX.of s25)
    have t5 := t2.mono s25
    walk_at "ev"; walk_at "nw"; rename_i p0 np0 H6 s6 hp0
    have hp0' : H6 p0 = some (.lst (([5, 60] : List Int).map V.int)) := hp0
    have hp0t : p0 ≠ t := fun z => by obtain ⟨tx, htx⟩ := t5.lst; rw [z, htx] at np0; cases np0
    walk_at "ev"
    refine ⟨t5.mono s6, by decide, by decide, fun r2 H7 r20 r21 b7 t7 => ?_⟩
    obtain ⟨v, hv, hv2⟩ := at_int (ns := [5, 60]) r20 r21
    have hv3 : v = 5 ∨ v = 60 := by simpa using List.mem_of_getElem? hv2
    refine r_ixL (sql ((b7 p0 hp0t).trans hp0')) hv ?_
    walk_at "ev"
    refine ⟨t7, by omega, by omega, fun r3 H8 r30 r31 b8 t8 => ?_⟩
    walk_at "ev"
    refine ⟨t8, by omega, by omega, fun a2 H9 L2 xs2 hL2 x9 t9 na2 ha2 hP2 => ?_⟩
    have x09 : SameX t H H9 := x05.trans ((SameX.of s6).trans ((SameX.ofBut b7).trans ((SameX.ofBut b8).trans x9)))
    walk_at "ev"
    refine ⟨t9, by decide, by decide, fun r4 H10 r40 r41 b10 t10 => ?_⟩
    walk_at "ev"
    refine ⟨by omega, by omega, ?_⟩
    have k9 := tap_no t9 ha2 hP2
    refine r_forS (bk := fun _ _ => False) (ct := fun _ _ => False) seq_range (fun dn σ H' => ∃ a xs L y3 y4, σ = [some (.ref t), some (.int (1 + r3)), some (.ref a), y3, y4] ∧ SameX t H H' ∧ Tap H' t ∧ H' a = some (.lst xs) ∧ Prs H' xs L ∧ Lay (1 + r3) L) ⟨a2, xs2, L2, _, _, rfl, x09.trans (SameX.ofBut b10), t10, (b10 a2 k9).trans ha2, (SameX.ofBut b10).prs (t9.lst.choose_spec) (fun _ z => nomatch z) hP2, hL2⟩ (fun _ _ _ _ => trivial) ?_ ?_
    · rintro dn k r v σ H11 e rfl ⟨a3, xs3, L3, y3, y4, rfl, x11, t11, ha3, hP3, hL3⟩
      have k11 := tap_no t11 ha3 hP3
      walk_at "ev"
      refine ⟨t, _, a3, xs3, L3, rfl, t11, ha3, hP3, hL3, fun v H12 C J hm x12 t12 hv => ?_⟩
      have ha12 := x12 _ _ k11 ha3
      have hP12 : Prs H12 xs3 L3 := x12.prs (t11.lst.choose_spec) (fun _ z => nomatch z) hP3
      walk_at "ev"
      refine ⟨_, a3, v, xs3, L3, C, J, rfl, hL3, ha12, hP12, hv.mono hid_le, hm, fun H13 s13 => ?_⟩
      walk_at "ev"
      refine ⟨_, a3, v, xs3, L3, C, J, rfl, hL3, s13 _ _ ha12, hP12.mono s13, (hv.mono hid_le).mono s13, hm, fun p H14 ys M hM _ s14 np hp hPy => ?_⟩
      walk_at "ev"
      exact ⟨p, ys, M, _, _, rfl, x11.trans (x12.trans (SameX.of (s13.trans s14))), t12.mono (s13.trans s14), hp, hPy, hM⟩
    · rintro σ H11 ⟨a3, xs3, L3, y3, y4, rfl, x11, t11, ha3, hP3, hL3⟩
      walk_at "ev"
      exact q _ x11
end
end K8
namespace K8
open PySem PySem.Spec PyProof.Rows L2 Vf
section
variable {P : Program} {w : World} {K : PySem.W.Frag} {mg : Str → Option Value} {base : Heap}
theorem ok_law {f : Addr} {fd : FuncData} (F : Fun K "law" "law" s_law f fd) (D__law_cells : Def P w K mg base 1 "_law_cells" ["script", "many"] (sp__law_cells K)) (D__law_right : DefG P w K mg base 10 "_law_right" ["tap"] (sp__law_right K)) (D__law_tap : Def P w K mg base 1 "_law_tap" ["cell", "turn"] (sp__law_tap K)) (m_range : mg "range" = none) (m_len : mg "len" = none) : FnG P w K mg base CX0 11 f fd ["script"] (sp_law K) := by
  refine okG0 F sc_law (fun vs H Q E h => ?_) (fun cdv A outer s H vs Q E hr hgd h => ?_)
  · obtain ⟨_, _, rfl, _⟩ := h
    rfl
  · have hu := hu_of hr
    obtain ⟨a, ns, rfl, hS, hl, q⟩ := h
    refine ⟨_, (pss_cons (ps_set (i := 1) sc_law.nd rfl (Or.inr rfl) (pe_def D__law_cells (hr.mono (by decide)) (pa_cons (pv 0) (pa_cons pe_int pa_nil))))
        (pss_one (ps_ret (pe_cmpR (eqD (K := K) hr.units) (pe_lc (own := [("k", 2)]) rfl sc_law.nd (pi_range1 (by rfl) m_range (pa_cons (pe_callB (lenK (K := K)) (by rfl) m_len (by decide +kernel) (pa_cons (pv 1) pa_nil)) pa_nil)) (blkOk_by (own := [("k", 2)]) (N := N_law) (sc := defScope s_law) (by decide +kernel)) (fun _ _ _ _ _ => (pg_name (i := 2) sc_law.nd rfl (Or.inl rfl))) (fun _ _ _ _ _ => pts_one (pt_not (pt_val (pe_defG D__law_right (hr.mono (by decide)) hgd (pa_cons (pe_def D__law_tap (hr.mono (by decide)) (pa_cons (pe_ix (ixL (K := K)) (pv 1) (pv 2) (fun _ _ => rfl)) (pa_cons (pv 2) pa_nil))) pa_nil))))) (fun _ _ _ _ _ => (pv 2))) (pe_lst pa_nil) (nomark _))))), ?_⟩
    walk_at "ev"
    refine ⟨a, ns, 4, rfl, hS, hl, by decide, by decide, fun c H1 cs s1 nc hc hcl => ?_⟩
    walk_at "ev"
    rw [List.length_map]
    refine ⟨by omega, by omega, fun D nD => ?_⟩
    refine r_lcS seq_range (fun d H' => Same H1 H' ∧ H' D = some (.lst [])) ⟨same_new nD, upd_same⟩ (fun _ _ _ => trivial) ?_ ?_
    · rintro d k r v H2 e rfl ⟨s2, h2⟩
      have hk : 0 ≤ k ∧ k < 0 + (((cs.length : Int)).toNat : Int) := mem_rng.mp (by rw [e]; simp)
      obtain ⟨x, hx, _⟩ := at_int (ns := cs) (r := k) hk.1 (by omega)
      walk_at "ev"
      refine r_ixL (sql (s2 _ _ hc)) hx ?_
      walk_at "ev"
      refine ⟨hk.1, by omega, fun p H3 s3 np tp => ?_⟩
      walk_at "ev"
      refine ⟨tp, fun H4 x4 => ?_⟩
      walk_at "ev"
      refine ⟨x4.same (s2.trans s3) (s2.free np), x4 _ _ (ne_of_none h2 np) (s3 _ _ h2)⟩
    · rintro H2 ⟨s2, h2⟩
      walk_at "ev"
      refine ⟨szl (by show 0 ≤ 100000; decide), fun z nz => ?_⟩
      exact r_eqI1 (ns := []) (dp_ints (sql (same_new nz _ _ h2))) (dp_ints (sql upd_same)) (q _)
end
end K8
namespace K8
open PySem PySem.Spec PyProof.Rows L2 Vf
theorem all_mk {l : PySem.W.OpenLaw} {w : World} {K : PySem.W.Frag} {h : Heap} {mg : Str → Option Value} {fa : Addr} (X : K.In h) (G : h.Ns mainGlobals mg) (hfa : mg "law" = some (.ref fa))
    {f0 : Addr} {od0 an0 : Option Addr} {sl0 : Array (Option Value)} {oc0 kV0 dc0 pm0 cd0 ct0 : Value}
    (a0 : PySem.W.nsIn K mainGlobals "is_integer" = some (some (.ref f0))) (l0 : K.lookup f0 = some ⟨oc0, od0, .func (PySem.W.fnOf "is_integer" "is_integer" (defArgs s_is_integer) (defBody s_is_integer) (defScope s_is_integer) .none kV0 dc0 pm0 an0 cd0 ct0), sl0⟩) (c0 : PySem.W.codeIn K cd0 "is_integer" = true) (k0 : PySem.W.keepIn K (.ref f0) = true)
    {f1 : Addr} {od1 an1 : Option Addr} {sl1 : Array (Option Value)} {oc1 kV1 dc1 pm1 cd1 ct1 : Value}
    (a1 : PySem.W.nsIn K mainGlobals "are_integers" = some (some (.ref f1))) (l1 : K.lookup f1 = some ⟨oc1, od1, .func (PySem.W.fnOf "are_integers" "are_integers" (defArgs s_are_integers) (defBody s_are_integers) (defScope s_are_integers) .none kV1 dc1 pm1 an1 cd1 ct1), sl1⟩) (c1 : PySem.W.codeIn K cd1 "are_integers" = true) (k1 : PySem.W.keepIn K (.ref f1) = true)
    {f2 : Addr} {od2 an2 : Option Addr} {sl2 : Array (Option Value)} {oc2 kV2 dc2 pm2 cd2 ct2 : Value}
    (a2 : PySem.W.nsIn K mainGlobals "is_coupling" = some (some (.ref f2))) (l2 : K.lookup f2 = some ⟨oc2, od2, .func (PySem.W.fnOf "is_coupling" "is_coupling" (defArgs s_is_coupling) (defBody s_is_coupling) (defScope s_is_coupling) .none kV2 dc2 pm2 an2 cd2 ct2), sl2⟩) (c2 : PySem.W.codeIn K cd2 "is_coupling" = true) (k2 : PySem.W.keepIn K (.ref f2) = true)
    {f3 : Addr} {od3 an3 : Option Addr} {sl3 : Array (Option Value)} {oc3 kV3 dc3 pm3 cd3 ct3 : Value}
    (a3 : PySem.W.nsIn K mainGlobals "coupling_of" = some (some (.ref f3))) (l3 : K.lookup f3 = some ⟨oc3, od3, .func (PySem.W.fnOf "coupling_of" "coupling_of" (defArgs s_coupling_of) (defBody s_coupling_of) (defScope s_coupling_of) .none kV3 dc3 pm3 an3 cd3 ct3), sl3⟩) (c3 : PySem.W.codeIn K cd3 "coupling_of" = true) (k3 : PySem.W.keepIn K (.ref f3) = true)
    {f4 : Addr} {od4 an4 : Option Addr} {sl4 : Array (Option Value)} {oc4 kV4 dc4 pm4 cd4 ct4 : Value}
    (a4 : PySem.W.nsIn K mainGlobals "opens_in" = some (some (.ref f4))) (l4 : K.lookup f4 = some ⟨oc4, od4, .func (PySem.W.fnOf "opens_in" "opens_in" (defArgs s_opens_in) (defBody s_opens_in) (defScope s_opens_in) .none kV4 dc4 pm4 an4 cd4 ct4), sl4⟩) (c4 : PySem.W.codeIn K cd4 "opens_in" = true) (k4 : PySem.W.keepIn K (.ref f4) = true)
    {f5 : Addr} {od5 an5 : Option Addr} {sl5 : Array (Option Value)} {oc5 kV5 dc5 pm5 cd5 ct5 : Value}
    (a5 : PySem.W.nsIn K mainGlobals "couplings_in" = some (some (.ref f5))) (l5 : K.lookup f5 = some ⟨oc5, od5, .func (PySem.W.fnOf "couplings_in" "couplings_in" (defArgs s_couplings_in) (defBody s_couplings_in) (defScope s_couplings_in) .none kV5 dc5 pm5 an5 cd5 ct5), sl5⟩) (c5 : PySem.W.codeIn K cd5 "couplings_in" = true) (k5 : PySem.W.keepIn K (.ref f5) = true)
    {f6 : Addr} {od6 an6 : Option Addr} {sl6 : Array (Option Value)} {oc6 kV6 dc6 pm6 cd6 ct6 : Value}
    (a6 : PySem.W.nsIn K mainGlobals "check_pieces" = some (some (.ref f6))) (l6 : K.lookup f6 = some ⟨oc6, od6, .func (PySem.W.fnOf "check_pieces" "check_pieces" (defArgs s_check_pieces) (defBody s_check_pieces) (defScope s_check_pieces) .none kV6 dc6 pm6 an6 cd6 ct6), sl6⟩) (c6 : PySem.W.codeIn K cd6 "check_pieces" = true) (k6 : PySem.W.keepIn K (.ref f6) = true)
    {f7 : Addr} {od7 an7 : Option Addr} {sl7 : Array (Option Value)} {oc7 kV7 dc7 pm7 cd7 ct7 : Value}
    (a7 : PySem.W.nsIn K mainGlobals "partners_or_wrong" = some (some (.ref f7))) (l7 : K.lookup f7 = some ⟨oc7, od7, .func (PySem.W.fnOf "partners_or_wrong" "partners_or_wrong" (defArgs s_partners_or_wrong) (defBody s_partners_or_wrong) (defScope s_partners_or_wrong) .none kV7 dc7 pm7 an7 cd7 ct7), sl7⟩) (c7 : PySem.W.codeIn K cd7 "partners_or_wrong" = true) (k7 : PySem.W.keepIn K (.ref f7) = true)
    {f8 : Addr} {od8 an8 : Option Addr} {sl8 : Array (Option Value)} {oc8 kV8 dc8 pm8 cd8 ct8 : Value}
    (a8 : PySem.W.nsIn K mainGlobals "checked_partners" = some (some (.ref f8))) (l8 : K.lookup f8 = some ⟨oc8, od8, .func (PySem.W.fnOf "checked_partners" "checked_partners" (defArgs s_checked_partners) (defBody s_checked_partners) (defScope s_checked_partners) .none kV8 dc8 pm8 an8 cd8 ct8), sl8⟩) (c8 : PySem.W.codeIn K cd8 "checked_partners" = true) (k8 : PySem.W.keepIn K (.ref f8) = true)
    {f9 : Addr} {od9 an9 : Option Addr} {sl9 : Array (Option Value)} {oc9 kV9 dc9 pm9 cd9 ct9 : Value}
    (a9 : PySem.W.nsIn K mainGlobals "_are_ascending_couplings" = some (some (.ref f9))) (l9 : K.lookup f9 = some ⟨oc9, od9, .func (PySem.W.fnOf "_are_ascending_couplings" "_are_ascending_couplings" (defArgs s__are_ascending_couplings) (defBody s__are_ascending_couplings) (defScope s__are_ascending_couplings) .none kV9 dc9 pm9 an9 cd9 ct9), sl9⟩) (c9 : PySem.W.codeIn K cd9 "_are_ascending_couplings" = true) (k9 : PySem.W.keepIn K (.ref f9) = true)
    {f10 : Addr} {od10 an10 : Option Addr} {sl10 : Array (Option Value)} {oc10 kV10 dc10 pm10 cd10 ct10 : Value}
    (a10 : PySem.W.nsIn K mainGlobals "_has_form" = some (some (.ref f10))) (l10 : K.lookup f10 = some ⟨oc10, od10, .func (PySem.W.fnOf "_has_form" "_has_form" (defArgs s__has_form) (defBody s__has_form) (defScope s__has_form) .none kV10 dc10 pm10 an10 cd10 ct10), sl10⟩) (c10 : PySem.W.codeIn K cd10 "_has_form" = true) (k10 : PySem.W.keepIn K (.ref f10) = true)
    {f11 : Addr} {od11 an11 : Option Addr} {sl11 : Array (Option Value)} {oc11 kV11 dc11 pm11 cd11 ct11 : Value}
    (a11 : PySem.W.nsIn K mainGlobals "_joins_otherwise" = some (some (.ref f11))) (l11 : K.lookup f11 = some ⟨oc11, od11, .func (PySem.W.fnOf "_joins_otherwise" "_joins_otherwise" (defArgs s__joins_otherwise) (defBody s__joins_otherwise) (defScope s__joins_otherwise) .none kV11 dc11 pm11 an11 cd11 ct11), sl11⟩) (c11 : PySem.W.codeIn K cd11 "_joins_otherwise" = true) (k11 : PySem.W.keepIn K (.ref f11) = true)
    {f12 : Addr} {od12 an12 : Option Addr} {sl12 : Array (Option Value)} {oc12 kV12 dc12 pm12 cd12 ct12 : Value}
    (a12 : PySem.W.nsIn K mainGlobals "_joins_to_open" = some (some (.ref f12))) (l12 : K.lookup f12 = some ⟨oc12, od12, .func (PySem.W.fnOf "_joins_to_open" "_joins_to_open" (defArgs s__joins_to_open) (defBody s__joins_to_open) (defScope s__joins_to_open) .none kV12 dc12 pm12 an12 cd12 ct12), sl12⟩) (c12 : PySem.W.codeIn K cd12 "_joins_to_open" = true) (k12 : PySem.W.keepIn K (.ref f12) = true)
    {f13 : Addr} {od13 an13 : Option Addr} {sl13 : Array (Option Value)} {oc13 kV13 dc13 pm13 cd13 ct13 : Value}
    (a13 : PySem.W.nsIn K mainGlobals "is_move_by_partners" = some (some (.ref f13))) (l13 : K.lookup f13 = some ⟨oc13, od13, .func (PySem.W.fnOf "is_move_by_partners" "is_move_by_partners" (defArgs s_is_move_by_partners) (defBody s_is_move_by_partners) (defScope s_is_move_by_partners) .none kV13 dc13 pm13 an13 cd13 ct13), sl13⟩) (c13 : PySem.W.codeIn K cd13 "is_move_by_partners" = true) (k13 : PySem.W.keepIn K (.ref f13) = true)
    {f14 : Addr} {od14 an14 : Option Addr} {sl14 : Array (Option Value)} {oc14 kV14 dc14 pm14 cd14 ct14 : Value}
    (a14 : PySem.W.nsIn K mainGlobals "checked_move" = some (some (.ref f14))) (l14 : K.lookup f14 = some ⟨oc14, od14, .func (PySem.W.fnOf "checked_move" "checked_move" (defArgs s_checked_move) (defBody s_checked_move) (defScope s_checked_move) .none kV14 dc14 pm14 an14 cd14 ct14), sl14⟩) (c14 : PySem.W.codeIn K cd14 "checked_move" = true) (k14 : PySem.W.keepIn K (.ref f14) = true)
    {f15 : Addr} {od15 an15 : Option Addr} {sl15 : Array (Option Value)} {oc15 kV15 dc15 pm15 cd15 ct15 : Value}
    (a15 : PySem.W.nsIn K mainGlobals "_joins" = some (some (.ref f15))) (l15 : K.lookup f15 = some ⟨oc15, od15, .func (PySem.W.fnOf "_joins" "_joins" (defArgs s__joins) (defBody s__joins) (defScope s__joins) .none kV15 dc15 pm15 an15 cd15 ct15), sl15⟩) (c15 : PySem.W.codeIn K cd15 "_joins" = true) (k15 : PySem.W.keepIn K (.ref f15) = true)
    {f16 : Addr} {od16 an16 : Option Addr} {sl16 : Array (Option Value)} {oc16 kV16 dc16 pm16 cd16 ct16 : Value}
    (a16 : PySem.W.nsIn K mainGlobals "_transfers" = some (some (.ref f16))) (l16 : K.lookup f16 = some ⟨oc16, od16, .func (PySem.W.fnOf "_transfers" "_transfers" (defArgs s__transfers) (defBody s__transfers) (defScope s__transfers) .none kV16 dc16 pm16 an16 cd16 ct16), sl16⟩) (c16 : PySem.W.codeIn K cd16 "_transfers" = true) (k16 : PySem.W.keepIn K (.ref f16) = true)
    {f17 : Addr} {od17 an17 : Option Addr} {sl17 : Array (Option Value)} {oc17 kV17 dc17 pm17 cd17 ct17 : Value}
    (a17 : PySem.W.nsIn K mainGlobals "_swaps" = some (some (.ref f17))) (l17 : K.lookup f17 = some ⟨oc17, od17, .func (PySem.W.fnOf "_swaps" "_swaps" (defArgs s__swaps) (defBody s__swaps) (defScope s__swaps) .none kV17 dc17 pm17 an17 cd17 ct17), sl17⟩) (c17 : PySem.W.codeIn K cd17 "_swaps" = true) (k17 : PySem.W.keepIn K (.ref f17) = true)
    {f18 : Addr} {od18 an18 : Option Addr} {sl18 : Array (Option Value)} {oc18 kV18 dc18 pm18 cd18 ct18 : Value}
    (a18 : PySem.W.nsIn K mainGlobals "moves_of" = some (some (.ref f18))) (l18 : K.lookup f18 = some ⟨oc18, od18, .func (PySem.W.fnOf "moves_of" "moves_of" (defArgs s_moves_of) (defBody s_moves_of) (defScope s_moves_of) .none kV18 dc18 pm18 an18 cd18 ct18), sl18⟩) (c18 : PySem.W.codeIn K cd18 "moves_of" = true) (k18 : PySem.W.keepIn K (.ref f18) = true)
    {f19 : Addr} {od19 an19 : Option Addr} {sl19 : Array (Option Value)} {oc19 kV19 dc19 pm19 cd19 ct19 : Value}
    (a19 : PySem.W.nsIn K mainGlobals "_far_end" = some (some (.ref f19))) (l19 : K.lookup f19 = some ⟨oc19, od19, .func (PySem.W.fnOf "_far_end" "_far_end" (defArgs s__far_end) (defBody s__far_end) (defScope s__far_end) .none kV19 dc19 pm19 an19 cd19 ct19), sl19⟩) (c19 : PySem.W.codeIn K cd19 "_far_end" = true) (k19 : PySem.W.keepIn K (.ref f19) = true)
    {f20 : Addr} {od20 an20 : Option Addr} {sl20 : Array (Option Value)} {oc20 kV20 dc20 pm20 cd20 ct20 : Value}
    (a20 : PySem.W.nsIn K mainGlobals "_kind_of_swap" = some (some (.ref f20))) (l20 : K.lookup f20 = some ⟨oc20, od20, .func (PySem.W.fnOf "_kind_of_swap" "_kind_of_swap" (defArgs s__kind_of_swap) (defBody s__kind_of_swap) (defScope s__kind_of_swap) .none kV20 dc20 pm20 an20 cd20 ct20), sl20⟩) (c20 : PySem.W.codeIn K cd20 "_kind_of_swap" = true) (k20 : PySem.W.keepIn K (.ref f20) = true)
    {f21 : Addr} {od21 an21 : Option Addr} {sl21 : Array (Option Value)} {oc21 kV21 dc21 pm21 cd21 ct21 : Value}
    (a21 : PySem.W.nsIn K mainGlobals "_kind_of_transfer" = some (some (.ref f21))) (l21 : K.lookup f21 = some ⟨oc21, od21, .func (PySem.W.fnOf "_kind_of_transfer" "_kind_of_transfer" (defArgs s__kind_of_transfer) (defBody s__kind_of_transfer) (defScope s__kind_of_transfer) .none kV21 dc21 pm21 an21 cd21 ct21), sl21⟩) (c21 : PySem.W.codeIn K cd21 "_kind_of_transfer" = true) (k21 : PySem.W.keepIn K (.ref f21) = true)
    {f22 : Addr} {od22 an22 : Option Addr} {sl22 : Array (Option Value)} {oc22 kV22 dc22 pm22 cd22 ct22 : Value}
    (a22 : PySem.W.nsIn K mainGlobals "_kind_when_cut" = some (some (.ref f22))) (l22 : K.lookup f22 = some ⟨oc22, od22, .func (PySem.W.fnOf "_kind_when_cut" "_kind_when_cut" (defArgs s__kind_when_cut) (defBody s__kind_when_cut) (defScope s__kind_when_cut) .none kV22 dc22 pm22 an22 cd22 ct22), sl22⟩) (c22 : PySem.W.codeIn K cd22 "_kind_when_cut" = true) (k22 : PySem.W.keepIn K (.ref f22) = true)
    {f23 : Addr} {od23 an23 : Option Addr} {sl23 : Array (Option Value)} {oc23 kV23 dc23 pm23 cd23 ct23 : Value}
    (a23 : PySem.W.nsIn K mainGlobals "make_named_move" = some (some (.ref f23))) (l23 : K.lookup f23 = some ⟨oc23, od23, .func (PySem.W.fnOf "make_named_move" "make_named_move" (defArgs s_make_named_move) (defBody s_make_named_move) (defScope s_make_named_move) .none kV23 dc23 pm23 an23 cd23 ct23), sl23⟩) (c23 : PySem.W.codeIn K cd23 "make_named_move" = true) (k23 : PySem.W.keepIn K (.ref f23) = true)
    {f24 : Addr} {od24 an24 : Option Addr} {sl24 : Array (Option Value)} {oc24 kV24 dc24 pm24 cd24 ct24 : Value}
    (a24 : PySem.W.nsIn K mainGlobals "kind_of" = some (some (.ref f24))) (l24 : K.lookup f24 = some ⟨oc24, od24, .func (PySem.W.fnOf "kind_of" "kind_of" (defArgs s_kind_of) (defBody s_kind_of) (defScope s_kind_of) .none kV24 dc24 pm24 an24 cd24 ct24), sl24⟩) (c24 : PySem.W.codeIn K cd24 "kind_of" = true) (k24 : PySem.W.keepIn K (.ref f24) = true)
    {f25 : Addr} {od25 an25 : Option Addr} {sl25 : Array (Option Value)} {oc25 kV25 dc25 pm25 cd25 ct25 : Value}
    (a25 : PySem.W.nsIn K mainGlobals "_law_tap" = some (some (.ref f25))) (l25 : K.lookup f25 = some ⟨oc25, od25, .func (PySem.W.fnOf "_law_tap" "_law_tap" (defArgs s__law_tap) (defBody s__law_tap) (defScope s__law_tap) .none kV25 dc25 pm25 an25 cd25 ct25), sl25⟩) (c25 : PySem.W.codeIn K cd25 "_law_tap" = true) (k25 : PySem.W.keepIn K (.ref f25) = true)
    {f26 : Addr} {od26 an26 : Option Addr} {sl26 : Array (Option Value)} {oc26 kV26 dc26 pm26 cd26 ct26 : Value}
    (a26 : PySem.W.nsIn K mainGlobals "_law_draw" = some (some (.ref f26))) (l26 : K.lookup f26 = some ⟨oc26, od26, .func (PySem.W.fnOf "_law_draw" "_law_draw" (defArgs s__law_draw) (defBody s__law_draw) (defScope s__law_draw) .none kV26 dc26 pm26 an26 cd26 ct26), sl26⟩) (c26 : PySem.W.codeIn K cd26 "_law_draw" = true) (k26 : PySem.W.keepIn K (.ref f26) = true)
    {f27 : Addr} {od27 an27 : Option Addr} {sl27 : Array (Option Value)} {oc27 kV27 dc27 pm27 cd27 ct27 : Value}
    (a27 : PySem.W.nsIn K mainGlobals "_law_cells" = some (some (.ref f27))) (l27 : K.lookup f27 = some ⟨oc27, od27, .func (PySem.W.fnOf "_law_cells" "_law_cells" (defArgs s__law_cells) (defBody s__law_cells) (defScope s__law_cells) .none kV27 dc27 pm27 an27 cd27 ct27), sl27⟩) (c27 : PySem.W.codeIn K cd27 "_law_cells" = true) (k27 : PySem.W.keepIn K (.ref f27) = true)
    {f28 : Addr} {od28 an28 : Option Addr} {sl28 : Array (Option Value)} {oc28 kV28 dc28 pm28 cd28 ct28 : Value}
    (a28 : PySem.W.nsIn K mainGlobals "_law_ends" = some (some (.ref f28))) (l28 : K.lookup f28 = some ⟨oc28, od28, .func (PySem.W.fnOf "_law_ends" "_law_ends" (defArgs s__law_ends) (defBody s__law_ends) (defScope s__law_ends) .none kV28 dc28 pm28 an28 cd28 ct28), sl28⟩) (c28 : PySem.W.codeIn K cd28 "_law_ends" = true) (k28 : PySem.W.keepIn K (.ref f28) = true)
    {f29 : Addr} {od29 an29 : Option Addr} {sl29 : Array (Option Value)} {oc29 kV29 dc29 pm29 cd29 ct29 : Value}
    (a29 : PySem.W.nsIn K mainGlobals "_law_pair" = some (some (.ref f29))) (l29 : K.lookup f29 = some ⟨oc29, od29, .func (PySem.W.fnOf "_law_pair" "_law_pair" (defArgs s__law_pair) (defBody s__law_pair) (defScope s__law_pair) .none kV29 dc29 pm29 an29 cd29 ct29), sl29⟩) (c29 : PySem.W.codeIn K cd29 "_law_pair" = true) (k29 : PySem.W.keepIn K (.ref f29) = true)
    {f30 : Addr} {od30 an30 : Option Addr} {sl30 : Array (Option Value)} {oc30 kV30 dc30 pm30 cd30 ct30 : Value}
    (a30 : PySem.W.nsIn K mainGlobals "_law_partners" = some (some (.ref f30))) (l30 : K.lookup f30 = some ⟨oc30, od30, .func (PySem.W.fnOf "_law_partners" "_law_partners" (defArgs s__law_partners) (defBody s__law_partners) (defScope s__law_partners) .none kV30 dc30 pm30 an30 cd30 ct30), sl30⟩) (c30 : PySem.W.codeIn K cd30 "_law_partners" = true) (k30 : PySem.W.keepIn K (.ref f30) = true)
    {f31 : Addr} {od31 an31 : Option Addr} {sl31 : Array (Option Value)} {oc31 kV31 dc31 pm31 cd31 ct31 : Value}
    (a31 : PySem.W.nsIn K mainGlobals "_law_layout" = some (some (.ref f31))) (l31 : K.lookup f31 = some ⟨oc31, od31, .func (PySem.W.fnOf "_law_layout" "_law_layout" (defArgs s__law_layout) (defBody s__law_layout) (defScope s__law_layout) .none kV31 dc31 pm31 an31 cd31 ct31), sl31⟩) (c31 : PySem.W.codeIn K cd31 "_law_layout" = true) (k31 : PySem.W.keepIn K (.ref f31) = true)
    {f32 : Addr} {od32 an32 : Option Addr} {sl32 : Array (Option Value)} {oc32 kV32 dc32 pm32 cd32 ct32 : Value}
    (a32 : PySem.W.nsIn K mainGlobals "_law_after" = some (some (.ref f32))) (l32 : K.lookup f32 = some ⟨oc32, od32, .func (PySem.W.fnOf "_law_after" "_law_after" (defArgs s__law_after) (defBody s__law_after) (defScope s__law_after) .none kV32 dc32 pm32 an32 cd32 ct32), sl32⟩) (c32 : PySem.W.codeIn K cd32 "_law_after" = true) (k32 : PySem.W.keepIn K (.ref f32) = true)
    {f33 : Addr} {od33 an33 : Option Addr} {sl33 : Array (Option Value)} {oc33 kV33 dc33 pm33 cd33 ct33 : Value}
    (a33 : PySem.W.nsIn K mainGlobals "_law_free" = some (some (.ref f33))) (l33 : K.lookup f33 = some ⟨oc33, od33, .func (PySem.W.fnOf "_law_free" "_law_free" (defArgs s__law_free) (defBody s__law_free) (defScope s__law_free) .none kV33 dc33 pm33 an33 cd33 ct33), sl33⟩) (c33 : PySem.W.codeIn K cd33 "_law_free" = true) (k33 : PySem.W.keepIn K (.ref f33) = true)
    {f34 : Addr} {od34 an34 : Option Addr} {sl34 : Array (Option Value)} {oc34 kV34 dc34 pm34 cd34 ct34 : Value}
    (a34 : PySem.W.nsIn K mainGlobals "_law_any_move" = some (some (.ref f34))) (l34 : K.lookup f34 = some ⟨oc34, od34, .func (PySem.W.fnOf "_law_any_move" "_law_any_move" (defArgs s__law_any_move) (defBody s__law_any_move) (defScope s__law_any_move) .none kV34 dc34 pm34 an34 cd34 ct34), sl34⟩) (c34 : PySem.W.codeIn K cd34 "_law_any_move" = true) (k34 : PySem.W.keepIn K (.ref f34) = true)
    {f35 : Addr} {od35 an35 : Option Addr} {sl35 : Array (Option Value)} {oc35 kV35 dc35 pm35 cd35 ct35 : Value}
    (a35 : PySem.W.nsIn K mainGlobals "_law_groups" = some (some (.ref f35))) (l35 : K.lookup f35 = some ⟨oc35, od35, .func (PySem.W.fnOf "_law_groups" "_law_groups" (defArgs s__law_groups) (defBody s__law_groups) (defScope s__law_groups) .none kV35 dc35 pm35 an35 cd35 ct35), sl35⟩) (c35 : PySem.W.codeIn K cd35 "_law_groups" = true) (k35 : PySem.W.keepIn K (.ref f35) = true)
    {f36 : Addr} {od36 an36 : Option Addr} {sl36 : Array (Option Value)} {oc36 kV36 dc36 pm36 cd36 ct36 : Value}
    (a36 : PySem.W.nsIn K mainGlobals "_law_word" = some (some (.ref f36))) (l36 : K.lookup f36 = some ⟨oc36, od36, .func (PySem.W.fnOf "_law_word" "_law_word" (defArgs s__law_word) (defBody s__law_word) (defScope s__law_word) .none kV36 dc36 pm36 an36 cd36 ct36), sl36⟩) (c36 : PySem.W.codeIn K cd36 "_law_word" = true) (k36 : PySem.W.keepIn K (.ref f36) = true)
    {f37 : Addr} {od37 an37 : Option Addr} {sl37 : Array (Option Value)} {oc37 kV37 dc37 pm37 cd37 ct37 : Value}
    (a37 : PySem.W.nsIn K mainGlobals "_law_opposite" = some (some (.ref f37))) (l37 : K.lookup f37 = some ⟨oc37, od37, .func (PySem.W.fnOf "_law_opposite" "_law_opposite" (defArgs s__law_opposite) (defBody s__law_opposite) (defScope s__law_opposite) .none kV37 dc37 pm37 an37 cd37 ct37), sl37⟩) (c37 : PySem.W.codeIn K cd37 "_law_opposite" = true) (k37 : PySem.W.keepIn K (.ref f37) = true)
    {f38 : Addr} {od38 an38 : Option Addr} {sl38 : Array (Option Value)} {oc38 kV38 dc38 pm38 cd38 ct38 : Value}
    (a38 : PySem.W.nsIn K mainGlobals "_law_told" = some (some (.ref f38))) (l38 : K.lookup f38 = some ⟨oc38, od38, .func (PySem.W.fnOf "_law_told" "_law_told" (defArgs s__law_told) (defBody s__law_told) (defScope s__law_told) .none kV38 dc38 pm38 an38 cd38 ct38), sl38⟩) (c38 : PySem.W.codeIn K cd38 "_law_told" = true) (k38 : PySem.W.keepIn K (.ref f38) = true)
    {f39 : Addr} {od39 an39 : Option Addr} {sl39 : Array (Option Value)} {oc39 kV39 dc39 pm39 cd39 ct39 : Value}
    (a39 : PySem.W.nsIn K mainGlobals "_law_right" = some (some (.ref f39))) (l39 : K.lookup f39 = some ⟨oc39, od39, .func (PySem.W.fnOf "_law_right" "_law_right" (defArgs s__law_right) (defBody s__law_right) (defScope s__law_right) .none kV39 dc39 pm39 an39 cd39 ct39), sl39⟩) (c39 : PySem.W.codeIn K cd39 "_law_right" = true) (k39 : PySem.W.keepIn K (.ref f39) = true)
    {f40 : Addr} {od40 an40 : Option Addr} {sl40 : Array (Option Value)} {oc40 kV40 dc40 pm40 cd40 ct40 : Value}
    (a40 : PySem.W.nsIn K mainGlobals "law" = some (some (.ref f40))) (l40 : K.lookup f40 = some ⟨oc40, od40, .func (PySem.W.fnOf "law" "law" (defArgs s_law) (defBody s_law) (defScope s_law) .none kV40 dc40 pm40 an40 cd40 ct40), sl40⟩) (c40 : PySem.W.codeIn K cd40 "law" = true) (k40 : PySem.W.keepIn K (.ref f40) = true)
    (z_isinstance : PySem.W.nsIn K mainGlobals "isinstance" = some none)
    (z_int : PySem.W.nsIn K mainGlobals "int" = some none)
    (z_bool : PySem.W.nsIn K mainGlobals "bool" = some none)
    (z_type : PySem.W.nsIn K mainGlobals "type" = some none)
    (z_tuple : PySem.W.nsIn K mainGlobals "tuple" = some none)
    (z_len : PySem.W.nsIn K mainGlobals "len" = some none)
    (z_range : PySem.W.nsIn K mainGlobals "range" = some none)
    (z_list : PySem.W.nsIn K mainGlobals "list" = some none)
    (z_enumerate : PySem.W.nsIn K mainGlobals "enumerate" = some none)
    (z_sorted : PySem.W.nsIn K mainGlobals "sorted" = some none)
    (z_abs : PySem.W.nsIn K mainGlobals "abs" = some none)
    (z_max : PySem.W.nsIn K mainGlobals "max" = some none)
    (z_min : PySem.W.nsIn K mainGlobals "min" = some none)
    {t_MOST_PIECES : Tok} (y_MOST_PIECES : PySem.W.nsIn K mainGlobals "MOST_PIECES" = some (some (.int 60 t_MOST_PIECES)))
    {A_FORMS : Addr} (y_FORMS : PySem.W.nsIn K mainGlobals "FORMS" = some (some (.ref A_FORMS))) (p_FORMS : pairsK K A_FORMS = some [(2, 2), (1, 1), (1, 0), (0, 1)])
    {C_InvalidPieces : Addr} (ca_InvalidPieces : PySem.W.nsIn K mainGlobals "InvalidPieces" = some (some (.ref C_InvalidPieces))) (cb_InvalidPieces : errB K C_InvalidPieces = true)
    (cq_InvalidPieces : PySem.W.excIn K C_InvalidPieces veMro "ValueError.__new__" = true)
    {C_InvalidLayout : Addr} (ca_InvalidLayout : PySem.W.nsIn K mainGlobals "InvalidLayout" = some (some (.ref C_InvalidLayout))) (cb_InvalidLayout : errB K C_InvalidLayout = true)
    {fI_InvalidLayout c_InvalidLayout cc_InvalidLayout : Addr} {od_InvalidLayout an_InvalidLayout cdd_InvalidLayout cld_InvalidLayout : Option Addr} {sl_InvalidLayout ccs_InvalidLayout csl_InvalidLayout : Array (Option Value)} {oc_InvalidLayout kV_InvalidLayout dc_InvalidLayout pm_InvalidLayout ct_InvalidLayout ccl_InvalidLayout cl_InvalidLayout : Value} {vs_InvalidLayout : Array Value} {fi_InvalidLayout : Str} {tf_InvalidLayout : Tok}
    (ci_InvalidLayout : PySem.W.findIn K (.ref C_InvalidLayout) "__init__" = some (some (.ref fI_InvalidLayout))) (cy_InvalidLayout : PySem.W.typeIn K (.ref fI_InvalidLayout) = some (.type "function"))
    (cl_InvalidLayout' : K.lookup fI_InvalidLayout = some ⟨oc_InvalidLayout, od_InvalidLayout, .func (PySem.W.fnX "__init__" "InvalidLayout.__init__" (defArgs i_InvalidLayout) (defBody i_InvalidLayout) (defScope i_InvalidLayout) [("__class__", cc_InvalidLayout)] .none kV_InvalidLayout dc_InvalidLayout pm_InvalidLayout an_InvalidLayout (.ref c_InvalidLayout) ct_InvalidLayout), sl_InvalidLayout⟩)
    (cd_InvalidLayout : PySem.W.codeIn K (.ref c_InvalidLayout) "InvalidLayout.__init__" = true) (ck_InvalidLayout : K.lookup cc_InvalidLayout = some ⟨cl_InvalidLayout, cld_InvalidLayout, .cell (some (.ref C_InvalidLayout)), csl_InvalidLayout⟩) (ce_InvalidLayout : K.lookup c_InvalidLayout = some ⟨ccl_InvalidLayout, cdd_InvalidLayout, .fields vs_InvalidLayout, ccs_InvalidLayout⟩)
    (cv_InvalidLayout : vs_InvalidLayout[2]? = some (.str fi_InvalidLayout tf_InvalidLayout)) (cf_InvalidLayout : ((l.prog.main.file : Str) == fi_InvalidLayout) = true) (cs_InvalidLayout : supV K C_InvalidLayout) (cn_InvalidLayout : PySem.W.findIn K (.ref C_InvalidLayout) "index" = some none)
    {C_InvalidMove : Addr} (ca_InvalidMove : PySem.W.nsIn K mainGlobals "InvalidMove" = some (some (.ref C_InvalidMove))) (cb_InvalidMove : errB K C_InvalidMove = true)
    (cq_InvalidMove : PySem.W.excIn K C_InvalidMove veMro "ValueError.__new__" = true)
    (c_super : PySem.W.nsIn K mainGlobals "super" = some none) (c_st : PySem.W.nsIn K cStatics "thirdparty.any" = some none) (c_top : (l.prog.main.scope.names.lookup ("super" : Str)).isSome = false) :
    ∃ fd : FuncData, (∀ (s : Shared) (v : Value), BindsTo s fd ⟨[v], []⟩ [("script", v)]) ∧ ∀ base : Heap, K.In base → base.Ns mainGlobals mg → FnG l.prog w K mg base CX0 11 fa fd ["script"] (sp_law K) := by
  have e := hfa.symm.trans (PySem.W.mg_of X G a40)
  cases e
  have m_isinstance := PySem.W.mg_none_of X G z_isinstance
  have m_int := PySem.W.mg_none_of X G z_int
  have m_bool := PySem.W.mg_none_of X G z_bool
  have m_type := PySem.W.mg_none_of X G z_type
  have m_tuple := PySem.W.mg_none_of X G z_tuple
  have m_len := PySem.W.mg_none_of X G z_len
  have m_range := PySem.W.mg_none_of X G z_range
  have m_list := PySem.W.mg_none_of X G z_list
  have m_enumerate := PySem.W.mg_none_of X G z_enumerate
  have m_sorted := PySem.W.mg_none_of X G z_sorted
  have m_abs := PySem.W.mg_none_of X G z_abs
  have m_max := PySem.W.mg_none_of X G z_max
  have m_min := PySem.W.mg_none_of X G z_min
  have g_MOST_PIECES := PySem.W.mg_of X G y_MOST_PIECES
  have g_FORMS := PySem.W.mg_of X G y_FORMS
  have F0 := fun_mk (st := s_is_integer) l0 c0 k0
  have F1 := fun_mk (st := s_are_integers) l1 c1 k1
  have F2 := fun_mk (st := s_is_coupling) l2 c2 k2
  have F3 := fun_mk (st := s_coupling_of) l3 c3 k3
  have F4 := fun_mk (st := s_opens_in) l4 c4 k4
  have F5 := fun_mk (st := s_couplings_in) l5 c5 k5
  have F6 := fun_mk (st := s_check_pieces) l6 c6 k6
  have F7 := fun_mk (st := s_partners_or_wrong) l7 c7 k7
  have F8 := fun_mk (st := s_checked_partners) l8 c8 k8
  have F9 := fun_mk (st := s__are_ascending_couplings) l9 c9 k9
  have F10 := fun_mk (st := s__has_form) l10 c10 k10
  have F11 := fun_mk (st := s__joins_otherwise) l11 c11 k11
  have F12 := fun_mk (st := s__joins_to_open) l12 c12 k12
  have F13 := fun_mk (st := s_is_move_by_partners) l13 c13 k13
  have F14 := fun_mk (st := s_checked_move) l14 c14 k14
  have F15 := fun_mk (st := s__joins) l15 c15 k15
  have F16 := fun_mk (st := s__transfers) l16 c16 k16
  have F17 := fun_mk (st := s__swaps) l17 c17 k17
  have F18 := fun_mk (st := s_moves_of) l18 c18 k18
  have F19 := fun_mk (st := s__far_end) l19 c19 k19
  have F20 := fun_mk (st := s__kind_of_swap) l20 c20 k20
  have F21 := fun_mk (st := s__kind_of_transfer) l21 c21 k21
  have F22 := fun_mk (st := s__kind_when_cut) l22 c22 k22
  have F23 := fun_mk (st := s_make_named_move) l23 c23 k23
  have F24 := fun_mk (st := s_kind_of) l24 c24 k24
  have F25 := fun_mk (st := s__law_tap) l25 c25 k25
  have F26 := fun_mk (st := s__law_draw) l26 c26 k26
  have F27 := fun_mk (st := s__law_cells) l27 c27 k27
  have F28 := fun_mk (st := s__law_ends) l28 c28 k28
  have F29 := fun_mk (st := s__law_pair) l29 c29 k29
  have F30 := fun_mk (st := s__law_partners) l30 c30 k30
  have F31 := fun_mk (st := s__law_layout) l31 c31 k31
  have F32 := fun_mk (st := s__law_after) l32 c32 k32
  have F33 := fun_mk (st := s__law_free) l33 c33 k33
  have F34 := fun_mk (st := s__law_any_move) l34 c34 k34
  have F35 := fun_mk (st := s__law_groups) l35 c35 k35
  have F36 := fun_mk (st := s__law_word) l36 c36 k36
  have F37 := fun_mk (st := s__law_opposite) l37 c37 k37
  have F38 := fun_mk (st := s__law_told) l38 c38 k38
  have F39 := fun_mk (st := s__law_right) l39 c39 k39
  have F40 := fun_mk (st := s_law) l40 c40 k40
  refine ⟨PySem.W.fnOf "law" "law" (defArgs s_law) (defBody s_law) (defScope s_law) .none kV40 dc40 pm40 an40 cd40 ct40, fun s v => .of_eq rfl, fun base _ _ => ?_⟩
  have N_InvalidPieces : New1 K mg "InvalidPieces" := new1_of X G ca_InvalidPieces cb_InvalidPieces cq_InvalidPieces
  have P_InvalidLayout : ∀ e ∈ (partsOf i_InvalidLayout), Part "index" e := by
    intro e he
    rcases List.mem_cons.mp he with rfl | he
    · exact .cst _ _ _ (by decide)
    rcases List.mem_cons.mp he with rfl | he
    · exact .fmt _ _
    rcases List.mem_cons.mp he with rfl | he
    · exact .cst _ _ _ (by decide)
    cases he
  have F_InvalidLayout : NewF l.prog w K mg base "InvalidLayout" "index" := newF_of (par := "index") X G cl_InvalidLayout' cd_InvalidLayout (NdefX.nscope_by (by decide +kernel)) ck_InvalidLayout rfl rfl ce_InvalidLayout cv_InvalidLayout cf_InvalidLayout c_super c_top c_st rfl ca_InvalidLayout cb_InvalidLayout ci_InvalidLayout cy_InvalidLayout cs_InvalidLayout cn_InvalidLayout (fun _ => rfl) (fun _ => rfl) (fun _ => rfl) (fun _ => rfl) (fun _ => rfl) P_InvalidLayout (by decide) (by decide) (by decide) (fun _ _ => rfl)
  have N_InvalidMove : New1 K mg "InvalidMove" := new1_of X G ca_InvalidMove cb_InvalidMove cq_InvalidMove
  have D_is_integer : Def l.prog w K mg base 1 "is_integer" ["value"] (sp_is_integer K) := ⟨f0, _, ok_is_integer F0 m_isinstance m_int m_bool, F0.kp, F0.binds (ps := ["value"]) fun _ _ _ _ _ _ us hl => match us, hl with | [_], _ => rfl, PySem.W.mg_of X G a0⟩
  have D_are_integers : Def l.prog w K mg base 2 "are_integers" ["one", "other"] (sp_are_integers K) := ⟨f1, _, ok_are_integers F1 D_is_integer m_int m_type, F1.kp, F1.binds (ps := ["one", "other"]) fun _ _ _ _ _ _ us hl => match us, hl with | [_, _], _ => rfl, PySem.W.mg_of X G a1⟩
  have D_is_coupling : Def l.prog w K mg base 3 "is_coupling" ["pieces", "value"] (sp_is_coupling K) := ⟨f2, _, ok_is_coupling F2 D_are_integers m_tuple m_type m_len, F2.kp, F2.binds (ps := ["pieces", "value"]) fun _ _ _ _ _ _ us hl => match us, hl with | [_, _], _ => rfl, PySem.W.mg_of X G a2⟩
  have D_coupling_of : Def l.prog w K mg base 1 "coupling_of" ["end", "other"] (sp_coupling_of K) := ⟨f3, _, ok_coupling_of F3 , F3.kp, F3.binds (ps := ["end", "other"]) fun _ _ _ _ _ _ us hl => match us, hl with | [_, _], _ => rfl, PySem.W.mg_of X G a3⟩
  have D_opens_in : Def l.prog w K mg base 1 "opens_in" ["pieces", "partners"] (sp_opens_in K) := ⟨f4, _, ok_opens_in F4 m_range, F4.kp, F4.binds (ps := ["pieces", "partners"]) fun _ _ _ _ _ _ us hl => match us, hl with | [_, _], _ => rfl, PySem.W.mg_of X G a4⟩
  have D_couplings_in : Def l.prog w K mg base 1 "couplings_in" ["partners"] (sp_couplings_in K) := ⟨f5, _, ok_couplings_in F5 m_len, F5.kp, F5.binds (ps := ["partners"]) fun _ _ _ _ _ _ us hl => match us, hl with | [_], _ => rfl, PySem.W.mg_of X G a5⟩
  have D_check_pieces : DefR l.prog w K mg base 2 "check_pieces" ["pieces"] (sp_check_pieces K) := ⟨f6, _, ok_check_pieces F6 D_is_integer m_int m_type N_InvalidPieces g_MOST_PIECES, F6.kp, F6.binds (ps := ["pieces"]) fun _ _ _ _ _ _ us hl => match us, hl with | [_], _ => rfl, PySem.W.mg_of X G a6⟩
  have D_partners_or_wrong : Def l.prog w K mg base 3 "partners_or_wrong" ["pieces", "items"] (sp_partners_or_wrong K) := ⟨f7, _, ok_partners_or_wrong F7 D_couplings_in D_are_integers m_tuple m_type m_len m_int, F7.kp, F7.binds (ps := ["pieces", "items"]) fun _ _ _ _ _ _ us hl => match us, hl with | [_, _], _ => rfl, PySem.W.mg_of X G a7⟩
  have D_checked_partners : DefR l.prog w K mg base 4 "checked_partners" ["pieces", "layout"] (sp_checked_partners K) := ⟨f8, _, ok_checked_partners F8 D_partners_or_wrong m_list m_int m_type F_InvalidLayout, F8.kp, F8.binds (ps := ["pieces", "layout"]) fun _ _ _ _ _ _ us hl => match us, hl with | [_, _], _ => rfl, PySem.W.mg_of X G a8⟩
  have D__are_ascending_couplings : Def l.prog w K mg base 4 "_are_ascending_couplings" ["pieces", "items"] (sp__are_ascending_couplings K) := ⟨f9, _, ok__are_ascending_couplings F9 D_is_coupling m_len, F9.kp, F9.binds (ps := ["pieces", "items"]) fun _ _ _ _ _ _ us hl => match us, hl with | [_, _], _ => rfl, PySem.W.mg_of X G a9⟩
  have D__has_form : Def l.prog w K mg base 5 "_has_form" ["pieces", "value"] (sp__has_form K) := ⟨f10, _, ok__has_form F10 D__are_ascending_couplings m_tuple m_list m_type m_len g_FORMS p_FORMS, F10.kp, F10.binds (ps := ["pieces", "value"]) fun _ _ _ _ _ _ us hl => match us, hl with | [_, _], _ => rfl, PySem.W.mg_of X G a10⟩
  have D__joins_otherwise : Def l.prog w K mg base 2 "_joins_otherwise" ["cut", "joined"] (sp__joins_otherwise K) := ⟨f11, _, ok__joins_otherwise F11 D_coupling_of, F11.kp, F11.binds (ps := ["cut", "joined"]) fun _ _ _ _ _ _ us hl => match us, hl with | [_, _], _ => rfl, PySem.W.mg_of X G a11⟩
  have D__joins_to_open : Def l.prog w K mg base 1 "_joins_to_open" ["cut", "joined", "partners"] (sp__joins_to_open K) := ⟨f12, _, ok__joins_to_open F12 , F12.kp, F12.binds (ps := ["cut", "joined", "partners"]) fun _ _ _ _ _ _ us hl => match us, hl with | [_, _, _], _ => rfl, PySem.W.mg_of X G a12⟩
  have D_is_move_by_partners : Def l.prog w K mg base 6 "is_move_by_partners" ["pieces", "partners", "value"] (sp_is_move_by_partners K) := ⟨f13, _, ok_is_move_by_partners F13 D__has_form D__joins_otherwise D__joins_to_open m_len, F13.kp, F13.binds (ps := ["pieces", "partners", "value"]) fun _ _ _ _ _ _ us hl => match us, hl with | [_, _, _], _ => rfl, PySem.W.mg_of X G a13⟩
  have D_checked_move : DefR l.prog w K mg base 7 "checked_move" ["pieces", "layout", "move"] (sp_checked_move K) := ⟨f14, _, ok_checked_move F14 D_check_pieces D_checked_partners D_is_move_by_partners N_InvalidMove, F14.kp, F14.binds (ps := ["pieces", "layout", "move"]) fun _ _ _ _ _ _ us hl => match us, hl with | [_, _, _], _ => rfl, PySem.W.mg_of X G a14⟩
  have D__joins : Def l.prog w K mg base 1 "_joins" ["ends"] (sp__joins K) := ⟨f15, _, ok__joins F15 m_enumerate, F15.kp, F15.binds (ps := ["ends"]) fun _ _ _ _ _ _ us hl => match us, hl with | [_], _ => rfl, PySem.W.mg_of X G a15⟩
  have D__transfers : Def l.prog w K mg base 2 "_transfers" ["coupling", "ends"] (sp__transfers K) := ⟨f16, _, ok__transfers F16 D_coupling_of m_sorted, F16.kp, F16.binds (ps := ["coupling", "ends"]) fun _ _ _ _ _ _ us hl => match us, hl with | [_, _], _ => rfl, PySem.W.mg_of X G a16⟩
  have D__swaps : Def l.prog w K mg base 2 "_swaps" ["coupling", "others"] (sp__swaps K) := ⟨f17, _, ok__swaps F17 D_coupling_of, F17.kp, F17.binds (ps := ["coupling", "others"]) fun _ _ _ _ _ _ us hl => match us, hl with | [_, _], _ => rfl, PySem.W.mg_of X G a17⟩
  have D_moves_of : DefR l.prog w K mg base 5 "moves_of" ["pieces", "layout"] (sp_moves_of K) := ⟨f18, _, ok_moves_of F18 D_check_pieces D_checked_partners D_opens_in D__joins D__transfers D__swaps m_enumerate, F18.kp, F18.binds (ps := ["pieces", "layout"]) fun _ _ _ _ _ _ us hl => match us, hl with | [_, _], _ => rfl, PySem.W.mg_of X G a18⟩
  have D__far_end : Def l.prog w K mg base 1 "_far_end" ["partners", "end"] (sp__far_end K) := ⟨f19, _, ok__far_end F19 , F19.kp, F19.binds (ps := ["partners", "end"]) fun _ _ _ _ _ _ us hl => match us, hl with | [_, _], _ => rfl, PySem.W.mg_of X G a19⟩
  have D__kind_of_swap : Def l.prog w K mg base 2 "_kind_of_swap" ["partners", "cut", "joined"] (sp__kind_of_swap K) := ⟨f20, _, ok__kind_of_swap F20 D__far_end D_coupling_of, F20.kp, F20.binds (ps := ["partners", "cut", "joined"]) fun _ _ _ _ _ _ us hl => match us, hl with | [_, _, _], _ => rfl, PySem.W.mg_of X G a20⟩
  have D__kind_of_transfer : Def l.prog w K mg base 2 "_kind_of_transfer" ["partners", "cut", "joined"] (sp__kind_of_transfer K) := ⟨f21, _, ok__kind_of_transfer F21 D__far_end, F21.kp, F21.binds (ps := ["partners", "cut", "joined"]) fun _ _ _ _ _ _ us hl => match us, hl with | [_, _, _], _ => rfl, PySem.W.mg_of X G a21⟩
  have D__kind_when_cut : Def l.prog w K mg base 3 "_kind_when_cut" ["partners", "cut", "joined"] (sp__kind_when_cut K) := ⟨f22, _, ok__kind_when_cut F22 D__kind_of_transfer D__kind_of_swap D__far_end m_len, F22.kp, F22.binds (ps := ["partners", "cut", "joined"]) fun _ _ _ _ _ _ us hl => match us, hl with | [_, _, _], _ => rfl, PySem.W.mg_of X G a22⟩
  have D_make_named_move : Def l.prog w K mg base 4 "make_named_move" ["partners", "move"] (sp_make_named_move K) := ⟨f23, _, ok_make_named_move F23 D__kind_when_cut, F23.kp, F23.binds (ps := ["partners", "move"]) fun _ _ _ _ _ _ us hl => match us, hl with | [_, _], _ => rfl, PySem.W.mg_of X G a23⟩
  have D_kind_of : DefR l.prog w K mg base 8 "kind_of" ["pieces", "layout", "move"] (sp_kind_of K) := ⟨f24, _, ok_kind_of F24 D_make_named_move D_checked_move, F24.kp, F24.binds (ps := ["pieces", "layout", "move"]) fun _ _ _ _ _ _ us hl => match us, hl with | [_, _, _], _ => rfl, PySem.W.mg_of X G a24⟩
  have D__law_tap : Def l.prog w K mg base 1 "_law_tap" ["cell", "turn"] (sp__law_tap K) := ⟨f25, _, ok__law_tap F25 m_int m_abs, F25.kp, F25.binds (ps := ["cell", "turn"]) fun _ _ _ _ _ _ us hl => match us, hl with | [_, _], _ => rfl, PySem.W.mg_of X G a25⟩
  have D__law_draw : Def l.prog w K mg base 1 "_law_draw" ["tap", "bound"] (sp__law_draw K) := ⟨f26, _, ok__law_draw F26 m_int, F26.kp, F26.binds (ps := ["tap", "bound"]) fun _ _ _ _ _ _ us hl => match us, hl with | [_, _], _ => rfl, PySem.W.mg_of X G a26⟩
  have D__law_cells : Def l.prog w K mg base 1 "_law_cells" ["script", "many"] (sp__law_cells K) := ⟨f27, _, ok__law_cells F27 m_max m_min m_len, F27.kp, F27.binds (ps := ["script", "many"]) fun _ _ _ _ _ _ us hl => match us, hl with | [_, _], _ => rfl, PySem.W.mg_of X G a27⟩
  have D__law_ends : Def l.prog w K mg base 1 "_law_ends" ["pieces"] (sp__law_ends K) := ⟨f28, _, ok__law_ends F28 m_range, F28.kp, F28.binds (ps := ["pieces"]) fun _ _ _ _ _ _ us hl => match us, hl with | [_], _ => rfl, PySem.W.mg_of X G a28⟩
  have D__law_pair : Def l.prog w K mg base 1 "_law_pair" ["one", "other"] (sp__law_pair K) := ⟨f29, _, ok__law_pair F29 m_min m_max, F29.kp, F29.binds (ps := ["one", "other"]) fun _ _ _ _ _ _ us hl => match us, hl with | [_, _], _ => rfl, PySem.W.mg_of X G a29⟩
  have D__law_partners : Def l.prog w K mg base 1 "_law_partners" ["layout"] (sp__law_partners K) := ⟨f30, _, ok__law_partners F30 , F30.kp, F30.binds (ps := ["layout"]) fun _ _ _ _ _ _ us hl => match us, hl with | [_], _ => rfl, PySem.W.mg_of X G a30⟩
  have D__law_layout : Def l.prog w K mg base 2 "_law_layout" ["tap", "pieces"] (sp__law_layout K) := ⟨f31, _, ok__law_layout F31 D__law_ends D__law_draw D__law_pair m_sorted m_len, F31.kp, F31.binds (ps := ["tap", "pieces"]) fun _ _ _ _ _ _ us hl => match us, hl with | [_, _], _ => rfl, PySem.W.mg_of X G a31⟩
  have D__law_after : Def l.prog w K mg base 1 "_law_after" ["layout", "move"] (sp__law_after K) := ⟨f32, _, ok__law_after F32 m_sorted, F32.kp, F32.binds (ps := ["layout", "move"]) fun _ _ _ _ _ _ us hl => match us, hl with | [_, _], _ => rfl, PySem.W.mg_of X G a32⟩
  have D__law_free : Def l.prog w K mg base 2 "_law_free" ["pieces", "layout"] (sp__law_free K) := ⟨f33, _, ok__law_free F33 D__law_partners D__law_ends, F33.kp, F33.binds (ps := ["pieces", "layout"]) fun _ _ _ _ _ _ us hl => match us, hl with | [_, _], _ => rfl, PySem.W.mg_of X G a33⟩
  have D__law_any_move : Def l.prog w K mg base 3 "_law_any_move" ["tap", "pieces", "layout"] (sp__law_any_move K) := ⟨f34, _, ok__law_any_move F34 D__law_draw D__law_free D__law_pair m_sorted m_len, F34.kp, F34.binds (ps := ["tap", "pieces", "layout"]) fun _ _ _ _ _ _ us hl => match us, hl with | [_, _, _], _ => rfl, PySem.W.mg_of X G a34⟩
  have D__law_groups : Def l.prog w K mg base 2 "_law_groups" ["pieces", "layout"] (sp__law_groups K) := ⟨f35, _, ok__law_groups F35 D__law_partners m_list m_sorted m_range m_len m_int m_abs, F35.kp, F35.binds (ps := ["pieces", "layout"]) fun _ _ _ _ _ _ us hl => match us, hl with | [_, _], _ => rfl, PySem.W.mg_of X G a35⟩
  have D__law_word : Def l.prog w K mg base 3 "_law_word" ["pieces", "layout", "later"] (sp__law_word K) := ⟨f36, _, ok__law_word F36 D__law_groups m_len, F36.kp, F36.binds (ps := ["pieces", "layout", "later"]) fun _ _ _ _ _ _ us hl => match us, hl with | [_, _, _], _ => rfl, PySem.W.mg_of X G a36⟩
  have D__law_opposite : Def l.prog w K mg base 1 "_law_opposite" ["word"] (sp__law_opposite K) := ⟨f37, _, ok__law_opposite F37 , F37.kp, F37.binds (ps := ["word"]) fun _ _ _ _ _ _ us hl => match us, hl with | [_], _ => rfl, PySem.W.mg_of X G a37⟩
  have D__law_told : DefG l.prog w K mg base 9 "_law_told" ["pieces", "layout", "move"] (sp__law_told K) := ⟨f38, _, ok__law_told F38 D__law_word D__law_after D_kind_of D__law_opposite m_list, F38.kp, F38.binds (ps := ["pieces", "layout", "move"]) fun _ _ _ _ _ _ us hl => match us, hl with | [_, _, _], _ => rfl, PySem.W.mg_of X G a38⟩
  have D__law_right : DefG l.prog w K mg base 10 "_law_right" ["tap"] (sp__law_right K) := ⟨f39, _, ok__law_right F39 D__law_layout D__law_draw D__law_any_move D__law_after D__law_told D_moves_of m_range, F39.kp, F39.binds (ps := ["tap"]) fun _ _ _ _ _ _ us hl => match us, hl with | [_], _ => rfl, PySem.W.mg_of X G a39⟩
  exact ok_law F40 D__law_cells D__law_right D__law_tap m_range m_len
end K8
open PySem PySem.W PyProof.Rows
set_option maxHeartbeats 0 in
theorem PySem.Challenge.cw_crosshitch_k08_kinds_of_moves_holds : PySem.Challenge.rw_crosshitch_k08_kinds_of_moves.Holds := by
  w_on; o_law; x_head; (case hw => w_witness2)
  k_fill
  refine Vf.walk_ofG (l := PySem.Challenge.rw_crosshitch_k08_kinds_of_moves) (n := 63) (k := 11) (x := "script") (sp := fun w => K8.sp_law _) rfl (by decide) rfl ⟨rfl, by decide, by decide⟩ (fun w h Y => PySem.W.kIn_of Y) ?F (fun _ _ a ns hl hS => ⟨a, ns, rfl, hS, hl, fun _ => rfl⟩)
  case F =>
    intro w mg fa h KX G hmg
    refine' K8.all_mk KX G hmg ?a0 ?l0 ?c0 ?k0 ?a1 ?l1 ?c1 ?k1 ?a2 ?l2 ?c2 ?k2 ?a3 ?l3 ?c3 ?k3 ?a4 ?l4 ?c4 ?k4 ?a5 ?l5 ?c5 ?k5 ?a6 ?l6 ?c6 ?k6 ?a7 ?l7 ?c7 ?k7 ?a8 ?l8 ?c8 ?k8 ?a9 ?l9 ?c9 ?k9 ?a10 ?l10 ?c10 ?k10 ?a11 ?l11 ?c11 ?k11 ?a12 ?l12 ?c12 ?k12 ?a13 ?l13 ?c13 ?k13 ?a14 ?l14 ?c14 ?k14 ?a15 ?l15 ?c15 ?k15 ?a16 ?l16 ?c16 ?k16 ?a17 ?l17 ?c17 ?k17 ?a18 ?l18 ?c18 ?k18 ?a19 ?l19 ?c19 ?k19 ?a20 ?l20 ?c20 ?k20 ?a21 ?l21 ?c21 ?k21 ?a22 ?l22 ?c22 ?k22 ?a23 ?l23 ?c23 ?k23 ?a24 ?l24 ?c24 ?k24 ?a25 ?l25 ?c25 ?k25 ?a26 ?l26 ?c26 ?k26 ?a27 ?l27 ?c27 ?k27 ?a28 ?l28 ?c28 ?k28 ?a29 ?l29 ?c29 ?k29 ?a30 ?l30 ?c30 ?k30 ?a31 ?l31 ?c31 ?k31 ?a32 ?l32 ?c32 ?k32 ?a33 ?l33 ?c33 ?k33 ?a34 ?l34 ?c34 ?k34 ?a35 ?l35 ?c35 ?k35 ?a36 ?l36 ?c36 ?k36 ?a37 ?l37 ?c37 ?k37 ?a38 ?l38 ?c38 ?k38 ?a39 ?l39 ?c39 ?k39 ?a40 ?l40 ?c40 ?k40 ?z_isinstance ?z_int ?z_bool ?z_type ?z_tuple ?z_len ?z_range ?z_list ?z_enumerate ?z_sorted ?z_abs ?z_max ?z_min ?y_MOST_PIECES ?y_FORMS ?p_FORMS ?ca_InvalidPieces ?cb_InvalidPieces ?cq_InvalidPieces ?ca_InvalidLayout ?cb_InvalidLayout ?ci_InvalidLayout ?cy_InvalidLayout ?cl_InvalidLayout' ?cd_InvalidLayout ?ck_InvalidLayout ?ce_InvalidLayout ?cv_InvalidLayout ?cf_InvalidLayout ?cs_InvalidLayout ?cn_InvalidLayout ?ca_InvalidMove ?cb_InvalidMove ?cq_InvalidMove ?c_super ?c_st ?c_top
    (case a0 => k_is); (case l0 => k_is); (case c0 => k_is); (case k0 => k_is); (case a1 => k_is); (case l1 => k_is); (case c1 => k_is); (case k1 => k_is); (case a2 => k_is); (case l2 => k_is); (case c2 => k_is); (case k2 => k_is); (case a3 => k_is); (case l3 => k_is); (case c3 => k_is); (case k3 => k_is); (case a4 => k_is); (case l4 => k_is); (case c4 => k_is); (case k4 => k_is); (case a5 => k_is); (case l5 => k_is); (case c5 => k_is); (case k5 => k_is); (case a6 => k_is); (case l6 => k_is); (case c6 => k_is); (case k6 => k_is); (case a7 => k_is); (case l7 => k_is); (case c7 => k_is); (case k7 => k_is); (case a8 => k_is); (case l8 => k_is); (case c8 => k_is); (case k8 => k_is); (case a9 => k_is); (case l9 => k_is); (case c9 => k_is); (case k9 => k_is); (case a10 => k_is); (case l10 => k_is); (case c10 => k_is); (case k10 => k_is); (case a11 => k_is); (case l11 => k_is); (case c11 => k_is); (case k11 => k_is); (case a12 => k_is); (case l12 => k_is); (case c12 => k_is); (case k12 => k_is); (case a13 => k_is); (case l13 => k_is); (case c13 => k_is); (case k13 => k_is); (case a14 => k_is); (case l14 => k_is); (case c14 => k_is); (case k14 => k_is); (case a15 => k_is); (case l15 => k_is); (case c15 => k_is); (case k15 => k_is); (case a16 => k_is); (case l16 => k_is); (case c16 => k_is); (case k16 => k_is); (case a17 => k_is); (case l17 => k_is); (case c17 => k_is); (case k17 => k_is); (case a18 => k_is); (case l18 => k_is); (case c18 => k_is); (case k18 => k_is); (case a19 => k_is); (case l19 => k_is); (case c19 => k_is); (case k19 => k_is); (case a20 => k_is); (case l20 => k_is); (case c20 => k_is); (case k20 => k_is); (case a21 => k_is); (case l21 => k_is); (case c21 => k_is); (case k21 => k_is); (case a22 => k_is); (case l22 => k_is); (case c22 => k_is); (case k22 => k_is); (case a23 => k_is); (case l23 => k_is); (case c23 => k_is); (case k23 => k_is); (case a24 => k_is); (case l24 => k_is); (case c24 => k_is); (case k24 => k_is); (case a25 => k_is); (case l25 => k_is); (case c25 => k_is); (case k25 => k_is); (case a26 => k_is); (case l26 => k_is); (case c26 => k_is); (case k26 => k_is); (case a27 => k_is); (case l27 => k_is); (case c27 => k_is); (case k27 => k_is); (case a28 => k_is); (case l28 => k_is); (case c28 => k_is); (case k28 => k_is); (case a29 => k_is); (case l29 => k_is); (case c29 => k_is); (case k29 => k_is); (case a30 => k_is); (case l30 => k_is); (case c30 => k_is); (case k30 => k_is); (case a31 => k_is); (case l31 => k_is); (case c31 => k_is); (case k31 => k_is); (case a32 => k_is); (case l32 => k_is); (case c32 => k_is); (case k32 => k_is); (case a33 => k_is); (case l33 => k_is); (case c33 => k_is); (case k33 => k_is); (case a34 => k_is); (case l34 => k_is); (case c34 => k_is); (case k34 => k_is); (case a35 => k_is); (case l35 => k_is); (case c35 => k_is); (case k35 => k_is); (case a36 => k_is); (case l36 => k_is); (case c36 => k_is); (case k36 => k_is); (case a37 => k_is); (case l37 => k_is); (case c37 => k_is); (case k37 => k_is); (case a38 => k_is); (case l38 => k_is); (case c38 => k_is); (case k38 => k_is); (case a39 => k_is); (case l39 => k_is); (case c39 => k_is); (case k39 => k_is); (case a40 => k_is); (case l40 => k_is); (case c40 => k_is); (case k40 => k_is); (case z_isinstance => k_is); (case z_int => k_is); (case z_bool => k_is); (case z_type => k_is); (case z_tuple => k_is); (case z_len => k_is); (case z_range => k_is); (case z_list => k_is); (case z_enumerate => k_is); (case z_sorted => k_is); (case z_abs => k_is); (case z_max => k_is); (case z_min => k_is); (case y_MOST_PIECES => k_is); (case y_FORMS => k_is); (case p_FORMS => first | kernel_rfl | decide +kernel)
    case ca_InvalidPieces => first | k_is | kernel_rfl | decide +kernel
    case cb_InvalidPieces => first | kernel_rfl | decide +kernel | k_is
    case cq_InvalidPieces => first | kernel_rfl | decide +kernel | k_is
    case ca_InvalidLayout => first | k_is | kernel_rfl | decide +kernel
    case cb_InvalidLayout => first | kernel_rfl | decide +kernel | k_is
    case ci_InvalidLayout => first | k_is | kernel_rfl | decide +kernel
    case cy_InvalidLayout => first | k_is | kernel_rfl | decide +kernel
    case cl_InvalidLayout' => first | k_is | kernel_rfl | decide +kernel
    case cd_InvalidLayout => first | k_is | kernel_rfl | decide +kernel
    case ck_InvalidLayout => first | k_is | kernel_rfl | decide +kernel
    case ce_InvalidLayout => first | k_is | kernel_rfl | decide +kernel
    case cv_InvalidLayout => first | rfl | kernel_rfl | decide +kernel
    case cf_InvalidLayout => first | kernel_rfl | decide +kernel | rfl
    case cs_InvalidLayout => first | kernel_rfl | decide +kernel | k_is
    case cn_InvalidLayout => first | k_is | kernel_rfl | decide +kernel
    case ca_InvalidMove => first | k_is | kernel_rfl | decide +kernel
    case cb_InvalidMove => first | kernel_rfl | decide +kernel | k_is
    case cq_InvalidMove => first | kernel_rfl | decide +kernel | k_is
    case c_super => first | k_is | kernel_rfl | decide +kernel
    case c_st => first | k_is | kernel_rfl | decide +kernel
    case c_top => first | k_is | kernel_rfl | decide +kernel
