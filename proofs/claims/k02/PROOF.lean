import PyProof.Rows.All
import HandS.List
import HandS.Words
import HandS.Comp
import HandS.Ends
import PyProof.ReprRoads
import HandS.ForMost
import HandS.Strs
import HandS.TupLe
import HandS.SortRule
import HandS.IsInst
import HandS.More
import PyProof.TypeEq
import PyProof.ReprLen
import PyProof.Rows.RuleB_pow
import HandS.Iter
import HandS.RaiseMore
import PySem.Challenge.RW_crosshitch_k02_ends_and_partners
set_option Elab.async false
set_option linter.all false
set_option maxRecDepth 100000
set_option maxHeartbeats 4000000
namespace Vf
open PySem PySem.Spec PyProof.Rows L2

/-! ### promises that know that no repr is under way -/
structure FnG (P : Program) (w : World) (K : PySem.W.Frag) (mg : Str → Option Value) (base : Heap) (CX : CXT) (k : Nat) (f : Addr) (fd : FuncData) (ps : List Str) (sp : Sp) : Prop where
  arity : ∀ vs H Q E, sp vs H Q E → vs.length = ps.length
  go : ∀ (A : Around) (outer : List Env) (s : Shared) (H : Hp) (args : Args) (us : List Value) (vs : List V) (Q : VK) (E : XK),
    Room k A → A.guards = some [] → Env0 P w K mg base A outer s H → BindsTo s fd args (ps.zip us) → Vals vs us → sp vs H Q E → codeAny (model P w) A (.call (.ref f) args) (CR CX outer P w H s Q E) s
section
variable {P : Program} {w : World} {K : PySem.W.Frag} {mg : Str → Option Value} {base : Heap} {CX : CXT} {k : Nat} {f : Addr} {fd : FuncData} {ps : List Str} {sp : Sp}
theorem FnG.of (F : FnOk P w K mg base CX k f fd ps sp) : FnG P w K mg base CX k f fd ps sp :=
  ⟨F.len, fun A o s H as us vs Q E r _ e b v q => F.run A o s H as us vs Q E r e b v q⟩
theorem FnG.mono {j : Nat} (F : FnG P w K mg base CX j f fd ps sp) (h : j ≤ k) : FnG P w K mg base CX k f fd ps sp :=
  ⟨F.arity, fun A o s H as us vs Q E r => F.go A o s H as us vs Q E (r.mono h)⟩

/-- how a body's flow ends a call -/
theorem ends_call {N : List Str} {qual : Str} {sc : Scope} {cdv : Value} {A : Around} {outer : List Env} {s s' : Shared} {H : Hp} {Q : VK} {E : XK} {fl : Flow}
    (h : SP (cxOf CX P w K mg base N qual sc f cdv A outer s H E) [] { nx := fun _ H' => Q .non H', rt := Q } fl s') : CE outer P w H s Q (match fl with | .ret v => v | _ => .none) s' := by
  match fl, h with
  | .ret u, ⟨v, _, H', J, rv, q⟩ => exact ⟨v, H', J.os, J.bare, J.base, J.hok, rv, q⟩
  | .next, ⟨_, H', J, q⟩ => exact ⟨.non, H', J.os, J.bare, J.base, J.hok, rfl, q⟩
  | .brk, ⟨_, _, _, q⟩ => exact q.elim
  | .cont, ⟨_, _, _, q⟩ => exact q.elim

theorem okG {x qual : Str} {st : Stmt} {N : List Str} {sp : Sp} (F : Fun K x qual st f fd) (S : FnScope N ps (defScope st)) (ar : ∀ vs H Q E, sp vs H Q E → vs.length = ps.length)
    (hb : ∀ (cdv : Value) (A : Around) (outer : List Env) (s : Shared) (H : Hp) (vs : List V) (Q : VK) (E : XK), Room k (A.deeper (envOfC qual (defScope st) s.heap.objs.size f cdv)) → A.guards = some [] → sp vs H Q E →
      ∃ t, PSs (cxOf CX P w K mg base N qual (defScope st) f cdv A outer s H E) (defBody st) t ∧ t { nx := fun _ H' => Q .non H', rt := Q } (start N vs) H) : FnG P w K mg base CX (k + 1) f fd ps sp := by
  obtain ⟨_, _, _, _, _, _, cdv, _, _, e, lk, hcd⟩ := F.ex
  subst e
  refine ⟨ar, fun A outer s H args us vs Q E hr hg e0 bd r q0 => ?_⟩
  have kept : ∀ b o, base.get? b = some o → s.heap.get? b = some o := fun b o z => (e0.bs b o z).1
  have inK := e0.mod.kin.keeps kept
  refine codeAny_call_function hr.depth (inK _ _ lk) rfl S.co S.gen rfl (PySem.W.codeRec_of inK hcd) (bd _ _ _ _ ?_)
  refine wpAny_newFunctionEnv_cells S.kind (fun y hy => ?_) fun env ee s1 x1 => ?_
  · rcases S.par y.1 (List.of_mem_zip (show (y.1, y.2) ∈ ps.zip us from hy)).1 with z | z
    · exact Or.inl z
    · exact Or.inr ⟨z, PySem.W.cellsFrom_some _ _ _ (Or.inl z)⟩
  · subst ee
    refine ⟨(e0.mod.nolimit.keeps kept).keeps x1.toInCall.keep, codeAny_func ?_⟩
    obtain ⟨t, T, q⟩ := hb cdv A outer s H vs Q E (hr.deeper _) hg q0
    refine wpAny_mono (T.run [] s1 _ H _ (inv_start S hr.hd e0 (ar _ _ _ _ q0) r x1) q) (fun fl s' z => ?_) fun _ _ z => z
    have z' := ends_call z
    cases fl <;> exact z'
end
theorem okG0 {P : Program} {w : World} {K : PySem.W.Frag} {mg : Str → Option Value} {base : Heap} {k : Nat} {f : Addr} {fd : FuncData} {ps : List Str} {sp : Sp} {x qual : Str} {st : Stmt} {N : List Str} (F : Fun K x qual st f fd) (S : FnScope N ps (defScope st)) (ar : ∀ vs H Q E, sp vs H Q E → vs.length = ps.length)
    (hb : ∀ (cdv : Value) (A : Around) (outer : List Env) (s : Shared) (H : Hp) (vs : List V) (Q : VK) (E : XK), Room k (A.deeper (envOfC qual (defScope st) s.heap.objs.size f cdv)) → A.guards = some [] → sp vs H Q E →
      ∃ t, PSs (cxOf CX0 P w K mg base N qual (defScope st) f cdv A outer s H E).nox (defBody st) t ∧ t { nx := fun _ H' => Q .non H', rt := Q } (start N vs) H) : FnG P w K mg base CX0 (k + 1) f fd ps sp :=
  okG F S ar fun cdv A outer s H vs Q E hr hg q0 => let ⟨t, h, q⟩ := hb cdv A outer s H vs Q E hr hg q0; ⟨t, h.nox, q⟩

section
variable {X : Cx} {CX : CXT} {k : Nat} {f : Addr} {fd : FuncData} {ps : List Str} {sp : Sp} {dvs : List V} {ds : List Value} {E : XK} {x : Str} {p pos : Pos} {e : Expr} {es : List Expr} {t : TA}
/-- a call of such a def -/
theorem pe_callG (F : FnG X.prog X.w X.K X.mg X.base CX k f fd ps sp) (hr : Room k X.A) (hgd : X.A.guards = some []) (hg : Gl X x) (hm : X.mg x = some (.ref f)) (hk : PySem.W.keepIn X.K (.ref f) = true) (hb : Binds X.K fd ps ds) (hd : Vals dvs ds) (hx : Passes CX X E)
    (ha : PA X (e :: es) t) (hdb : (x == ("__debug__" : Str)) = false := by decide) (he : starEach (e :: es) X.env = (false, eval e X.env) :: starEach es X.env := by rfl) (hpl : (backTo pos (starEach es X.env)).any (·.1) = false := by rfl) : PE X (.Call (.Name x p) (e :: es) [] pos) (tCall sp dvs E t) := by
  constructor
  intro pins s σ H Q I h
  refine wpAny_Call_Name_kw (ld_glob I hg hm (PySem.W.callWith_K (h₀ := X.base) I.ok.mod.kin hk (thn (ha.run pos pins s σ H _ I h) ?_) he hpl) hdb)
  rintro us s1 ⟨vs, H1, I1, r, q⟩
  have r2 := r.append hd
  refine ⟨I1.kIn, wpAny_call (codeAny_mono (F.go X.A X.stack s1 H1 ⟨us, []⟩ (us ++ ds) (vs ++ dvs) Q E hr hgd I1.env0 (hb s1 us I1.kIn (r2.length.symm.trans (F.arity _ _ _ _ q))) r2 q) ?_)⟩
  intro res s' z
  match res, z with
  | .error ex, z => exact hx pins σ H1 s1 ex s' I1 z
  | .ok (.ret u), z => exact I1.after z
  | .ok .next, z => exact z.elim
  | .ok .brk, z => exact z.elim
  | .ok .cont, z => exact z.elim
end

/-! ### the end -/
/-- the heap in which the script alone is known -/
def oneH (K : PySem.W.Frag) (a : Addr) (o : Obj) (xs : List V) : Hp := fun b => if b = a ∧ K.lookup a = none then some (.frz o (.lst xs)) else none
theorem oneH_some {K : PySem.W.Frag} {a b : Addr} {o : Obj} {xs : List V} {u : HO} (h : oneH K a o xs b = some u) : b = a ∧ K.lookup a = none ∧ u = .frz o (.lst xs) := by
  unfold oneH at h
  by_cases c : b = a ∧ K.lookup a = none
  · rw [if_pos c] at h
    exact ⟨c.1, c.2, (Option.some.inj h).symm⟩
  · rw [if_neg c] at h
    cases h
theorem walk_ofG {l : PySem.W.OpenLaw} {n k : Nat} {q : Program} {loose : List Str} {XP : (Str → Option Value) → Heap → Prop} {YP : World → Heap → Prop} {d : DefRec} {K : Params → PySem.W.Frag} {sp : World → Sp} {x : Str}
    (hm : l.most = some n)
    (hm2 : n ≤ sizeLine) (hdef : d.params.defaults = [])
    (hr : Room k callerA)
    (hY : ∀ (w : World) (hp : Heap), YP w hp → (K w.params).In hp)
    (F : ∀ (w : World) (mg : Str → Option Value) (fa : Addr) (hp : Heap),
      (K w.params).In hp → hp.Ns mainGlobals mg → mg d.name = some (.ref fa) →
      ∃ fd : FuncData, (∀ (s : Shared) (u : Value), BindsTo s fd ⟨[u], []⟩ [(x, u)]) ∧ ∀ base : Heap, (K w.params).In base → base.Ns mainGlobals mg → FnG l.prog w (K w.params) mg base CX0 k fa fd [x] (sp w))
    (hsp : ∀ (w : World) (H : Hp) (a : Addr) (ns : List Int), ns.length ≤ n → SqL (K w.params) H a (ns.map V.int) → sp w [.ref a] H (fun v _ => v = .bl true) E0) :
    PySem.W.WalkO q loose XP YP l.row.toRowW d []
      (fun g us => PySem.call g us) := by
  refine Att.attach_call hm hdef fun w s₀ s₁ mg mb fa o pm cd doc a vs ns G Y ho hd hcd hmg hobj hints hlen hgen => ?_
  have inK := hY w _ Y
  obtain ⟨fd, hbind, hF⟩ := F w mg fa _ inK G.T.g hmg
  have rv := vals_ints hints
  have sz : ns.length ≤ sizeLine := Nat.le_trans hlen hm2
  generalize hH : oneH (K w.params) a { cls := .type "list", data := .seq vs.toArray } (ns.map V.int) = H
  have only : ∀ {b : Addr} {u : HO}, H b = some u → b = a ∧ (K w.params).lookup a = none ∧ u = .frz { cls := .type "list", data := .seq vs.toArray } (.lst (ns.map V.int)) := fun {b u} z => oneH_some (hH ▸ z)
  have hS : SqL (K w.params) H a (ns.map V.int) := by
    cases c : (K w.params).lookup a with
    | none =>
      refine Or.inl (Or.inr ⟨{ cls := .type "list", data := .seq vs.toArray }, ?_⟩)
      rw [← hH]
      exact if_pos ⟨rfl, c⟩
    | some ob =>
      have e := (inK a ob c).symm.trans hobj
      cases e
      exact Or.inr ⟨_, vs.toArray, _, c, rfl, rfl, rfl, (by rw [List.size_toArray, hints.length]; exact sz), by simpa using rv⟩
  have hok : HOk l.prog w H s₁.heap := fun b u z => by
    obtain ⟨rfl, _, rfl⟩ := only z
    exact ⟨hobj, by rw [List.length_map]; exact sz, vs, _, rv, hobj⟩
  have free : ∀ {b : Addr} {ob : Obj}, s₁.heap.get? b = some ob → (b ≠ a ∨ (K w.params).lookup a ≠ none) → (hidT s₁.heap H).get? b = some ob := fun {b ob} e ne => hidT_get e (by
    cases z : H b with
    | none => rfl
    | some u =>
      obtain ⟨e1, e2, _⟩ := only z
      exact ne.elim (fun y => absurd e1 y) fun y => absurd e2 y)
  have dictFree : ∀ {b : Addr} {m : Str → Option Value}, s₁.heap.Ns b m → (hidT s₁.heap H).Ns b m := fun {b m} ⟨ob, es, ep, e, dt, r⟩ => ⟨ob, es, ep, free e (.inl fun z => by
    subst z
    rw [hobj] at e
    cases e
    exact nomatch (show Data.seq vs.toArray _ = Data.dict es ep from dt)), dt, r⟩
  have kb : (K w.params).In (hidT s₁.heap H) := fun b ob e => free (inK b ob e) (by
    by_cases z : b = a
    · subst z
      exact .inr (by rw [e]; exact fun y => nomatch y)
    · exact .inl z)
  obtain ⟨mc, hm1, hm2⟩ := G.T.nolimit
  have env : Env0 l.prog w (K w.params) mg (hidT s₁.heap H) callerA [] s₁ H :=
    ⟨rfl, ⟨kb, dictFree G.T.g, ⟨mb, dictFree G.T.b, G.T.builtins⟩, ⟨mc, dictFree hm1, hm2⟩⟩, fun _ _ e => of_hidT e, Nat.le_of_eq (hidT_size _ _), trivial, fun b z => absurd (show b ∈ ([] : List Addr) from z) (by simp), hok, .of_eq hgen⟩
  refine codeAny_mono ((hF _ kb (dictFree G.T.g)).go callerA [] s₁ H ⟨[.ref a], []⟩ [.ref a] [.ref a] _ _ hr rfl env (hbind s₁ (.ref a)) (.cons rfl .nil) (hsp w H a ns hlen hS)) fun res s' z => ?_
  match res, z with
  | .error _, z => exact z.elim
  | .ok .next, z => exact z.elim
  | .ok .brk, z => exact z.elim
  | .ok .cont, z => exact z.elim
  | .ok (.ret u), ⟨v, H', os, bare, un, hok', rel, q⟩ =>
    have q2 : v = .bl true := q
    subst q2
    have eu : u = Value.bool true := rel
    subst eu
    refine ⟨rfl, OldK.of_keep fun b ob e => ?_, os, bare⟩
    cases c : H b with
    | none => exact un.keep b ob e c (fun z => nomatch (show b ∈ ([] : List Addr) from z)) (fun z => nomatch z)
    | some u =>
      obtain ⟨rfl, _, rfl⟩ := only c
      have e2 := (hok' b _ (un.frzs b _ _ c)).1
      rw [hobj] at e
      cases e
      exact e2
end Vf

namespace Vf
open PySem PySem.Spec PyProof.Rows L2

/-! ### defs with all that a call of them needs -/
structure Def (P : Program) (w : World) (K : PySem.W.Frag) (mg : Str → Option Value) (base : Heap) (k : Nat) (x : Str) (ps : List Str) (sp : Sp) where
  f : Addr
  fd : FuncData
  ok : FnOk P w K mg base CX0 k f fd ps sp
  kp : PySem.W.keepIn K (.ref f) = true
  b : Binds K fd ps []
  g : mg x = some (.ref f)
structure DefG (P : Program) (w : World) (K : PySem.W.Frag) (mg : Str → Option Value) (base : Heap) (k : Nat) (x : Str) (ps : List Str) (sp : Sp) where
  f : Addr
  fd : FuncData
  ok : FnG P w K mg base CX0 k f fd ps sp
  kp : PySem.W.keepIn K (.ref f) = true
  b : Binds K fd ps []
  g : mg x = some (.ref f)
section
variable {X : Cx} {k : Nat} {ps : List Str} {sp : Sp} {x : Str} {p pos : Pos} {e : Expr} {es : List Expr} {t : TA}
theorem pe_def (D : Def X.prog X.w X.K X.mg X.base k x ps sp) (hr : Room k X.A) (ha : PA X (e :: es) t) (hg : Gl X x := by rfl) (hdb : (x == ("__debug__" : Str)) = false := by decide)
    (he : starEach (e :: es) X.env = (false, eval e X.env) :: starEach es X.env := by rfl) (hpl : (backTo pos (starEach es X.env)).any (·.1) = false := by rfl) : PE X (.Call (.Name x p) (e :: es) [] pos) (tCall sp [] E0 t) :=
  pe_call D.ok hr hg D.g D.kp D.b .nil pass0 ha hdb he hpl
theorem pe_defG (D : DefG X.prog X.w X.K X.mg X.base k x ps sp) (hr : Room k X.A) (hgd : X.A.guards = some []) (ha : PA X (e :: es) t) (hg : Gl X x := by rfl) (hdb : (x == ("__debug__" : Str)) = false := by decide)
    (he : starEach (e :: es) X.env = (false, eval e X.env) :: starEach es X.env := by rfl) (hpl : (backTo pos (starEach es X.env)).any (·.1) = false := by rfl) : PE X (.Call (.Name x p) (e :: es) [] pos) (tCall sp [] E0 t) :=
  pe_callG D.ok hr hgd hg D.g D.kp D.b .nil pass0 ha hdb he hpl
end

/-! ### rules of our own -/
section
variable {X : Cx}
theorem op_powW : OpR X (binaryOp .Pow) (rI (fun i j => 0 ≤ j ∧ (Builtin.Int.intBits i : Int) * j ≤ 2 ^ 27) fun i j => .int (i ^ j.toNat)) := opI fun _ _ _ _ _ _ _ hc q => pow_int hc.1 hc.2 q
/-- list + list, also of lists that are only read -/
def rCatS (K : PySem.W.Frag) : R2 := fun x y H Q => ∃ l b xs zs, x = .ref l ∧ y = .ref b ∧ SqL K H l xs ∧ SqL K H b zs ∧ xs.length + zs.length ≤ sizeLine ∧ ∀ p, H p = none → Q (.ref p) (upd H p (.lst (xs ++ zs)))
theorem op_catS : OpR X (binaryOp .Add) (rCatS X.K) := by
  intro pins s σ H x y v u Q I rx ry h
  obtain ⟨l, b, xs, zs, rfl, rfl, h1, h2, hz, q⟩ := h
  cases rx
  cases ry
  obtain ⟨its, r1, ⟨⟨c1, d1, t1, s1⟩, n1, e1, rfl, rfl, rfl⟩, _⟩ := I.list h1
  obtain ⟨its2, r2, ⟨⟨c2, d2, t2, s2⟩, n2, e2, rfl, rfl, rfl⟩, _⟩ := I.list h2
  have hsz : its.toArray.size + its2.toArray.size ≤ sizeLine := by rw [List.size_toArray, List.size_toArray, ← r1.length, ← r2.length]; exact hz
  refine concat_meets ⟨_, e1, rfl⟩ ⟨_, e2, rfl⟩ noFill_list_add seq_list_add PySem.F.slot_list_add PySem.F.entry_list_add (PySem.F.args_list_add_2 _ _) (list_addW l b its.toArray its2.toArray n1 n2 none none s1 s2 hsz) ⟨e1, e2, ?_⟩
  have ea : its.toArray ++ its2.toArray = (its ++ its2).toArray := by simp
  rw [ea]
  exact ⟨.ref _, _, I.lnew (t' := s.toks) (r1.append r2) (by rw [List.length_append]; omega), rfl, q _ I.fresh⟩
/-- repr of data, where none is under way -/
theorem call_reprD {k : Nat} (hgd : X.A.guards = some []) (hr : Room k X.A) : CallR X (.builtin "repr") (fun xs H Q => ∃ (a : Addr) (d : PyData), xs = [.ref a] ∧ Dp X.K H (.ref a) d ∧ d.showable = true ∧ d.hasDict = false ∧ d.depth ≤ 60 ∧ d.shown.length ≤ sizeLine ∧ Q (.str d.shown) H) := by
  intro pins s σ H xs us Q I r h
  obtain ⟨a, d, rfl, hd, hs, hn, hdep, hz, q⟩ := h
  obtain ⟨u, rfl, ru⟩ := vals1 r
  obtain ⟨as, rd⟩ := Dp.reads I d _ _ hd ru
  cases ru
  refine repr_of_reads' rd hs (fun z => by rw [hn] at z; cases z) hgd (by have := hr.units; omega) (fun _ _ e => e) (fun h' u tk hk => ?_) hz
  exact ⟨.str _, H, I.kept (t' := tk) hk, ⟨_, rfl⟩, q⟩
end

/-! ### types that differ -/
section
variable {prog : Program} {w : World} {A : Around} {E : Value → Shared → Prop} {s : Shared}
theorem slot_type_ne : Slot "type" (cmpInfo .NotEq).2.1 "object.__ne__" :=
  .of (owner := "object") (n := "__ne__") (by rw [typeLookup_type, builtinLookup_eq_fast]; kernel_rfl) (by decide +kernel) (by decide +kernel) (by decide +kernel) (by first | exact .inl (by decide +kernel) | exact .inr (by decide +kernel)) (by rw [isSubtype_type]; kernel_rfl)
theorem objNe_types {a b : Value} {r : Value} {Q : Fin → Shared → Prop} (ha : s.TypeIs a "type") (hv : [a, b].any Value.onHeap = false) (g : Gives (Builtin.«object.__eq__» ⟨[a, b], []⟩) (.val r))
    (hq : (r = .notImplemented ∧ Q (.done (.ret .notImplemented)) s) ∨ ∃ c : Bool, r = .bool c ∧ Q (.done (.ret (.bool (!c)))) s) :
    wpAny (model prog w) A (Builtin.«object.__ne__» ⟨[a, b], []⟩) Q E s := by
  unfold Builtin.«object.__ne__»
  refine wpAny_bind (wpAny_of_eq (a := (a, [b])) (by first | rfl | kernel_rfl) ?_)
  refine wpAny_bind (wpAny_cRoomFor_or (.inl hv) ?_)
  refine wpAny_bind (wpAny_callSpecialIfBound?_slot ha TypeEq.slot_type_eq (PySem.call_gives TypeEq.slot_type_eq ha F.entry_object_eq (F.args_object_eq_2 _ _) g ?_))
  rcases hq with ⟨rfl, hq⟩ | ⟨c, rfl, hq⟩
  · exact wpAny_pure hq
  · refine wpAny_bind (wpAny_truthy_bool ?_)
    exact wpAny_pure hq
theorem ne_type_same {T : String} {Q : Value → Shared → Prop} (hT : ∀ s' : Shared, s'.TypeIs (.type T) "type") (h : Q (.bool false) s) : wpAny (model prog w) A (compareOp .NotEq (.type T) (.type T)) Q E s := by
  show wpAny _ A (richCompare .NotEq _ _) Q E s
  refine wpAny_richCompare_same (T := "type") (hT s) (hT s) slot_type_ne (wpAny_call_entry slot_type_ne (hT s) F.entry_object_ne ?_ (F.args_object_ne_2 _ _))
  exact objNe_types (hT s) rfl (TypeEq.object_eq_same rfl (by simp)) (.inr ⟨true, rfl, .bool false, rfl, (by intro e; cases e), h⟩)
theorem ne_type_other {T U : String} {Q : Value → Shared → Prop} (hT : ∀ s' : Shared, s'.TypeIs (.type T) "type") (hU : ∀ s' : Shared, s'.TypeIs (.type U) "type") (ne : T ≠ U) (h : Q (.bool true) s) :
    wpAny (model prog w) A (compareOp .NotEq (.type T) (.type U)) Q E s := by
  have n1 : (Value.type T == Value.type U) = false := by rw [Bool.eq_false_iff]; intro e; rw [beq_iff_eq] at e; exact ne (Value.type.inj e)
  have n2 : (Value.type U == Value.type T) = false := by rw [Bool.eq_false_iff]; intro e; rw [beq_iff_eq] at e; exact ne (Value.type.inj e).symm
  show wpAny _ A (richCompare .NotEq _ _) Q E s
  have step : ∀ {a b : Value} {s : Shared} {Q' : Value → Shared → Prop}, s.TypeIs a "type" → [a, b].any Value.onHeap = false → Gives (Builtin.«object.__eq__» ⟨[a, b], []⟩) (.val .notImplemented) → Q' .notImplemented s → wpAny (model prog w) A (call (.builtin "object.__ne__") [a, b]) Q' E s :=
    fun {a b s Q'} ha hv g q => wpAny_call_entry slot_type_ne ha F.entry_object_ne (objNe_types ha hv g (.inl ⟨rfl, _, rfl, q⟩)) (F.args_object_ne_2 _ _)
  have h1 := slot_type_ne
  have h2 : Slot "type" (cmpInfo .NotEq).2.2 "object.__ne__" := slot_type_ne
  rcases hc : cmpInfo CmpOp.NotEq with ⟨sg, fw, bw⟩
  rw [hc] at h1 h2
  simp only [richCompare, hc, (hT s).oneThing_none]
  try (with_reducible refine wpAny_holding ?_)
  refine wpAny_bind (wpAny_cRoomFor_or (.inl rfl) ?_)
  refine wpAny_bind (wpAny_typeOf (hT s) (wpAny_bind (wpAny_typeOf (hU s) ?_)))
  simp only [if_true, if_false, Bool.not_false, bne_self_eq_false, Bool.false_eq_true, pure_bind]
  refine wpAny_bind (m := tryCompare (.type T) _ (.type U)) (wpAny_tryCompare_declines (hT s) h1 (step (hT s) rfl (TypeEq.object_eq_other rfl n1) ⟨rfl, ?_⟩))
  refine wpAny_bind (m := tryCompare (.type U) _ (.type T)) (wpAny_tryCompare_declines (hU s) h2 (step (hU s) rfl (TypeEq.object_eq_other rfl n2) ⟨rfl, ?_⟩))
  refine wpAny_bind (wpAny_rule (wpAny_bind (wpAny_of_eq (a := false) (by rw [isSame_plain rfl, n1]) (wpAny_pure h))))
end
/-- the built-in classes that type(x) of data gives -/
inductive TyN : String → Prop
  | non : TyN "NoneType" | bl : TyN "bool" | int : TyN "int" | str : TyN "str" | lst : TyN "list" | tup : TyN "tuple" | dct : TyN "dict"
theorem TyN.is {T : String} (h : TyN T) : ∀ s' : Shared, s'.TypeIs (.type T) "type" := by
  cases h
  · exact TypeEq.meta_NoneType
  · exact TypeEq.meta_bool
  · exact TypeEq.meta_int
  · exact TypeEq.meta_str
  · exact TypeEq.meta_list
  · exact TypeEq.meta_tuple
  · exact TypeEq.meta_dict
theorem op_neTy {X : Cx} : OpR X (compareOp .NotEq) (fun x y H Q => ∃ m n, x = .ty m ∧ y = .ty n ∧ TyN m ∧ TyN n ∧ Q (.bl (!decide (m = n))) H) := by
  intro pins s σ H x y v u Q I rx ry h
  obtain ⟨m, n, rfl, rfl, hm, hn, q⟩ := h
  cases rx
  cases ry
  by_cases e : m = n
  · subst e
    exact ne_type_same hm.is ⟨.bl false, H, I, rfl, by simpa using q⟩
  · exact ne_type_other hm.is hn.is e ⟨.bl true, H, I, rfl, by simpa [e] using q⟩
end Vf
namespace Vf
open PySem PySem.Spec PyProof.Rows L2
section
variable {X : Cx} {K : PySem.W.Frag}
theorem ixL (h : X.K = K := by rfl) : IxR X (rIxL K) := h ▸ ix_list
theorem ixT (h : X.K = K := by rfl) : IxR X (rIxT K) := h ▸ ix_tup
def rLen (K : PySem.W.Frag) : List V → Hp → VK → Prop := fun xs H Q => ∃ p ys, xs = [.ref p] ∧ (SqL K H p ys ∨ SqT K H p ys) ∧ Q (.int ys.length) H
theorem lenK (h : X.K = K := by rfl) : CallR X (.builtin "len") (rLen K) := by subst h; exact call_len_seq
def rListOf (K : PySem.W.Frag) : List V → Hp → VK → Prop := fun xs H Q => ∃ p ys, xs = [.ref p] ∧ (SqL K H p ys ∨ SqT K H p ys) ∧ ∀ l, H l = none → Q (.ref l) (upd H l (.lst ys))
theorem listK (h : X.K = K := by rfl) : CallR X (.type "list") (rListOf K) := by subst h; exact call_list_of
theorem sortedK (h : X.K = K := by rfl) : CallR X (.builtin "sorted") (rSortedPO K) := by subst h; exact cr_sortedPO
theorem isiK (h : X.K = K := by rfl) : CallR X (.builtin "isinstance") (rIsi K) := by subst h; exact call_isi
theorem allK (hc : X.calm = true) (h : X.K = K := by rfl) : CallR X (.builtin "all") (rAll K) := by subst h; exact cr_all hc
theorem anyK (hc : X.calm = true) (h : X.K = K := by rfl) : CallR X (.builtin "any") (rAny K) := by subst h; exact cr_any hc
theorem sumK (hc : X.calm = true) (h : X.K = K := by rfl) : CallR X (.builtin "sum") (rSum K) := by subst h; exact cr_sum hc
theorem minK (hc : X.calm = true) (h : X.K = K := by rfl) : CallR X (.builtin "min") (rMin K) := by subst h; exact cr_min hc
theorem maxK (hc : X.calm = true) (h : X.K = K := by rfl) : CallR X (.builtin "max") (rMax K) := by subst h; exact cr_max hc
theorem eqD (hu : X.A.units + 64 < cLine) (h : X.K = K := by rfl) : OpR X (compareOp .Eq) (rEqD K) := by subst h; exact op_eqD hu
theorem neD (hu : X.A.units + 64 < cLine) (h : X.K = K := by rfl) : OpR X (compareOp .NotEq) (rNeD K) := by subst h; exact op_neD hu
theorem catK (h : X.K = K := by rfl) : OpR X (binaryOp .Add) (rCatS K) := by subst h; exact op_catS
theorem leTK (hu : X.A.units < cLine) (h : X.K = K := by rfl) : OpR X (compareOp .LtE) (rLeT K) := by subst h; exact op_leT hu
theorem ltTK (hu : X.A.units < cLine) (h : X.K = K := by rfl) : OpR X (compareOp .Lt) (rLtT K) := by subst h; exact op_ltT hu
theorem inSeqK (h : X.K = K := by rfl) : OpR X (compareOp .In) (rIn K false) := by subst h; exact op_in_seq
theorem notInSeqK (h : X.K = K := by rfl) : OpR X (compareOp .NotIn) (rIn K true) := by subst h; exact op_notIn_seq
def rRepr (K : PySem.W.Frag) : List V → Hp → VK → Prop := fun xs H Q => ∃ (a : Addr) (d : PyData), xs = [.ref a] ∧ Dp K H (.ref a) d ∧ d.showable = true ∧ d.hasDict = false ∧ d.depth ≤ 60 ∧ d.shown.length ≤ sizeLine ∧ Q (.str d.shown) H
theorem reprK {k : Nat} (hgd : X.A.guards = some []) (hr : Room k X.A) (h : X.K = K := by rfl) : CallR X (.builtin "repr") (rRepr K) := by subst h; exact call_reprD hgd hr
end
end Vf

namespace Vf
open PySem PySem.Spec PyProof.Rows L2
section
variable {K : PySem.W.Frag} {σ : L2.St} {H : Hp} {Q : VK} {D : Ends} {nx bk ct : L2.St → Hp → Prop} {rt : VK} {t u : TS} {te ta tb tc : TE} {g : TG} {tt t1 t2 : TT} {B : Bool → Hp → Prop} {ts tr : TA} {R : List V → Hp → Prop} {x y v : V} {i j : Int} {S : L2.St → Hp → Prop}
/-! statements -/
theorem r_seq (h : t ⟨fun σ H => u ⟨nx, rt, bk, ct⟩ σ H, rt, bk, ct⟩ σ H) : tSeq t u ⟨nx, rt, bk, ct⟩ σ H := h
theorem r_next (h : nx σ H) : tNext ⟨nx, rt, bk, ct⟩ σ H := h
theorem r_break (h : bk σ H) : tBreak ⟨nx, rt, bk, ct⟩ σ H := h
theorem r_cont (h : ct σ H) : tCont ⟨nx, rt, bk, ct⟩ σ H := h
theorem r_asg (h : te σ H fun x H1 => g x σ H1 nx) : tAsg te g ⟨nx, rt, bk, ct⟩ σ H := h
theorem r_drop (h : te σ H fun _ H1 => nx σ H1) : tDrop te ⟨nx, rt, bk, ct⟩ σ H := h
theorem r_ret (h : te σ H rt) : tRet te ⟨nx, rt, bk, ct⟩ σ H := h
theorem r_retN (h : rt .non H) : tRetN ⟨nx, rt, bk, ct⟩ σ H := h
theorem r_ifS {b : Bool → Hp → Prop} (h : tt σ H fun b H1 => if b = true then t ⟨nx, rt, bk, ct⟩ σ H1 else u ⟨nx, rt, bk, ct⟩ σ H1) : tIfS tt t u ⟨nx, rt, bk, ct⟩ σ H := h
theorem r_par {a b : Nat} (h : ts σ H fun vs H1 => ∃ v w, vs = [v, w] ∧ nx ((σ.set a (some v)).set b (some w)) H1) : tPar a b ts ⟨nx, rt, bk, ct⟩ σ H := h
theorem r_dput {td ty tv : TE} (h : tv σ H fun v H1 => td σ H1 fun x H2 => ty σ H2 fun y H3 => ∃ a H4, x = .ref a ∧ DPut H3 a y v H4 ∧ nx σ H4) : sDPut td ty tv ⟨nx, rt, bk, ct⟩ σ H := h
/-! targets -/
theorem r_gname {a : Nat} (h : S (σ.set a (some v)) H) : gName a v σ H S := h
theorem r_gnil (h : S σ H) : gNil [] σ H S := ⟨rfl, h⟩
theorem r_gcons {vs : List V} {gs : TGs} (h : g v σ H fun σ' H' => gs vs σ' H' S) : gCons g gs (v :: vs) σ H S := ⟨v, vs, rfl, h⟩
theorem r_gtup {n : Nat} {a : Addr} {xs : List V} {gs : TGs} (hs : SqT K H a xs) (hl : xs.length = n) (h : gs xs σ H S) : gTup K n gs (.ref a) σ H S := ⟨a, xs, rfl, hs, hl, h⟩
theorem r_gsub {to ti : TE} {st : TSet} (h : to σ H fun o H1 => ti σ H1 fun i H2 => st o i v H2 fun H3 => S σ H3) : gSub to ti st v σ H S := h
theorem r_setL {p : Addr} {xs : List V} {k : Int} {n : Nat} {f : Hp → Prop} (hp : H p = some (.lst xs)) (hi : ixN xs.length k = some n) (h : f (upd H p (.lst (xs.set n v)))) : rSetL (.ref p) (.int k) v H f := ⟨p, xs, k, n, rfl, rfl, hp, hi, h⟩
/-! expressions -/
theorem r_var {a : Nat} (h : ∃ v, σ[a]? = some (some v) ∧ Q v H) : tVar a σ H Q := h
theorem r_c (h : Q v H) : tC v σ H Q := h
theorem r_op {r : R2} (h : ta σ H fun x H1 => tb σ H1 fun y H2 => r x y H2 Q) : tOp r ta tb σ H Q := h
theorem r_I0 {f : Int → Int → V} (h : Q (f i j) H) : rI0 f (.int i) (.int j) H Q := ⟨i, j, rfl, rfl, h⟩
theorem r_I {f : Int → Int → V} {C : Int → Int → Prop} (hc : C i j) (h : Q (f i j) H) : rI C f (.int i) (.int j) H Q := ⟨i, j, rfl, rfl, hc, h⟩
theorem r_U {f : Int → V} (h : Q (f i) H) : rU f (.int i) H Q := ⟨i, rfl, h⟩
theorem r_un {r : V → Hp → VK → Prop} (h : ta σ H fun x H1 => r x H1 Q) : tUn r ta σ H Q := h
theorem r_eqI (h : Q (.bl (decide (i = j))) H) : rEq (.int i) (.int j) H Q := ⟨rfl, by rw [show decide (V.int i = V.int j) = decide (i = j) by rw [Bool.eq_iff_iff]; simp]; exact h⟩
theorem r_neI (h : Q (.bl (!decide (i = j))) H) : rNe (.int i) (.int j) H Q := ⟨rfl, by rw [show decide (V.int i = V.int j) = decide (i = j) by rw [Bool.eq_iff_iff]; simp]; exact h⟩
theorem r_eqS {a b : Str} (h : Q (.bl (decide (a = b))) H) : rEq (.str a) (.str b) H Q := ⟨rfl, by rw [show decide (V.str a = V.str b) = decide (a = b) by rw [Bool.eq_iff_iff]; simp]; exact h⟩
theorem r_neS {a b : Str} (h : Q (.bl (!decide (a = b))) H) : rNe (.str a) (.str b) H Q := ⟨rfl, by rw [show decide (V.str a = V.str b) = decide (a = b) by rw [Bool.eq_iff_iff]; simp]; exact h⟩
theorem r_cb {r : List V → Hp → VK → Prop} (h : ts σ H fun vs H1 => r vs H1 Q) : tCB r ts σ H Q := h
theorem r_cons (h : ta σ H fun x H1 => tr σ H1 fun xs H2 => R (x :: xs) H2) : tCons ta tr σ H R := h
theorem r_nil (h : R [] H) : tNil σ H R := h
theorem r_lst (h : ts σ H fun xs H1 => xs.length ≤ sizeLine ∧ ∀ p, H1 p = none → Q (.ref p) (upd H1 p (.lst xs))) : tLst ts σ H Q := h
theorem r_tup (h : ts σ H fun xs H1 => xs.length ≤ sizeLine ∧ ∀ p, H1 p = none → Q (.ref p) (upd H1 p (.tup xs))) : tTup ts σ H Q := h
theorem r_call {sp : Sp} {dvs : List V} {E : XK} (h : ts σ H fun vs H1 => sp (vs ++ dvs) H1 Q E) : tCall sp dvs E ts σ H Q := h
theorem r_ixL {p : Addr} {xs : List V} (hs : SqL K H p xs) (ha : atI xs i = some v) (h : Q v H) : rIxL K (.ref p) (.int i) H Q := ⟨p, xs, i, v, rfl, rfl, hs, ha, h⟩
theorem r_ixT {p : Addr} {xs : List V} (hs : SqT K H p xs) (ha : atI xs i = some v) (h : Q v H) : rIxT K (.ref p) (.int i) H Q := ⟨p, xs, i, v, rfl, rfl, hs, ha, h⟩
theorem r_test (h : te σ H fun x H' => ∃ k, x = .bl k ∧ B k H') : tTest te σ H B := h
theorem r_b (h : te σ H fun x H' => ∃ k, x = .bl k ∧ B k H') : tB te σ H B := h
theorem r_and (h : t1 σ H fun c H1 => if c = true then t2 σ H1 B else B false H1) : tAnd t1 t2 σ H B := h
theorem r_or (h : t1 σ H fun c H1 => if c = true then B true H1 else t2 σ H1 B) : tOr t1 t2 σ H B := h
theorem r_not (h : t1 σ H fun c H1 => B (!c) H1) : tNot t1 σ H B := h
theorem r_andV (h : ta σ H fun x H1 => ∃ c, x = .bl c ∧ if c = true then tb σ H1 Q else Q (.bl false) H1) : tAndV ta tb σ H Q := h
theorem r_orV (h : ta σ H fun x H1 => ∃ c, x = .bl c ∧ if c = true then Q (.bl true) H1 else tb σ H1 Q) : tOrV ta tb σ H Q := h
theorem r_notV (h : ta σ H fun x H1 => ∃ c, x = .bl c ∧ Q (.bl (!c)) H1) : tNotV ta σ H Q := h
theorem r_if (h : tt σ H fun c H1 => if c = true then ta σ H1 Q else tb σ H1 Q) : tIf tt ta tb σ H Q := h
theorem r_bl {b : Bool} (h : B b H) : ∃ k, V.bl b = .bl k ∧ B k H := ⟨b, rfl, h⟩
theorem r_blV {b : Bool} {A : Bool → Prop} (h : A b) : ∃ k, V.bl b = .bl k ∧ A k := ⟨b, rfl, h⟩
theorem r_chain {r r' : R2} (h : ta σ H fun x H1 => tb σ H1 fun y H2 => r x y H2 fun z H3 => ∃ k, z = .bl k ∧ if k = true then tc σ H3 fun w H4 => r' y w H4 Q else Q (.bl false) H3) : tChain r r' ta tb tc σ H Q := h
theorem r_sl {r : V → Option Int → Option Int → Hp → VK → Prop} {tl th : TO} (h : te σ H fun x H1 => tl σ H1 fun l H2 => th σ H2 fun u H3 => r x l u H3 Q) : tSl r te tl th σ H Q := h
theorem r_noPart {O : Option Int → Hp → Prop} (h : O none H) : tNoPart σ H O := h
theorem r_part {O : Option Int → Hp → Prop} (h : te σ H fun x H1 => ∃ i, x = .int i ∧ O (some i) H1) : tPart te σ H O := h
theorem r_bm {T : String} {r : V → List V → Hp → VK → Prop} (h : te σ H fun x H1 => tyV K T x H1 ∧ ts σ H1 fun xs H2 => r x xs H2 Q) : tBM K T r te ts σ H Q := h
theorem r_bm0 {T : String} {r : V → List V → Hp → VK → Prop} (h : te σ H fun x H1 => tyV K T x H1 ∧ r x [] H1 Q) : tBM0 K T r te σ H Q := h
theorem r_dget {td ty : TE} (h : td σ H fun x H1 => ty σ H1 fun y H2 => ∃ a v, x = .ref a ∧ DGet H2 a y (some v) ∧ Q v H2) : tDGet td ty σ H Q := h
theorem r_din {td ty : TE} (h : ty σ H fun y H1 => td σ H1 fun x H2 => ∃ a o, x = .ref a ∧ DGet H2 a y o ∧ Q (.bl o.isSome) H2) : tDIn ty td σ H Q := h
theorem r_dnotin {td ty : TE} (h : ty σ H fun y H1 => td σ H1 fun x H2 => ∃ a o, x = .ref a ∧ DGet H2 a y o ∧ Q (.bl (!o.isSome)) H2) : tDNotIn ty td σ H Q := h
theorem r_dget1 {td ty : TE} (h : td σ H fun x H1 => ∃ a, x = .ref a ∧ IsD H1 a ∧ ty σ H1 fun y H2 => ∃ o, DGet H2 a y o ∧ Q (o.getD .non) H2) : tDGet1 td ty σ H Q := h
theorem r_dget2 {td ty tx : TE} (h : td σ H fun x H1 => ∃ a, x = .ref a ∧ IsD H1 a ∧ ty σ H1 fun y H2 => tx σ H2 fun z H3 => ∃ o, DGet H3 a y o ∧ Q (o.getD z) H3) : tDGet2 td ty tx σ H Q := h
theorem r_dnew (h : ∀ p, H p = none → Q (.ref p) (upd H p (.dK []))) : tDNewK σ H Q := h
theorem r_rng1 {A : It → Hp → Prop} (h : ts σ H fun vs H1 => ∃ j : Int, vs = [.int j] ∧ -(2 ^ 62) ≤ j ∧ j < 2 ^ 62 ∧ A (Itr 0 j.toNat) H1) : iRng1 ts σ H A := h
theorem r_rng2 {A : It → Hp → Prop} (h : ts σ H fun vs H1 => ∃ i j : Int, vs = [.int i, .int j] ∧ (-(2 ^ 62) ≤ i ∧ i < 2 ^ 62 ∧ -(2 ^ 62) ≤ j ∧ j < 2 ^ 62) ∧ A (Itr i (j - i).toNat) H1) : iRng2 ts σ H A := h
theorem r_ilist {A : It → Hp → Prop} {tl : TE} (h : tl σ H fun x H1 => ∃ a, x = .ref a ∧ (∃ xs, SqL K H1 a xs) ∧ A (Itl K a) H1) : iList K tl σ H A := h
theorem r_yes (h : B true H) : tYes σ H B := h
theorem ifT {c A B : Prop} [Decidable c] (hc : c) (h : A) : if c then A else B := by rw [if_pos hc]; exact h
theorem ifF {c A B : Prop} [Decidable c] (hc : ¬ c) (h : B) : if c then A else B := by rw [if_neg hc]; exact h
theorem ifD {c A B : Prop} [Decidable c] (hc : c) (h : A) : if decide c = true then A else B := by rw [if_pos (decide_eq_true hc)]; exact h
theorem ifDn {c A B : Prop} [Decidable c] (hc : ¬ c) (h : B) : if decide c = true then A else B := by rw [if_neg (by simpa using hc)]; exact h
theorem ifNT {A B : Prop} (h : B) : if (!true) = true then A else B := by show if false = true then A else B; rw [if_neg Bool.false_ne_true]; exact h
theorem ifNF {A B : Prop} (h : A) : if (!false) = true then A else B := by show if true = true then A else B; rw [if_pos rfl]; exact h
theorem ifN {c A B : Prop} [Decidable c] (hc : ¬ c) (h : A) : if (!decide c) = true then A else B := by rw [if_pos (by simpa using hc)]; exact h
theorem ifNn {c A B : Prop} [Decidable c] (hc : c) (h : B) : if (!decide c) = true then A else B := by rw [if_neg (by simpa using hc)]; exact h
end
end Vf

namespace Vf
open PySem PySem.Spec PyProof.Rows L2

/-! ### loops over data -/
theorem pair_get {α β : Type} {F : α → β → Prop} : ∀ {xs : List α} {L : List β}, Paired F xs L → ∀ {i : Nat} {x : α}, xs[i]? = some x → ∃ p, L[i]? = some p ∧ F x p
  | _, _, .nil, i, x, h => by simp at h
  | _, _, .cons r t, 0, x, h => by
    have e := Option.some.inj h
    exact ⟨_, rfl, e ▸ r⟩
  | _, _, .cons r t, i + 1, x, h => by
    obtain ⟨p, h1, h2⟩ := pair_get t (i := i) (x := x) (by simpa using h)
    exact ⟨p, by simpa using h1, h2⟩
theorem pair_get2 {α β : Type} {F : α → β → Prop} : ∀ {xs : List α} {L : List β}, Paired F xs L → ∀ {i : Nat} {p : β}, L[i]? = some p → ∃ x, xs[i]? = some x ∧ F x p
  | _, _, .nil, i, x, h => by simp at h
  | _, _, .cons r t, 0, x, h => by
    have e := Option.some.inj h
    exact ⟨_, rfl, e ▸ r⟩
  | _, _, .cons r t, i + 1, x, h => by
    obtain ⟨p, h1, h2⟩ := pair_get2 t (i := i) (p := x) (by simpa using h)
    exact ⟨p, by simpa using h1, h2⟩
theorem pair_len {α β : Type} {F : α → β → Prop} : ∀ {xs : List α} {L : List β}, Paired F xs L → xs.length = L.length
  | _, _, .nil => rfl
  | _, _, .cons _ t => congrArg (· + 1) (pair_len t)
theorem pair_mono {α β : Type} {F G : α → β → Prop} : ∀ {xs : List α} {L : List β}, Paired F xs L → (∀ x p, F x p → G x p) → Paired G xs L
  | _, _, .nil, _ => .nil
  | _, _, .cons r t, h => .cons (h _ _ r) (pair_mono t h)
theorem pair_app {α β : Type} {F : α → β → Prop} : ∀ {xs : List α} {L : List β} {ys : List α} {M : List β}, Paired F xs L → Paired F ys M → Paired F (xs ++ ys) (L ++ M)
  | _, _, _, _, .nil, h => h
  | _, _, _, _, .cons r t, h => .cons r (pair_app t h)
theorem pair_map {α β : Type} {F : α → β → Prop} {f : β → α} : ∀ {L : List β}, (∀ p ∈ L, F (f p) p) → Paired F (L.map f) L
  | [], _ => .nil
  | p :: L, h => .cons (h p List.mem_cons_self) (pair_map fun q hq => h q (List.mem_cons_of_mem _ hq))
/-- what a for walks, as data -/
structure Seq {α : Type} (J : It) (G : Hp → Prop) (rel : V → α → Prop) (L : List α) : Prop where
  goes : ∀ i H, i < L.length → G H → J.go i H
  stops : ∀ H, G H → J.stop L.length H
  yields : ∀ i H x H', i < L.length → G H → J.yld i H x H' → H' = H ∧ ∃ p, L[i]? = some p ∧ rel x p
theorem seq_list {α : Type} {K : PySem.W.Frag} {a : Addr} {xs : List V} {rel : V → α → Prop} {L : List α} (hp : Paired rel xs L) : Seq (Itl K a) (fun H => SqL K H a xs) rel L := by
  have hl := pair_len hp
  refine ⟨fun i H hi q => ⟨xs, xs[i], q, by simp [hl, hi]⟩, fun H q => ⟨xs, q, by omega⟩, fun i H x H' hi q y => ?_⟩
  obtain ⟨e, y⟩ := y
  exact ⟨e, pair_get hp (y xs q)⟩
theorem seq_tup {α : Type} {K : PySem.W.Frag} {a : Addr} {xs : List V} {rel : V → α → Prop} {L : List α} (hp : Paired rel xs L) : Seq (Itt K a) (fun H => SqT K H a xs) rel L := by
  have hl := pair_len hp
  refine ⟨fun i H hi q => ⟨xs, xs[i], q, by simp [hl, hi]⟩, fun H q => ⟨xs, q, by omega⟩, fun i H x H' hi q y => ?_⟩
  obtain ⟨e, y⟩ := y
  exact ⟨e, pair_get hp (y xs q)⟩
/-- lo, lo + 1, .. -/
def rng (lo : Int) (n : Nat) : List Int := (List.range n).map fun (i : Nat) => lo + (i : Int)
theorem rng_len (lo : Int) (n : Nat) : (rng lo n).length = n := by unfold rng; rw [List.length_map, List.length_range]
theorem seq_range {lo : Int} {n : Nat} : Seq (Itr lo n) (fun _ => True) (fun v i => v = .int i) (rng lo n) := by
  refine ⟨fun i H hi _ => by rw [rng_len] at hi; exact hi, fun H _ => Nat.le_of_eq (rng_len lo n).symm, fun i H x H' hi _ y => ?_⟩
  obtain ⟨e, y⟩ := y
  rw [rng_len] at hi
  exact ⟨e, lo + i, by unfold rng; rw [List.getElem?_map, List.getElem?_range hi]; rfl, y⟩
theorem split_at {α : Type} {L : List α} {i : Nat} {p : α} (h : L[i]? = some p) : L = L.take i ++ p :: L.drop (i + 1) ∧ L.take (i + 1) = L.take i ++ [p] := by
  obtain ⟨hi, e⟩ := List.getElem?_eq_some_iff.mp h
  refine ⟨?_, ?_⟩
  · rw [← e, List.getElem_cons_drop hi, List.take_append_drop]
  · rw [List.take_add_one, h]; rfl

def ForW (J : It) (g : TG) (tb : TS) (D : Ends) (σ : L2.St) (H : Hp) : Prop := ∃ W : Nat → Nat → L2.St → Hp → Prop, (∃ m, W 0 m σ H) ∧ ∀ i m σ H, W i m σ H →
  (J.stop i H ∧ D.nx σ H) ∨ (J.go i H ∧ ∃ N : L2.St → Hp → Prop, (∀ σ' H', N σ' H' → ∃ m', m' < m ∧ W (i + 1) m' σ' H') ∧ ∀ x H', J.yld i H x H' → g x σ H' fun σ2 H2 => tb { D with nx := N, ct := N, bk := D.nx } σ2 H2)
theorem r_for {wi : TI} {g : TG} {tb : TS} {D : Ends} {σ : L2.St} {H : Hp} (h : wi σ H fun J H1 => ForW J g tb D σ H1) : tFor wi g tb D σ H := h
theorem r_forS {α : Type} {J : It} {G : Hp → Prop} {rel : V → α → Prop} {L : List α} {g : TG} {tb : TS} {nx bk ct : L2.St → Hp → Prop} {rt : VK} {σ : L2.St} {H : Hp} (S : Seq J G rel L) (Pv : List α → L2.St → Hp → Prop) (h0 : Pv [] σ H)
    (hk : ∀ d σ H, Pv d σ H → G H) (hs : ∀ d p r v σ H, L = d ++ p :: r → rel v p → Pv d σ H → g v σ H fun σ2 H2 => tb ⟨Pv (d ++ [p]), rt, nx, Pv (d ++ [p])⟩ σ2 H2) (hd : ∀ σ H, Pv L σ H → nx σ H) : ForW J g tb ⟨nx, rt, bk, ct⟩ σ H := by
  refine ⟨fun i m σ H => m = L.length - i ∧ i ≤ L.length ∧ Pv (L.take i) σ H, ⟨L.length, by simp, Nat.zero_le _, h0⟩, ?_⟩
  rintro i m σ H ⟨rfl, hi, p0⟩
  have q := hk _ σ H p0
  by_cases hlt : i < L.length
  · refine .inr ⟨S.goes i H hlt q, Pv (L.take (i + 1)), fun σ' H' p' => ⟨L.length - (i + 1), by omega, rfl, hlt, p'⟩, fun x H' y => ?_⟩
    obtain ⟨e, p, hp, r⟩ := S.yields i H x H' hlt q y
    subst e
    obtain ⟨e1, e2⟩ := split_at hp
    rw [e2]
    exact hs _ p _ x σ _ e1 r p0
  · have e : i = L.length := by omega
    subst e
    rw [List.take_length] at p0
    exact .inl ⟨S.stops H q, hd σ H p0⟩

def LcW (J : It) (g : TG) (tt : TT) (te : TE) (own : List Nat) (D : Addr) (σ : L2.St) (H1 : Hp) (Qd : Hp → Prop) : Prop :=
  ∃ V : Nat → Nat → Hp → Prop, (∃ m, V 0 m (upd H1 D (.lst []))) ∧ ∀ k m G, V k m G →
    (J.stop k G ∧ Qd G) ∨ (J.go k G ∧ ∃ T : Hp → Prop, (∀ G', T G' → ∃ m', m' < m ∧ V (k + 1) m' G') ∧ ∀ x G', J.yld k G x G' →
      g x (wipe σ own) G' fun τ G2 => wipe τ own = wipe σ own ∧ tt τ G2 fun c G3 =>
        if c = true then te τ G3 fun y G4 => ∃ got, G4 D = some (.lst got) ∧ got.length < sizeLine ∧ T (upd G4 D (.lst (got ++ [y])))
        else T G3)
theorem r_lc {wi : TI} {g : TG} {tt : TT} {te : TE} {vs : List Nat} {σ : L2.St} {H : Hp} {Q : VK} (h : wi σ H fun J H1 => ∀ D, H1 D = none → LcW J g tt te vs D σ H1 (Q (.ref D))) : tLc wi g tt te vs σ H Q := h
theorem r_lcS {α : Type} {J : It} {G : Hp → Prop} {rel : V → α → Prop} {L : List α} {g : TG} {tt : TT} {te : TE} {vs : List Nat} {D : Addr} {σ : L2.St} {H1 : Hp} {Qd : Hp → Prop} (S : Seq J G rel L) (Pv : List α → Hp → Prop) (h0 : Pv [] (upd H1 D (.lst [])))
    (hk : ∀ d H, Pv d H → G H) (hs : ∀ d p r v H, L = d ++ p :: r → rel v p → Pv d H → g v (wipe σ vs) H fun σ2 H2 => wipe σ2 vs = wipe σ vs ∧ tt σ2 H2 fun b H3 =>
      if b = true then te σ2 H3 fun y H4 => ∃ acc, H4 D = some (.lst acc) ∧ acc.length < sizeLine ∧ Pv (d ++ [p]) (upd H4 D (.lst (acc ++ [y]))) else Pv (d ++ [p]) H3) (hd : ∀ H, Pv L H → Qd H) : LcW J g tt te vs D σ H1 Qd := by
  refine ⟨fun i m H => m = L.length - i ∧ i ≤ L.length ∧ Pv (L.take i) H, ⟨L.length, by simp, Nat.zero_le _, h0⟩, ?_⟩
  rintro i m H ⟨rfl, hi, p0⟩
  have q := hk _ H p0
  by_cases hlt : i < L.length
  · refine .inr ⟨S.goes i H hlt q, Pv (L.take (i + 1)), fun H' p' => ⟨L.length - (i + 1), by omega, rfl, hlt, p'⟩, fun x H' y => ?_⟩
    obtain ⟨e, p, hp, r⟩ := S.yields i H x H' hlt q y
    subst e
    obtain ⟨e1, e2⟩ := split_at hp
    rw [e2]
    exact hs _ p _ x _ e1 r p0
  · have e : i = L.length := by omega
    subst e
    rw [List.take_length] at p0
    exact .inl ⟨S.stops H q, hd H p0⟩
/-- a comprehension whose parts make nothing: kept items f p of those p with b p -/
theorem r_lcP {α : Type} {J : It} {G : Hp → Prop} {rel : V → α → Prop} {L : List α} {g : TG} {tt : TT} {te : TE} {vs : List Nat} {D : Addr} {σ : L2.St} {H1 : Hp} {Qd : Hp → Prop} (S : Seq J G rel L) (b : α → Bool) (f : α → V)
    (hz : L.length < 100000) (np : H1 D = none) (hG : ∀ H, Same H1 H → G H)
    (hs : ∀ p v H acc, p ∈ L → rel v p → Same H1 H → H D = some (.lst acc) → acc.length < sizeLine → ∀ N : Hp → Prop, (b p = true → N (upd H D (.lst (acc ++ [f p])))) → (b p = false → N H) → g v (wipe σ vs) H fun σ2 H2 => wipe σ2 vs = wipe σ vs ∧ tt σ2 H2 fun b H3 =>
      if b = true then te σ2 H3 fun y H4 => ∃ acc, H4 D = some (.lst acc) ∧ acc.length < sizeLine ∧ N (upd H4 D (.lst (acc ++ [y]))) else N H3)
    (hd : Qd (upd H1 D (.lst ((L.filter b).map f)))) : LcW J g tt te vs D σ H1 Qd := by
  have same : ∀ acc, Same H1 (upd H1 D (.lst acc)) := fun acc a o e => by rw [upd_ne (ne_of_none e np)]; exact e
  refine r_lcS S (fun d H => H = upd H1 D (.lst ((d.filter b).map f))) rfl (fun d H e => hG H (e ▸ same _)) (fun d p r v H e hr hp => ?_) (fun H e => e ▸ hd)
  subst hp
  have hlen : ((d.filter b).map f).length < sizeLine := by
    have h1 := List.length_filter_le b d
    have h2 : L.length = d.length + (r.length + 1) := by rw [e]; simp
    rw [List.length_map]
    exact Nat.lt_of_lt_of_le (show (d.filter b).length < 100000 by omega) (by decide)
  refine hs p v _ _ (by rw [e]; simp) hr (same _) upd_same hlen (fun H => H = upd H1 D (.lst (((d ++ [p]).filter b).map f))) (fun hb => ?_) (fun hb => ?_)
  · rw [upd_upd, List.filter_append, List.filter_cons_of_pos hb, List.map_append]
    rfl
  · rw [List.filter_append, List.filter_cons_of_neg (by rw [hb]; exact Bool.false_ne_true), List.filter_nil, List.append_nil]

/-! ### whiles -/
theorem r_while {c : TT} {tb : TS} {nx bk ct : L2.St → Hp → Prop} {rt : VK} {σ : L2.St} {H : Hp} (Pv : Nat → L2.St → Hp → Prop) (m0 : Nat) (h0 : Pv m0 σ H)
    (hs : ∀ m σ H, Pv m σ H → c σ H fun b H1 => if b = true then ∃ N : L2.St → Hp → Prop, (∀ σ' H', N σ' H' → ∃ m', m' < m ∧ Pv m' σ' H') ∧ tb ⟨N, rt, nx, N⟩ σ H1 else nx σ H1) : tWhile c tb ⟨nx, rt, bk, ct⟩ σ H :=
  ⟨Pv, ⟨m0, h0⟩, hs⟩
theorem r_whT {tb : TS} {nx : L2.St → Hp → Prop} {rt : VK} {σ : L2.St} {H1 : Hp} {Pv : Nat → L2.St → Hp → Prop} {m : Nat} (h : tb ⟨fun σ' H' => ∃ m', m' < m ∧ Pv m' σ' H', rt, nx, fun σ' H' => ∃ m', m' < m ∧ Pv m' σ' H'⟩ σ H1) :
    ∃ N : L2.St → Hp → Prop, (∀ σ' H', N σ' H' → ∃ m', m' < m ∧ Pv m' σ' H') ∧ tb ⟨N, rt, nx, N⟩ σ H1 := ⟨_, fun _ _ z => z, h⟩
end Vf
namespace Vf
open PySem PySem.Spec PyProof.Rows L2
theorem r_forE {α : Type} {K : PySem.W.Frag} {a : Addr} {xs : List V} {rel : V → α → Prop} {L : List α} {g : TG} {tb : TS} {nx bk ct : L2.St → Hp → Prop} {rt : VK} {σ : L2.St} {H : Hp} (hp : Paired rel xs L) (Pv : List α → L2.St → Hp → Prop) (h0 : Pv [] σ H)
    (hk : ∀ d σ H, Pv d σ H → SqL K H a xs) (hs : ∀ d p r x T σ H, L = d ++ p :: r → xs[d.length]? = some x → rel x p → Pv d σ H → H T = none → g (.ref T) σ (upd H T (.tup [.int (d.length : Nat), x])) fun σ2 H2 => tb ⟨Pv (d ++ [p]), rt, nx, Pv (d ++ [p])⟩ σ2 H2)
    (hd : ∀ σ H, Pv L σ H → nx σ H) : ForW (Ite K a) g tb ⟨nx, rt, bk, ct⟩ σ H := by
  have hl := pair_len hp
  refine ⟨fun i m σ H => m = L.length - i ∧ i ≤ L.length ∧ Pv (L.take i) σ H, ⟨L.length, by simp, Nat.zero_le _, h0⟩, ?_⟩
  rintro i m σ H ⟨rfl, hi, p0⟩
  have q := hk _ σ H p0
  by_cases hlt : i < L.length
  · refine .inr ⟨⟨xs, xs[i], q, by simp [hl, hlt]⟩, Pv (L.take (i + 1)), fun σ' H' p' => ⟨L.length - (i + 1), by omega, rfl, hlt, p'⟩, fun v H' y => ?_⟩
    obtain ⟨T, x, rfl, nT, rfl, fx⟩ := y
    obtain ⟨p, hp1, hp2⟩ := pair_get hp (fx xs q)
    obtain ⟨e1, e2⟩ := split_at hp1
    have el : (L.take i).length = i := by rw [List.length_take]; omega
    have hx := fx xs q
    rw [e2]
    have := hs (L.take i) p _ x T σ H e1 (by rw [el]; exact hx) hp2 p0 nT
    rw [el] at this
    exact this
  · have e : i = L.length := by omega
    subst e
    rw [List.take_length] at p0
    exact .inl ⟨⟨xs, q, by omega⟩, hd σ H p0⟩
theorem r_ienum {K : PySem.W.Frag} {ts : TA} {σ : L2.St} {H : Hp} {A : It → Hp → Prop} (h : ts σ H fun vs H1 => ∃ a xs, vs = [.ref a] ∧ SqL K H1 a xs ∧ A (Ite K a) H1) : iEnum K ts σ H A := h
theorem r_leP {K : PySem.W.Frag} {H : Hp} {t u : Addr} {a b c d : Int} {Q : VK} (ht : SqT K H t [.int a, .int b]) (hu : SqT K H u [.int c, .int d]) (h : Q (.bl (decide (a < c ∨ (a = c ∧ b ≤ d)))) H) : rLeT K (.ref t) (.ref u) H Q := by
  refine ⟨t, u, [a, b], [c, d], rfl, rfl, ht, hu, ?_⟩
  have e : Ob.lexAt (fun j => decide (([a, b] : List Int).getD j 0 = ([c, d] : List Int).getD j 0)) (fun j => decide (([a, b] : List Int).getD j 0 ≤ ([c, d] : List Int).getD j 0)) (decide (([a, b] : List Int).length ≤ ([c, d] : List Int).length)) 0 (min ([a, b] : List Int).length ([c, d] : List Int).length) = decide (a < c ∨ (a = c ∧ b ≤ d)) := by
    show Ob.lexAt _ _ _ 0 2 = _
    rw [Ob.lexAt_succ, Ob.lexAt_succ, Ob.lexAt_zero]
    show (if decide (a = c) = true then if decide (b = d) = true then decide ((2 : Nat) ≤ 2) else decide (b ≤ d) else decide (a ≤ c)) = _
    by_cases e1 : a = c
    · rw [if_pos (decide_eq_true e1)]
      by_cases e2 : b = d
      · rw [if_pos (decide_eq_true e2), Bool.eq_iff_iff]; simp; omega
      · rw [if_neg (by simpa using e2), Bool.eq_iff_iff]; simp; omega
    · rw [if_neg (by simpa using e1), Bool.eq_iff_iff]; simp; omega
  rw [e]
  exact h
theorem r_sin {w : World} {H : Hp} {k : Int} {a : Addr} {S : Int → Bool} {n : Nat} {Q : VK} (hs : H a = some (SetO w a S n)) (h : Q (.bl (S k)) H) : rSIn w (.int k) (.ref a) H Q := ⟨k, a, S, n, rfl, rfl, hs, h⟩
theorem r_sadd {w : World} {to : TE} {ts : TA} {σ : L2.St} {H : Hp} {Q : VK} (h : to σ H fun x H1 => (∃ a S n, x = V.ref a ∧ H1 a = some (SetO w a S n)) ∧ ts σ H1 fun xs H2 => rSAdd w x xs H2 Q) : tSAdd w to ts σ H Q := h
theorem r_add {w : World} {H : Hp} {k : Int} {a : Addr} {S : Int → Bool} {n : Nat} {Q : VK} (hs : H a = some (SetO w a S n)) (hn : n + 1 < scanBound) (h : Q .non (upd H a (SetO w a (fun j => S j || decide (j = k)) (if S k = true then n else n + 1)))) : rSAdd w (.ref a) [.int k] H Q := ⟨a, k, S, n, rfl, rfl, hs, hn, h⟩
end Vf

namespace Vf
open PySem PySem.Spec PyProof.Rows L2

/-! ### heaps -/
def But (t : Addr) (H H' : Hp) : Prop := ∀ b, b ≠ t → H' b = H b
def NewO (H : Hp) (o : HO) (Q : VK) : Prop := ∀ p H', Same H H' → H p = none → H' p = some o → Q (.ref p) H'
theorem same_new {H : Hp} {p : Addr} {o : HO} (h : H p = none) : Same H (upd H p o) := fun b x e => by
  rw [upd_ne (ne_of_none e h)]
  exact e
theorem NewO.mk {H H1 : Hp} {o : HO} {Q : VK} (h : NewO H o Q) (s : Same H H1) : ∀ p, H1 p = none → Q (.ref p) (upd H1 p o) := fun p np =>
  h p _ (s.trans (same_new np)) (s.free np) upd_same
theorem NewO.on {H H1 : Hp} {o : HO} {Q : VK} (h : NewO H o Q) (s : Same H H1) : NewO H1 o Q := fun p H' s' n e => h p H' (s.trans s') (s.free n) e
/-- the draws' list -/
def Tap (H : Hp) (t : Addr) : Prop := ∃ a b c : Int, H t = some (.lst [.int a, .int b, .int c]) ∧ 0 ≤ a ∧ 0 ≤ b ∧ 0 ≤ c ∧ c < 2 ^ 62
theorem Tap.mono {H H' : Hp} {t : Addr} (s : Same H H') (h : Tap H t) : Tap H' t := let ⟨a, b, c, e, r⟩ := h; ⟨a, b, c, s _ _ e, r⟩
/-- what is known in B, where t is not known, stays while t changes -/
theorem Same.but {B H H' : Hp} {t : Addr} (s : Same B H) (n : B t = none) (b : But t H H') : Same B H' := fun a o e => by
  rw [b a (ne_of_none e n)]
  exact s a o e
theorem Same.set {B H : Hp} {t : Addr} {o : HO} (s : Same B H) (n : B t = none) : Same B (upd H t o) := fun a u e => by
  rw [upd_ne (ne_of_none e n)]
  exact s a u e
/-- the tuple of a coupling -/
def Pr (H : Hp) (v : V) (p : Int × Int) : Prop := ∃ t, v = .ref t ∧ H t = some (.tup [.int p.1, .int p.2])
abbrev Prs (H : Hp) : List V → List (Int × Int) → Prop := Paired (Pr H)
theorem Pr.mono {H H' : Hp} {v : V} {p : Int × Int} (s : Same H H') (h : Pr H v p) : Pr H' v p := let ⟨t, e, f⟩ := h; ⟨t, e, s _ _ f⟩
theorem Prs.mono {H H' : Hp} {xs : List V} {L : List (Int × Int)} (s : Same H H') (h : Prs H xs L) : Prs H' xs L := pair_mono h fun _ _ q => q.mono s
/-- tuples stay where only an object changes that is none -/
theorem Pr.but {H H' : Hp} {v : V} {p : Int × Int} {t : Addr} {o : HO} (b : But t H H') (ht : H t = some o) (no : ∀ xs, o ≠ .tup xs) (h : Pr H v p) : Pr H' v p := by
  obtain ⟨a, e, f⟩ := h
  refine ⟨a, e, ?_⟩
  rw [b a (ne_of f ht (fun z => no _ z.symm))]
  exact f
theorem Prs.but {H H' : Hp} {xs : List V} {L : List (Int × Int)} {t : Addr} {o : HO} (b : But t H H') (ht : H t = some o) (no : ∀ xs, o ≠ .tup xs) (h : Prs H xs L) : Prs H' xs L := pair_mono h fun _ _ q => q.but b ht no
theorem but_upd {H : Hp} {t : Addr} {o : HO} : But t H (upd H t o) := fun b e => upd_ne e
theorem But.trans {H H1 H2 : Hp} {t : Addr} (a : But t H H1) (b : But t H1 H2) : But t H H2 := fun x e => (b x e).trans (a x e)
theorem fm (x m : Int) (h : 0 < m) : 0 ≤ x.fmod m ∧ x.fmod m < m := ⟨Int.fmod_nonneg_of_pos _ h, Int.fmod_lt_of_pos _ h⟩
theorem szl {n : Nat} (h : n ≤ 100000) : n ≤ sizeLine := Nat.le_trans h (by decide)
theorem szs {n : Nat} (h : n < 100000) : n < sizeLine := Nat.lt_of_lt_of_le h (by decide)
theorem sql {K : PySem.W.Frag} {H : Hp} {a : Addr} {xs : List V} (h : H a = some (.lst xs)) : SqL K H a xs := .inl (.inl h)
theorem sqt {K : PySem.W.Frag} {H : Hp} {a : Addr} {xs : List V} (h : H a = some (.tup xs)) : SqT K H a xs := .inl (.inl h)

/-! ### layouts -/
def flat (L : List (Int × Int)) : List Int := L.flatMap fun p => [p.1, p.2]
theorem flat_nil : flat [] = [] := rfl
theorem flat_cons (p : Int × Int) (L : List (Int × Int)) : flat (p :: L) = p.1 :: p.2 :: flat L := by unfold flat; rw [List.flatMap_cons]; rfl
theorem flat_app (L M : List (Int × Int)) : flat (L ++ M) = flat L ++ flat M := by unfold flat; rw [List.flatMap_append]
theorem flat_len (L : List (Int × Int)) : (flat L).length = 2 * L.length := by
  induction L with
  | nil => rfl
  | cons p L ih => rw [flat_cons, List.length_cons, List.length_cons, ih, List.length_cons]; omega
theorem mem_flat {L : List (Int × Int)} {e : Int} : e ∈ flat L ↔ ∃ p ∈ L, e = p.1 ∨ e = p.2 := by
  unfold flat
  rw [List.mem_flatMap]
  constructor
  · rintro ⟨p, hp, h⟩
    exact ⟨p, hp, by simpa using h⟩
  · rintro ⟨p, hp, h⟩
    exact ⟨p, hp, by simpa using h⟩
structure Lay (n : Int) (L : List (Int × Int)) : Prop where
  n1 : 1 ≤ n
  n60 : n ≤ 60
  cp : ∀ p ∈ L, -n ≤ p.1 ∧ p.1 < p.2 ∧ p.2 ≤ n ∧ p.1 ≠ 0 ∧ p.2 ≠ 0
  asc : L.Pairwise fun p q => p.1 < q.1 ∨ (p.1 = q.1 ∧ p.2 < q.2)
  nd : (flat L).Nodup
def endsL (n : Int) : List Int := (rng (-n) (n + 1 - -n).toNat).filter fun e => !decide (e = 0)
theorem mem_rng {lo : Int} {n : Nat} {e : Int} : e ∈ rng lo n ↔ lo ≤ e ∧ e < lo + n := by
  unfold rng
  rw [List.mem_map]
  constructor
  · rintro ⟨i, hi, rfl⟩
    have := List.mem_range.mp hi
    omega
  · rintro ⟨h1, h2⟩
    exact ⟨(e - lo).toNat, List.mem_range.mpr (by omega), by omega⟩
theorem mem_endsL {n e : Int} : e ∈ endsL n ↔ -n ≤ e ∧ e ≤ n ∧ e ≠ 0 := by
  unfold endsL
  rw [List.mem_filter, mem_rng]
  simp only [Bool.not_eq_eq_eq_not, Bool.not_true, decide_eq_false_iff_not]
  omega
theorem rng_asc (lo : Int) (n : Nat) : (rng lo n).Pairwise (· < ·) := by
  unfold rng
  rw [List.pairwise_map]
  exact List.Pairwise.imp (fun h => by omega) List.pairwise_lt_range
theorem endsL_asc (n : Int) : (endsL n).Pairwise (· < ·) := (rng_asc _ _).filter _
theorem endsL_nd (n : Int) : (endsL n).Nodup := (endsL_asc n).imp fun h => by omega
theorem endsL_len {n : Int} (h : 0 ≤ n) : (endsL n).length ≤ 2 * n.toNat + 1 := by
  have h1 := List.length_filter_le (fun e : Int => !decide (e = 0)) (rng (-n) (n + 1 - -n).toNat)
  rw [rng_len] at h1
  unfold endsL
  omega
/-- the partner of an end -/
def tabI (L : List (Int × Int)) : List (Int × Int) := L.flatMap fun p => [(p.1, p.2), (p.2, p.1)]
def parI (L : List (Int × Int)) (e : Int) : Option Int := ((tabI L).find? fun q => decide (q.1 = e)).map (·.2)
def tab (L : List (Int × Int)) : List (Key × V) := (tabI L).map fun q => (.inl q.1, .int q.2)
theorem tabI_app (L M : List (Int × Int)) : tabI (L ++ M) = tabI L ++ tabI M := by unfold tabI; rw [List.flatMap_append]
theorem tabI_keys (L : List (Int × Int)) : (tabI L).map (·.1) = flat L := by
  induction L with
  | nil => rfl
  | cons p L ih =>
    rw [flat_cons, ← ih]
    rfl
theorem tab_len (L : List (Int × Int)) : (tab L).length = 2 * L.length := by
  unfold tab
  rw [List.length_map, ← List.length_map (f := (·.1)), tabI_keys, flat_len]
theorem tab_get (L : List (Int × Int)) (e : Int) : valV (tab L) (Sum.inl e : Key) = (parI L e).map V.int := by
  unfold valV tab parI
  rw [List.find?_map]
  have : ((fun kv : Key × V => decide (kv.1 = (Sum.inl e : Key))) ∘ fun q : Int × Int => ((Sum.inl q.1 : Key), V.int q.2)) = fun q => decide (q.1 = e) := by
    funext q
    show decide ((Sum.inl q.1 : Key) = Sum.inl e) = decide (q.1 = e)
    rw [Bool.eq_iff_iff]
    simp
  rw [this]
  cases (tabI L).find? fun q => decide (q.1 = e) <;> rfl
theorem parI_none {L : List (Int × Int)} {e : Int} : parI L e = none ↔ e ∉ flat L := by
  unfold parI
  rw [Option.map_eq_none_iff, List.find?_eq_none, ← tabI_keys, List.mem_map]
  constructor
  · rintro h ⟨q, hq, rfl⟩
    exact h q hq (decide_eq_true rfl)
  · intro h q hq c
    exact h ⟨q, hq, of_decide_eq_true c⟩
theorem tab_no {L : List (Int × Int)} {e : Int} (h : e ∉ flat L) : valV (tab L) (Sum.inl e : Key) = none := by
  rw [tab_get, parI_none.mpr h]
  rfl
theorem tab_put {d r : List (Int × Int)} {p : Int × Int} (h : (flat (d ++ p :: r)).Nodup) : putK (putK (tab d) (Sum.inl p.1 : Key) (.int p.2)) (Sum.inl p.2 : Key) (.int p.1) = tab (d ++ [p]) ∧ p.1 ∉ flat d ∧ p.2 ∉ flat d ∧ p.1 ≠ p.2 := by
  rw [flat_app, flat_cons] at h
  obtain ⟨h1, h2, h3⟩ := List.nodup_append.mp h
  have n1 : p.1 ∉ flat d := fun z => h3 _ z p.1 (by simp) rfl
  have n2 : p.2 ∉ flat d := fun z => h3 _ z p.2 (by simp) rfl
  have n3 : p.1 ≠ p.2 := fun z => (List.nodup_cons.mp h2).1 (by rw [z]; simp)
  refine ⟨?_, n1, n2, n3⟩
  rw [putK_new _ (tab_no n1), putK_new]
  · unfold tab
    rw [tabI_app, List.map_append, List.append_assoc]
    rfl
  · rw [valV_snoc _ _ _ _ (tab_no n1), if_neg (by simpa using Ne.symm n3), tab_no n2]
theorem Lay.tail {n : Int} {d : List (Int × Int)} {r : List (Int × Int)} (h : Lay n (d ++ r)) : Lay n r := by
  refine ⟨h.n1, h.n60, fun p hp => h.cp p (List.mem_append_right _ hp), (List.pairwise_append.mp h.asc).2.1, ?_⟩
  have := h.nd
  rw [flat_app] at this
  exact (List.nodup_append.mp this).2.1
theorem nodup_sub {α : Type} [BEq α] [LawfulBEq α] : ∀ {l m : List α}, l.Nodup → (∀ x ∈ l, x ∈ m) → l.length ≤ m.length
  | [], _, _, _ => Nat.zero_le _
  | a :: l, m, nd, h => by
    obtain ⟨h1, h2⟩ := List.nodup_cons.mp nd
    have ha := h a List.mem_cons_self
    have ih := nodup_sub (l := l) (m := m.erase a) h2 fun x hx => (List.mem_erase_of_ne (fun e : x = a => h1 (e ▸ hx))).mpr (h x (List.mem_cons_of_mem _ hx))
    rw [List.length_erase_of_mem ha] at ih
    have := List.length_pos_of_mem ha
    rw [List.length_cons]
    omega
theorem Lay.len {n : Int} {L : List (Int × Int)} (h : Lay n L) : L.length ≤ 60 := by
  have h1 : (flat L).length ≤ (endsL n).length := nodup_sub h.nd fun e he => by
    obtain ⟨p, hp, q⟩ := mem_flat.mp he
    have := h.cp p hp
    rw [mem_endsL]
    omega
  have h2 := endsL_len (n := n) (by have := h.n1; omega)
  have h3 := h.n60
  rw [flat_len] at h1
  omega
end Vf

namespace Vf
open PySem PySem.Spec PyProof.Rows L2

/-! ### lists -/
theorem map_eraseI {α β : Type} (f : α → β) : ∀ (l : List α) (k : Nat), (l.map f).eraseIdx k = (l.eraseIdx k).map f
  | [], _ => rfl
  | _ :: _, 0 => rfl
  | a :: l, k + 1 => by
    rw [List.map_cons, List.eraseIdx_cons_succ, List.eraseIdx_cons_succ, List.map_cons, map_eraseI f l k]
theorem perm_erase {α : Type} : ∀ {l : List α} {k : Nat} {x : α}, l[k]? = some x → l.Perm (x :: l.eraseIdx k)
  | [], _, _, h => by simp at h
  | a :: l, 0, x, h => by
    have e : a = x := Option.some.inj h
    subst e
    exact List.Perm.refl _
  | a :: l, k + 1, x, h => by
    have ih := perm_erase (l := l) (k := k) (x := x) (by simpa using h)
    rw [List.eraseIdx_cons_succ]
    exact (ih.cons a).trans (List.Perm.swap x a _)
theorem seqIx {i : Int} {n : Nat} (h0 : 0 ≤ i) (h1 : i < n) : seqIndex? i n = some i.toNat := by
  unfold seqIndex?
  simp only [show ¬ i < 0 by omega, if_false]
  rw [if_pos (by simp; omega)]
theorem cut_ints (l : List Int) (lo hi : Option Int) : ∃ m : List Int, cutV (l.map V.int) lo hi = m.map V.int ∧ m.length ≤ l.length := by
  refine ⟨(l.drop (HT.sIx (l.map V.int).length 0 lo)).take (HT.sIx (l.map V.int).length (l.map V.int).length hi - HT.sIx (l.map V.int).length 0 lo), ?_, ?_⟩
  · unfold cutV
    rw [← List.map_drop, ← List.map_take]
  · rw [List.length_take, List.length_drop]
    omega

/-! ### sorted couplings -/
/-- which coupling a value is -/
def keyP (H : Hp) (v : V) : Int × Int := match v with
  | .ref t => match H t with
    | some (.tup [.int a, .int b]) => (a, b)
    | _ => (0, 0)
  | _ => (0, 0)
theorem keyP_of {H : Hp} {v : V} {p : Int × Int} (h : Pr H v p) : keyP H v = p := by
  obtain ⟨t, rfl, e⟩ := h
  simp only [keyP, e]
theorem prs_key {H : Hp} : ∀ {xs : List V} {L : List (Int × Int)}, Prs H xs L → xs.map (keyP H) = L
  | _, _, .nil => rfl
  | _, _, .cons r t => by rw [List.map_cons, keyP_of r, prs_key t]
theorem prs_all {H : Hp} : ∀ {xs : List V} {L : List (Int × Int)}, Prs H xs L → ∀ x ∈ xs, Pr H x (keyP H x)
  | _, _, .nil, _, h => absurd h (by simp)
  | _, _, .cons r t, x, h => by
    rcases List.mem_cons.mp h with rfl | h
    · rw [keyP_of r]; exact r
    · exact prs_all t x h
theorem prs_of {H : Hp} : ∀ {ys : List V}, (∀ y ∈ ys, Pr H y (keyP H y)) → Prs H ys (ys.map (keyP H))
  | [], _ => .nil
  | y :: ys, h => .cons (h y List.mem_cons_self) (prs_of fun z hz => h z (List.mem_cons_of_mem _ hz))
def Asc (L : List (Int × Int)) : Prop := L.Pairwise fun p q => p.1 < q.1 ∨ (p.1 = q.1 ∧ p.2 < q.2)
theorem flat_perm {L M : List (Int × Int)} (h : L.Perm M) : (flat L).Perm (flat M) := h.flatMap_right _
theorem nd_of_flat : ∀ {L : List (Int × Int)}, (flat L).Nodup → L.Nodup
  | [], _ => List.nodup_nil
  | p :: L, h => by
    rw [flat_cons] at h
    obtain ⟨h1, h2⟩ := List.nodup_cons.mp h
    refine List.nodup_cons.mpr ⟨fun hp => h1 (List.mem_cons_of_mem _ (mem_flat.mpr ⟨p, hp, .inl rfl⟩)), nd_of_flat (List.nodup_cons.mp h2).2⟩
theorem r_sortedP {K : PySem.W.Frag} {H : Hp} {a : Addr} {xs : List V} {L : List (Int × Int)} {Q : VK} (hs : SqL K H a xs) (hp : Prs H xs L) (nd : L.Nodup)
    (h : ∀ ys M p, M.Perm L → Asc M → Prs H ys M → H p = none → Q (.ref p) (upd H p (.lst ys))) : rSortedPO K [.ref a] H Q := by
  refine ⟨a, xs, keyP H, rfl, hs, fun x hx => prs_all hp x hx, fun ys p srt stb np => ?_⟩
  have perm : (ys.map (keyP H)).Perm L := by
    rw [← prs_key hp]
    exact stb.perm.map _
  refine h ys (ys.map (keyP H)) p perm ?_ (prs_of fun y hy => prs_all hp y (stb.perm.mem_iff.mp hy)) np
  unfold Asc
  rw [List.pairwise_map]
  have nd2 : ys.Pairwise fun x y => keyP H x ≠ keyP H y := by
    have := perm.nodup_iff.mpr nd
    rw [List.Nodup, List.pairwise_map] at this
    exact this
  exact (srt.and nd2).imp fun {x y} c => by
    have c1 := SrtO.lexB_no.mp c.1
    have c2 : ¬ ((keyP H x).1 = (keyP H y).1 ∧ (keyP H x).2 = (keyP H y).2) := fun z => c.2 (Prod.ext z.1 z.2)
    omega

/-! ### all but t -/
def SameX (t : Addr) (H H' : Hp) : Prop := ∀ b o, b ≠ t → H b = some o → H' b = some o
theorem SameX.refl {t : Addr} {H : Hp} : SameX t H H := fun _ _ _ h => h
theorem SameX.trans {t : Addr} {H H1 H2 : Hp} (a : SameX t H H1) (b : SameX t H1 H2) : SameX t H H2 := fun x o n h => b x o n (a x o n h)
theorem SameX.of {t : Addr} {H H' : Hp} (h : Same H H') : SameX t H H' := fun b o _ e => h b o e
theorem SameX.ofBut {t : Addr} {H H' : Hp} (h : But t H H') : SameX t H H' := fun b o n e => by rw [h b n]; exact e
theorem SameX.set {t x : Addr} {o : HO} {H H' : Hp} (s : SameX t H H') (n : H x = none) : SameX t H (upd H' x o) := fun b u nb e => by
  rw [upd_ne (ne_of_none e n)]
  exact s b u nb e
theorem SameX.prs {t : Addr} {o : HO} {H H' : Hp} {xs : List V} {L : List (Int × Int)} (s : SameX t H H') (ht : H t = some o) (no : ∀ xs, o ≠ .tup xs) (h : Prs H xs L) : Prs H' xs L :=
  pair_mono h fun _ _ ⟨a, e, f⟩ => ⟨a, e, s _ _ (ne_of f ht fun z => no _ z.symm) f⟩
theorem SameX.same {t : Addr} {B H H' : Hp} (s : SameX t H H') (b : Same B H) (n : B t = none) : Same B H' := fun a o e => s a o (ne_of_none e n) (b a o e)
theorem Tap.lst {H : Hp} {t : Addr} (h : Tap H t) : ∃ xs, H t = some (.lst xs) := let ⟨_, _, _, e, _⟩ := h; ⟨_, e⟩
/-- a layout's making, step by step -/
structure Mk (n : Int) (l : List Int) (L : List (Int × Int)) : Prop where
  cp : ∀ p ∈ L, p.1 < p.2
  nd : (l ++ flat L).Nodup
  sub : ∀ e ∈ l ++ flat L, e ∈ endsL n
theorem Mk.start (n : Int) : Mk n (endsL n) [] := ⟨fun _ h => absurd h (by simp), by rw [flat_nil, List.append_nil]; exact endsL_nd n, fun e h => by rw [flat_nil, List.append_nil] at h; exact h⟩
theorem Mk.drop {n : Int} {l : List Int} {L : List (Int × Int)} {a b : Int} {i j : Nat} (h : Mk n l L) (ha : l[i]? = some a) (hb : (l.eraseIdx i)[j]? = some b) : Mk n ((l.eraseIdx i).eraseIdx j) L ∧ Mk n ((l.eraseIdx i).eraseIdx j) (L ++ [(min a b, max a b)]) := by
  have p1 := (perm_erase ha).trans ((perm_erase hb).cons a)
  have nd1 : (a :: b :: ((l.eraseIdx i).eraseIdx j) ++ flat L).Nodup := ((p1.append_right (flat L)).nodup_iff).mp h.nd
  have sub1 : ∀ e ∈ a :: b :: ((l.eraseIdx i).eraseIdx j) ++ flat L, e ∈ endsL n := fun e he => h.sub e ((p1.append_right (flat L)).mem_iff.mpr he)
  obtain ⟨q1, q2⟩ := List.nodup_cons.mp (show (a :: (b :: ((l.eraseIdx i).eraseIdx j ++ flat L))).Nodup from nd1)
  obtain ⟨q3, q4⟩ := List.nodup_cons.mp q2
  have nab : a ≠ b := fun z => q1 (by rw [z]; simp)
  refine ⟨⟨h.cp, q4, fun e he => sub1 e (List.mem_cons_of_mem _ (List.mem_cons_of_mem _ he))⟩, fun p hp => ?_, ?_, fun e he => ?_⟩
  · rcases List.mem_append.mp hp with hp | hp
    · exact h.cp p hp
    · rw [List.mem_singleton.mp hp]
      show min a b < max a b
      omega
  · rw [flat_app, flat_cons, flat_nil]
    have pm : ([min a b, max a b] : List Int).Perm [a, b] := by
      by_cases c : a ≤ b
      · rw [Int.min_eq_left c, Int.max_eq_right c]
      · rw [Int.min_eq_right (by omega), Int.max_eq_left (by omega)]
        exact List.Perm.swap a b []
    have pp : ((l.eraseIdx i).eraseIdx j ++ (flat L ++ [min a b, max a b])).Perm (a :: b :: ((l.eraseIdx i).eraseIdx j ++ flat L)) := by
      rw [← List.append_assoc]
      refine (List.Perm.append_left _ pm).trans ?_
      exact (List.perm_append_comm (l₁ := (l.eraseIdx i).eraseIdx j ++ flat L) (l₂ := [a, b]))
    exact pp.nodup_iff.mpr nd1
  · rw [flat_app, flat_cons, flat_nil] at he
    have : e ∈ (l.eraseIdx i).eraseIdx j ++ flat L ∨ e = a ∨ e = b := by
      rcases List.mem_append.mp he with he | he
      · exact .inl (List.mem_append_left _ he)
      · rcases List.mem_append.mp he with he | he
        · exact .inl (List.mem_append_right _ he)
        · have : e = min a b ∨ e = max a b := by simpa using he
          omega
    rcases this with z | z | z
    · exact sub1 e (List.mem_cons_of_mem _ (List.mem_cons_of_mem _ z))
    · exact sub1 e (by rw [z]; simp)
    · exact sub1 e (by rw [z]; simp)
theorem Mk.lay {n : Int} {l : List Int} {L M : List (Int × Int)} (h : Mk n l L) (n1 : 1 ≤ n) (n2 : n ≤ 60) (pm : M.Perm L) (asc : Asc M) : Lay n M := by
  obtain ⟨_, q2, _⟩ := List.nodup_append.mp h.nd
  refine ⟨n1, n2, fun p hp => ?_, asc, (flat_perm pm).nodup_iff.mpr q2⟩
  have hp' := pm.mem_iff.mp hp
  have c := h.cp p hp'
  have e1 := mem_endsL.mp (h.sub p.1 (List.mem_append_right _ (mem_flat.mpr ⟨p, hp', .inl rfl⟩)))
  have e2 := mem_endsL.mp (h.sub p.2 (List.mem_append_right _ (mem_flat.mpr ⟨p, hp', .inr rfl⟩)))
  omega
end Vf
namespace Vf
open PySem PySem.Spec PyProof.Rows L2
theorem at_int {ns : List Int} {r : Int} (h0 : 0 ≤ r) (h1 : r < ns.length) : ∃ v : Int, atI (ns.map V.int) r = some (.int v) ∧ ns[r.toNat]? = some v := by
  have h : r.toNat < ns.length := by omega
  refine ⟨ns[r.toNat], at_of (j := r.toNat) (by omega) (by rw [List.getElem?_map, List.getElem?_eq_getElem h]; rfl), List.getElem?_eq_getElem h⟩
theorem get_ints {ns : List Int} {k : Nat} (h : k < ns.length) : ∃ v : Int, (ns.map V.int)[k]? = some (.int v) ∧ ns[k]? = some v := ⟨ns[k], by rw [List.getElem?_map, List.getElem?_eq_getElem h]; rfl, List.getElem?_eq_getElem h⟩
theorem Mk.len {n : Int} {l : List Int} {L : List (Int × Int)} (h : Mk n l L) (n1 : 1 ≤ n) (n2 : n ≤ 60) : l.length + 2 * L.length ≤ 121 := by
  have h1 := nodup_sub h.nd h.sub
  have h2 := endsL_len (n := n) (by omega)
  rw [List.length_append, flat_len] at h1
  omega
theorem tyL {K : PySem.W.Frag} {H : Hp} {a : Addr} {xs : List V} (h : H a = some (.lst xs)) : tyV K "list" (.ref a) H := Or.inl ⟨rfl, _, Or.inl (Or.inl h)⟩
theorem r_pop {l : Addr} {xs : List V} {i : Int} {y : V} {H : Hp} {Q : VK} (hl : H l = some (.lst xs)) (h0 : 0 ≤ i) (h1 : i < xs.length) (h2 : i < 2 ^ 63) (hy : xs[i.toNat]? = some y) (h : Q y (upd H l (.lst (xs.eraseIdx i.toNat)))) : rPopAt (.ref l) [.int i] H Q :=
  ⟨l, xs, i, i.toNat, y, rfl, rfl, hl, by omega, h2, seqIx h0 h1, hy, h⟩
theorem r_app {l : Addr} {xs : List V} {y : V} {H : Hp} {Q : VK} (hl : H l = some (.lst xs)) (hz : xs.length < sizeLine) (h : Q .non (upd H l (.lst (xs ++ [y])))) : rAppend (.ref l) [y] H Q := ⟨l, xs, y, rfl, rfl, hl, hz, h⟩
end Vf

namespace Vf
open PySem PySem.Spec PyProof.Rows L2

/-! ### data of small texts -/
structure Sm (N k : Nat) (d : PyData) : Prop where
  sh : d.showable = true
  nd : d.hasDict = false
  dp : d.depth ≤ k
  ln : d.shown.length ≤ N
  lay : d.canLay0 = true
theorem Sm.mono {N k N' k' : Nat} {d : PyData} (h : Sm N k d) (h1 : N ≤ N') (h2 : k ≤ k') : Sm N' k' d := ⟨h.sh, h.nd, Nat.le_trans h.dp h2, Nat.le_trans h.ln h1, h.lay⟩
theorem Sm.shaped {N k : Nat} {d : PyData} (h : Sm N k d) (hk : k ≤ 64) : SeqAt.shaped d = true := by
  unfold SeqAt.shaped
  rw [h.lay, Bool.true_and]
  exact decide_eq_true (Nat.le_trans h.dp hk)
theorem sm_all {N k : Nat} : ∀ {ds : List PyData}, (∀ d ∈ ds, Sm N k d) → PyData.showableAll ds = true ∧ PyData.hasDictAll ds = false ∧ PyData.depthAll ds ≤ k ∧ ((PyData.shownAll ds).map (·.length)).sum ≤ N * ds.length ∧ PyData.canLayAll0 ds = true
  | [], _ => ⟨by simp only [PyData.showableAll], by simp only [PyData.hasDictAll], by simp only [PyData.depthAll]; omega, by simp only [PyData.shownAll]; simp, by simp only [PyData.canLayAll0]⟩
  | d :: ds, h => by
    have h1 := h d List.mem_cons_self
    obtain ⟨a1, a2, a3, a4, a5⟩ := sm_all (ds := ds) fun x hx => h x (List.mem_cons_of_mem _ hx)
    refine ⟨by simp only [PyData.showableAll, h1.sh, a1, Bool.and_self], by simp only [PyData.hasDictAll, h1.nd, a2, Bool.or_self], ?_, ?_, by simp only [PyData.canLayAll0, h1.lay, a5, Bool.and_self]⟩
    · simp only [PyData.depthAll]
      have := h1.dp
      omega
    · simp only [PyData.shownAll, List.map_cons, List.sum_cons, List.length_cons]
      have := h1.ln
      rw [Nat.mul_succ]
      omega
theorem Sm.lst {N k : Nat} {ds : List PyData} (h : ∀ d ∈ ds, Sm N k d) : Sm ((N + 2) * ds.length + 3) (k + 1) (.list ds) := by
  obtain ⟨a1, a2, a3, a4, a5⟩ := sm_all h
  refine ⟨by simp only [PyData.showable, a1], by simp only [PyData.hasDict, a2], by simp only [PyData.depth]; omega, ?_, by simp only [PyData.canLay0, a5]⟩
  simp only [PyData.shown]
  have := listText_len_le (PyData.shownAll ds)
  rw [PyData.shownAll_length] at this
  have e : (N + 2) * ds.length = N * ds.length + 2 * ds.length := by rw [Nat.add_mul]
  omega
theorem Sm.tup {N k : Nat} {ds : List PyData} (h : ∀ d ∈ ds, Sm N k d) : Sm ((N + 2) * ds.length + 3) (k + 1) (.tuple ds) := by
  obtain ⟨a1, a2, a3, a4, a5⟩ := sm_all h
  refine ⟨by simp only [PyData.showable, a1], by simp only [PyData.hasDict, a2], by simp only [PyData.depth]; omega, ?_, by simp only [PyData.canLay0, a5]⟩
  simp only [PyData.shown]
  have := tupleText_len_le (PyData.shownAll ds)
  rw [PyData.shownAll_length] at this
  have e : (N + 2) * ds.length = N * ds.length + 2 * ds.length := by rw [Nat.add_mul]
  omega
theorem Sm.int {i : Int} (h : i.natAbs < 10 ^ 12) : Sm 13 1 (.int i) := by
  refine ⟨?_, by simp only [PyData.hasDict], by simp only [PyData.depth]; omega, PyData.shown_int_le h, by simp only [PyData.canLay0]⟩
  simp only [PyData.showable]
  exact decide_eq_true (log2_small (Nat.lt_of_lt_of_le (Nat.lt_trans h (show 10 ^ 12 < 2 ^ 64 by decide)) (Nat.pow_le_pow_right (by decide) (by decide))))
theorem Sm.non : Sm 13 1 .none := by
  refine ⟨by simp only [PyData.showable], by simp only [PyData.hasDict], by simp only [PyData.depth]; omega, ?_, by simp only [PyData.canLay0]⟩
  rw [PyData.shown_none]
  decide
theorem Sm.rep {K : PySem.W.Frag} {N k : Nat} {d : PyData} {a : Addr} {H : Hp} {Q : VK} (s : Sm N k d) (hN : N ≤ 100000) (hk : k ≤ 60) (hd : Dp K H (.ref a) d) (q : Q (.str d.shown) H) :
    rRepr K [.ref a] H Q :=
  ⟨a, d, rfl, hd, s.sh, s.nd, Nat.le_trans s.dp hk, szl (Nat.le_trans s.ln hN), q⟩

/-! ### values that bear data -/
mutual
theorem dp_mono {K : PySem.W.Frag} {H H' : Hp} (s : Same H H') : ∀ {d : PyData} {v : V}, Dp K H v d → Dp K H' v d
  | .none, _, h => by cases h; exact .non
  | .bool _, _, h => by cases h; exact .bl _
  | .int _, _, h => by cases h; exact .int _
  | .str _, _, h => by cases h; exact .str _
  | .list _, _, h => by
    cases h with
    | lst a b => exact .lst (s.seq a) (dpa_mono s b)
  | .tuple _, _, h => by
    cases h with
    | tup a b =>
      refine .tup ?_ (dpa_mono s b)
      rcases a with (a | ⟨o, a⟩) | a
      · exact .inl (.inl (s _ _ a))
      · exact .inl (.inr ⟨o, s _ _ a⟩)
      · exact .inr a
  | .dict _, _, h => by cases h
theorem dpa_mono {K : PySem.W.Frag} {H H' : Hp} (s : Same H H') : ∀ {ds : List PyData} {vs : List V}, DpAll K H vs ds → DpAll K H' vs ds
  | [], _, h => by cases h; exact .nil
  | _ :: _, _, h => by
    cases h with
    | cons a b => exact .cons (dp_mono s a) (dpa_mono s b)
end
theorem dpa_of {K : PySem.W.Frag} {H : Hp} : ∀ {vs : List V} {ds : List PyData}, Paired (Dp K H) vs ds → DpAll K H vs ds
  | _, _, .nil => .nil
  | _, _, .cons a b => .cons a (dpa_of b)
theorem dpa_ints {K : PySem.W.Frag} {H : Hp} : ∀ ns : List Int, DpAll K H (ns.map V.int) (ns.map PyData.int)
  | [] => .nil
  | n :: ns => .cons (.int n) (dpa_ints ns)
def dP (p : Int × Int) : PyData := .tuple [.int p.1, .int p.2]
def dL (L : List (Int × Int)) : PyData := .list (L.map dP)
def dI (ns : List Int) : PyData := .list (ns.map .int)
theorem dpa_prs {K : PySem.W.Frag} {H : Hp} : ∀ {xs : List V} {L : List (Int × Int)}, Prs H xs L → DpAll K H xs (L.map dP)
  | _, _, .nil => .nil
  | _, _, .cons ⟨t, e, h⟩ r => .cons (e ▸ .tup (sqt h) (.cons (.int _) (.cons (.int _) .nil))) (dpa_prs r)
theorem dp_lay {K : PySem.W.Frag} {H : Hp} {a : Addr} {xs : List V} {L : List (Int × Int)} (h : SqL K H a xs) (p : Prs H xs L) : Dp K H (.ref a) (dL L) := .lst h (dpa_prs p)
theorem dp_ints {K : PySem.W.Frag} {H : Hp} {a : Addr} {ns : List Int} (h : SqL K H a (ns.map V.int)) : Dp K H (.ref a) (dI ns) := .lst h (dpa_ints ns)
theorem sm_ints {ns : List Int} {N : Nat} (h : ∀ i ∈ ns, i.natAbs < 10 ^ 12) (hl : ns.length ≤ N) : Sm (15 * N + 3) 2 (dI ns) := by
  refine (Sm.lst (N := 13) (k := 1) (ds := ns.map .int) fun d hd => ?_).mono (by rw [List.length_map]; omega) (by omega)
  obtain ⟨i, hi, rfl⟩ := List.mem_map.mp hd
  exact Sm.int (h i hi)
theorem sm_lay {L : List (Int × Int)} {N : Nat} (h : ∀ p ∈ L, p.1.natAbs < 10 ^ 12 ∧ p.2.natAbs < 10 ^ 12) (hl : L.length ≤ N) : Sm (35 * N + 3) 3 (dL L) := by
  refine (Sm.lst (N := 33) (k := 2) (ds := L.map dP) fun d hd => ?_).mono (by rw [List.length_map]; omega) (by omega)
  obtain ⟨p, hp, rfl⟩ := List.mem_map.mp hd
  refine (Sm.tup (N := 13) (k := 1) (ds := [.int p.1, .int p.2]) fun d hd => ?_).mono (by show (13 + 2) * 2 + 3 ≤ 33; omega) (by omega)
  rcases List.mem_cons.mp hd with rfl | hd
  · exact Sm.int (h p hp).1
  · rw [List.mem_singleton.mp hd]; exact Sm.int (h p hp).2
theorem Lay.small {n : Int} {L : List (Int × Int)} (h : Lay n L) : Sm 2103 3 (dL L) := (sm_lay (N := 60) (fun p hp => by have := h.cp p hp; have := h.n60; omega) h.len).mono (by omega) (by omega)
/-- equal data are told equal, and not unequal -/
theorem r_eqD {K : PySem.W.Frag} {x y : V} {H : Hp} {Q : VK} {N k : Nat} {d : PyData} (hx : Dp K H x d) (hy : Dp K H y d) (s : Sm N k d) (hk : k ≤ 64) (q : Q (.bl true) H) : rEqD K x y H Q := ⟨d, d, hx, hy, s.shaped hk, s.shaped hk, by rw [SeqAt.eqv_refl d s.lay]; exact q⟩
theorem r_neD {K : PySem.W.Frag} {x y : V} {H : Hp} {Q : VK} {N k : Nat} {d : PyData} (hx : Dp K H x d) (hy : Dp K H y d) (s : Sm N k d) (hk : k ≤ 64) (q : Q (.bl false) H) : rNeD K x y H Q := ⟨d, d, hx, hy, s.shaped hk, s.shaped hk, by rw [SeqAt.eqv_refl d s.lay]; exact q⟩
end Vf
namespace Vf
open PySem PySem.Spec PyProof.Rows L2
theorem lay_ints (ns : List Int) : (dI ns).canLay0 = true ∧ SeqAt.shaped (dI ns) = true := by
  have h : ∀ ns : List Int, PyData.canLayAll0 (ns.map .int) = true ∧ PyData.depthAll (ns.map .int) = 0 := fun ns => by
    induction ns with
    | nil => exact ⟨by simp only [List.map_nil, PyData.canLayAll0], by simp only [List.map_nil, PyData.depthAll]⟩
    | cons n ns ih => exact ⟨by simp only [List.map_cons, PyData.canLayAll0, PyData.canLay0, ih.1, Bool.and_self], by simp only [List.map_cons, PyData.depthAll, PyData.depth, ih.2]; rfl⟩
  have h1 : (dI ns).canLay0 = true := by simp only [dI, PyData.canLay0, (h ns).1]
  refine ⟨h1, ?_⟩
  unfold SeqAt.shaped
  rw [h1, Bool.true_and]
  exact decide_eq_true (by simp only [dI, PyData.depth, (h ns).2]; omega)
theorem r_eqI1 {K : PySem.W.Frag} {x y : V} {H : Hp} {Q : VK} {ns : List Int} (hx : Dp K H x (dI ns)) (hy : Dp K H y (dI ns)) (q : Q (.bl true) H) : rEqD K x y H Q :=
  ⟨_, _, hx, hy, (lay_ints ns).2, (lay_ints ns).2, by rw [SeqAt.eqv_refl _ (lay_ints ns).1]; exact q⟩
theorem r_neI1 {K : PySem.W.Frag} {x y : V} {H : Hp} {Q : VK} {ns : List Int} (hx : Dp K H x (dI ns)) (hy : Dp K H y (dI ns)) (q : Q (.bl false) H) : rNeD K x y H Q :=
  ⟨_, _, hx, hy, (lay_ints ns).2, (lay_ints ns).2, by rw [SeqAt.eqv_refl _ (lay_ints ns).1]; exact q⟩
/-- None or an int -/
def vO (o : Option Int) : V := (o.map V.int).getD .non
def dO (o : Option Int) : PyData := (o.map PyData.int).getD .none
theorem dp_opt {K : PySem.W.Frag} {H : Hp} (o : Option Int) : Dp K H (vO o) (dO o) := by
  cases o with
  | none => exact .non
  | some i => exact .int i
theorem dpa_opts {K : PySem.W.Frag} {H : Hp} : ∀ os : List (Option Int), DpAll K H (os.map vO) (os.map dO)
  | [] => .nil
  | o :: os => .cons (dp_opt o) (dpa_opts os)
theorem sm_opts {os : List (Option Int)} {N : Nat} (h : ∀ i, some i ∈ os → i.natAbs < 10 ^ 12) (hl : os.length ≤ N) : Sm (15 * N + 3) 2 (.list (os.map dO)) := by
  refine (Sm.lst (N := 13) (k := 1) (ds := os.map dO) fun d hd => ?_).mono (by rw [List.length_map]; omega) (by omega)
  obtain ⟨o, ho, rfl⟩ := List.mem_map.mp hd
  cases o with
  | none => exact Sm.non
  | some i => exact Sm.int (h i ho)
theorem par_mem {n : Int} {L : List (Int × Int)} (hL : Lay n L) {e i : Int} (h : parI L e = some i) : -n ≤ i ∧ i ≤ n ∧ i ≠ 0 := by
  unfold parI at h
  obtain ⟨q, hq, rfl⟩ := Option.map_eq_some_iff.mp h
  have hm := List.mem_of_find?_eq_some hq
  unfold tabI at hm
  obtain ⟨p, hp, hm⟩ := List.mem_flatMap.mp hm
  have := hL.cp p hp
  simp only [List.mem_cons, List.not_mem_nil, or_false] at hm
  rcases hm with rfl | rfl
  · exact ⟨by show -n ≤ p.2; omega, this.2.2.1, this.2.2.2.2⟩
  · exact ⟨this.1, by show p.1 ≤ n; omega, this.2.2.2.1⟩
theorem r_clear {l : Addr} {xs : List V} {H : Hp} {Q : VK} (hl : H l = some (.lst xs)) (h : Q .non (upd H l (.lst []))) : rClear (.ref l) [] H Q := ⟨l, xs, rfl, rfl, hl, h⟩
theorem log_small {i : Int} (h : i.natAbs < 2 ^ 1000) : i.natAbs.log2 < 1920 := log2_small (Nat.lt_of_lt_of_le h (Nat.pow_le_pow_right (by decide) (by decide)))
end Vf

namespace K02
open PySem PySem.Spec PyProof.Rows L2 Vf
def topS (i : Nat) : Stmt := PySem.Challenge.pw_crosshitch_k02_ends_and_partners.main.body.getD i (.Pass ⟨0, 0, 0, 0⟩)
abbrev s_is_integer : Stmt := topS 7
abbrev N_is_integer : List Str := ["value"]
theorem sc_is_integer : FnScope ["value"] ["value"] (defScope s_is_integer) := ⟨rfl, rfl, rfl, by decide +kernel, rfl, by decide +kernel, by decide +kernel⟩
abbrev s_is_end : Stmt := topS 8
abbrev N_is_end : List Str := ["pieces", "value"]
theorem sc_is_end : FnScope ["pieces", "value"] ["pieces", "value"] (defScope s_is_end) := ⟨rfl, rfl, rfl, by decide +kernel, rfl, by decide +kernel, by decide +kernel⟩
abbrev s_is_coupling : Stmt := topS 9
abbrev N_is_coupling : List Str := ["pieces", "value", "low", "high"]
theorem sc_is_coupling : FnScope ["pieces", "value", "low", "high"] ["pieces", "value"] (defScope s_is_coupling) := ⟨rfl, rfl, rfl, by decide +kernel, rfl, by decide +kernel, by decide +kernel⟩
abbrev s_all_ends : Stmt := topS 10
abbrev N_all_ends : List Str := ["pieces", "end"]
theorem sc_all_ends : FnScope ["pieces", "end"] ["pieces"] (defScope s_all_ends) := ⟨rfl, rfl, rfl, by decide +kernel, rfl, by decide +kernel, by decide +kernel⟩
abbrev s_partner_table : Stmt := topS 11
abbrev N_partner_table : List Str := ["layout", "partners", "low", "high"]
theorem sc_partner_table : FnScope ["layout", "partners", "low", "high"] ["layout"] (defScope s_partner_table) := ⟨rfl, rfl, rfl, by decide +kernel, rfl, by decide +kernel, by decide +kernel⟩
abbrev s_first_wrong_coupling : Stmt := topS 12
abbrev N_first_wrong_coupling : List Str := ["pieces", "items", "taken", "index", "item", "low", "high"]
theorem sc_first_wrong_coupling : FnScope ["pieces", "items", "taken", "index", "item", "low", "high"] ["pieces", "items"] (defScope s_first_wrong_coupling) := ⟨rfl, rfl, rfl, by decide +kernel, rfl, by decide +kernel, by decide +kernel⟩
abbrev s_check_pieces : Stmt := topS 13
abbrev N_check_pieces : List Str := ["pieces"]
theorem sc_check_pieces : FnScope ["pieces"] ["pieces"] (defScope s_check_pieces) := ⟨rfl, rfl, rfl, by decide +kernel, rfl, by decide +kernel, by decide +kernel⟩
abbrev s_check_layout : Stmt := topS 14
abbrev N_check_layout : List Str := ["pieces", "layout", "index"]
theorem sc_check_layout : FnScope ["pieces", "layout", "index"] ["pieces", "layout"] (defScope s_check_layout) := ⟨rfl, rfl, rfl, by decide +kernel, rfl, by decide +kernel, by decide +kernel⟩
abbrev s_check_end : Stmt := topS 15
abbrev N_check_end : List Str := ["pieces", "end"]
theorem sc_check_end : FnScope ["pieces", "end"] ["pieces", "end"] (defScope s_check_end) := ⟨rfl, rfl, rfl, by decide +kernel, rfl, by decide +kernel, by decide +kernel⟩
abbrev s_count_layouts : Stmt := topS 17
abbrev N_count_layouts : List Str := ["pieces", "fewer", "count", "ahead"]
theorem sc_count_layouts : FnScope ["pieces", "fewer", "count", "ahead"] ["pieces"] (defScope s_count_layouts) := ⟨rfl, rfl, rfl, by decide +kernel, rfl, by decide +kernel, by decide +kernel⟩
abbrev s_open_ends : Stmt := topS 18
abbrev N_open_ends : List Str := ["pieces", "layout", "partners", "end"]
theorem sc_open_ends : FnScope ["pieces", "layout", "partners", "end"] ["pieces", "layout"] (defScope s_open_ends) := ⟨rfl, rfl, rfl, by decide +kernel, rfl, by decide +kernel, by decide +kernel⟩
abbrev s_partner_of : Stmt := topS 19
abbrev N_partner_of : List Str := ["pieces", "layout", "end"]
theorem sc_partner_of : FnScope ["pieces", "layout", "end"] ["pieces", "layout", "end"] (defScope s_partner_of) := ⟨rfl, rfl, rfl, by decide +kernel, rfl, by decide +kernel, by decide +kernel⟩
abbrev s_partners_of : Stmt := topS 20
abbrev N_partners_of : List Str := ["pieces", "layout", "partners", "end"]
theorem sc_partners_of : FnScope ["pieces", "layout", "partners", "end"] ["pieces", "layout"] (defScope s_partners_of) := ⟨rfl, rfl, rfl, by decide +kernel, rfl, by decide +kernel, by decide +kernel⟩
abbrev s__law_tap : Stmt := topS 22
abbrev N__law_tap : List Str := ["cell", "turn", "whole"]
theorem sc__law_tap : FnScope ["cell", "turn", "whole"] ["cell", "turn"] (defScope s__law_tap) := ⟨rfl, rfl, rfl, by decide +kernel, rfl, by decide +kernel, by decide +kernel⟩
abbrev s__law_draw : Stmt := topS 23
abbrev N__law_draw : List Str := ["tap", "bound", "found"]
theorem sc__law_draw : FnScope ["tap", "bound", "found"] ["tap", "bound"] (defScope s__law_draw) := ⟨rfl, rfl, rfl, by decide +kernel, rfl, by decide +kernel, by decide +kernel⟩
abbrev s__law_cells : Stmt := topS 24
abbrev N__law_cells : List Str := ["script", "many"]
theorem sc__law_cells : FnScope ["script", "many"] ["script", "many"] (defScope s__law_cells) := ⟨rfl, rfl, rfl, by decide +kernel, rfl, by decide +kernel, by decide +kernel⟩
abbrev s__law_ends : Stmt := topS 25
abbrev N__law_ends : List Str := ["pieces", "end"]
theorem sc__law_ends : FnScope ["pieces", "end"] ["pieces"] (defScope s__law_ends) := ⟨rfl, rfl, rfl, by decide +kernel, rfl, by decide +kernel, by decide +kernel⟩
abbrev s__law_pair : Stmt := topS 26
abbrev N__law_pair : List Str := ["one", "other"]
theorem sc__law_pair : FnScope ["one", "other"] ["one", "other"] (defScope s__law_pair) := ⟨rfl, rfl, rfl, by decide +kernel, rfl, by decide +kernel, by decide +kernel⟩
abbrev s__law_partners : Stmt := topS 27
abbrev N__law_partners : List Str := ["layout", "found", "one", "other"]
theorem sc__law_partners : FnScope ["layout", "found", "one", "other"] ["layout"] (defScope s__law_partners) := ⟨rfl, rfl, rfl, by decide +kernel, rfl, by decide +kernel, by decide +kernel⟩
abbrev s__law_layout : Stmt := topS 28
abbrev N__law_layout : List Str := ["tap", "pieces", "left", "found", "part", "one", "other"]
theorem sc__law_layout : FnScope ["tap", "pieces", "left", "found", "part", "one", "other"] ["tap", "pieces"] (defScope s__law_layout) := ⟨rfl, rfl, rfl, by decide +kernel, rfl, by decide +kernel, by decide +kernel⟩
abbrev s__law_many : Stmt := topS 29
abbrev N__law_many : List Str := ["pieces", "total", "ways", "couplings", "left"]
theorem sc__law_many : FnScope ["pieces", "total", "ways", "couplings", "left"] ["pieces"] (defScope s__law_many) := ⟨rfl, rfl, rfl, by decide +kernel, rfl, by decide +kernel, by decide +kernel⟩
abbrev s__law_right : Stmt := topS 30
abbrev N__law_right : List Str := ["tap", "pieces", "layout", "given", "known", "ends", "due", "turn", "told", "end"]
theorem sc__law_right : FnScope ["tap", "pieces", "layout", "given", "known", "ends", "due", "turn", "told", "end"] ["tap"] (defScope s__law_right) := ⟨rfl, rfl, rfl, by decide +kernel, rfl, by decide +kernel, by decide +kernel⟩
abbrev s_law : Stmt := topS 31
abbrev N_law : List Str := ["script", "cells", "k"]
theorem sc_law : FnScope ["script", "cells", "k"] ["script"] (defScope s_law) := ⟨rfl, rfl, rfl, by decide +kernel, rfl, by decide +kernel, by decide +kernel⟩
def cntF (p : Int × Int) (k : Int) : Int × Int := (p.2, p.2 + k * p.1)
def cntL (n : Int) : Int := ((rng 1 (2 * n - 1).toNat).foldl cntF (1, 1)).2
def opensL (n : Int) (L : List (Int × Int)) : List Int := (endsL n).filter fun e => !(parI L e).isSome
def manyF (n : Int) (p : Int × Int) (c : Int) : Int × Int := (p.1 + p.2, ((p.2 * (2 * n - 2 * c) * (2 * n - 2 * c - 1)).fdiv 2).fdiv (c + 1))
def manyL (n : Int) : Int := ((rng 0 (n + 1).toNat).foldl (manyF n) (0, 1)).1
theorem cnt_many : ∀ k : Nat, k < 61 → 1 ≤ k → cntL k = manyL k ∧ (cntL k).natAbs < 2 ^ 1000 := by decide +kernel
theorem cnt_eq {n : Int} (h1 : 1 ≤ n) (h2 : n ≤ 60) : cntL n = manyL n ∧ (cntL n).natAbs < 2 ^ 1000 := by
  have := cnt_many n.toNat (by omega) (by omega)
  rw [show ((n.toNat : Nat) : Int) = n by omega] at this
  exact this
def partsL (n : Int) (L : List (Int × Int)) : List Int := (endsL n).map fun e => (parI L e).getD 0
def sp_is_integer (K : PySem.W.Frag) : Sp := fun vs H Q _ => ∃ i : Int, vs = [.int i] ∧ Q (.bl true) H
def sp_is_end (K : PySem.W.Frag) : Sp := fun vs H Q _ => ∃ n i : Int, vs = [.int n, .int i] ∧ i ≠ 0 ∧ -n ≤ i ∧ i ≤ n ∧ Q (.bl true) H
def sp_is_coupling (K : PySem.W.Frag) : Sp := fun vs H Q _ => ∃ (n : Int) (t : Addr) (a b : Int), vs = [.int n, .ref t] ∧ H t = some (.tup [.int a, .int b]) ∧ a ≠ 0 ∧ b ≠ 0 ∧ -n ≤ a ∧ a < b ∧ b ≤ n ∧ Q (.bl true) H
def sp_all_ends (K : PySem.W.Frag) : Sp := fun vs H Q _ => ∃ n : Int, vs = [.int n] ∧ 1 ≤ n ∧ n ≤ 60 ∧ NewO H (.lst ((endsL n).map V.int)) Q
def sp_partner_table (K : PySem.W.Frag) : Sp := fun vs H Q _ => ∃ (a : Addr) (xs : List V) (L : List (Int × Int)) (n : Int), vs = [.ref a] ∧ SqL K H a xs ∧ Prs H xs L ∧ Lay n L ∧ NewO H (.dK (tab L)) Q
def sp_first_wrong_coupling (K : PySem.W.Frag) : Sp := fun vs H Q _ => ∃ (n : Int) (a : Addr) (xs : List V) (L : List (Int × Int)), vs = [.int n, .ref a] ∧ SqL K H a xs ∧ Prs H xs L ∧ Lay n L ∧ ∀ H', Same H H' → Q .non H'
def sp_check_pieces (K : PySem.W.Frag) : Sp := fun vs H Q _ => ∃ n : Int, vs = [.int n] ∧ 1 ≤ n ∧ n ≤ 60 ∧ Q .non H
def sp_check_layout (K : PySem.W.Frag) : Sp := fun vs H Q _ => ∃ (n : Int) (a : Addr) (xs : List V) (L : List (Int × Int)), vs = [.int n, .ref a] ∧ H a = some (.lst xs) ∧ Prs H xs L ∧ Lay n L ∧ ∀ H', Same H H' → Q .non H'
def sp_check_end (K : PySem.W.Frag) : Sp := fun vs H Q _ => ∃ n i : Int, vs = [.int n, .int i] ∧ i ≠ 0 ∧ -n ≤ i ∧ i ≤ n ∧ Q .non H
def sp_count_layouts (K : PySem.W.Frag) : Sp := fun vs H Q _ => ∃ n : Int, vs = [.int n] ∧ 1 ≤ n ∧ n ≤ 60 ∧ ∀ H', Same H H' → Q (.int (cntL n)) H'
def sp_open_ends (K : PySem.W.Frag) : Sp := fun vs H Q _ => ∃ (n : Int) (a : Addr) (xs : List V) (L : List (Int × Int)), vs = [.int n, .ref a] ∧ H a = some (.lst xs) ∧ Prs H xs L ∧ Lay n L ∧ NewO H (.lst ((opensL n L).map V.int)) Q
def sp_partner_of (K : PySem.W.Frag) : Sp := fun vs H Q _ => ∃ (n : Int) (a : Addr) (e : Int) (xs : List V) (L : List (Int × Int)), vs = [.int n, .ref a, .int e] ∧ H a = some (.lst xs) ∧ Prs H xs L ∧ Lay n L ∧ e ∈ endsL n ∧ ∀ H', Same H H' → Q (((parI L e).map V.int).getD .non) H'
def sp_partners_of (K : PySem.W.Frag) : Sp := fun vs H Q _ => ∃ (n : Int) (a : Addr) (xs : List V) (L : List (Int × Int)), vs = [.int n, .ref a] ∧ H a = some (.lst xs) ∧ Prs H xs L ∧ Lay n L ∧ NewO H (.lst ((partsL n L).map V.int)) Q
def sp__law_tap (K : PySem.W.Frag) : Sp := fun vs H Q _ => ∃ c k : Int, vs = [.int c, .int k] ∧ 0 ≤ k ∧ k ≤ 100 ∧ ∀ p H', Same H H' → H p = none → Tap H' p → Q (.ref p) H'
def sp__law_draw (K : PySem.W.Frag) : Sp := fun vs H Q _ => ∃ (t : Addr) (n : Int), vs = [.ref t, .int n] ∧ Tap H t ∧ 0 < n ∧ n < 1000000 ∧ ∀ (r : Int) H', 0 ≤ r → r < n → But t H H' → Tap H' t → Q (.int r) H'
def sp__law_cells (K : PySem.W.Frag) : Sp := fun vs H Q _ => ∃ (a : Addr) (ns : List Int) (m : Int), vs = [.ref a, .int m] ∧ SqL K H a (ns.map V.int) ∧ ns.length ≤ 63 ∧ 1 ≤ m ∧ m ≤ 63 ∧ ∀ p H' (cs : List Int), Same H H' → H p = none → H' p = some (.lst (cs.map V.int)) → cs.length ≤ 64 → Q (.ref p) H'
def sp__law_ends (K : PySem.W.Frag) : Sp := fun vs H Q _ => ∃ n : Int, vs = [.int n] ∧ 1 ≤ n ∧ n ≤ 60 ∧ NewO H (.lst ((endsL n).map V.int)) Q
def sp__law_pair (K : PySem.W.Frag) : Sp := fun vs H Q _ => ∃ a b : Int, vs = [.int a, .int b] ∧ NewO H (.tup [.int (min a b), .int (max a b)]) Q
def sp__law_partners (K : PySem.W.Frag) : Sp := fun vs H Q _ => ∃ (a : Addr) (xs : List V) (L : List (Int × Int)) (n : Int), vs = [.ref a] ∧ SqL K H a xs ∧ Prs H xs L ∧ Lay n L ∧ NewO H (.dK (tab L)) Q
def sp__law_layout (K : PySem.W.Frag) : Sp := fun vs H Q _ => ∃ (t : Addr) (n : Int), vs = [.ref t, .int n] ∧ Tap H t ∧ 1 ≤ n ∧ n ≤ 60 ∧ ∀ p H' L xs, Lay n L → SameX t H H' → Tap H' t → H p = none → H' p = some (.lst xs) → Prs H' xs L → Q (.ref p) H'
def sp__law_many (K : PySem.W.Frag) : Sp := fun vs H Q _ => ∃ n : Int, vs = [.int n] ∧ 1 ≤ n ∧ n ≤ 60 ∧ ∀ H', Same H H' → Q (.int (manyL n)) H'
def sp__law_right (K : PySem.W.Frag) : Sp := fun vs H Q _ => ∃ t : Addr, vs = [.ref t] ∧ Tap H t ∧ ∀ H', SameX t H H' → Q (.bl true) H'
def sp_law (K : PySem.W.Frag) : Sp := fun vs H Q _ => ∃ (a : Addr) (ns : List Int), vs = [.ref a] ∧ SqL K H a (ns.map V.int) ∧ ns.length ≤ 63 ∧ ∀ H', Q (.bl true) H'
end K02
local macro_rules | `(tactic| walk_at "side") => `(tactic| first | assumption | decide | omega | exact Or.inl ⟨by decide, by decide⟩ | exact Or.inr ⟨by decide, by decide⟩ | exact Or.inl ⟨by omega, by omega⟩ | exact Or.inr ⟨by omega, by omega⟩ | exact ⟨by decide, by decide, by decide⟩ | exact ⟨by omega, by omega⟩ | (show _ ≠ _; decide) | (show _ ≠ _; omega))
local macro_rules | `(tactic| walk_at "cond") => `(tactic| first | assumption | omega | rfl | (intro h; exact V.noConfusion h))
local macro_rules | `(tactic| walk_at "ev1") => `(tactic| first
  | with_reducible refine Vf.r_seq ?_ | with_reducible refine Vf.r_asg ?_ | with_reducible refine Vf.r_next ?_ | with_reducible refine Vf.r_drop ?_ | with_reducible refine Vf.r_ret ?_ | with_reducible refine Vf.r_retN ?_ | with_reducible refine Vf.r_ifS ?_ | with_reducible refine Vf.r_par ?_ | with_reducible refine Vf.r_dput ?_
  | with_reducible refine Vf.r_gname ?_ | with_reducible refine Vf.r_gnil ?_ | with_reducible refine Vf.r_gcons ?_ | with_reducible refine Vf.r_gsub ?_
  | ((with_reducible refine Vf.r_var ?_); refine ⟨_, rfl, ?_⟩)
  | with_reducible refine Vf.r_c ?_ | with_reducible refine Vf.r_op ?_ | with_reducible refine Vf.r_I0 ?_ | with_reducible refine Vf.r_U ?_ | with_reducible refine Vf.r_un ?_ | with_reducible refine Vf.r_eqI ?_ | with_reducible refine Vf.r_neI ?_ | with_reducible refine Vf.r_eqS ?_ | with_reducible refine Vf.r_neS ?_
  | ((with_reducible refine Vf.r_I ?evc ?_); (case evc => walk_at "side"))
  | with_reducible refine Vf.r_cb ?_ | with_reducible refine Vf.r_cons ?_ | with_reducible refine Vf.r_nil ?_ | with_reducible refine Vf.r_lst ?_ | with_reducible refine Vf.r_tup ?_ | with_reducible refine Vf.r_call ?_
  | with_reducible refine Vf.r_test ?_ | with_reducible refine Vf.r_b ?_ | with_reducible refine Vf.r_and ?_ | with_reducible refine Vf.r_or ?_ | with_reducible refine Vf.r_not ?_ | with_reducible refine Vf.r_andV ?_ | with_reducible refine Vf.r_orV ?_ | with_reducible refine Vf.r_notV ?_ | with_reducible refine Vf.r_if ?_
  | with_reducible refine Vf.r_blV ?_ | with_reducible refine Vf.r_chain ?_ | with_reducible refine Vf.r_sl ?_ | with_reducible refine Vf.r_noPart ?_ | with_reducible refine Vf.r_part ?_ | with_reducible refine Vf.r_bm ?_ | with_reducible refine Vf.r_bm0 ?_
  | with_reducible refine Vf.r_ienum ?_ | with_reducible refine Vf.r_sadd ?_ | with_reducible refine Vf.r_for ?_ | with_reducible refine Vf.r_lc ?_ | with_reducible refine Vf.r_dget ?_ | with_reducible refine Vf.r_din ?_ | with_reducible refine Vf.r_dnotin ?_ | with_reducible refine Vf.r_dget1 ?_ | with_reducible refine Vf.r_dget2 ?_ | with_reducible refine Vf.r_dnew ?_
  | with_reducible refine Vf.r_rng1 ?_ | with_reducible refine Vf.r_rng2 ?_ | with_reducible refine Vf.r_ilist ?_ | with_reducible refine Vf.r_yes ?_
  | ((with_reducible refine' Vf.r_ixL ?evs ?eva ?_); (case evs => first | assumption | exact Vf.sql (by assumption)); (case eva => rfl))
  | ((with_reducible refine' Vf.r_gtup ?evs ?eva ?_); (case evs => first | assumption | exact Vf.sqt (by assumption)); (case eva => rfl))
  | refine ⟨_, _, rfl, .inl (Vf.sql (by assumption)), ?_⟩ | refine ⟨_, _, rfl, .inl (by assumption), ?_⟩ | refine ⟨_, _, rfl, .inr (Vf.sqt (by assumption)), ?_⟩
  | ((with_reducible refine' Vf.r_ixT ?evs ?eva ?_); (case evs => first | assumption | exact Vf.sqt (by assumption)); (case eva => rfl))
  | ((with_reducible refine' Vf.r_setL ?evs ?eva ?_); (case evs => assumption); (case eva => rfl))
  | with_reducible refine Vf.ifNT ?_ | with_reducible refine Vf.ifNF ?_ | ((with_reducible refine' Vf.r_sin ?evs ?_); (case evs => assumption)) | with_reducible refine L2.iteT ?_ | with_reducible refine L2.iteF ?_ | (with_reducible refine Vf.ifD (by walk_at "cond") ?_) | (with_reducible refine Vf.ifDn (by walk_at "cond") ?_) | (with_reducible refine Vf.ifN (by walk_at "cond") ?_) | (with_reducible refine Vf.ifNn (by walk_at "cond") ?_)
  | with_reducible dsimp only
  | refine Or.inl ⟨_, rfl, ?_⟩ | refine Or.inr ⟨_, rfl, ?_⟩ | refine ⟨_, _, rfl, ?_⟩ | refine ⟨_, rfl, ?_⟩ | refine ⟨rfl, ?_⟩)
local macro_rules | `(tactic| walk_at "ev") => `(tactic| repeat (walk_at "ev1"))

namespace K02
open PySem PySem.Spec PyProof.Rows L2 Vf
section
variable {P : Program} {w : World} {K : PySem.W.Frag} {mg : Str → Option Value} {base : Heap}
theorem ok_is_integer {f : Addr} {fd : FuncData} (F : Fun K "is_integer" "is_integer" s_is_integer f fd) (m_isinstance : mg "isinstance" = none) (m_int : mg "int" = none) (m_bool : mg "bool" = none) : FnOk P w K mg base CX0 1 f fd ["value"] (sp_is_integer K) := by
  refine F.ok sc_is_integer (fun vs H Q E h => ?_) (fun cdv A outer s H vs Q E hr h => ?_)
  · obtain ⟨_, rfl, _⟩ := h
    rfl
  · have hu := hu_of hr
    obtain ⟨i, rfl, q⟩ := h
    refine ⟨_, (pss_one (ps_ret (pe_and (pe_callB (isiK (K := K)) (by rfl) m_isinstance (by decide +kernel) (pa_cons (pv 0) (pa_cons (pe_bltn (v := .ty "int") (by rfl) m_int (by decide +kernel) rfl) pa_nil))) (pe_one (pe_not (pe_callB (isiK (K := K)) (by rfl) m_isinstance (by decide +kernel) (pa_cons (pv 0) (pa_cons (pe_bltn (v := .ty "bool") (by rfl) m_bool (by decide +kernel) rfl) pa_nil)))))))), ?_⟩
    walk_at "ev"
    refine ⟨_, _, _, _, true, rfl, .ty "int", .base (.int i), kit_ty (by decide +kernel), ?_⟩
    walk_at "ev"
    refine ⟨_, _, _, _, false, rfl, .ty "bool", .base (.int i), kit_ty (by decide +kernel), ?_⟩
    walk_at "ev"
    exact q
end
end K02
namespace K02
open PySem PySem.Spec PyProof.Rows L2 Vf
section
variable {P : Program} {w : World} {K : PySem.W.Frag} {mg : Str → Option Value} {base : Heap}
theorem ok_is_end {f : Addr} {fd : FuncData} (F : Fun K "is_end" "is_end" s_is_end f fd) (D_is_integer : Def P w K mg base 1 "is_integer" ["value"] (sp_is_integer K)) : FnOk P w K mg base CX0 2 f fd ["pieces", "value"] (sp_is_end K) := by
  refine F.ok sc_is_end (fun vs H Q E h => ?_) (fun cdv A outer s H vs Q E hr h => ?_)
  · obtain ⟨_, _, rfl, _⟩ := h
    rfl
  · have hu := hu_of hr
    obtain ⟨n, i, rfl, i0, i1, i2, q⟩ := h
    refine ⟨_, (pss_one (ps_ret (pe_and (pe_def D_is_integer (hr.mono (by decide)) (pa_cons (pv 1) pa_nil)) (pe_and (pe_cmpR op_ne (pv 1) pe_int (nomark _)) (pe_one (pe_chain op_le op_le (pe_un un_neg (pv 0)) (pv 1) (pv 0))))))), ?_⟩
    walk_at "ev"
    rw [decide_eq_true i2]
    exact q
end
end K02
namespace K02
open PySem PySem.Spec PyProof.Rows L2 Vf
section
variable {P : Program} {w : World} {K : PySem.W.Frag} {mg : Str → Option Value} {base : Heap}
theorem ok_is_coupling {f : Addr} {fd : FuncData} (F : Fun K "is_coupling" "is_coupling" s_is_coupling f fd) (D_is_end : Def P w K mg base 2 "is_end" ["pieces", "value"] (sp_is_end K)) (m_tuple : mg "tuple" = none) (m_type : mg "type" = none) (m_len : mg "len" = none) : FnOk P w K mg base CX0 3 f fd ["pieces", "value"] (sp_is_coupling K) := by
  refine F.ok sc_is_coupling (fun vs H Q E h => ?_) (fun cdv A outer s H vs Q E hr h => ?_)
  · obtain ⟨_, _, _, _, rfl, _⟩ := h
    rfl
  · have hu := hu_of hr
    obtain ⟨n, t, a, b, rfl, ht, a0, b0, h1, h2, h3, q⟩ := h
    refine ⟨_, (pss_cons (ps_if (PW.pt (pw_or (pt_cmpR op_neTy (pe_typeOf rfl m_type (pv 1)) (pe_bltn (v := .ty "tuple") (by rfl) m_tuple (by decide +kernel) rfl) (nomark _)) (pw_or1 (pt_cmpR op_ne (pe_callB (lenK (K := K)) (by rfl) m_len (by decide +kernel) (pa_cons (pv 1) pa_nil)) pe_int (nomark _))))) (pss_one (ps_ret pe_bl)) pss_nil)
        (pss_cons (ps_asg (pv 1) (pg_tup rfl (pgs_cons (pg_name (i := 2) sc_is_coupling.nd rfl (Or.inl rfl)) (pgs_cons (pg_name (i := 3) sc_is_coupling.nd rfl (Or.inl rfl)) pgs_nil))))
        (pss_one (ps_ret (pe_and (pe_def D_is_end (hr.mono (by decide)) (pa_cons (pv 0) (pa_cons (pv 2) pa_nil))) (pe_and (pe_def D_is_end (hr.mono (by decide)) (pa_cons (pv 0) (pa_cons (pv 3) pa_nil))) (pe_one (pe_cmpR op_lt (pv 2) (pv 3) (nomark _))))))))), ?_⟩
    walk_at "ev"
    refine ⟨"tuple", by unfold zTyV; simp only [ht], ?_⟩
    walk_at "ev"
    refine ⟨_, _, rfl, rfl, .tup, .tup, ?_⟩
    walk_at "ev"
    refine ⟨a0, h1, by omega, ?_⟩
    walk_at "ev"
    refine ⟨b0, by omega, h3, ?_⟩
    walk_at "ev"
    rw [decide_eq_true h2]
    exact q
end
end K02
namespace K02
open PySem PySem.Spec PyProof.Rows L2 Vf
section
variable {P : Program} {w : World} {K : PySem.W.Frag} {mg : Str → Option Value} {base : Heap}
theorem ok_all_ends {f : Addr} {fd : FuncData} (F : Fun K "all_ends" "all_ends" s_all_ends f fd) (m_range : mg "range" = none) : FnOk P w K mg base CX0 1 f fd ["pieces"] (sp_all_ends K) := by
  refine F.ok sc_all_ends (fun vs H Q E h => ?_) (fun cdv A outer s H vs Q E hr h => ?_)
  · obtain ⟨_, rfl, _⟩ := h
    rfl
  · have hu := hu_of hr
    obtain ⟨n, rfl, n1, n60, q⟩ := h
    refine ⟨_, (pss_one (ps_ret (pe_lc (own := [("end", 1)]) rfl sc_all_ends.nd (pi_range2 (by rfl) m_range (pa_cons (pe_un un_neg (pv 0)) (pa_cons (pe_op op_add (pv 0) pe_int) pa_nil))) (blkOk_by (own := [("end", 1)]) (N := N_all_ends) (sc := defScope s_all_ends) (by decide +kernel)) (fun _ _ _ _ _ => (pg_name (i := 1) sc_all_ends.nd rfl (Or.inl rfl))) (fun _ _ _ _ _ => pts_one (pt_cmpR op_ne (pv 1) pe_int (nomark _))) (fun _ _ _ _ _ => (pv 1))))), ?_⟩
    walk_at "ev"
    refine ⟨⟨by omega, by omega, by omega, by omega⟩, fun D np => ?_⟩
    refine r_lcP seq_range (fun e => !decide (e = 0)) V.int (by rw [rng_len]; omega) np (fun _ _ => trivial) ?_ ?_
    · intro e v H2 acc _ hv _ ha hz N h1 h2
      subst hv
      walk_at "ev"
      refine ite2 (fun hb => ?_) (fun hb => ?_)
      · walk_at "ev"
        exact ⟨acc, ha, hz, h1 hb⟩
      · exact h2 (Bool.eq_false_iff.mpr hb)
    · exact q.mk (Same.refl H) D np
end
end K02
namespace K02
open PySem PySem.Spec PyProof.Rows L2 Vf
section
variable {P : Program} {w : World} {K : PySem.W.Frag} {mg : Str → Option Value} {base : Heap}
theorem ok_partner_table {f : Addr} {fd : FuncData} (F : Fun K "partner_table" "partner_table" s_partner_table f fd)  : FnOk P w K mg base CX0 1 f fd ["layout"] (sp_partner_table K) := by
  refine F.ok sc_partner_table (fun vs H Q E h => ?_) (fun cdv A outer s H vs Q E hr h => ?_)
  · obtain ⟨_, _, _, _, rfl, _⟩ := h
    rfl
  · have hu := hu_of hr
    obtain ⟨a, xs, L, n, rfl, hS, hP, hL, q⟩ := h
    refine ⟨_, (pss_cons (ps_set (i := 1) sc_partner_table.nd rfl (Or.inl rfl) pe_dnewK)
        (pss_cons (ps_for PassesOwn.never rfl (pi_list (pv 0)) (pg_tup rfl (pgs_cons (pg_name (i := 2) sc_partner_table.nd rfl (Or.inl rfl)) (pgs_cons (pg_name (i := 3) sc_partner_table.nd rfl (Or.inl rfl)) pgs_nil)))
          (pss_cons (ps_dput hu (pv 1) (pv 2) (pv 3) rfl)
        (pss_one (ps_dput hu (pv 1) (pv 3) (pv 2) rfl))))
        (pss_one (ps_ret (pv 1))))), ?_⟩
    walk_at "ev"
    intro d nd
    walk_at "ev"
    refine ⟨⟨xs, (same_new nd).seq hS⟩, ?_⟩
    refine r_forS (seq_list hP) (fun dn σ H' => ∃ y z, σ = [some (.ref a), some (.ref d), y, z] ∧ H' = upd H d (.dK (tab dn))) ⟨_, _, rfl, rfl⟩ (fun dn σ H' ⟨_, _, _, e⟩ => e ▸ (same_new nd).seq hS) (fun dn p r v σ H' e hv ⟨y, z, e1, e2⟩ => ?_) (fun σ H' ⟨y, z, e1, e2⟩ => ?_)
    · subst e1 e2
      obtain ⟨t, rfl, ht⟩ := hv
      have ht' : upd H d (.dK (tab dn)) t = some (.tup [.int p.1, .int p.2]) := same_new nd _ _ ht
      walk_at "ev"
      have hz : (tab dn).length < 1000 := by
        have h1 := hL.len
        rw [e, List.length_append] at h1
        rw [tab_len]; omega
      obtain ⟨t1, n1, n2, n3⟩ := tab_put (e ▸ hL.nd)
      refine ⟨_, _, rfl, DPut.k (k := .inl p.1) upd_same (szs (by omega)), ?_⟩
      rw [upd_upd]
      walk_at "ev"
      have hz2 : (putK (tab dn) (Sum.inl p.1 : Key) (.int p.2)).length < 2000 := by
        rw [putK_new _ (tab_no n1), List.length_append]
        show (tab dn).length + 1 < 2000
        omega
      refine ⟨_, _, rfl, DPut.k (k := .inl p.2) upd_same (szs (by omega)), ?_⟩
      rw [upd_upd, t1]
      walk_at "ev"
    · subst e1 e2
      walk_at "ev"
      exact q.mk (Same.refl H) d nd
end
end K02
namespace K02
open PySem PySem.Spec PyProof.Rows L2 Vf
section
variable {P : Program} {w : World} {K : PySem.W.Frag} {mg : Str → Option Value} {base : Heap}
theorem ok_first_wrong_coupling {f : Addr} {fd : FuncData} (F : Fun K "first_wrong_coupling" "first_wrong_coupling" s_first_wrong_coupling f fd) (D_is_coupling : Def P w K mg base 3 "is_coupling" ["pieces", "value"] (sp_is_coupling K)) (m_set : mg "set" = none) (m_enumerate : mg "enumerate" = none) : FnOk P w K mg base CX0 4 f fd ["pieces", "items"] (sp_first_wrong_coupling K) := by
  refine F.ok sc_first_wrong_coupling (fun vs H Q E h => ?_) (fun cdv A outer s H vs Q E hr h => ?_)
  · obtain ⟨_, _, _, _, rfl, _⟩ := h
    rfl
  · have hu := hu_of hr
    obtain ⟨n, a, xs, L, rfl, hS, hP, hL, q⟩ := h
    refine ⟨_, (pss_cons (ps_set (i := 2) sc_first_wrong_coupling.nd rfl (Or.inl rfl) (pe_callTy0 cr_set0 (by rfl) m_set (by decide +kernel)))
        (pss_cons (ps_for PassesOwn.never rfl (pi_enum (by rfl) m_enumerate (pa_cons (pv 1) pa_nil)) (pg_tup rfl (pgs_cons (pg_name (i := 3) sc_first_wrong_coupling.nd rfl (Or.inl rfl)) (pgs_cons (pg_name (i := 4) sc_first_wrong_coupling.nd rfl (Or.inl rfl)) pgs_nil)))
          (pss_cons (ps_if (pt_not (pt_val (pe_def D_is_coupling (hr.mono (by decide)) (pa_cons (pv 0) (pa_cons (pv 4) pa_nil))))) (pss_one (ps_ret (pv 3))) pss_nil)
        (pss_cons (ps_if (PW.pt (pw_and (pt_cmpR op_gt (pv 3) pe_int (nomark _)) (pw_and1 (pt_cmpR (leTK (K := K) hr.units0) (pv 4) (pe_ix (ixL (K := K)) (pv 1) (pe_op op_sub (pv 3) pe_int) (fun _ _ => rfl)) (nomark _))))) (pss_one (ps_ret (pv 3))) pss_nil)
        (pss_cons (ps_asg (pv 4) (pg_tup rfl (pgs_cons (pg_name (i := 5) sc_first_wrong_coupling.nd rfl (Or.inl rfl)) (pgs_cons (pg_name (i := 6) sc_first_wrong_coupling.nd rfl (Or.inl rfl)) pgs_nil))))
        (pss_cons (ps_if (PW.pt (pw_or (pt_cmpR or_sin (pv 5) (pv 2) rfl) (pw_or1 (pt_cmpR or_sin (pv 6) (pv 2) rfl)))) (pss_one (ps_ret (pv 3))) pss_nil)
        (pss_cons (ps_expr (pe_sadd (pv 2) (pa_cons (pv 5) pa_nil)))
        (pss_one (ps_expr (pe_sadd (pv 2) (pa_cons (pv 6) pa_nil))))))))))
        (pss_one (ps_ret pe_non)))), ?_⟩
    walk_at "ev"
    intro z nz
    walk_at "ev"
    refine ⟨a, xs, rfl, (same_new nz).seq hS, ?_⟩
    refine r_forE hP (fun d σ H' => ∃ y1 y2 y3 y4 S m, σ = [some (.int n), some (.ref a), some (.ref z), y1, y2, y3, y4] ∧ Same H H' ∧ H' z = some (SetO w z S m) ∧ (∀ j, S j = true ↔ j ∈ flat d) ∧ m ≤ 2 * d.length)
      ⟨_, _, _, _, _, _, rfl, same_new nz, upd_same, fun j => ⟨fun c => (nomatch c), fun c => (nomatch c)⟩, Nat.zero_le _⟩ (fun d σ H' ⟨_, _, _, _, _, _, _, e, _⟩ => e.seq hS) ?_ ?_
    · rintro d p r x T σ H1 e hx hr ⟨y1, y2, y3, y4, S, m, rfl, sm, hz, hSm, hm⟩ nT
      have sT : Same H (upd H1 T (.tup [.int (d.length : Nat), x])) := sm.trans (same_new nT)
      have hz1 : upd H1 T (.tup [.int (d.length : Nat), x]) z = some (SetO w z S m) := same_new nT _ _ hz
      have hT : upd H1 T (.tup [.int (d.length : Nat), x]) T = some (.tup [.int (d.length : Nat), x]) := upd_same
      generalize upd H1 T (.tup [.int (d.length : Nat), x]) = H2 at sT hz1 hT ⊢
      obtain ⟨t, rfl, ht⟩ := hr.mono sT
      have hc := hL.cp p (by rw [e]; simp)
      have hnd := hL.nd
      have hlen := hL.len
      have hS2 : SqL K H2 a xs := sT.seq hS
      have n1 : S p.1 = false := by
        rw [Bool.eq_false_iff]
        intro c
        exact (tab_put (e ▸ hnd)).2.1 ((hSm _).mp c)
      have n2 : S p.2 = false := by
        rw [Bool.eq_false_iff]
        intro c
        exact (tab_put (e ▸ hnd)).2.2.1 ((hSm _).mp c)
      have n3 := (tab_put (e ▸ hnd)).2.2.2
      have hl2 : d.length ≤ 60 := by
        rw [e, List.length_append] at hlen
        omega
      have sB : 200 < scanBound := by decide
      walk_at "ev"
      refine ⟨n, t, p.1, p.2, rfl, ht, hc.2.2.2.1, hc.2.2.2.2, hc.1, hc.2.1, hc.2.2.1, ?_⟩
      walk_at "ev"
      by_cases h0 : d.length = 0
      case' pos =>
        refine ifDn (by omega) ?_
        walk_at "ev"
      case' neg =>
        refine ifD (by omega) ?_
        obtain ⟨d', q', ed⟩ : ∃ d' q', d = d' ++ [q'] := ⟨d.dropLast, d.getLast (by intro c; rw [c] at h0; exact h0 rfl), (List.dropLast_concat_getLast _).symm⟩
        have el : d.length = d'.length + 1 := by rw [ed, List.length_append]; rfl
        obtain ⟨x', hx', ⟨u, rfl, hu'⟩⟩ := pair_get2 hP (i := d'.length) (p := q') (by rw [e, ed, List.append_assoc, List.getElem?_append_right (Nat.le_refl _), Nat.sub_self]; rfl)
        have hasc := hL.asc
        rw [e, ed, List.append_assoc] at hasc
        have hlt := (List.pairwise_append.mp (List.pairwise_append.mp hasc).2.1).2.2 q' (by simp) p (by simp)
        walk_at "ev"
        refine r_ixL hS2 (at_of (j := d'.length) (by omega) hx') ?_
        walk_at "ev"
        refine r_leP (sqt ht) (sqt (sT _ _ hu')) ?_
        walk_at "ev"
      all_goals
        refine ifF (by rw [n1]; simp) ?_
        walk_at "ev"
        refine ifF (by rw [n2]; simp) ?_
        walk_at "ev"
        refine ⟨⟨_, _, _, rfl, hz1⟩, ?_⟩
        walk_at "ev"
        refine r_add hz1 (by omega) ?_
        walk_at "ev"
        refine ⟨⟨_, _, _, rfl, upd_same⟩, ?_⟩
        walk_at "ev"
        refine r_add upd_same (by rw [if_neg (by rw [n1]; simp)]; omega) ?_
        rw [upd_upd]
        refine ⟨_, _, _, _, _, _, rfl, Vf.Same.set sT nz, upd_same, fun j => ?_, ?_⟩
        · rw [flat_app, List.mem_append, flat_cons, flat_nil]
          simp only [Bool.or_eq_true, decide_eq_true_eq, hSm, List.mem_cons, List.not_mem_nil, or_false]
          constructor
          · rintro ((z1 | z1) | z1)
            · exact Or.inl z1
            · exact Or.inr (Or.inl z1)
            · exact Or.inr (Or.inr z1)
          · rintro (z1 | z1 | z1)
            · exact Or.inl (Or.inl z1)
            · exact Or.inl (Or.inr z1)
            · exact Or.inr z1
        · rw [List.length_append, List.length_singleton]
          repeat' split
          all_goals omega
    · rintro σ H1 ⟨y1, y2, y3, y4, S, m, rfl, sm, hz, hSm, hm⟩
      walk_at "ev"
      exact q _ sm
end
end K02
namespace K02
open PySem PySem.Spec PyProof.Rows L2 Vf
section
variable {P : Program} {w : World} {K : PySem.W.Frag} {mg : Str → Option Value} {base : Heap}
theorem ok_check_pieces {f : Addr} {fd : FuncData} (F : Fun K "check_pieces" "check_pieces" s_check_pieces f fd) (D_is_integer : Def P w K mg base 1 "is_integer" ["value"] (sp_is_integer K)) {t_MOST_PIECES : Tok} (g_MOST_PIECES : mg "MOST_PIECES" = some (.int 60 t_MOST_PIECES)) : FnOk P w K mg base CX0 2 f fd ["pieces"] (sp_check_pieces K) := by
  refine F.ok sc_check_pieces (fun vs H Q E h => ?_) (fun cdv A outer s H vs Q E hr h => ?_)
  · obtain ⟨_, rfl, _⟩ := h
    rfl
  · have hu := hu_of hr
    obtain ⟨n, rfl, n1, n2, q⟩ := h
    refine ⟨_, (pss_one (ps_if (PW.pt (pw_or (pt_not (pt_val (pe_def D_is_integer (hr.mono (by decide)) (pa_cons (pv 0) pa_nil)))) (pw_or (pt_cmpR op_lt (pv 0) pe_int (nomark _)) (pw_or1 (pt_cmpR op_gt (pv 0) (pe_glob (v := .int 60) rfl g_MOST_PIECES ⟨_, rfl⟩) (nomark _)))))) (pss_one ps_never) pss_nil)), ?_⟩
    walk_at "ev"
    exact q
end
end K02
namespace K02
open PySem PySem.Spec PyProof.Rows L2 Vf
section
variable {P : Program} {w : World} {K : PySem.W.Frag} {mg : Str → Option Value} {base : Heap}
theorem ok_check_layout {f : Addr} {fd : FuncData} (F : Fun K "check_layout" "check_layout" s_check_layout f fd) (D_first_wrong_coupling : Def P w K mg base 4 "first_wrong_coupling" ["pieces", "items"] (sp_first_wrong_coupling K)) (m_list : mg "list" = none) (m_type : mg "type" = none) : FnOk P w K mg base CX0 5 f fd ["pieces", "layout"] (sp_check_layout K) := by
  refine F.ok sc_check_layout (fun vs H Q E h => ?_) (fun cdv A outer s H vs Q E hr h => ?_)
  · obtain ⟨_, _, _, _, rfl, _⟩ := h
    rfl
  · have hu := hu_of hr
    obtain ⟨n, a, xs, L, rfl, ha, hP, hL, q⟩ := h
    refine ⟨_, (pss_cons (ps_if (pt_cmpR op_neTy (pe_typeOf rfl m_type (pv 1)) (pe_bltn (v := .ty "list") (by rfl) m_list (by decide +kernel) rfl) (nomark _)) (pss_one ps_never) pss_nil)
        (pss_cons (ps_set (i := 2) sc_check_layout.nd rfl (Or.inl rfl) (pe_def D_first_wrong_coupling (hr.mono (by decide)) (pa_cons (pv 0) (pa_cons (pv 1) pa_nil))))
        (pss_one (ps_if (pt_cmpR op_notN (pv 2) pe_non (nomark _)) (pss_one ps_never) pss_nil)))), ?_⟩
    walk_at "ev"
    refine ⟨"list", by unfold zTyV; simp only [ha], ?_⟩
    walk_at "ev"
    refine ⟨_, _, rfl, rfl, .lst, .lst, ?_⟩
    walk_at "ev"
    refine ⟨n, a, xs, L, rfl, sql ha, hP, hL, fun H' s' => ?_⟩
    walk_at "ev"
    exact q _ s'
end
end K02
namespace K02
open PySem PySem.Spec PyProof.Rows L2 Vf
section
variable {P : Program} {w : World} {K : PySem.W.Frag} {mg : Str → Option Value} {base : Heap}
theorem ok_check_end {f : Addr} {fd : FuncData} (F : Fun K "check_end" "check_end" s_check_end f fd) (D_is_end : Def P w K mg base 2 "is_end" ["pieces", "value"] (sp_is_end K)) : FnOk P w K mg base CX0 3 f fd ["pieces", "end"] (sp_check_end K) := by
  refine F.ok sc_check_end (fun vs H Q E h => ?_) (fun cdv A outer s H vs Q E hr h => ?_)
  · obtain ⟨_, _, rfl, _⟩ := h
    rfl
  · have hu := hu_of hr
    obtain ⟨n, i, rfl, i0, i1, i2, q⟩ := h
    refine ⟨_, (pss_one (ps_if (pt_not (pt_val (pe_def D_is_end (hr.mono (by decide)) (pa_cons (pv 0) (pa_cons (pv 1) pa_nil))))) (pss_one ps_never) pss_nil)), ?_⟩
    walk_at "ev"
    refine ⟨i0, i1, i2, ?_⟩
    walk_at "ev"
    exact q
end
end K02
namespace K02
open PySem PySem.Spec PyProof.Rows L2 Vf
section
variable {P : Program} {w : World} {K : PySem.W.Frag} {mg : Str → Option Value} {base : Heap}
theorem ok_count_layouts {f : Addr} {fd : FuncData} (F : Fun K "count_layouts" "count_layouts" s_count_layouts f fd) (D_check_pieces : Def P w K mg base 2 "check_pieces" ["pieces"] (sp_check_pieces K)) (m_range : mg "range" = none) : FnOk P w K mg base CX0 3 f fd ["pieces"] (sp_count_layouts K) := by
  refine F.ok sc_count_layouts (fun vs H Q E h => ?_) (fun cdv A outer s H vs Q E hr h => ?_)
  · obtain ⟨_, rfl, _⟩ := h
    rfl
  · have hu := hu_of hr
    obtain ⟨n, rfl, n1, n2, q⟩ := h
    refine ⟨_, (pss_cons (ps_expr (pe_def D_check_pieces (hr.mono (by decide)) (pa_cons (pv 0) pa_nil)))
        (pss_cons (ps_asg (pe_tup (pa_cons pe_int (pa_cons pe_int pa_nil))) (pg_tup rfl (pgs_cons (pg_name (i := 1) sc_count_layouts.nd rfl (Or.inl rfl)) (pgs_cons (pg_name (i := 2) sc_count_layouts.nd rfl (Or.inl rfl)) pgs_nil))))
        (pss_cons (ps_for PassesOwn.never rfl (pi_range2 (by rfl) m_range (pa_cons pe_int (pa_cons (pe_op op_mul pe_int (pv 0)) pa_nil))) (pg_name (i := 3) sc_count_layouts.nd rfl (Or.inl rfl))
          (pss_one (ps_par (i := 1) (j := 2) (by rfl) sc_count_layouts.nd rfl rfl (by decide) rfl rfl (pa_cons (pv 2) (pa_cons (pe_op op_add (pv 2) (pe_op op_mul (pv 3) (pv 1))) pa_nil)) (by rfl))))
        (pss_one (ps_ret (pv 2)))))), ?_⟩
    walk_at "ev"
    refine ⟨n1, n2, ?_⟩
    walk_at "ev"
    refine ⟨szl (by show 2 ≤ 100000; decide), fun t nt => ?_⟩
    refine r_gtup (sqt upd_same) rfl ?_
    walk_at "ev"
    refine ⟨⟨by omega, by omega, by omega, by omega⟩, ?_⟩
    refine r_forS seq_range (fun d σ H' => ∃ y, σ = [some (.int n), some (.int (d.foldl cntF (1, 1)).1), some (.int (d.foldl cntF (1, 1)).2), y] ∧ Same H H') ⟨_, rfl, same_new nt⟩ (fun _ _ _ _ => trivial) ?_ ?_
    · rintro d k r v σ H1 e rfl ⟨y, rfl, sm⟩
      have hk : 1 ≤ k ∧ k < 1 + ((2 * n - 1).toNat : Int) := mem_rng.mp (by rw [e]; simp)
      walk_at "ev"
      refine ⟨some (.int k), ?_, sm⟩
      rw [List.foldl_append]
      rfl
    · rintro σ H1 ⟨y, rfl, sm⟩
      walk_at "ev"
      exact q _ sm
end
end K02
namespace K02
open PySem PySem.Spec PyProof.Rows L2 Vf
section
variable {P : Program} {w : World} {K : PySem.W.Frag} {mg : Str → Option Value} {base : Heap}
theorem ok_open_ends {f : Addr} {fd : FuncData} (F : Fun K "open_ends" "open_ends" s_open_ends f fd) (D_check_pieces : Def P w K mg base 2 "check_pieces" ["pieces"] (sp_check_pieces K)) (D_check_layout : Def P w K mg base 5 "check_layout" ["pieces", "layout"] (sp_check_layout K)) (D_partner_table : Def P w K mg base 1 "partner_table" ["layout"] (sp_partner_table K)) (D_all_ends : Def P w K mg base 1 "all_ends" ["pieces"] (sp_all_ends K)) : FnOk P w K mg base CX0 6 f fd ["pieces", "layout"] (sp_open_ends K) := by
  refine F.ok sc_open_ends (fun vs H Q E h => ?_) (fun cdv A outer s H vs Q E hr h => ?_)
  · obtain ⟨_, _, _, _, rfl, _⟩ := h
    rfl
  · have hu := hu_of hr
    obtain ⟨n, a, xs, L, rfl, ha, hP, hL, q⟩ := h
    refine ⟨_, (pss_cons (ps_expr (pe_def D_check_pieces (hr.mono (by decide)) (pa_cons (pv 0) pa_nil)))
        (pss_cons (ps_expr (pe_def D_check_layout (hr.mono (by decide)) (pa_cons (pv 0) (pa_cons (pv 1) pa_nil))))
        (pss_cons (ps_set (i := 2) sc_open_ends.nd rfl (Or.inr rfl) (pe_def D_partner_table (hr.mono (by decide)) (pa_cons (pv 1) pa_nil)))
        (pss_one (ps_ret (pe_lc (own := [("end", 3)]) rfl sc_open_ends.nd (pi_list (pe_def D_all_ends (hr.mono (by decide)) (pa_cons (pv 0) pa_nil))) (blkOk_by (own := [("end", 3)]) (N := N_open_ends) (sc := defScope s_open_ends) (by decide +kernel)) (fun _ _ _ _ _ => (pg_name (i := 3) sc_open_ends.nd rfl (Or.inl rfl))) (fun _ _ _ _ _ => pts_one (pt_cmp (pc_dnotin hu (pv 3) (pv 2)))) (fun _ _ _ _ _ => (pv 3)))))))), ?_⟩
    walk_at "ev"
    refine ⟨hL.n1, hL.n60, ?_⟩
    walk_at "ev"
    refine ⟨n, a, xs, L, rfl, ha, hP, hL, fun H1 s1 => ?_⟩
    walk_at "ev"
    refine ⟨a, xs, L, n, rfl, s1.seq (sql ha), hP.mono s1, hL, fun d H2 s2 nd hd => ?_⟩
    walk_at "ev"
    refine ⟨hL.n1, hL.n60, fun b H3 s3 nb hb => ?_⟩
    walk_at "ev"
    refine ⟨⟨_, sql hb⟩, fun D np => ?_⟩
    have hl := endsL_len (n := n) (by have := hL.n1; omega)
    have h60 := hL.n60
    refine r_lcP (seq_list (rel := fun v (i : Int) => v = .int i) (pair_map fun _ _ => rfl)) (fun e => !(parI L e).isSome) V.int (by omega) np (fun _ s => s.seq (sql hb)) ?_ (q.mk (s1.trans (s2.trans s3)) D np)
    intro e v H4 acc _ hv s4 ha4 hz N h1 h2
    subst hv
    walk_at "ev"
    refine ⟨_, _, rfl, DGet.k (k := .inl e) (s4 _ _ (s3 _ _ hd)), ?_⟩
    rw [tab_get, Option.isSome_map]
    walk_at "ev"
    refine ite2 (fun hb => ?_) (fun hb => ?_)
    · walk_at "ev"
      exact ⟨acc, ha4, hz, h1 hb⟩
    · exact h2 (Bool.eq_false_iff.mpr hb)
end
end K02
namespace K02
open PySem PySem.Spec PyProof.Rows L2 Vf
section
variable {P : Program} {w : World} {K : PySem.W.Frag} {mg : Str → Option Value} {base : Heap}
theorem ok_partner_of {f : Addr} {fd : FuncData} (F : Fun K "partner_of" "partner_of" s_partner_of f fd) (D_check_pieces : Def P w K mg base 2 "check_pieces" ["pieces"] (sp_check_pieces K)) (D_check_layout : Def P w K mg base 5 "check_layout" ["pieces", "layout"] (sp_check_layout K)) (D_check_end : Def P w K mg base 3 "check_end" ["pieces", "end"] (sp_check_end K)) (D_partner_table : Def P w K mg base 1 "partner_table" ["layout"] (sp_partner_table K)) : FnOk P w K mg base CX0 6 f fd ["pieces", "layout", "end"] (sp_partner_of K) := by
  refine F.ok sc_partner_of (fun vs H Q E h => ?_) (fun cdv A outer s H vs Q E hr h => ?_)
  · obtain ⟨_, _, _, _, _, rfl, _⟩ := h
    rfl
  · have hu := hu_of hr
    obtain ⟨n, a, e, xs, L, rfl, ha, hP, hL, he, q⟩ := h
    refine ⟨_, (pss_cons (ps_expr (pe_def D_check_pieces (hr.mono (by decide)) (pa_cons (pv 0) pa_nil)))
        (pss_cons (ps_expr (pe_def D_check_layout (hr.mono (by decide)) (pa_cons (pv 0) (pa_cons (pv 1) pa_nil))))
        (pss_cons (ps_expr (pe_def D_check_end (hr.mono (by decide)) (pa_cons (pv 0) (pa_cons (pv 2) pa_nil))))
        (pss_one (ps_ret (pe_dget1 hu (pe_def D_partner_table (hr.mono (by decide)) (pa_cons (pv 1) pa_nil)) (pv 2) ⟨rfl, rfl, rfl, rfl⟩)))))), ?_⟩
    have he := mem_endsL.mp he
    walk_at "ev"
    refine ⟨hL.n1, hL.n60, ?_⟩
    walk_at "ev"
    refine ⟨n, a, xs, L, rfl, ha, hP, hL, fun H1 s1 => ?_⟩
    walk_at "ev"
    refine ⟨he.2.2, he.1, he.2.1, ?_⟩
    walk_at "ev"
    refine ⟨a, xs, L, n, rfl, s1.seq (sql ha), hP.mono s1, hL, fun d H2 s2 nd hd => ?_⟩
    walk_at "ev"
    refine ⟨.inl ⟨_, .inl hd⟩, ?_⟩
    walk_at "ev"
    refine ⟨_, DGet.k (k := .inl e) hd, ?_⟩
    rw [tab_get]
    exact q _ (s1.trans s2)
end
end K02
namespace K02
open PySem PySem.Spec PyProof.Rows L2 Vf
section
variable {P : Program} {w : World} {K : PySem.W.Frag} {mg : Str → Option Value} {base : Heap}
theorem ok_partners_of {f : Addr} {fd : FuncData} (F : Fun K "partners_of" "partners_of" s_partners_of f fd) (D_check_pieces : Def P w K mg base 2 "check_pieces" ["pieces"] (sp_check_pieces K)) (D_check_layout : Def P w K mg base 5 "check_layout" ["pieces", "layout"] (sp_check_layout K)) (D_partner_table : Def P w K mg base 1 "partner_table" ["layout"] (sp_partner_table K)) (D_all_ends : Def P w K mg base 1 "all_ends" ["pieces"] (sp_all_ends K)) : FnOk P w K mg base CX0 6 f fd ["pieces", "layout"] (sp_partners_of K) := by
  refine F.ok sc_partners_of (fun vs H Q E h => ?_) (fun cdv A outer s H vs Q E hr h => ?_)
  · obtain ⟨_, _, _, _, rfl, _⟩ := h
    rfl
  · have hu := hu_of hr
    obtain ⟨n, a, xs, L, rfl, ha, hP, hL, q⟩ := h
    refine ⟨_, (pss_cons (ps_expr (pe_def D_check_pieces (hr.mono (by decide)) (pa_cons (pv 0) pa_nil)))
        (pss_cons (ps_expr (pe_def D_check_layout (hr.mono (by decide)) (pa_cons (pv 0) (pa_cons (pv 1) pa_nil))))
        (pss_cons (ps_set (i := 2) sc_partners_of.nd rfl (Or.inr rfl) (pe_def D_partner_table (hr.mono (by decide)) (pa_cons (pv 1) pa_nil)))
        (pss_one (ps_ret (pe_lc (own := [("end", 3)]) rfl sc_partners_of.nd (pi_list (pe_def D_all_ends (hr.mono (by decide)) (pa_cons (pv 0) pa_nil))) (blkOk_by (own := [("end", 3)]) (N := N_partners_of) (sc := defScope s_partners_of) (by decide +kernel)) (fun _ _ _ _ _ => (pg_name (i := 3) sc_partners_of.nd rfl (Or.inl rfl))) (fun _ _ _ _ _ => pts_nil) (fun _ _ _ _ _ => (pe_dget2 hu (pv 2) (pv 3) pe_int ⟨rfl, rfl, rfl, rfl⟩)))))))), ?_⟩
    walk_at "ev"
    refine ⟨hL.n1, hL.n60, ?_⟩
    walk_at "ev"
    refine ⟨n, a, xs, L, rfl, ha, hP, hL, fun H1 s1 => ?_⟩
    walk_at "ev"
    refine ⟨a, xs, L, n, rfl, s1.seq (sql ha), hP.mono s1, hL, fun d H2 s2 nd hd => ?_⟩
    walk_at "ev"
    refine ⟨hL.n1, hL.n60, fun b H3 s3 nb hb => ?_⟩
    walk_at "ev"
    refine ⟨⟨_, sql hb⟩, fun D np => ?_⟩
    have hl := endsL_len (n := n) (by have := hL.n1; omega)
    have h60 := hL.n60
    refine r_lcP (seq_list (rel := fun v (i : Int) => v = .int i) (pair_map fun _ _ => rfl)) (fun _ => true) (fun e => .int ((parI L e).getD 0)) (by omega) np (fun _ s => s.seq (sql hb)) ?_ (by rw [List.filter_eq_self.mpr (fun _ _ => rfl)]; have := q.mk (s1.trans (s2.trans s3)) D np; unfold partsL at this; rw [List.map_map] at this; exact this)
    intro e v H4 acc _ hv s4 ha4 hz N h1 h2
    subst hv
    walk_at "ev"
    refine ⟨.inl ⟨_, .inl (s4 _ _ (s3 _ _ hd))⟩, ?_⟩
    walk_at "ev"
    refine ⟨_, DGet.k (k := .inl e) (s4 _ _ (s3 _ _ hd)), ?_⟩
    rw [tab_get]
    refine ⟨acc, ha4, hz, ?_⟩
    have := h1 rfl
    cases h : parI L e with
    | none => rw [h] at this; exact this
    | some z => rw [h] at this; exact this
end
end K02
namespace K02
open PySem PySem.Spec PyProof.Rows L2 Vf
section
variable {P : Program} {w : World} {K : PySem.W.Frag} {mg : Str → Option Value} {base : Heap}
theorem ok__law_tap {f : Addr} {fd : FuncData} (F : Fun K "_law_tap" "_law_tap" s__law_tap f fd) (m_int : mg "int" = none) (m_abs : mg "abs" = none) : FnOk P w K mg base CX0 1 f fd ["cell", "turn"] (sp__law_tap K) := by
  refine F.ok sc__law_tap (fun vs H Q E h => ?_) (fun cdv A outer s H vs Q E hr h => ?_)
  · obtain ⟨_, _, rfl, _⟩ := h
    rfl
  · have hu := hu_of hr
    obtain ⟨c, k, rfl, k0, k1, q⟩ := h
    refine ⟨_, (pss_cons (ps_set (i := 2) sc__law_tap.nd rfl (Or.inl rfl) (pe_op op_add (pe_op op_mul pe_int (pe_callB call_abs (by rfl) m_abs (by decide +kernel) (pa_cons (pv 0) pa_nil))) (pe_callTy call_int1 (by rfl) m_int (by decide +kernel) (pa_cons (pe_cmpR op_lt (pv 0) pe_int (nomark _)) pa_nil))))
        (pss_one (ps_ret (pe_lst (pa_cons (pv 2) (pa_cons (pe_op op_add (pe_op op_add (pe_op op_modN (pe_callTy call_int1 (by rfl) m_int (by decide +kernel) (pa_cons (pv 2) pa_nil)) pe_int) (pe_op op_mul pe_int (pv 1))) pe_int) (pa_cons (pe_op op_add (pe_op op_add (pe_op op_modN (pe_callTy call_int1 (by rfl) m_int (by decide +kernel) (pa_cons (pv 2) pa_nil)) pe_int) (pe_op op_mul pe_int (pv 1))) pe_int) pa_nil))))))), ?_⟩
    walk_at "ev"
    generalize hw : 2 * (if c < 0 then -c else c) + (if decide (c < 0) = true then 1 else 0) = W
    have w0 : 0 ≤ W := by
      rw [← hw]
      by_cases e : c < 0
      · rw [if_pos e, if_pos (decide_eq_true e)]; omega
      · rw [if_neg e, if_neg (by simpa using e)]; omega
    refine ⟨szl (by show 3 ≤ 100000; decide), fun p np => ?_⟩
    have e1 := fm W 4294967291 (by decide)
    have e2 := fm W 2147483587 (by decide)
    exact q p _ (same_new np) np ⟨_, _, _, upd_same, w0, by omega, by omega, by omega⟩
end
end K02
namespace K02
open PySem PySem.Spec PyProof.Rows L2 Vf
section
variable {P : Program} {w : World} {K : PySem.W.Frag} {mg : Str → Option Value} {base : Heap}
theorem ok__law_draw {f : Addr} {fd : FuncData} (F : Fun K "_law_draw" "_law_draw" s__law_draw f fd) (m_int : mg "int" = none) : FnOk P w K mg base CX0 1 f fd ["tap", "bound"] (sp__law_draw K) := by
  refine F.ok sc__law_draw (fun vs H Q E h => ?_) (fun cdv A outer s H vs Q E hr h => ?_)
  · obtain ⟨_, _, rfl, _⟩ := h
    rfl
  · have hu := hu_of hr
    obtain ⟨t, n, rfl, ⟨a, b, c, ht, a0, b0, c0, c1⟩, n0, n1, q⟩ := h
    refine ⟨_, (pss_cons (ps_if (pt_cmpR op_ge (pe_ix (ixL (K := K)) (pv 0) pe_int (fun _ _ => rfl)) (pe_op op_powW pe_int pe_int) (nomark _)) (pss_cons (ps_set (i := 2) sc__law_draw.nd rfl (Or.inl rfl) (pe_op op_modN (pe_callTy call_int1 (by rfl) m_int (by decide +kernel) (pa_cons (pe_ix (ixL (K := K)) (pv 0) pe_int (fun _ _ => rfl)) pa_nil)) (pv 1)))
        (pss_cons (ps_asg (pe_op op_fdivN (pe_ix (ixL (K := K)) (pv 0) pe_int (fun _ _ => rfl)) (pv 1)) (pg_sub (pv 0) pe_int set_list))
        (pss_one (ps_ret (pv 2))))) pss_nil)
        (pss_cons (ps_asg (pe_op op_modN (pe_callTy call_int1 (by rfl) m_int (by decide +kernel) (pa_cons (pe_op op_add (pe_op op_mul (pe_ix (ixL (K := K)) (pv 0) pe_int (fun _ _ => rfl)) pe_int) pe_int) pa_nil)) pe_int) (pg_sub (pv 0) pe_int set_list))
        (pss_cons (ps_asg (pe_op op_modN (pe_callTy call_int1 (by rfl) m_int (by decide +kernel) (pa_cons (pe_op op_add (pe_op op_mul (pe_ix (ixL (K := K)) (pv 0) pe_int (fun _ _ => rfl)) (pe_ix (ixL (K := K)) (pv 0) pe_int (fun _ _ => rfl))) (pe_ix (ixL (K := K)) (pv 0) pe_int (fun _ _ => rfl))) pa_nil)) pe_int) (pg_sub (pv 0) pe_int set_list))
        (pss_one (ps_ret (pe_op op_modN (pe_callTy call_int1 (by rfl) m_int (by decide +kernel) (pa_cons (pe_op op_add (pe_op op_fdivN (pe_ix (ixL (K := K)) (pv 0) pe_int (fun _ _ => rfl)) pe_int) (pe_op op_fdivN (pe_ix (ixL (K := K)) (pv 0) pe_int (fun _ _ => rfl)) pe_int)) pa_nil)) (pv 1))))))), ?_⟩
    have nz : n ≠ 0 := by omega
    have nb : CDivN a n := ⟨nz, by omega⟩
    have hS : SqL K H t [.int a, .int b, .int c] := .inl (.inl ht)
    walk_at "ev"
    refine ite2 (fun _ => ?_) (fun _ => ?_)
    · walk_at "ev"
      have e1 := fm a n n0
      exact q _ _ e1.1 e1.2 (fun b e => upd_ne e) ⟨_, _, _, upd_same, Int.fdiv_nonneg a0 (by omega), b0, c0, c1⟩
    · walk_at "ev"
      have e1 := fm (b * 69069 + 40503) 4294967291 (by decide)
      generalize (b * 69069 + 40503).fmod 4294967291 = b' at e1 ⊢
      have s0 : upd H t (.lst ([.int a, .int b, .int c].set (Int.toNat 1) (.int b'))) t = some (.lst [.int a, .int b', .int c]) := upd_same
      generalize h1 : upd H t (.lst ([.int a, .int b, .int c].set (Int.toNat 1) (.int b'))) = H1 at s0 ⊢
      have s1 : SqL K H1 t [.int a, .int b', .int c] := .inl (.inl s0)
      walk_at "ev"
      have e2 := fm (c * c + b') 2147483587 (by decide)
      generalize (c * c + b').fmod 2147483587 = c' at e2 ⊢
      have s2 : upd H1 t (.lst ([.int a, .int b', .int c].set (Int.toNat 2) (.int c'))) t = some (.lst [.int a, .int b', .int c']) := upd_same
      generalize h2 : upd H1 t (.lst ([.int a, .int b', .int c].set (Int.toNat 2) (.int c'))) = H2 at s2 ⊢
      have s3 : SqL K H2 t [.int a, .int b', .int c'] := .inl (.inl s2)
      walk_at "ev"
      have e3 := fm (b'.fdiv 32 + c'.fdiv 16) n n0
      exact q _ _ e3.1 e3.2 (fun b e => by rw [← h2, upd_ne e, ← h1, upd_ne e]) ⟨_, _, _, s2, a0, e1.1, e2.1, by omega⟩
end
end K02
namespace K02
open PySem PySem.Spec PyProof.Rows L2 Vf
section
variable {P : Program} {w : World} {K : PySem.W.Frag} {mg : Str → Option Value} {base : Heap}
theorem ok__law_cells {f : Addr} {fd : FuncData} (F : Fun K "_law_cells" "_law_cells" s__law_cells f fd) (m_max : mg "max" = none) (m_min : mg "min" = none) (m_len : mg "len" = none) : FnOk P w K mg base CX0 1 f fd ["script", "many"] (sp__law_cells K) := by
  refine F.ok sc__law_cells (fun vs H Q E h => ?_) (fun cdv A outer s H vs Q E hr h => ?_)
  · obtain ⟨_, _, _, rfl, _⟩ := h
    rfl
  · have hu := hu_of hr
    obtain ⟨a, ns, m, rfl, hS, hl, m1, m2, q⟩ := h
    refine ⟨_, (pss_one (ps_ret (pe_slice sl_list (pe_op (catK (K := K)) (pv 0) (pe_lst (pa_cons pe_int pa_nil))) po_none (po_some (pe_callB (call_max2 rfl) (by rfl) m_max (by decide +kernel) (pa_cons pe_int (pa_cons (pe_callB (call_min2 rfl) (by rfl) m_min (by decide +kernel) (pa_cons (pv 1) (pa_cons (pe_callB (lenK (K := K)) (by rfl) m_len (by decide +kernel) (pa_cons (pv 0) pa_nil)) pa_nil))) pa_nil))))))), ?_⟩
    walk_at "ev"
    refine ⟨szl (by show 1 ≤ 100000; decide), fun b nb => ?_⟩
    have s1 := same_new (o := .lst [.int 0]) nb
    generalize hB : upd H b (.lst [.int 0]) = H1 at s1 ⊢
    have hb : H1 b = some (.lst [.int 0]) := by rw [← hB]; exact upd_same
    refine ⟨a, b, ns.map V.int, _, rfl, rfl, s1.seq hS, sql hb, szl (by rw [List.length_map]; show ns.length + 1 ≤ 100000; omega), fun c nc => ?_⟩
    walk_at "ev"
    have s2 := s1.trans (same_new (o := .lst (ns.map V.int ++ [.int 0])) nc)
    refine ⟨a, ns.map V.int, rfl, .inl (s2.seq hS), ?_⟩
    walk_at "ev"
    refine ⟨c, _, rfl, sql upd_same, fun e ne => ?_⟩
    obtain ⟨cs, h1, h2⟩ := cut_ints (ns ++ [0]) none (some (if (if ((ns.map V.int).length : Int) < m then ((ns.map V.int).length : Int) else m) > 1 then (if ((ns.map V.int).length : Int) < m then ((ns.map V.int).length : Int) else m) else 1))
    rw [List.map_append] at h1
    refine q e _ cs (s2.trans (same_new ne)) (s2.free ne) ?_ (by rw [List.length_append] at h2; show cs.length ≤ 64; have : ([0] : List Int).length = 1 := rfl; omega)
    rw [upd_same, ← h1]
    rfl
end
end K02
namespace K02
open PySem PySem.Spec PyProof.Rows L2 Vf
section
variable {P : Program} {w : World} {K : PySem.W.Frag} {mg : Str → Option Value} {base : Heap}
theorem ok__law_ends {f : Addr} {fd : FuncData} (F : Fun K "_law_ends" "_law_ends" s__law_ends f fd) (m_range : mg "range" = none) : FnOk P w K mg base CX0 1 f fd ["pieces"] (sp__law_ends K) := by
  refine F.ok sc__law_ends (fun vs H Q E h => ?_) (fun cdv A outer s H vs Q E hr h => ?_)
  · obtain ⟨_, rfl, _⟩ := h
    rfl
  · have hu := hu_of hr
    obtain ⟨n, rfl, n1, n60, q⟩ := h
    refine ⟨_, (pss_one (ps_ret (pe_lc (own := [("end", 1)]) rfl sc__law_ends.nd (pi_range2 (by rfl) m_range (pa_cons (pe_op op_sub pe_int (pv 0)) (pa_cons (pe_op op_add (pv 0) pe_int) pa_nil))) (blkOk_by (own := [("end", 1)]) (N := N__law_ends) (sc := defScope s__law_ends) (by decide +kernel)) (fun _ _ _ _ _ => (pg_name (i := 1) sc__law_ends.nd rfl (Or.inl rfl))) (fun _ _ _ _ _ => pts_one (pt_cmpR op_ne (pv 1) pe_int (nomark _))) (fun _ _ _ _ _ => (pv 1))))), ?_⟩
    walk_at "ev"
    refine ⟨⟨by omega, by omega, by omega, by omega⟩, fun D np => ?_⟩
    refine r_lcP seq_range (fun e => !decide (e = 0)) V.int (by rw [rng_len]; omega) np (fun _ _ => trivial) ?_ ?_
    · intro e v H2 acc _ hv _ ha hz N h1 h2
      subst hv
      walk_at "ev"
      refine ite2 (fun hb => ?_) (fun hb => ?_)
      · walk_at "ev"
        exact ⟨acc, ha, hz, h1 hb⟩
      · exact h2 (Bool.eq_false_iff.mpr hb)
    · rw [show (0 : Int) - n = -n by omega]
      exact q.mk (Same.refl H) D np
end
end K02
namespace K02
open PySem PySem.Spec PyProof.Rows L2 Vf
section
variable {P : Program} {w : World} {K : PySem.W.Frag} {mg : Str → Option Value} {base : Heap}
theorem ok__law_pair {f : Addr} {fd : FuncData} (F : Fun K "_law_pair" "_law_pair" s__law_pair f fd) (m_min : mg "min" = none) (m_max : mg "max" = none) : FnOk P w K mg base CX0 1 f fd ["one", "other"] (sp__law_pair K) := by
  refine F.ok sc__law_pair (fun vs H Q E h => ?_) (fun cdv A outer s H vs Q E hr h => ?_)
  · obtain ⟨_, _, rfl, _⟩ := h
    rfl
  · have hu := hu_of hr
    obtain ⟨a, b, rfl, q⟩ := h
    refine ⟨_, (pss_one (ps_ret (pe_tup (pa_cons (pe_callB (call_min2 rfl) (by rfl) m_min (by decide +kernel) (pa_cons (pv 0) (pa_cons (pv 1) pa_nil))) (pa_cons (pe_callB (call_max2 rfl) (by rfl) m_max (by decide +kernel) (pa_cons (pv 0) (pa_cons (pv 1) pa_nil))) pa_nil))))), ?_⟩
    walk_at "ev"
    have e1 : (if b < a then b else a) = min a b := by omega
    have e2 : (if b > a then b else a) = max a b := by omega
    rw [e1, e2]
    exact ⟨szl (by show 2 ≤ 100000; decide), fun p np => q.mk (Same.refl H) p np⟩
end
end K02
namespace K02
open PySem PySem.Spec PyProof.Rows L2 Vf
section
variable {P : Program} {w : World} {K : PySem.W.Frag} {mg : Str → Option Value} {base : Heap}
theorem ok__law_partners {f : Addr} {fd : FuncData} (F : Fun K "_law_partners" "_law_partners" s__law_partners f fd)  : FnOk P w K mg base CX0 1 f fd ["layout"] (sp__law_partners K) := by
  refine F.ok sc__law_partners (fun vs H Q E h => ?_) (fun cdv A outer s H vs Q E hr h => ?_)
  · obtain ⟨_, _, _, _, rfl, _⟩ := h
    rfl
  · have hu := hu_of hr
    obtain ⟨a, xs, L, n, rfl, hS, hP, hL, q⟩ := h
    refine ⟨_, (pss_cons (ps_set (i := 1) sc__law_partners.nd rfl (Or.inl rfl) pe_dnewK)
        (pss_cons (ps_for PassesOwn.never rfl (pi_list (pv 0)) (pg_tup rfl (pgs_cons (pg_name (i := 2) sc__law_partners.nd rfl (Or.inl rfl)) (pgs_cons (pg_name (i := 3) sc__law_partners.nd rfl (Or.inl rfl)) pgs_nil)))
          (pss_cons (ps_dput hu (pv 1) (pv 2) (pv 3) rfl)
        (pss_one (ps_dput hu (pv 1) (pv 3) (pv 2) rfl))))
        (pss_one (ps_ret (pv 1))))), ?_⟩
    walk_at "ev"
    intro d nd
    walk_at "ev"
    refine ⟨⟨xs, (same_new nd).seq hS⟩, ?_⟩
    refine r_forS (seq_list hP) (fun dn σ H' => ∃ y z, σ = [some (.ref a), some (.ref d), y, z] ∧ H' = upd H d (.dK (tab dn))) ⟨_, _, rfl, rfl⟩ (fun dn σ H' ⟨_, _, _, e⟩ => e ▸ (same_new nd).seq hS) (fun dn p r v σ H' e hv ⟨y, z, e1, e2⟩ => ?_) (fun σ H' ⟨y, z, e1, e2⟩ => ?_)
    · subst e1 e2
      obtain ⟨t, rfl, ht⟩ := hv
      have ht' : upd H d (.dK (tab dn)) t = some (.tup [.int p.1, .int p.2]) := same_new nd _ _ ht
      walk_at "ev"
      have hz : (tab dn).length < 1000 := by
        have h1 := hL.len
        rw [e, List.length_append] at h1
        rw [tab_len]; omega
      obtain ⟨t1, n1, n2, n3⟩ := tab_put (e ▸ hL.nd)
      refine ⟨_, _, rfl, DPut.k (k := .inl p.1) upd_same (szs (by omega)), ?_⟩
      rw [upd_upd]
      walk_at "ev"
      have hz2 : (putK (tab dn) (Sum.inl p.1 : Key) (.int p.2)).length < 2000 := by
        rw [putK_new _ (tab_no n1), List.length_append]
        show (tab dn).length + 1 < 2000
        omega
      refine ⟨_, _, rfl, DPut.k (k := .inl p.2) upd_same (szs (by omega)), ?_⟩
      rw [upd_upd, t1]
      walk_at "ev"
    · subst e1 e2
      walk_at "ev"
      exact q.mk (Same.refl H) d nd
end
end K02
namespace K02
open PySem PySem.Spec PyProof.Rows L2 Vf
section
variable {P : Program} {w : World} {K : PySem.W.Frag} {mg : Str → Option Value} {base : Heap}
theorem ok__law_layout {f : Addr} {fd : FuncData} (F : Fun K "_law_layout" "_law_layout" s__law_layout f fd) (D__law_ends : Def P w K mg base 1 "_law_ends" ["pieces"] (sp__law_ends K)) (D__law_draw : Def P w K mg base 1 "_law_draw" ["tap", "bound"] (sp__law_draw K)) (D__law_pair : Def P w K mg base 1 "_law_pair" ["one", "other"] (sp__law_pair K)) (m_sorted : mg "sorted" = none) (m_len : mg "len" = none) : FnOk P w K mg base CX0 2 f fd ["tap", "pieces"] (sp__law_layout K) := by
  refine F.ok sc__law_layout (fun vs H Q E h => ?_) (fun cdv A outer s H vs Q E hr h => ?_)
  · obtain ⟨_, _, rfl, _⟩ := h
    rfl
  · have hu := hu_of hr
    obtain ⟨t, n, rfl, hT, n1, n60, q⟩ := h
    refine ⟨_, (pss_cons (ps_par (i := 2) (j := 3) (by rfl) sc__law_layout.nd rfl rfl (by decide) rfl rfl (pa_cons (pe_def D__law_ends (hr.mono (by decide)) (pa_cons (pv 1) pa_nil)) (pa_cons (pe_lst pa_nil) pa_nil)) (by rfl))
        (pss_cons (ps_set (i := 4) sc__law_layout.nd rfl (Or.inl rfl) (pe_ix (ixL (K := K)) (pe_lst (pa_cons pe_int (pa_cons pe_int (pa_cons pe_int (pa_cons pe_int (pa_cons pe_int pa_nil)))))) (pe_def D__law_draw (hr.mono (by decide)) (pa_cons (pv 0) (pa_cons pe_int pa_nil))) (fun _ _ => rfl)))
        (pss_cons (ps_while PassesOwn.never (pt_cmpR op_gt (pe_callB (lenK (K := K)) (by rfl) m_len (by decide +kernel) (pa_cons (pv 2) pa_nil)) pe_int (nomark _)) (pss_cons (ps_set (i := 5) sc__law_layout.nd rfl (Or.inl rfl) (pe_bm PySem.F.plainAttrs_list PySem.F.slot_list_pop PySem.F.type_list_pop mt_popAt (pv 2) (pa_cons (pe_def D__law_draw (hr.mono (by decide)) (pa_cons (pv 0) (pa_cons (pe_callB (lenK (K := K)) (by rfl) m_len (by decide +kernel) (pa_cons (pv 2) pa_nil)) pa_nil))) pa_nil)))
        (pss_cons (ps_set (i := 6) sc__law_layout.nd rfl (Or.inl rfl) (pe_bm PySem.F.plainAttrs_list PySem.F.slot_list_pop PySem.F.type_list_pop mt_popAt (pv 2) (pa_cons (pe_def D__law_draw (hr.mono (by decide)) (pa_cons (pv 0) (pa_cons (pe_callB (lenK (K := K)) (by rfl) m_len (by decide +kernel) (pa_cons (pv 2) pa_nil)) pa_nil))) pa_nil)))
        (pss_one (ps_if (pt_cmpR op_lt (pe_def D__law_draw (hr.mono (by decide)) (pa_cons (pv 0) (pa_cons pe_int pa_nil))) (pv 4) (nomark _)) (pss_one (ps_expr (pe_bm PySem.F.plainAttrs_list PySem.F.slot_list_append PySem.F.type_list_append mt_append (pv 3) (pa_cons (pe_def D__law_pair (hr.mono (by decide)) (pa_cons (pv 5) (pa_cons (pv 6) pa_nil))) pa_nil)))) pss_nil)))))
        (pss_one (ps_ret (pe_callB (sortedK (K := K)) (by rfl) m_sorted (by decide +kernel) (pa_cons (pv 3) pa_nil))))))), ?_⟩
    walk_at "ev"
    refine ⟨n1, n60, fun l H1 s1 nl hl => ?_⟩
    walk_at "ev"
    refine ⟨szl (by show 0 ≤ 100000; decide), fun f nf => ?_⟩
    walk_at "ev"
    refine ⟨szl (by show 5 ≤ 100000; decide), fun d nd => ?_⟩
    obtain ⟨tx, htx⟩ := hT.lst
    have hlt : l ≠ t := fun z => by rw [z, htx] at nl; cases nl
    have nfH : H f = none := s1.free nf
    have hft : f ≠ t := fun z => by rw [z, htx] at nfH; cases nfH
    have hlf : l ≠ f := fun z => by rw [← z, hl] at nf; cases nf
    have sf := same_new (o := .lst []) nf
    have hf0 : upd H1 f (.lst []) f = some (.lst []) := upd_same
    have hl0 := sf _ _ hl
    generalize upd H1 f (.lst []) = H2 at sf hf0 hl0 nd ⊢
    have sd := same_new (o := .lst [.int 0, .int 2, .int 6, .int 7, .int 8]) nd
    have hd0 : upd H2 d (.lst [.int 0, .int 2, .int 6, .int 7, .int 8]) d = some (.lst [.int 0, .int 2, .int 6, .int 7, .int 8]) := upd_same
    have hdt : d ≠ t := fun z => by
      have := (s1.trans sf) _ _ htx
      rw [← z, nd] at this; cases this
    generalize upd H2 d (.lst [.int 0, .int 2, .int 6, .int 7, .int 8]) = H3 at sd hd0 ⊢
    have s3 := (s1.trans sf).trans sd
    walk_at "ev"
    refine ⟨hT.mono s3, by decide, by decide, fun r H4 r0 r1 b4 t4 => ?_⟩
    obtain ⟨pt, hpt, _⟩ := at_int (ns := [0, 2, 6, 7, 8]) r0 r1
    have hd4 : H4 d = some (.lst (([0, 2, 6, 7, 8] : List Int).map V.int)) := (b4 d hdt).trans hd0
    refine r_ixL (sql hd4) hpt ?_
    walk_at "ev"
    have x4 : SameX t H H4 := (SameX.of s3).trans (SameX.ofBut b4)
    have hl4 : H4 l = some (.lst ((endsL n).map V.int)) := (b4 l hlt).trans (sd _ _ hl0)
    have hf4 : H4 f = some (.lst []) := (b4 f hft).trans (sd _ _ hf0)
    refine r_while (fun m σ H' => ∃ lf xs L y1 y2, m = lf.length ∧ σ = [some (.ref t), some (.int n), some (.ref l), some (.ref f), some (.int pt), y1, y2] ∧ SameX t H H' ∧ Tap H' t ∧ H' l = some (.lst (lf.map V.int)) ∧ H' f = some (.lst xs) ∧ Prs H' xs L ∧ Mk n lf L) _ ⟨_, [], [], none, none, rfl, rfl, x4, t4, hl4, hf4, .nil, Mk.start n⟩ ?_
    rintro m σ H5 ⟨lf, xs, L, y1, y2, rfl, rfl, x5, t5, hl5, hf5, hp5, mk5⟩
    have hlen := mk5.len n1 n60
    walk_at "ev"
    refine ite2 (fun c => r_whT ?_) (fun c => ?_)
    · have c1 : (1 : Int) < (lf.map V.int).length := of_decide_eq_true c
      rw [List.length_map] at c1
      walk_at "ev"
      refine ⟨tyL hl5, ?_⟩
      walk_at "ev"
      refine ⟨t5, by rw [List.length_map]; omega, by rw [List.length_map]; omega, fun r H6 r0 r1 b6 t6 => ?_⟩
      rw [List.length_map] at r1
      have hl6 := (b6 l hlt).trans hl5
      obtain ⟨one, ho1, ho2⟩ := get_ints (ns := lf) (k := r.toNat) (by omega)
      walk_at "ev"
      refine r_pop hl6 r0 (by rw [List.length_map]; exact r1) (by omega) ho1 ?_
      rw [map_eraseI]
      walk_at "ev"
      have hl7 : upd H6 l (.lst ((lf.eraseIdx r.toNat).map V.int)) l = some (.lst ((lf.eraseIdx r.toNat).map V.int)) := upd_same
      have b7 : But l H6 (upd H6 l (.lst ((lf.eraseIdx r.toNat).map V.int))) := but_upd
      generalize upd H6 l (.lst ((lf.eraseIdx r.toNat).map V.int)) = H7 at hl7 b7 ⊢
      have t7 : Tap H7 t := by obtain ⟨a, b, c', e, r⟩ := t6; exact ⟨a, b, c', (b7 t hlt.symm).trans e, r⟩
      have x7 : SameX t H H7 := fun b o nb e => by
        rw [b7 b (ne_of_none e nl)]
        exact (x5.trans (SameX.ofBut b6)) b o nb e
      have hf7 : H7 f = some (.lst xs) := (b7 f hlf.symm).trans ((b6 f hft).trans hf5)
      have hp7 : Prs H7 xs L := ((SameX.ofBut b6).prs (t5.lst.choose_spec) (fun _ z => nomatch z) hp5).but b7 hl6 (fun _ z => nomatch z)
      have hlen7 : (lf.eraseIdx r.toNat).length + 1 = lf.length := by rw [List.length_eraseIdx_of_lt (by omega)]; omega
      refine ⟨tyL hl7, ?_⟩
      walk_at "ev"
      refine ⟨t7, by rw [List.length_map]; omega, by rw [List.length_map]; omega, fun q H8 q0 q1 b8 t8 => ?_⟩
      rw [List.length_map] at q1
      have hl8 := (b8 l hlt).trans hl7
      obtain ⟨other, hq1, hq2⟩ := get_ints (ns := lf.eraseIdx r.toNat) (k := q.toNat) (by omega)
      walk_at "ev"
      refine r_pop hl8 q0 (by rw [List.length_map]; exact q1) (by omega) hq1 ?_
      rw [map_eraseI]
      have hl9 : upd H8 l (.lst (((lf.eraseIdx r.toNat).eraseIdx q.toNat).map V.int)) l = some (.lst (((lf.eraseIdx r.toNat).eraseIdx q.toNat).map V.int)) := upd_same
      have b9 : But l H8 (upd H8 l (.lst (((lf.eraseIdx r.toNat).eraseIdx q.toNat).map V.int))) := but_upd
      generalize upd H8 l (.lst (((lf.eraseIdx r.toNat).eraseIdx q.toNat).map V.int)) = H9 at hl9 b9 ⊢
      have t9 : Tap H9 t := by obtain ⟨a, b, c', e, r⟩ := t8; exact ⟨a, b, c', (b9 t hlt.symm).trans e, r⟩
      have x9 : SameX t H H9 := fun b o nb e => by
        rw [b9 b (ne_of_none e nl)]
        exact (x7.trans (SameX.ofBut b8)) b o nb e
      have hf9 : H9 f = some (.lst xs) := (b9 f hlf.symm).trans ((b8 f hft).trans hf7)
      have hp9 : Prs H9 xs L := ((SameX.ofBut b8).prs (t7.lst.choose_spec) (fun _ z => nomatch z) hp7).but b9 hl8 (fun _ z => nomatch z)
      obtain ⟨mk9, mk9'⟩ := mk5.drop ho2 hq2
      have hlt9 : ((lf.eraseIdx r.toNat).eraseIdx q.toNat).length < lf.length := by
        have := List.length_eraseIdx_le (lf.eraseIdx r.toNat) q.toNat
        omega
      walk_at "ev"
      refine ⟨t9, by decide, by decide, fun u Ha u0 u1 ba ta => ?_⟩
      have hla := (ba l hlt).trans hl9
      have hfa := (ba f hft).trans hf9
      have hpa : Prs Ha xs L := (SameX.ofBut ba).prs (t9.lst.choose_spec) (fun _ z => nomatch z) hp9
      have xa := x9.trans (SameX.ofBut ba)
      walk_at "ev"
      refine ite2 (fun _ => ?_) (fun _ => ?_)
      · walk_at "ev"
        refine ⟨tyL hfa, ?_⟩
        walk_at "ev"
        intro p Hb sb np hp
        have hfb := sb _ _ hfa
        have hzb : xs.length < sizeLine := szs (by rw [pair_len hpa]; omega)
        walk_at "ev"
        refine r_app hfb hzb ?_
        refine ⟨_, hlt9, _, _, _, _, _, rfl, rfl, SameX.set (xa.trans (SameX.of sb)) nfH, ?_, (but_upd l hlf).trans (sb _ _ hla), upd_same, ?_, mk9'⟩
        · obtain ⟨a, b, c', e, r⟩ := ta
          exact ⟨a, b, c', (but_upd t hft.symm).trans (sb _ _ e), r⟩
        · exact Prs.but but_upd hfb (fun _ z => nomatch z) (pair_app (hpa.mono sb) (.cons ⟨p, rfl, hp⟩ .nil))
      · walk_at "ev"
        exact ⟨_, hlt9, _, _, _, _, _, rfl, rfl, xa, ta, hla, hfa, hpa, mk9⟩
    · walk_at "ev"
      refine r_sortedP (sql hf5) hp5 (nd_of_flat (List.nodup_append.mp mk5.nd).2.1) fun ys M p pm asc hM np => ?_
      have hpn : H p = none := by
        cases z : H p with
        | none => rfl
        | some o =>
          by_cases zt : p = t
          · subst zt
            obtain ⟨a, b, c', e, r⟩ := t5
            rw [np] at e; cases e
          · rw [x5 p o zt z] at np; cases np
      exact q p _ M ys (mk5.lay n1 n60 pm asc) (x5.trans (SameX.of (same_new np))) (t5.mono (same_new np)) hpn upd_same (hM.mono (same_new np))
end
end K02
namespace K02
open PySem PySem.Spec PyProof.Rows L2 Vf
section
variable {P : Program} {w : World} {K : PySem.W.Frag} {mg : Str → Option Value} {base : Heap}
theorem ok__law_many {f : Addr} {fd : FuncData} (F : Fun K "_law_many" "_law_many" s__law_many f fd) (m_range : mg "range" = none) : FnOk P w K mg base CX0 1 f fd ["pieces"] (sp__law_many K) := by
  refine F.ok sc__law_many (fun vs H Q E h => ?_) (fun cdv A outer s H vs Q E hr h => ?_)
  · obtain ⟨_, rfl, _⟩ := h
    rfl
  · have hu := hu_of hr
    obtain ⟨n, rfl, n1, n2, q⟩ := h
    refine ⟨_, (pss_cons (ps_asg (pe_tup (pa_cons pe_int (pa_cons pe_int pa_nil))) (pg_tup rfl (pgs_cons (pg_name (i := 1) sc__law_many.nd rfl (Or.inl rfl)) (pgs_cons (pg_name (i := 2) sc__law_many.nd rfl (Or.inl rfl)) pgs_nil))))
        (pss_cons (ps_for PassesOwn.never rfl (pi_range1 (by rfl) m_range (pa_cons (pe_op op_add (pv 0) pe_int) pa_nil)) (pg_name (i := 3) sc__law_many.nd rfl (Or.inl rfl))
          (pss_cons (ps_set (i := 1) sc__law_many.nd rfl (Or.inl rfl) (pe_op op_add (pv 1) (pv 2)))
        (pss_cons (ps_set (i := 4) sc__law_many.nd rfl (Or.inl rfl) (pe_op op_sub (pe_op op_mul pe_int (pv 0)) (pe_op op_mul pe_int (pv 3))))
        (pss_one (ps_set (i := 2) sc__law_many.nd rfl (Or.inl rfl) (pe_op op_fdivN (pe_op op_fdivN (pe_op op_mul (pe_op op_mul (pv 2) (pv 4)) (pe_op op_sub (pv 4) pe_int)) pe_int) (pe_op op_add (pv 3) pe_int)))))))
        (pss_one (ps_ret (pv 1))))), ?_⟩
    walk_at "ev"
    refine ⟨szl (by show 2 ≤ 100000; decide), fun t nt => ?_⟩
    refine r_gtup (sqt upd_same) rfl ?_
    walk_at "ev"
    refine ⟨by omega, by omega, ?_⟩
    refine r_forS seq_range (fun d σ H' => ∃ y z, σ = [some (.int n), some (.int (d.foldl (manyF n) (0, 1)).1), some (.int (d.foldl (manyF n) (0, 1)).2), y, z] ∧ Same H H') ⟨_, _, rfl, same_new nt⟩ (fun _ _ _ _ => trivial) ?_ ?_
    · rintro d k r v σ H1 e rfl ⟨y, z, rfl, sm⟩
      have hk : 0 ≤ k ∧ k < 0 + ((n + 1).toNat : Int) := mem_rng.mp (by rw [e]; simp)
      walk_at "ev"
      refine ⟨some (.int k), some (.int (2 * n - 2 * k)), ?_, sm⟩
      rw [List.foldl_append]
      rfl
    · rintro σ H1 ⟨y, z, rfl, sm⟩
      walk_at "ev"
      exact q _ sm
end
end K02
namespace K02
open PySem PySem.Spec PyProof.Rows L2 Vf
section
variable {P : Program} {w : World} {K : PySem.W.Frag} {mg : Str → Option Value} {base : Heap}
theorem ok__law_right {f : Addr} {fd : FuncData} (F : Fun K "_law_right" "_law_right" s__law_right f fd) (D__law_layout : Def P w K mg base 2 "_law_layout" ["tap", "pieces"] (sp__law_layout K)) (D__law_ends : Def P w K mg base 1 "_law_ends" ["pieces"] (sp__law_ends K)) (D__law_draw : Def P w K mg base 1 "_law_draw" ["tap", "bound"] (sp__law_draw K)) (D__law_partners : Def P w K mg base 1 "_law_partners" ["layout"] (sp__law_partners K)) (D_open_ends : Def P w K mg base 6 "open_ends" ["pieces", "layout"] (sp_open_ends K)) (D_partners_of : Def P w K mg base 6 "partners_of" ["pieces", "layout"] (sp_partners_of K)) (D_partner_of : Def P w K mg base 6 "partner_of" ["pieces", "layout", "end"] (sp_partner_of K)) (D_count_layouts : Def P w K mg base 3 "count_layouts" ["pieces"] (sp_count_layouts K)) (D__law_many : Def P w K mg base 1 "_law_many" ["pieces"] (sp__law_many K)) (m_range : mg "range" = none) (m_list : mg "list" = none) (m_repr : mg "repr" = none) : FnG P w K mg base CX0 7 f fd ["tap"] (sp__law_right K) := by
  refine okG0 F sc__law_right (fun vs H Q E h => ?_) (fun cdv A outer s H vs Q E hr hgd h => ?_)
  · obtain ⟨_, rfl, _⟩ := h
    rfl
  · have hu := hu_of hr
    obtain ⟨t, rfl, hT, q⟩ := h
    refine ⟨_, (pss_cons (ps_set (i := 1) sc__law_right.nd rfl (Or.inr rfl) (pe_op op_add pe_int (pe_def D__law_draw (hr.mono (by decide)) (pa_cons (pv 0) (pa_cons (pe_ix (ixL (K := K)) (pe_lst (pa_cons pe_int (pa_cons pe_int pa_nil))) (pe_def D__law_draw (hr.mono (by decide)) (pa_cons (pv 0) (pa_cons pe_int pa_nil))) (fun _ _ => rfl)) pa_nil)))))
        (pss_cons (ps_set (i := 2) sc__law_right.nd rfl (Or.inl rfl) (pe_def D__law_layout (hr.mono (by decide)) (pa_cons (pv 0) (pa_cons (pv 1) pa_nil))))
        (pss_cons (ps_asg (pe_tup (pa_cons (pe_callTy (listK (K := K)) (by rfl) m_list (by decide +kernel) (pa_cons (pv 2) pa_nil)) (pa_cons (pe_def D__law_partners (hr.mono (by decide)) (pa_cons (pv 2) pa_nil)) pa_nil))) (pg_tup rfl (pgs_cons (pg_name (i := 3) sc__law_right.nd rfl (Or.inr rfl)) (pgs_cons (pg_name (i := 4) sc__law_right.nd rfl (Or.inr rfl)) pgs_nil))))
        (pss_cons (ps_set (i := 5) sc__law_right.nd rfl (Or.inl rfl) (pe_def D__law_ends (hr.mono (by decide)) (pa_cons (pv 1) pa_nil)))
        (pss_cons (ps_set (i := 6) sc__law_right.nd rfl (Or.inl rfl) (pe_lst (pa_cons (pe_lc (own := [("end", 9)]) rfl sc__law_right.nd (pi_list (pv 5)) (blkOk_by (own := [("end", 9)]) (N := N__law_right) (sc := defScope s__law_right) (by decide +kernel)) (fun _ _ _ _ _ => (pg_name (i := 9) sc__law_right.nd rfl (Or.inl rfl))) (fun _ _ _ _ _ => pts_one (pt_cmp (pc_dnotin hu (pv 9) (pv 4)))) (fun _ _ _ _ _ => (pv 9))) (pa_cons (pe_lc (own := [("end", 9)]) rfl sc__law_right.nd (pi_list (pv 5)) (blkOk_by (own := [("end", 9)]) (N := N__law_right) (sc := defScope s__law_right) (by decide +kernel)) (fun _ _ _ _ _ => (pg_name (i := 9) sc__law_right.nd rfl (Or.inl rfl))) (fun _ _ _ _ _ => pts_nil) (fun _ _ _ _ _ => (pe_dget2 hu (pv 4) (pv 9) pe_int ⟨rfl, rfl, rfl, rfl⟩))) pa_nil))))
        (pss_cons (ps_for PassesOwn.never rfl (pi_range1 (by rfl) m_range (pa_cons pe_int pa_nil)) (pg_name (i := 7) sc__law_right.nd rfl (Or.inl rfl))
          (pss_cons (ps_set (i := 8) sc__law_right.nd rfl (Or.inl rfl) (pe_lst (pa_cons (pe_def D_open_ends (hr.mono (by decide)) (pa_cons (pv 1) (pa_cons (pv 3) pa_nil))) (pa_cons (pe_def D_partners_of (hr.mono (by decide)) (pa_cons (pv 1) (pa_cons (pv 3) pa_nil))) pa_nil))))
        (pss_cons (ps_if (PW.pt (pw_or (pt_cmpR op_ne (pe_callB (reprK (K := K) hgd hr) (by rfl) m_repr (by decide +kernel) (pa_cons (pv 8) pa_nil)) (pe_callB (reprK (K := K) hgd hr) (by rfl) m_repr (by decide +kernel) (pa_cons (pv 6) pa_nil)) (nomark _)) (pw_or1 (pt_cmpR (neD (K := K) hr.units) (pv 3) (pv 2) (nomark _))))) (pss_one (ps_ret pe_bl)) pss_nil)
        (pss_cons (ps_expr (pe_bm PySem.F.plainAttrs_list PySem.F.slot_list_append PySem.F.type_list_append mt_append (pe_ix (ixL (K := K)) (pv 8) pe_int (fun _ _ => rfl)) (pa_cons pe_int pa_nil)))
        (pss_one (ps_expr (pe_bm0 PySem.F.plainAttrs_list PySem.F.slot_list_clear PySem.F.type_list_clear mt_clear (pe_ix (ixL (K := K)) (pv 8) pe_int (fun _ _ => rfl)))))))))
        (pss_cons (ps_if (pt_cmpR op_ne (pe_callB (reprK (K := K) hgd hr) (by rfl) m_repr (by decide +kernel) (pa_cons (pe_lc (own := [("end", 9)]) rfl sc__law_right.nd (pi_list (pv 5)) (blkOk_by (own := [("end", 9)]) (N := N__law_right) (sc := defScope s__law_right) (by decide +kernel)) (fun _ _ _ _ _ => (pg_name (i := 9) sc__law_right.nd rfl (Or.inl rfl))) (fun _ _ _ _ _ => pts_nil) (fun _ _ _ _ _ => (pe_def D_partner_of (hr.mono (by decide)) (pa_cons (pv 1) (pa_cons (pv 3) (pa_cons (pv 9) pa_nil)))))) pa_nil)) (pe_callB (reprK (K := K) hgd hr) (by rfl) m_repr (by decide +kernel) (pa_cons (pe_lc (own := [("end", 9)]) rfl sc__law_right.nd (pi_list (pv 5)) (blkOk_by (own := [("end", 9)]) (N := N__law_right) (sc := defScope s__law_right) (by decide +kernel)) (fun _ _ _ _ _ => (pg_name (i := 9) sc__law_right.nd rfl (Or.inl rfl))) (fun _ _ _ _ _ => pts_nil) (fun _ _ _ _ _ => (pe_dget1 hu (pv 4) (pv 9) ⟨rfl, rfl, rfl, rfl⟩))) pa_nil)) (nomark _)) (pss_one (ps_ret pe_bl)) pss_nil)
        (pss_one (ps_ret (pe_and (pe_cmpR op_eq (pe_callB SkE.call_repr_int (by rfl) m_repr (by decide +kernel) (pa_cons (pe_def D_count_layouts (hr.mono (by decide)) (pa_cons (pv 1) pa_nil)) pa_nil)) (pe_callB SkE.call_repr_int (by rfl) m_repr (by decide +kernel) (pa_cons (pe_def D__law_many (hr.mono (by decide)) (pa_cons (pv 1) pa_nil)) pa_nil)) (nomark _)) (pe_one (pe_cmpR (eqD (K := K) hr.units) (pv 3) (pv 2) (nomark _))))))))))))), ?_⟩
    walk_at "ev"
    refine ⟨szl (by show 2 ≤ 100000; decide), fun p0 np0 => ?_⟩
    have s1 := same_new (o := .lst [.int 5, .int 60]) np0
    have hp0 : upd H p0 (.lst [.int 5, .int 60]) p0 = some (.lst (([5, 60] : List Int).map V.int)) := upd_same
    generalize upd H p0 (.lst [.int 5, .int 60]) = H1 at s1 hp0 ⊢
    obtain ⟨tx, htx⟩ := hT.lst
    have hp0t : p0 ≠ t := fun z => by rw [z, htx] at np0; cases np0
    walk_at "ev"
    refine ⟨hT.mono s1, by decide, by decide, fun r H2 r0 r1 b2 t2 => ?_⟩
    have hp2 := (b2 p0 hp0t).trans hp0
    obtain ⟨v, hv, hv2⟩ := at_int (ns := [5, 60]) r0 r1
    have hv3 : v = 5 ∨ v = 60 := by simpa using List.mem_of_getElem? hv2
    refine r_ixL (sql hp2) hv ?_
    walk_at "ev"
    refine ⟨t2, by omega, by omega, fun r' H3 r0' r1' b3 t3 => ?_⟩
    have x3 : SameX t H H3 := ((SameX.of s1).trans (SameX.ofBut b2)).trans (SameX.ofBut b3)
    generalize hn : 1 + r' = n
    have n1 : 1 ≤ n := by omega
    have n60 : n ≤ 60 := by omega
    walk_at "ev"
    rw [hn]
    refine ⟨t3, n1, n60, fun a H4 L xs hL x4 t4 na ha hp => ?_⟩
    have x4' := x3.trans x4
    walk_at "ev"
    intro g ng
    have s5 := same_new (o := .lst xs) ng
    have hg : upd H4 g (.lst xs) g = some (.lst xs) := upd_same
    generalize upd H4 g (.lst xs) = H5 at s5 hg ⊢
    walk_at "ev"
    refine ⟨a, xs, L, n, rfl, s5.seq (sql ha), hp.mono s5, hL, fun d H6 s6 nd hd => ?_⟩
    walk_at "ev"
    refine ⟨szl (by show 2 ≤ 100000; decide), fun tu ntu => ?_⟩
    refine r_gtup (sqt upd_same) rfl ?_
    have s7 := same_new (o := .tup [.ref g, .ref d]) ntu
    generalize upd H6 tu (.tup [.ref g, .ref d]) = H7 at s7 ⊢
    walk_at "ev"
    refine ⟨n1, n60, fun e H8 s8 ne he => ?_⟩
    have hle := endsL_len (n := n) (by omega)
    have hd8 := s8 _ _ (s7 _ _ hd)
    walk_at "ev"
    refine ⟨⟨_, sql he⟩, fun D nD => ?_⟩
    refine r_lcP (seq_list (rel := fun v (i : Int) => v = .int i) (pair_map fun _ _ => rfl)) (fun e => !(parI L e).isSome) V.int (by omega) nD (fun _ s => s.seq (sql he)) ?_ ?_
    · intro z v H9 acc _ hv s9 ha9 hz N h1 h2
      subst hv
      walk_at "ev"
      refine ⟨_, _, rfl, DGet.k (k := .inl z) (s9 _ _ hd8), ?_⟩
      rw [tab_get, Option.isSome_map]
      walk_at "ev"
      refine ite2 (fun hb => ?_) (fun hb => ?_)
      · walk_at "ev"
        exact ⟨acc, ha9, hz, h1 hb⟩
      · exact h2 (Bool.eq_false_iff.mpr hb)
    show tCons _ _ _ _ _
    have s9 := same_new (o := .lst ((opensL n L).map V.int)) nD
    have hD : upd H8 D (.lst ((opensL n L).map V.int)) D = some (.lst ((opensL n L).map V.int)) := upd_same
    change tCons _ _ _ (upd H8 D (.lst ((opensL n L).map V.int))) _
    generalize upd H8 D (.lst ((opensL n L).map V.int)) = H9 at s9 hD ⊢
    walk_at "ev"
    have hd9 := s9 _ _ hd8
    have he9 := s9 _ _ he
    refine ⟨⟨_, sql he9⟩, fun D2 nD2 => ?_⟩
    refine r_lcP (seq_list (rel := fun v (i : Int) => v = .int i) (pair_map fun _ _ => rfl)) (fun _ => true) (fun e => .int ((parI L e).getD 0)) (by omega) nD2 (fun _ s => s.seq (sql he9)) ?_ ?_
    · intro z v Ha acc _ hv sa haa hz N h1 h2
      subst hv
      walk_at "ev"
      refine ⟨.inl ⟨_, .inl (sa _ _ hd9)⟩, ?_⟩
      walk_at "ev"
      refine ⟨_, DGet.k (k := .inl z) (sa _ _ hd9), ?_⟩
      rw [tab_get]
      refine ⟨acc, haa, hz, ?_⟩
      have := h1 rfl
      cases h : parI L z with
      | none => rw [h] at this; exact this
      | some z => rw [h] at this; exact this
    rw [List.filter_eq_self.mpr (fun _ _ => rfl)]
    have sa := same_new (o := .lst ((endsL n).map fun e => .int ((parI L e).getD 0))) nD2
    have hD2 : upd H9 D2 (.lst ((endsL n).map fun e => .int ((parI L e).getD 0))) D2 = some (.lst ((partsL n L).map V.int)) := by
      unfold partsL
      rw [List.map_map]
      exact upd_same
    generalize upd H9 D2 (.lst ((endsL n).map fun e => .int ((parI L e).getD 0))) = Ha at sa hD2 ⊢
    walk_at "ev"
    refine ⟨szl (by show 2 ≤ 100000; decide), fun u nu => ?_⟩
    have sb := same_new (o := .lst [.ref D, .ref D2]) nu
    have hu' : upd Ha u (.lst [.ref D, .ref D2]) u = some (.lst [.ref D, .ref D2]) := upd_same
    generalize upd Ha u (.lst [.ref D, .ref D2]) = B at sb hu' ⊢
    have hDB := sb _ _ (sa _ _ hD)
    have hD2B := sb _ _ hD2
    have s9B := s9.trans (sa.trans sb)
    have heB := s9B _ _ he
    have hdB := s9B _ _ hd8
    have s5B := s6.trans (s7.trans (s8.trans s9B))
    have hgB := s5B _ _ hg
    have haB := (s5.trans s5B) _ _ ha
    have hpB : Prs B xs L := hp.mono (s5.trans s5B)
    have xB : SameX t H B := x4'.trans (SameX.of (s5.trans s5B))
    have smO : ∀ i ∈ opensL n L, i.natAbs < 10 ^ 12 := fun i hi => by
      have := mem_endsL.mp (List.mem_filter.mp hi).1
      omega
    have smP : ∀ i ∈ partsL n L, i.natAbs < 10 ^ 12 := fun i hi => by
      obtain ⟨z, _, rfl⟩ := List.mem_map.mp hi
      cases h : parI L z with
      | none => show (0 : Int).natAbs < 10 ^ 12; decide
      | some j => have := par_mem hL h; show j.natAbs < 10 ^ 12; omega
    have lenO : (opensL n L).length ≤ 121 := Nat.le_trans (List.length_filter_le _ _) (by omega)
    have lenP : (partsL n L).length ≤ 121 := by unfold partsL; rw [List.length_map]; omega
    have smD : Sm 4000 3 (.list [dI (opensL n L), dI (partsL n L)]) := (Sm.lst (N := 1818) (k := 2) (ds := [dI (opensL n L), dI (partsL n L)]) fun x hx => by
      rcases List.mem_cons.mp hx with rfl | hx
      · exact sm_ints smO lenO
      · rw [List.mem_singleton.mp hx]; exact sm_ints smP lenP).mono (by show (1818 + 2) * 2 + 3 ≤ 4000; omega) (by omega)
    walk_at "ev"
    refine ⟨by decide, by decide, ?_⟩
    refine r_forS seq_range (fun _ σ H' => ∃ y7 y8 y9, σ = [some (.ref t), some (.int n), some (.ref a), some (.ref g), some (.ref d), some (.ref e), some (.ref u), y7, y8, y9] ∧ Same B H') ⟨_, _, _, rfl, Same.refl B⟩ (fun _ _ _ _ => trivial) ?_ ?_
    · rintro dn k r v σ Hc ec rfl ⟨y7, y8, y9, rfl, sc⟩
      walk_at "ev"
      refine ⟨n, g, xs, L, rfl, sc _ _ hgB, hpB.mono sc, hL, fun o1 Hd sd no1 ho1 => ?_⟩
      walk_at "ev"
      have scd := sc.trans sd
      refine ⟨n, g, xs, L, rfl, scd _ _ hgB, hpB.mono scd, hL, fun o2 He se no2 ho2 => ?_⟩
      walk_at "ev"
      refine ⟨szl (by show 2 ≤ 100000; decide), fun td ntd => ?_⟩
      have sf := same_new (o := .lst [.ref o1, .ref o2]) ntd
      have htd : upd He td (.lst [.ref o1, .ref o2]) td = some (.lst [.ref o1, .ref o2]) := upd_same
      generalize upd He td (.lst [.ref o1, .ref o2]) = Hf at sf htd ⊢
      have ho1f := sf _ _ (se _ _ ho1)
      have ho2f := sf _ _ ho2
      have sBf := scd.trans (se.trans sf)
      walk_at "ev"
      have dTold : Dp K Hf (.ref td) (.list [dI (opensL n L), dI (partsL n L)]) := .lst (sql htd) (.cons (dp_ints (sql ho1f)) (.cons (dp_ints (sql ho2f)) .nil))
      have dDue : Dp K Hf (.ref u) (.list [dI (opensL n L), dI (partsL n L)]) := .lst (sql (sBf _ _ hu')) (.cons (dp_ints (sql (sBf _ _ hDB))) (.cons (dp_ints (sql (sBf _ _ hD2B))) .nil))
      refine smD.rep (by omega) (by omega) dTold ?_
      walk_at "ev"
      refine smD.rep (by omega) (by omega) dDue ?_
      walk_at "ev"
      refine r_neD (dp_lay (sql (sBf _ _ hgB)) (hpB.mono sBf)) (dp_lay (sql (sBf _ _ haB)) (hpB.mono sBf)) hL.small (by omega) ?_
      walk_at "ev"
      refine ⟨tyL ho1f, ?_⟩
      walk_at "ev"
      refine r_app ho1f (by rw [List.length_map]; exact szs (by omega)) ?_
      walk_at "ev"
      have n1d : td ≠ o1 := (ne_of_none (se _ _ ho1) ntd).symm
      have n2d : td ≠ o2 := (ne_of_none ho2 ntd).symm
      have n12 : o2 ≠ o1 := (ne_of_none ho1 no2).symm
      refine r_ixL (sql ((upd_ne n1d).trans htd)) rfl ?_
      have ho2g : upd Hf o1 (.lst ((opensL n L).map V.int ++ [.int 0])) o2 = some (.lst ((partsL n L).map V.int)) := (upd_ne n12).trans ho2f
      refine ⟨tyL ho2g, r_clear ho2g ?_⟩
      exact ⟨_, _, _, rfl, Vf.Same.set (Vf.Same.set sBf (sc.free no1)) (scd.free no2)⟩
    · rintro σ Hc ⟨y7, y8, y9, rfl, sc⟩
      walk_at "ev"
      refine ⟨⟨_, sql (sc _ _ heB)⟩, fun C nC => ?_⟩
      have nCB := sc.free nC
      refine r_lcS (seq_list (rel := fun v (i : Int) => v = .int i) (L := endsL n) (pair_map fun _ _ => rfl)) (fun dn H' => Same Hc H' ∧ H' C = some (.lst ((dn.map (parI L)).map vO))) ⟨same_new nC, upd_same⟩ (fun dn H' h => h.1.seq (sql (sc _ _ heB))) ?_ ?_
      · rintro dn k r v He ee hv ⟨se, hC⟩
        subst hv
        walk_at "ev"
        have seB := sc.trans se
        refine ⟨n, g, k, xs, L, rfl, seB _ _ hgB, hpB.mono seB, hL, by rw [ee]; simp, fun Hf sf => ?_⟩
        have hCf := sf _ _ hC
        have hz : ((dn.map (parI L)).map vO).length < sizeLine := by
          rw [List.length_map, List.length_map]
          have : (endsL n).length = dn.length + (r.length + 1) := by rw [ee, List.length_append, List.length_cons]
          exact szs (by omega)
        refine ⟨_, hCf, hz, Vf.Same.set (se.trans sf) nC, ?_⟩
        rw [upd_same, List.map_append, List.map_append]
        rfl
      · rintro Hd ⟨sd, hC⟩
        have scd := sc.trans sd
        have heD := scd _ _ heB
        have hdD := scd _ _ hdB
        have hOs : ((endsL n).map (parI L)).length ≤ 121 := by rw [List.length_map]; omega
        have smS : Sm 1818 2 (.list (((endsL n).map (parI L)).map dO)) := sm_opts (fun i hi => by
          obtain ⟨z, _, h⟩ := List.mem_map.mp hi
          have := par_mem hL h
          omega) hOs
        walk_at "ev"
        refine smS.rep (by omega) (by omega) (.lst (sql hC) (dpa_opts _)) ?_
        walk_at "ev"
        refine ⟨⟨_, sql heD⟩, fun C2 nC2 => ?_⟩
        refine r_lcP (seq_list (rel := fun v (i : Int) => v = .int i) (pair_map fun _ _ => rfl)) (fun _ => true) (fun e => vO (parI L e)) (by omega) nC2 (fun _ s => s.seq (sql heD)) ?_ ?_
        · intro z v Hf acc _ hv sf haf hz N h1 h2
          subst hv
          walk_at "ev"
          refine ⟨.inl ⟨_, .inl (sf _ _ hdD)⟩, ?_⟩
          walk_at "ev"
          refine ⟨_, DGet.k (k := .inl z) (sf _ _ hdD), ?_⟩
          rw [tab_get]
          exact ⟨acc, haf, hz, h1 rfl⟩
        rw [List.filter_eq_self.mpr (fun _ _ => rfl)]
        have sf := same_new (o := .lst ((endsL n).map fun e => vO (parI L e))) nC2
        have hC2 : upd Hd C2 (.lst ((endsL n).map fun e => vO (parI L e))) C2 = some (.lst (((endsL n).map (parI L)).map vO)) := by
          rw [List.map_map]
          exact upd_same
        generalize upd Hd C2 (.lst ((endsL n).map fun e => vO (parI L e))) = Hf at sf hC2 ⊢
        walk_at "ev"
        refine smS.rep (by omega) (by omega) (.lst (sql hC2) (dpa_opts _)) ?_
        walk_at "ev"
        refine ⟨n1, n60, fun Hg sg => ?_⟩
        have hcm := cnt_eq n1 n60
        walk_at "ev"
        refine ⟨log_small hcm.2, ?_⟩
        walk_at "ev"
        refine ⟨n1, n60, fun Hh sh => ?_⟩
        walk_at "ev"
        refine ⟨log_small (hcm.1 ▸ hcm.2), ?_⟩
        rw [hcm.1]
        walk_at "ev"
        have sAll := scd.trans (sf.trans (sg.trans sh))
        refine r_eqD (dp_lay (sql (sAll _ _ hgB)) (hpB.mono sAll)) (dp_lay (sql (sAll _ _ haB)) (hpB.mono sAll)) hL.small (by omega) ?_
        exact q _ (xB.trans (SameX.of sAll))
end
end K02
namespace K02
open PySem PySem.Spec PyProof.Rows L2 Vf
section
variable {P : Program} {w : World} {K : PySem.W.Frag} {mg : Str → Option Value} {base : Heap}
theorem ok_law {f : Addr} {fd : FuncData} (F : Fun K "law" "law" s_law f fd) (D__law_cells : Def P w K mg base 1 "_law_cells" ["script", "many"] (sp__law_cells K)) (D_count_layouts : Def P w K mg base 3 "count_layouts" ["pieces"] (sp_count_layouts K)) (D__law_many : Def P w K mg base 1 "_law_many" ["pieces"] (sp__law_many K)) (D__law_right : DefG P w K mg base 7 "_law_right" ["tap"] (sp__law_right K)) (D__law_tap : Def P w K mg base 1 "_law_tap" ["cell", "turn"] (sp__law_tap K)) (m_range : mg "range" = none) (m_len : mg "len" = none) : FnG P w K mg base CX0 8 f fd ["script"] (sp_law K) := by
  refine okG0 F sc_law (fun vs H Q E h => ?_) (fun cdv A outer s H vs Q E hr hgd h => ?_)
  · obtain ⟨_, _, rfl, _⟩ := h
    rfl
  · have hu := hu_of hr
    obtain ⟨a, ns, rfl, hS, hl, q⟩ := h
    refine ⟨_, (pss_cons (ps_set (i := 1) sc_law.nd rfl (Or.inr rfl) (pe_def D__law_cells (hr.mono (by decide)) (pa_cons (pv 0) (pa_cons pe_int pa_nil))))
        (pss_cons (ps_if (pt_cmpR (neD (K := K) hr.units) (pe_lc (own := [("k", 2)]) rfl sc_law.nd (pi_range1 (by rfl) m_range (pa_cons (pe_callB (lenK (K := K)) (by rfl) m_len (by decide +kernel) (pa_cons (pv 1) pa_nil)) pa_nil)) (blkOk_by (own := [("k", 2)]) (N := N_law) (sc := defScope s_law) (by decide +kernel)) (fun _ _ _ _ _ => (pg_name (i := 2) sc_law.nd rfl (Or.inl rfl))) (fun _ _ _ _ _ => pts_one (pt_not (pt_val (pe_defG D__law_right (hr.mono (by decide)) hgd (pa_cons (pe_def D__law_tap (hr.mono (by decide)) (pa_cons (pe_ix (ixL (K := K)) (pv 1) (pv 2) (fun _ _ => rfl)) (pa_cons (pv 2) pa_nil))) pa_nil))))) (fun _ _ _ _ _ => (pv 2))) (pe_lst pa_nil) (nomark _)) (pss_one (ps_ret pe_bl)) pss_nil)
        (pss_one (ps_ret (pe_cmpR (eqD (K := K) hr.units) (pe_lst (pa_cons (pe_def D_count_layouts (hr.mono (by decide)) (pa_cons pe_int pa_nil)) (pa_cons (pe_def D_count_layouts (hr.mono (by decide)) (pa_cons pe_int pa_nil)) (pa_cons (pe_def D_count_layouts (hr.mono (by decide)) (pa_cons pe_int pa_nil)) (pa_cons (pe_def D_count_layouts (hr.mono (by decide)) (pa_cons pe_int pa_nil)) pa_nil))))) (pe_lst (pa_cons pe_int (pa_cons pe_int (pa_cons pe_int (pa_cons (pe_def D__law_many (hr.mono (by decide)) (pa_cons pe_int pa_nil)) pa_nil))))) (nomark _)))))), ?_⟩
    walk_at "ev"
    refine ⟨a, ns, 6, rfl, hS, hl, by decide, by decide, fun c H1 cs s1 nc hc hcl => ?_⟩
    walk_at "ev"
    rw [List.length_map]
    refine ⟨by omega, by omega, fun D nD => ?_⟩
    refine r_lcS seq_range (fun d H' => Same H1 H' ∧ H' D = some (.lst [])) ⟨same_new nD, upd_same⟩ (fun _ _ _ => trivial) ?_ ?_
    · rintro d k r v H2 e rfl ⟨s2, h2⟩
      have hk : 0 ≤ k ∧ k < 0 + (((cs.length : Int)).toNat : Int) := mem_rng.mp (by rw [e]; simp)
      obtain ⟨x, hx, _⟩ := at_int (ns := cs) (r := k) hk.1 (by omega)
      walk_at "ev"
      refine r_ixL (sql (s2 _ _ hc)) hx ?_
      walk_at "ev"
      refine ⟨hk.1, by omega, fun p H3 s3 np tp => ?_⟩
      walk_at "ev"
      refine ⟨tp, fun H4 x4 => ?_⟩
      walk_at "ev"
      refine ⟨x4.same (s2.trans s3) (s2.free np), x4 _ _ (ne_of_none h2 np) (s3 _ _ h2)⟩
    · rintro H2 ⟨s2, h2⟩
      walk_at "ev"
      refine ⟨szl (by show 0 ≤ 100000; decide), fun z nz => ?_⟩
      refine r_neI1 (ns := []) (dp_ints (sql (same_new nz _ _ h2))) (dp_ints (sql upd_same)) ?_
      walk_at "ev"
      refine ⟨by decide, by decide, fun H3 s3 => ?_⟩
      walk_at "ev"
      refine ⟨by decide, by decide, fun H4 s4 => ?_⟩
      walk_at "ev"
      refine ⟨by decide, by decide, fun H5 s5 => ?_⟩
      walk_at "ev"
      refine ⟨by decide, by decide, fun H6 s6 => ?_⟩
      walk_at "ev"
      refine ⟨szl (by show 4 ≤ 100000; decide), fun y ny => ?_⟩
      walk_at "ev"
      refine ⟨by decide, by decide, fun H7 s7 => ?_⟩
      walk_at "ev"
      refine ⟨szl (by show 4 ≤ 100000; decide), fun w nw => ?_⟩
      have e1 : cntL 1 = 2 := by decide +kernel
      have e2 : cntL 2 = 10 := by decide +kernel
      have e3 : cntL 3 = 76 := by decide +kernel
      have e4 := (cnt_eq (n := 60) (by decide) (by decide)).1
      refine r_eqI1 (ns := [2, 10, 76, manyL 60]) (dp_ints (sql ?_)) (dp_ints (sql upd_same)) (q _)
      rw [← e4, ← e1, ← e2, ← e3]
      exact same_new nw _ _ (s7 _ _ upd_same)
end
end K02
namespace K02
open PySem PySem.Spec PyProof.Rows L2 Vf
theorem all_mk {l : PySem.W.OpenLaw} {w : World} {K : PySem.W.Frag} {h : Heap} {mg : Str → Option Value} {fa : Addr} (X : K.In h) (G : h.Ns mainGlobals mg) (hfa : mg "law" = some (.ref fa))
    {f0 : Addr} {od0 an0 : Option Addr} {sl0 : Array (Option Value)} {oc0 kV0 dc0 pm0 cd0 ct0 : Value}
    (a0 : PySem.W.nsIn K mainGlobals "is_integer" = some (some (.ref f0))) (l0 : K.lookup f0 = some ⟨oc0, od0, .func (PySem.W.fnOf "is_integer" "is_integer" (defArgs s_is_integer) (defBody s_is_integer) (defScope s_is_integer) .none kV0 dc0 pm0 an0 cd0 ct0), sl0⟩) (c0 : PySem.W.codeIn K cd0 "is_integer" = true) (k0 : PySem.W.keepIn K (.ref f0) = true)
    {f1 : Addr} {od1 an1 : Option Addr} {sl1 : Array (Option Value)} {oc1 kV1 dc1 pm1 cd1 ct1 : Value}
    (a1 : PySem.W.nsIn K mainGlobals "is_end" = some (some (.ref f1))) (l1 : K.lookup f1 = some ⟨oc1, od1, .func (PySem.W.fnOf "is_end" "is_end" (defArgs s_is_end) (defBody s_is_end) (defScope s_is_end) .none kV1 dc1 pm1 an1 cd1 ct1), sl1⟩) (c1 : PySem.W.codeIn K cd1 "is_end" = true) (k1 : PySem.W.keepIn K (.ref f1) = true)
    {f2 : Addr} {od2 an2 : Option Addr} {sl2 : Array (Option Value)} {oc2 kV2 dc2 pm2 cd2 ct2 : Value}
    (a2 : PySem.W.nsIn K mainGlobals "is_coupling" = some (some (.ref f2))) (l2 : K.lookup f2 = some ⟨oc2, od2, .func (PySem.W.fnOf "is_coupling" "is_coupling" (defArgs s_is_coupling) (defBody s_is_coupling) (defScope s_is_coupling) .none kV2 dc2 pm2 an2 cd2 ct2), sl2⟩) (c2 : PySem.W.codeIn K cd2 "is_coupling" = true) (k2 : PySem.W.keepIn K (.ref f2) = true)
    {f3 : Addr} {od3 an3 : Option Addr} {sl3 : Array (Option Value)} {oc3 kV3 dc3 pm3 cd3 ct3 : Value}
    (a3 : PySem.W.nsIn K mainGlobals "all_ends" = some (some (.ref f3))) (l3 : K.lookup f3 = some ⟨oc3, od3, .func (PySem.W.fnOf "all_ends" "all_ends" (defArgs s_all_ends) (defBody s_all_ends) (defScope s_all_ends) .none kV3 dc3 pm3 an3 cd3 ct3), sl3⟩) (c3 : PySem.W.codeIn K cd3 "all_ends" = true) (k3 : PySem.W.keepIn K (.ref f3) = true)
    {f4 : Addr} {od4 an4 : Option Addr} {sl4 : Array (Option Value)} {oc4 kV4 dc4 pm4 cd4 ct4 : Value}
    (a4 : PySem.W.nsIn K mainGlobals "partner_table" = some (some (.ref f4))) (l4 : K.lookup f4 = some ⟨oc4, od4, .func (PySem.W.fnOf "partner_table" "partner_table" (defArgs s_partner_table) (defBody s_partner_table) (defScope s_partner_table) .none kV4 dc4 pm4 an4 cd4 ct4), sl4⟩) (c4 : PySem.W.codeIn K cd4 "partner_table" = true) (k4 : PySem.W.keepIn K (.ref f4) = true)
    {f5 : Addr} {od5 an5 : Option Addr} {sl5 : Array (Option Value)} {oc5 kV5 dc5 pm5 cd5 ct5 : Value}
    (a5 : PySem.W.nsIn K mainGlobals "first_wrong_coupling" = some (some (.ref f5))) (l5 : K.lookup f5 = some ⟨oc5, od5, .func (PySem.W.fnOf "first_wrong_coupling" "first_wrong_coupling" (defArgs s_first_wrong_coupling) (defBody s_first_wrong_coupling) (defScope s_first_wrong_coupling) .none kV5 dc5 pm5 an5 cd5 ct5), sl5⟩) (c5 : PySem.W.codeIn K cd5 "first_wrong_coupling" = true) (k5 : PySem.W.keepIn K (.ref f5) = true)
    {f6 : Addr} {od6 an6 : Option Addr} {sl6 : Array (Option Value)} {oc6 kV6 dc6 pm6 cd6 ct6 : Value}
    (a6 : PySem.W.nsIn K mainGlobals "check_pieces" = some (some (.ref f6))) (l6 : K.lookup f6 = some ⟨oc6, od6, .func (PySem.W.fnOf "check_pieces" "check_pieces" (defArgs s_check_pieces) (defBody s_check_pieces) (defScope s_check_pieces) .none kV6 dc6 pm6 an6 cd6 ct6), sl6⟩) (c6 : PySem.W.codeIn K cd6 "check_pieces" = true) (k6 : PySem.W.keepIn K (.ref f6) = true)
    {f7 : Addr} {od7 an7 : Option Addr} {sl7 : Array (Option Value)} {oc7 kV7 dc7 pm7 cd7 ct7 : Value}
    (a7 : PySem.W.nsIn K mainGlobals "check_layout" = some (some (.ref f7))) (l7 : K.lookup f7 = some ⟨oc7, od7, .func (PySem.W.fnOf "check_layout" "check_layout" (defArgs s_check_layout) (defBody s_check_layout) (defScope s_check_layout) .none kV7 dc7 pm7 an7 cd7 ct7), sl7⟩) (c7 : PySem.W.codeIn K cd7 "check_layout" = true) (k7 : PySem.W.keepIn K (.ref f7) = true)
    {f8 : Addr} {od8 an8 : Option Addr} {sl8 : Array (Option Value)} {oc8 kV8 dc8 pm8 cd8 ct8 : Value}
    (a8 : PySem.W.nsIn K mainGlobals "check_end" = some (some (.ref f8))) (l8 : K.lookup f8 = some ⟨oc8, od8, .func (PySem.W.fnOf "check_end" "check_end" (defArgs s_check_end) (defBody s_check_end) (defScope s_check_end) .none kV8 dc8 pm8 an8 cd8 ct8), sl8⟩) (c8 : PySem.W.codeIn K cd8 "check_end" = true) (k8 : PySem.W.keepIn K (.ref f8) = true)
    {f9 : Addr} {od9 an9 : Option Addr} {sl9 : Array (Option Value)} {oc9 kV9 dc9 pm9 cd9 ct9 : Value}
    (a9 : PySem.W.nsIn K mainGlobals "count_layouts" = some (some (.ref f9))) (l9 : K.lookup f9 = some ⟨oc9, od9, .func (PySem.W.fnOf "count_layouts" "count_layouts" (defArgs s_count_layouts) (defBody s_count_layouts) (defScope s_count_layouts) .none kV9 dc9 pm9 an9 cd9 ct9), sl9⟩) (c9 : PySem.W.codeIn K cd9 "count_layouts" = true) (k9 : PySem.W.keepIn K (.ref f9) = true)
    {f10 : Addr} {od10 an10 : Option Addr} {sl10 : Array (Option Value)} {oc10 kV10 dc10 pm10 cd10 ct10 : Value}
    (a10 : PySem.W.nsIn K mainGlobals "open_ends" = some (some (.ref f10))) (l10 : K.lookup f10 = some ⟨oc10, od10, .func (PySem.W.fnOf "open_ends" "open_ends" (defArgs s_open_ends) (defBody s_open_ends) (defScope s_open_ends) .none kV10 dc10 pm10 an10 cd10 ct10), sl10⟩) (c10 : PySem.W.codeIn K cd10 "open_ends" = true) (k10 : PySem.W.keepIn K (.ref f10) = true)
    {f11 : Addr} {od11 an11 : Option Addr} {sl11 : Array (Option Value)} {oc11 kV11 dc11 pm11 cd11 ct11 : Value}
    (a11 : PySem.W.nsIn K mainGlobals "partner_of" = some (some (.ref f11))) (l11 : K.lookup f11 = some ⟨oc11, od11, .func (PySem.W.fnOf "partner_of" "partner_of" (defArgs s_partner_of) (defBody s_partner_of) (defScope s_partner_of) .none kV11 dc11 pm11 an11 cd11 ct11), sl11⟩) (c11 : PySem.W.codeIn K cd11 "partner_of" = true) (k11 : PySem.W.keepIn K (.ref f11) = true)
    {f12 : Addr} {od12 an12 : Option Addr} {sl12 : Array (Option Value)} {oc12 kV12 dc12 pm12 cd12 ct12 : Value}
    (a12 : PySem.W.nsIn K mainGlobals "partners_of" = some (some (.ref f12))) (l12 : K.lookup f12 = some ⟨oc12, od12, .func (PySem.W.fnOf "partners_of" "partners_of" (defArgs s_partners_of) (defBody s_partners_of) (defScope s_partners_of) .none kV12 dc12 pm12 an12 cd12 ct12), sl12⟩) (c12 : PySem.W.codeIn K cd12 "partners_of" = true) (k12 : PySem.W.keepIn K (.ref f12) = true)
    {f13 : Addr} {od13 an13 : Option Addr} {sl13 : Array (Option Value)} {oc13 kV13 dc13 pm13 cd13 ct13 : Value}
    (a13 : PySem.W.nsIn K mainGlobals "_law_tap" = some (some (.ref f13))) (l13 : K.lookup f13 = some ⟨oc13, od13, .func (PySem.W.fnOf "_law_tap" "_law_tap" (defArgs s__law_tap) (defBody s__law_tap) (defScope s__law_tap) .none kV13 dc13 pm13 an13 cd13 ct13), sl13⟩) (c13 : PySem.W.codeIn K cd13 "_law_tap" = true) (k13 : PySem.W.keepIn K (.ref f13) = true)
    {f14 : Addr} {od14 an14 : Option Addr} {sl14 : Array (Option Value)} {oc14 kV14 dc14 pm14 cd14 ct14 : Value}
    (a14 : PySem.W.nsIn K mainGlobals "_law_draw" = some (some (.ref f14))) (l14 : K.lookup f14 = some ⟨oc14, od14, .func (PySem.W.fnOf "_law_draw" "_law_draw" (defArgs s__law_draw) (defBody s__law_draw) (defScope s__law_draw) .none kV14 dc14 pm14 an14 cd14 ct14), sl14⟩) (c14 : PySem.W.codeIn K cd14 "_law_draw" = true) (k14 : PySem.W.keepIn K (.ref f14) = true)
    {f15 : Addr} {od15 an15 : Option Addr} {sl15 : Array (Option Value)} {oc15 kV15 dc15 pm15 cd15 ct15 : Value}
    (a15 : PySem.W.nsIn K mainGlobals "_law_cells" = some (some (.ref f15))) (l15 : K.lookup f15 = some ⟨oc15, od15, .func (PySem.W.fnOf "_law_cells" "_law_cells" (defArgs s__law_cells) (defBody s__law_cells) (defScope s__law_cells) .none kV15 dc15 pm15 an15 cd15 ct15), sl15⟩) (c15 : PySem.W.codeIn K cd15 "_law_cells" = true) (k15 : PySem.W.keepIn K (.ref f15) = true)
    {f16 : Addr} {od16 an16 : Option Addr} {sl16 : Array (Option Value)} {oc16 kV16 dc16 pm16 cd16 ct16 : Value}
    (a16 : PySem.W.nsIn K mainGlobals "_law_ends" = some (some (.ref f16))) (l16 : K.lookup f16 = some ⟨oc16, od16, .func (PySem.W.fnOf "_law_ends" "_law_ends" (defArgs s__law_ends) (defBody s__law_ends) (defScope s__law_ends) .none kV16 dc16 pm16 an16 cd16 ct16), sl16⟩) (c16 : PySem.W.codeIn K cd16 "_law_ends" = true) (k16 : PySem.W.keepIn K (.ref f16) = true)
    {f17 : Addr} {od17 an17 : Option Addr} {sl17 : Array (Option Value)} {oc17 kV17 dc17 pm17 cd17 ct17 : Value}
    (a17 : PySem.W.nsIn K mainGlobals "_law_pair" = some (some (.ref f17))) (l17 : K.lookup f17 = some ⟨oc17, od17, .func (PySem.W.fnOf "_law_pair" "_law_pair" (defArgs s__law_pair) (defBody s__law_pair) (defScope s__law_pair) .none kV17 dc17 pm17 an17 cd17 ct17), sl17⟩) (c17 : PySem.W.codeIn K cd17 "_law_pair" = true) (k17 : PySem.W.keepIn K (.ref f17) = true)
    {f18 : Addr} {od18 an18 : Option Addr} {sl18 : Array (Option Value)} {oc18 kV18 dc18 pm18 cd18 ct18 : Value}
    (a18 : PySem.W.nsIn K mainGlobals "_law_partners" = some (some (.ref f18))) (l18 : K.lookup f18 = some ⟨oc18, od18, .func (PySem.W.fnOf "_law_partners" "_law_partners" (defArgs s__law_partners) (defBody s__law_partners) (defScope s__law_partners) .none kV18 dc18 pm18 an18 cd18 ct18), sl18⟩) (c18 : PySem.W.codeIn K cd18 "_law_partners" = true) (k18 : PySem.W.keepIn K (.ref f18) = true)
    {f19 : Addr} {od19 an19 : Option Addr} {sl19 : Array (Option Value)} {oc19 kV19 dc19 pm19 cd19 ct19 : Value}
    (a19 : PySem.W.nsIn K mainGlobals "_law_layout" = some (some (.ref f19))) (l19 : K.lookup f19 = some ⟨oc19, od19, .func (PySem.W.fnOf "_law_layout" "_law_layout" (defArgs s__law_layout) (defBody s__law_layout) (defScope s__law_layout) .none kV19 dc19 pm19 an19 cd19 ct19), sl19⟩) (c19 : PySem.W.codeIn K cd19 "_law_layout" = true) (k19 : PySem.W.keepIn K (.ref f19) = true)
    {f20 : Addr} {od20 an20 : Option Addr} {sl20 : Array (Option Value)} {oc20 kV20 dc20 pm20 cd20 ct20 : Value}
    (a20 : PySem.W.nsIn K mainGlobals "_law_many" = some (some (.ref f20))) (l20 : K.lookup f20 = some ⟨oc20, od20, .func (PySem.W.fnOf "_law_many" "_law_many" (defArgs s__law_many) (defBody s__law_many) (defScope s__law_many) .none kV20 dc20 pm20 an20 cd20 ct20), sl20⟩) (c20 : PySem.W.codeIn K cd20 "_law_many" = true) (k20 : PySem.W.keepIn K (.ref f20) = true)
    {f21 : Addr} {od21 an21 : Option Addr} {sl21 : Array (Option Value)} {oc21 kV21 dc21 pm21 cd21 ct21 : Value}
    (a21 : PySem.W.nsIn K mainGlobals "_law_right" = some (some (.ref f21))) (l21 : K.lookup f21 = some ⟨oc21, od21, .func (PySem.W.fnOf "_law_right" "_law_right" (defArgs s__law_right) (defBody s__law_right) (defScope s__law_right) .none kV21 dc21 pm21 an21 cd21 ct21), sl21⟩) (c21 : PySem.W.codeIn K cd21 "_law_right" = true) (k21 : PySem.W.keepIn K (.ref f21) = true)
    {f22 : Addr} {od22 an22 : Option Addr} {sl22 : Array (Option Value)} {oc22 kV22 dc22 pm22 cd22 ct22 : Value}
    (a22 : PySem.W.nsIn K mainGlobals "law" = some (some (.ref f22))) (l22 : K.lookup f22 = some ⟨oc22, od22, .func (PySem.W.fnOf "law" "law" (defArgs s_law) (defBody s_law) (defScope s_law) .none kV22 dc22 pm22 an22 cd22 ct22), sl22⟩) (c22 : PySem.W.codeIn K cd22 "law" = true) (k22 : PySem.W.keepIn K (.ref f22) = true)
    (z_isinstance : PySem.W.nsIn K mainGlobals "isinstance" = some none)
    (z_int : PySem.W.nsIn K mainGlobals "int" = some none)
    (z_bool : PySem.W.nsIn K mainGlobals "bool" = some none)
    (z_tuple : PySem.W.nsIn K mainGlobals "tuple" = some none)
    (z_type : PySem.W.nsIn K mainGlobals "type" = some none)
    (z_len : PySem.W.nsIn K mainGlobals "len" = some none)
    (z_range : PySem.W.nsIn K mainGlobals "range" = some none)
    (z_set : PySem.W.nsIn K mainGlobals "set" = some none)
    (z_enumerate : PySem.W.nsIn K mainGlobals "enumerate" = some none)
    (z_list : PySem.W.nsIn K mainGlobals "list" = some none)
    (z_abs : PySem.W.nsIn K mainGlobals "abs" = some none)
    (z_max : PySem.W.nsIn K mainGlobals "max" = some none)
    (z_min : PySem.W.nsIn K mainGlobals "min" = some none)
    (z_sorted : PySem.W.nsIn K mainGlobals "sorted" = some none)
    (z_repr : PySem.W.nsIn K mainGlobals "repr" = some none)
    {t_MOST_PIECES : Tok} (y_MOST_PIECES : PySem.W.nsIn K mainGlobals "MOST_PIECES" = some (some (.int 60 t_MOST_PIECES))) :
    ∃ fd : FuncData, (∀ (s : Shared) (v : Value), BindsTo s fd ⟨[v], []⟩ [("script", v)]) ∧ ∀ base : Heap, K.In base → base.Ns mainGlobals mg → FnG l.prog w K mg base CX0 8 fa fd ["script"] (sp_law K) := by
  have e := hfa.symm.trans (PySem.W.mg_of X G a22)
  cases e
  have m_isinstance := PySem.W.mg_none_of X G z_isinstance
  have m_int := PySem.W.mg_none_of X G z_int
  have m_bool := PySem.W.mg_none_of X G z_bool
  have m_tuple := PySem.W.mg_none_of X G z_tuple
  have m_type := PySem.W.mg_none_of X G z_type
  have m_len := PySem.W.mg_none_of X G z_len
  have m_range := PySem.W.mg_none_of X G z_range
  have m_set := PySem.W.mg_none_of X G z_set
  have m_enumerate := PySem.W.mg_none_of X G z_enumerate
  have m_list := PySem.W.mg_none_of X G z_list
  have m_abs := PySem.W.mg_none_of X G z_abs
  have m_max := PySem.W.mg_none_of X G z_max
  have m_min := PySem.W.mg_none_of X G z_min
  have m_sorted := PySem.W.mg_none_of X G z_sorted
  have m_repr := PySem.W.mg_none_of X G z_repr
  have g_MOST_PIECES := PySem.W.mg_of X G y_MOST_PIECES
  have F0 := fun_mk (st := s_is_integer) l0 c0 k0
  have F1 := fun_mk (st := s_is_end) l1 c1 k1
  have F2 := fun_mk (st := s_is_coupling) l2 c2 k2
  have F3 := fun_mk (st := s_all_ends) l3 c3 k3
  have F4 := fun_mk (st := s_partner_table) l4 c4 k4
  have F5 := fun_mk (st := s_first_wrong_coupling) l5 c5 k5
  have F6 := fun_mk (st := s_check_pieces) l6 c6 k6
  have F7 := fun_mk (st := s_check_layout) l7 c7 k7
  have F8 := fun_mk (st := s_check_end) l8 c8 k8
  have F9 := fun_mk (st := s_count_layouts) l9 c9 k9
  have F10 := fun_mk (st := s_open_ends) l10 c10 k10
  have F11 := fun_mk (st := s_partner_of) l11 c11 k11
  have F12 := fun_mk (st := s_partners_of) l12 c12 k12
  have F13 := fun_mk (st := s__law_tap) l13 c13 k13
  have F14 := fun_mk (st := s__law_draw) l14 c14 k14
  have F15 := fun_mk (st := s__law_cells) l15 c15 k15
  have F16 := fun_mk (st := s__law_ends) l16 c16 k16
  have F17 := fun_mk (st := s__law_pair) l17 c17 k17
  have F18 := fun_mk (st := s__law_partners) l18 c18 k18
  have F19 := fun_mk (st := s__law_layout) l19 c19 k19
  have F20 := fun_mk (st := s__law_many) l20 c20 k20
  have F21 := fun_mk (st := s__law_right) l21 c21 k21
  have F22 := fun_mk (st := s_law) l22 c22 k22
  refine ⟨PySem.W.fnOf "law" "law" (defArgs s_law) (defBody s_law) (defScope s_law) .none kV22 dc22 pm22 an22 cd22 ct22, fun s v => .of_eq rfl, fun base _ _ => ?_⟩
  have D_is_integer : Def l.prog w K mg base 1 "is_integer" ["value"] (sp_is_integer K) := ⟨f0, _, ok_is_integer F0 m_isinstance m_int m_bool, F0.kp, F0.binds (ps := ["value"]) fun _ _ _ _ _ _ us hl => match us, hl with | [_], _ => rfl, PySem.W.mg_of X G a0⟩
  have D_is_end : Def l.prog w K mg base 2 "is_end" ["pieces", "value"] (sp_is_end K) := ⟨f1, _, ok_is_end F1 D_is_integer, F1.kp, F1.binds (ps := ["pieces", "value"]) fun _ _ _ _ _ _ us hl => match us, hl with | [_, _], _ => rfl, PySem.W.mg_of X G a1⟩
  have D_is_coupling : Def l.prog w K mg base 3 "is_coupling" ["pieces", "value"] (sp_is_coupling K) := ⟨f2, _, ok_is_coupling F2 D_is_end m_tuple m_type m_len, F2.kp, F2.binds (ps := ["pieces", "value"]) fun _ _ _ _ _ _ us hl => match us, hl with | [_, _], _ => rfl, PySem.W.mg_of X G a2⟩
  have D_all_ends : Def l.prog w K mg base 1 "all_ends" ["pieces"] (sp_all_ends K) := ⟨f3, _, ok_all_ends F3 m_range, F3.kp, F3.binds (ps := ["pieces"]) fun _ _ _ _ _ _ us hl => match us, hl with | [_], _ => rfl, PySem.W.mg_of X G a3⟩
  have D_partner_table : Def l.prog w K mg base 1 "partner_table" ["layout"] (sp_partner_table K) := ⟨f4, _, ok_partner_table F4 , F4.kp, F4.binds (ps := ["layout"]) fun _ _ _ _ _ _ us hl => match us, hl with | [_], _ => rfl, PySem.W.mg_of X G a4⟩
  have D_first_wrong_coupling : Def l.prog w K mg base 4 "first_wrong_coupling" ["pieces", "items"] (sp_first_wrong_coupling K) := ⟨f5, _, ok_first_wrong_coupling F5 D_is_coupling m_set m_enumerate, F5.kp, F5.binds (ps := ["pieces", "items"]) fun _ _ _ _ _ _ us hl => match us, hl with | [_, _], _ => rfl, PySem.W.mg_of X G a5⟩
  have D_check_pieces : Def l.prog w K mg base 2 "check_pieces" ["pieces"] (sp_check_pieces K) := ⟨f6, _, ok_check_pieces F6 D_is_integer g_MOST_PIECES, F6.kp, F6.binds (ps := ["pieces"]) fun _ _ _ _ _ _ us hl => match us, hl with | [_], _ => rfl, PySem.W.mg_of X G a6⟩
  have D_check_layout : Def l.prog w K mg base 5 "check_layout" ["pieces", "layout"] (sp_check_layout K) := ⟨f7, _, ok_check_layout F7 D_first_wrong_coupling m_list m_type, F7.kp, F7.binds (ps := ["pieces", "layout"]) fun _ _ _ _ _ _ us hl => match us, hl with | [_, _], _ => rfl, PySem.W.mg_of X G a7⟩
  have D_check_end : Def l.prog w K mg base 3 "check_end" ["pieces", "end"] (sp_check_end K) := ⟨f8, _, ok_check_end F8 D_is_end, F8.kp, F8.binds (ps := ["pieces", "end"]) fun _ _ _ _ _ _ us hl => match us, hl with | [_, _], _ => rfl, PySem.W.mg_of X G a8⟩
  have D_count_layouts : Def l.prog w K mg base 3 "count_layouts" ["pieces"] (sp_count_layouts K) := ⟨f9, _, ok_count_layouts F9 D_check_pieces m_range, F9.kp, F9.binds (ps := ["pieces"]) fun _ _ _ _ _ _ us hl => match us, hl with | [_], _ => rfl, PySem.W.mg_of X G a9⟩
  have D_open_ends : Def l.prog w K mg base 6 "open_ends" ["pieces", "layout"] (sp_open_ends K) := ⟨f10, _, ok_open_ends F10 D_check_pieces D_check_layout D_partner_table D_all_ends, F10.kp, F10.binds (ps := ["pieces", "layout"]) fun _ _ _ _ _ _ us hl => match us, hl with | [_, _], _ => rfl, PySem.W.mg_of X G a10⟩
  have D_partner_of : Def l.prog w K mg base 6 "partner_of" ["pieces", "layout", "end"] (sp_partner_of K) := ⟨f11, _, ok_partner_of F11 D_check_pieces D_check_layout D_check_end D_partner_table, F11.kp, F11.binds (ps := ["pieces", "layout", "end"]) fun _ _ _ _ _ _ us hl => match us, hl with | [_, _, _], _ => rfl, PySem.W.mg_of X G a11⟩
  have D_partners_of : Def l.prog w K mg base 6 "partners_of" ["pieces", "layout"] (sp_partners_of K) := ⟨f12, _, ok_partners_of F12 D_check_pieces D_check_layout D_partner_table D_all_ends, F12.kp, F12.binds (ps := ["pieces", "layout"]) fun _ _ _ _ _ _ us hl => match us, hl with | [_, _], _ => rfl, PySem.W.mg_of X G a12⟩
  have D__law_tap : Def l.prog w K mg base 1 "_law_tap" ["cell", "turn"] (sp__law_tap K) := ⟨f13, _, ok__law_tap F13 m_int m_abs, F13.kp, F13.binds (ps := ["cell", "turn"]) fun _ _ _ _ _ _ us hl => match us, hl with | [_, _], _ => rfl, PySem.W.mg_of X G a13⟩
  have D__law_draw : Def l.prog w K mg base 1 "_law_draw" ["tap", "bound"] (sp__law_draw K) := ⟨f14, _, ok__law_draw F14 m_int, F14.kp, F14.binds (ps := ["tap", "bound"]) fun _ _ _ _ _ _ us hl => match us, hl with | [_, _], _ => rfl, PySem.W.mg_of X G a14⟩
  have D__law_cells : Def l.prog w K mg base 1 "_law_cells" ["script", "many"] (sp__law_cells K) := ⟨f15, _, ok__law_cells F15 m_max m_min m_len, F15.kp, F15.binds (ps := ["script", "many"]) fun _ _ _ _ _ _ us hl => match us, hl with | [_, _], _ => rfl, PySem.W.mg_of X G a15⟩
  have D__law_ends : Def l.prog w K mg base 1 "_law_ends" ["pieces"] (sp__law_ends K) := ⟨f16, _, ok__law_ends F16 m_range, F16.kp, F16.binds (ps := ["pieces"]) fun _ _ _ _ _ _ us hl => match us, hl with | [_], _ => rfl, PySem.W.mg_of X G a16⟩
  have D__law_pair : Def l.prog w K mg base 1 "_law_pair" ["one", "other"] (sp__law_pair K) := ⟨f17, _, ok__law_pair F17 m_min m_max, F17.kp, F17.binds (ps := ["one", "other"]) fun _ _ _ _ _ _ us hl => match us, hl with | [_, _], _ => rfl, PySem.W.mg_of X G a17⟩
  have D__law_partners : Def l.prog w K mg base 1 "_law_partners" ["layout"] (sp__law_partners K) := ⟨f18, _, ok__law_partners F18 , F18.kp, F18.binds (ps := ["layout"]) fun _ _ _ _ _ _ us hl => match us, hl with | [_], _ => rfl, PySem.W.mg_of X G a18⟩
  have D__law_layout : Def l.prog w K mg base 2 "_law_layout" ["tap", "pieces"] (sp__law_layout K) := ⟨f19, _, ok__law_layout F19 D__law_ends D__law_draw D__law_pair m_sorted m_len, F19.kp, F19.binds (ps := ["tap", "pieces"]) fun _ _ _ _ _ _ us hl => match us, hl with | [_, _], _ => rfl, PySem.W.mg_of X G a19⟩
  have D__law_many : Def l.prog w K mg base 1 "_law_many" ["pieces"] (sp__law_many K) := ⟨f20, _, ok__law_many F20 m_range, F20.kp, F20.binds (ps := ["pieces"]) fun _ _ _ _ _ _ us hl => match us, hl with | [_], _ => rfl, PySem.W.mg_of X G a20⟩
  have D__law_right : DefG l.prog w K mg base 7 "_law_right" ["tap"] (sp__law_right K) := ⟨f21, _, ok__law_right F21 D__law_layout D__law_ends D__law_draw D__law_partners D_open_ends D_partners_of D_partner_of D_count_layouts D__law_many m_range m_list m_repr, F21.kp, F21.binds (ps := ["tap"]) fun _ _ _ _ _ _ us hl => match us, hl with | [_], _ => rfl, PySem.W.mg_of X G a21⟩
  exact ok_law F22 D__law_cells D_count_layouts D__law_many D__law_right D__law_tap m_range m_len
end K02
open PySem PySem.W PyProof.Rows
set_option maxHeartbeats 0 in
theorem PySem.Challenge.cw_crosshitch_k02_ends_and_partners_holds : PySem.Challenge.rw_crosshitch_k02_ends_and_partners.Holds := by
  w_on; o_law; k_head; (case hw => w_witness2)
  k_fill
  refine Vf.walk_ofG (l := PySem.Challenge.rw_crosshitch_k02_ends_and_partners) (n := 63) (k := 8) (x := "script") (sp := fun w => K02.sp_law _) rfl (by decide) rfl ⟨rfl, by decide, by decide⟩ (fun w h Y => PySem.W.kIn_of Y) ?F (fun _ _ a ns hl hS => ⟨a, ns, rfl, hS, hl, fun _ => rfl⟩)
  case F =>
    intro w mg fa h KX G hmg
    refine' K02.all_mk KX G hmg ?a0 ?l0 ?c0 ?k0 ?a1 ?l1 ?c1 ?k1 ?a2 ?l2 ?c2 ?k2 ?a3 ?l3 ?c3 ?k3 ?a4 ?l4 ?c4 ?k4 ?a5 ?l5 ?c5 ?k5 ?a6 ?l6 ?c6 ?k6 ?a7 ?l7 ?c7 ?k7 ?a8 ?l8 ?c8 ?k8 ?a9 ?l9 ?c9 ?k9 ?a10 ?l10 ?c10 ?k10 ?a11 ?l11 ?c11 ?k11 ?a12 ?l12 ?c12 ?k12 ?a13 ?l13 ?c13 ?k13 ?a14 ?l14 ?c14 ?k14 ?a15 ?l15 ?c15 ?k15 ?a16 ?l16 ?c16 ?k16 ?a17 ?l17 ?c17 ?k17 ?a18 ?l18 ?c18 ?k18 ?a19 ?l19 ?c19 ?k19 ?a20 ?l20 ?c20 ?k20 ?a21 ?l21 ?c21 ?k21 ?a22 ?l22 ?c22 ?k22 ?z_isinstance ?z_int ?z_bool ?z_tuple ?z_type ?z_len ?z_range ?z_set ?z_enumerate ?z_list ?z_abs ?z_max ?z_min ?z_sorted ?z_repr ?y_MOST_PIECES
    (case a0 => k_is); (case l0 => k_is); (case c0 => k_is); (case k0 => k_is); (case a1 => k_is); (case l1 => k_is); (case c1 => k_is); (case k1 => k_is); (case a2 => k_is); (case l2 => k_is); (case c2 => k_is); (case k2 => k_is); (case a3 => k_is); (case l3 => k_is); (case c3 => k_is); (case k3 => k_is); (case a4 => k_is); (case l4 => k_is); (case c4 => k_is); (case k4 => k_is); (case a5 => k_is); (case l5 => k_is); (case c5 => k_is); (case k5 => k_is); (case a6 => k_is); (case l6 => k_is); (case c6 => k_is); (case k6 => k_is); (case a7 => k_is); (case l7 => k_is); (case c7 => k_is); (case k7 => k_is); (case a8 => k_is); (case l8 => k_is); (case c8 => k_is); (case k8 => k_is); (case a9 => k_is); (case l9 => k_is); (case c9 => k_is); (case k9 => k_is); (case a10 => k_is); (case l10 => k_is); (case c10 => k_is); (case k10 => k_is); (case a11 => k_is); (case l11 => k_is); (case c11 => k_is); (case k11 => k_is); (case a12 => k_is); (case l12 => k_is); (case c12 => k_is); (case k12 => k_is); (case a13 => k_is); (case l13 => k_is); (case c13 => k_is); (case k13 => k_is); (case a14 => k_is); (case l14 => k_is); (case c14 => k_is); (case k14 => k_is); (case a15 => k_is); (case l15 => k_is); (case c15 => k_is); (case k15 => k_is); (case a16 => k_is); (case l16 => k_is); (case c16 => k_is); (case k16 => k_is); (case a17 => k_is); (case l17 => k_is); (case c17 => k_is); (case k17 => k_is); (case a18 => k_is); (case l18 => k_is); (case c18 => k_is); (case k18 => k_is); (case a19 => k_is); (case l19 => k_is); (case c19 => k_is); (case k19 => k_is); (case a20 => k_is); (case l20 => k_is); (case c20 => k_is); (case k20 => k_is); (case a21 => k_is); (case l21 => k_is); (case c21 => k_is); (case k21 => k_is); (case a22 => k_is); (case l22 => k_is); (case c22 => k_is); (case k22 => k_is); (case z_isinstance => k_is); (case z_int => k_is); (case z_bool => k_is); (case z_tuple => k_is); (case z_type => k_is); (case z_len => k_is); (case z_range => k_is); (case z_set => k_is); (case z_enumerate => k_is); (case z_list => k_is); (case z_abs => k_is); (case z_max => k_is); (case z_min => k_is); (case z_sorted => k_is); (case z_repr => k_is); (case y_MOST_PIECES => k_is)
