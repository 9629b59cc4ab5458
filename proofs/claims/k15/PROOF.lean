import PyProof.Rows.All
import HandS.List
import HandS.Words
import HandS.Comp
import HandS.Ends
import PyProof.ReprRoads
import HandS.ForMost
import HandS.Strs
import HandS.TupLe
import HandS.SortRule
import HandS.IsInst
import HandS.More
import PyProof.TypeEq
import PyProof.ReprLen
import PyProof.Rows.RuleB_pow
import HandS.Iter
import HandS.RaiseMore
import HandS.Nested
import HandS.ExcInit
import HandS.ExcIs
import HandS.ExcField
import HandS.ExcValue
import HandS.ClsMeth
import HandS.FStr
import KE.KSuper
import KE.KExcSuper
import KE.KExcIs
import KE.IntBitsLaws
import HandS.TryOnly
import HandS.Style
import HandS.Deep
import HandS.SortInts
import HandS.Flow
import PyProof.IsRules
import HandS.SetFor
import HandS.TupSets
import KE.SortData
import HandS.Conv
import KE.DataFind
import KE.DataMinMax
import HandS.IterVal
import HandS.Zip
import HandS.SetBool
import HandS.Set
import KE.KDictZip
import HandS.DictComp
import HandS.SetIn
import HandS.Text
import HandS.Codes
import OpenK.XHead
import PySem.Challenge.RW_crosshitch_k15_texts_of_layouts
set_option Elab.async false
set_option linter.all false
set_option maxRecDepth 100000
set_option maxHeartbeats 4000000
namespace Vf
open PySem PySem.Spec PyProof.Rows L2
/-! ### promises that know that no repr is under way -/
structure FnG (P : Program) (w : World) (K : PySem.W.Frag) (mg : Str → Option Value) (base : Heap) (CX : CXT) (k : Nat) (f : Addr) (fd : FuncData) (ps : List Str) (sp : Sp) : Prop where
  arity : ∀ vs H Q E, sp vs H Q E → vs.length = ps.length
  go : ∀ (A : Around) (outer : List Env) (s : Shared) (H : Hp) (args : Args) (us : List Value) (vs : List V) (Q : VK) (E : XK),
    Room k A → A.guards = some [] → Env0 P w K mg base A outer s H → BindsTo s fd args (ps.zip us) → Vals vs us → sp vs H Q E → codeAny (model P w) A (.call (.ref f) args) (CR CX outer P w H s Q E) s
section
variable {P : Program} {w : World} {K : PySem.W.Frag} {mg : Str → Option Value} {base : Heap} {CX : CXT} {k : Nat} {f : Addr} {fd : FuncData} {ps : List Str} {sp : Sp}
theorem FnG.of (F : FnOk P w K mg base CX k f fd ps sp) : FnG P w K mg base CX k f fd ps sp :=
  ⟨F.len, fun A o s H as us vs Q E r _ e b v q => F.run A o s H as us vs Q E r e b v q⟩
theorem FnG.mono {j : Nat} (F : FnG P w K mg base CX j f fd ps sp) (h : j ≤ k) : FnG P w K mg base CX k f fd ps sp :=
  ⟨F.arity, fun A o s H as us vs Q E r => F.go A o s H as us vs Q E (r.mono h)⟩
/-- how a body's flow ends a call -/
theorem ends_call {N : List Str} {qual : Str} {sc : Scope} {cdv : Value} {A : Around} {outer : List Env} {s s' : Shared} {H : Hp} {Q : VK} {E : XK} {fl : Flow}
    (h : SP (cxOf CX P w K mg base N qual sc f cdv A outer s H E) [] { nx := fun _ H' => Q .non H', rt := Q } fl s') : CE outer P w H s Q (match fl with | .ret v => v | _ => .none) s' := by
  match fl, h with
  | .ret u, ⟨v, _, H', J, rv, q⟩ => exact ⟨v, H', J.os, J.bare, J.base, J.hok, rv, q⟩
  | .next, ⟨_, H', J, q⟩ => exact ⟨.non, H', J.os, J.bare, J.base, J.hok, rfl, q⟩
  | .brk, ⟨_, _, _, q⟩ => exact q.elim
  | .cont, ⟨_, _, _, q⟩ => exact q.elim
theorem okG {x qual : Str} {st : Stmt} {N : List Str} {sp : Sp} (F : Fun K x qual st f fd) (S : FnScope N ps (defScope st)) (ar : ∀ vs H Q E, sp vs H Q E → vs.length = ps.length)
    (hb : ∀ (cdv : Value) (A : Around) (outer : List Env) (s : Shared) (H : Hp) (vs : List V) (Q : VK) (E : XK), Room k (A.deeper (envOfC qual (defScope st) s.heap.objs.size f cdv)) → A.guards = some [] → sp vs H Q E →
      ∃ t, PSs (cxOf CX P w K mg base N qual (defScope st) f cdv A outer s H E) (defBody st) t ∧ t { nx := fun _ H' => Q .non H', rt := Q } (start N vs) H) : FnG P w K mg base CX (k + 1) f fd ps sp := by
  obtain ⟨_, _, _, _, _, _, cdv, _, _, e, lk, hcd⟩ := F.ex
  subst e
  refine ⟨ar, fun A outer s H args us vs Q E hr hg e0 bd r q0 => ?_⟩
  have kept : ∀ b o, base.get? b = some o → s.heap.get? b = some o := fun b o z => (e0.bs b o z).1
  have inK := e0.mod.kin.keeps kept
  refine codeAny_call_function hr.depth (inK _ _ lk) rfl S.co S.gen rfl (PySem.W.codeRec_of inK hcd) (bd _ _ _ _ ?_)
  refine wpAny_newFunctionEnv_cells S.kind (fun y hy => ?_) fun env ee s1 x1 => ?_
  · rcases S.par y.1 (List.of_mem_zip (show (y.1, y.2) ∈ ps.zip us from hy)).1 with z | z
    · exact Or.inl z
    · exact Or.inr ⟨z, PySem.W.cellsFrom_some _ _ _ (Or.inl z)⟩
  · subst ee
    refine ⟨(e0.mod.nolimit.keeps kept).keeps x1.toInCall.keep, codeAny_func ?_⟩
    obtain ⟨t, T, q⟩ := hb cdv A outer s H vs Q E (hr.deeper _) hg q0
    refine wpAny_mono (T.run [] s1 _ H _ (inv_start S hr.hd e0 (ar _ _ _ _ q0) r x1) q) (fun fl s' z => ?_) fun _ _ z => z
    have z' := ends_call z
    cases fl <;> exact z'
end
theorem okG0 {P : Program} {w : World} {K : PySem.W.Frag} {mg : Str → Option Value} {base : Heap} {k : Nat} {f : Addr} {fd : FuncData} {ps : List Str} {sp : Sp} {x qual : Str} {st : Stmt} {N : List Str} (F : Fun K x qual st f fd) (S : FnScope N ps (defScope st)) (ar : ∀ vs H Q E, sp vs H Q E → vs.length = ps.length)
    (hb : ∀ (cdv : Value) (A : Around) (outer : List Env) (s : Shared) (H : Hp) (vs : List V) (Q : VK) (E : XK), Room k (A.deeper (envOfC qual (defScope st) s.heap.objs.size f cdv)) → A.guards = some [] → sp vs H Q E →
      ∃ t, PSs (cxOf CX0 P w K mg base N qual (defScope st) f cdv A outer s H E).nox (defBody st) t ∧ t { nx := fun _ H' => Q .non H', rt := Q } (start N vs) H) : FnG P w K mg base CX0 (k + 1) f fd ps sp :=
  okG F S ar fun cdv A outer s H vs Q E hr hg q0 => let ⟨t, h, q⟩ := hb cdv A outer s H vs Q E hr hg q0; ⟨t, h.nox, q⟩
section
variable {X : Cx} {CX : CXT} {k : Nat} {f : Addr} {fd : FuncData} {ps : List Str} {sp : Sp} {dvs : List V} {ds : List Value} {E : XK} {x : Str} {p pos : Pos} {e : Expr} {es : List Expr} {t : TA}
/-- a call of such a def -/
theorem pe_callG (F : FnG X.prog X.w X.K X.mg X.base CX k f fd ps sp) (hr : Room k X.A) (hgd : X.A.guards = some []) (hg : Gl X x) (hm : X.mg x = some (.ref f)) (hk : PySem.W.keepIn X.K (.ref f) = true) (hb : Binds X.K fd ps ds) (hd : Vals dvs ds) (hx : Passes CX X E)
    (ha : PA X (e :: es) t) (hdb : (x == ("__debug__" : Str)) = false := by decide) (he : starEach (e :: es) X.env = (false, eval e X.env) :: starEach es X.env := by rfl) (hpl : (backTo pos (starEach es X.env)).any (·.1) = false := by rfl) : PE X (.Call (.Name x p) (e :: es) [] pos) (tCall sp dvs E t) := by
  constructor
  intro pins s σ H Q I h
  refine wpAny_Call_Name_kw (ld_glob I hg hm (PySem.W.callWith_K (h₀ := X.base) I.ok.mod.kin hk (thn (ha.run pos pins s σ H _ I h) ?_) he hpl) hdb)
  rintro us s1 ⟨vs, H1, I1, r, q⟩
  have r2 := r.append hd
  refine ⟨I1.kIn, wpAny_call (codeAny_mono (F.go X.A X.stack s1 H1 ⟨us, []⟩ (us ++ ds) (vs ++ dvs) Q E hr hgd I1.env0 (hb s1 us I1.kIn (r2.length.symm.trans (F.arity _ _ _ _ q))) r2 q) ?_)⟩
  intro res s' z
  match res, z with
  | .error ex, z => exact hx pins σ H1 s1 ex s' I1 z
  | .ok (.ret u), z => exact I1.after z
  | .ok .next, z => exact z.elim
  | .ok .brk, z => exact z.elim
  | .ok .cont, z => exact z.elim
end
/-! ### the end -/
/-- the heap in which the script alone is known -/
def oneH (K : PySem.W.Frag) (a : Addr) (o : Obj) (xs : List V) : Hp := fun b => if b = a ∧ K.lookup a = none then some (.frz o (.lst xs)) else none
theorem oneH_some {K : PySem.W.Frag} {a b : Addr} {o : Obj} {xs : List V} {u : HO} (h : oneH K a o xs b = some u) : b = a ∧ K.lookup a = none ∧ u = .frz o (.lst xs) := by
  unfold oneH at h
  by_cases c : b = a ∧ K.lookup a = none
  · rw [if_pos c] at h
    exact ⟨c.1, c.2, (Option.some.inj h).symm⟩
  · rw [if_neg c] at h
    cases h
theorem walk_ofG {l : PySem.W.OpenLaw} {n k : Nat} {q : Program} {loose : List Str} {XP : (Str → Option Value) → Heap → Prop} {YP : World → Heap → Prop} {d : DefRec} {K : Params → PySem.W.Frag} {sp : World → Sp} {x : Str}
    (hm : l.most = some n)
    (hm2 : n ≤ sizeLine) (hdef : d.params.defaults = [])
    (hr : Room k callerA)
    (hY : ∀ (w : World) (hp : Heap), YP w hp → (K w.params).In hp)
    (F : ∀ (w : World) (mg : Str → Option Value) (fa : Addr) (hp : Heap),
      (K w.params).In hp → hp.Ns mainGlobals mg → mg d.name = some (.ref fa) →
      ∃ fd : FuncData, (∀ (s : Shared) (u : Value), BindsTo s fd ⟨[u], []⟩ [(x, u)]) ∧ ∀ base : Heap, (K w.params).In base → base.Ns mainGlobals mg → FnG l.prog w (K w.params) mg base CX0 k fa fd [x] (sp w))
    (hsp : ∀ (w : World) (H : Hp) (a : Addr) (ns : List Int), ns.length ≤ n → SqL (K w.params) H a (ns.map V.int) → sp w [.ref a] H (fun v _ => v = .bl true) E0) :
    PySem.W.WalkO q loose XP YP l.row.toRowW d []
      (fun g us => PySem.call g us) := by
  refine Att.attach_call hm hdef fun w s₀ s₁ mg mb fa o pm cd doc a vs ns G Y ho hd hcd hmg hobj hints hlen hgen => ?_
  have inK := hY w _ Y
  obtain ⟨fd, hbind, hF⟩ := F w mg fa _ inK G.T.g hmg
  have rv := vals_ints hints
  have sz : ns.length ≤ sizeLine := Nat.le_trans hlen hm2
  generalize hH : oneH (K w.params) a { cls := .type "list", data := .seq vs.toArray } (ns.map V.int) = H
  have only : ∀ {b : Addr} {u : HO}, H b = some u → b = a ∧ (K w.params).lookup a = none ∧ u = .frz { cls := .type "list", data := .seq vs.toArray } (.lst (ns.map V.int)) := fun {b u} z => oneH_some (hH ▸ z)
  have hS : SqL (K w.params) H a (ns.map V.int) := by
    cases c : (K w.params).lookup a with
    | none =>
      refine Or.inl (Or.inr ⟨{ cls := .type "list", data := .seq vs.toArray }, ?_⟩)
      rw [← hH]
      exact if_pos ⟨rfl, c⟩
    | some ob =>
      have e := (inK a ob c).symm.trans hobj
      cases e
      exact Or.inr ⟨_, vs.toArray, _, c, rfl, rfl, rfl, (by rw [List.size_toArray, hints.length]; exact sz), by simpa using rv⟩
  have hok : HOk l.prog w H s₁.heap := fun b u z => by
    obtain ⟨rfl, _, rfl⟩ := only z
    exact ⟨hobj, by rw [List.length_map]; exact sz, vs, _, rv, hobj⟩
  have free : ∀ {b : Addr} {ob : Obj}, s₁.heap.get? b = some ob → (b ≠ a ∨ (K w.params).lookup a ≠ none) → (hidT s₁.heap H).get? b = some ob := fun {b ob} e ne => hidT_get e (by
    cases z : H b with
    | none => rfl
    | some u =>
      obtain ⟨e1, e2, _⟩ := only z
      exact ne.elim (fun y => absurd e1 y) fun y => absurd e2 y)
  have dictFree : ∀ {b : Addr} {m : Str → Option Value}, s₁.heap.Ns b m → (hidT s₁.heap H).Ns b m := fun {b m} ⟨ob, es, ep, e, dt, r⟩ => ⟨ob, es, ep, free e (.inl fun z => by
    subst z
    rw [hobj] at e
    cases e
    exact nomatch (show Data.seq vs.toArray _ = Data.dict es ep from dt)), dt, r⟩
  have kb : (K w.params).In (hidT s₁.heap H) := fun b ob e => free (inK b ob e) (by
    by_cases z : b = a
    · subst z
      exact .inr (by rw [e]; exact fun y => nomatch y)
    · exact .inl z)
  obtain ⟨mc, hm1, hm2⟩ := G.T.nolimit
  have env : Env0 l.prog w (K w.params) mg (hidT s₁.heap H) callerA [] s₁ H :=
    ⟨rfl, ⟨kb, dictFree G.T.g, ⟨mb, dictFree G.T.b, G.T.builtins⟩, ⟨mc, dictFree hm1, hm2⟩⟩, fun _ _ e => of_hidT e, Nat.le_of_eq (hidT_size _ _), trivial, fun b z => absurd (show b ∈ ([] : List Addr) from z) (by simp), hok, .of_eq hgen⟩
  refine codeAny_mono ((hF _ kb (dictFree G.T.g)).go callerA [] s₁ H ⟨[.ref a], []⟩ [.ref a] [.ref a] _ _ hr rfl env (hbind s₁ (.ref a)) (.cons rfl .nil) (hsp w H a ns hlen hS)) fun res s' z => ?_
  match res, z with
  | .error _, z => exact z.elim
  | .ok .next, z => exact z.elim
  | .ok .brk, z => exact z.elim
  | .ok .cont, z => exact z.elim
  | .ok (.ret u), ⟨v, H', os, bare, un, hok', rel, q⟩ =>
    have q2 : v = .bl true := q
    subst q2
    have eu : u = Value.bool true := rel
    subst eu
    refine ⟨rfl, OldK.of_keep fun b ob e => ?_, os, bare⟩
    cases c : H b with
    | none => exact un.keep b ob e c (fun z => nomatch (show b ∈ ([] : List Addr) from z)) (fun z => nomatch z)
    | some u =>
      obtain ⟨rfl, _, rfl⟩ := only c
      have e2 := (hok' b _ (un.frzs b _ _ c)).1
      rw [hobj] at e
      cases e
      exact e2
end Vf
namespace Vf
open PySem PySem.Spec PyProof.Rows L2
/-! ### defs with all that a call of them needs -/
structure Def (P : Program) (w : World) (K : PySem.W.Frag) (mg : Str → Option Value) (base : Heap) (k : Nat) (x : Str) (ps : List Str) (sp : Sp) where
  f : Addr
  fd : FuncData
  ok : FnOk P w K mg base CX0 k f fd ps sp
  kp : PySem.W.keepIn K (.ref f) = true
  b : Binds K fd ps []
  g : mg x = some (.ref f)
structure DefG (P : Program) (w : World) (K : PySem.W.Frag) (mg : Str → Option Value) (base : Heap) (k : Nat) (x : Str) (ps : List Str) (sp : Sp) where
  f : Addr
  fd : FuncData
  ok : FnG P w K mg base CX0 k f fd ps sp
  kp : PySem.W.keepIn K (.ref f) = true
  b : Binds K fd ps []
  g : mg x = some (.ref f)
section
variable {X : Cx} {k : Nat} {ps : List Str} {sp : Sp} {x : Str} {p pos : Pos} {e : Expr} {es : List Expr} {t : TA}
theorem pe_def (D : Def X.prog X.w X.K X.mg X.base k x ps sp) (hr : Room k X.A) (ha : PA X (e :: es) t) (hg : Gl X x := by rfl) (hdb : (x == ("__debug__" : Str)) = false := by decide)
    (he : starEach (e :: es) X.env = (false, eval e X.env) :: starEach es X.env := by rfl) (hpl : (backTo pos (starEach es X.env)).any (·.1) = false := by rfl) : PE X (.Call (.Name x p) (e :: es) [] pos) (tCall sp [] E0 t) :=
  pe_call D.ok hr hg D.g D.kp D.b .nil pass0 ha hdb he hpl
theorem pe_defG (D : DefG X.prog X.w X.K X.mg X.base k x ps sp) (hr : Room k X.A) (hgd : X.A.guards = some []) (ha : PA X (e :: es) t) (hg : Gl X x := by rfl) (hdb : (x == ("__debug__" : Str)) = false := by decide)
    (he : starEach (e :: es) X.env = (false, eval e X.env) :: starEach es X.env := by rfl) (hpl : (backTo pos (starEach es X.env)).any (·.1) = false := by rfl) : PE X (.Call (.Name x p) (e :: es) [] pos) (tCall sp [] E0 t) :=
  pe_callG D.ok hr hgd hg D.g D.kp D.b .nil pass0 ha hdb he hpl
end
/-! ### rules of our own -/
section
variable {X : Cx}
theorem op_powW : OpR X (binaryOp .Pow) (rI (fun i j => 0 ≤ j ∧ (Builtin.Int.intBits i : Int) * j ≤ 2 ^ 27) fun i j => .int (i ^ j.toNat)) := opI fun _ _ _ _ _ _ _ hc q => pow_int hc.1 hc.2 q
/-- list + list, also of lists that are only read -/
def rCatS (K : PySem.W.Frag) : R2 := fun x y H Q => ∃ l b xs zs, x = .ref l ∧ y = .ref b ∧ SqL K H l xs ∧ SqL K H b zs ∧ xs.length + zs.length ≤ sizeLine ∧ ∀ p, H p = none → Q (.ref p) (upd H p (.lst (xs ++ zs)))
theorem op_catS : OpR X (binaryOp .Add) (rCatS X.K) := by
  intro pins s σ H x y v u Q I rx ry h
  obtain ⟨l, b, xs, zs, rfl, rfl, h1, h2, hz, q⟩ := h
  cases rx
  cases ry
  obtain ⟨its, r1, ⟨⟨c1, d1, t1, s1⟩, n1, e1, rfl, rfl, rfl⟩, _⟩ := I.list h1
  obtain ⟨its2, r2, ⟨⟨c2, d2, t2, s2⟩, n2, e2, rfl, rfl, rfl⟩, _⟩ := I.list h2
  have hsz : its.toArray.size + its2.toArray.size ≤ sizeLine := by rw [List.size_toArray, List.size_toArray, ← r1.length, ← r2.length]; exact hz
  refine concat_meets ⟨_, e1, rfl⟩ ⟨_, e2, rfl⟩ noFill_list_add seq_list_add PySem.F.slot_list_add PySem.F.entry_list_add (PySem.F.args_list_add_2 _ _) (list_addW l b its.toArray its2.toArray n1 n2 none none s1 s2 hsz) ⟨e1, e2, ?_⟩
  have ea : its.toArray ++ its2.toArray = (its ++ its2).toArray := by simp
  rw [ea]
  exact ⟨.ref _, _, I.lnew (t' := s.toks) (r1.append r2) (by rw [List.length_append]; omega), rfl, q _ I.fresh⟩
/-- repr of data, where none is under way -/
theorem call_reprD {k : Nat} (hgd : X.A.guards = some []) (hr : Room k X.A) : CallR X (.builtin "repr") (fun xs H Q => ∃ (a : Addr) (d : PyData), xs = [.ref a] ∧ Dp X.K H (.ref a) d ∧ d.showable = true ∧ d.hasDict = false ∧ d.depth ≤ 60 ∧ d.shown.length ≤ sizeLine ∧ Q (.str d.shown) H) := by
  intro pins s σ H xs us Q I r h
  obtain ⟨a, d, rfl, hd, hs, hn, hdep, hz, q⟩ := h
  obtain ⟨u, rfl, ru⟩ := vals1 r
  obtain ⟨as, rd⟩ := Dp.reads I d _ _ hd ru
  cases ru
  refine repr_of_reads' rd hs (fun z => by rw [hn] at z; cases z) hgd (by have := hr.units; omega) (fun _ _ e => e) (fun h' u tk hk => ?_) hz
  exact ⟨.str _, H, I.kept (t' := tk) hk, ⟨_, rfl⟩, q⟩
end
/-! ### types that differ -/
/-- the built-in classes that type(x) of data gives -/
inductive TyN : String → Prop
  | non : TyN "NoneType" | bl : TyN "bool" | int : TyN "int" | str : TyN "str" | lst : TyN "list" | tup : TyN "tuple" | dct : TyN "dict"
theorem TyN.is {T : String} (h : TyN T) : ∀ s' : Shared, s'.TypeIs (.type T) "type" := by
  cases h
  · exact TypeEq.meta_NoneType
  · exact TypeEq.meta_bool
  · exact TypeEq.meta_int
  · exact TypeEq.meta_str
  · exact TypeEq.meta_list
  · exact TypeEq.meta_tuple
  · exact TypeEq.meta_dict
end Vf
namespace Vf
open PySem PySem.Spec PyProof.Rows L2
section
variable {X : Cx} {K : PySem.W.Frag}
theorem ixL (h : X.K = K := by rfl) : IxR X (rIxL K) := h ▸ ix_list
def rLen (K : PySem.W.Frag) : List V → Hp → VK → Prop := fun xs H Q => ∃ p ys, xs = [.ref p] ∧ (SqL K H p ys ∨ SqT K H p ys) ∧ Q (.int ys.length) H
theorem lenK (h : X.K = K := by rfl) : CallR X (.builtin "len") (rLen K) := by subst h; exact call_len_seq
def rListOf (K : PySem.W.Frag) : List V → Hp → VK → Prop := fun xs H Q => ∃ p ys, xs = [.ref p] ∧ (SqL K H p ys ∨ SqT K H p ys) ∧ ∀ l, H l = none → Q (.ref l) (upd H l (.lst ys))
theorem listK (h : X.K = K := by rfl) : CallR X (.type "list") (rListOf K) := by subst h; exact call_list_of
theorem sortedK (h : X.K = K := by rfl) : CallR X (.builtin "sorted") (rSortedPO K) := by subst h; exact cr_sortedPO
theorem isiK (h : X.K = K := by rfl) : CallR X (.builtin "isinstance") (rIsi K) := by subst h; exact call_isi
theorem minK (hc : X.calm = true) (h : X.K = K := by rfl) : CallR X (.builtin "min") (rMin K) := by subst h; exact cr_min hc
theorem eqD (hu : X.A.units + 64 < cLine) (h : X.K = K := by rfl) : OpR X (compareOp .Eq) (rEqD K) := by subst h; exact op_eqD hu
theorem neD (hu : X.A.units + 64 < cLine) (h : X.K = K := by rfl) : OpR X (compareOp .NotEq) (rNeD K) := by subst h; exact op_neD hu
theorem catK (h : X.K = K := by rfl) : OpR X (binaryOp .Add) (rCatS K) := by subst h; exact op_catS
theorem inSeqK (h : X.K = K := by rfl) : OpR X (compareOp .In) (rIn K false) := by subst h; exact op_in_seq
def rRepr (K : PySem.W.Frag) : List V → Hp → VK → Prop := fun xs H Q => ∃ (a : Addr) (d : PyData), xs = [.ref a] ∧ Dp K H (.ref a) d ∧ d.showable = true ∧ d.hasDict = false ∧ d.depth ≤ 60 ∧ d.shown.length ≤ sizeLine ∧ Q (.str d.shown) H
theorem reprK {k : Nat} (hgd : X.A.guards = some []) (hr : Room k X.A) (h : X.K = K := by rfl) : CallR X (.builtin "repr") (rRepr K) := by subst h; exact call_reprD hgd hr
end
end Vf
namespace Vf
open PySem PySem.Spec PyProof.Rows L2
section
variable {K : PySem.W.Frag} {σ : L2.St} {H : Hp} {Q : VK} {D : Ends} {nx bk ct : L2.St → Hp → Prop} {rt : VK} {t u : TS} {te ta tb tc : TE} {g : TG} {tt t1 t2 : TT} {B : Bool → Hp → Prop} {ts tr : TA} {R : List V → Hp → Prop} {x y v : V} {i j : Int} {S : L2.St → Hp → Prop}
/-! statements -/
theorem r_seq (h : t ⟨fun σ H => u ⟨nx, rt, bk, ct⟩ σ H, rt, bk, ct⟩ σ H) : tSeq t u ⟨nx, rt, bk, ct⟩ σ H := h
theorem r_next (h : nx σ H) : tNext ⟨nx, rt, bk, ct⟩ σ H := h
theorem r_break (h : bk σ H) : tBreak ⟨nx, rt, bk, ct⟩ σ H := h
theorem r_cont (h : ct σ H) : tCont ⟨nx, rt, bk, ct⟩ σ H := h
theorem r_asg (h : te σ H fun x H1 => g x σ H1 nx) : tAsg te g ⟨nx, rt, bk, ct⟩ σ H := h
theorem r_drop (h : te σ H fun _ H1 => nx σ H1) : tDrop te ⟨nx, rt, bk, ct⟩ σ H := h
theorem r_ret (h : te σ H rt) : tRet te ⟨nx, rt, bk, ct⟩ σ H := h
theorem r_retN (h : rt .non H) : tRetN ⟨nx, rt, bk, ct⟩ σ H := h
theorem r_ifS {b : Bool → Hp → Prop} (h : tt σ H fun b H1 => if b = true then t ⟨nx, rt, bk, ct⟩ σ H1 else u ⟨nx, rt, bk, ct⟩ σ H1) : tIfS tt t u ⟨nx, rt, bk, ct⟩ σ H := h
theorem r_par {a b : Nat} (h : ts σ H fun vs H1 => ∃ v w, vs = [v, w] ∧ nx ((σ.set a (some v)).set b (some w)) H1) : tPar a b ts ⟨nx, rt, bk, ct⟩ σ H := h
theorem r_dput {td ty tv : TE} (h : tv σ H fun v H1 => td σ H1 fun x H2 => ty σ H2 fun y H3 => ∃ a H4, x = .ref a ∧ DPut H3 a y v H4 ∧ nx σ H4) : sDPut td ty tv ⟨nx, rt, bk, ct⟩ σ H := h
/-! targets -/
theorem r_gname {a : Nat} (h : S (σ.set a (some v)) H) : gName a v σ H S := h
theorem r_gnil (h : S σ H) : gNil [] σ H S := ⟨rfl, h⟩
theorem r_gcons {vs : List V} {gs : TGs} (h : g v σ H fun σ' H' => gs vs σ' H' S) : gCons g gs (v :: vs) σ H S := ⟨v, vs, rfl, h⟩
theorem r_gtup {n : Nat} {a : Addr} {xs : List V} {gs : TGs} (hs : SqT K H a xs) (hl : xs.length = n) (h : gs xs σ H S) : gTup K n gs (.ref a) σ H S := ⟨a, xs, rfl, hs, hl, h⟩
theorem r_gsub {to ti : TE} {st : TSet} (h : to σ H fun o H1 => ti σ H1 fun i H2 => st o i v H2 fun H3 => S σ H3) : gSub to ti st v σ H S := h
theorem r_setL {p : Addr} {xs : List V} {k : Int} {n : Nat} {f : Hp → Prop} (hp : H p = some (.lst xs)) (hi : ixN xs.length k = some n) (h : f (upd H p (.lst (xs.set n v)))) : rSetL (.ref p) (.int k) v H f := ⟨p, xs, k, n, rfl, rfl, hp, hi, h⟩
/-! expressions -/
theorem r_var {a : Nat} (h : ∃ v, σ[a]? = some (some v) ∧ Q v H) : tVar a σ H Q := h
theorem r_c (h : Q v H) : tC v σ H Q := h
theorem r_op {r : R2} (h : ta σ H fun x H1 => tb σ H1 fun y H2 => r x y H2 Q) : tOp r ta tb σ H Q := h
theorem r_I0 {f : Int → Int → V} (h : Q (f i j) H) : rI0 f (.int i) (.int j) H Q := ⟨i, j, rfl, rfl, h⟩
theorem r_I {f : Int → Int → V} {C : Int → Int → Prop} (hc : C i j) (h : Q (f i j) H) : rI C f (.int i) (.int j) H Q := ⟨i, j, rfl, rfl, hc, h⟩
theorem r_U {f : Int → V} (h : Q (f i) H) : rU f (.int i) H Q := ⟨i, rfl, h⟩
theorem r_un {r : V → Hp → VK → Prop} (h : ta σ H fun x H1 => r x H1 Q) : tUn r ta σ H Q := h
theorem r_eqI (h : Q (.bl (decide (i = j))) H) : rEq (.int i) (.int j) H Q := ⟨rfl, by rw [show decide (V.int i = V.int j) = decide (i = j) by rw [Bool.eq_iff_iff]; simp]; exact h⟩
theorem r_neI (h : Q (.bl (!decide (i = j))) H) : rNe (.int i) (.int j) H Q := ⟨rfl, by rw [show decide (V.int i = V.int j) = decide (i = j) by rw [Bool.eq_iff_iff]; simp]; exact h⟩
theorem r_eqS {a b : Str} (h : Q (.bl (decide (a = b))) H) : rEq (.str a) (.str b) H Q := ⟨rfl, by rw [show decide (V.str a = V.str b) = decide (a = b) by rw [Bool.eq_iff_iff]; simp]; exact h⟩
theorem r_neS {a b : Str} (h : Q (.bl (!decide (a = b))) H) : rNe (.str a) (.str b) H Q := ⟨rfl, by rw [show decide (V.str a = V.str b) = decide (a = b) by rw [Bool.eq_iff_iff]; simp]; exact h⟩
theorem r_cb {r : List V → Hp → VK → Prop} (h : ts σ H fun vs H1 => r vs H1 Q) : tCB r ts σ H Q := h
theorem r_cons (h : ta σ H fun x H1 => tr σ H1 fun xs H2 => R (x :: xs) H2) : tCons ta tr σ H R := h
theorem r_nil (h : R [] H) : tNil σ H R := h
theorem r_lst (h : ts σ H fun xs H1 => xs.length ≤ sizeLine ∧ ∀ p, H1 p = none → Q (.ref p) (upd H1 p (.lst xs))) : tLst ts σ H Q := h
theorem r_tup (h : ts σ H fun xs H1 => xs.length ≤ sizeLine ∧ ∀ p, H1 p = none → Q (.ref p) (upd H1 p (.tup xs))) : tTup ts σ H Q := h
theorem r_call {sp : Sp} {dvs : List V} {E : XK} (h : ts σ H fun vs H1 => sp (vs ++ dvs) H1 Q E) : tCall sp dvs E ts σ H Q := h
theorem r_ixL {p : Addr} {xs : List V} (hs : SqL K H p xs) (ha : atI xs i = some v) (h : Q v H) : rIxL K (.ref p) (.int i) H Q := ⟨p, xs, i, v, rfl, rfl, hs, ha, h⟩
theorem r_ixT {p : Addr} {xs : List V} (hs : SqT K H p xs) (ha : atI xs i = some v) (h : Q v H) : rIxT K (.ref p) (.int i) H Q := ⟨p, xs, i, v, rfl, rfl, hs, ha, h⟩
theorem r_test (h : te σ H fun x H' => ∃ k, x = .bl k ∧ B k H') : tTest te σ H B := h
theorem r_b (h : te σ H fun x H' => ∃ k, x = .bl k ∧ B k H') : tB te σ H B := h
theorem r_and (h : t1 σ H fun c H1 => if c = true then t2 σ H1 B else B false H1) : tAnd t1 t2 σ H B := h
theorem r_or (h : t1 σ H fun c H1 => if c = true then B true H1 else t2 σ H1 B) : tOr t1 t2 σ H B := h
theorem r_not (h : t1 σ H fun c H1 => B (!c) H1) : tNot t1 σ H B := h
theorem r_andV (h : ta σ H fun x H1 => ∃ c, x = .bl c ∧ if c = true then tb σ H1 Q else Q (.bl false) H1) : tAndV ta tb σ H Q := h
theorem r_orV (h : ta σ H fun x H1 => ∃ c, x = .bl c ∧ if c = true then Q (.bl true) H1 else tb σ H1 Q) : tOrV ta tb σ H Q := h
theorem r_notV (h : ta σ H fun x H1 => ∃ c, x = .bl c ∧ Q (.bl (!c)) H1) : tNotV ta σ H Q := h
theorem r_if (h : tt σ H fun c H1 => if c = true then ta σ H1 Q else tb σ H1 Q) : tIf tt ta tb σ H Q := h
theorem r_blV {b : Bool} {A : Bool → Prop} (h : A b) : ∃ k, V.bl b = .bl k ∧ A k := ⟨b, rfl, h⟩
theorem r_chain {r r' : R2} (h : ta σ H fun x H1 => tb σ H1 fun y H2 => r x y H2 fun z H3 => ∃ k, z = .bl k ∧ if k = true then tc σ H3 fun w H4 => r' y w H4 Q else Q (.bl false) H3) : tChain r r' ta tb tc σ H Q := h
theorem r_sl {r : V → Option Int → Option Int → Hp → VK → Prop} {tl th : TO} (h : te σ H fun x H1 => tl σ H1 fun l H2 => th σ H2 fun u H3 => r x l u H3 Q) : tSl r te tl th σ H Q := h
theorem r_noPart {O : Option Int → Hp → Prop} (h : O none H) : tNoPart σ H O := h
theorem r_part {O : Option Int → Hp → Prop} (h : te σ H fun x H1 => ∃ i, x = .int i ∧ O (some i) H1) : tPart te σ H O := h
theorem r_bm {T : String} {r : V → List V → Hp → VK → Prop} (h : te σ H fun x H1 => tyV K T x H1 ∧ ts σ H1 fun xs H2 => r x xs H2 Q) : tBM K T r te ts σ H Q := h
theorem r_bm0 {T : String} {r : V → List V → Hp → VK → Prop} (h : te σ H fun x H1 => tyV K T x H1 ∧ r x [] H1 Q) : tBM0 K T r te σ H Q := h
theorem r_dget {td ty : TE} (h : td σ H fun x H1 => ty σ H1 fun y H2 => ∃ a v, x = .ref a ∧ DGet H2 a y (some v) ∧ Q v H2) : tDGet td ty σ H Q := h
theorem r_din {td ty : TE} (h : ty σ H fun y H1 => td σ H1 fun x H2 => ∃ a o, x = .ref a ∧ DGet H2 a y o ∧ Q (.bl o.isSome) H2) : tDIn ty td σ H Q := h
theorem r_dnotin {td ty : TE} (h : ty σ H fun y H1 => td σ H1 fun x H2 => ∃ a o, x = .ref a ∧ DGet H2 a y o ∧ Q (.bl (!o.isSome)) H2) : tDNotIn ty td σ H Q := h
theorem r_dget1 {td ty : TE} (h : td σ H fun x H1 => ∃ a, x = .ref a ∧ IsD H1 a ∧ ty σ H1 fun y H2 => ∃ o, DGet H2 a y o ∧ Q (o.getD .non) H2) : tDGet1 td ty σ H Q := h
theorem r_dget2 {td ty tx : TE} (h : td σ H fun x H1 => ∃ a, x = .ref a ∧ IsD H1 a ∧ ty σ H1 fun y H2 => tx σ H2 fun z H3 => ∃ o, DGet H3 a y o ∧ Q (o.getD z) H3) : tDGet2 td ty tx σ H Q := h
theorem r_dnew (h : ∀ p, H p = none → Q (.ref p) (upd H p (.dK []))) : tDNewK σ H Q := h
theorem r_rng1 {A : It → Hp → Prop} (h : ts σ H fun vs H1 => ∃ j : Int, vs = [.int j] ∧ -(2 ^ 62) ≤ j ∧ j < 2 ^ 62 ∧ A (Itr 0 j.toNat) H1) : iRng1 ts σ H A := h
theorem r_rng2 {A : It → Hp → Prop} (h : ts σ H fun vs H1 => ∃ i j : Int, vs = [.int i, .int j] ∧ (-(2 ^ 62) ≤ i ∧ i < 2 ^ 62 ∧ -(2 ^ 62) ≤ j ∧ j < 2 ^ 62) ∧ A (Itr i (j - i).toNat) H1) : iRng2 ts σ H A := h
theorem r_ilist {A : It → Hp → Prop} {tl : TE} (h : tl σ H fun x H1 => ∃ a, x = .ref a ∧ (∃ xs, SqL K H1 a xs) ∧ A (Itl K a) H1) : iList K tl σ H A := h
theorem r_yes (h : B true H) : tYes σ H B := h
theorem ifT {c A B : Prop} [Decidable c] (hc : c) (h : A) : if c then A else B := by rw [if_pos hc]; exact h
theorem ifF {c A B : Prop} [Decidable c] (hc : ¬ c) (h : B) : if c then A else B := by rw [if_neg hc]; exact h
theorem ifD {c A B : Prop} [Decidable c] (hc : c) (h : A) : if decide c = true then A else B := by rw [if_pos (decide_eq_true hc)]; exact h
theorem ifDn {c A B : Prop} [Decidable c] (hc : ¬ c) (h : B) : if decide c = true then A else B := by rw [if_neg (by simpa using hc)]; exact h
theorem ifNT {A B : Prop} (h : B) : if (!true) = true then A else B := by show if false = true then A else B; rw [if_neg Bool.false_ne_true]; exact h
theorem ifNF {A B : Prop} (h : A) : if (!false) = true then A else B := by show if true = true then A else B; rw [if_pos rfl]; exact h
theorem ifN {c A B : Prop} [Decidable c] (hc : ¬ c) (h : A) : if (!decide c) = true then A else B := by rw [if_pos (by simpa using hc)]; exact h
theorem ifNn {c A B : Prop} [Decidable c] (hc : c) (h : B) : if (!decide c) = true then A else B := by rw [if_neg (by simpa using hc)]; exact h
end
end Vf
namespace Vf
open PySem PySem.Spec PyProof.Rows L2
/-! ### loops over data -/
theorem pair_get {α β : Type} {F : α → β → Prop} : ∀ {xs : List α} {L : List β}, Paired F xs L → ∀ {i : Nat} {x : α}, xs[i]? = some x → ∃ p, L[i]? = some p ∧ F x p
  | _, _, .nil, i, x, h => by simp at h
  | _, _, .cons r t, 0, x, h => by
    have e := Option.some.inj h
    exact ⟨_, rfl, e ▸ r⟩
  | _, _, .cons r t, i + 1, x, h => by
    obtain ⟨p, h1, h2⟩ := pair_get t (i := i) (x := x) (by simpa using h)
    exact ⟨p, by simpa using h1, h2⟩
theorem pair_get2 {α β : Type} {F : α → β → Prop} : ∀ {xs : List α} {L : List β}, Paired F xs L → ∀ {i : Nat} {p : β}, L[i]? = some p → ∃ x, xs[i]? = some x ∧ F x p
  | _, _, .nil, i, x, h => by simp at h
  | _, _, .cons r t, 0, x, h => by
    have e := Option.some.inj h
    exact ⟨_, rfl, e ▸ r⟩
  | _, _, .cons r t, i + 1, x, h => by
    obtain ⟨p, h1, h2⟩ := pair_get2 t (i := i) (p := x) (by simpa using h)
    exact ⟨p, by simpa using h1, h2⟩
theorem pair_len {α β : Type} {F : α → β → Prop} : ∀ {xs : List α} {L : List β}, Paired F xs L → xs.length = L.length
  | _, _, .nil => rfl
  | _, _, .cons _ t => congrArg (· + 1) (pair_len t)
theorem pair_mono {α β : Type} {F G : α → β → Prop} : ∀ {xs : List α} {L : List β}, Paired F xs L → (∀ x p, F x p → G x p) → Paired G xs L
  | _, _, .nil, _ => .nil
  | _, _, .cons r t, h => .cons (h _ _ r) (pair_mono t h)
theorem pair_app {α β : Type} {F : α → β → Prop} : ∀ {xs : List α} {L : List β} {ys : List α} {M : List β}, Paired F xs L → Paired F ys M → Paired F (xs ++ ys) (L ++ M)
  | _, _, _, _, .nil, h => h
  | _, _, _, _, .cons r t, h => .cons r (pair_app t h)
theorem pair_map {α β : Type} {F : α → β → Prop} {f : β → α} : ∀ {L : List β}, (∀ p ∈ L, F (f p) p) → Paired F (L.map f) L
  | [], _ => .nil
  | p :: L, h => .cons (h p List.mem_cons_self) (pair_map fun q hq => h q (List.mem_cons_of_mem _ hq))
/-- what a for walks, as data -/
structure Seq {α : Type} (J : It) (G : Hp → Prop) (rel : V → α → Prop) (L : List α) : Prop where
  goes : ∀ i H, i < L.length → G H → J.go i H
  stops : ∀ H, G H → J.stop L.length H
  yields : ∀ i H x H', i < L.length → G H → J.yld i H x H' → H' = H ∧ ∃ p, L[i]? = some p ∧ rel x p
theorem seq_list {α : Type} {K : PySem.W.Frag} {a : Addr} {xs : List V} {rel : V → α → Prop} {L : List α} (hp : Paired rel xs L) : Seq (Itl K a) (fun H => SqL K H a xs) rel L := by
  have hl := pair_len hp
  refine ⟨fun i H hi q => ⟨xs, xs[i], q, by simp [hl, hi]⟩, fun H q => ⟨xs, q, by omega⟩, fun i H x H' hi q y => ?_⟩
  obtain ⟨e, y⟩ := y
  exact ⟨e, pair_get hp (y xs q)⟩
/-- lo, lo + 1, .. -/
def rng (lo : Int) (n : Nat) : List Int := (List.range n).map fun (i : Nat) => lo + (i : Int)
theorem rng_len (lo : Int) (n : Nat) : (rng lo n).length = n := by unfold rng; rw [List.length_map, List.length_range]
theorem seq_range {lo : Int} {n : Nat} : Seq (Itr lo n) (fun _ => True) (fun v i => v = .int i) (rng lo n) := by
  refine ⟨fun i H hi _ => by rw [rng_len] at hi; exact hi, fun H _ => Nat.le_of_eq (rng_len lo n).symm, fun i H x H' hi _ y => ?_⟩
  obtain ⟨e, y⟩ := y
  rw [rng_len] at hi
  exact ⟨e, lo + i, by unfold rng; rw [List.getElem?_map, List.getElem?_range hi]; rfl, y⟩
theorem split_at {α : Type} {L : List α} {i : Nat} {p : α} (h : L[i]? = some p) : L = L.take i ++ p :: L.drop (i + 1) ∧ L.take (i + 1) = L.take i ++ [p] := by
  obtain ⟨hi, e⟩ := List.getElem?_eq_some_iff.mp h
  refine ⟨?_, ?_⟩
  · rw [← e, List.getElem_cons_drop hi, List.take_append_drop]
  · rw [List.take_add_one, h]; rfl
def ForW (J : It) (g : TG) (tb : TS) (D : Ends) (σ : L2.St) (H : Hp) : Prop := ∃ W : Nat → Nat → L2.St → Hp → Prop, (∃ m, W 0 m σ H) ∧ ∀ i m σ H, W i m σ H →
  (J.stop i H ∧ D.nx σ H) ∨ (J.go i H ∧ ∃ N : L2.St → Hp → Prop, (∀ σ' H', N σ' H' → ∃ m', m' < m ∧ W (i + 1) m' σ' H') ∧ ∀ x H', J.yld i H x H' → g x σ H' fun σ2 H2 => tb { D with nx := N, ct := N, bk := D.nx } σ2 H2)
theorem r_for {wi : TI} {g : TG} {tb : TS} {D : Ends} {σ : L2.St} {H : Hp} (h : wi σ H fun J H1 => ForW J g tb D σ H1) : tFor wi g tb D σ H := h
theorem r_forS {α : Type} {J : It} {G : Hp → Prop} {rel : V → α → Prop} {L : List α} {g : TG} {tb : TS} {nx bk ct : L2.St → Hp → Prop} {rt : VK} {σ : L2.St} {H : Hp} (S : Seq J G rel L) (Pv : List α → L2.St → Hp → Prop) (h0 : Pv [] σ H)
    (hk : ∀ d σ H, Pv d σ H → G H) (hs : ∀ d p r v σ H, L = d ++ p :: r → rel v p → Pv d σ H → g v σ H fun σ2 H2 => tb ⟨Pv (d ++ [p]), rt, nx, Pv (d ++ [p])⟩ σ2 H2) (hd : ∀ σ H, Pv L σ H → nx σ H) : ForW J g tb ⟨nx, rt, bk, ct⟩ σ H := by
  refine ⟨fun i m σ H => m = L.length - i ∧ i ≤ L.length ∧ Pv (L.take i) σ H, ⟨L.length, by simp, Nat.zero_le _, h0⟩, ?_⟩
  rintro i m σ H ⟨rfl, hi, p0⟩
  have q := hk _ σ H p0
  by_cases hlt : i < L.length
  · refine .inr ⟨S.goes i H hlt q, Pv (L.take (i + 1)), fun σ' H' p' => ⟨L.length - (i + 1), by omega, rfl, hlt, p'⟩, fun x H' y => ?_⟩
    obtain ⟨e, p, hp, r⟩ := S.yields i H x H' hlt q y
    subst e
    obtain ⟨e1, e2⟩ := split_at hp
    rw [e2]
    exact hs _ p _ x σ _ e1 r p0
  · have e : i = L.length := by omega
    subst e
    rw [List.take_length] at p0
    exact .inl ⟨S.stops H q, hd σ H p0⟩
def LcW (J : It) (g : TG) (tt : TT) (te : TE) (own : List Nat) (D : Addr) (σ : L2.St) (H1 : Hp) (Qd : Hp → Prop) : Prop :=
  ∃ V : Nat → Nat → Hp → Prop, (∃ m, V 0 m (upd H1 D (.lst []))) ∧ ∀ k m G, V k m G →
    (J.stop k G ∧ Qd G) ∨ (J.go k G ∧ ∃ T : Hp → Prop, (∀ G', T G' → ∃ m', m' < m ∧ V (k + 1) m' G') ∧ ∀ x G', J.yld k G x G' →
      g x (wipe σ own) G' fun τ G2 => wipe τ own = wipe σ own ∧ tt τ G2 fun c G3 =>
        if c = true then te τ G3 fun y G4 => ∃ got, G4 D = some (.lst got) ∧ got.length < sizeLine ∧ T (upd G4 D (.lst (got ++ [y])))
        else T G3)
theorem r_lc {wi : TI} {g : TG} {tt : TT} {te : TE} {vs : List Nat} {σ : L2.St} {H : Hp} {Q : VK} (h : wi σ H fun J H1 => ∀ D, H1 D = none → LcW J g tt te vs D σ H1 (Q (.ref D))) : tLc wi g tt te vs σ H Q := h
theorem r_lcS {α : Type} {J : It} {G : Hp → Prop} {rel : V → α → Prop} {L : List α} {g : TG} {tt : TT} {te : TE} {vs : List Nat} {D : Addr} {σ : L2.St} {H1 : Hp} {Qd : Hp → Prop} (S : Seq J G rel L) (Pv : List α → Hp → Prop) (h0 : Pv [] (upd H1 D (.lst [])))
    (hk : ∀ d H, Pv d H → G H) (hs : ∀ d p r v H, L = d ++ p :: r → rel v p → Pv d H → g v (wipe σ vs) H fun σ2 H2 => wipe σ2 vs = wipe σ vs ∧ tt σ2 H2 fun b H3 =>
      if b = true then te σ2 H3 fun y H4 => ∃ acc, H4 D = some (.lst acc) ∧ acc.length < sizeLine ∧ Pv (d ++ [p]) (upd H4 D (.lst (acc ++ [y]))) else Pv (d ++ [p]) H3) (hd : ∀ H, Pv L H → Qd H) : LcW J g tt te vs D σ H1 Qd := by
  refine ⟨fun i m H => m = L.length - i ∧ i ≤ L.length ∧ Pv (L.take i) H, ⟨L.length, by simp, Nat.zero_le _, h0⟩, ?_⟩
  rintro i m H ⟨rfl, hi, p0⟩
  have q := hk _ H p0
  by_cases hlt : i < L.length
  · refine .inr ⟨S.goes i H hlt q, Pv (L.take (i + 1)), fun H' p' => ⟨L.length - (i + 1), by omega, rfl, hlt, p'⟩, fun x H' y => ?_⟩
    obtain ⟨e, p, hp, r⟩ := S.yields i H x H' hlt q y
    subst e
    obtain ⟨e1, e2⟩ := split_at hp
    rw [e2]
    exact hs _ p _ x _ e1 r p0
  · have e : i = L.length := by omega
    subst e
    rw [List.take_length] at p0
    exact .inl ⟨S.stops H q, hd H p0⟩
/-- a comprehension whose parts make nothing: kept items f p of those p with b p -/
theorem r_lcP {α : Type} {J : It} {G : Hp → Prop} {rel : V → α → Prop} {L : List α} {g : TG} {tt : TT} {te : TE} {vs : List Nat} {D : Addr} {σ : L2.St} {H1 : Hp} {Qd : Hp → Prop} (S : Seq J G rel L) (b : α → Bool) (f : α → V)
    (hz : L.length < 100000) (np : H1 D = none) (hG : ∀ H, Same H1 H → G H)
    (hs : ∀ p v H acc, p ∈ L → rel v p → Same H1 H → H D = some (.lst acc) → acc.length < sizeLine → ∀ N : Hp → Prop, (b p = true → N (upd H D (.lst (acc ++ [f p])))) → (b p = false → N H) → g v (wipe σ vs) H fun σ2 H2 => wipe σ2 vs = wipe σ vs ∧ tt σ2 H2 fun b H3 =>
      if b = true then te σ2 H3 fun y H4 => ∃ acc, H4 D = some (.lst acc) ∧ acc.length < sizeLine ∧ N (upd H4 D (.lst (acc ++ [y]))) else N H3)
    (hd : Qd (upd H1 D (.lst ((L.filter b).map f)))) : LcW J g tt te vs D σ H1 Qd := by
  have same : ∀ acc, Same H1 (upd H1 D (.lst acc)) := fun acc a o e => by rw [upd_ne (ne_of_none e np)]; exact e
  refine r_lcS S (fun d H => H = upd H1 D (.lst ((d.filter b).map f))) rfl (fun d H e => hG H (e ▸ same _)) (fun d p r v H e hr hp => ?_) (fun H e => e ▸ hd)
  subst hp
  have hlen : ((d.filter b).map f).length < sizeLine := by
    have h1 := List.length_filter_le b d
    have h2 : L.length = d.length + (r.length + 1) := by rw [e]; simp
    rw [List.length_map]
    exact Nat.lt_of_lt_of_le (show (d.filter b).length < 100000 by omega) (by decide)
  refine hs p v _ _ (by rw [e]; simp) hr (same _) upd_same hlen (fun H => H = upd H1 D (.lst (((d ++ [p]).filter b).map f))) (fun hb => ?_) (fun hb => ?_)
  · rw [upd_upd, List.filter_append, List.filter_cons_of_pos hb, List.map_append]
    rfl
  · rw [List.filter_append, List.filter_cons_of_neg (by rw [hb]; exact Bool.false_ne_true), List.filter_nil, List.append_nil]
/-! ### whiles -/
theorem r_while {c : TT} {tb : TS} {nx bk ct : L2.St → Hp → Prop} {rt : VK} {σ : L2.St} {H : Hp} (Pv : Nat → L2.St → Hp → Prop) (m0 : Nat) (h0 : Pv m0 σ H)
    (hs : ∀ m σ H, Pv m σ H → c σ H fun b H1 => if b = true then ∃ N : L2.St → Hp → Prop, (∀ σ' H', N σ' H' → ∃ m', m' < m ∧ Pv m' σ' H') ∧ tb ⟨N, rt, nx, N⟩ σ H1 else nx σ H1) : tWhile c tb ⟨nx, rt, bk, ct⟩ σ H :=
  ⟨Pv, ⟨m0, h0⟩, hs⟩
theorem r_whT {tb : TS} {nx : L2.St → Hp → Prop} {rt : VK} {σ : L2.St} {H1 : Hp} {Pv : Nat → L2.St → Hp → Prop} {m : Nat} (h : tb ⟨fun σ' H' => ∃ m', m' < m ∧ Pv m' σ' H', rt, nx, fun σ' H' => ∃ m', m' < m ∧ Pv m' σ' H'⟩ σ H1) :
    ∃ N : L2.St → Hp → Prop, (∀ σ' H', N σ' H' → ∃ m', m' < m ∧ Pv m' σ' H') ∧ tb ⟨N, rt, nx, N⟩ σ H1 := ⟨_, fun _ _ z => z, h⟩
end Vf
namespace Vf
open PySem PySem.Spec PyProof.Rows L2
theorem r_forE {α : Type} {K : PySem.W.Frag} {a : Addr} {xs : List V} {rel : V → α → Prop} {L : List α} {g : TG} {tb : TS} {nx bk ct : L2.St → Hp → Prop} {rt : VK} {σ : L2.St} {H : Hp} (hp : Paired rel xs L) (Pv : List α → L2.St → Hp → Prop) (h0 : Pv [] σ H)
    (hk : ∀ d σ H, Pv d σ H → SqL K H a xs) (hs : ∀ d p r x T σ H, L = d ++ p :: r → xs[d.length]? = some x → rel x p → Pv d σ H → H T = none → g (.ref T) σ (upd H T (.tup [.int (d.length : Nat), x])) fun σ2 H2 => tb ⟨Pv (d ++ [p]), rt, nx, Pv (d ++ [p])⟩ σ2 H2)
    (hd : ∀ σ H, Pv L σ H → nx σ H) : ForW (Ite K a) g tb ⟨nx, rt, bk, ct⟩ σ H := by
  have hl := pair_len hp
  refine ⟨fun i m σ H => m = L.length - i ∧ i ≤ L.length ∧ Pv (L.take i) σ H, ⟨L.length, by simp, Nat.zero_le _, h0⟩, ?_⟩
  rintro i m σ H ⟨rfl, hi, p0⟩
  have q := hk _ σ H p0
  by_cases hlt : i < L.length
  · refine .inr ⟨⟨xs, xs[i], q, by simp [hl, hlt]⟩, Pv (L.take (i + 1)), fun σ' H' p' => ⟨L.length - (i + 1), by omega, rfl, hlt, p'⟩, fun v H' y => ?_⟩
    obtain ⟨T, x, rfl, nT, rfl, fx⟩ := y
    obtain ⟨p, hp1, hp2⟩ := pair_get hp (fx xs q)
    obtain ⟨e1, e2⟩ := split_at hp1
    have el : (L.take i).length = i := by rw [List.length_take]; omega
    have hx := fx xs q
    rw [e2]
    have := hs (L.take i) p _ x T σ H e1 (by rw [el]; exact hx) hp2 p0 nT
    rw [el] at this
    exact this
  · have e : i = L.length := by omega
    subst e
    rw [List.take_length] at p0
    exact .inl ⟨⟨xs, q, by omega⟩, hd σ H p0⟩
theorem r_ienum {K : PySem.W.Frag} {ts : TA} {σ : L2.St} {H : Hp} {A : It → Hp → Prop} (h : ts σ H fun vs H1 => ∃ a xs, vs = [.ref a] ∧ SqL K H1 a xs ∧ A (Ite K a) H1) : iEnum K ts σ H A := h
theorem r_sin {w : World} {H : Hp} {k : Int} {a : Addr} {S : Int → Bool} {n : Nat} {Q : VK} (hs : H a = some (SetO w a S n)) (h : Q (.bl (S k)) H) : rSIn w (.int k) (.ref a) H Q := ⟨k, a, S, n, rfl, rfl, hs, h⟩
theorem r_sadd {w : World} {to : TE} {ts : TA} {σ : L2.St} {H : Hp} {Q : VK} (h : to σ H fun x H1 => (∃ a S n, x = V.ref a ∧ H1 a = some (SetO w a S n)) ∧ ts σ H1 fun xs H2 => rSAdd w x xs H2 Q) : tSAdd w to ts σ H Q := h
end Vf
namespace Vf
open PySem PySem.Spec PyProof.Rows L2
/-! ### heaps -/
def But (t : Addr) (H H' : Hp) : Prop := ∀ b, b ≠ t → H' b = H b
def NewO (H : Hp) (o : HO) (Q : VK) : Prop := ∀ p H', Same H H' → H p = none → H' p = some o → Q (.ref p) H'
theorem same_new {H : Hp} {p : Addr} {o : HO} (h : H p = none) : Same H (upd H p o) := fun b x e => by
  rw [upd_ne (ne_of_none e h)]
  exact e
theorem NewO.mk {H H1 : Hp} {o : HO} {Q : VK} (h : NewO H o Q) (s : Same H H1) : ∀ p, H1 p = none → Q (.ref p) (upd H1 p o) := fun p np =>
  h p _ (s.trans (same_new np)) (s.free np) upd_same
/-- the draws' list -/
def Tap (H : Hp) (t : Addr) : Prop := ∃ a b c : Int, H t = some (.lst [.int a, .int b, .int c]) ∧ 0 ≤ a ∧ 0 ≤ b ∧ 0 ≤ c ∧ c < 2 ^ 62
theorem Tap.mono {H H' : Hp} {t : Addr} (s : Same H H') (h : Tap H t) : Tap H' t := let ⟨a, b, c, e, r⟩ := h; ⟨a, b, c, s _ _ e, r⟩
/-- what is known in B, where t is not known, stays while t changes -/
theorem Same.but {B H H' : Hp} {t : Addr} (s : Same B H) (n : B t = none) (b : But t H H') : Same B H' := fun a o e => by
  rw [b a (ne_of_none e n)]
  exact s a o e
theorem Same.set {B H : Hp} {t : Addr} {o : HO} (s : Same B H) (n : B t = none) : Same B (upd H t o) := fun a u e => by
  rw [upd_ne (ne_of_none e n)]
  exact s a u e
/-- the tuple of a coupling -/
def Pr (H : Hp) (v : V) (p : Int × Int) : Prop := ∃ t, v = .ref t ∧ H t = some (.tup [.int p.1, .int p.2])
abbrev Prs (H : Hp) : List V → List (Int × Int) → Prop := Paired (Pr H)
theorem Pr.mono {H H' : Hp} {v : V} {p : Int × Int} (s : Same H H') (h : Pr H v p) : Pr H' v p := let ⟨t, e, f⟩ := h; ⟨t, e, s _ _ f⟩
theorem Prs.mono {H H' : Hp} {xs : List V} {L : List (Int × Int)} (s : Same H H') (h : Prs H xs L) : Prs H' xs L := pair_mono h fun _ _ q => q.mono s
/-- tuples stay where only an object changes that is none -/
theorem Pr.but {H H' : Hp} {v : V} {p : Int × Int} {t : Addr} {o : HO} (b : But t H H') (ht : H t = some o) (no : ∀ xs, o ≠ .tup xs) (h : Pr H v p) : Pr H' v p := by
  obtain ⟨a, e, f⟩ := h
  refine ⟨a, e, ?_⟩
  rw [b a (ne_of f ht (fun z => no _ z.symm))]
  exact f
theorem Prs.but {H H' : Hp} {xs : List V} {L : List (Int × Int)} {t : Addr} {o : HO} (b : But t H H') (ht : H t = some o) (no : ∀ xs, o ≠ .tup xs) (h : Prs H xs L) : Prs H' xs L := pair_mono h fun _ _ q => q.but b ht no
theorem but_upd {H : Hp} {t : Addr} {o : HO} : But t H (upd H t o) := fun b e => upd_ne e
theorem But.trans {H H1 H2 : Hp} {t : Addr} (a : But t H H1) (b : But t H1 H2) : But t H H2 := fun x e => (b x e).trans (a x e)
theorem fm (x m : Int) (h : 0 < m) : 0 ≤ x.fmod m ∧ x.fmod m < m := ⟨Int.fmod_nonneg_of_pos _ h, Int.fmod_lt_of_pos _ h⟩
theorem szl {n : Nat} (h : n ≤ 100000) : n ≤ sizeLine := Nat.le_trans h (by decide)
theorem szs {n : Nat} (h : n < 100000) : n < sizeLine := Nat.lt_of_lt_of_le h (by decide)
theorem sql {K : PySem.W.Frag} {H : Hp} {a : Addr} {xs : List V} (h : H a = some (.lst xs)) : SqL K H a xs := .inl (.inl h)
theorem sqt {K : PySem.W.Frag} {H : Hp} {a : Addr} {xs : List V} (h : H a = some (.tup xs)) : SqT K H a xs := .inl (.inl h)
/-! ### layouts -/
def flat (L : List (Int × Int)) : List Int := L.flatMap fun p => [p.1, p.2]
theorem flat_nil : flat [] = [] := rfl
theorem flat_cons (p : Int × Int) (L : List (Int × Int)) : flat (p :: L) = p.1 :: p.2 :: flat L := by unfold flat; rw [List.flatMap_cons]; rfl
theorem flat_app (L M : List (Int × Int)) : flat (L ++ M) = flat L ++ flat M := by unfold flat; rw [List.flatMap_append]
theorem flat_len (L : List (Int × Int)) : (flat L).length = 2 * L.length := by
  induction L with
  | nil => rfl
  | cons p L ih => rw [flat_cons, List.length_cons, List.length_cons, ih, List.length_cons]; omega
theorem mem_flat {L : List (Int × Int)} {e : Int} : e ∈ flat L ↔ ∃ p ∈ L, e = p.1 ∨ e = p.2 := by
  unfold flat
  rw [List.mem_flatMap]
  constructor
  · rintro ⟨p, hp, h⟩
    exact ⟨p, hp, by simpa using h⟩
  · rintro ⟨p, hp, h⟩
    exact ⟨p, hp, by simpa using h⟩
structure Lay (n : Int) (L : List (Int × Int)) : Prop where
  n1 : 1 ≤ n
  n60 : n ≤ 60
  cp : ∀ p ∈ L, -n ≤ p.1 ∧ p.1 < p.2 ∧ p.2 ≤ n ∧ p.1 ≠ 0 ∧ p.2 ≠ 0
  asc : L.Pairwise fun p q => p.1 < q.1 ∨ (p.1 = q.1 ∧ p.2 < q.2)
  nd : (flat L).Nodup
def endsL (n : Int) : List Int := (rng (-n) (n + 1 - -n).toNat).filter fun e => !decide (e = 0)
theorem mem_rng {lo : Int} {n : Nat} {e : Int} : e ∈ rng lo n ↔ lo ≤ e ∧ e < lo + n := by
  unfold rng
  rw [List.mem_map]
  constructor
  · rintro ⟨i, hi, rfl⟩
    have := List.mem_range.mp hi
    omega
  · rintro ⟨h1, h2⟩
    exact ⟨(e - lo).toNat, List.mem_range.mpr (by omega), by omega⟩
theorem mem_endsL {n e : Int} : e ∈ endsL n ↔ -n ≤ e ∧ e ≤ n ∧ e ≠ 0 := by
  unfold endsL
  rw [List.mem_filter, mem_rng]
  simp only [Bool.not_eq_eq_eq_not, Bool.not_true, decide_eq_false_iff_not]
  omega
theorem rng_asc (lo : Int) (n : Nat) : (rng lo n).Pairwise (· < ·) := by
  unfold rng
  rw [List.pairwise_map]
  exact List.Pairwise.imp (fun h => by omega) List.pairwise_lt_range
theorem endsL_asc (n : Int) : (endsL n).Pairwise (· < ·) := (rng_asc _ _).filter _
theorem endsL_nd (n : Int) : (endsL n).Nodup := (endsL_asc n).imp fun h => by omega
theorem endsL_len {n : Int} (h : 0 ≤ n) : (endsL n).length ≤ 2 * n.toNat + 1 := by
  have h1 := List.length_filter_le (fun e : Int => !decide (e = 0)) (rng (-n) (n + 1 - -n).toNat)
  rw [rng_len] at h1
  unfold endsL
  omega
/-- the partner of an end -/
def tabI (L : List (Int × Int)) : List (Int × Int) := L.flatMap fun p => [(p.1, p.2), (p.2, p.1)]
def parI (L : List (Int × Int)) (e : Int) : Option Int := ((tabI L).find? fun q => decide (q.1 = e)).map (·.2)
theorem tabI_app (L M : List (Int × Int)) : tabI (L ++ M) = tabI L ++ tabI M := by unfold tabI; rw [List.flatMap_append]
theorem tabI_keys (L : List (Int × Int)) : (tabI L).map (·.1) = flat L := by
  induction L with
  | nil => rfl
  | cons p L ih =>
    rw [flat_cons, ← ih]
    rfl
theorem parI_none {L : List (Int × Int)} {e : Int} : parI L e = none ↔ e ∉ flat L := by
  unfold parI
  rw [Option.map_eq_none_iff, List.find?_eq_none, ← tabI_keys, List.mem_map]
  constructor
  · rintro h ⟨q, hq, rfl⟩
    exact h q hq (decide_eq_true rfl)
  · intro h q hq c
    exact h ⟨q, hq, of_decide_eq_true c⟩
theorem Lay.tail {n : Int} {d : List (Int × Int)} {r : List (Int × Int)} (h : Lay n (d ++ r)) : Lay n r := by
  refine ⟨h.n1, h.n60, fun p hp => h.cp p (List.mem_append_right _ hp), (List.pairwise_append.mp h.asc).2.1, ?_⟩
  have := h.nd
  rw [flat_app] at this
  exact (List.nodup_append.mp this).2.1
theorem nodup_sub {α : Type} [BEq α] [LawfulBEq α] : ∀ {l m : List α}, l.Nodup → (∀ x ∈ l, x ∈ m) → l.length ≤ m.length
  | [], _, _, _ => Nat.zero_le _
  | a :: l, m, nd, h => by
    obtain ⟨h1, h2⟩ := List.nodup_cons.mp nd
    have ha := h a List.mem_cons_self
    have ih := nodup_sub (l := l) (m := m.erase a) h2 fun x hx => (List.mem_erase_of_ne (fun e : x = a => h1 (e ▸ hx))).mpr (h x (List.mem_cons_of_mem _ hx))
    rw [List.length_erase_of_mem ha] at ih
    have := List.length_pos_of_mem ha
    rw [List.length_cons]
    omega
theorem Lay.len {n : Int} {L : List (Int × Int)} (h : Lay n L) : L.length ≤ 60 := by
  have h1 : (flat L).length ≤ (endsL n).length := nodup_sub h.nd fun e he => by
    obtain ⟨p, hp, q⟩ := mem_flat.mp he
    have := h.cp p hp
    rw [mem_endsL]
    omega
  have h2 := endsL_len (n := n) (by have := h.n1; omega)
  have h3 := h.n60
  rw [flat_len] at h1
  omega
end Vf
namespace Vf
open PySem PySem.Spec PyProof.Rows L2
/-! ### lists -/
theorem map_eraseI {α β : Type} (f : α → β) : ∀ (l : List α) (k : Nat), (l.map f).eraseIdx k = (l.eraseIdx k).map f
  | [], _ => rfl
  | _ :: _, 0 => rfl
  | a :: l, k + 1 => by
    rw [List.map_cons, List.eraseIdx_cons_succ, List.eraseIdx_cons_succ, List.map_cons, map_eraseI f l k]
theorem perm_erase {α : Type} : ∀ {l : List α} {k : Nat} {x : α}, l[k]? = some x → l.Perm (x :: l.eraseIdx k)
  | [], _, _, h => by simp at h
  | a :: l, 0, x, h => by
    have e : a = x := Option.some.inj h
    subst e
    exact List.Perm.refl _
  | a :: l, k + 1, x, h => by
    have ih := perm_erase (l := l) (k := k) (x := x) (by simpa using h)
    rw [List.eraseIdx_cons_succ]
    exact (ih.cons a).trans (List.Perm.swap x a _)
theorem seqIx {i : Int} {n : Nat} (h0 : 0 ≤ i) (h1 : i < n) : seqIndex? i n = some i.toNat := by
  unfold seqIndex?
  simp only [show ¬ i < 0 by omega, if_false]
  rw [if_pos (by simp; omega)]
theorem cut_ints (l : List Int) (lo hi : Option Int) : ∃ m : List Int, cutV (l.map V.int) lo hi = m.map V.int ∧ m.length ≤ l.length := by
  refine ⟨(l.drop (HT.sIx (l.map V.int).length 0 lo)).take (HT.sIx (l.map V.int).length (l.map V.int).length hi - HT.sIx (l.map V.int).length 0 lo), ?_, ?_⟩
  · unfold cutV
    rw [← List.map_drop, ← List.map_take]
  · rw [List.length_take, List.length_drop]
    omega
/-! ### sorted couplings -/
/-- which coupling a value is -/
def keyP (H : Hp) (v : V) : Int × Int := match v with
  | .ref t => match H t with
    | some (.tup [.int a, .int b]) => (a, b)
    | _ => (0, 0)
  | _ => (0, 0)
theorem keyP_of {H : Hp} {v : V} {p : Int × Int} (h : Pr H v p) : keyP H v = p := by
  obtain ⟨t, rfl, e⟩ := h
  simp only [keyP, e]
theorem prs_key {H : Hp} : ∀ {xs : List V} {L : List (Int × Int)}, Prs H xs L → xs.map (keyP H) = L
  | _, _, .nil => rfl
  | _, _, .cons r t => by rw [List.map_cons, keyP_of r, prs_key t]
theorem prs_all {H : Hp} : ∀ {xs : List V} {L : List (Int × Int)}, Prs H xs L → ∀ x ∈ xs, Pr H x (keyP H x)
  | _, _, .nil, _, h => absurd h (by simp)
  | _, _, .cons r t, x, h => by
    rcases List.mem_cons.mp h with rfl | h
    · rw [keyP_of r]; exact r
    · exact prs_all t x h
theorem prs_of {H : Hp} : ∀ {ys : List V}, (∀ y ∈ ys, Pr H y (keyP H y)) → Prs H ys (ys.map (keyP H))
  | [], _ => .nil
  | y :: ys, h => .cons (h y List.mem_cons_self) (prs_of fun z hz => h z (List.mem_cons_of_mem _ hz))
def Asc (L : List (Int × Int)) : Prop := L.Pairwise fun p q => p.1 < q.1 ∨ (p.1 = q.1 ∧ p.2 < q.2)
theorem flat_perm {L M : List (Int × Int)} (h : L.Perm M) : (flat L).Perm (flat M) := h.flatMap_right _
theorem nd_of_flat : ∀ {L : List (Int × Int)}, (flat L).Nodup → L.Nodup
  | [], _ => List.nodup_nil
  | p :: L, h => by
    rw [flat_cons] at h
    obtain ⟨h1, h2⟩ := List.nodup_cons.mp h
    refine List.nodup_cons.mpr ⟨fun hp => h1 (List.mem_cons_of_mem _ (mem_flat.mpr ⟨p, hp, .inl rfl⟩)), nd_of_flat (List.nodup_cons.mp h2).2⟩
theorem r_sortedP {K : PySem.W.Frag} {H : Hp} {a : Addr} {xs : List V} {L : List (Int × Int)} {Q : VK} (hs : SqL K H a xs) (hp : Prs H xs L) (nd : L.Nodup)
    (h : ∀ ys M p, M.Perm L → Asc M → Prs H ys M → H p = none → Q (.ref p) (upd H p (.lst ys))) : rSortedPO K [.ref a] H Q := by
  refine ⟨a, xs, keyP H, rfl, hs, fun x hx => prs_all hp x hx, fun ys p srt stb np => ?_⟩
  have perm : (ys.map (keyP H)).Perm L := by
    rw [← prs_key hp]
    exact stb.perm.map _
  refine h ys (ys.map (keyP H)) p perm ?_ (prs_of fun y hy => prs_all hp y (stb.perm.mem_iff.mp hy)) np
  unfold Asc
  rw [List.pairwise_map]
  have nd2 : ys.Pairwise fun x y => keyP H x ≠ keyP H y := by
    have := perm.nodup_iff.mpr nd
    rw [List.Nodup, List.pairwise_map] at this
    exact this
  exact (srt.and nd2).imp fun {x y} c => by
    have c1 := SrtO.lexB_no.mp c.1
    have c2 : ¬ ((keyP H x).1 = (keyP H y).1 ∧ (keyP H x).2 = (keyP H y).2) := fun z => c.2 (Prod.ext z.1 z.2)
    omega
/-! ### all but t -/
def SameX (t : Addr) (H H' : Hp) : Prop := ∀ b o, b ≠ t → H b = some o → H' b = some o
theorem SameX.refl {t : Addr} {H : Hp} : SameX t H H := fun _ _ _ h => h
theorem SameX.trans {t : Addr} {H H1 H2 : Hp} (a : SameX t H H1) (b : SameX t H1 H2) : SameX t H H2 := fun x o n h => b x o n (a x o n h)
theorem SameX.of {t : Addr} {H H' : Hp} (h : Same H H') : SameX t H H' := fun b o _ e => h b o e
theorem SameX.ofBut {t : Addr} {H H' : Hp} (h : But t H H') : SameX t H H' := fun b o n e => by rw [h b n]; exact e
theorem SameX.set {t x : Addr} {o : HO} {H H' : Hp} (s : SameX t H H') (n : H x = none) : SameX t H (upd H' x o) := fun b u nb e => by
  rw [upd_ne (ne_of_none e n)]
  exact s b u nb e
theorem SameX.prs {t : Addr} {o : HO} {H H' : Hp} {xs : List V} {L : List (Int × Int)} (s : SameX t H H') (ht : H t = some o) (no : ∀ xs, o ≠ .tup xs) (h : Prs H xs L) : Prs H' xs L :=
  pair_mono h fun _ _ ⟨a, e, f⟩ => ⟨a, e, s _ _ (ne_of f ht fun z => no _ z.symm) f⟩
theorem SameX.same {t : Addr} {B H H' : Hp} (s : SameX t H H') (b : Same B H) (n : B t = none) : Same B H' := fun a o e => s a o (ne_of_none e n) (b a o e)
theorem Tap.lst {H : Hp} {t : Addr} (h : Tap H t) : ∃ xs, H t = some (.lst xs) := let ⟨_, _, _, e, _⟩ := h; ⟨_, e⟩
/-- a layout's making, step by step -/
structure Mk (n : Int) (l : List Int) (L : List (Int × Int)) : Prop where
  cp : ∀ p ∈ L, p.1 < p.2
  nd : (l ++ flat L).Nodup
  sub : ∀ e ∈ l ++ flat L, e ∈ endsL n
theorem Mk.drop {n : Int} {l : List Int} {L : List (Int × Int)} {a b : Int} {i j : Nat} (h : Mk n l L) (ha : l[i]? = some a) (hb : (l.eraseIdx i)[j]? = some b) : Mk n ((l.eraseIdx i).eraseIdx j) L ∧ Mk n ((l.eraseIdx i).eraseIdx j) (L ++ [(min a b, max a b)]) := by
  have p1 := (perm_erase ha).trans ((perm_erase hb).cons a)
  have nd1 : (a :: b :: ((l.eraseIdx i).eraseIdx j) ++ flat L).Nodup := ((p1.append_right (flat L)).nodup_iff).mp h.nd
  have sub1 : ∀ e ∈ a :: b :: ((l.eraseIdx i).eraseIdx j) ++ flat L, e ∈ endsL n := fun e he => h.sub e ((p1.append_right (flat L)).mem_iff.mpr he)
  obtain ⟨q1, q2⟩ := List.nodup_cons.mp (show (a :: (b :: ((l.eraseIdx i).eraseIdx j ++ flat L))).Nodup from nd1)
  obtain ⟨q3, q4⟩ := List.nodup_cons.mp q2
  have nab : a ≠ b := fun z => q1 (by rw [z]; simp)
  refine ⟨⟨h.cp, q4, fun e he => sub1 e (List.mem_cons_of_mem _ (List.mem_cons_of_mem _ he))⟩, fun p hp => ?_, ?_, fun e he => ?_⟩
  · rcases List.mem_append.mp hp with hp | hp
    · exact h.cp p hp
    · rw [List.mem_singleton.mp hp]
      show min a b < max a b
      omega
  · rw [flat_app, flat_cons, flat_nil]
    have pm : ([min a b, max a b] : List Int).Perm [a, b] := by
      by_cases c : a ≤ b
      · rw [Int.min_eq_left c, Int.max_eq_right c]
      · rw [Int.min_eq_right (by omega), Int.max_eq_left (by omega)]
        exact List.Perm.swap a b []
    have pp : ((l.eraseIdx i).eraseIdx j ++ (flat L ++ [min a b, max a b])).Perm (a :: b :: ((l.eraseIdx i).eraseIdx j ++ flat L)) := by
      rw [← List.append_assoc]
      refine (List.Perm.append_left _ pm).trans ?_
      exact (List.perm_append_comm (l₁ := (l.eraseIdx i).eraseIdx j ++ flat L) (l₂ := [a, b]))
    exact pp.nodup_iff.mpr nd1
  · rw [flat_app, flat_cons, flat_nil] at he
    have : e ∈ (l.eraseIdx i).eraseIdx j ++ flat L ∨ e = a ∨ e = b := by
      rcases List.mem_append.mp he with he | he
      · exact .inl (List.mem_append_left _ he)
      · rcases List.mem_append.mp he with he | he
        · exact .inl (List.mem_append_right _ he)
        · have : e = min a b ∨ e = max a b := by simpa using he
          omega
    rcases this with z | z | z
    · exact sub1 e (List.mem_cons_of_mem _ (List.mem_cons_of_mem _ z))
    · exact sub1 e (by rw [z]; simp)
    · exact sub1 e (by rw [z]; simp)
theorem Mk.lay {n : Int} {l : List Int} {L M : List (Int × Int)} (h : Mk n l L) (n1 : 1 ≤ n) (n2 : n ≤ 60) (pm : M.Perm L) (asc : Asc M) : Lay n M := by
  obtain ⟨_, q2, _⟩ := List.nodup_append.mp h.nd
  refine ⟨n1, n2, fun p hp => ?_, asc, (flat_perm pm).nodup_iff.mpr q2⟩
  have hp' := pm.mem_iff.mp hp
  have c := h.cp p hp'
  have e1 := mem_endsL.mp (h.sub p.1 (List.mem_append_right _ (mem_flat.mpr ⟨p, hp', .inl rfl⟩)))
  have e2 := mem_endsL.mp (h.sub p.2 (List.mem_append_right _ (mem_flat.mpr ⟨p, hp', .inr rfl⟩)))
  omega
end Vf
namespace Vf
open PySem PySem.Spec PyProof.Rows L2
theorem at_int {ns : List Int} {r : Int} (h0 : 0 ≤ r) (h1 : r < ns.length) : ∃ v : Int, atI (ns.map V.int) r = some (.int v) ∧ ns[r.toNat]? = some v := by
  have h : r.toNat < ns.length := by omega
  refine ⟨ns[r.toNat], at_of (j := r.toNat) (by omega) (by rw [List.getElem?_map, List.getElem?_eq_getElem h]; rfl), List.getElem?_eq_getElem h⟩
theorem get_ints {ns : List Int} {k : Nat} (h : k < ns.length) : ∃ v : Int, (ns.map V.int)[k]? = some (.int v) ∧ ns[k]? = some v := ⟨ns[k], by rw [List.getElem?_map, List.getElem?_eq_getElem h]; rfl, List.getElem?_eq_getElem h⟩
theorem Mk.len {n : Int} {l : List Int} {L : List (Int × Int)} (h : Mk n l L) (n1 : 1 ≤ n) (n2 : n ≤ 60) : l.length + 2 * L.length ≤ 121 := by
  have h1 := nodup_sub h.nd h.sub
  have h2 := endsL_len (n := n) (by omega)
  rw [List.length_append, flat_len] at h1
  omega
theorem tyL {K : PySem.W.Frag} {H : Hp} {a : Addr} {xs : List V} (h : H a = some (.lst xs)) : tyV K "list" (.ref a) H := Or.inl ⟨rfl, _, Or.inl (Or.inl h)⟩
theorem r_pop {l : Addr} {xs : List V} {i : Int} {y : V} {H : Hp} {Q : VK} (hl : H l = some (.lst xs)) (h0 : 0 ≤ i) (h1 : i < xs.length) (h2 : i < 2 ^ 63) (hy : xs[i.toNat]? = some y) (h : Q y (upd H l (.lst (xs.eraseIdx i.toNat)))) : rPopAt (.ref l) [.int i] H Q :=
  ⟨l, xs, i, i.toNat, y, rfl, rfl, hl, by omega, h2, seqIx h0 h1, hy, h⟩
theorem r_app {l : Addr} {xs : List V} {y : V} {H : Hp} {Q : VK} (hl : H l = some (.lst xs)) (hz : xs.length < sizeLine) (h : Q .non (upd H l (.lst (xs ++ [y])))) : rAppend (.ref l) [y] H Q := ⟨l, xs, y, rfl, rfl, hl, hz, h⟩
end Vf
namespace Vf
open PySem PySem.Spec PyProof.Rows L2
/-! ### data of small texts -/
structure Sm (N k : Nat) (d : PyData) : Prop where
  sh : d.showable = true
  nd : d.hasDict = false
  dp : d.depth ≤ k
  ln : d.shown.length ≤ N
  lay : d.canLay0 = true
theorem Sm.mono {N k N' k' : Nat} {d : PyData} (h : Sm N k d) (h1 : N ≤ N') (h2 : k ≤ k') : Sm N' k' d := ⟨h.sh, h.nd, Nat.le_trans h.dp h2, Nat.le_trans h.ln h1, h.lay⟩
theorem Sm.shaped {N k : Nat} {d : PyData} (h : Sm N k d) (hk : k ≤ 64) : SeqAt.shaped d = true := by
  unfold SeqAt.shaped
  rw [h.lay, Bool.true_and]
  exact decide_eq_true (Nat.le_trans h.dp hk)
theorem sm_all {N k : Nat} : ∀ {ds : List PyData}, (∀ d ∈ ds, Sm N k d) → PyData.showableAll ds = true ∧ PyData.hasDictAll ds = false ∧ PyData.depthAll ds ≤ k ∧ ((PyData.shownAll ds).map (·.length)).sum ≤ N * ds.length ∧ PyData.canLayAll0 ds = true
  | [], _ => ⟨by simp only [PyData.showableAll], by simp only [PyData.hasDictAll], by simp only [PyData.depthAll]; omega, by simp only [PyData.shownAll]; simp, by simp only [PyData.canLayAll0]⟩
  | d :: ds, h => by
    have h1 := h d List.mem_cons_self
    obtain ⟨a1, a2, a3, a4, a5⟩ := sm_all (ds := ds) fun x hx => h x (List.mem_cons_of_mem _ hx)
    refine ⟨by simp only [PyData.showableAll, h1.sh, a1, Bool.and_self], by simp only [PyData.hasDictAll, h1.nd, a2, Bool.or_self], ?_, ?_, by simp only [PyData.canLayAll0, h1.lay, a5, Bool.and_self]⟩
    · simp only [PyData.depthAll]
      have := h1.dp
      omega
    · simp only [PyData.shownAll, List.map_cons, List.sum_cons, List.length_cons]
      have := h1.ln
      rw [Nat.mul_succ]
      omega
theorem Sm.lst {N k : Nat} {ds : List PyData} (h : ∀ d ∈ ds, Sm N k d) : Sm ((N + 2) * ds.length + 3) (k + 1) (.list ds) := by
  obtain ⟨a1, a2, a3, a4, a5⟩ := sm_all h
  refine ⟨by simp only [PyData.showable, a1], by simp only [PyData.hasDict, a2], by simp only [PyData.depth]; omega, ?_, by simp only [PyData.canLay0, a5]⟩
  simp only [PyData.shown]
  have := listText_len_le (PyData.shownAll ds)
  rw [PyData.shownAll_length] at this
  have e : (N + 2) * ds.length = N * ds.length + 2 * ds.length := by rw [Nat.add_mul]
  omega
theorem Sm.tup {N k : Nat} {ds : List PyData} (h : ∀ d ∈ ds, Sm N k d) : Sm ((N + 2) * ds.length + 3) (k + 1) (.tuple ds) := by
  obtain ⟨a1, a2, a3, a4, a5⟩ := sm_all h
  refine ⟨by simp only [PyData.showable, a1], by simp only [PyData.hasDict, a2], by simp only [PyData.depth]; omega, ?_, by simp only [PyData.canLay0, a5]⟩
  simp only [PyData.shown]
  have := tupleText_len_le (PyData.shownAll ds)
  rw [PyData.shownAll_length] at this
  have e : (N + 2) * ds.length = N * ds.length + 2 * ds.length := by rw [Nat.add_mul]
  omega
theorem Sm.int {i : Int} (h : i.natAbs < 10 ^ 12) : Sm 13 1 (.int i) := by
  refine ⟨?_, by simp only [PyData.hasDict], by simp only [PyData.depth]; omega, PyData.shown_int_le h, by simp only [PyData.canLay0]⟩
  simp only [PyData.showable]
  exact decide_eq_true (log2_small (Nat.lt_of_lt_of_le (Nat.lt_trans h (show 10 ^ 12 < 2 ^ 64 by decide)) (Nat.pow_le_pow_right (by decide) (by decide))))
theorem Sm.non : Sm 13 1 .none := by
  refine ⟨by simp only [PyData.showable], by simp only [PyData.hasDict], by simp only [PyData.depth]; omega, ?_, by simp only [PyData.canLay0]⟩
  rw [PyData.shown_none]
  decide
theorem Sm.rep {K : PySem.W.Frag} {N k : Nat} {d : PyData} {a : Addr} {H : Hp} {Q : VK} (s : Sm N k d) (hN : N ≤ 100000) (hk : k ≤ 60) (hd : Dp K H (.ref a) d) (q : Q (.str d.shown) H) :
    rRepr K [.ref a] H Q :=
  ⟨a, d, rfl, hd, s.sh, s.nd, Nat.le_trans s.dp hk, szl (Nat.le_trans s.ln hN), q⟩
/-! ### values that bear data -/
theorem dpa_ints {K : PySem.W.Frag} {H : Hp} : ∀ ns : List Int, DpAll K H (ns.map V.int) (ns.map PyData.int)
  | [] => .nil
  | n :: ns => .cons (.int n) (dpa_ints ns)
def dP (p : Int × Int) : PyData := .tuple [.int p.1, .int p.2]
def dL (L : List (Int × Int)) : PyData := .list (L.map dP)
def dI (ns : List Int) : PyData := .list (ns.map .int)
theorem dpa_prs {K : PySem.W.Frag} {H : Hp} : ∀ {xs : List V} {L : List (Int × Int)}, Prs H xs L → DpAll K H xs (L.map dP)
  | _, _, .nil => .nil
  | _, _, .cons ⟨t, e, h⟩ r => .cons (e ▸ .tup (sqt h) (.cons (.int _) (.cons (.int _) .nil))) (dpa_prs r)
theorem dp_lay {K : PySem.W.Frag} {H : Hp} {a : Addr} {xs : List V} {L : List (Int × Int)} (h : SqL K H a xs) (p : Prs H xs L) : Dp K H (.ref a) (dL L) := .lst h (dpa_prs p)
theorem dp_ints {K : PySem.W.Frag} {H : Hp} {a : Addr} {ns : List Int} (h : SqL K H a (ns.map V.int)) : Dp K H (.ref a) (dI ns) := .lst h (dpa_ints ns)
theorem sm_ints {ns : List Int} {N : Nat} (h : ∀ i ∈ ns, i.natAbs < 10 ^ 12) (hl : ns.length ≤ N) : Sm (15 * N + 3) 2 (dI ns) := by
  refine (Sm.lst (N := 13) (k := 1) (ds := ns.map .int) fun d hd => ?_).mono (by rw [List.length_map]; omega) (by omega)
  obtain ⟨i, hi, rfl⟩ := List.mem_map.mp hd
  exact Sm.int (h i hi)
theorem sm_lay {L : List (Int × Int)} {N : Nat} (h : ∀ p ∈ L, p.1.natAbs < 10 ^ 12 ∧ p.2.natAbs < 10 ^ 12) (hl : L.length ≤ N) : Sm (35 * N + 3) 3 (dL L) := by
  refine (Sm.lst (N := 33) (k := 2) (ds := L.map dP) fun d hd => ?_).mono (by rw [List.length_map]; omega) (by omega)
  obtain ⟨p, hp, rfl⟩ := List.mem_map.mp hd
  refine (Sm.tup (N := 13) (k := 1) (ds := [.int p.1, .int p.2]) fun d hd => ?_).mono (by show (13 + 2) * 2 + 3 ≤ 33; omega) (by omega)
  rcases List.mem_cons.mp hd with rfl | hd
  · exact Sm.int (h p hp).1
  · rw [List.mem_singleton.mp hd]; exact Sm.int (h p hp).2
theorem Lay.small {n : Int} {L : List (Int × Int)} (h : Lay n L) : Sm 2103 3 (dL L) := (sm_lay (N := 60) (fun p hp => by have := h.cp p hp; have := h.n60; omega) h.len).mono (by omega) (by omega)
theorem r_neD {K : PySem.W.Frag} {x y : V} {H : Hp} {Q : VK} {N k : Nat} {d : PyData} (hx : Dp K H x d) (hy : Dp K H y d) (s : Sm N k d) (hk : k ≤ 64) (q : Q (.bl false) H) : rNeD K x y H Q := ⟨d, d, hx, hy, s.shaped hk, s.shaped hk, by rw [SeqAt.eqv_refl d s.lay]; exact q⟩
end Vf
namespace Vf
open PySem PySem.Spec PyProof.Rows L2
theorem lay_ints (ns : List Int) : (dI ns).canLay0 = true ∧ SeqAt.shaped (dI ns) = true := by
  have h : ∀ ns : List Int, PyData.canLayAll0 (ns.map .int) = true ∧ PyData.depthAll (ns.map .int) = 0 := fun ns => by
    induction ns with
    | nil => exact ⟨by simp only [List.map_nil, PyData.canLayAll0], by simp only [List.map_nil, PyData.depthAll]⟩
    | cons n ns ih => exact ⟨by simp only [List.map_cons, PyData.canLayAll0, PyData.canLay0, ih.1, Bool.and_self], by simp only [List.map_cons, PyData.depthAll, PyData.depth, ih.2]; rfl⟩
  have h1 : (dI ns).canLay0 = true := by simp only [dI, PyData.canLay0, (h ns).1]
  refine ⟨h1, ?_⟩
  unfold SeqAt.shaped
  rw [h1, Bool.true_and]
  exact decide_eq_true (by simp only [dI, PyData.depth, (h ns).2]; omega)
theorem r_eqI1 {K : PySem.W.Frag} {x y : V} {H : Hp} {Q : VK} {ns : List Int} (hx : Dp K H x (dI ns)) (hy : Dp K H y (dI ns)) (q : Q (.bl true) H) : rEqD K x y H Q :=
  ⟨_, _, hx, hy, (lay_ints ns).2, (lay_ints ns).2, by rw [SeqAt.eqv_refl _ (lay_ints ns).1]; exact q⟩
theorem par_mem {n : Int} {L : List (Int × Int)} (hL : Lay n L) {e i : Int} (h : parI L e = some i) : -n ≤ i ∧ i ≤ n ∧ i ≠ 0 := by
  unfold parI at h
  obtain ⟨q, hq, rfl⟩ := Option.map_eq_some_iff.mp h
  have hm := List.mem_of_find?_eq_some hq
  unfold tabI at hm
  obtain ⟨p, hp, hm⟩ := List.mem_flatMap.mp hm
  have := hL.cp p hp
  simp only [List.mem_cons, List.not_mem_nil, or_false] at hm
  rcases hm with rfl | rfl
  · exact ⟨by show -n ≤ p.2; omega, this.2.2.1, this.2.2.2.2⟩
  · exact ⟨this.1, by show p.1 ≤ n; omega, this.2.2.2.1⟩
theorem log_small {i : Int} (h : i.natAbs < 2 ^ 1000) : i.natAbs.log2 < 1920 := log2_small (Nat.lt_of_lt_of_le h (Nat.pow_le_pow_right (by decide) (by decide)))
end Vf
namespace Vf
open PySem PySem.Spec PyProof.Rows L2 NdefX ClX
/-! ### own errors whose __init__ asks super() -/
/-- the object of a class of errors, over ValueError at last -/
def ErrAt (h : Heap) (C : Addr) : Prop := ∃ (nm q : Str) (ns : Addr) (bs ms : List Value) (sn : List Str) (sub : List Value) (ab : Bool) (co : Option Bool) (di : Option Addr) (k0 k1 k2 k3 k5 : Option Value),
  h.get? C = some (excClassObj nm q C ns bs ms true sn sub ab co di k0 k1 k2 k3 k5 "ValueError.__new__") ∧ PySem.HandSPX.refsVE ms = true
theorem OexC.at_ {K : PySem.W.Frag} {C : Addr} {h : Heap} (T : OexC K C) (X : K.In h) : ErrAt h C := by
  obtain ⟨nm, q, ns, bs, ms, sn, sub, ab, co, di, k0, k1, k2, k3, k5, e, r⟩ := T.cls
  exact ⟨nm, q, ns, bs, ms, sn, sub, ab, co, di, k0, k1, k2, k3, k5, X _ _ e, r⟩
/-- the wrapper of ValueError.__init__, bound to a new error, called: the error stays as it is but for the place of its arguments -/
theorem call_mwV {P : Program} {w : World} {A : Around} {E : Value → Shared → Prop} {s : Shared} {u a C t0 : Addr} {us : List Value} {Q : Value → Shared → Prop} (hC : ErrAt s.heap C) (ha : s.heap.get? a = some (HandSPX.excO C t0))
    (hu : s.heap.get? u = some (PySem.W.kxs_mw "ValueError.__init__" a)) (few : us.length ≤ sizeLine) (next : ∀ (hp : Heap) (t1 : Addr), (∀ b o, b ≠ a → s.heap.get? b = some o → hp.get? b = some o) → hp.get? a = some (HandSPX.excO C t1) → Q .none { s with heap := hp }) :
    wpAny (model P w) A (call (.ref u) us) Q E s := by
  obtain ⟨hp, gs, dn, tk, os⟩ := s
  obtain ⟨nm, q, ns, bs, ms, sn, sub, ab, co, di, k0, k1, k2, k3, k5, hcls, _⟩ := hC
  have V := PySem.F.excBase_ValueError
  have wrap : (Value.type "method-wrapper" == Value.type "method" || Value.type "method-wrapper" == Value.type "builtin_function_or_method" || Value.type "method-wrapper" == Value.type "method-wrapper") = true := by decide
  have last : ∀ hh : Heap, (∀ b o, b ≠ a → hp.get? b = some o → hh.get? b = some o) → hh.get? a = some (HandSPX.excO C hp.objs.size) → Q .none ⟨hh, gs, dn, tk, os⟩ := fun hh k e => next hh _ k e
  refine wpAny_call (codeAny_of_tree (show wpAny (model P w) A.in1 (callAny (.ref u) ⟨us, []⟩) _ _ _ from ?_))
  unfold callAny
  refine wpAny_bind (wpAny_load hu (?_ : wpAny _ _ _ _ _ _))
  simp only [wrap, if_true]
  refine PySem.W.KFB.if_so (by decide) (wpAny_bind (PySem.W.check_bound_init V.toExcCallFacts hcls ha rfl (wpAny_bind (wpAny_pure (wpAny_pure ⟨plainId_quiet V.init.plain _, codeAny_builtin V.initEntry ?_⟩)))))
  exact PySem.W.exc_init_tree (cls := .ref C) (t0 := t0) (dv := none) (c2 := .none) (c3 := .none) (b4 := .bool false) ha few fun hh k e _ => last hh k e
/-- what stands above a class D in the order of lookup says ValueError.__init__ -/
abbrev supV (K : PySem.W.Frag) (D : Addr) : Prop := PySem.W.ks_superIn K D D "__init__" = some (some (.builtin "ValueError.__init__"))
/-- how the flow of such a body ends the call -/
theorem ends_n {CX : CXT} {P : Program} {w : World} {K : PySem.W.Frag} {mg : Str → Option Value} {base : Heap} {N : List Str} {F : NF} {f : Addr} {A : Around} {outer : List Env} {s s' : Shared} {H : Hp} {Q : VK} {E : XK} {fl : Flow}
    (h : SP (ncx CX P w K mg base N F f A outer s H E) [] { nx := fun _ H' => Q .non H', rt := Q } fl s') : CE outer P w H s Q (match fl with | .ret v => v | _ => .none) s' := by
  match fl, h with
  | .ret u, ⟨v, _, H', J, rv, q⟩ => exact ⟨v, H', J.os, J.bare, J.base, J.hok, rv, q⟩
  | .next, ⟨_, H', J, q⟩ => exact ⟨.non, H', J.os, J.bare, J.base, J.hok, rfl, q⟩
  | .brk, ⟨_, _, _, q⟩ => exact q.elim
  | .cont, ⟨_, _, _, q⟩ => exact q.elim
theorem fn_sup {CX : CXT} {P : Program} {w : World} {K : PySem.W.Frag} {mg : Str → Option Value} {base : Heap} {k : Nat} {f c cc C : Addr} {name qual file : Str} {params : Arguments} {scope : Scope} {ar : Arg} {e : Expr} {rest : List Stmt} {p0 p1 p2 p3 p4 : Pos}
    {kV doc pm ct oc ccl cl : Value} {an od cdd cld : Option Addr} {osl ccs csl : Array (Option Value)} {vs0 : Array Value} {tf : Tok} {N ps : List Str} {sp : Sp} {pl : Sem Bool}
    (lk : K.lookup f = some ⟨oc, od, .func (PySem.W.fnX name qual params (.Expr (.Call (.Attribute (.Call (.Name "super" p0) [] [] p1) "__init__" p2) [e] [] p3) p4 :: rest) scope [("__class__", cc)] .none kV doc pm an (.ref c) ct), osl⟩)
    (hcd : PySem.W.codeIn K (.ref c) qual = true) (S : NScope N ps ["__class__"] scope)
    (lcc : K.lookup cc = some ⟨cl, cld, .cell (some (.ref C)), csl⟩) (hp : (params.posonlyargs ++ params.args).head? = some ar) (eps : ps.head? = some ar.arg)
    (lc : K.lookup c = some ⟨ccl, cdd, .fields vs0, ccs⟩) (hvs : vs0[2]? = some (.str file tf)) (hfile : ((P.main.file : Str) == file) = true) (hsuper : mg "super" = none)
    (htop : (P.main.scope.names.lookup ("super" : Str)).isSome = false) (hst : PySem.W.nsIn K cStatics "thirdparty.any" = some none) (hks : scope.names.lookup ("super" : Str) = some .globalImplicit)
    (T : OexC K C) (sV : supV K C) (vE : PySem.W.subIn K (.ref C) (.type "ValueError") = some true)
    (hev : ∀ L, eval (.Call (.Attribute (.Call (.Name "super" p0) [] [] p1) "__init__" p2) [e] [] p3) (PySem.W.envX qual scope L f (.ref c) [("__class__", cc)]) = (do
      let ov ← attributeBase (.Call (.Name "super" p0) [] [] p1) "__init__" (PySem.W.envX qual scope L f (.ref c) [("__class__", cc)]) (eval (.Call (.Name "super" p0) [] [] p1) (PySem.W.envX qual scope L f (.ref c) [("__class__", cc)]))
      standAt p2.atName
      let (ff, first) ← holding [ov] (getMethod ov "__init__" pl)
      callWith p3 ff first (backTo p3 (starEach [e] (PySem.W.envX qual scope L f (.ref c) [("__class__", cc)]))) []))
    (hi : ∀ L, interactive (PySem.W.envX qual scope L f (.ref c) [("__class__", cc)]) = false) (hsw : ∀ L, swapsWith (.Call (.Attribute (.Call (.Name "super" p0) [] [] p1) "__init__" p2) [e] [] p3) none p4.line (PySem.W.envX qual scope L f (.ref c) [("__class__", cc)]) = pure false)
    (hse : ∀ L, starEach [e] (PySem.W.envX qual scope L f (.ref c) [("__class__", cc)]) = [(false, eval e (PySem.W.envX qual scope L f (.ref c) [("__class__", cc)]))])
    (len : ∀ vs H Q E, sp vs H Q E → vs.length = ps.length)
    (hb : ∀ (A : Around) (outer : List Env) (s : Shared) (H : Hp) (vs : List V) (Q : VK) (E : XK), Room k (A.deeper (envF ⟨name, qual, params, .Expr (.Call (.Attribute (.Call (.Name "super" p0) [] [] p1) "__init__" p2) [e] [] p3) p4 :: rest, scope, [("__class__", cc)], c⟩ f s.heap.objs.size)) → sp vs H Q E →
      ∃ a ws, vs = .ref a :: ws ∧ H a = some (exo a C none) ∧ ∃ ta, PA (ncx CX P w K mg base N ⟨name, qual, params, .Expr (.Call (.Attribute (.Call (.Name "super" p0) [] [] p1) "__init__" p2) [e] [] p3) p4 :: rest, scope, [("__class__", cc)], c⟩ f A outer s H E) [e] ta ∧
        ∃ t, PSs (ncx CX P w K mg base N ⟨name, qual, params, .Expr (.Call (.Attribute (.Call (.Name "super" p0) [] [] p1) "__init__" p2) [e] [] p3) p4 :: rest, scope, [("__class__", cc)], c⟩ f A outer s H E) rest t ∧
          ta (startF N vs [none]) H (fun us H1 => us.length ≤ 1000 ∧ H1 a = some (exo a C none) ∧ t { nx := fun _ H' => Q .non H', rt := Q } (startF N vs [none]) H1)) :
    FnOk P w K mg base CX (k + 1) f (PySem.W.fnX name qual params (.Expr (.Call (.Attribute (.Call (.Name "super" p0) [] [] p1) "__init__" p2) [e] [] p3) p4 :: rest) scope [("__class__", cc)] .none kV doc pm an (.ref c) ct) ps sp := by
  refine ⟨len, fun A outer s H args us vs Q E hr e0 hbd r hsp => ?_⟩
  obtain ⟨a, ws, rfl, ea, ta, hta, t, ht, hq⟩ := hb A outer s H vs Q E (hr.deeper _) hsp
  have hl := len _ _ _ _ hsp
  have keep : ∀ b o, base.get? b = some o → s.heap.get? b = some o := fun b o z => (e0.bs b o z).1
  have KX : K.In s.heap := e0.mod.kin.keeps keep
  have lim : s.heap.NoLimit := e0.mod.nolimit.keeps keep
  refine ks_codeAny_call_defAt hr.depth (KX _ _ lk) rfl lim (PySem.W.codeRec_of KX hcd) rfl hbd S.nocell (fun y hy => S.par y.1 (List.of_mem_zip (show (y.1, y.2) ∈ ps.zip us from hy)).1) (fun h₁ hns hk => ?_) S.co S.gen S.kind
  have CA : CellsAt [(("__class__" : Str), cc)] ["__class__"] [none] s.heap H := by
    refine ⟨rfl, fun y b e1 => ?_, fun x y b e1 e2 => ?_, fun i y e1 => ?_⟩
    · have hbb : b = cc := by
        by_cases hy : y = "__class__"
        · subst hy
          simp [List.lookup] at e1
          exact e1.symm
        · have : (y == ("__class__" : Str)) = false := by simpa using hy
          simp [List.lookup, this] at e1
      subst hbb
      exact ⟨(e0.bs _ _ (e0.mod.kin _ _ lcc)).2, _, _, KX _ _ lcc, rfl⟩
    · have one : ∀ z, List.lookup z [(("__class__" : Str), cc)] = some b → z = "__class__" := fun z hz => by
        by_cases hy : z = "__class__"
        · exact hy
        · have : (z == ("__class__" : Str)) = false := by simpa using hy
          simp [List.lookup, this] at hz
      rw [one x e1, one y e2]
    · cases i with
      | zero =>
        simp at e1
        subst e1
        exact ⟨cc, by simp [List.lookup], fun v hv => by simp at hv⟩
      | succ j => simp at e1
  have I := inv_startN (CX := CX) (F := ⟨name, qual, params, .Expr (.Call (.Attribute (.Call (.Name "super" p0) [] [] p1) "__init__" p2) [e] [] p3) p4 :: rest, scope, [("__class__", cc)], c⟩) (f := f) (E := E) (tk := s.toks + (ps.zip us).length) S hr.hd e0 hl r CA hns hk
  obtain ⟨u0, us', rfl, ru0, rus⟩ : ∃ u0 us', us = u0 :: us' ∧ RelV (.ref a) u0 ∧ Vals ws us' := by
    cases r with
    | cons ru rr => exact ⟨_, _, rfl, ru, rr⟩
  obtain rfl : u0 = Value.ref a := ru0
  have ndP : ps.Nodup := by
    have q := S.nd.sublist (List.take_sublist (ps.length + 1) N)
    have q2 := S.pre
    rw [show ps.length + [("__class__" : Str)].length = ps.length + 1 from rfl] at q2
    rw [q2] at q
    exact (List.nodup_append.mp q).1
  have hself : (fun y => (ps.zip (Value.ref a :: us')).reverse.lookup y) ar.arg = some (.ref a) := by
    refine zip_look (i := 0) ndP ?_ rfl
    rw [← eps, List.head?_eq_getElem?]
  have hlocal : scope.names.lookup ar.arg = some .local := S.par ar.arg (by
    cases ps with
    | nil => simp at eps
    | cons p ps => simp at eps; rw [eps]; exact List.mem_cons_self)
  have hfree : scope.names.lookup ("__class__" : Str) = some .free := S.frk _ (by simp)
  obtain ⟨nm', q', N', bs', bm', sn', sub', ab', col', dd', k0', k1', k2', k3', k5', hCk, hbm⟩ := T.cls
  have hcl : PySem.W.clsIn K C = some { name := nm', bases := bs', mro := .ref C :: bm', ns := N', qualname := q', hasDict := true, slotNames := sn', subclasses := sub', abstract := ab', collection := col', hasDel := false } := by unfold PySem.W.clsIn; rw [hCk] <;> rfl
  show _root_.PySem.wpAt (model P w) (A.deeper (envF ⟨name, qual, params, .Expr (.Call (.Attribute (.Call (.Name "super" p0) [] [] p1) "__init__" p2) [e] [] p3) p4 :: rest, scope, [("__class__", cc)], c⟩ f s.heap.objs.size)) (.func (.Expr (.Call (.Attribute (.Call (.Name "super" p0) [] [] p1) "__init__" p2) [e] [] p3) p4 :: rest) (PySem.W.envX qual scope s.heap.objs.size f (.ref c) [("__class__", cc)])) (execs (.Expr (.Call (.Attribute (.Call (.Name "super" p0) [] [] p1) "__init__" p2) [e] [] p3) p4 :: rest) (PySem.W.envX qual scope s.heap.objs.size f (.ref c) [("__class__", cc)])) _ _ _
  refine ks_wpAt_execs_cons (ks_wpAt_Expr_any (ks_wpAt_MethodCall ?_ (hev _)) (hi _) (hsw _))
  have KX1 : K.In h₁ := KX.keeps hk
  refine ks_wpAt_super_base hks hfree (by decide) rfl (KX1 _ _ lk) rfl hp rfl (KX1 _ _ lc) rfl hvs hfile htop ?_
  obtain ⟨mb, hmb1, hmb2⟩ := e0.mod.blt
  have bk : ∀ b o, base.get? b = some o → h₁.get? b = some o := fun b o z => hk b o (keep b o z)
  refine PySem.W.ks_loadName_global S.kind hks (Calls.loadGlobal_builtin (e0.mod.glob.keeps bk) hsuper (hmb1.keeps bk) ((hmb2 _ (by decide)).trans (show bootBuiltins "super" = some (.type "super") by decide +kernel)) ⟨rfl, ?_⟩)
  refine wpAny_loadName_free S.kind hfree rfl ⟨_, KX1 _ _ lcc, rfl⟩ ?_
  refine wpAny_loadName_local S.kind hlocal hns hself ?_
  refine ks_wpAny_isType_cls (KX1 _ _ hCk) rfl ⟨rfl, ?_⟩
  have hok1 := I.hok
  obtain ⟨t1, hax⟩ := exo_at (show HOk P w H h₁ from I.hok) ea
  have sub0 : PySem.W.mroIn K C (.ref C) = some true := by
    unfold PySem.W.mroIn
    rw [hcl]
    simp
  refine ks_wpAny_call_super (KX1 _ _ hCk) rfl hax rfl (fun c e => by cases e) (PySem.W.looks_mroIn KX1 sub0) (fun h2 e2 k2 => ?_)
  have I2 := pin_new (t' := s.toks + (ps.zip (Value.ref a :: us')).length) I k2 (Nat.le_refl _) e2 (fun v z => by cases z)
  have KX2 : K.In h2 := KX1.keeps k2
  have hax2 := k2 _ _ hax
  have IA : PySem.W.InstAt h2 a { cls := .ref C, dict := none, data := .fields #[.ref t1, .none, .none, .none, .bool false, .none] } C none := ⟨hax2, rfl, rfl, trivial⟩
  have aC : a ≠ C := PySem.W.ks_ne KX2 IA hcl
  have sV' : PySem.W.alongIn K "__init__" (((Value.ref C :: bm').dropWhile (· != .ref C)).drop 1) = some (some (.builtin "ValueError.__init__")) := by
    have z : PySem.W.ks_superIn K C C "__init__" = some (some (.builtin "ValueError.__init__")) := sV
    unfold PySem.W.ks_superIn at z
    rw [hcl] at z
    exact z
  refine PySem.W.kxs_getMethod PySem.W.kxs_ValueError e2 (PySem.W.looks_opaque KX2 hst) (l₀ := .ref C :: bm') (fun A Q E s k q => wpAny_bind ((PySem.W.looks_clsIn KX2 hcl) A _ E s k (wpAny_pure q))) rfl KX2 sV' (IA.type.andThen (PySem.W.looks_subIn KX2 vE)) aC (by decide) ?_
  have I3 := pin_new (t' := s.toks + (ps.zip (Value.ref a :: us')).length + 1) I2 (h' := h2.push (PySem.W.kxs_mw "ValueError.__init__" a)) (fun b o z => Heap.get?_push_of_some _ z) (Nat.le_refl _) (Heap.get?_push_at rfl rfl) (fun v z => by cases z)
  refine PySem.W.kxs_callWith (i := "ValueError.__init__") (x := a) (by rw [hse]; rfl) ?_
  have hz := (hta.run p3 _ _ _ _ _ I3 hq)
  have e3 : backTo p3 (starEach [e] (PySem.W.envX qual scope s.heap.objs.size f (.ref c) [("__class__", cc)])) = [(false, eval e (PySem.W.envX qual scope s.heap.objs.size f (.ref c) [("__class__", cc)]))] := by
    rw [hse]; rfl
  rw [e3]
  replace hz : wpAny (model P w) (A.deeper (envF ⟨name, qual, params, .Expr (.Call (.Attribute (.Call (.Name "super" p0) [] [] p1) "__init__" p2) [e] [] p3) p4 :: rest, scope, [("__class__", cc)], c⟩ f s.heap.objs.size)) (spliced (backTo p3 (starEach [e] (PySem.W.envX qual scope s.heap.objs.size f (.ref c) [("__class__", cc)])))) _ _ _ := hz
  rw [e3] at hz
  refine Calls.evalArgs_plain (wpAny_mono hz (fun vs4 s4 h4 => ?_) fun _ _ z => z)
  obtain ⟨vs', H4, I4, r4, hlen, ea4, q4⟩ := h4
  have hu := pin_at I4
  refine ⟨hu, ?_⟩
  obtain ⟨hp4, g4, d4, tk4, os4⟩ := s4
  obtain ⟨t4, hax4⟩ := exo_at I4.hok ea4
  refine call_mwV (OexC.at_ T I4.kIn) hax4 hu (by rw [List.nil_append, ← Paired.length r4, sizeLine_eq]; omega) fun h5 t5 k5 hx5 => ?_
  have J := I4.write (t' := tk4) (x := a) (e := a) (o := exo a C none) (by rw [ea4]; exact True.intro) (.inl rfl) k5 ⟨_, hx5⟩ (exo_ok hx5)
  have eu : upd H4 a (exo a C none) = H4 := by
    funext b
    by_cases hb : b = a
    · rw [hb, upd_same, ea4]
    · rw [upd_ne hb]
  rw [eu] at J
  refine wpAt_of_wpAny (wpAny_mono (ht.run _ _ _ _ _ (unpin (unpin J)) q4) (fun fl s' hs => ?_) fun e s' hs => hs)
  have z := ends_n hs
  cases fl <;> exact z
/-! ### the text of such an error, and its field -/
/-- None or an int that is not too long -/
def Easy (v : V) : Prop := v = .non ∨ ∃ i : Int, v = .int i ∧ i.natAbs.log2 < 1920
theorem easy_text {i : Int} (h : i.natAbs.log2 < 1920) : ((toString i : String) : Str).length ≤ 2000 := by
  have e := int_text_length_le (k := 1920) (by decide) h
  show (Str.ofString (toString i)).length ≤ 2000
  rw [PySem.ofString_length]
  omega
section
variable {X : Cx}
theorem pe_fmtE {e : Expr} {te : TE} {pos : Pos} (he : PE X e te) : PE X (.FormattedValue e (-1) none pos) (fun σ H Q => te σ H fun x H1 => Easy x ∧ ∀ m : Str, m.length ≤ 2000 → Q (.str m) H1) := by
  constructor
  intro pins s σ H Q I h
  apply wpAny_FormattedValue_plain
  refine thn (he.run pins s σ H _ I h) ?_
  rintro v s1 ⟨_, H1, J, r, rfl | ⟨i, rfl, hi⟩, q⟩
  · cases (show v = Value.none from r)
    exact wpAny_formatField_none ⟨.str "None", H1, J.tok _, ⟨_, rfl⟩, q _ (by decide)⟩
  · obtain ⟨_, rfl⟩ := r
    exact wpAny_formatField_int hi ⟨.str (toString i), H1, J.tok _, ⟨_, rfl⟩, q _ (easy_text hi)⟩
/-- a part of an error's text -/
inductive Part (par : Str) : Expr → Prop where
  | cst (s : Str) (j : Nat) (p : Pos) (h : s.length ≤ 2000) : Part par (.Constant (.str s) j p)
  | fmt (p p' : Pos) : Part par (.FormattedValue (.Name par p) (-1) none p')
theorem parts_ok {par : Str} {i : Nat} (hN : X.N[i]? = some par) (hv : Vis X.env.scope par) (hd : (par == ("__debug__" : Str)) = false) (hcd : (par == ("__classdict__" : Str)) = false) :
    ∀ l : List Expr, (∀ e ∈ l, Part par e) → ∃ ts, PJ X l ts ∧ ∀ (acc : Str) (σ : L2.St) (H : Hp) (v : V) (Q : Str → Hp → Prop), σ[i]? = some (some v) → Easy v → acc.length + 2000 * l.length ≤ sizeLine → (∀ m, Q m H) → tJs ts acc σ H Q
  | [], _ => ⟨[], .nil, fun acc σ H v Q _ _ _ q => q acc⟩
  | e :: l, h => by
    obtain ⟨ts, hp, ht⟩ := parts_ok hN hv hd hcd l fun x hx => h x (List.mem_cons_of_mem _ hx)
    cases h e List.mem_cons_self with
    | cst s j p hs =>
      refine ⟨_ :: ts, .cons pe_str hp, fun acc σ H v Q e1 ev hz q => ?_⟩
      rw [List.length_cons] at hz
      refine ⟨s, rfl, by rw [strLen_append]; omega, ht _ σ H v Q e1 ev (by rw [strLen_append]; omega) q⟩
    | fmt p p' =>
      refine ⟨_ :: ts, .cons (pe_fmtE (pe_var hN hv hd hcd)) hp, fun acc σ H v Q e1 ev hz q => ?_⟩
      rw [List.length_cons] at hz
      exact ⟨v, e1, ev, fun m hm => ⟨m, rfl, by rw [strLen_append]; omega, ht _ σ H v Q e1 ev (by rw [strLen_append]; omega) q⟩⟩
end
/-- what __init__ of an error with a field does -/
def spErr (fld : Str) (C : Addr) : Sp := fun vs H Q _ => ∃ a v, vs = [.ref a, v] ∧ H a = some (exo a C none) ∧ Easy v ∧ ∀ dx, H dx = none → dx ≠ a → Q .non (upd (upd H dx (exd dx [(fld, v)])) a (exo a C (some dx)))
theorem ok_err {CX : CXT} {P : Program} {w : World} {K : PySem.W.Frag} {mg : Str → Option Value} {base : Heap} {k : Nat} {f c cc C : Addr} {name qual file par fld : Str} {params : Arguments} {scope : Scope} {ar : Arg} {v1 v2 : Expr} {vr : List Expr} {p0 p1 p2 p3 p4 p5 p6 p7 p8 pj : Pos}
    {kV doc pm ct oc ccl cl : Value} {an od cdd cld : Option Addr} {osl ccs csl : Array (Option Value)} {vs0 : Array Value} {tf : Tok} {pl : Sem Bool}
    (lk : K.lookup f = some ⟨oc, od, .func (PySem.W.fnX name qual params [.Expr (.Call (.Attribute (.Call (.Name "super" p0) [] [] p1) "__init__" p2) [.JoinedStr (v1 :: v2 :: vr) pj] [] p3) p4, .Assign [.Attribute (.Name "self" p5) fld p6] (.Name par p7) p8] scope [("__class__", cc)] .none kV doc pm an (.ref c) ct), osl⟩)
    (hcd : PySem.W.codeIn K (.ref c) qual = true) (S : NScope ["self", par, "__class__"] ["self", par] ["__class__"] scope)
    (lcc : K.lookup cc = some ⟨cl, cld, .cell (some (.ref C)), csl⟩) (hp : (params.posonlyargs ++ params.args).head? = some ar) (eps : ar.arg = "self")
    (lc : K.lookup c = some ⟨ccl, cdd, .fields vs0, ccs⟩) (hvs : vs0[2]? = some (.str file tf)) (hfile : ((P.main.file : Str) == file) = true) (hsuper : mg "super" = none)
    (htop : (P.main.scope.names.lookup ("super" : Str)).isSome = false) (hst : PySem.W.nsIn K cStatics "thirdparty.any" = some none) (hks : scope.names.lookup ("super" : Str) = some .globalImplicit)
    (T : OexC K C) (sV : supV K C) (vE : PySem.W.subIn K (.ref C) (.type "ValueError") = some true) (hno : PySem.W.findIn K (.ref C) fld = some none)
    (hev : ∀ L, eval (.Call (.Attribute (.Call (.Name "super" p0) [] [] p1) "__init__" p2) [.JoinedStr (v1 :: v2 :: vr) pj] [] p3) (PySem.W.envX qual scope L f (.ref c) [("__class__", cc)]) = (do
      let ov ← attributeBase (.Call (.Name "super" p0) [] [] p1) "__init__" (PySem.W.envX qual scope L f (.ref c) [("__class__", cc)]) (eval (.Call (.Name "super" p0) [] [] p1) (PySem.W.envX qual scope L f (.ref c) [("__class__", cc)]))
      standAt p2.atName
      let (ff, first) ← holding [ov] (getMethod ov "__init__" pl)
      callWith p3 ff first (backTo p3 (starEach [.JoinedStr (v1 :: v2 :: vr) pj] (PySem.W.envX qual scope L f (.ref c) [("__class__", cc)]))) []))
    (hi : ∀ L, interactive (PySem.W.envX qual scope L f (.ref c) [("__class__", cc)]) = false) (hsw : ∀ L, swapsWith (.Call (.Attribute (.Call (.Name "super" p0) [] [] p1) "__init__" p2) [.JoinedStr (v1 :: v2 :: vr) pj] [] p3) none p4.line (PySem.W.envX qual scope L f (.ref c) [("__class__", cc)]) = pure false)
    (hse : ∀ L, starEach [.JoinedStr (v1 :: v2 :: vr) pj] (PySem.W.envX qual scope L f (.ref c) [("__class__", cc)]) = [(false, eval (.JoinedStr (v1 :: v2 :: vr) pj) (PySem.W.envX qual scope L f (.ref c) [("__class__", cc)]))])
    (hs2 : ∀ L, swapsWith (.Name par p7) (some (.Attribute (.Name "self" p5) fld p6)) p8.line (PySem.W.envX qual scope L f (.ref c) [("__class__", cc)]) = pure false)
    (parts : ∀ e ∈ v1 :: v2 :: vr, Part par e) (few : vr.length ≤ 100) (hd : (par == ("__debug__" : Str)) = false) (hcd2 : (par == ("__classdict__" : Str)) = false) :
    FnOk P w K mg base CX (k + 1) f (PySem.W.fnX name qual params [.Expr (.Call (.Attribute (.Call (.Name "super" p0) [] [] p1) "__init__" p2) [.JoinedStr (v1 :: v2 :: vr) pj] [] p3) p4, .Assign [.Attribute (.Name "self" p5) fld p6] (.Name par p7) p8] scope [("__class__", cc)] .none kV doc pm an (.ref c) ct) ["self", par] (spErr fld C) := by
  refine fn_sup (N := ["self", par, "__class__"]) lk hcd S lcc hp (by rw [eps]; rfl) lc hvs hfile hsuper htop hst hks T sV vE hev hi hsw hse (fun vs H Q E h => ?_) (fun A outer s H vs Q E hr h => ?_)
  · obtain ⟨_, _, rfl, _⟩ := h
    rfl
  · obtain ⟨a, v, rfl, ea, ev, q⟩ := h
    have lself : scope.names.lookup ("self" : Str) = some .local := S.par _ (by simp)
    have lpar : scope.names.lookup par = some .local := S.par _ (by simp)
    obtain ⟨ts, hpj, htj⟩ := parts_ok (X := ncx CX P w K mg base ["self", par, "__class__"] ⟨name, qual, params, [.Expr (.Call (.Attribute (.Call (.Name "super" p0) [] [] p1) "__init__" p2) [.JoinedStr (v1 :: v2 :: vr) pj] [] p3) p4, .Assign [.Attribute (.Name "self" p5) fld p6] (.Name par p7) p8], scope, [("__class__", cc)], c⟩ f A outer s H E) (par := par) (i := 1) rfl (Or.inl lpar) hd hcd2 _ parts
    refine ⟨a, [v], rfl, ea, _, pa_cons (pe_joined hpj) pa_nil (hse _), _, pss_one (ps_ost (pe_var (i := 0) rfl (Or.inl lself)) (pe_var (i := 1) rfl (Or.inl lpar) hd hcd2) (hs2 _)), ?_⟩
    refine htj Str.empty _ H v _ rfl ev ?_ fun m => ?_
    · rw [sizeLine_eq, List.length_cons, List.length_cons]
      show 0 + _ ≤ _
      omega
    · exact ⟨(show 1 ≤ 1000 by decide), ea, v, rfl, .ref a, rfl, a, C, rfl, T, hno, .inl ⟨ea, fun dx n ne => q dx n ne⟩⟩
/-! ### own errors as values -/
structure ErrC (K : PySem.W.Frag) (C : Addr) : Prop where
  ox : OexC K C
  xf : XfC K C
  ac : PySem.W.findIn K (.ref C) "__class__" = some (some (.builtin "object.__class__"))
  nc : PySem.W.specialIn K (.builtin "object.__class__") "__get__" = some (some (.builtin "getset_descriptor.__get__"))
  tc : PySem.W.takesIn K (.builtin "object.__class__") = some true
  mo : PySem.W.mroIn K C (.type "object") = some true
  ve : PySem.W.subIn K (.ref C) (.type "ValueError") = some true
def oexB (K : PySem.W.Frag) (C : Addr) : Bool := match K.lookup C with
  | some ⟨.type "type", _, .cls ⟨_, _, .ref D :: ms, _, _, true, _, _, _, _, false⟩, ⟨[_, _, _, _, some (.builtin n), _]⟩⟩ => D == C && n == "ValueError.__new__" && PySem.HandSPX.refsVE ms
  | _ => false
def errB (K : PySem.W.Frag) (C : Addr) : Bool :=
  oexB K C && decide (PySem.W.findIn K (.ref C) "__setattr__" = some (some (.builtin "object.__setattr__"))) && decide (PySem.W.typeIn K (.ref C) = some (.type "type")) && PySem.W.keepIn K (.ref C) && xfB K C
    && decide (PySem.W.findIn K (.ref C) "__class__" = some (some (.builtin "object.__class__"))) && decide (PySem.W.specialIn K (.builtin "object.__class__") "__get__" = some (some (.builtin "getset_descriptor.__get__")))
    && decide (PySem.W.takesIn K (.builtin "object.__class__") = some true) && decide (PySem.W.mroIn K C (.type "object") = some true) && decide (PySem.W.subIn K (.ref C) (.type "ValueError") = some true)
theorem oexB_ok {K : PySem.W.Frag} {C : Addr} (h : oexB K C = true) : ∃ nm q ns bs ms sn sub ab co di k0 k1 k2 k3 k5, K.lookup C = some (excClassObj nm q C ns bs ms true sn sub ab co di k0 k1 k2 k3 k5 "ValueError.__new__") ∧ PySem.HandSPX.refsVE ms = true := by
  unfold oexB at h
  split at h
  · rename_i look
    have h1 := Bool.and_eq_true_iff.mp h
    have h2 := Bool.and_eq_true_iff.mp h1.1
    have e1 := beq_iff_eq.mp h2.1
    have e2 := beq_iff_eq.mp h2.2
    subst e1 e2
    exact ⟨_, _, _, _, _, _, _, _, _, _, _, _, _, _, _, look, h1.2⟩
  · exact absurd h Bool.false_ne_true
theorem errB_ok {K : PySem.W.Frag} {C : Addr} (h : errB K C = true) : ErrC K C := by
  unfold errB at h
  simp only [Bool.and_eq_true, decide_eq_true_eq] at h
  obtain ⟨⟨⟨⟨⟨⟨⟨⟨⟨h1, h2⟩, h3⟩, h4⟩, h5⟩, h6⟩, h7⟩, h8⟩, h9⟩, h10⟩ := h
  have x := xfB_ok h5
  exact ⟨⟨oexB_ok h1, h2, x.exC, h3, h4⟩, x, h6, h7, h8, h9, h10⟩
/-! ### an error that is caught and kept -/
/-- at a: an error of the class cls, with the dict d, after it was raised -/
def ExR (cls : Value) (d : Option Addr) (a : Addr) : HO := .ext fun h => ∃ (oe : Obj) (vs : Array Value), h.get? a = some oe ∧ Zc cls d oe ∧ oe.data = .fields vs
/-- at a: an error of the class C, with a field or without, new or caught -/
def ExV (H : Hp) (a C : Addr) : Prop := H a = some (ExO (.ref C) a) ∨ (∃ dx fs, H a = some (exo a C (some dx)) ∧ H dx = some (exd dx fs)) ∨ H a = some (ExR (.ref C) none a) ∨ ∃ dx fs, H a = some (ExR (.ref C) (some dx) a) ∧ H dx = some (.xd fs)
def ExF (H : Hp) (a C : Addr) (f : Str) (v : V) : Prop := ∃ dx, (H a = some (exo a C (some dx)) ∧ H dx = some (exd dx [(f, v)])) ∨ (H a = some (ExR (.ref C) (some dx) a) ∧ H dx = some (.xd [(f, v)]))
theorem ExF.ev {H : Hp} {a C : Addr} {f : Str} {v : V} (h : ExF H a C f v) : ExV H a C := by
  rcases h with ⟨dx, ⟨h1, h2⟩ | ⟨h1, h2⟩⟩
  · exact .inr (.inl ⟨dx, _, h1, h2⟩)
  · exact .inr (.inr (.inr ⟨dx, _, h1, h2⟩))
theorem ExV.mono {H H' : Hp} {a C : Addr} (h : ExV H a C) (k : ∀ b o, H b = some o → H' b = some o) : ExV H' a C := by
  rcases h with h | ⟨dx, fs, h1, h2⟩ | h | ⟨dx, fs, h1, h2⟩
  · exact .inl (k _ _ h)
  · exact .inr (.inl ⟨dx, fs, k _ _ h1, k _ _ h2⟩)
  · exact .inr (.inr (.inl (k _ _ h)))
  · exact .inr (.inr (.inr ⟨dx, fs, k _ _ h1, k _ _ h2⟩))
theorem ExF.mono {H H' : Hp} {a C : Addr} {f : Str} {v : V} (h : ExF H a C f v) (k : ∀ b o, H b = some o → H' b = some o) : ExF H' a C f v := by
  rcases h with ⟨dx, ⟨h1, h2⟩ | ⟨h1, h2⟩⟩
  · exact ⟨dx, .inl ⟨k _ _ h1, k _ _ h2⟩⟩
  · exact ⟨dx, .inr ⟨k _ _ h1, k _ _ h2⟩⟩
def tNew1 (C : Addr) (ta : TE) : TE := fun σ H Q => ta σ H fun _ H1 => ∀ a, H1 a = none → Q (.ref a) (upd H1 a (ExO (.ref C) a))
def tNewF (C : Addr) (fld : Str) (ta : TE) : TE := fun σ H Q => ta σ H fun v H1 => Easy v ∧ ∀ a H2, Same H1 H2 → H1 a = none → ExF H2 a C fld v → Q (.ref a) H2
section
variable {X : Cx}
/-- X(e), an own error with its own __init__: what is there behind it -/
theorem newF_gen {CX : CXT} {x fld : Str} {C fI : Addr} {k : Nat} {fd : FuncData} {ps : List Str} {e : Expr} {ta : TE} {p pos : Pos} {pins : List (Addr × Obj)} {s : Shared} {σ : L2.St} {H : Hp} {post : V → Hp → Prop} {R : Value → Shared → Prop}
    (T : OexC X.K C) (iC : PySem.W.findIn X.K (.ref C) "__init__" = some (some (.ref fI))) (tI : PySem.W.typeIn X.K (.ref fI) = some (.type "function"))
    (F1 : FnOk X.prog X.w X.K X.mg X.base CX k fI fd ps (spErr fld C)) (hr : Room (k + 1) X.A) (hb : Binds X.K fd ps []) (hx : Passes CX X (fun _ _ _ => False)) (gC : X.mg x = some (.ref C)) (he : PE X e ta) (hg : Gl X x)
    (hdb : (x == ("__debug__" : Str)) = false) (hs : starEach [e] X.env = (false, eval e X.env) :: starEach [] X.env) (I : Inv X pins σ H s) (h : ta σ H fun v H1 => Easy v ∧ post v H1)
    (fin : ∀ v H1 (s1 : Shared) A h' s', Inv X pins σ H1 s1 → post v H1 → s1.heap.objs.size ≤ A → (∀ b o, s1.heap.get? b = some o → h'.get? b = some o) → Inv X pins σ (upd H1 A (exo A C none)) { s1 with heap := h' } →
      CE X.stack X.prog X.w (upd H1 A (exo A C none)) { s1 with heap := h' } (fun y H2 => y = .non ∧ ∃ dx, H1 dx = none ∧ dx ≠ A ∧ H2 = upd (upd (upd H1 A (exo A C none)) dx (exd dx [(fld, v)])) A (exo A C (some dx))) .none s' → R (.ref A) s') :
    wpAny (model X.prog X.w) X.A (eval (.Call (.Name x p) [e] [] pos) X.env) R X.xe s := by
  refine wpAny_Call_Name_kw (ld_glob I hg gC (PySem.W.callWith_K (h₀ := X.base) I.ok.mod.kin T.kC ?_ hs (by rfl)) hdb)
  refine thn ((pa_cons he pa_nil hs).run pos pins s σ H (fun vs H1 => match vs with
    | [v] => Easy v ∧ post v H1
    | _ => False) I h) ?_
  rintro us s1 ⟨vs, H1, I1, rel, all⟩
  refine ⟨I1.kIn, ?_⟩
  obtain ⟨hp, gs, dn, tk, os⟩ := s1
  obtain ⟨nm, q, ns, bs, ms, sn, sub, ab, co, di, k0, k1, k2, k3, k5, look, vee⟩ := T.cls
  match vs, us, rel, all with
  | [v], [u], .cons ru .nil, ⟨good, w⟩ =>
  -- the place of the new error, and the heap with it
  generalize hA : hp.objs.size + 1 = A
  have above : hp.objs.size ≤ A := by rw [← hA]; exact Nat.le_succ _
  have free : H1 A = none := I1.hok.fresh above
  have up : ∀ b o, hp.get? b = some o → ((hp.push (PySem.W.kdv_tup [u])).push (PySem.HandSPX.excO C hp.objs.size)).get? b = some o := fun b o z => Heap.get?_push_of_some _ (Heap.get?_push_of_some _ z)
  have there : ((hp.push (PySem.W.kdv_tup [u])).push (PySem.HandSPX.excO C hp.objs.size)).get? A = some (PySem.HandSPX.excO C hp.objs.size) := by
    rw [← hA]
    heap_get
  have J : Inv X pins σ (upd H1 A (exo A C none)) ⟨(hp.push (PySem.W.kdv_tup [u])).push (PySem.HandSPX.excO C hp.objs.size), gs, dn, tk, os⟩ :=
    I1.laid (t' := tk) (a := A) (o := exo A C none) (h' := (hp.push (PySem.W.kdv_tup [u])).push (PySem.HandSPX.excO C hp.objs.size)) up above (exo_ok there)
  have told : spErr fld C [V.ref A, v] (upd H1 A (exo A C none)) (fun y H2 => y = .non ∧ ∃ dx, H1 dx = none ∧ dx ≠ A ∧ H2 = upd (upd (upd H1 A (exo A C none)) dx (exd dx [(fld, v)])) A (exo A C (some dx))) (fun _ _ _ => False) :=
    ⟨A, v, rfl, upd_same, good, fun dx nd ne => ⟨rfl, dx, by rw [upd_ne ne] at nd; exact nd, ne, rfl⟩⟩
  have both : Vals [V.ref A, v] [Value.ref A, u] := .cons rfl (.cons ru .nil)
  have bind := hb _ [Value.ref A, u] J.kIn (by rw [List.append_nil]; exact F1.len _ _ _ _ told)
  rw [List.append_nil] at bind
  have body := F1.run _ X.stack _ _ ⟨[Value.ref A, u], []⟩ [Value.ref A, u] _ _ (fun _ _ _ => False) (hr.make C [u] []) (J.env0.make C [u] []) bind both told
  rw [← hA] at body
  refine wpAny_call (PySem.HandSPX.call_own PySem.F.excBase_ValueError (fun Y => PySem.HandSPX.refsVE_contains Y ms vee) (I1.kIn _ _ look) (PySem.W.looks_findIn I1.kIn iC) (fun self => PySem.W.bind_fn I1.kIn self tI) (szl (by show 1 ≤ 100000; decide)) (codeAny_mono body ?_))
  rw [hA]
  intro r s' z
  match r, z with
  | .error er, z => exact hx pins σ _ _ er s' J z
  | .ok (.ret u'), z =>
    have non : u' = Value.none := by
      obtain ⟨y, H', _, _, _, _, ry, ey, _⟩ := z
      subst ey
      exact ry
    subst non
    exact ⟨rfl, fin v H1 ⟨hp, gs, dn, tk, os⟩ A _ s' I1 w above up J z⟩
  | .ok .next, z => exact z.elim
  | .ok .brk, z => exact z.elim
  | .ok .cont, z => exact z.elim
end
/-! ### the classes by their names in the module -/
def clsOf (K : PySem.W.Frag) (x : Str) : Addr := match PySem.W.nsIn K mainGlobals x with
  | some (some (.ref c)) => c
  | _ => 0
theorem clsOf_of {K : PySem.W.Frag} {x : Str} {c : Addr} (h : PySem.W.nsIn K mainGlobals x = some (some (.ref c))) : clsOf K x = c := by
  unfold clsOf
  rw [h]
structure Cls (K : PySem.W.Frag) (mg : Str → Option Value) (x : Str) : Prop where
  g : mg x = some (.ref (clsOf K x))
  e : ErrC K (clsOf K x)
abbrev veMro : List Value := [.type "ValueError", .type "Exception", .type "BaseException", .type "object"]
structure New1 (K : PySem.W.Frag) (mg : Str → Option Value) (x : Str) : Prop where
  cl : Cls K mg x
  q : PySem.W.excIn K (clsOf K x) veMro "ValueError.__new__" = true
structure NewF (P : Program) (w : World) (K : PySem.W.Frag) (mg : Str → Option Value) (base : Heap) (x fld : Str) : Prop where
  cl : Cls K mg x
  ex : ∃ (fI : Addr) (fd : FuncData) (ps : List Str), PySem.W.findIn K (.ref (clsOf K x)) "__init__" = some (some (.ref fI)) ∧ PySem.W.typeIn K (.ref fI) = some (.type "function") ∧ FnOk P w K mg base CX0 1 fI fd ps (spErr fld (clsOf K x)) ∧ Binds K fd ps []
  hno : PySem.W.findIn K (.ref (clsOf K x)) fld = some none
def tXfv (K : PySem.W.Frag) (n : Str) (te : TE) : TE := fun σ H Q => te σ H fun x H1 => ∃ a C v, x = .ref a ∧ ExF H1 a C n v ∧ ErrC K C ∧ PySem.W.findIn K (.ref C) n = some none ∧ Q v H1
/-! ### readings, backwards -/
section
variable {K : PySem.W.Frag} {σ : L2.St} {H : Hp} {Q : VK} {ta : TE}
theorem r_n1 {C : Addr} (h : ta σ H fun _ H1 => ∀ a, H1 a = none → Q (.ref a) (upd H1 a (ExO (.ref C) a))) : tNew1 C ta σ H Q := h
theorem r_nF {C : Addr} {fld : Str} (h : ta σ H fun v H1 => Easy v ∧ ∀ a H2, Same H1 H2 → H1 a = none → ExF H2 a C fld v → Q (.ref a) H2) : tNewF C fld ta σ H Q := h
theorem r_xfv {n : Str} (h : ta σ H fun x H1 => ∃ a C v, x = .ref a ∧ ExF H1 a C n v ∧ ErrC K C ∧ PySem.W.findIn K (.ref C) n = some none ∧ Q v H1) : tXfv K n ta σ H Q := h
theorem r_m1 {r : V → List V → Hp → VK → Prop} {to te : TE} (h : to σ H fun x H1 => (∃ a, x = .str a) ∧ te σ H1 fun y H2 => r x [y] H2 Q) : tM1 r to te σ H Q := h
end
theorem newF_of {P : Program} {w : World} {K : PySem.W.Frag} {mg : Str → Option Value} {base : Heap} {h : Heap} {f c cc C : Addr} {x name qual file par fld : Str} {params : Arguments} {scope : Scope} {ar : Arg} {v1 v2 : Expr} {vr : List Expr} {p0 p1 p2 p3 p4 p5 p6 p7 p8 pj : Pos}
    {kV doc pm ctv oc ccl cl : Value} {an od cdd cld : Option Addr} {osl ccs csl : Array (Option Value)} {vs0 : Array Value} {tf : Tok} {pl : Sem Bool} (X : K.In h) (G : h.Ns mainGlobals mg)
    (lk : K.lookup f = some ⟨oc, od, .func (PySem.W.fnX name qual params [.Expr (.Call (.Attribute (.Call (.Name "super" p0) [] [] p1) "__init__" p2) [.JoinedStr (v1 :: v2 :: vr) pj] [] p3) p4, .Assign [.Attribute (.Name "self" p5) fld p6] (.Name par p7) p8] scope [("__class__", cc)] .none kV doc pm an (.ref c) ctv), osl⟩)
    (hcd : PySem.W.codeIn K (.ref c) qual = true) (S : NScope ["self", par, "__class__"] ["self", par] ["__class__"] scope)
    (lcc : K.lookup cc = some ⟨cl, cld, .cell (some (.ref C)), csl⟩) (hp : (params.posonlyargs ++ params.args).head? = some ar) (eps : ar.arg = "self")
    (lc : K.lookup c = some ⟨ccl, cdd, .fields vs0, ccs⟩) (hvs : vs0[2]? = some (.str file tf)) (hfile : ((P.main.file : Str) == file) = true) (hsuper : PySem.W.nsIn K mainGlobals "super" = some none)
    (htop : (P.main.scope.names.lookup ("super" : Str)).isSome = false) (hst : PySem.W.nsIn K cStatics "thirdparty.any" = some none) (hks : scope.names.lookup ("super" : Str) = some .globalImplicit)
    (ca : PySem.W.nsIn K mainGlobals x = some (some (.ref C))) (cb : errB K C = true) (ci : PySem.W.findIn K (.ref C) "__init__" = some (some (.ref f))) (ct : PySem.W.typeIn K (.ref f) = some (.type "function")) (sV : supV K C) (hno : PySem.W.findIn K (.ref C) fld = some none)
    (hev : ∀ L, eval (.Call (.Attribute (.Call (.Name "super" p0) [] [] p1) "__init__" p2) [.JoinedStr (v1 :: v2 :: vr) pj] [] p3) (PySem.W.envX qual scope L f (.ref c) [("__class__", cc)]) = (do
      let ov ← attributeBase (.Call (.Name "super" p0) [] [] p1) "__init__" (PySem.W.envX qual scope L f (.ref c) [("__class__", cc)]) (eval (.Call (.Name "super" p0) [] [] p1) (PySem.W.envX qual scope L f (.ref c) [("__class__", cc)]))
      standAt p2.atName
      let (ff, first) ← holding [ov] (getMethod ov "__init__" pl)
      callWith p3 ff first (backTo p3 (starEach [.JoinedStr (v1 :: v2 :: vr) pj] (PySem.W.envX qual scope L f (.ref c) [("__class__", cc)]))) []))
    (hi : ∀ L, interactive (PySem.W.envX qual scope L f (.ref c) [("__class__", cc)]) = false) (hsw : ∀ L, swapsWith (.Call (.Attribute (.Call (.Name "super" p0) [] [] p1) "__init__" p2) [.JoinedStr (v1 :: v2 :: vr) pj] [] p3) none p4.line (PySem.W.envX qual scope L f (.ref c) [("__class__", cc)]) = pure false)
    (hse : ∀ L, starEach [.JoinedStr (v1 :: v2 :: vr) pj] (PySem.W.envX qual scope L f (.ref c) [("__class__", cc)]) = [(false, eval (.JoinedStr (v1 :: v2 :: vr) pj) (PySem.W.envX qual scope L f (.ref c) [("__class__", cc)]))])
    (hs2 : ∀ L, swapsWith (.Name par p7) (some (.Attribute (.Name "self" p5) fld p6)) p8.line (PySem.W.envX qual scope L f (.ref c) [("__class__", cc)]) = pure false)
    (parts : ∀ e ∈ v1 :: v2 :: vr, Part par e) (few : vr.length ≤ 100) (hd : (par == ("__debug__" : Str)) = false) (hcd2 : (par == ("__classdict__" : Str)) = false)
    (hbn : ∀ a b : Value, bindArgs (PySem.W.fnX name qual params [.Expr (.Call (.Attribute (.Call (.Name "super" p0) [] [] p1) "__init__" p2) [.JoinedStr (v1 :: v2 :: vr) pj] [] p3) p4, .Assign [.Attribute (.Name "self" p5) fld p6] (.Name par p7) p8] scope [("__class__", cc)] .none kV doc pm an (.ref c) ctv) ⟨[a, b], []⟩ = pure [(("self" : Str), a), (par, b)]) : NewF P w K mg base x fld := by
  have e := clsOf_of ca
  subst e
  have E := errB_ok cb
  refine ⟨⟨PySem.W.mg_of X G ca, E⟩, ⟨f, _, ["self", par], ci, ct, ok_err lk hcd S lcc hp eps lc hvs hfile (PySem.W.mg_none_of X G hsuper) htop hst hks E.ox sV E.ve hno hev hi hsw hse hs2 parts few hd hcd2, .all fun us hl => ?_⟩, hno⟩
  match us, hl with
  | [a, b], _ => exact hbn a b
theorem new1_of {K : PySem.W.Frag} {mg : Str → Option Value} {h : Heap} {x : Str} {C : Addr} (X : K.In h) (G : h.Ns mainGlobals mg) (ca : PySem.W.nsIn K mainGlobals x = some (some (.ref C))) (cb : errB K C = true) (cq : PySem.W.excIn K C veMro "ValueError.__new__" = true) : New1 K mg x := by
  have e := clsOf_of ca
  subst e
  exact ⟨⟨PySem.W.mg_of X G ca, errB_ok cb⟩, cq⟩
/-- __init__ of a class that the text writes -/
def initOf : Stmt → Stmt
  | .ClassDef _ _ _ body _ _ _ _ _ _ _ => body.getD 0 (.Pass ⟨0, 0, 0, 0⟩)
  | s => s
def partsOf (s : Stmt) : List Expr := match defBody s with
  | .Expr (.Call _ [.JoinedStr l _] [] _) _ :: _ => l
  | _ => []
end Vf
namespace Vf
open PySem PySem.Spec PyProof.Rows L2 ClX
/-! ### raising own errors -/
/-- X(e) to be raised, an error without a field -/
def tMk1 (C : Addr) (ta : TE) : L2.St → Hp → XK → Prop := fun σ H W => ta σ H fun _ H1 => W (.ref C) none H1
/-- .., an error with a field: the dict that is left holds it -/
def tMkF (C : Addr) (fld : Str) (ta : TE) : L2.St → Hp → XK → Prop := fun σ H W => ta σ H fun v H1 => Easy v ∧ ∀ dx, H1 dx = none → W (.ref C) (some dx) (upd H1 dx (.xd [(fld, v)]))
section
variable {X : Cx} {K : PySem.W.Frag} {x : Str} {e : Expr} {ta : TE} {p pos : Pos}
theorem raises_e {C : Addr} (T : ErrC X.K C) : Raises X (.ref C) := raises_own T.ox.exC T.ox.tyC
theorem pmk_1 (D : New1 K X.mg x) (he : PE X e ta) (hg : Gl X x := by rfl) (hs : starEach [e] X.env = (false, eval e X.env) :: starEach [] X.env := by rfl) (hdb : (x == ("__debug__" : Str)) = false := by decide) (hK : X.K = K := by rfl) :
    PMk X (.Call (.Name x p) [e] [] pos) (tMk1 (clsOf K x) ta) := by
  subst hK
  exact SkE.pmk_own1 PySem.F.excBase_ValueError D.q D.cl.g D.cl.e.ox.kC (raises_e D.cl.e) hg he hs hdb
theorem pmk_F {fld : Str} (D : NewF X.prog X.w K X.mg X.base x fld) (hr : Room 2 X.A) (he : PE X e ta) (hx : Passes CX0 X (fun _ _ _ => False) := pass0) (hg : Gl X x := by rfl) (hs : starEach [e] X.env = (false, eval e X.env) :: starEach [] X.env := by rfl)
    (hdb : (x == ("__debug__" : Str)) = false := by decide) (hK : X.K = K := by rfl) : PMk X (.Call (.Name x p) [e] [] pos) (tMkF (clsOf K x) fld ta) := by
  subst hK
  obtain ⟨fI, fd, ps, iC, tI, F1, hb⟩ := D.ex
  intro pins s σ H W I h
  refine newF_gen (post := fun v H1 => ∀ dx, H1 dx = none → W (.ref (clsOf X.K x)) (some dx) (upd H1 dx (.xd [(fld, v)]))) D.cl.e.ox iC tI F1 hr hb hx D.cl.g he hg hdb hs I h ?_
  intro v H1 s1 A h' s' I1 w above up J z
  obtain ⟨y, H2, os2, bare2, un2, hok2, rv, ey, dx, nd, ne, e2⟩ := z
  have free := I1.hok.fresh above
  obtain ⟨hp, gs, dn, tk, os⟩ := s1
  obtain ⟨h2, g2, d2, t2, os'⟩ := s'
  have out : upd (del H2 A) dx (.xd [(fld, v)]) = upd H1 dx (.xd [(fld, v)]) := by
    funext b
    by_cases hb : b = dx
    · rw [hb, upd_same, upd_same]
    · rw [upd_ne hb, upd_ne hb]
      by_cases ha : b = A
      · rw [ha, del_same, free]
      · rw [del_ne ha, e2, upd_ne ha, upd_ne hb, upd_ne ha]
  refine mk_end (H1 := H1) (H2 := H2) (d := dx) (fs := [(fld, v)]) (raises_e D.cl.e) I1 above up un2 hok2 os2 bare2 (by rw [e2, upd_same]) (by rw [e2, upd_ne ne, upd_same]) nd ?_
  rw [out]
  exact w dx nd
end
/-! ### defs that may raise, and their calls -/
structure DefR (P : Program) (w : World) (K : PySem.W.Frag) (mg : Str → Option Value) (base : Heap) (k : Nat) (x : Str) (ps : List Str) (sp : Sp) where
  f : Addr
  fd : FuncData
  ok : FnG P w K mg base (L2.CX P w) k f fd ps sp
  kp : PySem.W.keepIn K (.ref f) = true
  b : Binds K fd ps []
  g : mg x = some (.ref f)
theorem FnG.calm {P : Program} {w : World} {K : PySem.W.Frag} {mg : Str → Option Value} {base : Heap} {CX : CXT} {k : Nat} {f : Addr} {fd : FuncData} {ps : List Str} {sp : Sp} (F : FnG P w K mg base CX0 k f fd ps sp) : FnG P w K mg base CX k f fd ps sp :=
  ⟨F.arity, fun A o s H as us vs Q E r g e b v q => codeAny_mono (F.go A o s H as us vs Q E r g e b v q) fun r s' z => by
    cases r with
    | error e => exact (show False from z).elim
    | ok f => cases f <;> exact z⟩
theorem passR0 {X : Cx} : Passes (L2.CX X.prog X.w) X E0 := fun _ _ _ _ _ _ _ ⟨_, _, _, _, _, _, _, _, _, _, _, _, z⟩ => (show False from z).elim
section
variable {X : Cx} {k : Nat} {ps : List Str} {sp : Sp} {x : Str} {p pos : Pos} {e : Expr} {es : List Expr} {t : TA}
theorem pe_defR (D : DefR X.prog X.w X.K X.mg X.base k x ps sp) {E : XK} (hE : Passes (L2.CX X.prog X.w) X E) (hr : Room k X.A) (hgd : X.A.guards = some []) (ha : PA X (e :: es) t) (hg : Gl X x := by rfl) (hdb : (x == ("__debug__" : Str)) = false := by decide)
    (he : starEach (e :: es) X.env = (false, eval e X.env) :: starEach es X.env := by rfl) (hpl : (backTo pos (starEach es X.env)).any (·.1) = false := by rfl) : PE X (.Call (.Name x p) (e :: es) [] pos) (tCall sp [] E t) :=
  pe_callG D.ok hr hgd hg D.g D.kp D.b .nil hE ha hdb he hpl
end
/-! readings -/
section
variable {K : PySem.W.Frag} {σ : L2.St} {H : Hp} {Q : VK} {W : XK} {ta : TE}
theorem r_mk1 {C : Addr} (h : ta σ H fun _ H1 => W (.ref C) none H1) : tMk1 C ta σ H W := h
theorem r_mkF {C : Addr} {fld : Str} (h : ta σ H fun v H1 => Easy v ∧ ∀ dx, H1 dx = none → W (.ref C) (some dx) (upd H1 dx (.xd [(fld, v)]))) : tMkF C fld ta σ H W := h
theorem r_callS {sp : Sp} {E : L2.St → XK} {t : TA} (h : t σ H fun vs H1 => sp vs H1 Q (E σ)) : tCallS sp E t σ H Q := h
end
end Vf
namespace Vf
open PySem PySem.Spec PyProof.Rows L2
/-! ### values of any kind, as data: also dicts -/
def kD : Key → PyData
  | .inl i => .int i
  | .inr x => .str x
mutual
inductive Dt (K : PySem.W.Frag) (H : Hp) : V → PyData → Prop where
  | non : Dt K H .non .none
  | bl (b : Bool) : Dt K H (.bl b) (.bool b)
  | int (i : Int) : Dt K H (.int i) (.int i)
  | str (x : Str) : Dt K H (.str x) (.str x)
  | lst {a : Addr} {xs : List V} {ds : List PyData} (h : H a = some (.lst xs)) (r : DtAll K H xs ds) : Dt K H (.ref a) (.list ds)
  | tup {a : Addr} {xs : List V} {ds : List PyData} (h : H a = some (.tup xs)) (r : DtAll K H xs ds) : Dt K H (.ref a) (.tuple ds)
  | dct {a : Addr} {kvs : List (Key × V)} {ds : List (PyData × PyData)} (h : H a = some (.dK kvs)) (r : DtKV K H kvs ds) : Dt K H (.ref a) (.dict ds)
inductive DtAll (K : PySem.W.Frag) (H : Hp) : List V → List PyData → Prop where
  | nil : DtAll K H [] []
  | cons {v : V} {vs : List V} {d : PyData} {ds : List PyData} (h : Dt K H v d) (r : DtAll K H vs ds) : DtAll K H (v :: vs) (d :: ds)
inductive DtKV (K : PySem.W.Frag) (H : Hp) : List (Key × V) → List (PyData × PyData) → Prop where
  | nil : DtKV K H [] []
  | cons {k : Key} {v : V} {kvs : List (Key × V)} {d : PyData} {ds : List (PyData × PyData)} (h : Dt K H v d) (r : DtKV K H kvs ds) : DtKV K H ((k, v) :: kvs) ((kD k, d) :: ds)
end
mutual
theorem Dt.mono {K : PySem.W.Frag} {H H' : Hp} (s : Same H H') : ∀ {d : PyData} {v : V}, Dt K H v d → Dt K H' v d
  | .none, _, h => by cases h; exact .non
  | .bool _, _, h => by cases h; exact .bl _
  | .int _, _, h => by cases h; exact .int _
  | .str _, _, h => by cases h; exact .str _
  | .list _, _, h => by
    cases h with
    | lst h r => exact .lst (s _ _ h) (DtAll.mono s r)
  | .tuple _, _, h => by
    cases h with
    | tup h r => exact .tup (s _ _ h) (DtAll.mono s r)
  | .dict _, _, h => by
    cases h with
    | dct h r => exact .dct (s _ _ h) (DtKV.mono s r)
theorem DtAll.mono {K : PySem.W.Frag} {H H' : Hp} (s : Same H H') : ∀ {ds : List PyData} {vs : List V}, DtAll K H vs ds → DtAll K H' vs ds
  | [], _, h => by cases h; exact .nil
  | _ :: _, _, h => by
    cases h with
    | cons h r => exact .cons (Dt.mono s h) (DtAll.mono s r)
theorem DtKV.mono {K : PySem.W.Frag} {H H' : Hp} (s : Same H H') : ∀ {ds : List (PyData × PyData)} {vs : List (Key × V)}, DtKV K H vs ds → DtKV K H' vs ds
  | [], _, h => by cases h; exact .nil
  | (_, _) :: _, _, h => by
    cases h with
    | cons h r => exact .cons (Dt.mono s h) (DtKV.mono s r)
end
/-- the address of sys.modules is a dict of the written part: no list that the law makes lies there -/
def SysK (K : PySem.W.Frag) : Prop := ∃ o, K.lookup sysModules = some o ∧ o.cls = .type "dict"
section
variable {X : Cx} {pins : List (Addr × Obj)} {σ : L2.St} {H : Hp} {s : Shared}
theorem key_reads {h : Heap} {k : Key} {u : Value} (e : keyIs k u = true) : Reads h u (kD k) [] := by
  rcases keyIs_shape e with ⟨i, t, rfl, rfl⟩ | ⟨y, t, rfl, rfl⟩
  · exact .int i t
  · exact .str y t
mutual
theorem Dt.reads (I : Inv X pins σ H s) (Y : SysK X.K) : ∀ {d : PyData} {v : V} {u : Value}, Dt X.K H v d → RelV v u → ∃ as, Reads s.heap u d as ∧ sysModules ∉ as
  | .none, _, _, h, r => by cases h; cases r; exact ⟨_, .none, fun z => nomatch z⟩
  | .bool b, _, _, h, r => by cases h; cases r; exact ⟨_, .bool b, fun z => nomatch z⟩
  | .int i, _, _, h, r => by cases h; obtain ⟨t, rfl⟩ := r; exact ⟨_, .int i t, fun z => nomatch z⟩
  | .str x, _, _, h, r => by cases h; obtain ⟨t, rfl⟩ := r; exact ⟨_, .str x t, fun z => nomatch z⟩
  | .list ds, _, _, h, r => by
    cases h with
    | lst h ra =>
      cases r
      obtain ⟨its, rv, ⟨o, n, ho, hc, _, hd⟩, _⟩ := I.list (sql h)
      obtain ⟨as, hr, hn⟩ := DtAll.reads I Y ra rv
      refine ⟨_, Reads.list ho hc hd hr, fun z => ?_⟩
      rcases List.mem_cons.mp z with z | z
      · obtain ⟨od, e1, e2⟩ := Y
        have e3 := I.kIn _ _ e1
        rw [z] at e3
        rw [Option.some.inj (ho.symm.trans e3)] at hc
        exact absurd (hc.symm.trans e2) (by decide)
      · exact hn z
  | .tuple ds, _, _, h, r => by
    cases h with
    | tup h ra =>
      cases r
      obtain ⟨its, rv, ⟨o, ho, hc, n, hd⟩, _⟩ := I.tuple (sqt h)
      obtain ⟨as, hr, hn⟩ := DtAll.reads I Y ra rv
      exact ⟨_, Reads.tuple ho hc hd hr, hn⟩
  | .dict ds, _, _, h, r => by
    cases h with
    | @dct a kvs _ h ra =>
      cases r
      obtain ⟨_, ns, vs, kv, o, es, ep, ho, hx, hd, _, hp, _⟩ := (show ObjOk X.prog X.w H s.heap a (.dK kvs) from I.hok a _ h)
      obtain ⟨bs, hk, hb, hn⟩ := DtKV.reads I Y ra kv hp
      refine ⟨_, Reads.dict (kvs := ds) (as := []) (bs := bs) ho hx.1 hd hk hb, fun z => ?_⟩
      rcases List.mem_cons.mp (by simpa using z) with z | z
      · rw [z] at ns
        simp at ns
      · exact hn z
theorem DtAll.reads (I : Inv X pins σ H s) (Y : SysK X.K) : ∀ {ds : List PyData} {vs : List V} {us : List Value}, DtAll X.K H vs ds → Vals vs us → ∃ as, ReadsAll s.heap us ds as ∧ sysModules ∉ as
  | [], _, _, h, r => by cases h; cases r; exact ⟨_, .nil, fun z => nomatch z⟩
  | _ :: _, _, _, h, r => by
    cases h with
    | cons h ra =>
      cases r with
      | cons r1 r2 =>
        obtain ⟨as, q1, n1⟩ := Dt.reads I Y h r1
        obtain ⟨bs, q2, n2⟩ := DtAll.reads I Y ra r2
        exact ⟨_, .cons q1 q2, fun z => (List.mem_append.mp z).elim n1 n2⟩
theorem DtKV.reads (I : Inv X pins σ H s) (Y : SysK X.K) : ∀ {ds : List (PyData × PyData)} {kvs : List (Key × V)} {vs : List (Key × Value)} {es : List DictEntry}, DtKV X.K H kvs ds → KV kvs vs → Pairs (mixKind X.prog X.w) es vs → ∃ bs, ReadsAll s.heap (es.map (·.key)) (ds.map (·.1)) [] ∧ ReadsAll s.heap (es.map (·.val)) (ds.map (·.2)) bs ∧ sysModules ∉ bs
  | [], _, _, _, h, r, p => by cases h; cases r; cases p; exact ⟨_, .nil, .nil, fun z => nomatch z⟩
  | (_, d) :: ds, _, _, _, h, r, p => by
    cases h with
    | cons h ra =>
      cases r with
      | @cons _ q _ _ r1 r2 =>
        cases p with
        | @cons e _ es _ p1 p2 p3 =>
          obtain ⟨as, q1, n1⟩ := Dt.reads I Y (u := e.val) h (by rw [p2]; exact r1.2)
          obtain ⟨bs, q2, q3, n2⟩ := DtKV.reads I Y ra r2 p3
          have key : Reads s.heap e.key (kD _) [] := key_reads (k := q.1) p1
          rw [← r1.1] at key
          exact ⟨_, .cons (as := []) (bs := []) key q2, .cons q1 q3, fun z => (List.mem_append.mp z).elim n1 n2⟩
end
end
/-! ### repr of any value -/
/-! ### the type of any value -/
def tyD : PyData → String
  | .none => "NoneType"
  | .bool _ => "bool"
  | .int _ => "int"
  | .str _ => "str"
  | .list _ => "list"
  | .tuple _ => "tuple"
  | .dict _ => "dict"
section
variable {K : PySem.W.Frag} {H : Hp}
theorem Dt.tyx {v : V} {d : PyData} (h : Dt K H v d) : TyX K H v (.type (tyD d)) := by
  cases h with
  | non => exact .base .non
  | bl b => exact .base (.bl b)
  | int i => exact .base (.int i)
  | str x => exact .base (.str x)
  | lst h _ => exact .base (.lst h)
  | tup h _ => exact .base (.tup h)
  | dct h _ => exact .base (.dK h)
def isD (c : String) (d : PyData) : Bool := (tyD d == c) || (c == "int" && tyD d == "bool")
theorem kit_d {c : String} (hc : c = "int" ∨ c = "bool" ∨ c = "str" ∨ c = "list" ∨ c = "tuple" ∨ c = "dict") (d : PyData) : kitB (tyD d) c = some (isD c d) := by
  rcases hc with rfl | rfl | rfl | rfl | rfl | rfl <;> cases d <;> (unfold isD; simp only [tyD]; decide +kernel)
theorem r_isD {v : V} {d : PyData} {c : String} {Q : VK} (h : Dt K H v d) (hc : c = "int" ∨ c = "bool" ∨ c = "str" ∨ c = "list" ∨ c = "tuple" ∨ c = "dict") (q : Q (.bl (isD c d)) H) : rIsi K [v, .ty c] H Q :=
  ⟨v, .ty c, _, _, _, rfl, .ty c, h.tyx, kit_ty (kit_d hc d), q⟩
end
section
variable {X : Cx}
theorem call_typeD {K : PySem.W.Frag} (hK : X.K = K := by rfl) : CallR X (.type "type") (fun xs H Q => ∃ (v : V) (d : PyData), xs = [v] ∧ Dt K H v d ∧ Q (.ty (tyD d)) H) := by
  subst hK
  rintro pins s σ H _ us Q I r ⟨v, d, rfl, hd, q⟩
  obtain ⟨u, rfl, ru⟩ := vals1 r
  have fin : EP X pins σ Q (.type (tyD d)) s := ⟨.ty (tyD d), H, I, rfl, q⟩
  cases hd with
  | non => cases ru; exact call_type_of (Tx := "NoneType") rfl (by decide +kernel) fin
  | bl b => cases ru; exact call_type_of (Tx := "bool") rfl (by decide +kernel) fin
  | int i => obtain ⟨t, rfl⟩ := ru; exact call_type_of (Tx := "int") rfl (by decide +kernel) fin
  | str x => obtain ⟨t, rfl⟩ := ru; exact call_type_of (Tx := "str") rfl (by decide +kernel) fin
  | lst h _ =>
    cases ru
    obtain ⟨_, its, k, _, g⟩ := I.hok _ _ h
    exact call_type_of (Tx := "list") ⟨_, g, rfl⟩ (by decide +kernel) fin
  | tup h _ =>
    cases ru
    obtain ⟨_, its, _, ob, g, c, k⟩ := I.hok _ _ h
    exact call_type_of (Tx := "tuple") ⟨ob, g, c⟩ (by decide +kernel) fin
  | dct h _ =>
    cases ru
    obtain ⟨_, _, vs, _, ob, es, ep, g, c, _⟩ := I.hok _ _ h
    exact call_type_of (Tx := "dict") ⟨ob, g, c.1⟩ (by decide +kernel) fin
end
/-! ### data of any kind that is not too long -/
structure Sd (N k : Nat) (d : PyData) : Prop where
  sh : d.showable = true
  dp : d.depth ≤ k
  ln : d.shown.length ≤ N
theorem Sd.mono {N k N' k' : Nat} {d : PyData} (h : Sd N k d) (h1 : N ≤ N') (h2 : k ≤ k') : Sd N' k' d := ⟨h.sh, Nat.le_trans h.dp h2, Nat.le_trans h.ln h1⟩
theorem sd_all {N k : Nat} : ∀ {ds : List PyData}, (∀ d ∈ ds, Sd N k d) → PyData.showableAll ds = true ∧ PyData.depthAll ds ≤ k ∧ ((PyData.shownAll ds).map (·.length)).sum ≤ N * ds.length
  | [], _ => ⟨by simp only [PyData.showableAll], by simp only [PyData.depthAll]; omega, by simp only [PyData.shownAll]; simp⟩
  | d :: ds, h => by
    have h1 := h d List.mem_cons_self
    obtain ⟨a1, a3, a4⟩ := sd_all (ds := ds) fun x hx => h x (List.mem_cons_of_mem _ hx)
    refine ⟨by simp only [PyData.showableAll, h1.sh, a1, Bool.and_self], ?_, ?_⟩
    · simp only [PyData.depthAll]
      have := h1.dp
      omega
    · simp only [PyData.shownAll, List.map_cons, List.sum_cons, List.length_cons]
      have := h1.ln
      rw [Nat.mul_succ]
      omega
theorem Sd.lst {N k : Nat} {ds : List PyData} (h : ∀ d ∈ ds, Sd N k d) : Sd ((N + 2) * ds.length + 3) (k + 1) (.list ds) := by
  obtain ⟨a1, a3, a4⟩ := sd_all h
  refine ⟨by simp only [PyData.showable, a1], by simp only [PyData.depth]; omega, ?_⟩
  simp only [PyData.shown]
  have := listText_len_le (PyData.shownAll ds)
  rw [PyData.shownAll_length] at this
  have e : (N + 2) * ds.length = N * ds.length + 2 * ds.length := by rw [Nat.add_mul]
  omega
theorem Sd.tup {N k : Nat} {ds : List PyData} (h : ∀ d ∈ ds, Sd N k d) : Sd ((N + 2) * ds.length + 3) (k + 1) (.tuple ds) := by
  obtain ⟨a1, a3, a4⟩ := sd_all h
  refine ⟨by simp only [PyData.showable, a1], by simp only [PyData.depth]; omega, ?_⟩
  simp only [PyData.shown]
  have := tupleText_len_le (PyData.shownAll ds)
  rw [PyData.shownAll_length] at this
  have e : (N + 2) * ds.length = N * ds.length + 2 * ds.length := by rw [Nat.add_mul]
  omega
/-- a value of any kind that is not too long -/
def Any (K : PySem.W.Frag) (H : Hp) (N k : Nat) (v : V) : Prop := ∃ d, Dt K H v d ∧ Sd N k d
theorem Any.mono {K : PySem.W.Frag} {H H' : Hp} {N k : Nat} {v : V} (s : Same H H') (h : Any K H N k v) : Any K H' N k v := let ⟨d, h1, h2⟩ := h; ⟨d, Dt.mono s h1, h2⟩
theorem Any.le {K : PySem.W.Frag} {H : Hp} {N k N' k' : Nat} {v : V} (h : Any K H N k v) (h1 : N ≤ N') (h2 : k ≤ k') : Any K H N' k' v := let ⟨d, a, b⟩ := h; ⟨d, a, b.mono h1 h2⟩
theorem any_all {K : PySem.W.Frag} {H : Hp} {N k : Nat} : ∀ {xs : List V}, (∀ x ∈ xs, Any K H N k x) → ∃ ds, DtAll K H xs ds ∧ ds.length = xs.length ∧ ∀ d ∈ ds, Sd N k d
  | [], _ => ⟨[], .nil, rfl, fun _ z => nomatch z⟩
  | x :: xs, h => by
    obtain ⟨d, h1, h2⟩ := h x List.mem_cons_self
    obtain ⟨ds, h3, h4, h5⟩ := any_all (xs := xs) fun y hy => h y (List.mem_cons_of_mem _ hy)
    exact ⟨d :: ds, .cons h1 h3, by simp [h4], fun y hy => by
      rcases List.mem_cons.mp hy with rfl | hy
      · exact h2
      · exact h5 y hy⟩
theorem Any.lst {K : PySem.W.Frag} {H : Hp} {N k : Nat} {a : Addr} {xs : List V} (e : H a = some (.lst xs)) (h : ∀ x ∈ xs, Any K H N k x) : Any K H ((N + 2) * xs.length + 3) (k + 1) (.ref a) := by
  obtain ⟨ds, h1, h2, h3⟩ := any_all h
  exact ⟨_, .lst e h1, h2 ▸ Sd.lst h3⟩
theorem Any.tup {K : PySem.W.Frag} {H : Hp} {N k : Nat} {a : Addr} {xs : List V} (e : H a = some (.tup xs)) (h : ∀ x ∈ xs, Any K H N k x) : Any K H ((N + 2) * xs.length + 3) (k + 1) (.ref a) := by
  obtain ⟨ds, h1, h2, h3⟩ := any_all h
  exact ⟨_, .tup e h1, h2 ▸ Sd.tup h3⟩
theorem Any.dct0 {K : PySem.W.Frag} {H : Hp} {a : Addr} (e : H a = some (.dK [])) : Any K H 10 2 (.ref a) := by
  refine ⟨_, .dct e .nil, by simp only [PyData.showable, PyData.showableKv], by simp only [PyData.depth, PyData.depthKv]; omega, ?_⟩
  simp only [PyData.shown, PyData.shownKv]
  decide +kernel
theorem Any.dct1 {K : PySem.W.Frag} {H : Hp} {N k m : Nat} {a : Addr} {x : Str} {v : V} (e : H a = some (.dK [(.inr x, v)])) (h : Any K H N k v) (hm : (reprText x).length ≤ m) : Any K H (N + m + 10) (k + 1) (.ref a) := by
  obtain ⟨d, h1, h2⟩ := h
  refine ⟨_, .dct e (.cons h1 .nil), ?_, ?_, ?_⟩
  · simp only [kD, PyData.showable, PyData.showableKv, h2.sh, Bool.and_self]
  · simp only [kD, PyData.depth, PyData.depthKv]
    have := h2.dp
    omega
  · simp only [kD, PyData.shown, PyData.shownKv]
    have := h2.ln
    unfold dictText
    rw [strLen_append, strLen_append]
    have e1 : (Str.join ", " [reprText x ++ ": " ++ d.shown]).length = (reprText x ++ ": " ++ d.shown).length := by
      rfl
    rw [e1, strLen_append, strLen_append]
    show 1 + _ + 1 ≤ _
    have e2 : ((": " : String) : Str).length = 2 := by decide
    omega
end Vf
namespace Vf
open PySem PySem.Spec PyProof.Rows L2
/-! ### a list as a table: places from -n to n -/
theorem ixN_of {m : Nat} {e : Int} (h0 : -(m : Int) ≤ e) (h1 : e < m) : ixN m e = some (if 0 ≤ e then e.toNat else (e + m).toNat) := by
  unfold ixN
  by_cases c : 0 ≤ e
  · rw [if_pos c, if_pos h1, if_pos c]
  · rw [if_neg c, if_pos h0, if_neg c]
structure IsF (n : Int) (f : Int → Int) (ts : List Int) : Prop where
  n0 : 0 ≤ n
  len : (ts.length : Int) = 2 * n + 1
  get : ∀ e, -n ≤ e → e ≤ n → atI ts e = some (f e)
theorem atI_map {α β : Type} (g : α → β) (xs : List α) (e : Int) : atI (xs.map g) e = (atI xs e).map g := by
  unfold atI
  rw [List.length_map]
  cases ixN xs.length e with
  | none => rfl
  | some j => show (xs.map g)[j]? = _; rw [List.getElem?_map]; rfl
theorem IsF.at {n : Int} {f : Int → Int} {ts : List Int} (h : IsF n f ts) {e : Int} (h1 : -n ≤ e) (h2 : e ≤ n) : atI (ts.map V.int) e = some (.int (f e)) := by
  rw [atI_map, h.get e h1 h2]; rfl
theorem IsF.ix {n : Int} {f : Int → Int} {ts : List Int} (h : IsF n f ts) {e : Int} (v : Int) (h1 : -n ≤ e) (h2 : e ≤ n) :
    ∃ j, ixN (ts.map V.int).length e = some j ∧ (ts.map V.int).set j (.int v) = (ts.set j v).map V.int ∧ IsF n (fun x => if x = e then v else f x) (ts.set j v) := by
  have hl := h.len
  have n0 := h.n0
  have ev := ixN_of (m := ts.length) (e := e) (by omega) (by omega)
  refine ⟨_, by rw [List.length_map]; exact ev, by rw [List.map_set], n0, by rw [List.length_set]; exact hl, fun x x1 x2 => ?_⟩
  have ex := ixN_of (m := ts.length) (e := x) (by omega) (by omega)
  have gx := h.get x x1 x2
  unfold atI at gx ⊢
  rw [ex] at gx
  rw [List.length_set, ex]
  show (ts.set _ v)[_]? = _
  rw [List.getElem?_set]
  by_cases c : x = e
  · subst c
    rw [if_pos rfl, if_pos rfl, if_pos]
    split <;> omega
  · rw [if_neg c, if_neg]
    · exact gx
    · intro z
      split at z <;> split at z <;> omega
theorem IsF.start {n : Int} (h : 0 ≤ n) : IsF n (fun _ => 0) (List.replicate (2 * n + 1).toNat 0) := by
  refine ⟨h, by rw [List.length_replicate]; omega, fun e h1 h2 => ?_⟩
  unfold atI
  rw [List.length_replicate, ixN_of (by omega) (by omega)]
  show (List.replicate _ (0 : Int))[_]? = _
  rw [List.getElem?_replicate, if_pos]
  split <;> omega
theorem IsF.congr {n : Int} {f g : Int → Int} {ts : List Int} (h : IsF n f ts) (e : ∀ x, -n ≤ x → x ≤ n → f x = g x) : IsF n g ts := ⟨h.n0, h.len, fun x h1 h2 => by rw [h.get x h1 h2, e x h1 h2]⟩
theorem rep_one {k : Nat} : (List.replicate k [V.int 0]).flatten = (List.replicate k (0 : Int)).map V.int := by
  induction k with
  | zero => rfl
  | succ k ih => rw [List.replicate_succ, List.flatten_cons, ih, List.replicate_succ]; rfl
/-- the entries of the table of partners -/
def ptb (L : List (Int × Int)) (e : Int) : Int := if e = 0 then 1 else (parI L e).getD 0
theorem parI_nil (e : Int) : parI [] e = none := rfl
theorem find_none_app {L : List (Int × Int)} {e : Int} (M : List (Int × Int)) (h : parI L e = none) : parI (L ++ M) e = parI M e := by
  unfold parI at h ⊢
  rw [Option.map_eq_none_iff] at h
  rw [tabI_app, List.find?_append, h]
  rfl
theorem find_some_app {L : List (Int × Int)} {e x : Int} (M : List (Int × Int)) (h : parI L e = some x) : parI (L ++ M) e = some x := by
  unfold parI at h ⊢
  rw [tabI_app, List.find?_append]
  cases c : (tabI L).find? fun q => decide (q.1 = e) with
  | none => rw [c] at h; cases h
  | some q => rw [c] at h; exact h
theorem parI_one (a b e : Int) : parI [(a, b)] e = if e = a then some b else if e = b then some a else none := by
  unfold parI tabI
  show (([(a, b), (b, a)] : List (Int × Int)).find? fun q => decide (q.1 = e)).map (·.2) = _
  rw [List.find?_cons, List.find?_cons]
  by_cases c : e = a
  · rw [if_pos c, show decide ((a, b).1 = e) = true from decide_eq_true c.symm]
    rfl
  · rw [if_neg c, show decide ((a, b).1 = e) = false from decide_eq_false (Ne.symm c)]
    by_cases c2 : e = b
    · rw [if_pos c2, show decide ((b, a).1 = e) = true from decide_eq_true c2.symm]
      rfl
    · rw [if_neg c2, show decide ((b, a).1 = e) = false from decide_eq_false (Ne.symm c2)]
      rfl
theorem parI_snoc {L : List (Int × Int)} {a b : Int} (ha : a ∉ flat L) (hb : b ∉ flat L) (e : Int) : parI (L ++ [(a, b)]) e = if e = a then some b else if e = b then some a else parI L e := by
  cases c : parI L e with
  | none => rw [find_none_app _ c, parI_one]
  | some x =>
    have he : e ∈ flat L := by
      by_cases z : e ∈ flat L
      · exact z
      · rw [parI_none.mpr z] at c; cases c
    rw [find_some_app _ c, if_neg (fun z : e = a => ha (z ▸ he)), if_neg (fun z : e = b => hb (z ▸ he))]
theorem ptb_snoc {L : List (Int × Int)} {a b : Int} (ha : a ∉ flat L) (hb : b ∉ flat L) (a0 : a ≠ 0) (b0 : b ≠ 0) (ab : a ≠ b) (e : Int) : (if e = b then a else if e = a then b else ptb L e) = ptb (L ++ [(a, b)]) e := by
  unfold ptb
  rw [parI_snoc ha hb]
  by_cases c0 : e = 0
  · rw [if_pos c0, if_pos c0, if_neg (by omega), if_neg (by omega)]
  · rw [if_neg c0, if_neg c0]
    by_cases c1 : e = a
    · rw [if_pos c1, if_neg (by omega), if_pos c1]; rfl
    · rw [if_neg c1, if_neg c1]
      by_cases c2 : e = b
      · rw [if_pos c2, if_pos c2]; rfl
      · rw [if_neg c2, if_neg c2]
theorem ptb_start (e : Int) : (if e = 0 then (1 : Int) else 0) = ptb [] e := by
  unfold ptb
  rw [parI_nil]
  rfl
/-! ### what is no layout, as data -/
/-- the coupling that a datum is -/
def cpD (n : Int) : PyData → Option (Int × Int)
  | .tuple [.int a, .int b] => if -n ≤ a ∧ a < b ∧ b ≤ n ∧ a ≠ 0 ∧ b ≠ 0 then some (a, b) else none
  | _ => none
def okN (L : List (Int × Int)) (p : Int × Int) : Prop := (∀ q ∈ L, q.1 < p.1) ∧ p.1 ∉ flat L ∧ p.2 ∉ flat L
instance (L : List (Int × Int)) (p : Int × Int) : Decidable (okN L p) := by unfold okN; exact inferInstance
def layW (n : Int) : List (Int × Int) → List PyData → Option Nat
  | _, [] => none
  | L, d :: ds => match cpD n d with
    | some p => if okN L p then layW n (L ++ [p]) ds else some L.length
    | none => some L.length
theorem cpD_dP {n : Int} {d : PyData} {p : Int × Int} (h : cpD n d = some p) : d = dP p ∧ -n ≤ p.1 ∧ p.1 < p.2 ∧ p.2 ≤ n ∧ p.1 ≠ 0 ∧ p.2 ≠ 0 := by
  unfold cpD at h
  split at h
  · split at h
    · rename_i c
      cases h
      exact ⟨rfl, c⟩
    · cases h
  · cases h
theorem cpD_of {n : Int} {p : Int × Int} (h : -n ≤ p.1 ∧ p.1 < p.2 ∧ p.2 ≤ n ∧ p.1 ≠ 0 ∧ p.2 ≠ 0) : cpD n (dP p) = some p := by
  unfold cpD dP
  exact if_pos h
theorem Lay.nil {n : Int} (n1 : 1 ≤ n) (n60 : n ≤ 60) : Lay n [] := ⟨n1, n60, fun _ h => (nomatch h), List.Pairwise.nil, List.Pairwise.nil⟩
theorem Lay.snoc {n : Int} {L : List (Int × Int)} {p : Int × Int} (h : Lay n L) (c : -n ≤ p.1 ∧ p.1 < p.2 ∧ p.2 ≤ n ∧ p.1 ≠ 0 ∧ p.2 ≠ 0) (k : okN L p) : Lay n (L ++ [p]) := by
  obtain ⟨k1, k2, k3⟩ := k
  refine ⟨h.n1, h.n60, fun q hq => ?_, ?_, ?_⟩
  · rcases List.mem_append.mp hq with z | z
    · exact h.cp q z
    · rw [List.mem_singleton.mp z]; exact c
  · rw [List.pairwise_append]
    refine ⟨h.asc, List.pairwise_singleton _ _, fun a ha b hb => ?_⟩
    rw [List.mem_singleton.mp hb]
    exact .inl (k1 a ha)
  · rw [flat_app, flat_cons, flat_nil]
    rw [List.nodup_append]
    refine ⟨h.nd, ?_, fun a ha b hb => ?_⟩
    · rw [List.nodup_cons]
      refine ⟨?_, by simp⟩
      intro z
      have := List.mem_singleton.mp z
      omega
    · rintro rfl
      rcases List.mem_cons.mp hb with z | z
      · exact k2 (z ▸ ha)
      · exact k3 (List.mem_singleton.mp z ▸ ha)
theorem Lay.okN {n : Int} {L M : List (Int × Int)} {p : Int × Int} (h : Lay n (L ++ p :: M)) : okN L p := by
  have nd := h.nd
  rw [flat_app, flat_cons] at nd
  obtain ⟨_, _, h3⟩ := List.nodup_append.mp nd
  refine ⟨fun q hq => ?_, fun z => h3 _ z p.1 (by simp) rfl, fun z => h3 _ z p.2 (by simp) rfl⟩
  rcases (List.pairwise_append.mp h.asc).2.2 q hq p (by simp) with z | z
  · exact z
  · exact absurd z.1 (h3 q.1 (mem_flat.mpr ⟨q, hq, .inl rfl⟩) p.1 (by simp))
theorem layW_app {n : Int} : ∀ {M L : List (Int × Int)} {r : List PyData}, Lay n (L ++ M) → layW n L (M.map dP ++ r) = layW n (L ++ M) r
  | [], L, r, _ => by rw [List.append_nil]; rfl
  | p :: M, L, r, h => by
    have hc := h.cp p (by simp)
    rw [List.map_cons, List.cons_append]
    unfold layW
    rw [cpD_of hc]
    show (if Vf.okN L p then _ else _) = _
    rw [if_pos h.okN, layW_app (by rw [List.append_assoc]; exact h), List.append_assoc]
    cases r <;> rfl
theorem layW_none {n : Int} {L : List (Int × Int)} (h : Lay n L) : layW n [] (L.map dP) = none := by
  have := layW_app (L := []) (M := L) (r := []) h
  rw [List.append_nil] at this
  rw [this]
  rfl
theorem layW_bad {n : Int} {L : List (Int × Int)} {d : PyData} {r : List PyData} (h : Lay n L) (b : ∀ p, cpD n d = some p → ¬ okN L p) : layW n [] (L.map dP ++ d :: r) = some L.length := by
  rw [layW_app (L := []) (M := L) h]
  show layW n L (d :: r) = _
  unfold layW
  cases c : cpD n d with
  | none => rfl
  | some p => simp only [if_neg (b p c)]
end Vf
namespace Vf
open PySem PySem.Spec PyProof.Rows L2
/-! ### tests: three comparisons in a row, truth of any value -/
def tCh3 (r1 r2 r3 : R2) (ta tb tc td : TE) : TT := fun σ H B => ta σ H fun x H1 => tb σ H1 fun y H2 => r1 x y H2 fun c1 H3 => ∃ k1, c1 = .bl k1 ∧ if k1 = true then
  tc σ H3 fun z H4 => r2 y z H4 fun c2 H5 => ∃ k2, c2 = .bl k2 ∧ if k2 = true then td σ H5 fun t H6 => r3 z t H6 fun c3 H7 => ∃ k3, c3 = .bl k3 ∧ B k3 H7 else B false H5 else B false H3
section
variable {X : Cx} {a b c d : Expr} {ta tb tc td : TE} {pos : Pos}
theorem pt_ch3 {o1 o2 o3 : CmpOp} {r1 r2 r3 : R2} (h1 : OpR X (compareOp o1) r1) (h2 : OpR X (compareOp o2) r2) (h3 : OpR X (compareOp o3) r3) (ha : PE X a ta) (hb : PE X b tb) (hc : PE X c tc) (hd : PE X d td)
    (marks : lastMarks [o1, o2, o3] [b, c, d] = false := by with_unfolding_all rfl) : PT X (.Compare a [o1, o2, o3] [b, c, d] pos) (tCh3 r1 r2 r3 ta tb tc td) := by
  constructor
  intro pins s σ H B I h
  refine isTrue_chain (thn (ha.run pins s σ H _ I h) fun va sa ⟨x, G1, J1, e1, q1⟩ => test_link (thn (hb.run pins sa σ G1 _ J1 q1) fun vb sb ⟨y, G2, J2, e2, q2⟩ => thn (h1 pins sb σ G2 x y va vb _ J2 e1 e2 q2) ?_)) marks
  rintro u1 t1 ⟨_, G3, J3, rel, k1, rfl, q3⟩
  cases rel
  apply wpAny_truthy_bool
  cases k1 with
  | false => exact ite_ff ⟨G3, J3, q3⟩
  | true =>
    refine ite_tt (test_link (thn (hc.run pins t1 σ G3 _ J3 q3) fun vc sc ⟨z, G4, J4, e4, q4⟩ => thn (h2 pins sc σ G4 y z vb vc _ J4 e2 e4 q4) ?_))
    rintro u2 t2 ⟨_, G5, J5, rel, k2, rfl, q5⟩
    cases rel
    apply wpAny_truthy_bool
    cases k2 with
    | false => exact ite_ff ⟨G5, J5, q5⟩
    | true =>
      refine ite_tt (test_last (thn (hd.run pins t2 σ G5 _ J5 q5) fun vd sd ⟨t, G6, J6, e6, q6⟩ => thn (h3 pins sd σ G6 z t vc vd _ J6 e4 e6 q6) ?_))
      rintro u3 t3 ⟨_, G7, J7, rel, k3, rfl, q7⟩
      cases rel
      exact wpAny_truthy_bool ⟨G7, J7, q7⟩
def tTru (K : PySem.W.Frag) (te : TE) : TT := fun σ H B => te σ H fun x H1 => ∃ k, TruV K x H1 k ∧ B k H1
theorem pt_tru {K : PySem.W.Frag} (ha : PE X a ta) (he : ∀ whole, isTrue a X.env whole = (do let v ← whole; standAt a.pos; holding [v] (truthy v)) := by intro _; rfl) (hK : X.K = K := by rfl) : PT X a (tTru K ta) := by
  subst hK
  exact pt_truth ha he
end
section
variable {K : PySem.W.Frag} {σ : L2.St} {H : Hp} {Q : VK} {B : Bool → Hp → Prop} {te ta tb tc td : TE}
theorem r_tru (h : te σ H fun x H1 => ∃ k, TruV K x H1 k ∧ B k H1) : tTru K te σ H B := h
theorem r_truI {i : Int} (h : B (i != 0) H) : ∃ k, TruV K (.int i) H k ∧ B k H := ⟨_, rfl, h⟩
theorem r_truB {b : Bool} (h : B b H) : ∃ k, TruV K (.bl b) H k ∧ B k H := ⟨_, rfl, h⟩
theorem r_ch3 {r1 r2 r3 : R2} (h : ta σ H fun x H1 => tb σ H1 fun y H2 => r1 x y H2 fun c1 H3 => ∃ k1, c1 = .bl k1 ∧ if k1 = true then
  tc σ H3 fun z H4 => r2 y z H4 fun c2 H5 => ∃ k2, c2 = .bl k2 ∧ if k2 = true then td σ H5 fun t H6 => r3 z t H6 fun c3 H7 => ∃ k3, c3 = .bl k3 ∧ B k3 H7 else B false H5 else B false H3) : tCh3 r1 r2 r3 ta tb tc td σ H B := h
/-- the type of any value -/
def rTyp (K : PySem.W.Frag) : List V → Hp → VK → Prop := fun xs H Q => ∃ (v : V) (d : PyData), xs = [v] ∧ Dt K H v d ∧ Q (.ty (tyD d)) H
theorem typK {X : Cx} (hK : X.K = K := by rfl) : CallR X (.type "type") (rTyp K) := call_typeD hK
theorem r_typ {v : V} {d : PyData} (h : Dt K H v d) (q : Q (.ty (tyD d)) H) : rTyp K [v] H Q := ⟨v, d, rfl, h, q⟩
theorem tyN_d (d : PyData) : TyN (tyD d) := by cases d <;> constructor
def rTyC (neg : Bool) : R2 := fun x y H Q => ∃ m n, x = .ty m ∧ y = .ty n ∧ TyN m ∧ TyN n ∧ Q (.bl (decide (m = n) != neg)) H
theorem op_tyEq {X : Cx} : OpR X (compareOp .Eq) (rTyC false) := by
  rintro pins s σ H _ _ v u Q I rx ry ⟨m, n, rfl, rfl, hm, hn, q⟩
  cases rx
  cases ry
  by_cases e : m = n
  · subst e
    exact TypeEq.eq_type_same hm.is ⟨.bl true, H, I, rfl, by simpa using q⟩
  · refine TypeEq.eq_type_other hm.is hn.is ?_ ⟨.bl false, H, I, rfl, by simpa [e] using q⟩
    rw [Bool.eq_false_iff]
    intro z
    exact e (Value.type.inj (beq_iff_eq.mp z))
theorem r_tyC {a b : String} {neg : Bool} (ha : TyN a) (hb : TyN b) (q : Q (.bl (decide (a = b) != neg)) H) : rTyC neg (.ty a) (.ty b) H Q := ⟨a, b, rfl, rfl, ha, hb, q⟩
/-! any value once more -/
theorem dta_pair {xs : List V} {ds : List PyData} (h : DtAll K H xs ds) : Paired (Dt K H) xs ds := by
  induction ds generalizing xs with
  | nil => cases h; exact .nil
  | cons d ds ih =>
    cases h with
    | cons h r => exact .cons h (ih r)
theorem dta_len {xs : List V} {ds : List PyData} (h : DtAll K H xs ds) : xs.length = ds.length := pair_len (dta_pair h)
end
end Vf
namespace Vf
open PySem PySem.Spec PyProof.Rows L2
/-! ### the program's own words for values, on data -/
def intD : PyData → Option Int
  | .int i => some i
  | _ => none
def isIntD (d : PyData) : Bool := (intD d).isSome
def piecesD (d : PyData) : Option Int := match d with
  | .int n => if 1 ≤ n ∧ n ≤ 60 then some n else none
  | _ => none
def lstD (d : PyData) : Option (List PyData) := match d with
  | .list ds => some ds
  | _ => none
/-- the field of the error of a value that should be a layout -/
inductive LayE (n : Int) : PyData → V → Prop
  | list {d : PyData} (h : lstD d = none) : LayE n d .non
  | item {ds : List PyData} {i : Nat} (h : layW n [] ds = some i) : LayE n (.list ds) (.int i)
theorem isInt_t {d : PyData} (h : isD "int" d = true) : (!isD "bool" d) = isIntD d := by cases d <;> revert h <;> simp [isD, tyD, isIntD, intD]
theorem isInt_f {d : PyData} (h : ¬ isD "int" d = true) : isIntD d = false := by cases d <;> revert h <;> simp [isD, tyD, isIntD, intD]
theorem isInt_some {d : PyData} (h : isIntD d = true) : ∃ i, d = .int i := by cases d <;> first | exact ⟨_, rfl⟩ | cases h
theorem dt_int {K : PySem.W.Frag} {H : Hp} {v : V} {i : Int} (h : Dt K H v (.int i)) : v = .int i := by cases h; rfl
theorem dt_lst {K : PySem.W.Frag} {H : Hp} {v : V} {ds : List PyData} (h : Dt K H v (.list ds)) : ∃ a xs, v = .ref a ∧ H a = some (.lst xs) ∧ DtAll K H xs ds := by cases h with | lst h r => exact ⟨_, _, rfl, h, r⟩
theorem dt_tup {K : PySem.W.Frag} {H : Hp} {v : V} {ds : List PyData} (h : Dt K H v (.tuple ds)) : ∃ a xs, v = .ref a ∧ H a = some (.tup xs) ∧ DtAll K H xs ds := by cases h with | tup h r => exact ⟨_, _, rfl, h, r⟩
theorem tyD_int {d : PyData} : tyD d = "int" ↔ isIntD d = true := by cases d <;> simp [tyD, isIntD, intD]
theorem tyD_tup {d : PyData} : tyD d = "tuple" ↔ ∃ ds, d = .tuple ds := by cases d <;> simp [tyD]
theorem tyD_lst {d : PyData} : tyD d = "list" ↔ ∃ ds, d = .list ds := by cases d <;> simp [tyD]
theorem cp_none_tup {n : Int} {d : PyData} (h : ¬ ∃ ds, d = .tuple ds) : cpD n d = none := by
  unfold cpD
  split
  · exact absurd ⟨_, rfl⟩ h
  · rfl
theorem cp_none_len {n : Int} {ds : List PyData} (h : ds.length ≠ 2) : cpD n (.tuple ds) = none := by
  unfold cpD
  split
  · rename_i e
    cases e
    exact absurd rfl h
  · rfl
theorem cp_none_int {n : Int} {d e : PyData} (h : ¬ (isIntD d = true ∧ isIntD e = true)) : cpD n (.tuple [d, e]) = none := by
  unfold cpD
  split
  · rename_i q
    cases q
    exact absurd ⟨rfl, rfl⟩ h
  · rfl
theorem cp_none_rng {n a b : Int} (h : ¬ (-n ≤ a ∧ a < b ∧ b ≤ n ∧ a ≠ 0 ∧ b ≠ 0)) : cpD n (.tuple [.int a, .int b]) = none := if_neg h
end Vf
namespace Vf
open PySem PySem.Spec PyProof.Rows L2
def opensL (n : Int) (L : List (Int × Int)) : List Int := (endsL n).filter fun e => !(parI L e).isSome
end Vf
namespace Vf
open PySem PySem.Spec PyProof.Rows L2
theorem layW_lt {n : Int} : ∀ {ds : List PyData} {L : List (Int × Int)} {i : Nat}, layW n L ds = some i → i < L.length + ds.length
  | [], _, _, h => by cases h
  | d :: ds, L, i, h => by
    unfold layW at h
    rw [List.length_cons]
    split at h
    · split at h
      · have := layW_lt h
        rw [List.length_append, List.length_singleton] at this
        omega
      · cases h; omega
    · cases h; omega
def fewD (d : PyData) : Prop := ∀ ds, d = .list ds → ds.length ≤ 100000
theorem easy_nat {i : Nat} (h : i ≤ 100000) : Easy (.int (i : Int)) := .inr ⟨i, rfl, log2_small (Nat.lt_of_le_of_lt (show (i : Int).natAbs ≤ 100000 by omega) (by decide +kernel))⟩
theorem Lay.few {n : Int} {L : List (Int × Int)} (h : Lay n L) : fewD (dL L) := fun ds e => by
  cases e
  rw [List.length_map]
  have := h.len
  omega
/-- the data of a layout in the heap -/
theorem dta_prs {K : PySem.W.Frag} {H : Hp} : ∀ {xs : List V} {L : List (Int × Int)}, Prs H xs L → DtAll K H xs (L.map dP)
  | _, _, .nil => .nil
  | _, _, .cons ⟨t, e, h⟩ r => .cons (e ▸ .tup h (.cons (.int _) (.cons (.int _) .nil))) (dta_prs r)
theorem dt_lay {K : PySem.W.Frag} {H : Hp} {a : Addr} {xs : List V} {L : List (Int × Int)} (h : H a = some (.lst xs)) (p : Prs H xs L) : Dt K H (.ref a) (dL L) := .lst h (dta_prs p)
theorem dL_inj {L M : List (Int × Int)} (h : dL L = dL M) : L = M := by
  have h1 : L.map dP = M.map dP := by cases h1 : dL L; all_goals (unfold dL at *; injection h)
  clear h
  induction L generalizing M with
  | nil => cases M with
    | nil => rfl
    | cons q M => cases h1
  | cons p L ih => cases M with
    | nil => cases h1
    | cons q M =>
      rw [List.map_cons, List.map_cons] at h1
      injection h1 with e1 e2
      unfold dP at e1
      injection e1 with e3
      injection e3 with e4 e5
      injection e5 with e6 e7
      injection e4 with e8
      injection e6 with e9
      rw [ih e2, show p = q from Prod.ext e8 e9]
theorem layE_no {n : Int} {L : List (Int × Int)} {i : V} (hL : Lay n L) (h : LayE n (dL L) i) : False := by
  cases h with
  | list h => cases h
  | item h => rw [layW_none hL] at h; cases h
end Vf
namespace Vf
open PySem PySem.Spec PyProof.Rows L2
theorem pieces_int {n : Int} (h1 : 1 ≤ n) (h2 : n ≤ 60) : piecesD (.int n) = some n := if_pos ⟨h1, h2⟩
end Vf
namespace Vf
open PySem PySem.Spec PyProof.Rows L2
end Vf
namespace Vf
open PySem PySem.Spec PyProof.Rows L2
/-! ### values that a law makes up: what is known of them is that they are data, not too long -/
def Val (K : PySem.W.Frag) (H : Hp) (W k : Nat) (v : V) : Prop := ∃ d, Dt K H v d ∧ Sd W k d ∧ fewD d
/-- many of them: their texts together, their depth, their number -/
def Vals' (K : PySem.W.Frag) (H : Hp) (W k m : Nat) (vs : List V) : Prop := ∃ ds, DtAll K H vs ds ∧ (∀ d ∈ ds, d.showable = true ∧ d.depth ≤ k ∧ fewD d) ∧ ((PyData.shownAll ds).map (·.length)).sum ≤ W ∧ ds.length ≤ m
def LsV (K : PySem.W.Frag) (H : Hp) (W k m : Nat) (v : V) : Prop := ∃ a xs, v = .ref a ∧ H a = some (.lst xs) ∧ Vals' K H W k m xs
section
variable {K : PySem.W.Frag} {H H' : Hp} {W W' k k' m m' : Nat} {v : V} {vs us : List V}
theorem Val.mono (s : Same H H') (h : Val K H W k v) : Val K H' W k v := let ⟨d, a, b⟩ := h; ⟨d, a.mono s, b⟩
theorem Val.le (h : Val K H W k v) (h1 : W ≤ W') (h2 : k ≤ k') : Val K H W' k' v := let ⟨d, a, b, c⟩ := h; ⟨d, a, b.mono h1 h2, c⟩
theorem Vals'.mono (s : Same H H') (h : Vals' K H W k m vs) : Vals' K H' W k m vs := let ⟨d, a, b⟩ := h; ⟨d, a.mono s, b⟩
theorem LsV.mono (s : Same H H') (h : LsV K H W k m v) : LsV K H' W k m v := let ⟨a, xs, e, f, g⟩ := h; ⟨a, xs, e, s _ _ f, g.mono s⟩
theorem vals_nil : Vals' K H 0 0 0 [] := ⟨[], .nil, fun _ z => (nomatch z), by rw [PyData.shownAll_nil]; exact Nat.le_refl _, Nat.le_refl _⟩
theorem vals_cons (h : Val K H W k v) (hs : Vals' K H W' k' m vs) : Vals' K H (W + W') (max k k') (m + 1) (v :: vs) := by
  obtain ⟨d, h1, h2, h3⟩ := h
  obtain ⟨ds, g1, g2, g3, g4⟩ := hs
  refine ⟨d :: ds, .cons h1 g1, fun x hx => ?_, ?_, by rw [List.length_cons]; omega⟩
  · rcases List.mem_cons.mp hx with rfl | hx
    · exact ⟨h2.sh, Nat.le_trans h2.dp (Nat.le_max_left _ _), h3⟩
    · obtain ⟨a, b, c⟩ := g2 x hx
      exact ⟨a, Nat.le_trans b (Nat.le_max_right _ _), c⟩
  · rw [PyData.shownAll_cons, List.map_cons, List.sum_cons]
    have := h2.ln
    omega
theorem dta_app {xs ys : List V} {ds es : List PyData} (h : DtAll K H xs ds) (g : DtAll K H ys es) : DtAll K H (xs ++ ys) (ds ++ es) := by
  induction ds generalizing xs with
  | nil => cases h; exact g
  | cons d ds ih => cases h with | cons a b => exact .cons a (ih b)
theorem shownAll_app : ∀ ds es : List PyData, PyData.shownAll (ds ++ es) = PyData.shownAll ds ++ PyData.shownAll es
  | [], _ => by rw [PyData.shownAll_nil]; rfl
  | d :: ds, es => by rw [List.cons_append, PyData.shownAll_cons, PyData.shownAll_cons, shownAll_app ds es]; rfl
theorem vals_app (h : Vals' K H W k m vs) (g : Vals' K H W' k' m' us) : Vals' K H (W + W') (max k k') (m + m') (vs ++ us) := by
  obtain ⟨ds, h1, h2, h3, h4⟩ := h
  obtain ⟨es, g1, g2, g3, g4⟩ := g
  refine ⟨ds ++ es, dta_app h1 g1, fun x hx => ?_, ?_, by rw [List.length_append]; omega⟩
  · rcases List.mem_append.mp hx with hx | hx
    · obtain ⟨a, b, c⟩ := h2 x hx
      exact ⟨a, Nat.le_trans b (Nat.le_max_left _ _), c⟩
    · obtain ⟨a, b, c⟩ := g2 x hx
      exact ⟨a, Nat.le_trans b (Nat.le_max_right _ _), c⟩
  · rw [shownAll_app, List.map_append, List.sum_append]
    omega
theorem sd_seq {ds : List PyData} (h : ∀ d ∈ ds, d.showable = true ∧ d.depth ≤ k ∧ fewD d) : PyData.showableAll ds = true ∧ PyData.depthAll ds ≤ k := by
  induction ds with
  | nil => exact ⟨by simp only [PyData.showableAll], by simp only [PyData.depthAll]; omega⟩
  | cons d ds ih =>
    obtain ⟨a, b⟩ := ih fun x hx => h x (List.mem_cons_of_mem _ hx)
    obtain ⟨c, e, _⟩ := h d List.mem_cons_self
    refine ⟨by simp only [PyData.showableAll, c, a, Bool.and_self], by simp only [PyData.depthAll]; omega⟩
theorem Vals'.tup {a : Addr} (e : H a = some (.tup vs)) (h : Vals' K H W k m vs) : Val K H (W + 2 * m + 3) (k + 1) (.ref a) := by
  obtain ⟨ds, h1, h2, h3, h4⟩ := h
  obtain ⟨s1, s2⟩ := sd_seq h2
  refine ⟨.tuple ds, .tup e h1, ⟨by simp only [PyData.showable, s1], by simp only [PyData.depth]; omega, ?_⟩, fun _ z => by cases z⟩
  simp only [PyData.shown]
  have := tupleText_len_le (PyData.shownAll ds)
  rw [PyData.shownAll_length] at this
  omega
theorem LsV.val (h : LsV K H W k m v) (hm : m ≤ 100000) : Val K H (W + 2 * m + 3) (k + 1) v := by
  obtain ⟨a, xs, rfl, e, ds, h1, h2, h3, h4⟩ := h
  obtain ⟨s1, s2⟩ := sd_seq h2
  refine ⟨.list ds, .lst e h1, ⟨by simp only [PyData.showable, s1], by simp only [PyData.depth]; omega, ?_⟩, fun es z => by cases z; omega⟩
  simp only [PyData.shown]
  have := listText_len_le (PyData.shownAll ds)
  rw [PyData.shownAll_length] at this
  omega
theorem val_int {i : Int} (h : i.natAbs < 10 ^ 40) : Val K H 42 1 (.int i) := by
  refine ⟨.int i, .int i, ⟨?_, by simp only [PyData.depth]; omega, ?_⟩, fun _ z => by cases z⟩
  · simp only [PyData.showable]
    exact decide_eq_true (log2_small (Nat.lt_of_lt_of_le (Nat.lt_trans h (show 10 ^ 40 < 2 ^ 200 by decide)) (Nat.pow_le_pow_right (by decide) (by decide))))
  · have e := int_text_length_le10 (k := 40) (by decide) h
    show (Str.ofString (toString i)).length ≤ 42
    rw [PySem.ofString_length]
    omega
theorem val_non : Val K H 4 1 .non := ⟨.none, .non, ⟨by simp only [PyData.showable], by simp only [PyData.depth]; omega, by rw [PyData.shown_none]; decide⟩, fun _ z => by cases z⟩
theorem val_bl {b : Bool} : Val K H 5 1 (.bl b) := ⟨.bool b, .bl b, ⟨by simp only [PyData.showable], by simp only [PyData.depth]; omega, by rw [PyData.shown_bool]; cases b <;> decide⟩, fun _ z => by cases z⟩
theorem val_str {x : Str} {n : Nat} (h : (reprText x).length ≤ n) : Val K H n 1 (.str x) := ⟨.str x, .str x, ⟨by simp only [PyData.showable], by simp only [PyData.depth]; omega, by rw [PyData.shown_str]; exact h⟩, fun _ z => by cases z⟩
theorem val_dct0 {a : Addr} (e : H a = some (.dK [])) : Val K H 10 2 (.ref a) := by
  obtain ⟨d, h1, h2⟩ := Any.dct0 (K := K) e
  cases h1 with
  | lst h _ => rw [e] at h; cases h
  | tup h _ => rw [e] at h; cases h
  | dct h r => exact ⟨_, .dct h r, h2, fun _ z => by cases z⟩
theorem val_dct1 {a : Addr} {x : Str} {n : Nat} (e : H a = some (.dK [(.inr x, v)])) (h : Val K H W k v) (hm : (reprText x).length ≤ n) : Val K H (W + n + 10) (k + 1) (.ref a) := by
  obtain ⟨d0, g1, g2, _⟩ := h
  obtain ⟨d, h1, h2⟩ := Any.dct1 (K := K) e ⟨d0, g1, g2⟩ hm
  cases h1 with
  | lst h _ => rw [e] at h; cases h
  | tup h _ => rw [e] at h; cases h
  | dct h r => exact ⟨_, .dct h r, h2, fun _ z => by cases z⟩
theorem Vals'.le (h : Vals' K H W k m vs) (h1 : W ≤ W') (h2 : k ≤ k') (h3 : m ≤ m') : Vals' K H W' k' m' vs := by
  obtain ⟨ds, a, b, c, d⟩ := h
  exact ⟨ds, a, fun x hx => by obtain ⟨p, q, r⟩ := b x hx; exact ⟨p, by omega, r⟩, by omega, by omega⟩
theorem Vals'.len (h : Vals' K H W k m vs) : vs.length ≤ m := by
  obtain ⟨ds, a, _, _, d⟩ := h
  rw [dta_len a]
  exact d
theorem Vals'.sub {ys : List V} (h : Vals' K H W k m vs) (s : ys.Sublist vs) : Vals' K H W k m ys := by
  obtain ⟨ds, a, b, c, d⟩ := h
  induction s generalizing ds W m with
  | slnil => cases a; exact ⟨[], .nil, fun _ z => (nomatch z), by rw [PyData.shownAll_nil]; exact Nat.zero_le _, Nat.zero_le _⟩
  | @cons l1 l2 x _ ih =>
    cases a with
    | @cons _ _ e es a1 a2 =>
      rw [PyData.shownAll_cons, List.map_cons, List.sum_cons] at c
      rw [List.length_cons] at d
      exact ih es a2 (fun y hy => b y (List.mem_cons_of_mem _ hy)) (by omega) (by omega)
  | @cons_cons l1 l2 x _ ih =>
    cases a with
    | @cons _ _ e es a1 a2 =>
      rw [PyData.shownAll_cons, List.map_cons, List.sum_cons] at c
      rw [List.length_cons] at d
      obtain ⟨fs, f1, f2, f3, f4⟩ := ih (W := W - e.shown.length) (m := m - 1) es a2 (fun y hy => b y (List.mem_cons_of_mem _ hy)) (by omega) (by omega)
      refine ⟨e :: fs, .cons a1 f1, fun y hy => ?_, by rw [PyData.shownAll_cons, List.map_cons, List.sum_cons]; omega, by rw [List.length_cons]; omega⟩
      rcases List.mem_cons.mp hy with rfl | hy
      · exact b _ List.mem_cons_self
      · exact f2 y hy
theorem cut_sub (xs : List V) (lo hi : Option Int) : (cutV xs lo hi).Sublist xs := (List.take_sublist _ _).trans (List.drop_sublist _ _)
theorem vals_rev (h : Vals' K H W k m vs) : Vals' K H W k m vs.reverse := by
  obtain ⟨ds, a, b, c, d⟩ := h
  have ra : DtAll K H vs.reverse ds.reverse := by
    clear b c d
    induction ds generalizing vs with
    | nil => cases a; exact .nil
    | cons e es ih => cases a with
      | cons a1 a2 => rw [List.reverse_cons, List.reverse_cons]; exact dta_app (ih a2) (.cons a1 .nil)
  have rs : ∀ es : List PyData, ((PyData.shownAll es.reverse).map (·.length)).sum = ((PyData.shownAll es).map (·.length)).sum := fun es => by
    induction es with
    | nil => rfl
    | cons e es ih => rw [List.reverse_cons, shownAll_app, List.map_append, List.sum_append, ih, PyData.shownAll_cons, PyData.shownAll_cons, PyData.shownAll_nil, List.map_cons, List.map_cons, List.sum_cons, List.sum_cons]; simp; omega
  exact ⟨ds.reverse, ra, fun e he => b e (List.mem_reverse.mp he), by rw [rs]; exact c, by rw [List.length_reverse]; exact d⟩
end
end Vf
namespace Vf
open PySem PySem.Spec PyProof.Rows L2
/-! ### the heap but for one object that goes on changing (the draws' list) -/
def Hid (t : List Addr) (H : Hp) : Hp := fun b => if b ∈ t then none else H b
def Seen (t : List Addr) (H : Hp) : Prop := ∀ x, x ∈ t → H x ≠ none
section
variable {t : List Addr} {H H' : Hp} {p : Addr} {o : HO}
theorem hid_le : Same (Hid t H) H := fun b o e => by
  unfold Hid at e
  split at e
  · cases e
  · exact e
theorem hid_same (s : Same H H') : Same (Hid t H) (Hid t H') := fun b o e => by
  unfold Hid at e ⊢
  split at e
  · cases e
  · rename_i c
    rw [if_neg c]
    exact s b o e
theorem Seen.mono (s : Same H H') (h : Seen t H) : Seen t H' := fun x e z => h x e (by
  cases c : H x with
  | none => rfl
  | some o => rw [s x o c] at z; cases z)
theorem hid_at (h : Seen t H) (n : H p = none) : p ∉ t := fun e => h p e n
theorem hid_new (h : Seen t H) (n : H p = none) : Hid t (upd H p o) p = some o := by
  unfold Hid
  rw [if_neg (hid_at h n), upd_same]
theorem hid_get {b : Addr} (e : H b = some o) (n : b ∉ t) : Hid t H b = some o := by unfold Hid; rw [if_neg n]; exact e
theorem hid_upd {a : Addr} (h : a ∈ t) : Hid t (upd H a o) = Hid t H := funext fun x => by
  unfold Hid
  by_cases c : x ∈ t
  · rw [if_pos c, if_pos c]
  · rw [if_neg c, if_neg c, upd_ne (fun z : x = a => c (by rw [z]; exact h))]
theorem hid_more {a : Addr} : Same (Hid (a :: t) H) (Hid t H) := fun b o e => by
  unfold Hid at e ⊢
  split at e
  · cases e
  · rename_i c
    rw [if_neg fun z => c (List.mem_cons_of_mem _ z)]
    exact e
theorem hid_samex {a : Addr} (x : SameX a H H') : Same (Hid [a] H) (Hid [a] H') := fun b o e => by
  unfold Hid at e ⊢
  split at e
  · cases e
  · rename_i c
    rw [if_neg c]
    exact x b o (by simpa using c) e
end
/-! ### what an expression gives, by its form: an int, a value, a list of values -/
section
variable (K : PySem.W.Frag) (t : List Addr) (σ : L2.St) (H0 : Hp)
def EvI (te : TE) (i : Int) : Prop := ∀ H Q, Same H0 (Hid t H) → Q (.int i) H → te σ H Q
def EvV (te : TE) (W k : Nat) : Prop := ∀ H Q, Same H0 (Hid t H) → Seen t H → (∀ v H', Same H H' → Val K (Hid t H') W k v → Q v H') → te σ H Q
def EvA (ts : TA) (W k m : Nat) : Prop := ∀ (H : Hp) (R : List V → Hp → Prop), Same H0 (Hid t H) → Seen t H → (∀ vs H', Same H H' → Vals' K (Hid t H') W k m vs → R vs H') → ts σ H R
def EvL (te : TE) (W k m : Nat) : Prop := ∀ H Q, Same H0 (Hid t H) → Seen t H → (∀ v H', Same H H' → LsV K (Hid t H') W k m v → Q v H') → te σ H Q
def EvO (tl : TO) : Prop := ∀ (H : Hp) (O : Option Int → Hp → Prop), Same H0 (Hid t H) → (∀ o, O o H) → tl σ H O
end
section
variable {X : Cx} {K : PySem.W.Frag} {t : List Addr} {σ : L2.St} {H0 : Hp} {te ta tb : TE} {ts : TA} {tl th : TO} {W W' k k' m m' : Nat} {i j : Int} {a : Nat} {v : V}
theorem slK (h : X.K = K := by rfl) : SlR X (rSlL K) := by subst h; exact sl_list
theorem revK {e : Expr} {kk : Nat} {p1 p2 p3 pos : Pos} (he : PE X e te) (h : X.K = K := by rfl) : PE X (.Subscript e (.Slice none none (some (.UnaryOp .USub (.Constant (.int 1) kk p1) p2)) p3) pos) (tRevL K te) := by subst h; exact pe_revL he
def rTupOf (K : PySem.W.Frag) : List V → Hp → VK → Prop := fun xs H Q => ∃ p ys, xs = [.ref p] ∧ ((SqL K H p ys ∧ ∀ l, H l = none → Q (.ref l) (upd H l (.tup ys))) ∨ (SqT K H p ys ∧ Q (.ref p) H))
theorem evI_c : EvI t σ H0 (tC (.int i)) i := fun H Q _ q => q
theorem evI_var (e : σ[a]? = some (some (.int i))) : EvI t σ H0 (tVar a) i := fun H Q _ q => ⟨_, e, q⟩
theorem evI_op {g : Int → Int → Int} (ha : EvI t σ H0 ta i) (hb : EvI t σ H0 tb j) : EvI t σ H0 (tOp (rI0 fun x y => .int (g x y)) ta tb) (g i j) := fun H Q s q => ha H _ s (hb H _ s ⟨i, j, rfl, rfl, q⟩)
theorem evI_un {g : Int → Int} (ha : EvI t σ H0 ta i) : EvI t σ H0 (tUn (rU fun x => .int (g x)) ta) (g i) := fun H Q s q => ha H _ s ⟨i, rfl, q⟩
theorem evO_no : EvO t σ H0 tNoPart := fun H O _ q => q none
theorem evO_i (h : EvI t σ H0 te i) : EvO t σ H0 (tPart te) := fun H O s q => h H _ s ⟨i, rfl, q _⟩
theorem evV_i (h : EvI t σ H0 te i) (b : i.natAbs < 10 ^ 40) : EvV K t σ H0 te 42 1 := fun H Q s _ q => h H Q s (q _ _ (Same.refl _) (val_int b))
theorem evV_non : EvV K t σ H0 (tC .non) 4 1 := fun H Q _ _ q => q _ _ (Same.refl _) val_non
theorem evV_bl {b : Bool} : EvV K t σ H0 (tC (.bl b)) 5 1 := fun H Q _ _ q => q _ _ (Same.refl _) val_bl
theorem evV_str {x : Str} {n : Nat} (h : (reprText x).length ≤ n) : EvV K t σ H0 (tC (.str x)) n 1 := fun H Q _ _ q => q _ _ (Same.refl _) (val_str h)
theorem evV_var (e : σ[a]? = some (some v)) (h : Val K H0 W k v) : EvV K t σ H0 (tVar a) W k := fun H Q s _ q => ⟨_, e, q _ _ (Same.refl _) (h.mono s)⟩
theorem evL_var (e : σ[a]? = some (some v)) (h : LsV K H0 W k m v) : EvL K t σ H0 (tVar a) W k m := fun H Q s _ q => ⟨_, e, q _ _ (Same.refl _) (h.mono s)⟩
theorem evA_nil : EvA K t σ H0 tNil 0 0 0 := fun H R _ _ q => q _ _ (Same.refl _) vals_nil
theorem evA_cons (h : EvV K t σ H0 te W k) (hs : EvA K t σ H0 ts W' k' m) : EvA K t σ H0 (tCons te ts) (W + W') (max k k') (m + 1) := fun H R s n q =>
  h H _ s n fun v H1 s1 hv => hs H1 _ (s.trans (hid_same s1)) (n.mono s1) fun vs H2 s2 hvs => q _ _ (s1.trans s2) (vals_cons (hv.mono (hid_same s2)) hvs)
theorem evV_tup (h : EvA K t σ H0 ts W k m) (hm : m ≤ 100000) : EvV K t σ H0 (tTup ts) (W + 2 * m + 3) (k + 1) := fun H Q s n q =>
  h H _ s n fun vs H1 s1 hvs => ⟨szl (Nat.le_trans hvs.len hm), fun p np => q _ _ (s1.trans (same_new np)) ((hvs.mono (hid_same (same_new np))).tup (hid_new (n.mono s1) np))⟩
theorem evL_lst (h : EvA K t σ H0 ts W k m) (hm : m ≤ 100000) : EvL K t σ H0 (tLst ts) W k m := fun H Q s n q =>
  h H _ s n fun vs H1 s1 hvs => ⟨szl (Nat.le_trans hvs.len hm), fun p np => q _ _ (s1.trans (same_new np)) ⟨p, vs, rfl, hid_new (n.mono s1) np, hvs.mono (hid_same (same_new np))⟩⟩
theorem evV_L (h : EvL K t σ H0 te W k m) (hm : m ≤ 100000) : EvV K t σ H0 te (W + 2 * m + 3) (k + 1) := fun H Q s n q => h H Q s n fun v H1 s1 hv => q _ _ s1 (hv.val hm)
theorem evL_cat (ha : EvL K t σ H0 ta W k m) (hb : EvL K t σ H0 tb W' k' m') (hm : m + m' ≤ 100000) : EvL K t σ H0 (tOp (rCatS K) ta tb) (W + W') (max k k') (m + m') := fun H Q s n q =>
  ha H _ s n fun v H1 s1 hv => hb H1 _ (s.trans (hid_same s1)) (n.mono s1) fun u H2 s2 hu => by
    obtain ⟨a, xs, rfl, e1, h1⟩ := hv.mono (hid_same s2)
    obtain ⟨b, ys, rfl, e2, h2⟩ := hu
    have := h1.len
    have := h2.len
    exact ⟨a, b, xs, ys, rfl, rfl, sql (hid_le _ _ e1), sql (hid_le _ _ e2), szl (by omega), fun p np => q _ _ (s1.trans (s2.trans (same_new np))) ⟨p, _, rfl, hid_new ((n.mono s1).mono s2) np, (vals_app h1 h2).mono (hid_same (same_new np))⟩⟩
theorem evL_sl (h : EvL K t σ H0 te W k m) (hl : EvO t σ H0 tl) (hh : EvO t σ H0 th) : EvL K t σ H0 (tSl (rSlL K) te tl th) W k m := fun H Q s n q =>
  h H _ s n fun v H1 s1 hv => hl H1 _ (s.trans (hid_same s1)) fun lo => hh H1 _ (s.trans (hid_same s1)) fun hi => by
    obtain ⟨a, xs, rfl, e, hx⟩ := hv
    exact ⟨a, xs, rfl, sql (hid_le _ _ e), fun p np => q _ _ (s1.trans (same_new np)) ⟨p, _, rfl, hid_new (n.mono s1) np, (hx.sub (cut_sub xs lo hi)).mono (hid_same (same_new np))⟩⟩
theorem evL_rev (h : EvL K t σ H0 te W k m) : EvL K t σ H0 (tRevL K te) W k m := fun H Q s n q => h H _ s n fun v H1 s1 hv => by
  obtain ⟨a, xs, rfl, e, hx⟩ := hv
  exact ⟨a, xs, rfl, sql (hid_le _ _ e), fun p np => q _ _ (s1.trans (same_new np)) ⟨p, _, rfl, hid_new (n.mono s1) np, (vals_rev hx).mono (hid_same (same_new np))⟩⟩
theorem evV_tupOf (h : EvL K t σ H0 te W k m) : EvV K t σ H0 (tCB (rTupOf K) (tCons te tNil)) (W + 2 * m + 3) (k + 1) := fun H Q s n q => h H _ s n fun v H1 s1 hv => by
  obtain ⟨a, xs, rfl, e, hx⟩ := hv
  exact ⟨a, xs, rfl, .inl ⟨sql (hid_le _ _ e), fun p np => q _ _ (s1.trans (same_new np)) ((hx.mono (hid_same (same_new np))).tup (hid_new (n.mono s1) np))⟩⟩
theorem evL_listOf (h : EvL K t σ H0 te W k m) : EvL K t σ H0 (tCB (rListOf K) (tCons te tNil)) W k m := fun H Q s n q => h H _ s n fun v H1 s1 hv => by
  obtain ⟨a, xs, rfl, e, hx⟩ := hv
  exact ⟨a, xs, rfl, .inl (sql (hid_le _ _ e)), fun p np => q _ _ (s1.trans (same_new np)) ⟨p, _, rfl, hid_new (n.mono s1) np, hx.mono (hid_same (same_new np))⟩⟩
theorem evV_dct0 : EvV K t σ H0 tDNewK 10 2 := fun H Q s n q p np => q _ _ (same_new np) (val_dct0 (hid_new n np))
theorem evV_dct1 {x : Str} {n : Nat} (e : σ[a]? = some (some v)) (h : Val K H0 W k v) (hn : (reprText x).length ≤ n) : EvV K t σ H0 (tDisp [(tC (.str x), tVar a)]) (W + n + 10) (k + 1) := fun H Q s sn q p np => by
  have e2 : upd (upd H p (.dK [])) p (.dK (mergeK [] [(Sum.inr x, v)])) = upd H p (.dK [(.inr x, v)]) := by rw [upd_upd]; rfl
  refine ⟨v, e, upd_same, [(.inr x, v)], rfl, by show 1 ≤ 15; decide, ?_⟩
  rw [e2]
  exact q _ _ (same_new np) (val_dct1 (hid_new sn np) (h.mono (s.trans (hid_same (same_new np)))) hn)
theorem evV_eqI (ha : EvI t σ H0 ta i) (hb : EvI t σ H0 tb j) : EvV K t σ H0 (tOp rEq ta tb) 5 1 := fun H Q s _ q => ha H _ s (hb H _ s (r_eqI (q _ _ (Same.refl _) val_bl)))
theorem EvV.go {H : Hp} {Q : VK} (h : EvV K t σ H0 te W k) (s : Same H0 (Hid t H)) (n : Seen t H) (q : ∀ v H', Same H H' → Val K (Hid t H') W k v → Q v H') : te σ H Q := h H Q s n q
theorem EvL.go {H : Hp} {Q : VK} (h : EvL K t σ H0 te W k m) (s : Same H0 (Hid t H)) (n : Seen t H) (q : ∀ v H', Same H H' → LsV K (Hid t H') W k m v → Q v H') : te σ H Q := h H Q s n q
end
end Vf
namespace Vf
open PySem PySem.Spec PyProof.Rows L2
section
variable {K : PySem.W.Frag} {H : Hp} {Q : VK}
theorem in_ints {i : Int} {ns : List Int} : inV (.int i) (ns.map V.int) = decide (i ∈ ns) := by
  unfold inV
  rw [List.any_map, Bool.eq_iff_iff, List.any_eq_true, decide_eq_true_eq]
  constructor
  · rintro ⟨x, hx, h⟩
    have : x = i := by simpa [eqV] using h
    exact this ▸ hx
  · intro h
    exact ⟨i, h, by simp [eqV]⟩
theorem flat_ints (ns : List Int) : (ns.map V.int).all flatV = true := by
  rw [List.all_map, List.all_eq_true]
  intro x _
  rfl
/-- what the law tells of a value that is no layout -/
def fltD (n : Int) (d : PyData) : Option V := match d with
  | .list ds => Option.map (fun i : Nat => V.int (i : Int)) (layW n [] ds)
  | _ => some .non
theorem fltD_some {n : Int} {d : PyData} {i : V} (h : LayE n d i) : fltD n d = some i := by
  cases h with
  | list h => unfold fltD; split <;> first | rfl | (rename_i ds; cases h)
  | item h => show Option.map _ (layW n [] _) = _; rw [h]; rfl
end
end Vf
namespace Vf
open PySem PySem.Spec PyProof.Rows L2
def rStrI : List V → Hp → VK → Prop := fun xs H Q => ∃ n : Int, xs = [.int n] ∧ n.natAbs.log2 < 1920 ∧ Q (.str ((toString n : String) : Str)) H
theorem strK {X : Cx} : CallR X (.type "str") rStrI := call_str_int
section
variable {X : Cx} {K : PySem.W.Frag} {t : List Addr} {σ : L2.St} {H0 : Hp} {te ta tb : TE} {ts : TA} {tl th : TO} {W W' k k' m m' : Nat} {i j : Int} {a : Nat} {v : V}
theorem asV (h : EvV K t σ H0 te W k) : EvV K t σ H0 te W k := h
theorem asL (h : EvL K t σ H0 te W k m) : EvL K t σ H0 te W k m := h
theorem asI (h : EvI t σ H0 te i) : EvI t σ H0 te i := h
theorem evV_str0 {x : Str} : EvV K t σ H0 (tC (.str x)) (reprText x).length 1 := evV_str (Nat.le_refl _)
theorem evV_lst (h : EvA K t σ H0 ts W k m) (hm : m ≤ 100000) : EvV K t σ H0 (tLst ts) (W + 2 * m + 3) (k + 1) := evV_L (evL_lst h hm) hm
theorem evV_cat (ha : EvL K t σ H0 ta W k m) (hb : EvL K t σ H0 tb W' k' m') (hm : m + m' ≤ 100000) : EvV K t σ H0 (tOp (rCatS K) ta tb) (W + W' + 2 * (m + m') + 3) (max k k' + 1) := evV_L (evL_cat ha hb hm) hm
theorem evV_sl (h : EvL K t σ H0 te W k m) (hl : EvO t σ H0 tl) (hh : EvO t σ H0 th) (hm : m ≤ 100000) : EvV K t σ H0 (tSl (rSlL K) te tl th) (W + 2 * m + 3) (k + 1) := evV_L (evL_sl h hl hh) hm
theorem evV_rev (h : EvL K t σ H0 te W k m) (hm : m ≤ 100000) : EvV K t σ H0 (tRevL K te) (W + 2 * m + 3) (k + 1) := evV_L (evL_rev h) hm
theorem evV_listOf (h : EvL K t σ H0 te W k m) (hm : m ≤ 100000) : EvV K t σ H0 (tCB (rListOf K) (tCons te tNil)) (W + 2 * m + 3) (k + 1) := evV_L (evL_listOf h) hm
theorem evI_rI {C : Int → Int → Prop} {g : Int → Int → Int} (ha : EvI t σ H0 ta i) (hb : EvI t σ H0 tb j) (hc : C i j) : EvI t σ H0 (tOp (rI C fun x y => .int (g x y)) ta tb) (g i j) := fun H Q s q => ha H _ s (hb H _ s ⟨i, j, rfl, rfl, hc, q⟩)
theorem evV_strI {n : Nat} (h : EvI t σ H0 te i) (hi : i.natAbs < 10 ^ 12) (hn : (reprText ((toString i : String) : Str)).length ≤ n) : EvV K t σ H0 (tCB rStrI (tCons te tNil)) n 1 := fun H Q s _ q =>
  h H _ s ⟨i, rfl, log2_small (Nat.lt_of_lt_of_le (Nat.lt_trans hi (show 10 ^ 12 < 2 ^ 64 by decide)) (Nat.pow_le_pow_right (by decide) (by decide))), q _ _ (Same.refl _) (val_str hn)⟩
theorem evV_ixL {la : Addr} {xs : List V} (e : σ[a]? = some (some (.ref la))) (h : H0 la = some (.lst xs)) (hi : EvI t σ H0 ta i) (ha : atI xs i = some v) (hv : Val K H0 W k v) : EvV K t σ H0 (tOp (rIxL K) (tVar a) ta) W k := fun H Q s _ q =>
  ⟨_, e, hi H _ s ⟨la, xs, i, v, rfl, rfl, sql (hid_le _ _ (s _ _ h)), ha, q _ _ (Same.refl _) (hv.mono s)⟩⟩
theorem evI_ixLT {la u : Addr} {xs : List V} {c : Int} {n : Int} {ys : List V} (e : σ[a]? = some (some (.ref la))) (h : H0 la = some (.lst xs)) (hi : EvI t σ H0 ta i) (ha : atI xs i = some (.ref u)) (hu : H0 u = some (.tup ys)) (hy : atI ys n = some (.int c)) :
    EvI t σ H0 (tOp (rIxT K) (tOp (rIxL K) (tVar a) ta) (tC (.int n))) c := fun H Q s q =>
  ⟨_, e, hi H _ s ⟨la, xs, i, _, rfl, rfl, sql (hid_le _ _ (s _ _ h)), ha, u, _, n, _, rfl, rfl, sqt (hid_le _ _ (s _ _ hu)), hy, q⟩⟩
theorem evL_rep2 (h : EvL K t σ H0 te W k m) (hm : m ≤ 10000) : EvL K t σ H0 (tOp rRep te (tC (.int 2))) (W + W) k (m + m) := fun H Q s n q =>
  h H _ s n fun v H1 s1 hv => by
    obtain ⟨a, xs, rfl, e, hx⟩ := hv
    have hl := hx.len
    have e2 : (List.replicate (2 : Int).toNat xs).flatten = xs ++ xs := by show (List.replicate 2 xs).flatten = _; simp [List.replicate]
    refine ⟨a, 2, xs, rfl, rfl, hid_le _ _ e, by decide, by decide, szl (by show xs.length * 2 ≤ 100000; omega), fun p np => ?_⟩
    rw [e2]
    exact q _ _ (s1.trans (same_new np)) ⟨p, _, rfl, hid_new (n.mono s1) np, ((vals_app hx hx).le (Nat.le_refl _) (by omega) (Nat.le_refl _)).mono (hid_same (same_new np))⟩
theorem repr_end : ∀ i : Fin 121, (reprText ((toString ((i.val : Int) - 60) : String) : Str)).length ≤ 6 := by decide +kernel
theorem repr_ends {i : Int} (h1 : -60 ≤ i) (h2 : i ≤ 60) : (reprText ((toString i : String) : Str)).length ≤ 6 := by
  have := repr_end ⟨(i + 60).toNat, by omega⟩
  rw [show (((i + 60).toNat : Nat) : Int) - 60 = i by omega] at this
  exact this
end
end Vf
namespace Vf
open PySem PySem.Spec PyProof.Rows L2
section
variable {K : PySem.W.Frag} {t : List Addr} {σ : L2.St} {H0 : Hp} {W W' k k' m m' : Nat} {a : Nat} {u : Addr} {v : V} {ys : List V}
theorem LsV.le {H : Hp} (h : LsV K H W k m v) (h1 : W ≤ W') (h2 : k ≤ k') (h3 : m ≤ m') : LsV K H W' k' m' v := let ⟨a, xs, e, f, g⟩ := h; ⟨a, xs, e, f, g.le h1 h2 h3⟩
end
end Vf
namespace Vf
open PySem PySem.Spec PyProof.Rows L2
end Vf
namespace Vf
open PySem PySem.Spec PyProof.Rows L2
end Vf
namespace Vf
open PySem PySem.Spec PyProof.Rows L2
section
variable {K : PySem.W.Frag} {t : List Addr} {σ : L2.St} {H0 : Hp} {te : TE} {i : Int}
theorem evV_strE (h : EvI t σ H0 te i) (h1 : -60 ≤ i) (h2 : i ≤ 60) : EvV K t σ H0 (tCB rStrI (tCons te tNil)) 6 1 := evV_strI h (by omega) (repr_ends h1 h2)
end
end Vf
namespace Vf
open PySem PySem.Spec PyProof.Rows L2
theorem r_atS {ts : TS} {σ σ' : L2.St} {H : Hp} {D : Ends} (e : σ = σ') (h : ts D σ' H) : ts D σ H := e ▸ h
end Vf
namespace Vf
open PySem PySem.Spec PyProof.Rows L2
end Vf
namespace Vf
open PySem PySem.Spec PyProof.Rows L2
end Vf
namespace Vf
open PySem PySem.Spec PyProof.Rows L2
end Vf
namespace Vf
open PySem PySem.Spec PyProof.Rows L2
theorem evV_rep2 {K : PySem.W.Frag} {t : List Addr} {σ : L2.St} {H0 : Hp} {te : TE} {W k m : Nat} (h : EvL K t σ H0 te W k m) (hm : m ≤ 10000) : EvV K t σ H0 (tOp rRep te (tC (.int 2))) (W + W + 2 * (m + m) + 3) (k + 1) := evV_L (evL_rep2 h hm) (by omega)
end Vf
namespace Vf
open PySem PySem.Spec PyProof.Rows L2
/-! ### pairs of ints in lists and tuples of such -/
end Vf
namespace Vf
open PySem PySem.Spec PyProof.Rows L2
def tCv3 (r1 r2 r3 : R2) (ta tb tc td : TE) : TE := fun σ H Q => ta σ H fun x H1 => tb σ H1 fun y H2 => r1 x y H2 fun c1 H3 => ∃ k1, c1 = .bl k1 ∧ if k1 = true then
  tc σ H3 fun z H4 => r2 y z H4 fun c2 H5 => ∃ k2, c2 = .bl k2 ∧ if k2 = true then td σ H5 fun t H6 => r3 z t H6 Q else Q (.bl false) H5 else Q (.bl false) H3
theorem r_cv3 {σ : L2.St} {H : Hp} {Q : VK} {r1 r2 r3 : R2} {ta tb tc td : TE} (h : ta σ H fun x H1 => tb σ H1 fun y H2 => r1 x y H2 fun c1 H3 => ∃ k1, c1 = .bl k1 ∧ if k1 = true then
  tc σ H3 fun z H4 => r2 y z H4 fun c2 H5 => ∃ k2, c2 = .bl k2 ∧ if k2 = true then td σ H5 fun t H6 => r3 z t H6 Q else Q (.bl false) H5 else Q (.bl false) H3) : tCv3 r1 r2 r3 ta tb tc td σ H Q := h
theorem r_glst {K : PySem.W.Frag} {σ : L2.St} {H : Hp} {S : L2.St → Hp → Prop} {n : Nat} {a : Addr} {xs : List V} {gs : TGs} (hs : SqL K H a xs) (hl : xs.length = n) (h : gs xs σ H S) : gLst K n gs (.ref a) σ H S := ⟨a, xs, rfl, hs, hl, h⟩
/-! ### moves, as data -/
def cpl (a b : Int) : Int × Int := if a < b then (a, b) else (b, a)
def cpsD (n : Int) : List PyData → Option (List (Int × Int))
  | [] => some []
  | d :: ds => match cpD n d, cpsD n ds with
    | some p, some L => some (p :: L)
    | _, _ => none
theorem cpsD_dP {n : Int} : ∀ {ds : List PyData} {C : List (Int × Int)}, cpsD n ds = some C → ds = C.map dP ∧ ∀ p ∈ C, -n ≤ p.1 ∧ p.1 < p.2 ∧ p.2 ≤ n ∧ p.1 ≠ 0 ∧ p.2 ≠ 0
  | [], C, h => by
    cases h
    exact ⟨rfl, fun _ z => (nomatch z)⟩
  | d :: ds, C, h => by
    unfold cpsD at h
    split at h
    · rename_i p L e1 e2
      cases h
      obtain ⟨h1, h2⟩ := cpsD_dP e2
      obtain ⟨g1, g2⟩ := cpD_dP e1
      refine ⟨by rw [g1, h1]; rfl, fun q hq => ?_⟩
      rcases List.mem_cons.mp hq with rfl | hq
      · exact g2
      · exact h2 q hq
    · cases h
def pltB (p q : Int × Int) : Bool := decide (p.1 < q.1 ∨ (p.1 = q.1 ∧ p.2 < q.2))
def ascP : List (Int × Int) → Bool
  | [p, q] => pltB p q
  | _ => true
def ascD (n : Int) (ds : List PyData) : Bool := match cpsD n ds with
  | some C => ascP C
  | none => false
def formL (c j : Nat) : Bool := decide ((c = 2 ∧ j = 2) ∨ (c = 1 ∧ j = 1) ∨ (c = 1 ∧ j = 0) ∨ (c = 0 ∧ j = 1))
def formD (n : Int) : PyData → Bool
  | .tuple [.list cs, .list js] => formL cs.length js.length && ascD n cs && ascD n js
  | _ => false
def otherB (p q : Int × Int) (J : List (Int × Int)) : Bool := decide (J = [(p.1, q.1), cpl p.2 q.2]) || decide (J = [(p.1, q.2), cpl p.2 q.1])
def openB (L : List (Int × Int)) (p q : Int × Int) : Bool := if q.1 = p.1 ∨ q.1 = p.2 then decide (q.2 ∉ flat L) else decide ((q.2 = p.1 ∨ q.2 = p.2) ∧ q.1 ∉ flat L)
def mvB (L C J : List (Int × Int)) : Bool := C.all (fun p => decide (p ∈ L)) && match C, J with
  | [p, q], _ => otherB p q J
  | [_], [] => true
  | [p], q :: _ => openB L p q
  | _, q :: _ => decide (q.1 ∉ flat L ∧ q.2 ∉ flat L)
  | _, [] => true
def mvD (n : Int) (L : List (Int × Int)) (d : PyData) : Bool := formD n d && match d with
  | .tuple [.list cs, .list js] => match cpsD n cs, cpsD n js with
    | some C, some J => mvB L C J
    | _, _ => false
  | _ => false
end Vf
namespace Vf
open PySem PySem.Spec PyProof.Rows L2
theorem r_notT {K : PySem.W.Frag} {σ : L2.St} {H : Hp} {Q : VK} {ta : TE} (h : ta σ H fun x H1 => ∃ k, TruV K x H1 k ∧ Q (.bl (!k)) H1) : tNotT K ta σ H Q := h
/-- partners: in the layout or not -/
theorem tabI_mem {L : List (Int × Int)} {a b : Int} : (a, b) ∈ tabI L ↔ (a, b) ∈ L ∨ (b, a) ∈ L := by
  unfold tabI
  rw [List.mem_flatMap]
  constructor
  · rintro ⟨p, hp, h⟩
    simp only [List.mem_cons, List.not_mem_nil, or_false] at h
    rcases h with h | h
    · cases h; exact .inl hp
    · cases h; exact .inr hp
  · rintro (h | h)
    · exact ⟨_, h, by simp⟩
    · exact ⟨_, h, by simp⟩
theorem nodup_keys {α β : Type} {l : List (α × β)} {a : α} {b c : β} (nd : (l.map (·.1)).Nodup) (h1 : (a, b) ∈ l) (h2 : (a, c) ∈ l) : b = c := by
  induction l with
  | nil => cases h1
  | cons p l ih =>
    rw [List.map_cons, List.nodup_cons] at nd
    rcases List.mem_cons.mp h1 with e1 | e1 <;> rcases List.mem_cons.mp h2 with e2 | e2
    · rw [← e1] at e2; cases e2; rfl
    · exact absurd (List.mem_map.mpr ⟨_, e2, by rw [← e1]⟩) nd.1
    · exact absurd (List.mem_map.mpr ⟨_, e1, by rw [← e2]⟩) nd.1
    · exact ih nd.2 e1 e2
theorem parI_iff {n : Int} {L : List (Int × Int)} (hL : Lay n L) {a b : Int} : parI L a = some b ↔ (a, b) ∈ L ∨ (b, a) ∈ L := by
  rw [← tabI_mem]
  have nd : ((tabI L).map (·.1)).Nodup := by rw [tabI_keys]; exact hL.nd
  unfold parI
  constructor
  · intro h
    obtain ⟨q, hq, rfl⟩ := Option.map_eq_some_iff.mp h
    have h1 := List.mem_of_find?_eq_some hq
    have h2 : q.1 = a := by have := List.find?_some hq; simpa using this
    rw [← h2]
    exact h1
  · intro h
    cases e : (tabI L).find? fun q => decide (q.1 = a) with
    | none =>
      have := List.find?_eq_none.mp e (a, b) h
      simp at this
    | some q =>
      have h1 := List.mem_of_find?_eq_some e
      have h2 : q.1 = a := by have := List.find?_some e; simpa using this
      have h3 : (a, q.2) ∈ tabI L := by rw [← h2]; exact h1
      rw [nodup_keys nd h h3]
      rfl
end Vf
namespace Vf
open PySem PySem.Spec PyProof.Rows L2
end Vf
namespace Vf
open PySem PySem.Spec PyProof.Rows L2
end Vf
namespace Vf
theorem bneT (b : Bool) : (b != true) = !b := by cases b <;> rfl
end Vf
namespace Vf
open PySem PySem.Spec PyProof.Rows L2
theorem formD_ok {n : Int} {d : PyData} (h : formD n d = true) : ∃ C J, d = .tuple [.list (C.map dP), .list (J.map dP)] ∧ cpsD n (C.map dP) = some C ∧ cpsD n (J.map dP) = some J ∧
    (∀ p ∈ C, -n ≤ p.1 ∧ p.1 < p.2 ∧ p.2 ≤ n ∧ p.1 ≠ 0 ∧ p.2 ≠ 0) ∧ (∀ p ∈ J, -n ≤ p.1 ∧ p.1 < p.2 ∧ p.2 ≤ n ∧ p.1 ≠ 0 ∧ p.2 ≠ 0) ∧ ascP C = true ∧ ascP J = true ∧
    ((C.length = 2 ∧ J.length = 2) ∨ (C.length = 1 ∧ J.length = 1) ∨ (C.length = 1 ∧ J.length = 0) ∨ (C.length = 0 ∧ J.length = 1)) := by
  unfold formD at h
  split at h
  · rename_i cs js
    rw [Bool.and_eq_true, Bool.and_eq_true] at h
    obtain ⟨⟨h1, h2⟩, h3⟩ := h
    unfold ascD at h2 h3
    split at h2
    · rename_i C e1
      split at h3
      · rename_i J e2
        obtain ⟨c1, c2⟩ := cpsD_dP e1
        obtain ⟨j1, j2⟩ := cpsD_dP e2
        subst c1 j1
        refine ⟨C, J, rfl, e1, e2, c2, j2, h2, h3, ?_⟩
        have := of_decide_eq_true h1
        rw [List.length_map, List.length_map] at this
        exact this
      · cases h3
    · cases h2
  · cases h
end Vf
namespace Vf
open PySem PySem.Spec PyProof.Rows L2
/-- any list against the empty list -/
def rNil (K : PySem.W.Frag) (neg : Bool) : R2 := fun x y H Q => ∃ (a z : Addr) (xs : List V), x = .ref a ∧ y = .ref z ∧ SqL K H a xs ∧ H z = some (.lst []) ∧ Q (.bl (decide (xs = []) != neg)) H
section
variable {X : Cx} {K : PySem.W.Frag}
theorem neNilK (hu : X.A.units < cLine) (hK : X.K = K := by rfl) : OpR X (compareOp .NotEq) (rNil K true) := by
  subst hK
  rintro pins s σ H _ _ v u Q I rx ry ⟨a, z, xs, rfl, rfl, ha, hz, q⟩
  cases rx
  cases ry
  obtain ⟨its, r, pl, _⟩ := I.list ha
  obtain ⟨jts, r2, pl2, _⟩ := I.list (sql hz)
  cases r2
  cases xs with
  | nil =>
    cases r
    exact SeqAt.RcNeAt.lists (e := fun _ => true) pl.isList pl2.isList rfl hu (fun j h => by simp at h) _ _ _ _ ⟨.bl _, H, I, rfl, by simpa using q⟩
  | cons x xs =>
    cases r with
    | cons _ _ => exact SeqAt.RcNeAt.lists_lengths pl.isList pl2.isList (by simp) hu _ _ _ _ ⟨.bl _, H, I, rfl, by simpa using q⟩
theorem eqNilK (hu : X.A.units < cLine) (hK : X.K = K := by rfl) : OpR X (compareOp .Eq) (rNil K false) := by
  subst hK
  rintro pins s σ H _ _ v u Q I rx ry ⟨a, z, xs, rfl, rfl, ha, hz, q⟩
  cases rx
  cases ry
  obtain ⟨its, r, pl, _⟩ := I.list ha
  obtain ⟨jts, r2, pl2, _⟩ := I.list (sql hz)
  cases r2
  cases xs with
  | nil =>
    cases r
    exact SeqAt.RcAt.lists (e := fun _ => true) pl.isList pl2.isList rfl hu (fun j h => by simp at h) _ _ _ _ ⟨.bl _, H, I, rfl, by simpa using q⟩
  | cons x xs =>
    cases r with
    | cons _ _ => exact SeqAt.RcAt.lists_lengths pl.isList pl2.isList (by simp) hu _ _ _ _ ⟨.bl _, H, I, rfl, by simpa using q⟩
end
end Vf
namespace Vf
open PySem PySem.Spec PyProof.Rows L2
end Vf
namespace Vf
open PySem PySem.Spec PyProof.Rows L2
/-! the law's own word for a move -/
def lawB (L C J : List (Int × Int)) : Bool := C.all (fun p => decide (p ∈ L)) && (if C.length = 2 then decide ((flat J).Perm (flat C)) && J.all (fun p => decide (p ∉ C)) else
  if C.length = 1 then (decide (J = []) || (decide (J.length = 1) && (decide (((flat J).filter fun e => decide (e ∉ flat L)).length = 1) && decide (((flat J).filter fun e => decide (e ∈ flat C)).length = 1)))) else
  (decide (J.length = 1) && decide (((flat J).filter fun e => decide (e ∉ flat L)).length = 2)))
theorem law22 {p q r s : Int × Int} (hp : p.1 < p.2) (hq : q.1 < q.2) (hr : r.1 < r.2) (hs : s.1 < s.2) (a1 : pltB p q = true) (a2 : pltB r s = true) (nd : [p.1, p.2, q.1, q.2].Nodup) :
    ([r.1, r.2, s.1, s.2].Perm [p.1, p.2, q.1, q.2] ∧ ∀ x ∈ [r, s], x ∉ [p, q]) ↔ ([r, s] = [(p.1, q.1), cpl p.2 q.2] ∨ [r, s] = [(p.1, q.2), cpl p.2 q.1]) := by
  obtain ⟨p1, p2⟩ := p
  obtain ⟨q1, q2⟩ := q
  obtain ⟨r1, r2⟩ := r
  obtain ⟨s1, s2⟩ := s
  have b1 := of_decide_eq_true a1
  have b2 := of_decide_eq_true a2
  simp only at hp hq hr hs b1 b2 nd ⊢
  have n1 : p1 ≠ q1 ∧ p1 ≠ q2 ∧ p2 ≠ q1 ∧ p2 ≠ q2 := by
    simp only [List.nodup_cons, List.mem_cons, List.not_mem_nil, or_false, not_or] at nd
    omega
  constructor
  · rintro ⟨pm, no⟩
    have nd2 : [r1, r2, s1, s2].Nodup := pm.nodup_iff.mpr nd
    simp only [List.nodup_cons, List.mem_cons, List.not_mem_nil, or_false, not_or] at nd2
    have m1 := pm.mem_iff (a := p1)
    have m2 := pm.mem_iff (a := r1)
    have m3 := pm.mem_iff (a := r2)
    have m4 := pm.mem_iff (a := s1)
    have m5 := pm.mem_iff (a := s2)
    simp only [List.mem_cons, List.not_mem_nil, or_false, true_or, or_true, true_iff, iff_true] at m1 m2 m3 m4 m5
    have e1 : r1 = p1 := by omega
    have no1 := no (r1, r2) (by simp)
    simp only [List.mem_cons, Prod.mk.injEq, List.not_mem_nil, or_false, not_or, not_and] at no1
    have e2 : r2 ≠ p2 := fun z => no1.1 e1 z
    unfold cpl
    simp only [List.cons.injEq, Prod.mk.injEq, and_true]
    by_cases c : r2 = q1
    · left
      refine ⟨⟨e1, c⟩, ?_⟩
      split <;> (rw [Prod.mk.injEq]; omega)
    · right
      have e3 : r2 = q2 := by omega
      refine ⟨⟨e1, e3⟩, ?_⟩
      split <;> (rw [Prod.mk.injEq]; omega)
  · intro h
    unfold cpl at h
    rcases h with h | h
    · simp only [List.cons.injEq, Prod.mk.injEq, and_true] at h
      obtain ⟨⟨rfl, rfl⟩, h⟩ := h
      split at h
      · cases h
        refine ⟨.cons _ (.swap _ _ _), fun x hx => ?_⟩
        simp only [List.mem_cons, List.not_mem_nil, or_false] at hx ⊢
        rcases hx with rfl | rfl <;> (simp only [Prod.mk.injEq]; omega)
      · cases h
        refine ⟨.cons _ (List.perm_append_comm (l₁ := [_, _]) (l₂ := [_])), fun x hx => ?_⟩
        simp only [List.mem_cons, List.not_mem_nil, or_false] at hx ⊢
        rcases hx with rfl | rfl <;> (simp only [Prod.mk.injEq]; omega)
    · simp only [List.cons.injEq, Prod.mk.injEq, and_true] at h
      obtain ⟨⟨rfl, rfl⟩, h⟩ := h
      split at h
      · cases h
        refine ⟨.cons _ (List.perm_append_comm (l₁ := [_]) (l₂ := [_, _])), fun x hx => ?_⟩
        simp only [List.mem_cons, List.not_mem_nil, or_false] at hx ⊢
        rcases hx with rfl | rfl <;> (simp only [Prod.mk.injEq]; omega)
      · cases h
        refine ⟨.cons _ (List.reverse_perm [_, _, _]), fun x hx => ?_⟩
        simp only [List.mem_cons, List.not_mem_nil, or_false] at hx ⊢
        rcases hx with rfl | rfl <;> (simp only [Prod.mk.injEq]; omega)
theorem nd_two {n : Int} {L : List (Int × Int)} (hL : Lay n L) {p q : Int × Int} (hp : p ∈ L) (hq : q ∈ L) (ne : p ≠ q) : p.1 ≠ q.1 ∧ p.1 ≠ q.2 ∧ p.2 ≠ q.1 ∧ p.2 ≠ q.2 := by
  have k1 := (parI_iff hL (a := p.1) (b := p.2)).mpr (.inl hp)
  have k2 := (parI_iff hL (a := p.2) (b := p.1)).mpr (.inr hp)
  have k3 := (parI_iff hL (a := q.1) (b := q.2)).mpr (.inl hq)
  have k4 := (parI_iff hL (a := q.2) (b := q.1)).mpr (.inr hq)
  have cp := (hL.cp p hp).2.1
  have cq := (hL.cp q hq).2.1
  refine ⟨fun z => ?_, fun z => ?_, fun z => ?_, fun z => ?_⟩
  · rw [z, k3] at k1
    exact ne (Prod.ext z (Option.some.inj k1).symm)
  · rw [z, k4] at k1
    have := Option.some.inj k1
    omega
  · rw [z, k3] at k2
    have := Option.some.inj k2
    omega
  · rw [z, k4] at k2
    exact ne (Prod.ext (Option.some.inj k2).symm z)
theorem law_mv {n : Int} {L C J : List (Int × Int)} (hL : Lay n L) (hC : ∀ p ∈ C, p.1 < p.2) (hJ : ∀ p ∈ J, p.1 < p.2) (aC : ascP C = true) (aJ : ascP J = true) (lC : C.length ≤ 2) (lJ : J.length ≤ 2) :
    lawB L C J = (formL C.length J.length && mvB L C J) := by
  unfold lawB mvB
  cases hall : C.all (fun p => decide (p ∈ L)) with
  | false => rw [Bool.false_and, Bool.false_and, Bool.and_false]
  | true =>
  rw [Bool.true_and, Bool.true_and]
  have hin : ∀ p ∈ C, p ∈ L := fun p hp => of_decide_eq_true (List.all_eq_true.mp hall p hp)
  match C, J, lC, lJ with
  | [], [], _, _ => rfl
  | [], [q], _, _ =>
    show (decide (1 = 1) && decide (([q.1, q.2].filter fun e => decide (e ∉ flat L)).length = 2)) = decide (q.1 ∉ flat L ∧ q.2 ∉ flat L)
    by_cases c1 : q.1 ∈ flat L <;> by_cases c2 : q.2 ∈ flat L <;> simp [c1, c2]
  | [], [_, _], _, _ => rfl
  | [_], [], _, _ => rfl
  | [p], [q], _, _ =>
    have i1 : p.1 ∈ flat L := mem_flat.mpr ⟨p, hin p (by simp), .inl rfl⟩
    have i2 : p.2 ∈ flat L := mem_flat.mpr ⟨p, hin p (by simp), .inr rfl⟩
    show (decide ([q] = []) || (decide (1 = 1) && (decide (([q.1, q.2].filter fun e => decide (e ∉ flat L)).length = 1) && decide (([q.1, q.2].filter fun e => decide (e ∈ flat [p])).length = 1)))) = openB L p q
    have fl : ∀ e, e ∈ flat [p] ↔ e = p.1 ∨ e = p.2 := fun e => by simp [flat]
    unfold openB
    have k1 : (q.1 = p.1 ∨ q.1 = p.2) → q.1 ∈ flat L := by rintro (z | z) <;> rw [z] <;> assumption
    have k2 : (q.2 = p.1 ∨ q.2 = p.2) → q.2 ∈ flat L := by rintro (z | z) <;> rw [z] <;> assumption
    by_cases a1 : q.1 = p.1 ∨ q.1 = p.2
    · have b1 := k1 a1
      by_cases a2 : q.2 = p.1 ∨ q.2 = p.2
      · have b2 := k2 a2
        simp [fl, a1, a2, b1, b2]
      · by_cases c2 : q.2 ∈ flat L <;> simp [fl, a1, a2, b1, c2]
    · by_cases a2 : q.2 = p.1 ∨ q.2 = p.2
      · have b2 := k2 a2
        by_cases c1 : q.1 ∈ flat L <;> simp [fl, a1, a2, b2, c1]
      · by_cases c1 : q.1 ∈ flat L <;> by_cases c2 : q.2 ∈ flat L <;> simp [fl, a1, a2, c1, c2]
  | [p], [_, _], _, _ => rfl
  | [p, q], [], _, _ => rfl
  | [p, q], [r], _, _ =>
    show (decide ((flat [r]).Perm (flat [p, q])) && _) = false
    rw [decide_eq_false (fun z => by have := z.length_eq; rw [flat_len, flat_len] at this; simp at this), Bool.false_and]
  | [p, q], [r, s], _, _ =>
    have hp := hC p (by simp)
    have hq := hC q (by simp)
    have ne : p ≠ q := by
      rintro rfl
      have := of_decide_eq_true (show pltB p p = true from aC)
      omega
    have n4 := nd_two hL (hin p (by simp)) (hin q (by simp)) ne
    have nd : [p.1, p.2, q.1, q.2].Nodup := by
      simp only [List.nodup_cons, List.mem_cons, List.not_mem_nil, or_false, not_or]
      refine ⟨?_, ?_, ?_, by simp, List.nodup_nil⟩ <;> omega
    have key := law22 hp hq (hJ r (by simp)) (hJ s (by simp)) aC aJ nd
    show (decide ([r.1, r.2, s.1, s.2].Perm [p.1, p.2, q.1, q.2]) && [r, s].all (fun x => decide (x ∉ [p, q]))) = (decide ([r, s] = [(p.1, q.1), cpl p.2 q.2]) || decide ([r, s] = [(p.1, q.2), cpl p.2 q.1]))
    rw [Bool.eq_iff_iff, Bool.and_eq_true, Bool.or_eq_true, decide_eq_true_eq, decide_eq_true_eq, decide_eq_true_eq, List.all_eq_true]
    rw [← key]
    refine and_congr_right fun _ => ?_
    exact ⟨fun h x hx => of_decide_eq_true (h x hx), fun h x hx => decide_eq_true (h x hx)⟩
end Vf
namespace Vf
open PySem PySem.Spec PyProof.Rows L2
end Vf
namespace Vf
open PySem PySem.Spec PyProof.Rows L2
theorem mv_law {n : Int} {L C J : List (Int × Int)} (hL : Lay n L) (hC : cpsD n (C.map dP) = some C) (hJ : cpsD n (J.map dP) = some J) (aC : ascP C = true) (aJ : ascP J = true) (lC : C.length ≤ 2) (lJ : J.length ≤ 2) :
    mvD n L (.tuple [.list (C.map dP), .list (J.map dP)]) = lawB L C J := by
  have c2 := (cpsD_dP hC).2
  have j2 := (cpsD_dP hJ).2
  rw [law_mv hL (fun p hp => (c2 p hp).2.1) (fun p hp => (j2 p hp).2.1) aC aJ lC lJ]
  unfold mvD
  simp only [hC, hJ]
  have : formD n (.tuple [.list (C.map dP), .list (J.map dP)]) = formL C.length J.length := by
    show (formL (C.map dP).length (J.map dP).length && ascD n (C.map dP) && ascD n (J.map dP)) = _
    unfold ascD
    rw [hC, hJ, List.length_map, List.length_map]
    simp only [aC, aJ, Bool.and_true]
  rw [this]
end Vf
namespace Vf
open PySem PySem.Spec PyProof.Rows L2
/-- a statement whose ways meet again behind it -/
theorem r_seqJ {t u : TS} {nx bk ct : L2.St → Hp → Prop} {rt : VK} {σ : L2.St} {H : Hp} (I : L2.St → Hp → Prop) (h1 : ∀ nx' : L2.St → Hp → Prop, (∀ σ' H', I σ' H' → nx' σ' H') → t ⟨nx', rt, bk, ct⟩ σ H) (h2 : ∀ σ' H', I σ' H' → u ⟨nx, rt, bk, ct⟩ σ' H') : tSeq t u ⟨nx, rt, bk, ct⟩ σ H := h1 _ h2
/-- a move in the heap -/
def MvAt (H : Hp) (v : V) (C J : List (Int × Int)) : Prop := ∃ p a1 a2 xs1 xs2, v = .ref p ∧ H p = some (.tup [.ref a1, .ref a2]) ∧ H a1 = some (.lst xs1) ∧ Prs H xs1 C ∧ H a2 = some (.lst xs2) ∧ Prs H xs2 J
abbrev mD (C J : List (Int × Int)) : PyData := .tuple [.list (C.map dP), .list (J.map dP)]
theorem MvAt.mono {H H' : Hp} {v : V} {C J : List (Int × Int)} (s : Same H H') (h : MvAt H v C J) : MvAt H' v C J := let ⟨p, a1, a2, x1, x2, e, h1, h2, h3, h4, h5⟩ := h; ⟨p, a1, a2, x1, x2, e, s _ _ h1, s _ _ h2, h3.mono s, s _ _ h4, h5.mono s⟩
theorem cpsD_all {n : Int} : ∀ {C : List (Int × Int)}, (∀ p ∈ C, -n ≤ p.1 ∧ p.1 < p.2 ∧ p.2 ≤ n ∧ p.1 ≠ 0 ∧ p.2 ≠ 0) → cpsD n (C.map dP) = some C
  | [], _ => rfl
  | p :: C, h => by
    rw [List.map_cons]
    unfold cpsD
    rw [cpD_of (h p List.mem_cons_self), cpsD_all fun q hq => h q (List.mem_cons_of_mem _ hq)]
theorem mvD_of {n : Int} {L C J : List (Int × Int)} (hL : Lay n L) (hC : ∀ p ∈ C, p ∈ L) (hJ : ∀ p ∈ J, -n ≤ p.1 ∧ p.1 < p.2 ∧ p.2 ≤ n ∧ p.1 ≠ 0 ∧ p.2 ≠ 0) (aC : ascP C = true) (aJ : ascP J = true) (lC : C.length ≤ 2) (lJ : J.length ≤ 2) (h : lawB L C J = true) : mvD n L (mD C J) = true := by
  rw [mv_law hL (cpsD_all fun p hp => hL.cp p (hC p hp)) (cpsD_all hJ) aC aJ lC lJ]
  exact h
def prI (a b : Int) : Int × Int := (min a b, max a b)
theorem prI_two {a b : Int} (h : a ≠ b) : (prI a b = (a, b) ∧ a < b) ∨ (prI a b = (b, a) ∧ b < a) := by
  unfold prI
  by_cases c : a < b
  · left; exact ⟨by rw [Int.min_eq_left (by omega), Int.max_eq_right (by omega)], c⟩
  · right; exact ⟨by rw [Int.min_eq_right (by omega), Int.max_eq_left (by omega)], by omega⟩
theorem mem_opens {n : Int} {L : List (Int × Int)} {e : Int} : e ∈ opensL n L ↔ (-n ≤ e ∧ e ≤ n ∧ e ≠ 0) ∧ e ∉ flat L := by
  unfold opensL
  rw [List.mem_filter, mem_endsL, ← parI_none]
  cases parI L e <;> simp
theorem mv_join {n : Int} {L : List (Int × Int)} (hL : Lay n L) {a b : Int} (ha : a ∈ opensL n L) (hb : b ∈ opensL n L) (ne : a ≠ b) : mvD n L (mD [] [prI a b]) = true := by
  obtain ⟨a1, a2⟩ := mem_opens.mp ha
  obtain ⟨b1, b2⟩ := mem_opens.mp hb
  refine mvD_of hL (fun _ z => (nomatch z)) (fun p hp => ?_) rfl rfl (by decide) (by show 1 ≤ 2; decide) ?_
  · rw [List.mem_singleton.mp hp]
    rcases prI_two ne with ⟨e, c⟩ | ⟨e, c⟩ <;> (rw [e]; simp only; omega)
  · show (true && (decide (1 = 1) && decide (([(prI a b).1, (prI a b).2].filter fun e => decide (e ∉ flat L)).length = 2))) = true
    rcases prI_two ne with ⟨e, c⟩ | ⟨e, c⟩ <;> (rw [e]; simp [a2, b2])
theorem mv_cut {n : Int} {L : List (Int × Int)} (hL : Lay n L) {p : Int × Int} (hp : p ∈ L) : mvD n L (mD [p] []) = true := by
  refine mvD_of hL (fun q hq => List.mem_singleton.mp hq ▸ hp) (fun _ z => (nomatch z)) rfl rfl (by show 1 ≤ 2; decide) (by decide) ?_
  unfold lawB
  rw [if_neg (show ¬ [p].length = 2 by simp), if_pos (show [p].length = 1 from rfl)]
  simp [hp]
theorem mv_move {n : Int} {L : List (Int × Int)} (hL : Lay n L) {p : Int × Int} (hp : p ∈ L) {e f : Int} (he : e = p.1 ∨ e = p.2) (hf : f ∈ opensL n L) : mvD n L (mD [p] [prI e f]) = true := by
  obtain ⟨f1, f2⟩ := mem_opens.mp hf
  have cp := hL.cp p hp
  have i1 : p.1 ∈ flat L := mem_flat.mpr ⟨p, hp, .inl rfl⟩
  have i2 : p.2 ∈ flat L := mem_flat.mpr ⟨p, hp, .inr rfl⟩
  have hel : e ∈ flat L := by rcases he with z | z <;> (rw [z]; assumption)
  have ne : e ≠ f := fun z => f2 (z ▸ hel)
  have nf : f ≠ p.1 ∧ f ≠ p.2 := ⟨fun z => f2 (z ▸ i1), fun z => f2 (z ▸ i2)⟩
  refine mvD_of hL (fun q hq => List.mem_singleton.mp hq ▸ hp) (fun q hq => ?_) rfl rfl (by show 1 ≤ 2; decide) (by show 1 ≤ 2; decide) ?_
  · rw [List.mem_singleton.mp hq]
    rcases prI_two ne with ⟨z, c⟩ | ⟨z, c⟩ <;> (rw [z]; simp only; omega)
  · have fl : ∀ x, x ∈ flat [p] ↔ x = p.1 ∨ x = p.2 := fun x => by simp [flat]
    show ([p].all (fun p => decide (p ∈ L)) && (decide ([prI e f] = []) || (decide (1 = 1) && (decide (([(prI e f).1, (prI e f).2].filter fun e => decide (e ∉ flat L)).length = 1) && decide (([(prI e f).1, (prI e f).2].filter fun e => decide (e ∈ flat [p])).length = 1))))) = true
    rcases prI_two ne with ⟨z, c⟩ | ⟨z, c⟩ <;> (rw [z]; simp [hp, fl, he, hel, f2, nf.1, nf.2])
theorem asc_two {C : List (Int × Int)} (h : Asc C) : ascP C = true := by
  match C with
  | [] => rfl
  | [_] => rfl
  | [p, q] =>
    have := (List.pairwise_cons.mp h).1 q (by simp)
    exact decide_eq_true this
  | _ :: _ :: _ :: _ => rfl
theorem mv_swap {n : Int} {L : List (Int × Int)} (hL : Lay n L) {p o : Int × Int} (hp : p ∈ L) (ho : o ∈ L) (ne : p ≠ o) {x y : Int} (hxy : (x = o.1 ∧ y = o.2) ∨ (x = o.2 ∧ y = o.1)) {C J : List (Int × Int)} (pC : C.Perm [p, o]) (pJ : J.Perm [prI p.1 x, prI p.2 y]) (aC : Asc C) (aJ : Asc J) : mvD n L (mD C J) = true := by
  obtain ⟨n1, n2, n3, n4⟩ := nd_two hL hp ho ne
  have cp := hL.cp p hp
  have co := hL.cp o ho
  have ne1 : p.1 ≠ x := by rcases hxy with h | h <;> omega
  have ne2 : p.2 ≠ y := by rcases hxy with h | h <;> omega
  have rg : ∀ q ∈ [prI p.1 x, prI p.2 y], -n ≤ q.1 ∧ q.1 < q.2 ∧ q.2 ≤ n ∧ q.1 ≠ 0 ∧ q.2 ≠ 0 := fun q hq => by
    rcases List.mem_cons.mp hq with rfl | hq
    · rcases prI_two ne1 with ⟨z, c⟩ | ⟨z, c⟩ <;> rw [z] <;> rcases hxy with h | h <;> (simp only; omega)
    · rw [List.mem_singleton.mp hq]
      rcases prI_two ne2 with ⟨z, c⟩ | ⟨z, c⟩ <;> rw [z] <;> rcases hxy with h | h <;> (simp only; omega)
  refine mvD_of hL (fun q hq => ?_) (fun q hq => rg q (pJ.mem_iff.mp hq)) (asc_two aC) (asc_two aJ) (by rw [pC.length_eq]; exact Nat.le_refl 2) (by rw [pJ.length_eq]; exact Nat.le_refl 2) ?_
  · have := pC.mem_iff.mp hq
    simp only [List.mem_cons, List.not_mem_nil, or_false] at this
    rcases this with rfl | rfl <;> assumption
  · unfold lawB
    rw [if_pos (by rw [pC.length_eq]; rfl)]
    rw [Bool.and_eq_true, Bool.and_eq_true]
    refine ⟨List.all_eq_true.mpr fun q hq => decide_eq_true ?_, decide_eq_true ?_, List.all_eq_true.mpr fun q hq => decide_eq_true fun hqc => ?_⟩
    · have := pC.mem_iff.mp hq
      simp only [List.mem_cons, List.not_mem_nil, or_false] at this
      rcases this with rfl | rfl <;> assumption
    · refine (flat_perm pJ).trans (List.Perm.trans ?_ (flat_perm pC).symm)
      have f1 : flat [prI p.1 x, prI p.2 y] = [(prI p.1 x).1, (prI p.1 x).2] ++ [(prI p.2 y).1, (prI p.2 y).2] := rfl
      have k : ∀ {a b : Int}, a ≠ b → [(prI a b).1, (prI a b).2].Perm [a, b] := fun {a b} h => by
        rcases prI_two h with ⟨z, _⟩ | ⟨z, _⟩
        · rw [z]
        · rw [z]; exact .swap _ _ _
      rw [f1]
      refine ((k ne1).append (k ne2)).trans ?_
      show [p.1, x, p.2, y].Perm [p.1, p.2, o.1, o.2]
      rcases hxy with ⟨rfl, rfl⟩ | ⟨rfl, rfl⟩
      · exact .cons _ (.swap _ _ _)
      · exact .cons _ (List.perm_append_comm (l₁ := [_]) (l₂ := [_, _]))
    · have h1 := pJ.mem_iff.mp hq
      have h2 := pC.mem_iff.mp hqc
      simp only [List.mem_cons, List.not_mem_nil, or_false] at h1 h2
      have e1 := prI_two ne1
      have e2 := prI_two ne2
      rcases h2 with rfl | rfl
      · rcases h1 with h | h
        · rcases e1 with ⟨z, c⟩ | ⟨z, c⟩ <;> rw [z] at h <;> (have w1 := congrArg Prod.fst h; have w2 := congrArg Prod.snd h; simp only at w1 w2; rcases hxy with g | g <;> omega)
        · rcases e2 with ⟨z, c⟩ | ⟨z, c⟩ <;> rw [z] at h <;> (have w1 := congrArg Prod.fst h; have w2 := congrArg Prod.snd h; simp only at w1 w2; rcases hxy with g | g <;> omega)
      · rcases h1 with h | h
        · rcases e1 with ⟨z, c⟩ | ⟨z, c⟩ <;> rw [z] at h <;> (have w1 := congrArg Prod.fst h; have w2 := congrArg Prod.snd h; simp only at w1 w2; rcases hxy with g | g <;> omega)
        · rcases e2 with ⟨z, c⟩ | ⟨z, c⟩ <;> rw [z] at h <;> (have w1 := congrArg Prod.fst h; have w2 := congrArg Prod.snd h; simp only at w1 w2; rcases hxy with g | g <;> omega)
end Vf
namespace Vf
open PySem PySem.Spec PyProof.Rows L2
end Vf
namespace Vf
open PySem PySem.Spec PyProof.Rows L2
end Vf
namespace Vf
open PySem PySem.Spec PyProof.Rows L2
end Vf
namespace Vf
open PySem PySem.Spec PyProof.Rows L2
/-! ### lists of pairs that a law makes up -/
def Bd (M : List (Int × Int)) : Prop := ∀ p ∈ M, p.1.natAbs < 10 ^ 40 ∧ p.2.natAbs < 10 ^ 40
def LsP (H : Hp) (m : Nat) (v : V) : Prop := ∃ a xs M, v = .ref a ∧ H a = some (.lst xs) ∧ Prs H xs M ∧ Bd M ∧ M.length ≤ m
def EvP (t : List Addr) (σ : L2.St) (H0 : Hp) (te : TE) (m : Nat) : Prop := ∀ H Q, Same H0 (Hid t H) → Seen t H → (∀ v H', Same H H' → LsP (Hid t H') m v → Q v H') → te σ H Q
section
variable {K : PySem.W.Frag} {t : List Addr} {σ : L2.St} {H0 H H' : Hp} {te ta tb : TE} {ts : TA} {tl th : TO} {m m' a : Nat} {v : V}
theorem LsP.mono (s : Same H H') (h : LsP H m v) : LsP H' m v := let ⟨a, xs, M, e, h1, h2, h3⟩ := h; ⟨a, xs, M, e, s _ _ h1, h2.mono s, h3⟩
theorem LsP.le (h : LsP H m v) (hm : m ≤ m') : LsP H m' v := let ⟨a, xs, M, e, h1, h2, h3, h4⟩ := h; ⟨a, xs, M, e, h1, h2, h3, Nat.le_trans h4 hm⟩
theorem EvP.go (h : EvP t σ H0 te m) {Q : VK} (s : Same H0 (Hid t H)) (n : Seen t H) (q : ∀ v H', Same H H' → LsP (Hid t H') m v → Q v H') : te σ H Q := h H Q s n q
/-- a list display of pairs by a call that gives a new pair -/
def EvPr (t : List Addr) (σ : L2.St) (H0 : Hp) (te : TE) (p : Int × Int) : Prop := ∀ H Q, Same H0 (Hid t H) → Seen t H → (∀ v H', Same H H' → Pr (Hid t H') v p → Q v H') → te σ H Q
end
end Vf
namespace Vf
open PySem PySem.Spec PyProof.Rows L2
end Vf
namespace Vf
open PySem PySem.Spec PyProof.Rows L2
end Vf
namespace Vf
open PySem PySem.Spec PyProof.Rows L2
/-! ### types by `is`, several targets, count -/
theorem op_tyIs {X : Cx} : OpR X (compareOp .Is) (rTyC false) := by
  rintro pins s σ H _ _ v u Q I rx ry ⟨m, n, rfl, rfl, hm, hn, q⟩
  cases rx
  cases ry
  refine PySem.wpAny_is_plain (a := Value.type m) (b := Value.type n) rfl ⟨.bl (decide (m = n)), H, I, ?_, by simpa using q⟩
  show Value.bool _ = Value.bool _
  congr 1
  by_cases e : m = n
  · subst e; simp
  · rw [decide_eq_false e, Bool.eq_false_iff]
    intro z
    exact e (Value.type.inj (beq_iff_eq.mp z))
theorem op_tyIsN {X : Cx} : OpR X (compareOp .IsNot) (rTyC true) := by
  rintro pins s σ H _ _ v u Q I rx ry ⟨m, n, rfl, rfl, hm, hn, q⟩
  cases rx
  cases ry
  refine PySem.wpAny_isNot_plain (a := Value.type m) (b := Value.type n) rfl ⟨.bl (!decide (m = n)), H, I, ?_, by simpa using q⟩
  show Value.bool _ = Value.bool _
  congr 1
  by_cases e : m = n
  · subst e; simp
  · rw [decide_eq_false e]
    have : (Value.type m == Value.type n) = false := by
      rw [Bool.eq_false_iff]
      intro z
      exact e (Value.type.inj (beq_iff_eq.mp z))
    rw [this]
section
variable {K : PySem.W.Frag} {σ : L2.St} {H : Hp} {Q : VK} {nx bk ct : L2.St → Hp → Prop} {rt : VK} {te : TE} {g1 g2 : TG}
theorem r_asg2 (h : te σ H fun x H1 => g1 x σ H1 fun σ1 H2 => g2 x σ1 H2 nx) : tAsg2 te g1 g2 ⟨nx, rt, bk, ct⟩ σ H := h
theorem lcountK {X : Cx} (hK : X.K = K := by rfl) : MtR X "list.count" (rCntI K) := by subst hK; exact mt_lcount
theorem r_cnt {p : Addr} {ns : List Int} {k : Int} (hs : SqL K H p (ns.map V.int)) (q : Q (.int (ns.count k : Nat)) H) : rCntI K (.ref p) [.int k] H Q := ⟨p, ns, k, rfl, rfl, hs, q⟩
end
theorem dta_ints {K : PySem.W.Frag} {H : Hp} : ∀ ns : List Int, DtAll K H (ns.map V.int) (ns.map PyData.int)
  | [] => .nil
  | n :: ns => .cons (.int n) (dta_ints ns)
/-! ### how many are open -/
theorem atI_pos {α : Type} {xs : List α} {j : Nat} (h : j < xs.length) : atI xs (j : Int) = xs[j]? := by
  unfold atI ixN
  rw [if_pos (by omega), if_pos (by omega)]
  rfl
theorem atI_neg {α : Type} {xs : List α} {j : Nat} (h : j < xs.length) : atI xs ((j : Int) - xs.length) = xs[j]? := by
  unfold atI ixN
  rw [if_neg (by omega), if_pos (by omega)]
  show xs[((j : Int) - xs.length + xs.length).toNat]? = _
  congr 1
  omega
theorem IsF.eq {n : Int} {f : Int → Int} {ts : List Int} (h : IsF n f ts) : ts = (rng 0 (n.toNat + 1)).map f ++ (rng (-n) n.toNat).map f := by
  have n0 := h.n0
  have hl := h.len
  refine List.ext_getElem? fun j => ?_
  by_cases c : j < ts.length
  · by_cases c1 : j < n.toNat + 1
    · have g := h.get j (by omega) (by omega)
      rw [atI_pos c] at g
      rw [g, List.getElem?_append_left (by rw [List.length_map, rng_len]; exact c1), List.getElem?_map]
      unfold rng
      rw [List.getElem?_map, List.getElem?_range c1]
      show _ = some (f (0 + (j : Int)))
      rw [Int.zero_add]
    · have g := h.get ((j : Int) - ts.length) (by omega) (by omega)
      rw [atI_neg c] at g
      rw [g, List.getElem?_append_right (by rw [List.length_map, rng_len]; omega), List.length_map, rng_len, List.getElem?_map]
      unfold rng
      rw [List.getElem?_map, List.getElem?_range (by omega)]
      show _ = some (f (-n + ((j - (n.toNat + 1) : Nat) : Int)))
      congr 2
      omega
  · rw [List.getElem?_eq_none (by omega), List.getElem?_eq_none (by rw [List.length_append, List.length_map, List.length_map, rng_len, rng_len]; omega)]
theorem rng_app (lo : Int) (a b : Nat) : rng lo (a + b) = rng lo a ++ rng (lo + a) b := by
  refine List.ext_getElem? fun j => ?_
  unfold rng
  rw [List.getElem?_map]
  by_cases c : j < a
  · rw [List.getElem?_append_left (by simpa using c), List.getElem?_map, List.getElem?_range (by omega), List.getElem?_range c]
  · rw [List.getElem?_append_right (by simpa using c), List.length_map, List.length_range, List.getElem?_map]
    by_cases c2 : j < a + b
    · rw [List.getElem?_range c2, List.getElem?_range (by omega)]
      show some (lo + (j : Int)) = some (lo + (a : Int) + ((j - a : Nat) : Int))
      congr 1
      omega
    · rw [List.getElem?_eq_none (by simp; omega), List.getElem?_eq_none (by simp; omega)]
      rfl
theorem IsF.count {n : Int} {f : Int → Int} {ts : List Int} (h : IsF n f ts) (k : Int) : ts.count k = ((rng (-n) (2 * n + 1).toNat).filter fun e => decide (f e = k)).length := by
  have n0 := h.n0
  have e0 : rng (-n) (2 * n + 1).toNat = rng (-n) n.toNat ++ rng 0 (n.toNat + 1) := by
    rw [show (2 * n + 1).toNat = n.toNat + (n.toNat + 1) by omega, rng_app (-n) n.toNat (n.toNat + 1), show -n + (n.toNat : Int) = 0 by omega]
  rw [h.eq, List.count_append, e0, List.filter_append, List.length_append, Nat.add_comm]
  have e : ∀ l : List Int, (l.map f).count k = (l.filter fun e => decide (f e = k)).length := fun l => by
    rw [List.count_eq_countP, List.countP_map, ← List.countP_eq_length_filter]
    rfl
  rw [e, e]
theorem ptb_zero {n : Int} {L : List (Int × Int)} (hL : Lay n L) (e : Int) : ptb L e = 0 ↔ e ≠ 0 ∧ e ∉ flat L := by
  unfold ptb
  by_cases z : e = 0
  · rw [if_pos z]; simp [z]
  · rw [if_neg z, ← parI_none]
    cases hp : parI L e with
    | none => simp [z]
    | some x =>
      have := par_mem hL hp
      simp [this.2.2]
theorem perm_of_nd {l m : List Int} (h1 : l.Nodup) (h2 : m.Nodup) (h : ∀ x, x ∈ l ↔ x ∈ m) : l.length = m.length :=
  Nat.le_antisymm (nodup_sub h1 fun x hx => (h x).mp hx) (nodup_sub h2 fun x hx => (h x).mpr hx)
theorem len_split {α : Type} (p : α → Bool) : ∀ l : List α, (l.filter p).length + (l.filter fun e => !p e).length = l.length
  | [] => rfl
  | a :: l => by
    have := len_split p l
    cases h : p a
    · rw [List.filter_cons_of_neg (by rw [h]; exact Bool.false_ne_true), List.filter_cons_of_pos (by rw [h]; rfl), List.length_cons, List.length_cons]
      omega
    · rw [List.filter_cons_of_pos h, List.filter_cons_of_neg (by rw [h]; exact Bool.false_ne_true), List.length_cons, List.length_cons]
      omega
theorem lay_count {n : Int} {L : List (Int × Int)} {ts : List Int} (hL : Lay n L) (hF : IsF n (ptb L) ts) : ((ts.length : Int) - (ts.count 0 : Nat)).fdiv 2 = (L.length : Nat) ∧ ts.count 0 = 2 * n.toNat - 2 * L.length ∧ L.length ≤ n.toNat := by
  have n0 := hF.n0
  have hl := hF.len
  have hc := hF.count 0
  have nd : (0 :: flat L).Nodup := List.nodup_cons.mpr ⟨fun z => by
    obtain ⟨p, hp, q⟩ := mem_flat.mp z
    have := hL.cp p hp
    omega, hL.nd⟩
  have h1 : ((rng (-n) (2 * n + 1).toNat).filter fun e => !decide (ptb L e = 0)).length = (0 :: flat L).length := by
    refine perm_of_nd ((rng_asc _ _).filter _ |>.imp fun h => by omega) nd fun x => ?_
    rw [List.mem_filter, mem_rng, List.mem_cons]
    simp only [Bool.not_eq_eq_eq_not, Bool.not_true, decide_eq_false_iff_not, ptb_zero hL]
    constructor
    · rintro ⟨_, h⟩
      by_cases z : x = 0
      · exact .inl z
      · exact .inr (Decidable.byContradiction fun c => h ⟨z, c⟩)
    · rintro (rfl | h)
      · exact ⟨by omega, fun z => z.1 rfl⟩
      · obtain ⟨p, hp, q⟩ := mem_flat.mp h
        have := hL.cp p hp
        exact ⟨by omega, fun z => z.2 h⟩
  have h2 : ((rng (-n) (2 * n + 1).toNat).filter fun e => decide (ptb L e = 0)).length + ((rng (-n) (2 * n + 1).toNat).filter fun e => !decide (ptb L e = 0)).length = (2 * n + 1).toNat := by
    have := len_split (fun e => decide (ptb L e = 0)) (rng (-n) (2 * n + 1).toNat)
    rw [rng_len] at this
    exact this
  rw [h1, ← hc, List.length_cons, flat_len] at h2
  refine ⟨?_, by omega, by omega⟩
  rw [show (ts.length : Int) - (ts.count 0 : Nat) = 2 * (L.length : Nat) + 1 by omega, Int.fdiv_eq_ediv_of_nonneg _ (by decide)]
  omega
end Vf
namespace Vf
open PySem PySem.Spec PyProof.Rows L2
/-! ### x is True -/
/-! ### sets of pairs, sorted: some arrangement -/
end Vf
namespace Vf
open PySem PySem.Spec PyProof.Rows L2
/-! ### comprehensions of a menu, over any list that is made on the way -/
section
variable {K : PySem.W.Frag} {P : Program} {w : World} {t : List Addr} {σ : L2.St} {H0 H H' : Hp} {te te0 ta tb tc td : TE} {tl th : TO} {W k m m' a ix : Nat} {v : V} {vs : List Nat}
/-! ### pairs, and lists of pairs -/
/-! a list display or a sum of lists is a new object -/
theorem hid_fresh {p : Addr} {o : HO} (np : H p = none) : Same (Hid t H) (Hid (p :: t) (upd H p o)) := fun b u e => by
  have h := hid_same (t := t) (same_new (o := o) np) b u e
  unfold Hid at h e ⊢
  split at e
  · cases e
  · rename_i c
    rw [if_neg c] at h
    rw [if_neg (fun z => (List.mem_cons.mp z).elim (fun z => by rw [z, np] at e; cases e) c)]
    exact h
theorem endsL_card {n : Int} (h : 0 ≤ n) : (endsL n).length = 2 * n.toNat := by
  have h1 := len_split (fun e : Int => decide (e = 0)) (rng (-n) (n + 1 - -n).toNat)
  have h2 : ((rng (-n) (n + 1 - -n).toNat).filter fun e : Int => decide (e = 0)).length = ([0] : List Int).length := by
    refine perm_of_nd ((rng_asc _ _).filter _ |>.imp fun h => by omega) (by simp) fun x => ?_
    rw [List.mem_filter, mem_rng]
    simp only [decide_eq_true_eq, List.mem_singleton]
    omega
  rw [rng_len, h2] at h1
  unfold endsL
  have : ([0] : List Int).length = 1 := rfl
  omega
end
end Vf
namespace Vf
open PySem PySem.Spec PyProof.Rows L2
/-! ### sorted of data, any length -/
def rSortD (K : PySem.W.Frag) : List V → Hp → VK → Prop := fun vs H Q => ∃ (a : Addr) (xs : List V) (β : Type) (bs : List β) (enc : β → PyData) (F : V → β → Prop), vs = [.ref a] ∧ SqL K H a xs ∧ Paired F xs bs ∧ (∀ v b, F v b → Dp K H v (enc b)) ∧
  PySem.W.AllAlike (bs.map enc) ∧ PySem.W.Sortable (bs.map enc) ∧ (∀ b ∈ bs, (enc b).depth ≤ 20) ∧ bs.length ≤ sizeLine ∧
  ∀ ys p, Paired F ys (bs.mergeSort (PySem.W.dataLe false enc)) → H p = none → Q (.ref p) (upd H p (.lst ys))
theorem each_of_pair {α β : Type} {F : V → β → Prop} : ∀ {xs : List V} {us : List Value} {bs : List β}, Vals xs us → Paired F xs bs → PySem.W.EachIs (fun u b => ∃ x, RelV x u ∧ F x b) us bs
  | _, _, _, .nil, .nil => .nil
  | _, _, _, .cons r t, .cons f g => .cons ⟨_, r, f⟩ (each_of_pair (α := α) t g)
theorem pair_of_each {β : Type} {F : V → β → Prop} : ∀ {us : List Value} {bs : List β}, PySem.W.EachIs (fun u b => ∃ x, RelV x u ∧ F x b) us bs → ∃ xs, Vals xs us ∧ Paired F xs bs
  | _, _, .nil => ⟨[], .nil, .nil⟩
  | _, _, .cons ⟨x, r, f⟩ t => let ⟨xs, h1, h2⟩ := pair_of_each t; ⟨x :: xs, .cons r h1, .cons f h2⟩
theorem each_mono {α β : Type} {F G : α → β → Prop} (h : ∀ a b, F a b → G a b) : ∀ {us : List α} {bs : List β}, PySem.W.EachIs F us bs → PySem.W.EachIs G us bs
  | _, _, .nil => .nil
  | _, _, .cons r t => .cons (h _ _ r) (each_mono h t)
section
variable {X : Cx} {K : PySem.W.Frag}
theorem srtD (hu : X.A.units + 64 < cLine) : CallR X (.builtin "sorted") (rSortD X.K) := by
  intro pins s σ H vs us Q I r h
  obtain ⟨a, xs, β, bs, enc, F, rfl, hs, hP, hF, h1, h2, h3, h4, q⟩ := h
  obtain ⟨its, rv, hl, hz⟩ := I.list hs
  obtain ⟨u, rfl, ru⟩ := vals1 r
  obtain rfl : u = Value.ref a := ru
  have e := each_of_pair (α := Unit) rv hP
  have er : PySem.W.EachIs (fun v b => ∃ as, Reads s.heap v (enc b) as) its bs := each_mono (fun u b ⟨x, r, f⟩ => Dp.reads I (enc b) x u (hF x b f) r) e
  refine PySem.W.sorted_data hl.isList e er h1 h2 h4 (fun b hb => by have := h3 b hb; omega) fun out ho eo => ?_
  obtain ⟨ys, v1, v2⟩ := pair_of_each eo
  have hlen : ys.length ≤ sizeLine := by rw [pair_len v2, List.length_mergeSort]; exact h4
  obtain ⟨n, hn⟩ := sortedAll_at s.heap its out.toArray
  have kp : ∀ b o, s.heap.get? b = some o → (sortedAll s.heap its out.toArray).get? b = some o := fun b o e => sortedAll_old e
  have hd : s.heap.objs.size ≤ s.heap.objs.size + 1 := Nat.le_succ _
  exact ⟨.ref (s.heap.objs.size + 1), upd H (s.heap.objs.size + 1) (.lst ys), I.laid (t' := s.toks) kp hd ⟨hlen, out, n, v1, hn⟩, rfl, q ys _ v2 (I.hok.fresh hd)⟩
theorem srtDK (hu : X.A.units + 64 < cLine) (hK : X.K = K := by rfl) : CallR X (.builtin "sorted") (rSortD K) := by subst hK; exact srtD hu
end
/-! ### lists of lists of ints -/
/-- a list of ints at some place -/
def IL (H : Hp) (v : V) (r : List Int) : Prop := ∃ c, v = .ref c ∧ H c = some (.lst (r.map V.int))
abbrev ILs (H : Hp) : List V → List (List Int) → Prop := Paired (IL H)
def dR (r : List Int) : PyData := .list (r.map .int)
def dRs (R : List (List Int)) : PyData := .list (R.map dR)
theorem IL.mono {H H' : Hp} {v : V} {r : List Int} (s : Same H H') (h : IL H v r) : IL H' v r := let ⟨c, e, f⟩ := h; ⟨c, e, s _ _ f⟩
theorem ILs.mono {H H' : Hp} {xs : List V} {R : List (List Int)} (s : Same H H') (h : ILs H xs R) : ILs H' xs R := pair_mono h fun _ _ q => q.mono s
theorem IL.dp {K : PySem.W.Frag} {H : Hp} {v : V} {r : List Int} (h : IL H v r) : Dp K H v (dR r) := by
  obtain ⟨c, rfl, e⟩ := h
  exact .lst (sql e) (dpa_ints r)
theorem dpa_ils {K : PySem.W.Frag} {H : Hp} : ∀ {xs : List V} {R : List (List Int)}, ILs H xs R → DpAll K H xs (R.map dR)
  | _, _, .nil => .nil
  | _, _, .cons h t => .cons h.dp (dpa_ils t)
theorem alike_dR (r t : List Int) : PySem.W.alike (dR r) (dR t) = true := by
  unfold dR
  rw [PySem.W.alike]
  exact PySem.W.alike_ints r t
theorem depth_dR (r : List Int) : (dR r).depth ≤ 1 := by
  unfold dR
  rw [PyData.depth, PySem.W.depth_ints]
  omega
/-- lists in their order -/
def srtR (R : List (List Int)) : List (List Int) := R.mergeSort fun p q => decide (p ≤ q)
theorem r_sortR {K : PySem.W.Frag} {H : Hp} {Q : VK} {a : Addr} {xs : List V} {R : List (List Int)} (hs : SqL K H a xs) (h : ILs H xs R) (hl : R.length ≤ 100000)
    (q : ∀ ys p, ILs H ys (srtR R) → (∀ y ∈ ys, y ∈ xs) → H p = none → Q (.ref p) (upd H p (.lst ys))) : rSortD K [.ref a] H Q := by
  have hx : ∀ {xs : List V} {R : List (List Int)}, ILs H xs R → Paired (fun v b => v ∈ xs ∧ IL H v b) xs R := fun {xs R} h => by
    induction h with
    | nil => exact .nil
    | cons r _ ih => exact .cons ⟨by simp, r⟩ (pair_mono ih fun _ _ z => ⟨List.mem_cons_of_mem _ z.1, z.2⟩)
  refine ⟨a, xs, List Int, R, dR, fun v b => v ∈ xs ∧ IL H v b, rfl, hs, hx h, fun v b z => z.2.dp, PySem.W.AllAlike.of alike_dR, PySem.W.Sortable.others fun b => ⟨by simp [dR], by simp [dR]⟩, fun b _ => Nat.le_trans (depth_dR b) (by decide), szl hl, fun ys p h2 np => ?_⟩
  have e : PySem.W.dataLe false dR = fun p q => decide (p ≤ q) := PySem.W.dataLe_rows (β := List Int) (fun b => b)
  rw [e] at h2
  refine q ys p (pair_mono h2 fun _ _ z => z.2) (fun y hy => ?_) np
  obtain ⟨i, hi⟩ := List.getElem?_of_mem hy
  obtain ⟨_, _, z⟩ := pair_get h2 hi
  exact z.1
theorem srtR_perm (R : List (List Int)) : (srtR R).Perm R := List.mergeSort_perm R _
theorem srtR_eq {R R' : List (List Int)} (h : R.Perm R') : srtR R = srtR R' := by
  have tr : ∀ a b c : List Int, decide (a ≤ b) = true → decide (b ≤ c) = true → decide (a ≤ c) = true := fun a b c h1 h2 => decide_eq_true (List.le_trans (of_decide_eq_true h1) (of_decide_eq_true h2))
  have to : ∀ a b : List Int, (decide (a ≤ b) || decide (b ≤ a)) = true := fun a b => by
    rcases List.le_total a b with z | z
    · simp [z]
    · simp [z]
  have s1 := List.pairwise_mergeSort tr to R
  have s2 := List.pairwise_mergeSort tr to R'
  refine List.Perm.eq_of_pairwise (le := fun p q => decide (p ≤ q) = true) (fun a b _ _ h1 h2 => List.le_antisymm (of_decide_eq_true h1) (of_decide_eq_true h2)) s1 s2 ?_
  exact (srtR_perm R).trans (h.trans (srtR_perm R').symm)
theorem srtR_id {R : List (List Int)} (h : R.Pairwise fun p q => p ≤ q) : srtR R = R := List.mergeSort_of_pairwise (h.imp fun z => decide_eq_true z)
end Vf
namespace Vf
open PySem PySem.Spec PyProof.Rows L2
/-! ### readings: chains of numbers with signs -/
def ab (x : Int) : Int := (x.natAbs : Int)
def steps : List Int → List (Int × Int)
  | [] => []
  | [_] => []
  | x :: y :: t => prI x (-y) :: steps (y :: t)
def ringC : List Int → List (Int × Int)
  | [] => []
  | x :: t => steps (x :: (t ++ [x]))
def cps (R G : List (List Int)) : List (Int × Int) := R.flatMap steps ++ G.flatMap ringC
structure Sys (n : Int) (L : List (Int × Int)) (R G : List (List Int)) : Prop where
  neR : ∀ r ∈ R, r ≠ []
  neG : ∀ r ∈ G, r ≠ []
  pcs : (R.flatten.map ab ++ G.flatten.map ab).Perm (rng 1 n.toNat)
  cp : (cps R G).Perm L
theorem ab_neg (x : Int) : ab (-x) = ab x := by unfold ab; rw [Int.natAbs_neg]
theorem ab_eq {x y : Int} (h : ab x = ab y) : x = y ∨ x = -y := by unfold ab at h; omega
theorem steps_cons2 (x y : Int) (t : List Int) : steps (x :: y :: t) = prI x (-y) :: steps (y :: t) := rfl
theorem mem_steps {p : Int × Int} : ∀ {r : List Int}, p ∈ steps r ↔ ∃ u x y v, r = u ++ x :: y :: v ∧ p = prI x (-y)
  | [] => by
    constructor
    · intro h; cases h
    · rintro ⟨u, x, y, v, h, _⟩; cases u <;> simp at h
  | [a] => by
    constructor
    · intro h; cases h
    · rintro ⟨u, x, y, v, h, _⟩
      match u with
      | [] => simp at h
      | [_] => simp at h
      | _ :: _ :: _ => simp at h
  | a :: b :: t => by
    rw [steps_cons2, List.mem_cons, mem_steps (r := b :: t)]
    constructor
    · rintro (h | ⟨u, x, y, v, h, e⟩)
      · exact ⟨[], a, b, t, rfl, h⟩
      · exact ⟨a :: u, x, y, v, by rw [h]; rfl, e⟩
    · rintro ⟨u, x, y, v, h, e⟩
      cases u with
      | nil => simp at h; obtain ⟨rfl, rfl, rfl⟩ := h; exact .inl e
      | cons c u => simp at h; exact .inr ⟨u, x, y, v, h.2, e⟩
theorem mem_prI {a b e : Int} : (e = (prI a b).1 ∨ e = (prI a b).2) ↔ (e = a ∨ e = b) := by unfold prI; simp only; omega
theorem prI_mem {n : Int} {L : List (Int × Int)} (hL : Lay n L) {a b : Int} (h : prI a b ∈ L) : ptb L a = b ∧ ptb L b = a ∧ a ≠ 0 ∧ b ≠ 0 ∧ a ≠ b := by
  have hc := hL.cp _ h
  unfold prI at hc
  simp only at hc
  have a0 : a ≠ 0 := by omega
  have b0 : b ≠ 0 := by omega
  have ne : a ≠ b := by omega
  have h1 : (a, b) ∈ L ∨ (b, a) ∈ L := by
    rcases prI_two ne with ⟨e, _⟩ | ⟨e, _⟩
    · exact .inl (e ▸ h)
    · exact .inr (e ▸ h)
  have p1 := (parI_iff hL (a := a) (b := b)).mpr h1
  have p2 := (parI_iff hL (a := b) (b := a)).mpr h1.symm
  refine ⟨?_, ?_, a0, b0, ne⟩
  · unfold ptb; rw [if_neg a0, p1]; rfl
  · unfold ptb; rw [if_neg b0, p2]; rfl
/-- the steps of a ring -/
theorem mem_ringC {p : Int × Int} {g : List Int} : p ∈ ringC g ↔ ∃ a t u x y v, g = a :: t ∧ a :: (t ++ [a]) = u ++ x :: y :: v ∧ p = prI x (-y) := by
  cases g with
  | nil => constructor
           · intro h; cases h
           · rintro ⟨a, t, u, x, y, v, h, _⟩; cases h
  | cons b t =>
    show p ∈ steps _ ↔ _
    rw [mem_steps]
    constructor
    · rintro ⟨u, x, y, v, h, e⟩; exact ⟨b, t, u, x, y, v, rfl, h, e⟩
    · rintro ⟨a, t', u, x, y, v, h, h2, e⟩; cases h; exact ⟨u, x, y, v, h2, e⟩
section
variable {n : Int} {L : List (Int × Int)} {R G : List (List Int)}
theorem Sys.row (h : Sys n L R G) (hL : Lay n L) {r u v : List Int} {x y : Int} (hr : r ∈ R) (e : r = u ++ x :: y :: v) : ptb L x = -y ∧ ptb L (-y) = x ∧ x ≠ 0 ∧ y ≠ 0 ∧ x ≠ -y := by
  have := prI_mem hL (a := x) (b := -y) (h.cp.mem_iff.mp (List.mem_append_left _ (List.mem_flatMap.mpr ⟨r, hr, mem_steps.mpr ⟨u, x, y, v, e, rfl⟩⟩)))
  exact ⟨this.1, this.2.1, this.2.2.1, by omega, this.2.2.2.2⟩
theorem Sys.ring (h : Sys n L R G) (hL : Lay n L) {t u v : List Int} {a x y : Int} (hr : (a :: t) ∈ G) (e : a :: (t ++ [a]) = u ++ x :: y :: v) : ptb L x = -y ∧ ptb L (-y) = x ∧ x ≠ 0 ∧ y ≠ 0 ∧ x ≠ -y := by
  have := prI_mem hL (a := x) (b := -y) (h.cp.mem_iff.mp (List.mem_append_right _ (List.mem_flatMap.mpr ⟨_, hr, mem_ringC.mpr ⟨a, t, u, x, y, v, rfl, e, rfl⟩⟩)))
  exact ⟨this.1, this.2.1, this.2.2.1, by omega, this.2.2.2.2⟩
theorem Sys.nd (h : Sys n L R G) : (R.flatten.map ab ++ G.flatten.map ab).Nodup := h.pcs.nodup_iff.mpr ((rng_asc _ _).imp fun h => by omega)
theorem Sys.rangeR (h : Sys n L R G) {r : List Int} {x : Int} (hr : r ∈ R) (hx : x ∈ r) : 1 ≤ ab x ∧ ab x ≤ n := by
  have := mem_rng.mp (h.pcs.mem_iff.mp (List.mem_append_left _ (List.mem_map.mpr ⟨x, List.mem_flatten.mpr ⟨r, hr, hx⟩, rfl⟩)))
  omega
theorem Sys.rangeG (h : Sys n L R G) {r : List Int} {x : Int} (hr : r ∈ G) (hx : x ∈ r) : 1 ≤ ab x ∧ ab x ≤ n := by
  have := mem_rng.mp (h.pcs.mem_iff.mp (List.mem_append_right _ (List.mem_map.mpr ⟨x, List.mem_flatten.mpr ⟨r, hr, hx⟩, rfl⟩)))
  omega
theorem uniq_in : ∀ {R : List (List Int)}, (R.flatten.map ab).Nodup → ∀ {r r' : List Int} {x y : Int}, r ∈ R → r' ∈ R → x ∈ r → y ∈ r' → ab x = ab y → r = r' ∧ x = y
  | [], _, _, _, _, _, h, _, _, _, _ => absurd h (by simp)
  | q :: R, nd, r, r', x, y, hr, hr', hx, hy, e => by
    rw [List.flatten_cons, List.map_append] at nd
    obtain ⟨n1, n2, n3⟩ := List.nodup_append.mp nd
    have inR : ∀ {s : List Int} {z : Int}, s ∈ R → z ∈ s → ab z ∈ R.flatten.map ab := fun hs hz => List.mem_map.mpr ⟨_, List.mem_flatten.mpr ⟨_, hs, hz⟩, rfl⟩
    rcases List.mem_cons.mp hr with rfl | k1
    · rcases List.mem_cons.mp hr' with rfl | k2
      · refine ⟨rfl, ?_⟩
        rw [List.Nodup, List.pairwise_map] at n1
        by_cases c : x = y
        · exact c
        · exfalso
          obtain ⟨i, hi⟩ := List.getElem?_of_mem hx
          obtain ⟨j, hj⟩ := List.getElem?_of_mem hy
          have pw := List.pairwise_iff_getElem.mp n1
          obtain ⟨hi1, hi2⟩ := List.getElem?_eq_some_iff.mp hi
          obtain ⟨hj1, hj2⟩ := List.getElem?_eq_some_iff.mp hj
          rcases Nat.lt_trichotomy i j with z | z | z
          · exact pw i j hi1 hj1 z (by rw [hi2, hj2]; exact e)
          · subst z; exact c (hi2.symm.trans hj2)
          · exact pw j i hj1 hi1 z (by rw [hi2, hj2]; exact e.symm)
      · exact (n3 (ab x) (List.mem_map.mpr ⟨x, hx, rfl⟩) (ab y) (inR k2 hy) e).elim
    · rcases List.mem_cons.mp hr' with rfl | k2
      · exact (n3 (ab y) (List.mem_map.mpr ⟨y, hy, rfl⟩) (ab x) (inR k1 hx) e.symm).elim
      · exact uniq_in n2 k1 k2 hx hy e
theorem Sys.uR (h : Sys n L R G) {r r' : List Int} {x y : Int} (hr : r ∈ R) (hr' : r' ∈ R) (hx : x ∈ r) (hy : y ∈ r') (e : ab x = ab y) : r = r' ∧ x = y := uniq_in (List.nodup_append.mp h.nd).1 hr hr' hx hy e
theorem Sys.uG (h : Sys n L R G) {r r' : List Int} {x y : Int} (hr : r ∈ G) (hr' : r' ∈ G) (hx : x ∈ r) (hy : y ∈ r') (e : ab x = ab y) : r = r' ∧ x = y := uniq_in (List.nodup_append.mp h.nd).2.1 hr hr' hx hy e
theorem Sys.apart (h : Sys n L R G) {r g : List Int} {x y : Int} (hr : r ∈ R) (hg : g ∈ G) (hx : x ∈ r) (hy : y ∈ g) : ab x ≠ ab y := fun e =>
  (List.nodup_append.mp h.nd).2.2 _ (List.mem_map.mpr ⟨x, List.mem_flatten.mpr ⟨r, hr, hx⟩, rfl⟩) _ (List.mem_map.mpr ⟨y, List.mem_flatten.mpr ⟨g, hg, hy⟩, rfl⟩) e
theorem nd_of_in {R : List (List Int)} (nd : (R.flatten.map ab).Nodup) {r : List Int} (hr : r ∈ R) : (r.map ab).Nodup := by
  have : (r.map ab).Sublist (R.flatten.map ab) := (List.sublist_flatten_of_mem hr).map ab
  exact this.nodup nd
theorem Sys.ndR (h : Sys n L R G) {r : List Int} (hr : r ∈ R) : (r.map ab).Nodup := nd_of_in (List.nodup_append.mp h.nd).1 hr
theorem Sys.ndG (h : Sys n L R G) {r : List Int} (hr : r ∈ G) : (r.map ab).Nodup := nd_of_in (List.nodup_append.mp h.nd).2.1 hr
theorem nd_ab {r : List Int} (h : (r.map ab).Nodup) : r.Nodup := by
  rw [List.Nodup, List.pairwise_map] at h
  exact h.imp fun c e => c (by rw [e])
theorem split_uniq {x : Int} : ∀ {u u' v v' : List Int}, (u ++ x :: v).Nodup → u ++ x :: v = u' ++ x :: v' → u = u' ∧ v = v'
  | [], [], v, v', _, e => by simp at e; exact ⟨rfl, e⟩
  | [], b :: u', v, v', nd, e => by
    simp at e
    obtain ⟨rfl, e⟩ := e
    exfalso
    have := (List.nodup_cons.mp nd).1
    exact this (by rw [e]; simp)
  | a :: u, [], v, v', nd, e => by
    simp at e
    obtain ⟨rfl, e⟩ := e
    exact ((List.nodup_cons.mp nd).1 (by simp)).elim
  | a :: u, b :: u', v, v', nd, e => by
    simp only [List.cons_append, List.cons.injEq] at e
    obtain ⟨rfl, e⟩ := e
    obtain ⟨h1, h2⟩ := split_uniq (List.nodup_cons.mp nd).2 e
    exact ⟨by rw [h1], h2⟩
/-- which ends are coupled -/
theorem Sys.coupled (h : Sys n L R G) {e : Int} (he : e ∈ flat L) : (∃ r ∈ R, ∃ u x y v, r = u ++ x :: y :: v ∧ (e = x ∨ e = -y)) ∨ (∃ g ∈ G, ∃ x ∈ g, ab e = ab x) := by
  obtain ⟨p, hp, h2⟩ := mem_flat.mp ((flat_perm h.cp).mem_iff.mpr he)
  rcases List.mem_append.mp hp with hp | hp
  · obtain ⟨r, hr, hm⟩ := List.mem_flatMap.mp hp
    obtain ⟨u, x, y, v, e1, rfl⟩ := mem_steps.mp hm
    exact .inl ⟨r, hr, u, x, y, v, e1, mem_prI.mp h2⟩
  · obtain ⟨g, hg, hm⟩ := List.mem_flatMap.mp hp
    obtain ⟨a, t, u, x, y, v, rfl, e1, rfl⟩ := mem_ringC.mp hm
    have all : ∀ z ∈ u ++ x :: y :: v, z ∈ a :: t := fun z hz => by
      rw [← e1] at hz
      rcases List.mem_cons.mp hz with rfl | hz
      · simp
      · rcases List.mem_append.mp hz with hz | hz
        · exact List.mem_cons_of_mem _ hz
        · rw [List.mem_singleton.mp hz]; simp
    refine .inr ⟨a :: t, hg, ?_⟩
    rcases mem_prI.mp h2 with rfl | rfl
    · exact ⟨e, all e (by simp), rfl⟩
    · exact ⟨y, all y (by simp), ab_neg y⟩
theorem Sys.open1 (h : Sys n L R G) (hL : Lay n L) {r u : List Int} {x : Int} (hr : r ∈ R) (e : r = u ++ [x]) : ptb L x = 0 := by
  have hx : x ∈ r := by rw [e]; simp
  have hx1 := h.rangeR hr hx
  have x0 : x ≠ 0 := fun z => by rw [z] at hx1; unfold ab at hx1; simp at hx1
  refine (ptb_zero hL x).mpr ⟨x0, fun hf => ?_⟩
  rcases h.coupled hf with ⟨r', hr', u', a, b, v, e', q⟩ | ⟨g, hg, y, hy, q⟩
  · have ha : a ∈ r' := by rw [e']; simp
    have hb : b ∈ r' := by rw [e']; simp
    rcases q with rfl | q
    · obtain ⟨rfl, _⟩ := h.uR hr hr' hx ha rfl
      have nd := nd_ab (h.ndR hr)
      rw [e] at nd
      have := (split_uniq nd (e.symm.trans e')).2
      cases this
    · obtain ⟨rfl, e2⟩ := h.uR hr hr' hx hb (by rw [q, ab_neg])
      omega
  · exact h.apart hr hg hx hy q
theorem Sys.open2 (h : Sys n L R G) (hL : Lay n L) {r v : List Int} {x : Int} (hr : r ∈ R) (e : r = x :: v) : ptb L (-x) = 0 := by
  have hx : x ∈ r := by rw [e]; simp
  have hx1 := h.rangeR hr hx
  have x0 : x ≠ 0 := fun z => by rw [z] at hx1; unfold ab at hx1; simp at hx1
  refine (ptb_zero hL (-x)).mpr ⟨by omega, fun hf => ?_⟩
  rcases h.coupled hf with ⟨r', hr', u', a, b, v', e', q⟩ | ⟨g, hg, y, hy, q⟩
  · have ha : a ∈ r' := by rw [e']; simp
    have hb : b ∈ r' := by rw [e']; simp
    rcases q with q | q
    · obtain ⟨rfl, e2⟩ := h.uR hr hr' hx ha (by rw [← q, ab_neg])
      omega
    · have q' : x = b := by omega
      subst q'
      obtain ⟨rfl, _⟩ := h.uR hr hr' hx hb rfl
      have nd := nd_ab (h.ndR hr)
      have e3 : r = (u' ++ [a]) ++ x :: v' := by rw [e']; simp
      rw [e] at nd
      have := (split_uniq (u := []) nd (show [] ++ x :: v = (u' ++ [a]) ++ x :: v' by rw [← e3, e]; rfl)).1
      simp at this
  · exact h.apart hr hg hx hy (by rw [← q, ab_neg])
end
end Vf
namespace Vf
open PySem PySem.Spec PyProof.Rows L2
/-! ### readings turned about and begun elsewhere -/
def revn (r : List Int) : List Int := r.reverse.map fun x => 0 - x
theorem prI_comm (a b : Int) : prI a b = prI b a := by unfold prI; rw [Int.min_comm, Int.max_comm]
theorem steps_app : ∀ (u : List Int) (x : Int) (v : List Int), steps (u ++ x :: v) = steps (u ++ [x]) ++ steps (x :: v)
  | [], x, v => by show steps (x :: v) = steps [x] ++ _; rfl
  | [a], x, v => by
    show prI a (-x) :: steps (x :: v) = _
    rfl
  | a :: b :: u, x, v => by
    show prI a (-b) :: steps (b :: (u ++ x :: v)) = prI a (-b) :: steps (b :: (u ++ [x])) ++ _
    have := steps_app (b :: u) x v
    rw [List.cons_append, List.cons_append] at this
    rw [this]
    rfl
theorem revn_cons (x : Int) (r : List Int) : revn (x :: r) = revn r ++ [-x] := by unfold revn; rw [List.reverse_cons, List.map_append]; simp
theorem revn_snoc (r : List Int) (x : Int) : revn (r ++ [x]) = -x :: revn r := by unfold revn; simp
theorem revn_ab (r : List Int) : ((revn r).map ab).Perm (r.map ab) := by
  unfold revn
  rw [List.map_map]
  have e : (ab ∘ fun x => 0 - x) = ab := by funext x; show ab (0 - x) = ab x; rw [Int.zero_sub, ab_neg]
  rw [e]
  exact (List.reverse_perm r).map ab
theorem revn_steps : ∀ r : List Int, steps (revn r) = (steps r).reverse
  | [] => rfl
  | [x] => rfl
  | x :: y :: t => by
    rw [steps_cons2, List.reverse_cons, ← revn_steps (y :: t), revn_cons x, revn_cons y, List.append_assoc]
    show steps (revn t ++ -y :: [-x]) = _
    rw [steps_app]
    congr 1
    show [prI (-y) (- -x)] = _
    rw [Int.neg_neg, prI_comm]
theorem ring_rot (u v : List Int) : (ringC (u ++ v)).Perm (ringC (v ++ u)) := by
  cases u with
  | nil => rw [List.nil_append, List.append_nil]
  | cons a u =>
    cases v with
    | nil => rw [List.nil_append, List.append_nil]
    | cons b v =>
      show (steps (a :: ((u ++ b :: v) ++ [a]))).Perm (steps (b :: ((v ++ a :: u) ++ [b])))
      have e1 : a :: ((u ++ b :: v) ++ [a]) = (a :: u) ++ b :: (v ++ [a]) := by simp
      have e2 : b :: ((v ++ a :: u) ++ [b]) = (b :: v) ++ a :: (u ++ [b]) := by simp
      rw [e1, e2, steps_app, steps_app (b :: v)]
      exact List.perm_append_comm
theorem ring_rev (g : List Int) : (ringC (revn g)).Perm (ringC g) := by
  cases g with
  | nil => exact List.Perm.refl _
  | cons a t =>
    rw [revn_cons]
    refine (ring_rot (revn t) [-a]).trans ?_
    show (steps (-a :: (revn t ++ [-a]))).Perm (steps (a :: (t ++ [a])))
    have e : -a :: (revn t ++ [-a]) = revn (a :: (t ++ [a])) := by rw [revn_cons, revn_snoc]; rfl
    rw [e, revn_steps]
    exact List.reverse_perm _
/-! the least piece -/
def mnA : List Int → Int
  | [] => 0
  | [x] => ab x
  | x :: y :: t => min (ab x) (mnA (y :: t))
def IsMn (r : List Int) (m : Int) : Prop := (∃ x ∈ r, m = ab x) ∧ ∀ y ∈ r, m ≤ ab y
theorem mnA_is : ∀ {r : List Int}, r ≠ [] → IsMn r (mnA r)
  | [], h => absurd rfl h
  | [x], _ => ⟨⟨x, by simp, rfl⟩, fun y hy => by rw [List.mem_singleton.mp hy]; exact Int.le_refl _⟩
  | x :: y :: t, _ => by
    obtain ⟨⟨z, hz, e⟩, h2⟩ := mnA_is (r := y :: t) (by simp)
    show IsMn (x :: y :: t) (min (ab x) (mnA (y :: t)))
    refine ⟨?_, fun w hw => ?_⟩
    · by_cases c : ab x ≤ mnA (y :: t)
      · exact ⟨x, by simp, Int.min_eq_left c⟩
      · exact ⟨z, List.mem_cons_of_mem _ hz, by rw [← e]; exact Int.min_eq_right (by omega)⟩
    · rcases List.mem_cons.mp hw with rfl | hw
      · exact Int.min_le_left _ _
      · exact Int.le_trans (Int.min_le_right _ _) (h2 w hw)
theorem isMn_uniq {r : List Int} {m m' : Int} (h : IsMn r m) (h' : IsMn r m') : m = m' := by
  obtain ⟨⟨x, hx, e⟩, h2⟩ := h
  obtain ⟨⟨y, hy, e'⟩, h2'⟩ := h'
  have a := h2 y hy
  have b := h2' x hx
  omega
theorem isMn_perm {r r' : List Int} {m : Int} (p : (r.map ab).Perm (r'.map ab)) (h : IsMn r m) : IsMn r' m := by
  obtain ⟨⟨x, hx, e⟩, h2⟩ := h
  refine ⟨?_, fun y hy => ?_⟩
  · obtain ⟨z, hz, e2⟩ := List.mem_map.mp (p.mem_iff.mp (List.mem_map.mpr ⟨x, hx, rfl⟩))
    exact ⟨z, hz, by rw [e, e2]⟩
  · obtain ⟨z, hz, e2⟩ := List.mem_map.mp (p.mem_iff.mpr (List.mem_map.mpr ⟨y, hy, rfl⟩))
    rw [← e2]
    exact h2 z hz
theorem mnA_of {r : List Int} {m : Int} (h : IsMn r m) : mnA r = m := by
  refine isMn_uniq (mnA_is ?_) h
  rintro rfl
  obtain ⟨⟨x, hx, _⟩, _⟩ := h
  cases hx
theorem mnA_perm {r r' : List Int} (ne : r ≠ []) (p : (r.map ab).Perm (r'.map ab)) : mnA r' = mnA r := mnA_of (isMn_perm p (mnA_is ne))
def nrow (r : List Int) : List Int := if mnA r ∈ r then r else revn r
theorem nrow_ab (r : List Int) : ((nrow r).map ab).Perm (r.map ab) := by
  unfold nrow
  split
  · exact List.Perm.refl _
  · exact revn_ab r
theorem nrow_steps (r : List Int) : (steps (nrow r)).Perm (steps r) := by
  unfold nrow
  split
  · exact List.Perm.refl _
  · rw [revn_steps]; exact List.reverse_perm _
theorem nrow_ring (r : List Int) : (ringC (nrow r)).Perm (ringC r) := by
  unfold nrow
  split
  · exact List.Perm.refl _
  · exact ring_rev r
theorem nrow_mn {r : List Int} (ne : r ≠ []) : mnA (nrow r) = mnA r := mnA_perm ne (nrow_ab r).symm
theorem nrow_mem {r : List Int} (ne : r ≠ []) : mnA r ∈ nrow r := by
  unfold nrow
  by_cases c : mnA r ∈ r
  · rw [if_pos c]; exact c
  · rw [if_neg c]
    obtain ⟨⟨x, hx, e⟩, _⟩ := mnA_is ne
    unfold revn
    refine List.mem_map.mpr ⟨x, List.mem_reverse.mpr hx, ?_⟩
    by_cases c2 : 0 ≤ x
    · exact absurd (by rw [e]; unfold ab; rw [show ((x.natAbs : Nat) : Int) = x by omega]; exact hx) c
    · rw [e]; unfold ab; omega
def rot (m : Int) (r : List Int) : List Int := r.dropWhile (fun x => decide (x ≠ m)) ++ r.takeWhile (fun x => decide (x ≠ m))
theorem rot_of {m : Int} : ∀ {u v : List Int}, m ∉ u → rot m (u ++ m :: v) = m :: (v ++ u) ∧ True := by
  intro u v h
  have h1 : (u ++ m :: v).dropWhile (fun x => decide (x ≠ m)) = m :: v ∧ (u ++ m :: v).takeWhile (fun x => decide (x ≠ m)) = u := by
    induction u with
    | nil => exact ⟨by rw [List.nil_append, List.dropWhile_cons_of_neg (by simp)], by rw [List.nil_append, List.takeWhile_cons_of_neg (by simp)]⟩
    | cons a u ih =>
      have ha : a ≠ m := fun z => h (by rw [z]; simp)
      obtain ⟨i1, i2⟩ := ih fun z => h (List.mem_cons_of_mem _ z)
      refine ⟨?_, ?_⟩
      · rw [List.cons_append, List.dropWhile_cons_of_pos (by simpa using ha), i1]
      · rw [List.cons_append, List.takeWhile_cons_of_pos (by simpa using ha), i2]
  unfold rot
  rw [h1.1, h1.2]
  exact ⟨rfl, trivial⟩
theorem mem_first {m : Int} : ∀ {r : List Int}, m ∈ r → ∃ u v, r = u ++ m :: v ∧ m ∉ u
  | [], h => by cases h
  | a :: r, h => by
    by_cases c : a = m
    · exact ⟨[], r, by rw [c]; rfl, by simp⟩
    · obtain ⟨u, v, e, n⟩ := mem_first (r := r) (by rcases List.mem_cons.mp h with z | z; exact absurd z.symm c; exact z)
      refine ⟨a :: u, v, by rw [e]; rfl, fun z => ?_⟩
      rcases List.mem_cons.mp z with z | z
      · exact c z.symm
      · exact n z
def nring (g : List Int) : List Int := rot (mnA g) (nrow g)
theorem nring_of {g : List Int} (ne : g ≠ []) : ∃ u v, nrow g = u ++ mnA g :: v ∧ mnA g ∉ u ∧ nring g = mnA g :: (v ++ u) := by
  obtain ⟨u, v, e, h⟩ := mem_first (nrow_mem ne)
  refine ⟨u, v, e, h, ?_⟩
  unfold nring
  rw [e]
  exact (rot_of h).1
theorem nring_ab {g : List Int} (ne : g ≠ []) : ((nring g).map ab).Perm (g.map ab) := by
  obtain ⟨u, v, e, _, e2⟩ := nring_of ne
  have h := nrow_ab g
  rw [e] at h
  rw [e2]
  refine List.Perm.trans ?_ h
  rw [← List.cons_append, List.map_append, List.map_append]
  exact List.perm_append_comm
theorem nring_ring {g : List Int} (ne : g ≠ []) : (ringC (nring g)).Perm (ringC g) := by
  obtain ⟨u, v, e, _, e2⟩ := nring_of ne
  have h := nrow_ring g
  rw [e] at h
  rw [e2]
  exact (ring_rot (mnA g :: v) u).trans h
theorem nring_head {g : List Int} (ne : g ≠ []) : ∃ t, nring g = mnA (nring g) :: t := by
  obtain ⟨u, v, _, _, e2⟩ := nring_of ne
  exact ⟨v ++ u, by rw [mnA_perm ne (nring_ab ne).symm]; exact e2⟩
/-! ### systems changed -/
theorem flatMap_perm {α β : Type} {f g : α → List β} : ∀ {l : List α}, (∀ a ∈ l, (f a).Perm (g a)) → (l.flatMap f).Perm (l.flatMap g)
  | [], _ => List.Perm.refl _
  | a :: l, h => by
    rw [List.flatMap_cons, List.flatMap_cons]
    exact (h a List.mem_cons_self).append (flatMap_perm fun b hb => h b (List.mem_cons_of_mem _ hb))
theorem flatten_ab {R : List (List Int)} : R.flatten.map ab = R.flatMap fun r => r.map ab := by
  rw [List.map_flatten, List.flatMap_def]
section
variable {n : Int} {L : List (Int × Int)} {R G R' G' : List (List Int)}
theorem Sys.perm (h : Sys n L R G) (pR : R'.Perm R) (pG : G'.Perm G) : Sys n L R' G' := by
  refine ⟨fun r hr => h.neR r (pR.mem_iff.mp hr), fun r hr => h.neG r (pG.mem_iff.mp hr), ?_, ?_⟩
  · rw [flatten_ab, flatten_ab]
    refine ((pR.flatMap_right _).append (pG.flatMap_right _)).trans ?_
    have := h.pcs
    rw [flatten_ab, flatten_ab] at this
    exact this
  · exact ((pR.flatMap_right _).append (pG.flatMap_right _)).trans h.cp
theorem Sys.map (h : Sys n L R G) (f g : List Int → List Int) (f1 : ∀ r ∈ R, ((f r).map ab).Perm (r.map ab)) (f2 : ∀ r ∈ R, (steps (f r)).Perm (steps r))
    (g1 : ∀ r ∈ G, ((g r).map ab).Perm (r.map ab)) (g2 : ∀ r ∈ G, (ringC (g r)).Perm (ringC r)) : Sys n L (R.map f) (G.map g) := by
  have ne : ∀ {r s : List Int}, (s.map ab).Perm (r.map ab) → r ≠ [] → s ≠ [] := fun {r s} p h e => by
    rw [e] at p
    exact h (List.eq_nil_of_length_eq_zero (by simpa using p.length_eq.symm))
  refine ⟨fun r hr => ?_, fun r hr => ?_, ?_, ?_⟩
  · obtain ⟨q, hq, rfl⟩ := List.mem_map.mp hr
    exact ne (f1 q hq) (h.neR q hq)
  · obtain ⟨q, hq, rfl⟩ := List.mem_map.mp hr
    exact ne (g1 q hq) (h.neG q hq)
  · rw [flatten_ab, flatten_ab, List.flatMap_map, List.flatMap_map]
    refine ((flatMap_perm f1).append (flatMap_perm g1)).trans ?_
    have := h.pcs
    rw [flatten_ab, flatten_ab] at this
    exact this
  · unfold cps
    rw [List.flatMap_map, List.flatMap_map]
    exact ((flatMap_perm f2).append (flatMap_perm g2)).trans h.cp
structure NSys (n : Int) (L : List (Int × Int)) (R G : List (List Int)) : Prop extends Sys n L R G where
  nR : ∀ r ∈ R, mnA r ∈ r
  nG : ∀ g ∈ G, ∃ t, g = mnA g :: t
theorem Sys.normal (h : Sys n L R G) : NSys n L (R.map nrow) (G.map nring) := by
  refine ⟨h.map nrow nring (fun r _ => nrow_ab r) (fun r _ => nrow_steps r) (fun r hr => nring_ab (h.neG r hr)) (fun r hr => nring_ring (h.neG r hr)), fun r hr => ?_, fun r hr => ?_⟩
  · obtain ⟨q, hq, rfl⟩ := List.mem_map.mp hr
    have := h.neR q hq
    rw [nrow_mn this]
    exact nrow_mem this
  · obtain ⟨q, hq, rfl⟩ := List.mem_map.mp hr
    exact nring_head (h.neG q hq)
theorem NSys.perm (h : NSys n L R G) (pR : R'.Perm R) (pG : G'.Perm G) : NSys n L R' G' := ⟨h.toSys.perm pR pG, fun r hr => h.nR r (pR.mem_iff.mp hr), fun g hg => h.nG g (pG.mem_iff.mp hg)⟩
/-! ### each layout has readings -/
theorem Sys.ringIn (h : Sys n L R G) {g : List Int} {x : Int} (hg : g ∈ G) (hx : x ∈ g) : x ∈ flat L ∧ -x ∈ flat L := by
  have up : ∀ {e : Int}, e ∈ flat (ringC g) → e ∈ flat L := fun {e} he => by
    obtain ⟨p, hp, q⟩ := mem_flat.mp he
    exact (flat_perm h.cp).mem_iff.mp (mem_flat.mpr ⟨p, List.mem_append_right _ (List.mem_flatMap.mpr ⟨g, hg, hp⟩), q⟩)
  obtain ⟨u, v, e⟩ := List.append_of_mem hx
  have pr := ring_rot u (x :: v)
  rw [← e] at pr
  have in1 : ∀ {e : Int}, e ∈ flat (ringC (x :: (v ++ u))) → e ∈ flat L := fun {e} he => up ((flat_perm pr).mem_iff.mpr he)
  have st : ∃ y, prI x (-y) ∈ ringC (x :: (v ++ u)) := by
    cases hw : v ++ u with
    | nil => exact ⟨x, by show prI x (-x) ∈ steps (x :: ([] ++ [x])); exact List.mem_cons_self⟩
    | cons y w => exact ⟨y, by show prI x (-y) ∈ steps (x :: (y :: w ++ [x])); exact List.mem_cons_self⟩
  have en : ∃ y, prI y (-x) ∈ ringC (x :: (v ++ u)) := by
    rcases List.eq_nil_or_concat (v ++ u) with z | ⟨w, y, z⟩
    · rw [z]; exact ⟨x, by show prI x (-x) ∈ steps (x :: ([] ++ [x])); exact List.mem_cons_self⟩
    · rw [z]
      refine ⟨y, ?_⟩
      show _ ∈ steps _
      exact mem_steps.mpr ⟨x :: w, y, x, [], by simp, rfl⟩
  obtain ⟨y, hy⟩ := st
  obtain ⟨z, hz⟩ := en
  exact ⟨in1 (mem_flat.mpr ⟨_, hy, mem_prI.mpr (.inl rfl)⟩), in1 (mem_flat.mpr ⟨_, hz, mem_prI.mpr (.inr rfl)⟩)⟩
theorem Sys.stepIn (h : Sys n L R G) {r u v : List Int} {x y : Int} (hr : r ∈ R) (e : r = u ++ x :: y :: v) : x ∈ flat L ∧ -y ∈ flat L := by
  have := h.cp.mem_iff.mp (List.mem_append_left _ (List.mem_flatMap.mpr ⟨r, hr, mem_steps.mpr ⟨u, x, y, v, e, rfl⟩⟩))
  exact ⟨mem_flat.mpr ⟨_, this, mem_prI.mpr (.inl rfl)⟩, mem_flat.mpr ⟨_, this, mem_prI.mpr (.inr rfl)⟩⟩
/-- an open end is at the end of a row -/
theorem Sys.endRow (h : Sys n L R G) {e : Int} (he : e ∈ endsL n) (ho : e ∉ flat L) : ∃ r ∈ R, (∃ u, r = u ++ [e]) ∨ ∃ v, r = -e :: v := by
  have h1 := mem_endsL.mp he
  have hm : ab e ∈ rng 1 n.toNat := mem_rng.mpr (by unfold ab; omega)
  rcases List.mem_append.mp (h.pcs.mem_iff.mpr hm) with hm | hm
  · obtain ⟨x, hx, e1⟩ := List.mem_map.mp hm
    obtain ⟨r, hr, hx⟩ := List.mem_flatten.mp hx
    obtain ⟨u, v, e2⟩ := List.append_of_mem hx
    refine ⟨r, hr, ?_⟩
    rcases ab_eq e1 with rfl | rfl
    · cases v with
      | nil => exact .inl ⟨u, e2⟩
      | cons y v => exact absurd (h.stepIn hr e2).1 ho
    · rcases List.eq_nil_or_concat u with rfl | ⟨w, y, rfl⟩
      · exact .inr ⟨v, e2⟩
      · have := (h.stepIn (u := w) (x := y) (y := -e) (v := v) hr (by rw [e2]; simp)).2
        rw [Int.neg_neg] at this
        exact absurd this ho
  · obtain ⟨x, hx, e1⟩ := List.mem_map.mp hm
    obtain ⟨g, hg, hx⟩ := List.mem_flatten.mp hx
    have := h.ringIn hg hx
    rcases ab_eq e1 with rfl | rfl
    · exact absurd this.1 ho
    · rw [Int.neg_neg] at this; exact absurd this.2 ho
theorem Sys.turn (h : Sys n L (R' ++ R) G) {f : List Int} {r : List Int} (e : R' = [r]) (f1 : (f.map ab).Perm (r.map ab)) (f2 : (steps f).Perm (steps r)) : Sys n L (f :: R) G := by
  subst e
  have ne : f ≠ [] := fun z => by
    rw [z] at f1
    exact h.neR r (by simp) (List.eq_nil_of_length_eq_zero (by simpa using f1.length_eq.symm))
  refine ⟨fun q hq => ?_, h.neG, ?_, ?_⟩
  · rcases List.mem_cons.mp hq with rfl | hq
    · exact ne
    · exact h.neR q (by simp [hq])
  · have := h.pcs
    rw [List.singleton_append, List.flatten_cons, List.map_append] at this
    rw [List.flatten_cons, List.map_append]
    exact ((f1.append_right _).append_right _).trans this
  · have := h.cp
    unfold cps at this ⊢
    rw [List.singleton_append, List.flatMap_cons] at this
    rw [List.flatMap_cons]
    exact ((f2.append_right _).append_right _).trans this
theorem sys_exists : ∀ {L : List (Int × Int)}, Lay n L → ∃ R G, Sys n L R G
  | [], hL => by
    have n1 := hL.n1
    refine ⟨(rng 1 n.toNat).map fun k => [k], [], ⟨fun r hr => ?_, fun r hr => (by cases hr), ?_, ?_⟩⟩
    · obtain ⟨k, _, rfl⟩ := List.mem_map.mp hr
      simp
    · have e : ∀ l : List Int, (∀ k ∈ l, 0 ≤ k) → ((l.map fun k => [k]).flatten.map ab) = l := fun l => by
        induction l with
        | nil => intro _; rfl
        | cons a l ih =>
          intro h
          rw [List.map_cons, List.flatten_cons, List.map_append, ih fun k hk => h k (List.mem_cons_of_mem _ hk)]
          have := h a List.mem_cons_self
          show [ab a] ++ l = a :: l
          rw [show ab a = a by unfold ab; omega]
          rfl
      rw [e _ fun k hk => by have := mem_rng.mp hk; omega]
      simp
    · have e : ∀ l : List Int, (l.map fun k => [k]).flatMap steps = [] := fun l => by
        induction l with
        | nil => rfl
        | cons a l ih => rw [List.map_cons, List.flatMap_cons, ih]; rfl
      unfold cps
      rw [e]
      exact List.Perm.refl _
  | p :: M, hL => by
    obtain ⟨a, b⟩ := p
    have hM : Lay n M := Lay.tail (d := [(a, b)]) hL
    obtain ⟨R, G, h⟩ := sys_exists hM
    have hc := hL.cp (a, b) (by simp)
    simp only at hc
    have nd := hL.nd
    rw [flat_cons] at nd
    obtain ⟨q1, q2⟩ := List.nodup_cons.mp nd
    obtain ⟨q3, q4⟩ := List.nodup_cons.mp q2
    simp only at q1 q3
    have ha : a ∉ flat M := fun z => q1 (List.mem_cons_of_mem _ z)
    have pab : prI a b = (a, b) := by
      rcases prI_two (a := a) (b := b) (by omega) with ⟨e, _⟩ | ⟨_, z⟩
      · exact e
      · omega
    obtain ⟨r, hr, er⟩ := h.endRow (e := a) (mem_endsL.mpr (by omega)) ha
    obtain ⟨R0, pR⟩ : ∃ R0, R.Perm (r :: R0) := ⟨R.erase r, List.perm_cons_erase hr⟩
    have h1 : Sys n M ([r] ++ R0) G := h.perm pR.symm (List.Perm.refl _)
    -- a row that ends with a
    obtain ⟨u1, h2⟩ : ∃ u1, Sys n M ((u1 ++ [a]) :: R0) G := by
      rcases er with ⟨u, rfl⟩ | ⟨v, rfl⟩
      · exact ⟨u, h1⟩
      · refine ⟨revn v, ?_⟩
        have e : revn (-a :: v) = revn v ++ [a] := by rw [revn_cons, Int.neg_neg]
        rw [← e]
        exact h1.turn rfl (revn_ab _) (by rw [revn_steps]; exact List.reverse_perm _)
    obtain ⟨r2, hr2, er2⟩ := h2.endRow (e := b) (mem_endsL.mpr (by omega)) q3
    rcases List.mem_cons.mp hr2 with rfl | hr2
    · -- a ring
      have ev : ∃ v, u1 ++ [a] = -b :: v := by
        rcases er2 with ⟨u, e⟩ | z
        · have := congrArg List.getLast? e
          simp at this
          omega
        · exact z
      obtain ⟨v, ev⟩ := ev
      refine ⟨R0, (u1 ++ [a]) :: G, fun q hq => h2.neR q (List.mem_cons_of_mem _ hq), fun q hq => ?_, ?_, ?_⟩
      · rcases List.mem_cons.mp hq with rfl | hq
        · simp
        · exact h2.neG q hq
      · have := h2.pcs
        rw [List.flatten_cons, List.map_append] at this ⊢
        refine List.Perm.trans ?_ this
        rw [← List.append_assoc]
        exact List.perm_append_comm.append_right _
      · have := h2.cp
        unfold cps at this ⊢
        rw [List.flatMap_cons] at this ⊢
        have er3 : ringC (u1 ++ [a]) = steps (u1 ++ [a]) ++ [(a, b)] := by
          rw [ev]
          show steps (-b :: (v ++ [-b])) = _
          rw [← List.cons_append, ← ev, List.append_assoc]
          show steps (u1 ++ a :: [-b]) = _
          rw [steps_app]
          show _ ++ [prI a (- -b)] = _
          rw [Int.neg_neg, pab]
        rw [er3]
        have p1 : (R0.flatMap steps ++ (steps (u1 ++ [a]) ++ [(a, b)] ++ G.flatMap ringC)).Perm ((a, b) :: (steps (u1 ++ [a]) ++ R0.flatMap steps ++ G.flatMap ringC)) := by
          rw [List.append_assoc (steps _)]
          refine (List.perm_append_comm_assoc _ _ _).trans ?_
          rw [List.append_assoc]
          refine (List.Perm.append_left _ (List.perm_append_comm_assoc _ _ _)).trans ?_
          exact List.perm_middle
        exact p1.trans (List.Perm.cons _ this)
    · -- two rows
      obtain ⟨R1, pR1⟩ : ∃ R1, R0.Perm (r2 :: R1) := ⟨R0.erase r2, List.perm_cons_erase hr2⟩
      have h3 : Sys n M ([r2] ++ ((u1 ++ [a]) :: R1)) G := h2.perm ((List.Perm.swap _ _ _).trans (List.Perm.cons _ pR1.symm)) (List.Perm.refl _)
      obtain ⟨v2, h4⟩ : ∃ v2, Sys n M ((-b :: v2) :: (u1 ++ [a]) :: R1) G := by
        rcases er2 with ⟨u, rfl⟩ | ⟨v, rfl⟩
        · refine ⟨revn u, ?_⟩
          rw [← revn_snoc]
          exact h3.turn rfl (revn_ab _) (by rw [revn_steps]; exact List.reverse_perm _)
        · exact ⟨v, h3⟩
      refine ⟨(u1 ++ [a] ++ (-b :: v2)) :: R1, G, fun q hq => ?_, h4.neG, ?_, ?_⟩
      · rcases List.mem_cons.mp hq with rfl | hq
        · simp
        · exact h4.neR q (by simp [hq])
      · have := h4.pcs
        rw [List.flatten_cons, List.flatten_cons, List.map_append, List.map_append] at this
        rw [List.flatten_cons, List.map_append, List.map_append]
        refine List.Perm.trans (List.Perm.append_right _ ?_) this
        rw [List.append_assoc]
        exact List.perm_append_comm_assoc _ _ _
      · have := h4.cp
        unfold cps at this ⊢
        rw [List.flatMap_cons, List.flatMap_cons] at this
        rw [List.flatMap_cons]
        have e : steps (u1 ++ [a] ++ (-b :: v2)) = steps (u1 ++ [a]) ++ ((a, b) :: steps (-b :: v2)) := by
          rw [List.append_assoc]
          show steps (u1 ++ a :: (-b :: v2)) = _
          rw [steps_app]
          show _ ++ prI a (- -b) :: _ = _
          rw [Int.neg_neg, pab]
        rw [e]
        refine List.Perm.trans ?_ (List.Perm.cons _ this)
        refine (List.Perm.append_right _ (List.Perm.append_right _ List.perm_middle)).trans ?_
        show ((a, b) :: ((steps (u1 ++ [a]) ++ steps (-b :: v2)) ++ R1.flatMap steps ++ G.flatMap ringC)).Perm _
        refine List.Perm.cons _ (List.Perm.append_right _ ?_)
        rw [List.append_assoc]
        exact List.perm_append_comm_assoc _ _ _
end
end Vf
namespace Vf
open PySem PySem.Spec PyProof.Rows L2
/-! ### a list of marks -/
def marks (n : Int) (s : Nat → Bool) : List V := (List.range (n.toNat + 1)).map fun q => V.bl (s q)
theorem marks_len (n : Int) (s : Nat → Bool) : (marks n s).length = n.toNat + 1 := by unfold marks; rw [List.length_map, List.length_range]
theorem marks_at {n : Int} {s : Nat → Bool} {i : Int} (h0 : 0 ≤ i) (h1 : i ≤ n) : atI (marks n s) i = some (.bl (s i.toNat)) := by
  refine at_of (j := i.toNat) (by omega) ?_
  unfold marks
  rw [List.getElem?_map, List.getElem?_range (by omega)]
  rfl
theorem marks_ix {n : Int} {s : Nat → Bool} {i : Int} (h0 : 0 ≤ i) (h1 : i ≤ n) : ixN (marks n s).length i = some i.toNat := by
  rw [marks_len, ixN_of (by omega) (by omega), if_pos h0]
theorem marks_set {n : Int} {s : Nat → Bool} {i : Nat} : (marks n s).set i (.bl true) = marks n fun q => if q = i then true else s q := by
  unfold marks
  refine List.ext_getElem? fun j => ?_
  rw [List.getElem?_set, List.getElem?_map, List.getElem?_map, List.length_map, List.length_range]
  by_cases c : i = j
  · subst c
    rw [if_pos rfl]
    by_cases c2 : i < n.toNat + 1
    · rw [if_pos c2, List.getElem?_range c2]
      show _ = some (V.bl (if i = i then true else s i))
      rw [if_pos rfl]
    · rw [if_neg c2, List.getElem?_eq_none (by simpa using c2)]; rfl
  · rw [if_neg c]
    by_cases c2 : j < n.toNat + 1
    · rw [List.getElem?_range c2]
      show some (V.bl (s j)) = some (V.bl (if j = i then true else s j))
      rw [if_neg (fun z => c z.symm)]
    · rw [List.getElem?_eq_none (by simpa using c2)]; rfl
theorem marks_new {n : Int} (h : 0 ≤ n) : (List.replicate (n + 1).toNat [V.bl false]).flatten = marks n fun _ => false := by
  unfold marks
  rw [show (n + 1).toNat = n.toNat + 1 by omega]
  generalize n.toNat + 1 = k
  induction k with
  | zero => rfl
  | succ k ih =>
    rw [List.range_succ, List.map_append, ← ih]
    show _ = _ ++ [V.bl false]
    rw [List.replicate_succ', List.flatten_append]
    rfl
/-! ### all but some -/
theorem hid_ils {H : Hp} {t : List Addr} {xs : List V} {R : List (List Int)} (h : ILs H xs R) (n : ∀ c, V.ref c ∈ xs → c ∉ t) : ILs (Hid t H) xs R := by
  induction h with
  | nil => exact .nil
  | @cons x r xs R f _ ih =>
    obtain ⟨c, rfl, e⟩ := f
    exact .cons ⟨c, rfl, hid_get e (n c (by simp))⟩ (ih fun c hc => n c (List.mem_cons_of_mem _ hc))
theorem hid_un {H : Hp} {t : List Addr} {b : Addr} {o : HO} (h : Hid t H b = some o) : b ∉ t := fun z => by
  unfold Hid at h
  rw [if_pos z] at h
  cases h
theorem hid_set {H H' : Hp} {t : List Addr} {a : Addr} {o : HO} (s : Same (Hid t H) H') (h : a ∈ t) : Same (Hid t H) (upd H' a o) := fun b u e => by
  have := s b u e
  rw [upd_ne (fun z : b = a => hid_un e (z ▸ h))]
  exact this
/-- a new list of new lists of ints -/
structure NewR (H H' : Hp) (a : Addr) (xs : List V) (R : List (List Int)) : Prop where
  new : H a = none
  at' : H' a = some (.lst xs)
  ils : ILs H' xs R
  fresh : ∀ c, V.ref c ∈ xs → H c = none
/-! ### what is read so far -/
structure Stt (n : Int) (R G : List (List Int)) (k : Int) (Ra Ga : List (List Int)) (s : Nat → Bool) : Prop where
  ndR : Ra.Nodup
  inR : ∀ r, r ∈ Ra ↔ r ∈ R ∧ mnA r ≤ k
  asG : Ga.Pairwise fun g g' => mnA g < mnA g'
  inG : ∀ g, g ∈ Ga ↔ g ∈ G ∧ mnA g ≤ k
  mark : ∀ q : Nat, k < q → (q : Int) ≤ n → (s q = true ↔ ∃ r, (r ∈ R ∨ r ∈ G) ∧ mnA r ≤ k ∧ ∃ x ∈ r, ab x = q)
section
variable {n : Int} {L : List (Int × Int)} {R G Ra Ga : List (List Int)} {k : Int} {s s' : Nat → Bool}
theorem mn_le {r : List Int} {x : Int} (h : x ∈ r) : mnA r ≤ ab x := (mnA_is (fun e => by rw [e] at h; cases h)).2 x h
theorem Sys.mnPos (h : Sys n L R G) {r : List Int} (hr : r ∈ R ∨ r ∈ G) : 1 ≤ mnA r ∧ mnA r ≤ n := by
  rcases hr with hr | hr
  · obtain ⟨⟨x, hx, e⟩, _⟩ := mnA_is (h.neR r hr)
    rw [e]; exact h.rangeR hr hx
  · obtain ⟨⟨x, hx, e⟩, _⟩ := mnA_is (h.neG r hr)
    rw [e]; exact h.rangeG hr hx
/-- one piece stands in one reading -/
theorem Sys.same (h : Sys n L R G) {r r' : List Int} {x y : Int} (hr : r ∈ R ∨ r ∈ G) (hr' : r' ∈ R ∨ r' ∈ G) (hx : x ∈ r) (hy : y ∈ r') (e : ab x = ab y) : r = r' ∧ x = y := by
  rcases hr with hr | hr <;> rcases hr' with hr' | hr'
  · exact h.uR hr hr' hx hy e
  · exact absurd e (h.apart hr hr' hx hy)
  · exact absurd e.symm (h.apart hr' hr hy hx)
  · exact h.uG hr hr' hx hy e
theorem Sys.cover (h : Sys n L R G) {p : Int} (h1 : 1 ≤ p) (h2 : p ≤ n) : ∃ r x, (r ∈ R ∨ r ∈ G) ∧ x ∈ r ∧ ab x = p := by
  rcases List.mem_append.mp (h.pcs.mem_iff.mpr (mem_rng.mpr (by omega : 1 ≤ p ∧ p < 1 + n.toNat))) with z | z
  · obtain ⟨x, hx, e⟩ := List.mem_map.mp z
    obtain ⟨r, hr, hx⟩ := List.mem_flatten.mp hx
    exact ⟨r, x, .inl hr, hx, e⟩
  · obtain ⟨x, hx, e⟩ := List.mem_map.mp z
    obtain ⟨r, hr, hx⟩ := List.mem_flatten.mp hx
    exact ⟨r, x, .inr hr, hx, e⟩
theorem Stt.start (h : Sys n L R G) : Stt n R G 0 [] [] fun _ => false := by
  refine ⟨List.nodup_nil, fun r => ⟨fun z => (by cases z), fun z => ?_⟩, .nil, fun r => ⟨fun z => (by cases z), fun z => ?_⟩, fun q _ _ => ⟨fun z => (by cases z), ?_⟩⟩
  · have := h.mnPos (.inl z.1); omega
  · have := h.mnPos (.inr z.1); omega
  · rintro ⟨r, hr, z, _⟩
    have := h.mnPos hr; omega
theorem mn_ab {r : List Int} (ne : r ≠ []) : ∃ x ∈ r, ab x = mnA r := by
  obtain ⟨⟨x, hx, e⟩, _⟩ := mnA_is ne
  exact ⟨x, hx, e.symm⟩
theorem Sys.ne (h : Sys n L R G) {r : List Int} (hr : r ∈ R ∨ r ∈ G) : r ≠ [] := hr.elim (h.neR r) (h.neG r)
theorem Stt.skip (h : Sys n L R G) (st : Stt n R G k Ra Ga s) (k0 : 0 ≤ k) (hk : k + 1 ≤ n) (hs : s (k + 1).toNat = true) : Stt n R G (k + 1) Ra Ga s := by
  obtain ⟨r0, hr0, m0, x0, hx0, e0⟩ := (st.mark (k + 1).toNat (by omega) (by omega)).mp hs
  have no : ∀ r, (r ∈ R ∨ r ∈ G) → mnA r ≤ k + 1 → mnA r ≤ k := fun r hr hm => by
    by_cases c : mnA r ≤ k
    · exact c
    · obtain ⟨x, hx, e⟩ := mn_ab (h.ne hr)
      have := (h.same hr hr0 hx hx0 (by rw [e, e0]; omega)).1
      rw [this]; exact m0
  refine ⟨st.ndR, fun r => ⟨fun z => ?_, fun z => (st.inR r).mpr ⟨z.1, no r (.inl z.1) z.2⟩⟩, st.asG, fun r => ⟨fun z => ?_, fun z => (st.inG r).mpr ⟨z.1, no r (.inr z.1) z.2⟩⟩, fun q h1 h2 => ?_⟩
  · have := (st.inR r).mp z; exact ⟨this.1, by omega⟩
  · have := (st.inG r).mp z; exact ⟨this.1, by omega⟩
  · rw [st.mark q (by omega) h2]
    constructor
    · rintro ⟨r, a, b, c⟩; exact ⟨r, a, by omega, c⟩
    · rintro ⟨r, a, b, c⟩; exact ⟨r, a, no r a b, c⟩
theorem Stt.cases (h : NSys n L R G) (st : Stt n R G k Ra Ga s) (k0 : 0 ≤ k) (hk : k + 1 ≤ n) (hs : s (k + 1).toNat = false) : (∃ pre post, (pre ++ (k + 1) :: post) ∈ R ∧ mnA (pre ++ (k + 1) :: post) = k + 1) ∨ ∃ t, ((k + 1) :: t) ∈ G ∧ mnA ((k + 1) :: t) = k + 1 := by
  obtain ⟨r, x, hr, hx, e⟩ := h.toSys.cover (p := k + 1) (by omega) hk
  have m1 : mnA r ≤ k + 1 := e ▸ mn_le hx
  have m2 : mnA r = k + 1 := by
    by_cases c : mnA r ≤ k
    · have := (st.mark (k + 1).toNat (by omega) (by omega)).mpr ⟨r, hr, c, x, hx, by rw [e]; omega⟩
      rw [hs] at this; cases this
    · omega
  rcases hr with hr | hr
  · obtain ⟨u, v, e2⟩ := List.append_of_mem (h.nR r hr)
    rw [m2] at e2
    exact .inl ⟨u, v, e2 ▸ hr, e2 ▸ m2⟩
  · obtain ⟨t, e2⟩ := h.nG r hr
    rw [m2] at e2
    exact .inr ⟨t, e2 ▸ hr, e2 ▸ m2⟩
theorem Stt.row (h : Sys n L R G) (st : Stt n R G k Ra Ga s) {pre post : List Int} (k0 : 0 ≤ k) (hr : (pre ++ (k + 1) :: post) ∈ R) (hm : mnA (pre ++ (k + 1) :: post) = k + 1) (hs : ∀ q, s' q = true ↔ s q = true ∨ ∃ x ∈ pre ++ post, ab x = (q : Int)) :
    Stt n R G (k + 1) (Ra ++ [pre ++ (k + 1) :: post]) Ga s' := by
  have one : ∀ r, (r ∈ R ∨ r ∈ G) → mnA r = k + 1 → r = pre ++ (k + 1) :: post := fun r hr' e => by
    obtain ⟨x, hx, e1⟩ := mn_ab (h.ne hr')
    obtain ⟨y, hy, e2⟩ := mn_ab (h.ne (.inl hr))
    exact (h.same hr' (.inl hr) hx hy (by rw [e1, e2, e, hm])).1
  refine ⟨?_, fun r => ?_, st.asG, fun g => ?_, fun q h1 h2 => ?_⟩
  · rw [List.nodup_append]
    refine ⟨st.ndR, by simp, fun a ha b hb e => ?_⟩
    rw [List.mem_singleton.mp hb] at e
    have := ((st.inR a).mp ha).2
    rw [e, hm] at this
    omega
  · rw [List.mem_append, List.mem_singleton, st.inR]
    constructor
    · rintro (⟨a, b⟩ | rfl)
      · exact ⟨a, by omega⟩
      · exact ⟨hr, by omega⟩
    · rintro ⟨a, b⟩
      by_cases c : mnA r ≤ k
      · exact .inl ⟨a, c⟩
      · exact .inr (one r (.inl a) (by omega))
  · rw [st.inG]
    constructor
    · rintro ⟨a, b⟩; exact ⟨a, by omega⟩
    · rintro ⟨a, b⟩
      refine ⟨a, ?_⟩
      by_cases c : mnA g ≤ k
      · exact c
      · have e := one g (.inr a) (by omega)
        obtain ⟨x, hx, _⟩ := mn_ab (h.ne (.inr a))
        exact absurd rfl (h.apart hr a (e ▸ hx) hx)
  · rw [hs, st.mark q (by omega) h2]
    constructor
    · rintro (⟨r, a, b, c⟩ | ⟨x, hx, e⟩)
      · exact ⟨r, a, by omega, c⟩
      · refine ⟨_, .inl hr, by omega, x, ?_, e⟩
        rcases List.mem_append.mp hx with z | z
        · simp [z]
        · simp [z]
    · rintro ⟨r, a, b, x, hx, e⟩
      by_cases c : mnA r ≤ k
      · exact .inl ⟨r, a, c, x, hx, e⟩
      · have e2 := one r a (by omega)
        refine .inr ⟨x, ?_, e⟩
        rw [e2] at hx
        rcases List.mem_append.mp hx with z | z
        · simp [z]
        · rcases List.mem_cons.mp z with z | z
          · rw [z] at e; unfold ab at e; omega
          · simp [z]
theorem Stt.ring (h : Sys n L R G) (st : Stt n R G k Ra Ga s) {t : List Int} (k0 : 0 ≤ k) (hr : ((k + 1) :: t) ∈ G) (hm : mnA ((k + 1) :: t) = k + 1) (hs : ∀ q, s' q = true ↔ s q = true ∨ ∃ x ∈ t, ab x = (q : Int)) :
    Stt n R G (k + 1) Ra (Ga ++ [(k + 1) :: t]) s' := by
  have one : ∀ r, (r ∈ R ∨ r ∈ G) → mnA r = k + 1 → r = (k + 1) :: t := fun r hr' e => by
    obtain ⟨x, hx, e1⟩ := mn_ab (h.ne hr')
    obtain ⟨y, hy, e2⟩ := mn_ab (h.ne (.inr hr))
    exact (h.same hr' (.inr hr) hx hy (by rw [e1, e2, e, hm])).1
  refine ⟨st.ndR, fun g => ?_, ?_, fun r => ?_, fun q h1 h2 => ?_⟩
  · rw [st.inR]
    constructor
    · rintro ⟨a, b⟩; exact ⟨a, by omega⟩
    · rintro ⟨a, b⟩
      refine ⟨a, ?_⟩
      by_cases c : mnA g ≤ k
      · exact c
      · have e := one g (.inl a) (by omega)
        obtain ⟨x, hx, _⟩ := mn_ab (h.ne (.inl a))
        exact absurd rfl (h.apart a hr hx (e ▸ hx))
  · rw [List.pairwise_append]
    refine ⟨st.asG, List.pairwise_singleton _ _, fun a ha b hb => ?_⟩
    have := ((st.inG a).mp ha).2
    rw [List.mem_singleton.mp hb, hm]
    omega
  · rw [List.mem_append, List.mem_singleton, st.inG]
    constructor
    · rintro (⟨a, b⟩ | rfl)
      · exact ⟨a, by omega⟩
      · exact ⟨hr, by omega⟩
    · rintro ⟨a, b⟩
      by_cases c : mnA r ≤ k
      · exact .inl ⟨a, c⟩
      · exact .inr (one r (.inr a) (by omega))
  · rw [hs, st.mark q (by omega) h2]
    constructor
    · rintro (⟨r, a, b, c⟩ | ⟨x, hx, e⟩)
      · exact ⟨r, a, by omega, c⟩
      · exact ⟨_, .inr hr, by omega, x, List.mem_cons_of_mem _ hx, e⟩
    · rintro ⟨r, a, b, x, hx, e⟩
      by_cases c : mnA r ≤ k
      · exact .inl ⟨r, a, c, x, hx, e⟩
      · have e2 := one r a (by omega)
        refine .inr ⟨x, ?_, e⟩
        rw [e2] at hx
        rcases List.mem_cons.mp hx with z | z
        · rw [z] at e; unfold ab at e; omega
        · exact z
theorem nd_lists (h : Sys n L R G) : R.Nodup ∧ G.Nodup := by
  have gen : ∀ {R : List (List Int)}, (R.flatten.map ab).Nodup → (∀ r ∈ R, r ≠ []) → R.Nodup := fun {R} => by
    induction R with
    | nil => intro _ _; exact List.nodup_nil
    | cons r R ih =>
      intro nd ne
      rw [List.flatten_cons, List.map_append] at nd
      obtain ⟨_, n2, n3⟩ := List.nodup_append.mp nd
      refine List.nodup_cons.mpr ⟨fun z => ?_, ih n2 fun q hq => ne q (List.mem_cons_of_mem _ hq)⟩
      obtain ⟨x, hx⟩ := List.exists_mem_of_ne_nil r (ne r List.mem_cons_self)
      exact n3 (ab x) (List.mem_map.mpr ⟨x, hx, rfl⟩) (ab x) (List.mem_map.mpr ⟨x, List.mem_flatten.mpr ⟨r, z, hx⟩, rfl⟩) rfl
  exact ⟨gen (List.nodup_append.mp h.nd).1 h.neR, gen (List.nodup_append.mp h.nd).2.1 h.neG⟩
theorem Stt.done (h : Sys n L R G) (st : Stt n R G n Ra Ga s) : Ra.Perm R ∧ Ga.Perm G := by
  obtain ⟨n1, n2⟩ := nd_lists h
  have ng : Ga.Nodup := st.asG.imp fun z e => by rw [e] at z; omega
  refine ⟨(List.perm_ext_iff_of_nodup st.ndR n1).mpr fun r => ?_, (List.perm_ext_iff_of_nodup ng n2).mpr fun r => ?_⟩
  · rw [st.inR]; exact ⟨fun z => z.1, fun z => ⟨z, (h.mnPos (.inl z)).2⟩⟩
  · rw [st.inG]; exact ⟨fun z => z.1, fun z => ⟨z, (h.mnPos (.inr z)).2⟩⟩
/-- rings by their least pieces stand in the order of lists -/
theorem ringsSrt (h : NSys n L R G) (p : Ga.Perm G) (a : Ga.Pairwise fun g g' => mnA g < mnA g') : Ga = srtR G := by
  rw [← srtR_eq p]
  refine (srtR_id ?_).symm
  refine List.Pairwise.imp_of_mem (fun {x y} hx hy z => ?_) a
  obtain ⟨t, e⟩ := h.nG x (p.mem_iff.mp hx)
  obtain ⟨u, e2⟩ := h.nG y (p.mem_iff.mp hy)
  rw [e, e2]
  exact List.le_of_lt (List.cons_lt_cons_iff.mpr (.inl z))
/-! the way along a row -/
def nxR (E : Int) : List Int → Int
  | [] => E
  | y :: _ => -y
def nxL : List Int → Int
  | [] => 0
  | y :: _ => y
theorem Sys.walkR (h : Sys n L R G) (hL : Lay n L) {pre post : List Int} {p : Int} (hr : (pre ++ p :: post) ∈ R) : ptb L p = nxR 0 post ∧ ∀ d y rest, post = d ++ y :: rest → ptb L y = nxR 0 rest ∧ y ≠ 0 ∧ -n ≤ y ∧ y ≤ n ∧ y ≠ p ∧ y ≠ -p := by
  have gen : ∀ u x v, pre ++ p :: post = u ++ x :: v → ptb L x = nxR 0 v := fun u x v e => by
    cases v with
    | nil => exact h.open1 hL hr e
    | cons y v => exact (h.row hL hr e).1
  refine ⟨gen pre p post rfl, fun d y rest e => ?_⟩
  have e2 : pre ++ p :: post = (pre ++ p :: d) ++ y :: rest := by rw [e]; simp
  have hy : y ∈ pre ++ p :: post := by rw [e2]; simp
  have rg := h.rangeR hr hy
  have nd := h.ndR hr
  have ne : ab y ≠ ab p := fun z => by
    rw [e, List.map_append, List.map_cons] at nd
    have := (List.nodup_cons.mp (List.nodup_append.mp nd).2.1).1
    exact this (by rw [← z]; simp)
  refine ⟨gen _ y rest e2, ?_, ?_, ?_, fun z => ne (by rw [z]), fun z => ne (by rw [z, ab_neg])⟩ <;> (unfold ab at rg; omega)
theorem Sys.walkL (h : Sys n L R G) (hL : Lay n L) {pre post : List Int} {p : Int} (hr : (pre ++ p :: post) ∈ R) : ptb L (-p) = nxL pre.reverse ∧ ∀ d y rest, pre.reverse = d ++ y :: rest → ptb L (-y) = nxL rest ∧ y ≠ 0 ∧ -n ≤ y ∧ y ≤ n := by
  have gen : ∀ u x v, pre ++ p :: post = u ++ x :: v → ptb L (-x) = nxL u.reverse := fun u x v e => by
    rcases List.eq_nil_or_concat u with rfl | ⟨w, y, rfl⟩
    · exact h.open2 hL hr e
    · rw [show w.concat y ++ x :: v = w ++ y :: x :: v by simp] at e
      rw [(h.row hL hr e).2.1]
      simp [nxL]
  refine ⟨gen pre p post rfl, fun d y rest e => ?_⟩
  have e1 : pre = rest.reverse ++ y :: d.reverse := by
    have := congrArg List.reverse e
    rw [List.reverse_reverse] at this
    rw [this]
    simp
  have e2 : pre ++ p :: post = rest.reverse ++ y :: (d.reverse ++ p :: post) := by rw [e1]; simp
  have hy : y ∈ pre ++ p :: post := by rw [e2]; simp
  have rg := h.rangeR hr hy
  have := gen _ y _ e2
  rw [List.reverse_reverse] at this
  refine ⟨this, ?_, ?_, ?_⟩ <;> (unfold ab at rg; omega)
theorem Sys.walkG (h : Sys n L R G) (hL : Lay n L) {t : List Int} {p : Int} (hr : (p :: t) ∈ G) : ptb L p = nxR (-p) t ∧ ∀ d y rest, t = d ++ y :: rest → ptb L y = nxR (-p) rest ∧ y ≠ 0 ∧ -n ≤ y ∧ y ≤ n ∧ y ≠ p ∧ y ≠ -p := by
  have gen : ∀ u x v, p :: t = u ++ x :: v → ptb L x = nxR (-p) v := fun u x v e => by
    have e2 : p :: (t ++ [p]) = u ++ x :: (v ++ [p]) := by rw [← List.cons_append, e]; simp
    cases v with
    | nil => exact (h.ring hL hr e2).1
    | cons y v => exact (h.ring hL hr e2).1
  refine ⟨gen [] p t rfl, fun d y rest e => ?_⟩
  have e2 : p :: t = (p :: d) ++ y :: rest := by rw [e]; simp
  have hy : y ∈ p :: t := by rw [e2]; simp
  have rg := h.rangeG hr hy
  have nd := h.ndG hr
  have ne : ab y ≠ ab p := fun z => by
    rw [List.map_cons] at nd
    exact (List.nodup_cons.mp nd).1 (by rw [← z, e]; simp)
  refine ⟨gen _ y rest e2, ?_, ?_, ?_, fun z => ne (by rw [z]), fun z => ne (by rw [z, ab_neg])⟩ <;> (unfold ab at rg; omega)
theorem rng_split {lo p : Int} {m : Nat} {d r : List Int} (e : rng lo m = d ++ p :: r) : p = lo + d.length ∧ d.length < m := by
  have h := congrArg (fun l => l[d.length]?) e
  simp only [List.getElem?_append_right (Nat.le_refl _), Nat.sub_self, List.getElem?_cons_zero] at h
  have hl := congrArg List.length e
  rw [rng_len, List.length_append, List.length_cons] at hl
  unfold rng at h
  rw [List.getElem?_map, List.getElem?_range (by omega)] at h
  exact ⟨by simpa using h.symm, by omega⟩
theorem Sys.few (h : Sys n L R G) (h60 : n ≤ 60) {r : List Int} (hr : r ∈ R ∨ r ∈ G) : r.length ≤ 60 := by
  have nd : (r.map ab).Nodup := hr.elim (fun z => h.ndR z) fun z => h.ndG z
  have := nodup_sub (m := rng 1 n.toNat) nd fun x hx => by
    obtain ⟨y, hy, rfl⟩ := List.mem_map.mp hx
    have := hr.elim (fun z => h.rangeR z hy) fun z => h.rangeG z hy
    exact mem_rng.mpr (by omega)
  rw [List.length_map, rng_len] at this
  omega
theorem Stt.kase (h : NSys n L R G) (hL : Lay n L) (st : Stt n R G k Ra Ga s) (k0 : 0 ≤ k) (hk : k + 1 ≤ n) (hs : s (k + 1).toNat = false) :
    ∃ E post, ((E = 0 ∧ ∃ pre, (pre ++ (k + 1) :: post) ∈ R ∧ mnA (pre ++ (k + 1) :: post) = k + 1) ∨ (E = -(k + 1) ∧ ((k + 1) :: post) ∈ G ∧ mnA ((k + 1) :: post) = k + 1)) ∧ post.length ≤ 60 ∧ ptb L (k + 1) = nxR E post ∧
      ∀ d y rest, post = d ++ y :: rest → ptb L y = nxR E rest ∧ y ≠ 0 ∧ -n ≤ y ∧ y ≤ n ∧ y ≠ k + 1 ∧ y ≠ -(k + 1) := by
  rcases st.cases h k0 hk hs with ⟨pre, post, hr, hm⟩ | ⟨t, hg, hm⟩
  · have hl := h.toSys.few hL.n60 (.inl hr)
    rw [List.length_append, List.length_cons] at hl
    exact ⟨0, post, .inl ⟨rfl, pre, hr, hm⟩, by omega, (h.toSys.walkR hL hr).1, (h.toSys.walkR hL hr).2⟩
  · have hl := h.toSys.few hL.n60 (.inr hg)
    rw [List.length_cons] at hl
    exact ⟨_, t, .inr ⟨rfl, hg, hm⟩, by omega, (h.toSys.walkG hL hg).1, (h.toSys.walkG hL hg).2⟩
theorem Sys.numR (h : Sys n L R G) (h60 : n ≤ 60) : R.length ≤ 60 ∧ G.length ≤ 60 := by
  have len : ∀ {R : List (List Int)}, (∀ r ∈ R, r ≠ []) → R.length ≤ (R.flatten.map ab).length := fun {R} => by
    induction R with
    | nil => intro _; exact Nat.zero_le _
    | cons r R ih =>
      intro ne
      have h1 := ih fun q hq => ne q (List.mem_cons_of_mem _ hq)
      have h2 := List.length_pos_iff.mpr (ne r List.mem_cons_self)
      rw [List.flatten_cons, List.map_append, List.length_append, List.length_cons, List.length_map]
      omega
  have h1 := len h.neR
  have h2 := len h.neG
  have h3 := h.pcs.length_eq
  rw [List.length_append, rng_len] at h3
  omega
end
end Vf
namespace Vf
open PySem PySem.Spec PyProof.Rows L2
/-! ### ranges as lists; what stands apart -/
theorem rgV_eq (a b : Int) : rgV a b = (rng a (b - a).toNat).map V.int := by unfold rgV rng; rw [List.map_map]; rfl
theorem r_lstRg2 {ta tb : TE} {σ : L2.St} {H : Hp} {Q : VK} (h : ta σ H fun x H1 => tb σ H1 fun y H2 => ∃ i j, x = .int i ∧ y = .int j ∧ RgOk i j ∧ ∀ q, H2 q = none → Q (.ref q) (upd H2 q (.lst ((rng i (j - i).toNat).map V.int)))) : tLstRg (tRg2 ta tb) σ H Q := by
  have e : (fun a b (H1 : Hp) => RgOk a b ∧ ∀ q, H1 q = none → Q (.ref q) (upd H1 q (.lst (rgV a b)))) = fun a b H1 => RgOk a b ∧ ∀ q, H1 q = none → Q (.ref q) (upd H1 q (.lst ((rng a (b - a).toNat).map V.int))) := by
    funext a b H1
    rw [rgV_eq]
  show tRg2 ta tb σ H _
  rw [e]
  exact h
theorem hid_butL {t : Addr} {ts : List Addr} {H H' : Hp} (b : But t H H') (h : t ∈ ts) : Hid ts H' = Hid ts H := funext fun x => by
  unfold Hid
  by_cases c : x ∈ ts
  · rw [if_pos c, if_pos c]
  · rw [if_neg c, if_neg c, b x fun z => c (z ▸ h)]
/-- a list of lists of ints at a place -/
def LL (H : Hp) (a : Addr) (R : List (List Int)) : Prop := ∃ xs, H a = some (.lst xs) ∧ ILs H xs R
theorem LL.mono {H H' : Hp} {a : Addr} {R : List (List Int)} (s : Same H H') (h : LL H a R) : LL H' a R := let ⟨xs, e, f⟩ := h; ⟨xs, s _ _ e, f.mono s⟩
theorem LL.dp {K : PySem.W.Frag} {H : Hp} {a : Addr} {R : List (List Int)} (h : LL H a R) : Dp K H (.ref a) (dRs R) := let ⟨xs, e, f⟩ := h; .lst (sql e) (dpa_ils f)
/-! ### the couplings of readings, pair by pair -/
def zs (la lb : List Int) : List (Int × Int) := (la.zip lb).map fun p => prI p.1 (0 - p.2)
theorem zs_cons (x y : Int) (la lb : List Int) : zs (x :: la) (y :: lb) = prI x (0 - y) :: zs la lb := rfl
theorem steps_zip : ∀ r : List Int, steps r = zs r (r.drop 1)
  | [] => rfl
  | [x] => rfl
  | x :: y :: t => by
    rw [steps_cons2, steps_zip (y :: t)]
    show _ = zs (x :: y :: t) (y :: t)
    rw [zs_cons, Int.zero_sub]
    rfl
theorem zs_last (z : Int) : ∀ (t : List Int) (x : Int), zs (x :: (t ++ [z])) (t ++ [z]) = zs (x :: t) (t ++ [z])
  | [], x => rfl
  | y :: t, x => by
    show zs (x :: y :: (t ++ [z])) (y :: (t ++ [z])) = zs (x :: y :: t) (y :: (t ++ [z]))
    rw [zs_cons, zs_cons, zs_last z t y]
theorem ringC_zip : ∀ r : List Int, ringC r = zs r (r.drop 1 ++ r.take 1)
  | [] => rfl
  | x :: t => by
    show steps (x :: (t ++ [x])) = zs (x :: t) (t ++ [x])
    rw [steps_zip]
    exact zs_last x t x
theorem r_lcZ {K : PySem.W.Frag} {a b : Addr} {xs ys : List V} {g : TG} {tt : TT} {te : TE} {vs : List Nat} {D : Addr} {σ : L2.St} {H1 : Hp} {Qd : Hp → Prop} (Pv : Nat → Hp → Prop) (h0 : Pv 0 (upd H1 D (.lst [])))
    (hk : ∀ i H, Pv i H → SqL K H a xs ∧ SqL K H b ys) (hs : ∀ i x y T H, xs[i]? = some x → ys[i]? = some y → Pv i H → H T = none → g (.ref T) (wipe σ vs) (upd H T (.tup [x, y])) fun σ2 H2 => wipe σ2 vs = wipe σ vs ∧ tt σ2 H2 fun b H3 =>
      if b = true then te σ2 H3 fun y H4 => ∃ acc, H4 D = some (.lst acc) ∧ acc.length < sizeLine ∧ Pv (i + 1) (upd H4 D (.lst (acc ++ [y]))) else Pv (i + 1) H3) (hd : ∀ H, Pv (min xs.length ys.length) H → Qd H) : LcW (Itz K a b) g tt te vs D σ H1 Qd := by
  refine ⟨fun i m H => m = min xs.length ys.length - i ∧ i ≤ min xs.length ys.length ∧ Pv i H, ⟨_, rfl, Nat.zero_le _, h0⟩, ?_⟩
  rintro i m H ⟨rfl, hi, p0⟩
  obtain ⟨q1, q2⟩ := hk i H p0
  by_cases hlt : i < min xs.length ys.length
  · refine .inr ⟨⟨xs, ys, xs[i]'(by omega), ys[i]'(by omega), q1, q2, by simp, by simp⟩, Pv (i + 1), fun H' p' => ⟨min xs.length ys.length - (i + 1), by omega, rfl, by omega, p'⟩, fun v H' z => ?_⟩
    obtain ⟨T, x, y, rfl, nT, rfl, f1, f2⟩ := z
    exact hs i x y T H (f1 xs q1) (f2 ys q2) p0 nT
  · have e : i = min xs.length ys.length := by omega
    subst e
    exact .inl ⟨⟨xs, ys, q1, q2, by omega⟩, hd H p0⟩
/-! ### readings that are dealt make a layout -/
theorem flat_steps : ∀ r : List Int, (flat (steps r)).Perm (r.dropLast ++ r.tail.map fun x => -x)
  | [] => List.Perm.refl _
  | [x] => List.Perm.refl _
  | x :: y :: t => by
    rw [steps_cons2, flat_cons]
    have p1 : ([(prI x (-y)).1, (prI x (-y)).2] : List Int).Perm [x, -y] := by
      unfold prI
      by_cases c : x ≤ -y
      · simp only [Int.min_eq_left c, Int.max_eq_right c]; exact List.Perm.refl _
      · simp only [Int.min_eq_right (Int.le_of_lt (Int.not_le.mp c)), Int.max_eq_left (Int.le_of_lt (Int.not_le.mp c))]; exact List.Perm.swap _ _ _
    show ([(prI x (-y)).1, (prI x (-y)).2] ++ flat (steps (y :: t))).Perm (x :: (y :: t).dropLast ++ (-y :: t.map fun x => -x))
    refine (p1.append (flat_steps (y :: t))).trans ?_
    show (x :: -y :: ((y :: t).dropLast ++ t.map fun x => -x)).Perm (x :: ((y :: t).dropLast ++ (-y :: t.map fun x => -x)))
    exact List.Perm.cons _ List.perm_middle.symm
theorem flat_ring (r : List Int) : (flat (ringC r)).Perm (r ++ r.map fun x => -x) := by
  cases r with
  | nil => exact List.Perm.refl _
  | cons x t =>
    show (flat (steps (x :: (t ++ [x])))).Perm _
    refine (flat_steps _).trans ?_
    have e : (x :: (t ++ [x])).dropLast = x :: t := by rw [← List.cons_append, List.dropLast_concat]
    rw [e]
    refine List.Perm.append_left _ ?_
    show ((t ++ [x]).map fun x => -x).Perm _
    refine List.Perm.map _ ?_
    exact List.perm_append_comm
/-- readings that hold each piece once -/
structure Dealt (n : Int) (R G : List (List Int)) : Prop where
  neR : ∀ r ∈ R, r ≠ []
  neG : ∀ r ∈ G, r ≠ []
  pcs : (R.flatten.map ab ++ G.flatten.map ab).Perm (rng 1 n.toNat)
theorem flat_flatMap {α : Type} (f : α → List (Int × Int)) : ∀ l : List α, flat (l.flatMap f) = l.flatMap fun a => flat (f a)
  | [] => rfl
  | a :: l => by rw [List.flatMap_cons, List.flatMap_cons, flat_app, flat_flatMap f l]
theorem inter_perm {α : Type} (A B : α → List Int) : ∀ l : List α, (l.flatMap fun a => A a ++ B a).Perm (l.flatMap A ++ l.flatMap B)
  | [] => List.Perm.refl _
  | a :: l => by
    rw [List.flatMap_cons, List.flatMap_cons, List.flatMap_cons]
    refine ((inter_perm A B l).append_left _).trans ?_
    rw [List.append_assoc, List.append_assoc]
    exact List.Perm.append_left _ (List.perm_append_comm_assoc _ _ _)
theorem sub_flatMap {f : List Int → List Int} (h : ∀ r, (f r).Sublist r) : ∀ R : List (List Int), (R.flatMap f).Sublist R.flatten
  | [] => List.Sublist.refl _
  | r :: R => by rw [List.flatMap_cons, List.flatten_cons]; exact (h r).append (sub_flatMap h R)
theorem Dealt.flatNd {n : Int} {R G : List (List Int)} (h : Dealt n R G) : (flat (cps R G)).Nodup ∧ ∀ e ∈ flat (cps R G), ∃ x ∈ R.flatten ++ G.flatten, e = x ∨ e = -x := by
  have ndA : ((R.flatten ++ G.flatten).map ab).Nodup := by rw [List.map_append]; exact h.pcs.nodup_iff.mpr ((rng_asc _ _).imp fun h => by omega)
  have pos : ∀ x ∈ R.flatten ++ G.flatten, 1 ≤ ab x := fun x hx => by
    have : ab x ∈ R.flatten.map ab ++ G.flatten.map ab := by rw [← List.map_append]; exact List.mem_map.mpr ⟨x, hx, rfl⟩
    have := mem_rng.mp (h.pcs.mem_iff.mp this)
    omega
  have P : (flat (cps R G)).Perm ((R.flatMap List.dropLast ++ G.flatten) ++ ((R.flatMap List.tail ++ G.flatten).map fun x => -x)) := by
    unfold cps
    rw [flat_app, flat_flatMap, flat_flatMap]
    have p1 := (flatMap_perm (f := fun r => flat (steps r)) (g := fun r => r.dropLast ++ r.tail.map fun x => -x) (l := R) fun r _ => flat_steps r).trans (inter_perm _ _ R)
    have p2 := (flatMap_perm (f := fun r => flat (ringC r)) (g := fun r => r ++ r.map fun x => -x) (l := G) fun r _ => flat_ring r).trans (inter_perm _ _ G)
    refine (p1.append p2).trans ?_
    have e1 : (R.flatMap fun r => r.tail.map fun x => -x) = (R.flatMap List.tail).map fun x => -x := by rw [List.map_flatMap]
    have e2 : (G.flatMap fun r => r.map fun x => -x) = G.flatten.map fun x => -x := by rw [List.map_flatten, List.flatMap_def]
    have e3 : (G.flatMap fun r => r) = G.flatten := by rw [List.flatMap_def, List.map_id']
    rw [e1, e2, e3, List.map_append, List.append_assoc, List.append_assoc]
    exact List.Perm.append_left _ (List.perm_append_comm_assoc _ _ _)
  have sA : (R.flatMap List.dropLast ++ G.flatten).Sublist (R.flatten ++ G.flatten) := (sub_flatMap (fun r => List.dropLast_sublist r) R).append (List.Sublist.refl _)
  have sB : (R.flatMap List.tail ++ G.flatten).Sublist (R.flatten ++ G.flatten) := (sub_flatMap (fun r => List.tail_sublist r) R).append (List.Sublist.refl _)
  have ndN : (R.flatten ++ G.flatten).Nodup := nd_ab ndA
  refine ⟨P.nodup_iff.mpr ?_, fun e he => ?_⟩
  · refine List.nodup_append.mpr ⟨sA.nodup ndN, ?_, fun x hx y hy e => ?_⟩
    · rw [List.Nodup, List.pairwise_map]
      exact (sB.nodup ndN).imp fun h z => h (by omega)
    · obtain ⟨w, hw, rfl⟩ := List.mem_map.mp hy
      have hx' := sA.subset hx
      have hw' := sB.subset hw
      have one : x = w := by
        rw [List.Nodup, List.pairwise_map] at ndA
        by_cases c : x = w
        · exact c
        · obtain ⟨i, hi⟩ := List.getElem?_of_mem hx'
          obtain ⟨j, hj⟩ := List.getElem?_of_mem hw'
          obtain ⟨i1, i2⟩ := List.getElem?_eq_some_iff.mp hi
          obtain ⟨j1, j2⟩ := List.getElem?_eq_some_iff.mp hj
          have pw := List.pairwise_iff_getElem.mp ndA
          have ea : ab x = ab w := by rw [e, ab_neg]
          rcases Nat.lt_trichotomy i j with z | z | z
          · exact (pw i j i1 j1 z (by rw [i2, j2]; exact ea)).elim
          · subst z; exact absurd (i2.symm.trans j2) c
          · exact (pw j i j1 i1 z (by rw [i2, j2]; exact ea.symm)).elim
      have := pos x hx'
      unfold ab at this
      omega
  · rcases List.mem_append.mp (P.mem_iff.mp he) with z | z
    · exact ⟨e, sA.subset z, .inl rfl⟩
    · obtain ⟨w, hw, rfl⟩ := List.mem_map.mp z
      exact ⟨w, sB.subset hw, .inr rfl⟩
theorem mem_cps {R G : List (List Int)} {p : Int × Int} (h : p ∈ cps R G) : p.1 ≤ p.2 := by
  have ok : ∀ {r : List Int}, p ∈ steps r → p.1 ≤ p.2 := fun {r} hp => by
    obtain ⟨_, x, y, _, _, rfl⟩ := mem_steps.mp hp
    unfold prI; simp only; omega
  rcases List.mem_append.mp h with z | z
  · obtain ⟨r, _, hm⟩ := List.mem_flatMap.mp z
    exact ok hm
  · obtain ⟨g, _, hm⟩ := List.mem_flatMap.mp z
    cases g with
    | nil => cases hm
    | cons a t => exact ok hm
theorem Dealt.lay {n : Int} {R G : List (List Int)} {M : List (Int × Int)} (h : Dealt n R G) (n1 : 1 ≤ n) (n60 : n ≤ 60) (pm : M.Perm (cps R G)) (asc : Asc M) : Lay n M := by
  obtain ⟨nd, al⟩ := h.flatNd
  have ndM : (flat M).Nodup := (flat_perm pm).nodup_iff.mpr nd
  have rg : ∀ e ∈ flat M, -n ≤ e ∧ e ≤ n ∧ e ≠ 0 := fun e he => by
    obtain ⟨x, hx, z⟩ := al e ((flat_perm pm).mem_iff.mp he)
    have : ab x ∈ R.flatten.map ab ++ G.flatten.map ab := by rw [← List.map_append]; exact List.mem_map.mpr ⟨x, hx, rfl⟩
    have := mem_rng.mp (h.pcs.mem_iff.mp this)
    unfold ab at this
    omega
  refine ⟨n1, n60, fun p hp => ?_, asc, ndM⟩
  have h1 := rg p.1 (mem_flat.mpr ⟨p, hp, .inl rfl⟩)
  have h2 := rg p.2 (mem_flat.mpr ⟨p, hp, .inr rfl⟩)
  have h3 := mem_cps (pm.mem_iff.mp hp)
  have ne : p.1 ≠ p.2 := fun z => by
    obtain ⟨u, v, e⟩ := List.append_of_mem hp
    rw [e, flat_app, flat_cons] at ndM
    have := (List.nodup_cons.mp (List.nodup_append.mp ndM).2.1).1
    exact this (by rw [z]; simp)
  exact ⟨h1.1, by omega, h2.2.1, h1.2.2, h2.2.2⟩
theorem Dealt.sys {n : Int} {R G : List (List Int)} {M : List (Int × Int)} (h : Dealt n R G) (pm : M.Perm (cps R G)) : Sys n M R G := ⟨h.neR, h.neG, h.pcs, pm.symm⟩
theorem cut_from {xs : List V} {k : Nat} : cutV xs (some (k : Int)) none = xs.drop k := by
  unfold cutV
  rw [HT.sIx_none, HT.sIx_nat]
  by_cases c : k ≤ xs.length
  · rw [Nat.min_eq_left c, List.take_of_length_le (by rw [List.length_drop]; omega)]
  · rw [Nat.min_eq_right (by omega), List.drop_of_length_le (by omega), List.drop_of_length_le (by omega)]; simp
theorem cut_to {xs : List V} {k : Nat} : cutV xs none (some (k : Int)) = xs.take k := by
  unfold cutV
  rw [HT.sIx_none, HT.sIx_nat]
  rw [Nat.sub_zero, List.drop_zero]
  by_cases c : k ≤ xs.length
  · rw [Nat.min_eq_left c]
  · rw [Nat.min_eq_right (by omega), List.take_of_length_le (Nat.le_refl _), List.take_of_length_le (by omega)]
theorem cut_f1 {xs : List V} : cutV xs (some 1) none = xs.drop 1 := cut_from (k := 1)
theorem cut_t1 {xs : List V} : cutV xs none (some 1) = xs.take 1 := cut_to (k := 1)
theorem filt_t {α : Type} (l : List α) : l.filter (fun _ => true) = l := List.filter_eq_self.mpr fun _ _ => rfl
/-- where a whole number stands first -/
theorem r_idx {K : PySem.W.Frag} {H : Hp} {Q : VK} {p : Addr} {u v : List Int} {m : Int} (hs : SqL K H p ((u ++ m :: v).map V.int)) (hm : m ∉ u) (q : Q (.int (u.length : Nat)) H) : rIndex K (.ref p) [.int m] H Q := by
  refine ⟨p, _, .int m, u.length, .int m, rfl, rfl, hs, rfl, flat_ints _, ?_, by simp [eqV], fun k z hk hz => ?_, q⟩
  · rw [List.getElem?_map, List.getElem?_append_right (Nat.le_refl _), Nat.sub_self]; rfl
  · rw [List.getElem?_map, List.getElem?_append_left hk] at hz
    obtain ⟨x, hx, rfl⟩ := Option.map_eq_some_iff.mp hz
    have : x ≠ m := fun e => hm (e ▸ List.mem_of_getElem? hx)
    simp [eqV, this]
theorem asc_uniq {M L : List (Int × Int)} (a1 : Asc M) (a2 : Asc L) (p : M.Perm L) : M = L :=
  p.eq_of_pairwise (le := fun p q : Int × Int => p.1 < q.1 ∨ (p.1 = q.1 ∧ p.2 < q.2)) (fun a b _ _ h1 h2 => by omega) a1 a2
/-- the data of readings is small -/
theorem Sys.small {n : Int} {L : List (Int × Int)} {R G S : List (List Int)} (h : Sys n L R G) (n60 : n ≤ 60) (hS : ∀ r ∈ S, r ∈ R ∨ r ∈ G) (hl : S.length ≤ 60) : Sm 54303 3 (dRs S) := by
  refine (Sm.lst (N := 903) (k := 2) (ds := S.map dR) fun e he => ?_).mono (by rw [List.length_map]; omega) (by omega)
  obtain ⟨r, hr, rfl⟩ := List.mem_map.mp he
  refine sm_ints (N := 60) (fun i hi => ?_) (h.few n60 (hS r hr))
  have := (hS r hr).elim (fun z => h.rangeR z hi) fun z => h.rangeG z hi
  unfold ab at this
  omega
theorem r_par3 {ts : TA} {σ : L2.St} {H : Hp} {nx bk ct : L2.St → Hp → Prop} {rt : VK} {a b c : Nat} (h : ts σ H fun vs H1 => ∃ u v w, vs = [u, v, w] ∧ nx (((σ.set a (some u)).set b (some v)).set c (some w)) H1) : tPar3 a b c ts ⟨nx, rt, bk, ct⟩ σ H := h
theorem Dealt.few {n : Int} {R G : List (List Int)} (h : Dealt n R G) (n60 : n ≤ 60) : (∀ r, r ∈ R ∨ r ∈ G → r.length ≤ 60) ∧ (cps R G).length ≤ 60 ∧ (cps R G).Nodup ∧ R.length ≤ 60 ∧ G.length ≤ 60 := by
  have hs : Sys n (cps R G) R G := h.sys (List.Perm.refl _)
  obtain ⟨nd, al⟩ := h.flatNd
  refine ⟨fun r hr => hs.few n60 hr, ?_, nd_of_flat nd, hs.numR n60⟩
  by_cases n0 : 0 ≤ n
  · have := nodup_sub (m := endsL n) nd fun e he => by
      obtain ⟨x, hx, z⟩ := al e he
      have : ab x ∈ R.flatten.map ab ++ G.flatten.map ab := by rw [← List.map_append]; exact List.mem_map.mpr ⟨x, hx, rfl⟩
      have := mem_rng.mp (h.pcs.mem_iff.mp this)
      refine mem_endsL.mpr ?_
      unfold ab at this
      omega
    rw [endsL_card n0, flat_len] at this
    omega
  · have e0 : R.flatten.map ab ++ G.flatten.map ab = [] := by
      have := h.pcs.length_eq
      rw [rng_len] at this
      exact List.eq_nil_of_length_eq_zero (by omega)
    have := nodup_sub (m := ([] : List Int)) nd fun e he => by
      obtain ⟨x, hx, z⟩ := al e he
      have : ab x ∈ R.flatten.map ab ++ G.flatten.map ab := by rw [← List.map_append]; exact List.mem_map.mpr ⟨x, hx, rfl⟩
      rw [e0] at this
      cases this
    rw [flat_len] at this
    simp at this
    omega
end Vf
namespace Vf
open PySem PySem.Spec PyProof.Rows L2
/-! ### two tables of partners: walks by turns -/
structure Inv2 (n : Int) (f : Int → Int) : Prop where
  to : ∀ e, e ∈ endsL n → f e ≠ 0 → f e ∈ endsL n ∧ f (f e) = e ∧ f e ≠ e
theorem ptb_inv {n : Int} {L : List (Int × Int)} (hL : Lay n L) : Inv2 n (ptb L) := by
  refine ⟨fun e he h => ?_⟩
  have he' := mem_endsL.mp he
  have hp : parI L e = some (ptb L e) := by
    unfold ptb at h ⊢
    rw [if_neg he'.2.2] at h ⊢
    cases c : parI L e with
    | none => rw [c] at h; exact absurd rfl h
    | some x => rfl
  have hm := (parI_iff hL).mp hp
  have hb : parI L (ptb L e) = some e := (parI_iff hL).mpr hm.symm
  have h2 := par_mem hL hp
  refine ⟨mem_endsL.mpr ⟨h2.1, h2.2.1, h2.2.2⟩, ?_, fun z => ?_⟩
  · show (if ptb L e = 0 then 1 else (parI L (ptb L e)).getD 0) = e
    rw [if_neg h2.2.2, hb]
    rfl
  · rcases hm with hm | hm
    · have := (hL.cp _ hm).2.1; simp only at this; omega
    · have := (hL.cp _ hm).2.1; simp only at this; omega
/-- each item leads to the next one, by f and by g by turns -/
def AltI (f g : Int → Int) (xs : List Int) : Prop := ∀ i x y, xs[i]? = some x → xs[i + 1]? = some y → y = (if i % 2 = 0 then f x else g x) ∧ y ≠ 0
theorem get_app {α : Type} {xs : List α} {y a : α} {i : Nat} (h : (xs ++ [y])[i]? = some a) : (i < xs.length ∧ xs[i]? = some a) ∨ (i = xs.length ∧ a = y) := by
  by_cases c : i < xs.length
  · rw [List.getElem?_append_left c] at h
    exact .inl ⟨c, h⟩
  · have hl := (List.getElem?_eq_some_iff.mp h).1
    rw [List.length_append, List.length_singleton] at hl
    have e : i = xs.length := by omega
    rw [e, List.getElem?_append_right (Nat.le_refl _), Nat.sub_self] at h
    exact .inr ⟨e, (Option.some.inj h).symm⟩
theorem AltI.snoc {f g : Int → Int} {xs : List Int} {l y : Int} (h : AltI f g xs) (hl : xs[xs.length - 1]? = some l) (hy : y = if (xs.length - 1) % 2 = 0 then f l else g l) (y0 : y ≠ 0) : AltI f g (xs ++ [y]) := fun i a b h1 h2 => by
  have ln := (List.getElem?_eq_some_iff.mp hl).1
  rcases get_app h2 with ⟨c, h2⟩ | ⟨c, rfl⟩
  · rw [List.getElem?_append_left (by omega)] at h1
    exact h i a b h1 h2
  · rw [List.getElem?_append_left (by omega)] at h1
    have e : i = xs.length - 1 := by omega
    rw [e, hl] at h1
    cases h1
    rw [e]
    exact ⟨hy, y0⟩
/-- closed under both tables -/
def Clo (f g : Int → Int) (S : List Int) : Prop := ∀ e ∈ S, (f e ≠ 0 → f e ∈ S) ∧ (g e ≠ 0 → g e ∈ S)
theorem AltI.rev {n : Int} {f g : Int → Int} (F : Inv2 n f) (G : Inv2 n g) {xs : List Int} (h : AltI f g xs) (hE : ∀ x ∈ xs, x ∈ endsL n) : AltI (if xs.length % 2 = 0 then f else g) (if xs.length % 2 = 0 then g else f) xs.reverse := fun i x y hx hy => by
  have h1 := (List.getElem?_eq_some_iff.mp hy).1
  rw [List.length_reverse] at h1
  rw [List.getElem?_reverse (by omega)] at hx hy
  have e : xs.length - 1 - i = (xs.length - 1 - (i + 1)) + 1 := by omega
  rw [e] at hx
  obtain ⟨e1, e0⟩ := h _ y x hy hx
  have yE := hE y (List.mem_of_getElem? hy)
  have y0 := (mem_endsL.mp yE).2.2
  refine ⟨?_, y0⟩
  have back : (if (xs.length - 1 - (i + 1)) % 2 = 0 then f x else g x) = y := by
    split at e1
    · rename_i d
      rw [if_pos d, e1]
      exact (F.to y yE (by rw [← e1]; exact e0)).2.1
    · rename_i d
      rw [if_neg d, e1]
      exact (G.to y yE (by rw [← e1]; exact e0)).2.1
  rw [← back]
  by_cases c : xs.length % 2 = 0
  · rw [if_pos c, if_pos c]
    by_cases d : i % 2 = 0
    · rw [if_pos d, if_pos (by omega)]
    · rw [if_neg d, if_neg (by omega)]
  · rw [if_neg c, if_neg c]
    by_cases d : i % 2 = 0
    · rw [if_pos d, if_neg (by omega)]
    · rw [if_neg d, if_pos (by omega)]
/-! rings -/
end Vf
namespace Vf
open PySem PySem.Spec PyProof.Rows L2
/-! ### components: words, ways, rings -/
inductive Wd | odd | one | other | ring deriving DecidableEq
abbrev Cm := Wd × List Int
/-- a way from x to y: along p first, then q, by turns; it ends at both -/
structure Wy (n : Int) (p q : Int → Int) (w : List Int) (x y : Int) : Prop where
  alt : AltI p q w
  fst : w[0]? = some x
  lst : w[w.length - 1]? = some y
  x0 : q x = 0
  y0 : (if (w.length - 1) % 2 = 0 then p y else q y) = 0
  nd : w.Nodup
  sub : ∀ z ∈ w, z ∈ endsL n
structure Rg (n : Int) (f g : Int → Int) (w : List Int) (x : Int) : Prop where
  alt : AltI f g (w ++ [x])
  fst : w[0]? = some x
  ev : w.length % 2 = 0
  min : ∀ z ∈ w, x ≤ z
  nd : w.Nodup
  sub : ∀ z ∈ w, z ∈ endsL n
inductive PartOk (n : Int) (f g : Int → Int) : Cm → Prop
  | odd {w : List Int} {x y : Int} (h : Wy n g f w x y) (l : w.length % 2 = 1) : PartOk n f g (.odd, w)
  | one {w : List Int} {x y : Int} (h : Wy n f g w x y) (l : w.length % 2 = 0) (xy : x ≤ y) : PartOk n f g (.one, w)
  | other {w : List Int} {x y : Int} (h : Wy n g f w x y) (l : w.length % 2 = 0) (xy : x ≤ y) : PartOk n f g (.other, w)
  | ring {w : List Int} {x : Int} (h : Rg n f g w x) : PartOk n f g (.ring, w)
structure Right (n : Int) (f g : Int → Int) (C : List Cm) : Prop where
  ok : ∀ c ∈ C, PartOk n f g c
  pm : (C.flatMap (·.2)).Perm (endsL n)
theorem PartOk.nd {n : Int} {f g : Int → Int} {c : Cm} (h : PartOk n f g c) : c.2.Nodup ∧ (∀ z ∈ c.2, z ∈ endsL n) ∧ c.2 ≠ [] := by
  cases h with
  | odd h => exact ⟨h.nd, h.sub, fun z => by have := h.fst; simp only at z; rw [z] at this; cases this⟩
  | one h => exact ⟨h.nd, h.sub, fun z => by have := h.fst; simp only at z; rw [z] at this; cases this⟩
  | other h => exact ⟨h.nd, h.sub, fun z => by have := h.fst; simp only at z; rw [z] at this; cases this⟩
  | ring h => exact ⟨h.nd, h.sub, fun z => by have := h.fst; simp only at z; rw [z] at this; cases this⟩
theorem Wy.rev {n : Int} {p q : Int → Int} {w : List Int} {x y : Int} (P : Inv2 n p) (G : Inv2 n q) (h : Wy n p q w x y) : Wy n (if w.length % 2 = 0 then p else q) (if w.length % 2 = 0 then q else p) w.reverse y x := by
  have l0 := (List.getElem?_eq_some_iff.mp h.fst).1
  have hy0 := h.y0
  refine ⟨h.alt.rev P G h.sub, ?_, ?_, ?_, ?_, (List.pairwise_reverse.mpr (h.nd.imp fun z => Ne.symm z)), fun z hz => h.sub z (List.mem_reverse.mp hz)⟩
  · rw [List.getElem?_reverse l0]; exact h.lst
  · rw [List.length_reverse, List.getElem?_reverse (by omega), show w.length - 1 - (w.length - 1) = 0 by omega]; exact h.fst
  · by_cases c : w.length % 2 = 0
    · rw [if_pos c]; rw [if_neg (by omega)] at hy0; exact hy0
    · rw [if_neg c]; rw [if_pos (by omega)] at hy0; exact hy0
  · rw [List.length_reverse]
    by_cases c : w.length % 2 = 0
    · rw [if_neg (by omega), if_pos c]; exact h.x0
    · rw [if_pos (by omega), if_neg c]; exact h.x0
/-- ahead of it, and behind it -/
theorem Wy.pre {n : Int} {p q : Int → Int} {w : List Int} {x y z : Int} (P : Inv2 n p) (G : Inv2 n q) (h : Wy n p q w x y) {i : Nat} (hz : w[i + 1]? = some z) : ∃ u, w[i]? = some u ∧ u ≠ 0 ∧ (if (i + 1) % 2 = 0 then q z else p z) = u := by
  have l := (List.getElem?_eq_some_iff.mp hz).1
  obtain ⟨u, hu⟩ : ∃ u, w[i]? = some u := ⟨_, List.getElem?_eq_getElem (by omega)⟩
  have uE := h.sub u (List.mem_of_getElem? hu)
  obtain ⟨e1, e2⟩ := h.alt i u z hu hz
  refine ⟨u, hu, (mem_endsL.mp uE).2.2, ?_⟩
  by_cases c : i % 2 = 0
  · rw [if_pos c] at e1
    rw [if_neg (by omega), e1]
    exact (P.to u uE (by rw [← e1]; exact e2)).2.1
  · rw [if_neg c] at e1
    rw [if_pos (by omega), e1]
    exact (G.to u uE (by rw [← e1]; exact e2)).2.1
theorem Wy.post {n : Int} {p q : Int → Int} {w : List Int} {x y z : Int} (h : Wy n p q w x y) {i : Nat} (hz : w[i]? = some z) (l : i + 1 < w.length) : ∃ u, w[i + 1]? = some u ∧ u ≠ 0 ∧ (if i % 2 = 0 then p z else q z) = u := by
  obtain ⟨u, hu⟩ : ∃ u, w[i + 1]? = some u := ⟨_, List.getElem?_eq_getElem l⟩
  obtain ⟨e1, e2⟩ := h.alt i z u hz hu
  exact ⟨u, hu, e2, e1.symm⟩
/-- a way is closed -/
theorem Wy.clo {n : Int} {p q : Int → Int} {w : List Int} {x y : Int} (P : Inv2 n p) (G : Inv2 n q) (h : Wy n p q w x y) : Clo p q w := fun z hz => by
  obtain ⟨i, hi⟩ := List.getElem?_of_mem hz
  have l := (List.getElem?_eq_some_iff.mp hi).1
  have fw : (if i % 2 = 0 then p z else q z) = 0 ∨ (if i % 2 = 0 then p z else q z) ∈ w := by
    by_cases c : i + 1 < w.length
    · obtain ⟨u, hu, _, e⟩ := h.post hi c
      rw [e]
      exact .inr (List.mem_of_getElem? hu)
    · have e : i = w.length - 1 := by omega
      rw [e] at hi ⊢
      rw [h.lst] at hi
      cases hi
      exact .inl h.y0
  have bw : (if i % 2 = 0 then q z else p z) = 0 ∨ (if i % 2 = 0 then q z else p z) ∈ w := by
    cases i with
    | zero =>
      rw [h.fst] at hi
      cases hi
      exact .inl h.x0
    | succ i =>
      obtain ⟨u, hu, _, e⟩ := h.pre P G hi
      rw [e]
      exact .inr (List.mem_of_getElem? hu)
  by_cases c : i % 2 = 0
  · rw [if_pos c] at fw bw
    exact ⟨fun k => fw.resolve_left k, fun k => bw.resolve_left k⟩
  · rw [if_neg c] at fw bw
    exact ⟨fun k => bw.resolve_left k, fun k => fw.resolve_left k⟩
/-- what is next in a ring, and what is ahead -/
theorem Rg.post {n : Int} {f g : Int → Int} {w : List Int} {x z : Int} (h : Rg n f g w x) {i : Nat} (hz : w[i]? = some z) : ∃ u, (w ++ [x])[i + 1]? = some u ∧ u ≠ 0 ∧ (if i % 2 = 0 then f z else g z) = u ∧ u ∈ w := by
  have l := (List.getElem?_eq_some_iff.mp hz).1
  obtain ⟨u, hu⟩ : ∃ u, (w ++ [x])[i + 1]? = some u := ⟨_, List.getElem?_eq_getElem (by rw [List.length_append, List.length_singleton]; omega)⟩
  obtain ⟨e1, e2⟩ := h.alt i z u (by rw [List.getElem?_append_left l]; exact hz) hu
  refine ⟨u, hu, e2, e1.symm, ?_⟩
  rcases get_app hu with ⟨_, k⟩ | ⟨_, rfl⟩
  · exact List.mem_of_getElem? k
  · exact List.mem_of_getElem? h.fst
theorem Rg.pre {n : Int} {f g : Int → Int} {w : List Int} {x z : Int} (F : Inv2 n f) (G : Inv2 n g) (h : Rg n f g w x) {i : Nat} (hz : (w ++ [x])[i + 1]? = some z) : ∃ u, w[i]? = some u ∧ u ≠ 0 ∧ (if (i + 1) % 2 = 0 then g z else f z) = u := by
  have l := (List.getElem?_eq_some_iff.mp hz).1
  rw [List.length_append, List.length_singleton] at l
  obtain ⟨u, hu⟩ : ∃ u, w[i]? = some u := ⟨_, List.getElem?_eq_getElem (by omega)⟩
  have uE := h.sub u (List.mem_of_getElem? hu)
  obtain ⟨e1, e2⟩ := h.alt i u z (by rw [List.getElem?_append_left (by omega)]; exact hu) hz
  refine ⟨u, hu, (mem_endsL.mp uE).2.2, ?_⟩
  by_cases c : i % 2 = 0
  · rw [if_pos c] at e1
    rw [if_neg (by omega), e1]
    exact (F.to u uE (by rw [← e1]; exact e2)).2.1
  · rw [if_neg c] at e1
    rw [if_pos (by omega), e1]
    exact (G.to u uE (by rw [← e1]; exact e2)).2.1
/-- the item ahead of one, going round -/
theorem Rg.back {n : Int} {f g : Int → Int} {w : List Int} {x z : Int} (F : Inv2 n f) (G : Inv2 n g) (h : Rg n f g w x) {i : Nat} (hz : w[i]? = some z) : ∃ u j, w[j]? = some u ∧ u ≠ 0 ∧ (if i % 2 = 0 then g z else f z) = u ∧ j = (if i = 0 then w.length - 1 else i - 1) := by
  have l := (List.getElem?_eq_some_iff.mp hz).1
  cases i with
  | zero =>
    rw [h.fst] at hz
    cases hz
    obtain ⟨u, hu, u0, e⟩ := h.pre (i := w.length - 1) F G (z := x) (by rw [show w.length - 1 + 1 = w.length by omega]; simp)
    rw [show w.length - 1 + 1 = w.length by omega, if_pos h.ev] at e
    exact ⟨u, _, hu, u0, by rw [if_pos rfl]; exact e, by rw [if_pos rfl]⟩
  | succ i =>
    obtain ⟨u, hu, u0, e⟩ := h.pre (i := i) F G (z := z) (by rw [List.getElem?_append_left l]; exact hz)
    exact ⟨u, _, hu, u0, e, by rw [if_neg (by omega)]; rfl⟩
theorem Rg.both {n : Int} {f g : Int → Int} {w : List Int} {x z : Int} (F : Inv2 n f) (G : Inv2 n g) (h : Rg n f g w x) (hz : z ∈ w) : (f z ≠ 0 ∧ f z ∈ w) ∧ (g z ≠ 0 ∧ g z ∈ w) := by
  obtain ⟨i, hi⟩ := List.getElem?_of_mem hz
  obtain ⟨u, _, u0, e, um⟩ := h.post hi
  obtain ⟨v, j, hv, v0, e', _⟩ := h.back F G hi
  have vm := List.mem_of_getElem? hv
  by_cases c : i % 2 = 0
  · rw [if_pos c] at e e'
    rw [e, e']; exact ⟨⟨u0, um⟩, ⟨v0, vm⟩⟩
  · rw [if_neg c] at e e'
    rw [e, e']; exact ⟨⟨v0, vm⟩, ⟨u0, um⟩⟩
theorem PartOk.clo {n : Int} {f g : Int → Int} {c : Cm} (F : Inv2 n f) (G : Inv2 n g) (h : PartOk n f g c) : Clo f g c.2 := by
  cases h with
  | odd h => exact fun z hz => ⟨(h.clo G F z hz).2, (h.clo G F z hz).1⟩
  | one h => exact h.clo F G
  | other h => exact fun z hz => ⟨(h.clo G F z hz).2, (h.clo G F z hz).1⟩
  | ring h => exact fun z hz => ⟨fun _ => (h.both F G hz).1.2, fun _ => (h.both F G hz).2.2⟩
/-! there is one -/
theorem ends_len_le {n : Int} (n0 : 0 ≤ n) {w : List Int} (nd : w.Nodup) (sub : ∀ z ∈ w, z ∈ endsL n) : (w.length : Int) ≤ 2 * n + 1 := by
  have := nodup_sub nd fun z hz => (List.mem_filter.mp (sub z hz)).1
  rw [rng_len] at this
  omega
theorem clo_swap {f g : Int → Int} {S : List Int} (h : Clo f g S) : Clo g f S := fun z hz => ⟨(h z hz).2, (h z hz).1⟩
end Vf
namespace Vf
open PySem PySem.Spec PyProof.Rows L2
/-! ### which component an end stands in -/
theorem flat_uniq : ∀ {C : List Cm}, (C.flatMap (·.2)).Nodup → ∀ {c c' : Cm} {e : Int}, c ∈ C → c' ∈ C → e ∈ c.2 → e ∈ c'.2 → c = c'
  | [], _, _, _, _, h, _, _, _ => nomatch h
  | a :: C, nd, c, c', e, h, h', k, k' => by
    rw [List.flatMap_cons, List.nodup_append] at nd
    obtain ⟨n1, n2, n3⟩ := nd
    rcases List.mem_cons.mp h with z | z <;> rcases List.mem_cons.mp h' with z' | z'
    · rw [z, z']
    · rw [z] at k
      exact absurd rfl (n3 e k e (List.mem_flatMap.mpr ⟨c', z', k'⟩))
    · rw [z'] at k'
      exact absurd rfl (n3 e k' e (List.mem_flatMap.mpr ⟨c, z, k⟩))
    · exact flat_uniq n2 z z' k k'
theorem Right.nd {n : Int} {f g : Int → Int} {C : List Cm} (h : Right n f g C) : (C.flatMap (·.2)).Nodup := h.pm.nodup_iff.mpr (endsL_nd n)
theorem Right.uniq {n : Int} {f g : Int → Int} {C : List Cm} (h : Right n f g C) {c c' : Cm} {e : Int} (hc : c ∈ C) (hc' : c' ∈ C) (k : e ∈ c.2) (k' : e ∈ c'.2) : c = c' := flat_uniq h.nd hc hc' k k'
theorem Right.ndC {n : Int} {f g : Int → Int} {C : List Cm} (h : Right n f g C) : C.Nodup := by
  have : ∀ C : List Cm, (C.flatMap (·.2)).Nodup → (∀ c ∈ C, c.2 ≠ []) → C.Nodup := fun C => by
    induction C with
    | nil => exact fun _ _ => List.Pairwise.nil
    | cons a C ih =>
      intro nd ne
      rw [List.flatMap_cons, List.nodup_append] at nd
      obtain ⟨n1, n2, n3⟩ := nd
      refine List.nodup_cons.mpr ⟨fun z => ?_, ih n2 fun c hc => ne c (List.mem_cons_of_mem _ hc)⟩
      obtain ⟨x, hx⟩ := List.exists_mem_of_ne_nil _ (ne a (by simp))
      exact n3 x hx x (List.mem_flatMap.mpr ⟨a, z, hx⟩) rfl
  exact this C h.nd fun c hc => (h.ok c hc).nd.2.2
theorem Right.few {n : Int} {f g : Int → Int} {C : List Cm} (h : Right n f g C) (n0 : 0 ≤ n) : (C.length : Int) ≤ 2 * n + 1 ∧ ∀ c ∈ C, (c.2.length : Int) ≤ 2 * n + 1 := by
  refine ⟨?_, fun c hc => ends_len_le n0 (h.ok c hc).nd.1 (h.ok c hc).nd.2.1⟩
  have l1 : ∀ C : List Cm, (∀ c ∈ C, c.2 ≠ []) → C.length ≤ (C.flatMap (·.2)).length := fun C => by
    induction C with
    | nil => exact fun _ => Nat.le_refl _
    | cons a C ih =>
      intro ne
      have := ih fun c hc => ne c (List.mem_cons_of_mem _ hc)
      have l : 0 < a.2.length := List.length_pos_iff.mpr (ne a (by simp))
      rw [List.flatMap_cons, List.length_append, List.length_cons]
      omega
  have := l1 C fun c hc => (h.ok c hc).nd.2.2
  have l2 := ends_len_le n0 (endsL_nd n) (fun z hz => hz)
  rw [h.pm.length_eq] at this
  omega
/-- an end from which a walk begins, or a component of one or two ends is told -/
def trig (f g : Int → Int) (x : Int) : Prop := f x = g x ∨ f x = 0 ∨ g x = 0
instance (f g : Int → Int) (x : Int) : Decidable (trig f g x) := by unfold trig; exact inferInstance
/-- what is next along a walk, or 0 -/
def hd0 : List Int → Int
  | [] => 0
  | y :: _ => y
theorem Wy.next {n : Int} {p q : Int → Int} {w dn rest : List Int} {x y z : Int} (h : Wy n p q w x y) (e : w = dn ++ z :: rest) : (if dn.length % 2 = 0 then p z else q z) = hd0 rest := by
  have hz : w[dn.length]? = some z := by rw [e]; simp
  cases rest with
  | nil =>
    have el : dn.length = w.length - 1 := by rw [e]; simp
    rw [el, h.lst] at hz
    cases hz
    rw [el]
    exact h.y0
  | cons v rest =>
    obtain ⟨u, hu, _, k⟩ := h.post hz (by rw [e]; simp)
    rw [k]
    have : w[dn.length + 1]? = some v := by rw [e]; simp
    rw [this] at hu
    cases hu
    rfl
theorem Rg.next {n : Int} {f g : Int → Int} {w dn rest : List Int} {x z : Int} (h : Rg n f g w x) (e : w = dn ++ z :: rest) : (if dn.length % 2 = 0 then f z else g z) = hd0 (rest ++ [x]) := by
  have hz : w[dn.length]? = some z := by rw [e]; simp
  obtain ⟨u, hu, _, k, _⟩ := h.post hz
  rw [k]
  rw [e, List.append_assoc] at hu
  rw [List.getElem?_append_right (by omega), show dn.length + 1 - dn.length = 1 by omega] at hu
  cases rest with
  | nil => simp at hu; exact hu.symm
  | cons v rest => simp at hu; exact hu.symm
/-! ### a list of truths as a table -/
structure IsV (n : Int) (s : Int → Bool) (ts : List V) : Prop where
  n0 : 0 ≤ n
  len : (ts.length : Int) = 2 * n + 1
  get : ∀ e, -n ≤ e → e ≤ n → atI ts e = some (.bl (s e))
theorem IsV.set {n : Int} {s : Int → Bool} {ts : List V} (h : IsV n s ts) {e : Int} (h1 : -n ≤ e) (h2 : e ≤ n) :
    ∃ j, ixN ts.length e = some j ∧ IsV n (fun x => if x = e then true else s x) (ts.set j (.bl true)) := by
  have hl := h.len
  have n0 := h.n0
  have ev := ixN_of (m := ts.length) (e := e) (by omega) (by omega)
  refine ⟨_, ev, n0, by rw [List.length_set]; exact hl, fun x x1 x2 => ?_⟩
  have ex := ixN_of (m := ts.length) (e := x) (by omega) (by omega)
  have gx := h.get x x1 x2
  unfold atI at gx ⊢
  rw [ex] at gx
  rw [List.length_set, ex]
  show (ts.set _ (V.bl true))[_]? = _
  rw [List.getElem?_set]
  by_cases c : x = e
  · subst c
    rw [if_pos rfl, if_pos rfl, if_pos]
    split <;> omega
  · rw [if_neg c, if_neg]
    · exact gx
    · intro z
      split at z <;> split at z <;> omega
/-! ### components as data -/
def wS : Wd → Str
  | .odd => "odd"
  | .one => "one"
  | .other => "other"
  | .ring => "ring"
def rk : Wd → Int
  | .odd => 0
  | .one => 1
  | .other => 2
  | .ring => 3
def key (c : Cm) : List Int := rk c.1 :: c.2
def dC (c : Cm) : PyData := .tuple [.str (wS c.1), dR c.2]
def dCs (C : List Cm) : PyData := .list (C.map dC)
def CM (H : Hp) (v : V) (c : Cm) : Prop := ∃ p e, v = .ref p ∧ H p = some (.tup [.str (wS c.1), .ref e]) ∧ H e = some (.lst (c.2.map V.int))
abbrev CMs (H : Hp) : List V → List Cm → Prop := Paired (CM H)
theorem CM.mono {H H' : Hp} {v : V} {c : Cm} (s : Same H H') (h : CM H v c) : CM H' v c := let ⟨p, e, e1, e2, e3⟩ := h; ⟨p, e, e1, s _ _ e2, s _ _ e3⟩
theorem CMs.mono {H H' : Hp} {xs : List V} {C : List Cm} (s : Same H H') (h : CMs H xs C) : CMs H' xs C := pair_mono h fun _ _ q => q.mono s
theorem CM.dp {K : PySem.W.Frag} {H : Hp} {v : V} {c : Cm} (h : CM H v c) : Dp K H v (dC c) := by
  obtain ⟨p, e, rfl, h1, h2⟩ := h
  exact .tup (sqt h1) (.cons (.str _) (.cons (.lst (sql h2) (dpa_ints c.2)) .nil))
theorem Right.perm {n : Int} {f g : Int → Int} {C C' : List Cm} (h : Right n f g C) (p : C'.Perm C) : Right n f g C' :=
  ⟨fun c hc => h.ok c (p.mem_iff.mp hc), (p.flatMap_right (fun c : Cm => c.2)).trans h.pm⟩
end Vf
namespace Vf
open PySem PySem.Spec PyProof.Rows L2
theorem hid_hid {t : List Addr} {H H' : Hp} (s : Same (Hid t H) H') : Same (Hid t H) (Hid t H') := fun b o e => by
  have := s b o e
  exact hid_get this (hid_un e)
/-- a component at some place that was new -/
def CMN (H0 H : Hp) (v : V) (c : Cm) : Prop := ∃ p e, v = .ref p ∧ H0 p = none ∧ H0 e = none ∧ H p = some (.tup [.str (wS c.1), .ref e]) ∧ H e = some (.lst (c.2.map V.int))
abbrev CMNs (H0 H : Hp) : List V → List Cm → Prop := Paired (CMN H0 H)
theorem CMN.mono {H0 H H' : Hp} {v : V} {c : Cm} (s : Same H H') (h : CMN H0 H v c) : CMN H0 H' v c := let ⟨p, e, e1, k1, k2, e2, e3⟩ := h; ⟨p, e, e1, k1, k2, s _ _ e2, s _ _ e3⟩
theorem CMNs.mono {H0 H H' : Hp} {xs : List V} {C : List Cm} (s : Same H H') (h : CMNs H0 H xs C) : CMNs H0 H' xs C := pair_mono h fun _ _ q => q.mono s
/-! ### the components found one by one -/
structure St1 (n : Int) (f g : Int → Int) (C : List Cm) (cur : Int) (C1 : List Cm) (ks : List Int) (s : Int → Bool) : Prop where
  sub : ∀ c ∈ C1, c ∈ C
  nd : C1.Nodup
  inC : ∀ c ∈ C, c ∈ C1 ↔ ∃ x ∈ c.2, x < cur ∧ trig f g x
  seen1 : ∀ x, s x = true → x = 0 ∨ ∃ c ∈ C1, x ∈ c.2
  seen2 : ∀ c ∈ C1, ∀ x ∈ c.2, s x = true ∨ (x < cur ∧ trig f g x)
  s0 : s 0 = true
  ks1 : ∀ x ∈ ks, x ∈ endsL n ∧ x < cur ∧ ¬ trig f g x
  ks2 : ∀ x ∈ endsL n, x < cur → ¬ trig f g x → x ∈ ks ∨ ∃ c ∈ C1, x ∈ c.2
  asc : ks.Pairwise (· < ·)
section
variable {n : Int} {f g : Int → Int} {C : List Cm}
theorem ends_c (R : Right n f g C) {c : Cm} (hc : c ∈ C) {x : Int} (hx : x ∈ c.2) : -n ≤ x ∧ x ≤ n ∧ x ≠ 0 := mem_endsL.mp ((R.ok c hc).nd.2.1 x hx)
theorem St1.skip (R : Right n f g C) {k : Int} {C1 : List Cm} {ks : List Int} {s : Int → Bool} (h : St1 n f g C k C1 ks s) (hs : s k = true) : St1 n f g C (k + 1) C1 ks s := by
  have kc : k = 0 ∨ ∃ c ∈ C1, k ∈ c.2 := h.seen1 k hs
  refine ⟨h.sub, h.nd, fun c hc => ⟨fun z => ?_, fun ⟨x, hx, hl, ht⟩ => ?_⟩, h.seen1, fun c hc x hx => ?_, h.s0, fun x hx => ?_, fun x hx hl ht => ?_, h.asc⟩
  · obtain ⟨x, hx, h1, h2⟩ := (h.inC c hc).mp z
    exact ⟨x, hx, by omega, h2⟩
  · by_cases e : x = k
    · subst e
      rcases kc with e0 | ⟨c', h1, h2⟩
      · exact absurd e0 (ends_c R hc hx).2.2
      · rw [R.uniq hc (h.sub c' h1) hx h2]; exact h1
    · exact (h.inC c hc).mpr ⟨x, hx, by omega, ht⟩
  · rcases h.seen2 c hc x hx with z | z
    · exact .inl z
    · exact .inr ⟨by omega, z.2⟩
  · have := h.ks1 x hx
    exact ⟨this.1, by omega, this.2.2⟩
  · by_cases e : x = k
    · subst e
      rcases kc with e0 | z
      · exact absurd e0 (mem_endsL.mp hx).2.2
      · exact .inr z
    · exact h.ks2 x hx (by omega) ht
theorem St1.add (R : Right n f g C) {k : Int} {C1 : List Cm} {ks : List Int} {s s' : Int → Bool} (h : St1 n f g C k C1 ks s) {c : Cm} (hc : c ∈ C) (hk : k ∈ c.2) (nc : c ∉ C1) (tk : trig f g k) (a1 : ∀ x, s x = true → s' x = true) (a2 : ∀ x, s' x = true → s x = true ∨ x = 0 ∨ x ∈ c.2) (a3 : ∀ x ∈ c.2, s' x = true ∨ x = k) : St1 n f g C (k + 1) (C1 ++ [c]) ks s' := by
  refine ⟨fun d hd => ?_, ?_, fun d hd => ⟨fun z => ?_, fun ⟨x, hx, hl, ht⟩ => ?_⟩, fun x hx => ?_, fun d hd x hx => ?_, a1 0 h.s0, fun x hx => ?_, fun x hx hl ht => ?_, h.asc⟩
  · rcases List.mem_append.mp hd with z | z
    · exact h.sub d z
    · rw [List.mem_singleton.mp z]; exact hc
  · rw [List.nodup_append]
    refine ⟨h.nd, by simp, fun a ha b hb e => ?_⟩
    rw [List.mem_singleton.mp hb] at e
    exact nc (e ▸ ha)
  · rcases List.mem_append.mp z with z | z
    · obtain ⟨x, hx, h1, h2⟩ := (h.inC d hd).mp z
      exact ⟨x, hx, by omega, h2⟩
    · rw [List.mem_singleton.mp z]
      exact ⟨k, hk, by omega, tk⟩
  · by_cases e : x = k
    · subst e
      rw [R.uniq hd hc hx hk]
      simp
    · exact List.mem_append_left _ ((h.inC d hd).mpr ⟨x, hx, by omega, ht⟩)
  · rcases a2 x hx with z | z | z
    · rcases h.seen1 x z with y | ⟨d, h1, h2⟩
      · exact .inl y
      · exact .inr ⟨d, List.mem_append_left _ h1, h2⟩
    · exact .inl z
    · exact .inr ⟨c, by simp, z⟩
  · rcases List.mem_append.mp hd with z | z
    · rcases h.seen2 d z x hx with y | y
      · exact .inl (a1 x y)
      · exact .inr ⟨by omega, y.2⟩
    · rw [List.mem_singleton.mp z] at hx
      rcases a3 x hx with y | y
      · exact .inl y
      · exact .inr ⟨by omega, y ▸ tk⟩
  · have := h.ks1 x hx
    exact ⟨this.1, by omega, this.2.2⟩
  · by_cases e : x = k
    · subst e; exact absurd tk ht
    · rcases h.ks2 x hx (by omega) ht with z | ⟨d, h1, h2⟩
      · exact .inl z
      · exact .inr ⟨d, List.mem_append_left _ h1, h2⟩
theorem St1.keep {k : Int} {C1 : List Cm} {ks : List Int} {s : Int → Bool} (h : St1 n f g C k C1 ks s) (kE : k ∈ endsL n) (tk : ¬ trig f g k) : St1 n f g C (k + 1) C1 (ks ++ [k]) s := by
  refine ⟨h.sub, h.nd, fun c hc => ⟨fun z => ?_, fun ⟨x, hx, hl, ht⟩ => ?_⟩, h.seen1, fun c hc x hx => ?_, h.s0, fun x hx => ?_, fun x hx hl ht => ?_, ?_⟩
  · obtain ⟨x, hx, h1, h2⟩ := (h.inC c hc).mp z
    exact ⟨x, hx, by omega, h2⟩
  · by_cases e : x = k
    · subst e; exact absurd ht tk
    · exact (h.inC c hc).mpr ⟨x, hx, by omega, ht⟩
  · rcases h.seen2 c hc x hx with z | z
    · exact .inl z
    · exact .inr ⟨by omega, z.2⟩
  · rcases List.mem_append.mp hx with z | z
    · have := h.ks1 x z
      exact ⟨this.1, by omega, this.2.2⟩
    · rw [List.mem_singleton.mp z]
      exact ⟨kE, by omega, tk⟩
  · by_cases e : x = k
    · subst e; exact .inl (by simp)
    · rcases h.ks2 x hx (by omega) ht with z | z
      · exact .inl (List.mem_append_left _ z)
      · exact .inr z
  · rw [List.pairwise_append]
    refine ⟨h.asc, List.pairwise_singleton _ _, fun a ha b hb => ?_⟩
    rw [List.mem_singleton.mp hb]
    exact (h.ks1 a ha).2.1
structure St2 (n : Int) (f g : Int → Int) (C C1 : List Cm) (ks dn : List Int) (C2 : List Cm) (s : Int → Bool) : Prop where
  sub : ∀ c ∈ C2, c ∈ C
  nd : C2.Nodup
  inC : ∀ c ∈ C, c ∈ C2 ↔ c ∈ C1 ∨ ∃ x ∈ dn, x ∈ c.2
  seen1 : ∀ x, s x = true → x = 0 ∨ ∃ c ∈ C2, x ∈ c.2
  seen2 : ∀ c ∈ C2, ∀ x ∈ c.2, x ∈ ks → s x = true
theorem St2.skip (R : Right n f g C) {C1 C2 : List Cm} {ks dn : List Int} {s : Int → Bool} {x : Int} (h : St2 n f g C C1 ks dn C2 s) (xE : x ∈ endsL n) (hs : s x = true) : St2 n f g C C1 ks (dn ++ [x]) C2 s := by
  refine ⟨h.sub, h.nd, fun c hc => ⟨fun z => ?_, fun z => ?_⟩, h.seen1, h.seen2⟩
  · rcases (h.inC c hc).mp z with y | ⟨u, h1, h2⟩
    · exact .inl y
    · exact .inr ⟨u, List.mem_append_left _ h1, h2⟩
  · rcases z with y | ⟨u, h1, h2⟩
    · exact (h.inC c hc).mpr (.inl y)
    · rcases List.mem_append.mp h1 with h1 | h1
      · exact (h.inC c hc).mpr (.inr ⟨u, h1, h2⟩)
      · rw [List.mem_singleton.mp h1] at h2
        rcases h.seen1 x hs with e | ⟨d, k1, k2⟩
        · exact absurd e (mem_endsL.mp xE).2.2
        · rw [R.uniq hc (h.sub d k1) h2 k2]; exact k1
theorem St2.add (R : Right n f g C) {C1 C2 : List Cm} {ks dn : List Int} {s s' : Int → Bool} {x : Int} {w : List Int} (h : St2 n f g C C1 ks dn C2 s) (hc : (.ring, w) ∈ C) (nc : (Wd.ring, w) ∉ C2) (hx : x ∈ w) (hs : ∀ z, s' z = true ↔ s z = true ∨ z ∈ w) : St2 n f g C C1 ks (dn ++ [x]) (C2 ++ [(.ring, w)]) s' := by
  refine ⟨fun d hd => ?_, ?_, fun d hd => ⟨fun z => ?_, fun z => ?_⟩, fun z hz => ?_, fun d hd z hz hk => ?_⟩
  · rcases List.mem_append.mp hd with z | z
    · exact h.sub d z
    · rw [List.mem_singleton.mp z]; exact hc
  · rw [List.nodup_append]
    refine ⟨h.nd, by simp, fun a ha b hb e => ?_⟩
    rw [List.mem_singleton.mp hb] at e
    exact nc (e ▸ ha)
  · rcases List.mem_append.mp z with z | z
    · rcases (h.inC d hd).mp z with y | ⟨u, h1, h2⟩
      · exact .inl y
      · exact .inr ⟨u, List.mem_append_left _ h1, h2⟩
    · rw [List.mem_singleton.mp z]
      exact .inr ⟨x, by simp, hx⟩
  · rcases z with y | ⟨u, h1, h2⟩
    · exact List.mem_append_left _ ((h.inC d hd).mpr (.inl y))
    · rcases List.mem_append.mp h1 with h1 | h1
      · exact List.mem_append_left _ ((h.inC d hd).mpr (.inr ⟨u, h1, h2⟩))
      · rw [List.mem_singleton.mp h1] at h2
        rw [R.uniq hd hc h2 hx]
        simp
  · rcases (hs z).mp hz with y | y
    · rcases h.seen1 z y with e | ⟨d, k1, k2⟩
      · exact .inl e
      · exact .inr ⟨d, List.mem_append_left _ k1, k2⟩
    · exact .inr ⟨(.ring, w), by simp, y⟩
  · rcases List.mem_append.mp hd with y | y
    · exact (hs z).mpr (.inl (h.seen2 d y z hz hk))
    · rw [List.mem_singleton.mp y] at hz
      exact (hs z).mpr (.inr hz)
theorem St2.done (R : Right n f g C) {C1 C2 : List Cm} {ks : List Int} {s1 s : Int → Bool} (o : St1 n f g C (n + 1) C1 ks s1) (h : St2 n f g C C1 ks ks C2 s) : C2.Perm C := by
  refine (List.perm_ext_iff_of_nodup h.nd R.ndC).mpr fun c => ⟨h.sub c, fun hc => ?_⟩
  by_cases n1 : c ∈ C1
  · exact (h.inC c hc).mpr (.inl n1)
  · have no : ∀ z ∈ c.2, ¬ trig f g z := fun z hz ht => n1 ((o.inC c hc).mpr ⟨z, hz, by have := ends_c R hc hz; omega, ht⟩)
    obtain ⟨x, hx⟩ := List.exists_mem_of_ne_nil _ (R.ok c hc).nd.2.2
    have xE := (R.ok c hc).nd.2.1 x hx
    rcases o.ks2 x xE (by have := mem_endsL.mp xE; omega) (no x hx) with z | ⟨d, k1, k2⟩
    · exact (h.inC c hc).mpr (.inr ⟨x, z, hx⟩)
    · rw [R.uniq (o.sub d k1) hc k2 hx] at k1
      exact absurd k1 n1
end
end Vf
namespace Vf
open PySem PySem.Spec PyProof.Rows L2
/-! ### the layout that a move makes -/
theorem lay_share {n : Int} {L : List (Int × Int)} (hL : Lay n L) {p q : Int × Int} (hp : p ∈ L) (hq : q ∈ L) {e : Int} (h1 : e = p.1 ∨ e = p.2) (h2 : e = q.1 ∨ e = q.2) : p = q := by
  have cp := hL.cp p hp
  have cq := hL.cp q hq
  have g : ∀ {x y : Int}, ((e, x) ∈ L ∨ (x, e) ∈ L) → ((e, y) ∈ L ∨ (y, e) ∈ L) → x = y := fun {x y} a b => by
    have a' := (parI_iff hL).mpr a
    have b' := (parI_iff hL).mpr b
    rw [a'] at b'
    exact Option.some.inj b'
  obtain ⟨a, b⟩ := p
  obtain ⟨c, d⟩ := q
  simp only at h1 h2 cp cq
  rcases h1 with rfl | rfl <;> rcases h2 with rfl | rfl
  · rw [g (.inl hp) (.inl hq)]
  · have := g (.inl hp) (.inr hq); omega
  · have := g (.inr hp) (.inl hq); omega
  · rw [g (.inr hp) (.inr hq)]
theorem cpl_two (a b : Int) : cpl a b = (a, b) ∨ cpl a b = (b, a) := by
  unfold cpl
  split
  · exact .inl rfl
  · exact .inr rfl
theorem mv_flat {n : Int} {L C J : List (Int × Int)} (hL : Lay n L) (h : mvD n L (mD C J) = true) : (∀ p ∈ C, p ∈ L) ∧ (flat J).Nodup ∧ (∀ e ∈ flat J, e ∈ flat C ∨ e ∉ flat L) ∧ (∀ p ∈ J, -n ≤ p.1 ∧ p.1 < p.2 ∧ p.2 ≤ n ∧ p.1 ≠ 0 ∧ p.2 ≠ 0) ∧ C.length ≤ 2 ∧ J.length ≤ 2 := by
  unfold mvD at h
  rw [Bool.and_eq_true] at h
  obtain ⟨h1, h2⟩ := h
  obtain ⟨C', J', he, hC, hJ, cC, cJ, aC, aJ, hl⟩ := formD_ok h1
  simp only [mD, PyData.tuple.injEq, List.cons.injEq, PyData.list.injEq, and_true] at he
  have eC : C = C' := by have := he.1; exact dL_inj (by unfold dL; rw [this])
  have eJ : J = J' := by have := he.2; exact dL_inj (by unfold dL; rw [this])
  subst eC
  subst eJ
  simp only [mD] at h2
  rw [hC, hJ] at h2
  simp only at h2
  unfold mvB at h2
  rw [Bool.and_eq_true, List.all_eq_true] at h2
  obtain ⟨inL, k⟩ := h2
  have inL' : ∀ p ∈ C, p ∈ L := fun p hp => of_decide_eq_true (inL p hp)
  refine ⟨inL', ?_, ?_, cJ, by omega, by omega⟩
  · match C, J, hl, k with
    | [p, q], J, hl, k =>
      have hp := inL' p (by simp)
      have hq := inL' q (by simp)
      have ne : p ≠ q := fun z => by
        subst z
        unfold ascP pltB at aC
        simp at aC
      have d1 : p.1 ≠ q.1 := fun z => ne (lay_share hL hp hq (.inl rfl) (.inl z))
      have d2 : p.1 ≠ q.2 := fun z => ne (lay_share hL hp hq (.inl rfl) (.inr z))
      have d3 : p.2 ≠ q.1 := fun z => ne (lay_share hL hp hq (.inr rfl) (.inl z))
      have d4 : p.2 ≠ q.2 := fun z => ne (lay_share hL hp hq (.inr rfl) (.inr z))
      have e1 := cC p (by simp)
      have e2 := cC q (by simp)
      unfold otherB at k
      rw [Bool.or_eq_true, decide_eq_true_eq, decide_eq_true_eq] at k
      rcases k with rfl | rfl
      · rcases cpl_two p.2 q.2 with z | z <;> rw [z] <;> simp [flat] <;> omega
      · rcases cpl_two p.2 q.1 with z | z <;> rw [z] <;> simp [flat] <;> omega
    | [p], [], _, _ => simp [flat]
    | [p], [q], _, k => have := cJ q (by simp); simp [flat]; omega
    | [], [q], _, k => have := cJ q (by simp); simp [flat]; omega
    | [], [], hl, _ => simp at hl
    | [], _ :: _ :: _, hl, _ => simp at hl
    | [_], _ :: _ :: _, hl, _ => simp at hl
    | _ :: _ :: _ :: _, _, hl, _ => simp at hl
  · match C, J, hl, k with
    | [p, q], J, hl, k =>
      unfold otherB at k
      rw [Bool.or_eq_true, decide_eq_true_eq, decide_eq_true_eq] at k
      intro e he
      refine .inl ?_
      rcases k with rfl | rfl
      · rcases cpl_two p.2 q.2 with z | z <;> rw [z] at he <;> simp [flat] at he ⊢ <;> omega
      · rcases cpl_two p.2 q.1 with z | z <;> rw [z] at he <;> simp [flat] at he ⊢ <;> omega
    | [p], [], _, _ => exact fun e he => by simp [flat] at he
    | [p], [q], _, k =>
      intro e he
      have hk : openB L p q = true := k
      unfold openB at hk
      simp [flat] at he ⊢
      split at hk
      · rename_i c
        have hk := of_decide_eq_true hk
        rcases he with rfl | rfl
        · exact .inl (by omega)
        · exact .inr (by simpa [flat] using hk)
      · have hk := of_decide_eq_true hk
        rcases he with rfl | rfl
        · exact .inr (by simpa [flat] using hk.2)
        · exact .inl (by omega)
    | [], [q], _, k =>
      intro e he
      have hk := of_decide_eq_true k
      simp [flat] at he
      rcases he with rfl | rfl
      · exact .inr hk.1
      · exact .inr hk.2
    | [], [], hl, _ => simp at hl
    | [], _ :: _ :: _, hl, _ => simp at hl
    | [_], _ :: _ :: _, hl, _ => simp at hl
    | _ :: _ :: _ :: _, _, hl, _ => simp at hl
theorem mv_nd {n : Int} {L C J : List (Int × Int)} (hL : Lay n L) (h : mvD n L (mD C J) = true) : (flat (L.filter (fun p => decide (p ∈ C) != true) ++ J)).Nodup := by
  obtain ⟨hC, nJ, dj, bJ, _, _⟩ := mv_flat hL h
  rw [flat_app, List.nodup_append]
  refine ⟨?_, nJ, fun a ha b hb e => ?_⟩
  · unfold flat
    refine List.Pairwise.sublist ?_ (show ((L.flatMap fun p => [p.1, p.2])).Nodup from hL.nd)
    have : ∀ L : List (Int × Int), ((L.filter (fun p => decide (p ∈ C) != true)).flatMap fun p => [p.1, p.2]).Sublist (L.flatMap fun p => [p.1, p.2]) := fun L => by
      induction L with
      | nil => exact List.Sublist.refl _
      | cons p L ih =>
        rw [List.filter_cons]
        split
        · rw [List.flatMap_cons, List.flatMap_cons]
          exact ih.append_left _
        · rw [List.flatMap_cons]
          exact ih.trans (List.sublist_append_right _ _)
    exact this L
  · subst e
    obtain ⟨p, hp, hep⟩ := mem_flat.mp ha
    have hp' := List.mem_filter.mp hp
    have pC : p ∉ C := by simpa using hp'.2
    rcases dj a hb with z | z
    · obtain ⟨q, hq, heq⟩ := mem_flat.mp z
      exact pC (lay_share hL hp'.1 (hC q hq) hep heq ▸ hq)
    · exact z (mem_flat.mpr ⟨p, hp'.1, hep⟩)
theorem mv_lay {n : Int} {L C J M : List (Int × Int)} (hL : Lay n L) (h : mvD n L (mD C J) = true) (pm : M.Perm (L.filter (fun p => decide (p ∈ C) != true) ++ J)) (asc : Asc M) : Lay n M := by
  refine ⟨hL.n1, hL.n60, fun p hp => ?_, asc, (flat_perm pm).nodup_iff.mpr (mv_nd hL h)⟩
  rcases List.mem_append.mp (pm.mem_iff.mp hp) with z | z
  · exact hL.cp p (List.mem_filter.mp z).1
  · exact (mv_flat hL h).2.2.2.1 p z
end Vf
namespace Vf
open PySem PySem.Spec PyProof.Rows L2
theorem sm_word (w : Wd) : Sm 13 1 (.str (wS w)) := by
  refine ⟨?_, by simp only [PyData.hasDict], by simp only [PyData.depth]; omega, ?_, by simp only [PyData.canLay0]; cases w <;> decide +kernel⟩
  · cases w <;> decide +kernel
  · cases w <;> decide +kernel
theorem Right.small {n : Int} {f g : Int → Int} {C D : List Cm} (R : Right n f g C) (n0 : 0 ≤ n) (n60 : n ≤ 60) (hD : ∀ c ∈ D, c ∈ C) (hl : D.length ≤ 121) : Sm 441048 4 (dCs D) := by
  have fw := R.few n0
  refine (Sm.lst (N := 3643) (k := 3) (ds := D.map dC) fun e he => ?_).mono (by rw [List.length_map]; omega) (by omega)
  obtain ⟨c, hc, rfl⟩ := List.mem_map.mp he
  have cC := hD c hc
  have := fw.2 c cC
  refine (Sm.tup (N := 1818) (k := 2) (ds := [.str (wS c.1), dR c.2]) fun e he => ?_).mono (by simp) (by omega)
  rcases List.mem_cons.mp he with rfl | he
  · exact (sm_word c.1).mono (by omega) (by omega)
  · rw [List.mem_singleton.mp he]
    refine (sm_ints (N := 121) (fun i hi => ?_) (by omega)).mono (by omega) (by omega)
    have := ends_c R cC hi
    omega
end Vf
namespace Vf
open PySem PySem.Spec PyProof.Rows L2
/-! ### the components of a layout and itself -/
end Vf
namespace Vf
open PySem PySem.Spec PyProof.Rows L2
/-! ### xs.remove(p), xs a list of pairs in which p stands -/
/-- what is left when the couplings of a move are taken away -/
theorem mv_left {n : Int} {L C J : List (Int × Int)} (hL : Lay n L) (h : mvD n L (mD C J) = true) : (L ++ J).Perm (C ++ (L.filter (fun p => decide (p ∈ C) != true) ++ J)) ∧ C.Nodup := by
  have hC := (mv_flat hL h).1
  have ndC : C.Nodup := by
    unfold mvD at h
    rw [Bool.and_eq_true] at h
    obtain ⟨C', J', he, _, _, _, _, aC, _, hl⟩ := formD_ok h.1
    simp only [mD, PyData.tuple.injEq, List.cons.injEq, PyData.list.injEq, and_true] at he
    have eC : C = C' := by have := he.1; exact dL_inj (by unfold dL; rw [this])
    subst eC
    match C, aC with
    | [], _ => exact List.Pairwise.nil
    | [_], _ => simp
    | [p, q], aC =>
      simp
      intro z
      subst z
      unfold ascP pltB at aC
      simp at aC
    | _ :: _ :: _ :: _, _ => simp at hl
  refine ⟨?_, ndC⟩
  rw [← List.append_assoc]
  refine List.Perm.append_right _ ?_
  have ndL := nd_of_flat hL.nd
  refine (List.perm_ext_iff_of_nodup ndL ?_).mpr fun p => ?_
  · rw [List.nodup_append]
    refine ⟨ndC, ndL.filter _, fun a ha b hb e => ?_⟩
    have := (List.mem_filter.mp hb).2
    simp at this
    exact this (e ▸ ha)
  · rw [List.mem_append, List.mem_filter]
    constructor
    · intro hp
      by_cases c : p ∈ C
      · exact .inl c
      · exact .inr ⟨hp, by simpa using c⟩
    · rintro (z | z)
      · exact hC p z
      · exact z.1
end Vf
namespace Vf
open PySem PySem.Spec PyProof.Rows L2
/-! ### comprehensions with two fors -/
/-- the inner for, its turn's end in Z -/
def LcIn (J : It) (g : TG) (tt : TT) (te : TE) (own : List Nat) (D : Addr) (σ : L2.St) (H : Hp) (Z : Hp → Prop) : Prop :=
  ∃ V : Nat → Nat → Hp → Prop, (∃ m, V 0 m H) ∧ ∀ k m G, V k m G →
    (J.stop k G ∧ Z G) ∨ (J.go k G ∧ ∃ T : Hp → Prop, (∀ G', T G' → ∃ m', m' < m ∧ V (k + 1) m' G') ∧ ∀ x G', J.yld k G x G' →
      g x (wipe σ own) G' fun τ G2 => wipe τ own = wipe σ own ∧ tt τ G2 fun c G3 =>
        if c = true then te τ G3 fun y G4 => ∃ got, G4 D = some (.lst got) ∧ got.length < sizeLine ∧ T (upd G4 D (.lst (got ++ [y])))
        else T G3)
def Lc2W (J : It) (g : TG) (tt : TT) (wi : TI) (g1 : TG) (tt1 : TT) (te : TE) (own own1 : List Nat) (D : Addr) (σ : L2.St) (H1 : Hp) (Qd : Hp → Prop) : Prop :=
  ∃ V : Nat → Nat → Hp → Prop, (∃ m, V 0 m (upd H1 D (.lst []))) ∧ ∀ k m G, V k m G →
    (J.stop k G ∧ Qd G) ∨ (J.go k G ∧ ∃ T : Hp → Prop, (∀ G', T G' → ∃ m', m' < m ∧ V (k + 1) m' G') ∧ ∀ x G', J.yld k G x G' →
      g x (wipe σ own) G' fun τ G2 => wipe τ own = wipe σ own ∧ tt τ G2 fun c G3 =>
        if c = true then wi τ G3 fun J1 G4 => LcIn J1 g1 tt1 te own1 D τ G4 T
        else T G3)
theorem r_lc2 {wi wi1 : TI} {g g1 : TG} {tt tt1 : TT} {te : TE} {vs vs1 : List Nat} {σ : L2.St} {H : Hp} {Q : VK} (h : wi σ H fun J H1 => ∀ D, H1 D = none → Lc2W J g tt wi1 g1 tt1 te vs vs1 D σ H1 (Q (.ref D))) : tLc2 wi g tt wi1 g1 tt1 te vs vs1 σ H Q := h
/-! ### moves made, in lists that are all new and all apart -/
abbrev Mv := List (Int × Int) × List (Int × Int)
/-- a move at a tuple, its two lists at given places -/
def MvB (H : Hp) (v : V) (b : Mv × Addr × Addr) : Prop := ∃ p x1 x2, v = .ref p ∧ H p = some (.tup [.ref b.2.1, .ref b.2.2]) ∧ H b.2.1 = some (.lst x1) ∧ Prs H x1 b.1.1 ∧ H b.2.2 = some (.lst x2) ∧ Prs H x2 b.1.2
theorem MvB.mono {H H' : Hp} {v : V} {b : Mv × Addr × Addr} (s : Same H H') (h : MvB H v b) : MvB H' v b := let ⟨p, x1, x2, e, h1, h2, h3, h4, h5⟩ := h; ⟨p, x1, x2, e, s _ _ h1, s _ _ h2, h3.mono s, s _ _ h4, h5.mono s⟩
theorem MvB.at' {H : Hp} {v : V} {b : Mv × Addr × Addr} (h : MvB H v b) : MvAt H v b.1.1 b.1.2 := let ⟨p, x1, x2, e, h1, h2, h3, h4, h5⟩ := h; ⟨p, _, _, x1, x2, e, h1, h2, h3, h4, h5⟩
abbrev MvBs (H : Hp) : List V → List (Mv × Addr × Addr) → Prop := Paired (MvB H)
theorem MvBs.mono {H H' : Hp} {xs : List V} {bs : List (Mv × Addr × Addr)} (s : Same H H') (h : MvBs H xs bs) : MvBs H' xs bs := pair_mono h fun _ _ q => q.mono s
def lists (bs : List (Mv × Addr × Addr)) : List Addr := bs.flatMap fun b => [b.2.1, b.2.2]
/-- a list of moves, all of whose lists are new -/
structure NewM (H H' : Hp) (p : Addr) (xs : List V) (ms : List Mv) : Prop where
  new : H p = none
  at' : H' p = some (.lst xs)
  more : ∃ bs, MvBs H' xs bs ∧ bs.map (·.1) = ms ∧ (lists bs).Nodup ∧ (∀ a ∈ lists bs, H a = none) ∧ p ∉ lists bs
/-- the moves that only join two of some ends -/
def joinsM : List Int → List Mv
  | [] => []
  | x :: r => r.map (fun y => ([], [(x, y)])) ++ joinsM r
def swapsM (p : Int × Int) : List (Int × Int) → List Mv
  | [] => []
  | q :: r => ([p, q], [(p.1, q.1), cpl p.2 q.2]) :: ([p, q], [(p.1, q.2), cpl p.2 q.1]) :: swapsM p r
theorem lists_app (a b : List (Mv × Addr × Addr)) : lists (a ++ b) = lists a ++ lists b := by unfold lists; rw [List.flatMap_append]
/-- moves in a list that grows -/
structure Grow (H0 H' : Hp) (D : Addr) (ms : List Mv) : Prop where
  ex : ∃ acc bs, H' D = some (.lst acc) ∧ MvBs (Hid [D] H') acc bs ∧ bs.map (·.1) = ms ∧ (lists bs).Nodup ∧ (∀ a ∈ lists bs, H0 a = none) ∧ D ∉ lists bs
theorem Grow.mono {H0 H1 H2 : Hp} {D : Addr} {ms : List Mv} (s : Same H1 H2) (h : Grow H0 H1 D ms) : Grow H0 H2 D ms := by
  obtain ⟨acc, bs, h1, h2, h3, h4, h5, h6⟩ := h.ex
  exact ⟨acc, bs, s _ _ h1, h2.mono (hid_hid (hid_le.trans s)), h3, h4, h5, h6⟩
/-- one move more, of new lists -/
theorem Grow.add {H0 H1 H2 : Hp} {D : Addr} {ms : List Mv} {m : Mv} {v : V} {a1 a2 : Addr} {acc : List V} (h : Grow H0 H1 D ms) (s01 : Same H0 H1) (hD : H0 D = none) (s : Same H1 H2) (n1 : H1 a1 = none) (n2 : H1 a2 = none) (ne : a1 ≠ a2) (hv : MvB H2 v (m, a1, a2)) (hacc : H2 D = some (.lst acc)) :
    Grow H0 (upd H2 D (.lst (acc ++ [v]))) D (ms ++ [m]) ∧ acc.length = ms.length := by
  obtain ⟨acc', bs, h1, h2, h3, h4, h5, h6⟩ := h.ex
  have ea : acc' = acc := by
    have := s _ _ h1
    rw [hacc] at this
    cases this
    rfl
  subst ea
  have d1 : a1 ≠ D := fun z => by rw [z, h1] at n1; cases n1
  have d2 : a2 ≠ D := fun z => by rw [z, h1] at n2; cases n2
  have old : ∀ a ∈ lists bs, ∃ o, H1 a = some o := fun a ha => by
    obtain ⟨b, hb, hab⟩ := List.mem_flatMap.mp ha
    obtain ⟨i, hi⟩ := List.getElem?_of_mem hb
    obtain ⟨x, hx, p, x1, x2, _, _, k1, _, k2, _⟩ := pair_get2 h2 hi
    simp at hab
    rcases hab with rfl | rfl
    · exact ⟨_, hid_le _ _ k1⟩
    · exact ⟨_, hid_le _ _ k2⟩
  have s2 : Same (Hid [D] H1) (upd H2 D (.lst (acc' ++ [v]))) := hid_set (hid_le.trans s) (by simp)
  refine ⟨⟨acc' ++ [v], bs ++ [(m, a1, a2)], upd_same, pair_app (h2.mono (hid_hid s2)) (.cons ?_ .nil), by rw [List.map_append, h3]; rfl, ?_, ?_, ?_⟩, by rw [pair_len h2, ← h3, List.length_map]⟩
  · obtain ⟨p, x1, x2, e, k0, k1, k2, k3, k4⟩ := hv
    have dp : p ≠ D := fun z => by rw [z, hacc] at k0; cases k0
    have pr : ∀ {xs : List V} {L : List (Int × Int)}, Prs H2 xs L → Prs (Hid [D] (upd H2 D (.lst (acc' ++ [v])))) xs L := fun {xs L} h => pair_mono h fun x p ⟨t, e, ht⟩ => ⟨t, e, by
      have dt : t ≠ D := fun z => by rw [z, hacc] at ht; cases ht
      exact hid_get (by rw [upd_ne dt]; exact ht) (by simpa using dt)⟩
    exact ⟨p, x1, x2, e, hid_get (by rw [upd_ne dp]; exact k0) (by simpa using dp), hid_get (by rw [upd_ne d1]; exact k1) (by simpa using d1), pr k2, hid_get (by rw [upd_ne d2]; exact k3) (by simpa using d2), pr k4⟩
  · rw [lists_app, List.nodup_append]
    refine ⟨h4, by simp [lists]; exact ne, fun a ha b hb e => ?_⟩
    obtain ⟨o, ho⟩ := old a ha
    simp [lists] at hb
    rcases hb with rfl | rfl
    · rw [e, n1] at ho; cases ho
    · rw [e, n2] at ho; cases ho
  · intro a ha
    rw [lists_app] at ha
    rcases List.mem_append.mp ha with z | z
    · exact h5 a z
    · simp [lists] at z
      rcases z with rfl | rfl
      · exact s01.free n1
      · exact s01.free n2
  · rw [lists_app]
    intro z
    rcases List.mem_append.mp z with z | z
    · exact h6 z
    · simp [lists] at z
      rcases z with z | z
      · exact d1 z.symm
      · exact d2 z.symm
theorem Grow.done {H0 H' : Hp} {D : Addr} {ms : List Mv} (h : Grow H0 H' D ms) (hD : H0 D = none) : ∃ xs, NewM H0 H' D xs ms := by
  obtain ⟨acc, bs, h1, h2, h3, h4, h5, h6⟩ := h.ex
  exact ⟨acc, hD, h1, bs, h2.mono hid_le, h3, h4, h5, h6⟩
/-- pairs in their order -/
def lePB (p q : Int × Int) : Bool := decide (p.1 < q.1 ∨ (p.1 = q.1 ∧ p.2 ≤ q.2))
def srtP (X : List (Int × Int)) : List (Int × Int) := X.mergeSort lePB
def newP (p : Int × Int) (E : List Int) : List (Int × Int) := E.map (cpl p.1) ++ E.map (cpl p.2)
def transM (p : Int × Int) (E : List Int) : List Mv := (srtP (newP p E)).map fun q => ([p], [q])
theorem cpl_inj {a b c d : Int} (h : cpl a b = cpl c d) : (a = c ∧ b = d) ∨ (a = d ∧ b = c) := by
  rcases cpl_two a b with z | z <;> rcases cpl_two c d with y | y <;> rw [z, y] at h <;> simp at h <;> omega
theorem lists_at {H : Hp} {xs : List V} {bs : List (Mv × Addr × Addr)} (h : MvBs H xs bs) : ∀ a ∈ lists bs, ∃ o, H a = some o := fun a ha => by
  obtain ⟨b, hb, hab⟩ := List.mem_flatMap.mp ha
  obtain ⟨i, hi⟩ := List.getElem?_of_mem hb
  obtain ⟨x, hx, p, x1, x2, _, _, k1, _, k2, _⟩ := pair_get2 h hi
  simp at hab
  rcases hab with rfl | rfl
  · exact ⟨_, k1⟩
  · exact ⟨_, k2⟩
/-- a list's place does not matter to moves that stand elsewhere -/
theorem mvb_hid {H : Hp} {D : Addr} {us : List V} (hD : H D = some (.lst us)) : ∀ {xs : List V} {bs : List (Mv × Addr × Addr)}, MvBs H xs bs → D ∉ lists bs → MvBs (Hid [D] H) xs bs := fun {xs bs} h => by
  induction h with
  | nil => exact fun _ => .nil
  | @cons x b xs bs hv t ih =>
    intro nd
    have nd1 : D ≠ b.2.1 ∧ D ≠ b.2.2 ∧ D ∉ lists bs := by
      simp only [lists, List.flatMap_cons, List.mem_append, not_or] at nd
      simp at nd
      exact ⟨nd.1.1, nd.1.2, by simpa [lists] using nd.2⟩
    refine .cons ?_ (ih nd1.2.2)
    obtain ⟨p, x1, x2, e, k0, k1, k2, k3, k4⟩ := hv
    have dp : p ≠ D := fun z => by rw [z, hD] at k0; cases k0
    have pr : ∀ {xs : List V} {L : List (Int × Int)}, Prs H xs L → Prs (Hid [D] H) xs L := fun {xs L} h => pair_mono h fun x p ⟨t, e, ht⟩ => ⟨t, e, by
      have dt : t ≠ D := fun z => by rw [z, hD] at ht; cases ht
      exact hid_get ht (by simpa using dt)⟩
    exact ⟨p, x1, x2, e, hid_get k0 (by simpa using dp), hid_get k1 (by simpa using Ne.symm nd1.1), pr k2, hid_get k3 (by simpa using Ne.symm nd1.2.1), pr k4⟩
/-- a list of new moves behind -/
theorem Grow.ext {H0 H1 H2 : Hp} {D R : Addr} {ms ms2 : List Mv} {acc ys : List V} (h : Grow H0 H1 D ms) (s01 : Same H0 H1) (s : Same H1 H2) (hn : NewM H1 H2 R ys ms2) (hacc : H2 D = some (.lst acc)) :
    Grow H0 (upd H2 D (.lst (acc ++ ys))) D (ms ++ ms2) ∧ acc.length = ms.length ∧ ys.length = ms2.length := by
  obtain ⟨acc', bs, h1, h2, h3, h4, h5, h6⟩ := h.ex
  obtain ⟨k1, k2, cs, k3, k4, k5, k6, k7⟩ := hn
  have ea : acc' = acc := by
    have := s _ _ h1
    rw [hacc] at this
    cases this
    rfl
  subst ea
  have dcs : D ∉ lists cs := fun z => by
    have := k6 D z
    rw [h1] at this; cases this
  have s2 : Same (Hid [D] H1) (upd H2 D (.lst (acc' ++ ys))) := hid_set (hid_le.trans s) (by simp)
  have s3 : Same (Hid [D] H2) (Hid [D] (upd H2 D (.lst (acc' ++ ys)))) := hid_hid (hid_set hid_le (by simp))
  refine ⟨⟨acc' ++ ys, bs ++ cs, upd_same, pair_app (h2.mono (hid_hid s2)) (MvBs.mono s3 (mvb_hid hacc k3 dcs)), by rw [List.map_append, h3, k4], ?_, ?_, ?_⟩, by rw [pair_len h2, ← h3, List.length_map], by rw [pair_len k3, ← k4, List.length_map]⟩
  · rw [lists_app, List.nodup_append]
    refine ⟨h4, k5, fun a ha b hb e => ?_⟩
    obtain ⟨o, ho⟩ := lists_at h2 a ha
    have := k6 b hb
    rw [← e, hid_le _ _ ho] at this
    cases this
  · intro a ha
    rw [lists_app] at ha
    rcases List.mem_append.mp ha with z | z
    · exact h5 a z
    · exact s01.free (k6 a z)
  · rw [lists_app]
    intro z
    rcases List.mem_append.mp z with z | z
    · exact h6 z
    · exact dcs z
def goM (E : List Int) : List (Int × Int) → List Mv
  | [] => []
  | p :: r => ([p], []) :: (transM p E ++ swapsM p r) ++ goM E r
/-- all moves of a layout -/
def movesM (n : Int) (L : List (Int × Int)) : List Mv := joinsM (opensL n L) ++ goM (opensL n L) L
/-- how many moves there are, told by the numbers of couplings and of open ends -/
def cntM (n : Int) (L : List (Int × Int)) : Int := (L.length : Int) + (2 * (n - L.length) * (2 * (n - L.length) - 1)).fdiv 2 + 2 * L.length * (2 * (n - L.length)) + L.length * (L.length - 1)
end Vf
namespace Vf
open PySem PySem.Spec PyProof.Rows L2
/-! ### how many moves there are -/
end Vf
namespace Vf
open PySem PySem.Spec PyProof.Rows L2
/-! ### moves in their order -/
/-- a move is ahead of another one, or it is this one -/
def leM (m k : Mv) : Bool := decide (flat m.1 < flat k.1 ∨ (flat m.1 = flat k.1 ∧ flat m.2 ≤ flat k.2))
def encM (m : Mv) : PyData := mD m.1 m.2
end Vf
namespace Vf
open PySem PySem.Spec PyProof.Rows L2
/-! ### all moves of a layout ascend -/
def ltM (a b : Mv) : Prop := flat a.1 < flat b.1 ∨ (flat a.1 = flat b.1 ∧ flat a.2 < flat b.2)
theorem ltM.le {a b : Mv} (h : ltM a b) : leM a b = true := decide_eq_true (h.elim .inl fun z => .inr ⟨z.1, List.le_of_lt z.2⟩)
theorem ltM.ne {a b : Mv} (h : ltM a b) : a ≠ b := fun e => by
  subst e
  rcases h with z | z
  · exact List.lt_irrefl _ z
  · exact List.lt_irrefl _ z.2
theorem transM_mem {p : Int × Int} {E : List Int} {m : Mv} (h : m ∈ transM p E) : ∃ q, q ∈ newP p E ∧ m = ([p], [q]) := by
  obtain ⟨q, hq, rfl⟩ := List.mem_map.mp h
  exact ⟨q, (List.mergeSort_perm _ _).mem_iff.mp hq, rfl⟩
theorem srtP_asc {X : List (Int × Int)} (nd : X.Nodup) : Asc (srtP X) := by
  have tr : ∀ a b c : Int × Int, lePB a b = true → lePB b c = true → lePB a c = true := fun a b c h1 h2 => by
    have h1 := of_decide_eq_true h1
    have h2 := of_decide_eq_true h2
    exact decide_eq_true (by omega)
  have to : ∀ a b : Int × Int, (lePB a b || lePB b a) = true := fun a b => by
    unfold lePB
    rw [Bool.or_eq_true, decide_eq_true_eq, decide_eq_true_eq]
    omega
  have s1 := List.pairwise_mergeSort tr to X
  have nd2 : (srtP X).Nodup := (List.mergeSort_perm X _).nodup_iff.mpr nd
  refine (s1.and nd2).imp fun {p q} h => ?_
  have h1 := of_decide_eq_true h.1
  have h2 := h.2
  by_cases c : p.1 = q.1
  · refine .inr ⟨c, ?_⟩
    have : p.2 ≠ q.2 := fun z => h2 (Prod.ext c z)
    omega
  · exact .inl (by omega)
theorem swapsM_mem {p : Int × Int} {m : Mv} : ∀ {O : List (Int × Int)}, m ∈ swapsM p O → ∃ q, q ∈ O ∧ (m = ([p, q], [(p.1, q.1), cpl p.2 q.2]) ∨ m = ([p, q], [(p.1, q.2), cpl p.2 q.1]))
  | [], h => nomatch h
  | q :: O, h => by
    rw [swapsM] at h
    rcases List.mem_cons.mp h with rfl | h
    · exact ⟨q, by simp, .inl rfl⟩
    · rcases List.mem_cons.mp h with rfl | h
      · exact ⟨q, by simp, .inr rfl⟩
      · obtain ⟨q', h1, h2⟩ := swapsM_mem h
        exact ⟨q', List.mem_cons_of_mem _ h1, h2⟩
theorem opens_asc (n : Int) (L : List (Int × Int)) : (opensL n L).Pairwise (· < ·) := (endsL_asc n).filter _
end Vf
namespace Vf
open PySem PySem.Spec PyProof.Rows L2
/-! ### these are all moves -/
theorem cpl_prI (a b : Int) : cpl a b = prI a b := by
  unfold cpl prI
  split
  · exact Prod.ext (by simp only; omega) (by simp only; omega)
  · exact Prod.ext (by simp only; omega) (by simp only; omega)
theorem joinsM_lt {m : Mv} : ∀ {es : List Int}, es.Pairwise (· < ·) → m ∈ joinsM es → ∃ x y, x ∈ es ∧ y ∈ es ∧ x < y ∧ m = ([], [(x, y)])
  | [], _, h => nomatch h
  | x :: r, hp, h => by
    obtain ⟨h1, h2⟩ := List.pairwise_cons.mp hp
    rw [joinsM] at h
    rcases List.mem_append.mp h with z | z
    · obtain ⟨y, hy, rfl⟩ := List.mem_map.mp z
      exact ⟨x, y, by simp, List.mem_cons_of_mem _ hy, h1 y hy, rfl⟩
    · obtain ⟨a, b, ha, hb, hab, rfl⟩ := joinsM_lt h2 z
      exact ⟨a, b, List.mem_cons_of_mem _ ha, List.mem_cons_of_mem _ hb, hab, rfl⟩
theorem joinsM_in {x y : Int} : ∀ {es : List Int}, es.Pairwise (· < ·) → x ∈ es → y ∈ es → x < y → (([], [(x, y)]) : Mv) ∈ joinsM es
  | [], _, h, _, _ => nomatch h
  | a :: r, hp, hx, hy, h => by
    obtain ⟨h1, h2⟩ := List.pairwise_cons.mp hp
    rw [joinsM]
    rcases List.mem_cons.mp hx with e | hx
    · subst e
      rcases List.mem_cons.mp hy with e | hy
      · omega
      · exact List.mem_append_left _ (List.mem_map.mpr ⟨y, hy, rfl⟩)
    · rcases List.mem_cons.mp hy with e | hy
      · have := h1 x hx; omega
      · exact List.mem_append_right _ (joinsM_in h2 hx hy h)
theorem swapsM_in {p q : Int × Int} {m : Mv} : ∀ {O : List (Int × Int)}, q ∈ O → (m = ([p, q], [(p.1, q.1), cpl p.2 q.2]) ∨ m = ([p, q], [(p.1, q.2), cpl p.2 q.1])) → m ∈ swapsM p O
  | [], h, _ => nomatch h
  | a :: O, h, e => by
    rw [swapsM]
    rcases List.mem_cons.mp h with rfl | h
    · rcases e with rfl | rfl
      · simp
      · simp
    · exact List.mem_cons_of_mem _ (List.mem_cons_of_mem _ (swapsM_in h e))
theorem goM_cut {E : List Int} {p : Int × Int} : ∀ {L : List (Int × Int)}, p ∈ L → (([p], []) : Mv) ∈ goM E L
  | [], h => nomatch h
  | a :: r, h => by
    rw [goM]
    rcases List.mem_cons.mp h with rfl | h
    · simp
    · exact List.mem_append_right _ (goM_cut h)
theorem goM_trans {E : List Int} {p q : Int × Int} : ∀ {L : List (Int × Int)}, p ∈ L → q ∈ newP p E → (([p], [q]) : Mv) ∈ goM E L
  | [], h, _ => nomatch h
  | a :: r, h, hq => by
    rw [goM]
    rcases List.mem_cons.mp h with rfl | h
    · refine List.mem_append_left _ (List.mem_cons_of_mem _ (List.mem_append_left _ ?_))
      exact List.mem_map.mpr ⟨q, (List.mergeSort_perm _ _).mem_iff.mpr hq, rfl⟩
    · exact List.mem_append_right _ (goM_trans h hq)
theorem goM_swap {E : List Int} {p q : Int × Int} {m : Mv} : ∀ {L : List (Int × Int)}, Asc L → p ∈ L → q ∈ L → (p.1 < q.1 ∨ (p.1 = q.1 ∧ p.2 < q.2)) → (m = ([p, q], [(p.1, q.1), cpl p.2 q.2]) ∨ m = ([p, q], [(p.1, q.2), cpl p.2 q.1])) → m ∈ goM E L
  | [], _, h, _, _, _ => nomatch h
  | a :: r, hL, hp, hq, lt, e => by
    obtain ⟨h1, h2⟩ := List.pairwise_cons.mp hL
    rw [goM]
    rcases List.mem_cons.mp hp with ep | hp'
    · subst ep
      rcases List.mem_cons.mp hq with eq | hq'
      · subst eq; omega
      · exact List.mem_append_left _ (List.mem_cons_of_mem _ (List.mem_append_right _ (swapsM_in hq' e)))
    · rcases List.mem_cons.mp hq with eq | hq'
      · subst eq; have := h1 p hp'; omega
      · exact List.mem_append_right _ (goM_swap h2 hp' hq' lt e)
theorem goM_kinds {E : List Int} {m : Mv} : ∀ {L : List (Int × Int)}, Asc L → m ∈ goM E L → ∃ p, p ∈ L ∧ (m = ([p], []) ∨ (∃ q, q ∈ newP p E ∧ m = ([p], [q])) ∨ ∃ q, q ∈ L ∧ (p.1 < q.1 ∨ (p.1 = q.1 ∧ p.2 < q.2)) ∧ (m = ([p, q], [(p.1, q.1), cpl p.2 q.2]) ∨ m = ([p, q], [(p.1, q.2), cpl p.2 q.1])))
  | [], _, h => nomatch h
  | p :: r, hL, h => by
    obtain ⟨h1, h2⟩ := List.pairwise_cons.mp hL
    rw [goM] at h
    rcases List.mem_append.mp h with h | h
    · rcases List.mem_cons.mp h with rfl | h
      · exact ⟨p, by simp, .inl rfl⟩
      · rcases List.mem_append.mp h with h | h
        · obtain ⟨q, hq, rfl⟩ := transM_mem h
          exact ⟨p, by simp, .inr (.inl ⟨q, hq, rfl⟩)⟩
        · obtain ⟨q, hq, e⟩ := swapsM_mem h
          exact ⟨p, by simp, .inr (.inr ⟨q, List.mem_cons_of_mem _ hq, h1 q hq, e⟩)⟩
    · obtain ⟨p', hp', k⟩ := goM_kinds h2 h
      refine ⟨p', List.mem_cons_of_mem _ hp', ?_⟩
      rcases k with k | k | ⟨q, hq, k⟩
      · exact .inl k
      · exact .inr (.inl k)
      · exact .inr (.inr ⟨q, List.mem_cons_of_mem _ hq, k⟩)
theorem movesM_all {n : Int} {L C J : List (Int × Int)} (hL : Lay n L) (h : mvD n L (mD C J) = true) : ((C, J) : Mv) ∈ movesM n L := by
  have hh := h
  unfold mvD at h
  rw [Bool.and_eq_true] at h
  obtain ⟨h1, h2⟩ := h
  obtain ⟨C', J', he, hC, hJ, cC, cJ, aC, aJ, hl⟩ := formD_ok h1
  simp only [mD, PyData.tuple.injEq, List.cons.injEq, PyData.list.injEq, and_true] at he
  have eC : C = C' := by have := he.1; exact dL_inj (by unfold dL; rw [this])
  have eJ : J = J' := by have := he.2; exact dL_inj (by unfold dL; rw [this])
  subst eC
  subst eJ
  simp only [mD] at h2
  rw [hC, hJ] at h2
  simp only at h2
  unfold mvB at h2
  rw [Bool.and_eq_true, List.all_eq_true] at h2
  obtain ⟨inL, k⟩ := h2
  have inL' : ∀ p ∈ C, p ∈ L := fun p hp => of_decide_eq_true (inL p hp)
  have op : ∀ e : Int, -n ≤ e → e ≤ n → e ≠ 0 → e ∉ flat L → e ∈ opensL n L := fun e a b c d => mem_opens.mpr ⟨⟨a, b, c⟩, d⟩
  unfold movesM
  match C, J, hl, k with
  | [p, q], J, hl, k =>
    have hp := inL' p (by simp)
    have hq := inL' q (by simp)
    have lt : p.1 < q.1 ∨ (p.1 = q.1 ∧ p.2 < q.2) := by
      have : pltB p q = true := aC
      unfold pltB at this
      simpa using this
    unfold otherB at k
    rw [Bool.or_eq_true, decide_eq_true_eq, decide_eq_true_eq] at k
    refine List.mem_append_right _ (goM_swap hL.asc hp hq lt ?_)
    rcases k with rfl | rfl
    · exact .inl rfl
    · exact .inr rfl
  | [p], [], _, _ => exact List.mem_append_right _ (goM_cut (inL' p (by simp)))
  | [p], [q], _, k =>
    have hp := inL' p (by simp)
    have cq := cJ q (by simp)
    refine List.mem_append_right _ (goM_trans hp ?_)
    have hk : openB L p q = true := k
    unfold openB at hk
    have c1 : ∀ {a b : Int}, a < b → cpl a b = (a, b) := fun {a b} h => if_pos h
    have c2 : ∀ {a b : Int}, a < b → cpl b a = (a, b) := fun {a b} h => if_neg (by omega)
    unfold newP
    split at hk
    · rename_i c
      have hk := of_decide_eq_true hk
      have ho := op q.2 (by omega) cq.2.2.1 cq.2.2.2.2 hk
      rcases c with c | c
      · exact List.mem_append_left _ (List.mem_map.mpr ⟨q.2, ho, by rw [← c]; exact c1 cq.2.1⟩)
      · exact List.mem_append_right _ (List.mem_map.mpr ⟨q.2, ho, by rw [← c]; exact c1 cq.2.1⟩)
    · have hk := of_decide_eq_true hk
      have ho := op q.1 cq.1 (by omega) cq.2.2.2.1 hk.2
      rcases hk.1 with c | c
      · exact List.mem_append_left _ (List.mem_map.mpr ⟨q.1, ho, by rw [← c]; exact c2 cq.2.1⟩)
      · exact List.mem_append_right _ (List.mem_map.mpr ⟨q.1, ho, by rw [← c]; exact c2 cq.2.1⟩)
  | [], [q], _, k =>
    have hk := of_decide_eq_true k
    have cq := cJ q (by simp)
    exact List.mem_append_left _ (joinsM_in (opens_asc n L) (op q.1 cq.1 (by omega) cq.2.2.2.1 hk.1) (op q.2 (by omega) cq.2.2.1 cq.2.2.2.2 hk.2) cq.2.1)
  | [], [], hl, _ => simp at hl
  | [], _ :: _ :: _, hl, _ => simp at hl
  | [_], _ :: _ :: _, hl, _ => simp at hl
  | _ :: _ :: _ :: _, _, hl, _ => simp at hl
end Vf
namespace Vf
open PySem PySem.Spec PyProof.Rows L2
/-! ### lists of lists of couplings -/
def LP (H : Hp) (v : V) (C : List (Int × Int)) : Prop := ∃ a ys, v = .ref a ∧ H a = some (.lst ys) ∧ Prs H ys C
abbrev LPs (H : Hp) : List V → List (List (Int × Int)) → Prop := Paired (LP H)
theorem LP.mono {H H' : Hp} {v : V} {C : List (Int × Int)} (s : Same H H') (h : LP H v C) : LP H' v C := let ⟨a, ys, e, h1, h2⟩ := h; ⟨a, ys, e, s _ _ h1, h2.mono s⟩
theorem LPs.mono {H H' : Hp} {xs : List V} {Cs : List (List (Int × Int))} (s : Same H H') (h : LPs H xs Cs) : LPs H' xs Cs := pair_mono h fun _ _ q => q.mono s
end Vf
namespace Vf
open PySem PySem.Spec PyProof.Rows L2
/-! ### the opposite move -/
theorem perm_mem {L C J M : List (Int × Int)} (pm : M.Perm (L.filter (fun p => decide (p ∈ C) != true) ++ J)) (p : Int × Int) : p ∈ M ↔ (p ∈ L ∧ p ∉ C) ∨ p ∈ J := by
  rw [pm.mem_iff, List.mem_append, List.mem_filter]
  simp
/-- open behind a move: an end that no coupling of it has, and that was open or is one of those cut -/
theorem open_after {n : Int} {L C J M : List (Int × Int)} (hL : Lay n L) (hC : ∀ p ∈ C, p ∈ L) (pm : M.Perm (L.filter (fun p => decide (p ∈ C) != true) ++ J)) {e : Int} (b : -n ≤ e ∧ e ≤ n ∧ e ≠ 0) (hJ : e ∉ flat J) (h : e ∉ flat L ∨ e ∈ flat C) : e ∈ opensL n M := by
  refine mem_opens.mpr ⟨b, fun z => ?_⟩
  obtain ⟨p, hp, ep⟩ := mem_flat.mp z
  rcases (perm_mem pm p).mp hp with ⟨pL, pC⟩ | pJ
  · rcases h with h | h
    · exact h (mem_flat.mpr ⟨p, pL, ep⟩)
    · obtain ⟨q, hq, eq⟩ := mem_flat.mp h
      exact pC (lay_share hL pL (hC q hq) ep eq ▸ hq)
  · exact hJ (mem_flat.mpr ⟨p, pJ, ep⟩)
theorem prI_self {p : Int × Int} (h : p.1 < p.2) : prI p.1 p.2 = p := Prod.ext (by show min p.1 p.2 = p.1; omega) (by show max p.1 p.2 = p.2; omega)
theorem mv_opp {n : Int} {L C J M : List (Int × Int)} (hL : Lay n L) (h : mvD n L (mD C J) = true) (hM : Lay n M) (pm : M.Perm (L.filter (fun p => decide (p ∈ C) != true) ++ J)) : mvD n M (mD J C) = true := by
  have hC := (mv_flat hL h).1
  have hm := movesM_all hL h
  unfold movesM at hm
  rcases List.mem_append.mp hm with hm | hm
  · obtain ⟨x, y, hx, hy, lt, e⟩ := joinsM_lt (opens_asc n L) hm
    cases e
    exact mv_cut hM ((perm_mem pm _).mpr (.inr (by simp)))
  · obtain ⟨p, hp, k⟩ := goM_kinds hL.asc hm
    have cp := hL.cp p hp
    rcases k with e | ⟨q, hq, e⟩ | ⟨q, hq, lt, k⟩
    · cases e
      have o1 := open_after hL hC pm (e := p.1) (by omega) (by simp [flat]) (.inr (by simp [flat]))
      have o2 := open_after hL hC pm (e := p.2) (by omega) (by simp [flat]) (.inr (by simp [flat]))
      have := mv_join hM o1 o2 (by omega)
      rwa [prI_self cp.2.1] at this
    · cases e
      have qM : q ∈ M := (perm_mem pm _).mpr (.inr (by simp))
      have fq : flat [q] = [q.1, q.2] := by simp [flat]
      unfold newP at hq
      rcases List.mem_append.mp hq with hq | hq
      · obtain ⟨o, ho, eo⟩ := List.mem_map.mp hq
        have ho' := (mem_opens.mp ho).2
        have n1 : o ≠ p.1 := fun z => ho' (mem_flat.mpr ⟨p, hp, .inl z⟩)
        have n2 : o ≠ p.2 := fun z => ho' (mem_flat.mpr ⟨p, hp, .inr z⟩)
        have eq2 : (p.1 = q.1 ∧ o = q.2) ∨ (p.1 = q.2 ∧ o = q.1) := by rcases cpl_two p.1 o with z | z <;> rw [z] at eo <;> rw [← eo] <;> simp
        have o2 := open_after hL hC pm (e := p.2) (by omega) (by rw [fq]; simp; omega) (.inr (by simp [flat]))
        have := mv_move hM qM (e := p.1) (f := p.2) (by omega) o2
        rwa [prI_self cp.2.1] at this
      · obtain ⟨o, ho, eo⟩ := List.mem_map.mp hq
        have ho' := (mem_opens.mp ho).2
        have n1 : o ≠ p.1 := fun z => ho' (mem_flat.mpr ⟨p, hp, .inl z⟩)
        have n2 : o ≠ p.2 := fun z => ho' (mem_flat.mpr ⟨p, hp, .inr z⟩)
        have eq2 : (p.2 = q.1 ∧ o = q.2) ∨ (p.2 = q.2 ∧ o = q.1) := by rcases cpl_two p.2 o with z | z <;> rw [z] at eo <;> rw [← eo] <;> simp
        have o1 := open_after hL hC pm (e := p.1) (by omega) (by rw [fq]; simp; omega) (.inr (by simp [flat]))
        have := mv_move hM qM (e := p.2) (f := p.1) (by omega) o1
        rw [prI_comm, prI_self cp.2.1] at this
        exact this
    · have cq := hL.cp q hq
      have ne : p ≠ q := fun z => by subst z; omega
      have d1 : p.1 ≠ q.1 := fun z => ne (lay_share hL hp hq (.inl rfl) (.inl z))
      have lt' : p.1 < q.1 := by omega
      have aC : Asc [p, q] := by
        refine List.pairwise_cons.mpr ⟨fun x hx => ?_, List.pairwise_singleton _ _⟩
        rw [List.mem_singleton.mp hx]; exact .inl lt'
      have asc : ∀ {b : Int} {o : Int × Int}, p.1 < o.1 → Asc [(p.1, b), o] := fun {b o} h => by
        refine List.pairwise_cons.mpr ⟨fun x hx => ?_, List.pairwise_singleton _ _⟩
        rw [List.mem_singleton.mp hx]; exact .inl h
      rcases k with e | e
      · cases e
        have m1 : (p.1, q.1) ∈ M := (perm_mem pm _).mpr (.inr (by simp))
        have m2 : cpl p.2 q.2 ∈ M := (perm_mem pm _).mpr (.inr (by simp))
        have two := cpl_two p.2 q.2
        have l2 : p.1 < (cpl p.2 q.2).1 := by rcases two with z | z <;> (rw [z]; simp only; omega)
        refine mv_swap hM m1 m2 (fun z => by have := congrArg Prod.fst z; simp only at this; omega) (x := p.2) (y := q.2) (by rcases two with z | z <;> (rw [z]; simp)) (List.Perm.refl _) ?_ (asc l2) aC
        rw [prI_self cp.2.1, prI_self cq.2.1]
      · cases e
        have m1 : (p.1, q.2) ∈ M := (perm_mem pm _).mpr (.inr (by simp))
        have m2 : cpl p.2 q.1 ∈ M := (perm_mem pm _).mpr (.inr (by simp))
        have two := cpl_two p.2 q.1
        have l2 : p.1 < (cpl p.2 q.1).1 := by rcases two with z | z <;> (rw [z]; simp only; omega)
        refine mv_swap hM m1 m2 (fun z => by have := congrArg Prod.fst z; simp only at this; omega) (x := p.2) (y := q.1) (by rcases two with z | z <;> (rw [z]; simp)) (List.Perm.refl _) ?_ (asc l2) aC
        show [p, q].Perm [prI p.1 p.2, prI q.2 q.1]
        rw [prI_self cp.2.1, prI_comm q.2 q.1, prI_self cq.2.1]
theorem mv_back {n : Int} {L C J M : List (Int × Int)} (hL : Lay n L) (h : mvD n L (mD C J) = true) (hM : Lay n M) (pm : M.Perm (L.filter (fun p => decide (p ∈ C) != true) ++ J)) : (M.filter (fun p => decide (p ∈ J) != true) ++ C).Perm L := by
  have hC := (mv_flat hL h).1
  have nd := nd_of_flat (mv_nd hL h)
  have ndC := (mv_left hL h).2
  have dis : ∀ p, p ∈ L → p ∉ C → p ∉ J := fun p pL pC pJ => (List.nodup_append.mp nd).2.2 p (List.mem_filter.mpr ⟨pL, by simpa using pC⟩) p pJ rfl
  have disC : ∀ p ∈ C, p ∉ M.filter (fun p => decide (p ∈ J) != true) := fun p pC z => by
    have z := List.mem_filter.mp z
    rcases (perm_mem pm p).mp z.1 with k | k
    · exact k.2 pC
    · simp [k] at z
  refine (List.perm_ext_iff_of_nodup ?_ (nd_of_flat hL.nd)).mpr fun p => ?_
  · rw [List.nodup_append]
    exact ⟨(nd_of_flat hM.nd).filter _, ndC, fun a ha b hb e => disC b hb (e ▸ ha)⟩
  · rw [List.mem_append, List.mem_filter]
    constructor
    · rintro (⟨k1, k2⟩ | k)
      · rcases (perm_mem pm p).mp k1 with y | y
        · exact y.1
        · simp [y] at k2
      · exact hC p k
    · intro k
      by_cases c : p ∈ C
      · exact .inr c
      · exact .inl ⟨(perm_mem pm p).mpr (.inl ⟨k, c⟩), by simpa using dis p k c⟩
end Vf
namespace Vf
open PySem PySem.Spec PyProof.Rows L2
/-! ### lists of moves, made in any sequence, sorted -/
theorem nw_eq {H Hn : Hp} {c : Addr} {o : HO} (nc : H c = none) (e : upd H c o = Hn) : Same H Hn ∧ Hn c = some o := e ▸ ⟨same_new nc, upd_same⟩
/-! all lists of up to two couplings -/
/-! by their forms -/
theorem sm_mv {n : Int} {L : List (Int × Int)} (hL : Lay n L) {m : Mv} (h : mvD n L (mD m.1 m.2) = true) : Sm 153 4 (encM m) := by
  have fl := mv_flat hL h
  have h60 := hL.n60
  have smC : ∀ {Y : List (Int × Int)}, (∀ p ∈ Y, -n ≤ p.1 ∧ p.2 ≤ n ∧ p.1 < p.2) → Y.length ≤ 2 → Sm 73 3 (dL Y) := fun {Y} h hl => (sm_lay (N := 2) (fun p hp => by have := h p hp; omega) hl).mono (by omega) (by omega)
  refine (Sm.tup (N := 73) (k := 3) (ds := [dL m.1, dL m.2]) fun d hd => ?_).mono (by simp) (by omega)
  rcases List.mem_cons.mp hd with rfl | hd
  · exact smC (fun p hp => by have := hL.cp p (fl.1 p hp); omega) fl.2.2.2.2.1
  · rw [List.mem_singleton.mp hd]; exact smC (fun p hp => by have := fl.2.2.2.1 p hp; omega) fl.2.2.2.2.2
abbrev MvL (H : Hp) : List V → List Mv → Prop := Paired (fun v m => MvAt H v m.1 m.2)
theorem MvL.mono {H H' : Hp} {xs : List V} {ms : List Mv} (s : Same H H') (h : MvL H xs ms) : MvL H' xs ms := pair_mono h fun _ _ z => z.mono s
theorem MvAt.dp {K : PySem.W.Frag} {H : Hp} {v : V} {m : Mv} (h : MvAt H v m.1 m.2) : Dp K H v (encM m) := by
  obtain ⟨p, a1, a2, x1, x2, e, h1, h2, h3, h4, h5⟩ := h
  exact e ▸ .tup (sqt h1) (.cons (dp_lay (sql h2) h3) (.cons (dp_lay (sql h4) h5) .nil))
theorem MvBs.at' {H : Hp} {xs : List V} {bs : List (Mv × Addr × Addr)} (h : MvBs H xs bs) : MvL H xs (bs.map (·.1)) := by
  induction h with
  | nil => exact .nil
  | cons h _ ih => exact .cons h.at' ih
/-- the draws' list is none of a move -/
theorem tap_no {H : Hp} {t a : Addr} {xs : List V} {C : List (Int × Int)} (ht : Tap H t) (ha : H a = some (.lst xs)) (hP : Prs H xs C) : a ≠ t := by
  rintro rfl
  obtain ⟨x, y, z, e, _⟩ := ht
  rw [e] at ha
  cases ha
  cases hP with
  | cons h _ => obtain ⟨q, z, _⟩ := h; cases z
/-- a move's lists, a number of items longer than its own -/
def LsW (H : Hp) (b : Mv × Addr × Addr) (k : Nat) : Prop := ∃ w1 w2, H b.2.1 = some (.lst w1) ∧ w1.length = b.1.1.length + k ∧ H b.2.2 = some (.lst w2) ∧ w2.length = b.1.2.length + k
theorem LsW.mono {H H' : Hp} {b : Mv × Addr × Addr} {k : Nat} (s : Same H H') (h : LsW H b k) : LsW H' b k := by
  obtain ⟨w1, w2, h2, l1, h3, l2⟩ := h
  exact ⟨w1, w2, s _ _ h2, l1, s _ _ h3, l2⟩
theorem MvB.w {H : Hp} {v : V} {b : Mv × Addr × Addr} (h : MvB H v b) : LsW H b 0 := by
  obtain ⟨p, x1, x2, e, h1, h2, h3, h4, h5⟩ := h
  exact ⟨x1, x2, h2, pair_len h3, h4, pair_len h5⟩
theorem LsW.upd {H : Hp} {b : Mv × Addr × Addr} {k : Nat} {D : Addr} {o : HO} (n1 : D ≠ b.2.1) (n2 : D ≠ b.2.2) (h : LsW H b k) : LsW (L2.upd H D o) b k := by
  obtain ⟨w1, w2, h2, l1, h3, l2⟩ := h
  exact ⟨w1, w2, by rw [upd_ne n1.symm]; exact h2, l1, by rw [upd_ne n2.symm]; exact h3, l2⟩
end Vf
namespace Vf
open PySem PySem.Spec PyProof.Rows L2
/-! ### the other outer end of a row, found by walking -/
def FarN (n : Int) (f : Int → Int) : Nat → Int → Int → Prop
  | 0, x, y => x = y ∧ f x = 0 ∧ -n ≤ x ∧ x ≤ n
  | k + 1, x, y => f x ≠ 0 ∧ (-n ≤ x ∧ x ≤ n) ∧ FarN n f k (-(f x)) y
def farI (f : Int → Int) : Nat → Int → Int
  | 0, x => x
  | k + 1, x => if f x = 0 then x else farI f k (-(f x))
/-- the outer end at which the row ends that begins with an open end -/
def farE (f : Int → Int) (e : Int) : Int := farI f 100 (-e)
theorem farI_of {n : Int} {f : Int → Int} : ∀ {k m : Nat} {x y : Int}, FarN n f k x y → k ≤ m → farI f m x = y
  | 0, 0, x, y, h, _ => h.1
  | 0, m + 1, x, y, h, _ => by unfold farI; rw [if_pos h.2.1]; exact h.1
  | k + 1, 0, x, y, h, l => absurd l (by omega)
  | k + 1, m + 1, x, y, h, l => by unfold farI; rw [if_neg h.1]; exact farI_of h.2.2 (by omega)
theorem far_row {n : Int} {f : Int → Int} : ∀ {t : List Int} {x : Int}, f x = nxR 0 t → -n ≤ x → x ≤ n → (∀ d y r, t = d ++ y :: r → f y = nxR 0 r ∧ y ≠ 0 ∧ -n ≤ y ∧ y ≤ n) → FarN n f t.length x ((x :: t).getLast (by simp))
  | [], x, h, h1, h2, _ => ⟨rfl, h, h1, h2⟩
  | y :: t, x, h, h1, h2, g => by
    obtain ⟨g1, g2, g3, g4⟩ := g [] y t rfl
    have e : f x = -y := h
    refine ⟨by omega, ⟨h1, h2⟩, ?_⟩
    rw [e, Int.neg_neg]
    rw [List.getLast_cons (by simp)]
    exact far_row g1 g3 g4 fun d z r er => g (y :: d) z r (by rw [er]; rfl)
/-- a row, told from an end of it on, in any system of rows and rings -/
theorem Sys.far {n : Int} {L : List (Int × Int)} {R G : List (List Int)} (h : Sys n L R G) (hL : Lay n L) {e : Int} {v : List Int} (hr : (-e :: v) ∈ R) : FarN n (ptb L) v.length (-e) ((-e :: v).getLast (by simp)) ∧ farE (ptb L) e = (-e :: v).getLast (by simp) := by
  obtain ⟨h1, h2⟩ := h.walkR hL (pre := []) (p := -e) (post := v) hr
  have rg := h.rangeR hr (x := -e) (by simp)
  have ea : ab (-e) = -e ∨ ab (-e) = e := by unfold ab; omega
  have F : FarN n (ptb L) v.length (-e) ((-e :: v).getLast (by simp)) := far_row h1 (by omega) (by omega) fun d y r er => let ⟨a, b, c, d', _⟩ := h2 d y r er; ⟨a, b, c, d'⟩
  have few := h.few hL.n60 (r := -e :: v) (.inl hr)
  exact ⟨F, farI_of F (by simp at few; omega)⟩
/-! ### tables of partners while a move is made -/
theorem ptb_iff {n : Int} {L : List (Int × Int)} (hL : Lay n L) {a b : Int} (a0 : a ≠ 0) (b0 : b ≠ 0) : ptb L a = b ↔ (a, b) ∈ L ∨ (b, a) ∈ L := by
  unfold ptb
  rw [if_neg a0]
  constructor
  · intro h
    cases hp : parI L a with
    | none => rw [hp] at h; exact absurd h.symm b0
    | some x => rw [hp] at h; exact (parI_iff hL).mp (by rw [hp]; exact congrArg some h)
  · intro h
    rw [(parI_iff hL).mpr h]; rfl
theorem ptb_some {n : Int} {L : List (Int × Int)} (hL : Lay n L) {a : Int} (h : a ∈ flat L) : ptb L a ≠ 0 ∧ ((a, ptb L a) ∈ L ∨ (ptb L a, a) ∈ L) := by
  obtain ⟨p, hp, e⟩ := mem_flat.mp h
  have cp := hL.cp p hp
  rcases e with rfl | rfl
  · have := (ptb_iff hL (a := p.1) (b := p.2) (by omega) (by omega)).mpr (.inl hp)
    rw [this]; exact ⟨by omega, .inl hp⟩
  · have := (ptb_iff hL (a := p.2) (b := p.1) (by omega) (by omega)).mpr (.inr hp)
    rw [this]; exact ⟨by omega, .inr hp⟩
/-- the layout that is left when the couplings of a move are cut -/
def cutL (L C : List (Int × Int)) : List (Int × Int) := L.filter fun p => decide (p ∈ C) != true
theorem flat_sub {L M : List (Int × Int)} (s : M.Sublist L) : (flat M).Sublist (flat L) := by
  induction s with
  | slnil => exact .refl _
  | cons a _ ih => rw [flat_cons]; exact (ih.cons _).cons _
  | cons_cons a _ ih => rw [flat_cons, flat_cons]; exact (ih.cons_cons _).cons_cons _
theorem Lay.sub {n : Int} {L M : List (Int × Int)} (hL : Lay n L) (s : M.Sublist L) : Lay n M := ⟨hL.n1, hL.n60, fun p hp => hL.cp p (s.subset hp), hL.asc.sublist s, hL.nd.sublist (flat_sub s)⟩
theorem cutL_lay {n : Int} {L : List (Int × Int)} (C : List (Int × Int)) (hL : Lay n L) : Lay n (cutL L C) := hL.sub List.filter_sublist
theorem cutL_mem {L C : List (Int × Int)} {p : Int × Int} : p ∈ cutL L C ↔ p ∈ L ∧ p ∉ C := by
  unfold cutL; rw [List.mem_filter]; simp
/-- an end of a move is open when its couplings are cut -/
theorem mv_open {n : Int} {L C J : List (Int × Int)} (hL : Lay n L) (h : mvD n L (mD C J) = true) {e : Int} (he : e ∈ flat C ∨ e ∈ flat J) : e ∈ endsL n ∧ e ∉ flat (cutL L C) := by
  obtain ⟨f1, f2, f3, f4, _⟩ := mv_flat hL h
  have hC : ∀ p ∈ C, -n ≤ p.1 ∧ p.1 < p.2 ∧ p.2 ≤ n ∧ p.1 ≠ 0 ∧ p.2 ≠ 0 := fun p hp => hL.cp p (f1 p hp)
  have no : e ∈ flat C → e ∉ flat (cutL L C) := fun hc z => by
    obtain ⟨p, hp, k⟩ := mem_flat.mp z
    obtain ⟨q, hq, k2⟩ := mem_flat.mp hc
    have hp' := cutL_mem.mp hp
    have := lay_share hL hp'.1 (f1 q hq) k k2
    subst this
    exact hp'.2 hq
  have sub : e ∉ flat L → e ∉ flat (cutL L C) := fun hl z => by
    obtain ⟨p, hp, k⟩ := mem_flat.mp z
    exact hl (mem_flat.mpr ⟨p, (cutL_mem.mp hp).1, k⟩)
  refine ⟨?_, ?_⟩
  · rcases he with he | he
    · obtain ⟨p, hp, k⟩ := mem_flat.mp he
      have := hC p hp
      exact mem_endsL.mpr (by omega)
    · obtain ⟨p, hp, k⟩ := mem_flat.mp he
      have := f4 p hp
      exact mem_endsL.mpr (by omega)
  · rcases he with he | he
    · exact no he
    · rcases f3 e he with z | z
      · exact no z
      · exact sub z
/-! ### the word for a move -/
def kSwap (fe : Int → Int) (p q : Int × Int) (J : List (Int × Int)) : Str :=
  if (fe p.1 = q.1 ∨ fe p.1 = q.2) ∨ (fe p.2 = q.1 ∨ fe p.2 = q.2) then
    if (if fe p.1 = q.1 ∨ fe p.1 = q.2 then cpl p.1 (fe p.1) else cpl p.2 (fe p.2)) ∈ J then
      (if (fe p.1 = q.1 ∨ fe p.1 = q.2) ∧ (fe p.2 = q.1 ∨ fe p.2 = q.2) then "part" else "let")
    else "turn"
  else if fe p.1 = p.2 then (if fe q.1 = q.2 then "merge" else "take") else (if fe q.1 = q.2 then "take" else "exchange")
def kTransE (p q : Int × Int) : Int × Int × Int :=
  let left := if p.1 = q.1 ∨ p.1 = q.2 then p.2 else p.1
  (left, p.1 + p.2 - left, q.1 + q.2 - (p.1 + p.2 - left))
def kTrans (fe : Int → Int) (p q : Int × Int) : Str :=
  if fe (kTransE p q).2.1 = (kTransE p q).1 then "take" else if fe (kTransE p q).2.1 = (kTransE p q).2.2 then "let" else if fe (kTransE p q).1 = (kTransE p q).2.2 then "turn" else "exchange"
def kindM (fe : Int → Int) : List (Int × Int) → List (Int × Int) → Str
  | [p, q], J => kSwap fe p q J
  | [p], [] => if fe p.1 = p.2 then "open" else "cut"
  | [p], q :: _ => kTrans fe p q
  | _, q :: _ => if fe q.1 = q.2 then "close" else "join"
  | _, [] => ""
/-- the kind of a move of a layout -/
def kindL (L C J : List (Int × Int)) : Str := kindM (farE (ptb (cutL L C))) C J
/-- the layout behind a move -/
def behind (L C J : List (Int × Int)) : List (Int × Int) := srtP (cutL L C ++ J)
theorem mv_sorted {n : Int} {L C J : List (Int × Int)} (hL : Lay n L) (h : mvD n L (mD C J) = true) : Lay n (behind L C J) ∧ (behind L C J).Perm (cutL L C ++ J) := by
  have pm : (behind L C J).Perm (cutL L C ++ J) := List.mergeSort_perm _ _
  exact ⟨mv_lay hL h pm (srtP_asc (nd_of_flat (mv_nd hL h))), pm⟩
end Vf
namespace Vf
open PySem PySem.Spec PyProof.Rows L2
/-! ### rows told by their outer ends and their pieces -/
abbrev Rw := Int × Int × List Int
def Ends (r : List Int) (a b : Int) : Prop := (∃ v, r = -a :: v) ∧ ∃ u, r = u ++ [b]
theorem pair_perm {α β : Type} {F : α → β → Prop} {L L' : List β} (p : L'.Perm L) : ∀ {xs : List α}, Paired F xs L → ∃ xs', xs'.Perm xs ∧ Paired F xs' L' := by
  induction p with
  | nil => intro xs h; exact ⟨xs, .refl _, h⟩
  | cons a _ ih =>
    intro xs h
    cases h with
    | cons h1 h2 =>
      obtain ⟨ys, p, g⟩ := ih h2
      exact ⟨_, p.cons _, .cons h1 g⟩
  | swap a b l =>
    intro xs h
    cases h with
    | cons h1 h2 =>
    cases h2 with
    | cons h3 h4 => exact ⟨_, .swap _ _ _, .cons h3 (.cons h1 h4)⟩
  | trans _ _ ih1 ih2 =>
    intro xs h
    obtain ⟨ys, p1, g1⟩ := ih2 h
    obtain ⟨zs, p2, g2⟩ := ih1 g1
    exact ⟨zs, p2.trans p1, g2⟩
def AS (n : Int) (B : List (Int × Int)) (T : List Rw) (Gs : List (List Int)) : Prop :=
  ∃ R G, Sys n B R G ∧ Paired (fun r t => Ends r t.1 t.2.1 ∧ t.2.2.Perm (r.map ab)) R T ∧ Paired (fun g s => s.Perm (g.map ab)) G Gs
variable {n : Int} {B B' : List (Int × Int)} {T T' P : List Rw} {Gs Gs' : List (List Int)} {a b c d : Int} {S S' : List Int}
def tripR (r : List Int) : Rw := (-(r.headD 0), r.getLastD 0, r.map ab)
theorem tripR_ends {r : List Int} (ne : r ≠ []) : Ends r (tripR r).1 (tripR r).2.1 := by
  match r, ne with
  | x :: t, _ =>
    refine ⟨⟨t, by simp [tripR]⟩, ⟨(x :: t).dropLast, ?_⟩⟩
    show _ = _ ++ [(x :: t).getLastD 0]
    rw [List.getLastD_cons, ← List.getLast_eq_getLastD (by simp : x :: t ≠ [])]
    exact (List.dropLast_concat_getLast _).symm
theorem AS.of {R G : List (List Int)} (h : Sys n B R G) : AS n B (R.map tripR) (G.map fun g => g.map ab) := by
  refine ⟨R, G, h, ?_, ?_⟩
  · have : ∀ {R : List (List Int)}, (∀ r ∈ R, r ≠ []) → Paired (fun r (t : Rw) => Ends r t.1 t.2.1 ∧ t.2.2.Perm (r.map ab)) R (R.map tripR) := fun {R} ne => by
      induction R with
      | nil => exact .nil
      | cons r R ih => exact .cons ⟨tripR_ends (ne r (by simp)), .refl _⟩ (ih fun r hr => ne r (List.mem_cons_of_mem _ hr))
    exact this h.neR
  · have : ∀ G : List (List Int), Paired (fun g s => s.Perm (g.map ab)) G (G.map fun g => g.map ab) := fun G => by
      induction G with
      | nil => exact .nil
      | cons g G ih => exact .cons (.refl _) ih
    exact this G
theorem AS.perm (h : AS n B T Gs) (p : T'.Perm T) : AS n B T' Gs := by
  obtain ⟨R, G, hs, h1, h2⟩ := h
  obtain ⟨R', pR, h1'⟩ := pair_perm p h1
  exact ⟨R', G, hs.perm pR (.refl _), h1', h2⟩
theorem AS.permB (h : AS n B T Gs) (p : B'.Perm B) : AS n B' T Gs := by
  obtain ⟨R, G, hs, h1, h2⟩ := h
  exact ⟨R, G, ⟨hs.neR, hs.neG, hs.pcs, hs.cp.trans p.symm⟩, h1, h2⟩
theorem Ends.rev {r : List Int} (h : Ends r a b) : Ends (revn r) b a := by
  obtain ⟨⟨v, hv⟩, ⟨u, hu⟩⟩ := h
  exact ⟨⟨revn u, by rw [hu, revn_snoc]⟩, ⟨revn v, by rw [hv, revn_cons, Int.neg_neg]⟩⟩
theorem AS.turn (h : AS n B ((a, b, S) :: T) Gs) : AS n B ((b, a, S) :: T) Gs := by
  obtain ⟨R, G, hs, h1, h2⟩ := h
  cases h1 with
  | cons k h1 =>
    rename_i r R'
    exact ⟨revn r :: R', G, Sys.turn (R' := [r]) hs rfl (revn_ab r) (by rw [revn_steps]; exact List.reverse_perm _), .cons ⟨k.1.rev, k.2.trans (revn_ab r).symm⟩ h1, h2⟩
theorem AS.join (h : AS n B ((a, b, S) :: (c, d, S') :: T) Gs) (p : B'.Perm (prI b c :: B)) : AS n B' ((a, d, S ++ S') :: T) Gs := by
  obtain ⟨R, G, hs, h1, h2⟩ := h
  cases h1 with
  | cons k1 h1 =>
  cases h1 with
  | cons k2 h1 =>
    rename_i r1 r2 R'
    obtain ⟨⟨⟨v1, e1⟩, ⟨u1, f1⟩⟩, q1⟩ := k1
    obtain ⟨⟨⟨v2, e2⟩, ⟨u2, f2⟩⟩, q2⟩ := k2
    simp only at e1 f1 e2 f2 q1 q2
    refine ⟨(r1 ++ r2) :: R', G, ⟨fun r hr => ?_, hs.neG, ?_, ?_⟩, .cons ⟨⟨⟨v1 ++ r2, by rw [e1]; rfl⟩, ⟨r1 ++ u2, by rw [f2, List.append_assoc]⟩⟩, by rw [List.map_append]; exact q1.append q2⟩ h1, h2⟩
    · rcases List.mem_cons.mp hr with rfl | hr
      · rw [e1]; simp
      · exact hs.neR r (List.mem_cons_of_mem _ (List.mem_cons_of_mem _ hr))
    · have := hs.pcs
      simp only [List.flatten_cons, List.map_append, List.append_assoc] at this ⊢
      exact this
    · have e : steps (r1 ++ r2) = steps r1 ++ prI b c :: steps r2 := by
        rw [f1, e2, List.append_assoc]
        show steps (u1 ++ b :: (-c :: v2)) = _
        rw [steps_app, steps_cons2, Int.neg_neg]
      have hc := hs.cp
      unfold cps at hc ⊢
      rw [List.flatMap_cons, e]
      simp only [List.flatMap_cons, List.append_assoc, List.cons_append] at hc ⊢
      exact (List.perm_middle.trans (hc.cons _)).trans p.symm
theorem AS.close (h : AS n B ((a, b, S) :: T) Gs) (p : B'.Perm (prI b a :: B)) : AS n B' T (S :: Gs) := by
  obtain ⟨R, G, hs, h1, h2⟩ := h
  cases h1 with
  | cons k1 h1 =>
    rename_i r R'
    obtain ⟨⟨⟨v1, e1⟩, ⟨u1, f1⟩⟩, q1⟩ := k1
    simp only at e1 f1 q1
    refine ⟨R', r :: G, ⟨fun r hr => hs.neR r (List.mem_cons_of_mem _ hr), fun g hg => ?_, ?_, ?_⟩, h1, .cons q1 h2⟩
    · rcases List.mem_cons.mp hg with rfl | hg
      · rw [e1]; simp
      · exact hs.neG g hg
    · have := hs.pcs
      simp only [List.flatten_cons, List.map_append, List.append_assoc] at this ⊢
      refine List.Perm.trans ?_ this
      rw [← List.append_assoc, ← List.append_assoc]
      exact List.Perm.append_right _ List.perm_append_comm
    · have e : ringC r = steps r ++ [prI b a] := by
        have e2 : ringC r = steps (r ++ [-a]) := by rw [e1]; rfl
        rw [e2, f1, List.append_assoc]
        show steps (u1 ++ b :: [-a]) = _
        rw [steps_app, steps_cons2, Int.neg_neg]
        rfl
      have hc := hs.cp
      unfold cps at hc ⊢
      rw [List.flatMap_cons, e]
      simp only [List.flatMap_cons, List.append_assoc, List.cons_append, List.nil_append] at hc ⊢
      refine List.Perm.trans ?_ ((hc.cons (prI b a)).trans p.symm)
      refine (List.Perm.append_left _ List.perm_middle).trans (List.perm_middle.trans (List.Perm.cons _ ?_))
      exact List.perm_append_comm_assoc _ _ _
theorem AS.far (h : AS n B ((a, b, S) :: T) Gs) (hL : Lay n B) : farE (ptb B) a = b := by
  obtain ⟨R, G, hs, h1, h2⟩ := h
  cases h1 with
  | cons k1 h1 =>
    rename_i r R'
    obtain ⟨⟨⟨v1, e1⟩, ⟨u1, f1⟩⟩, q1⟩ := k1
    simp only at e1 f1
    have := (hs.far hL (e := a) (v := v1) (by rw [← e1]; simp)).2
    rw [this]
    have e3 : -a :: v1 = u1 ++ [b] := by rw [← e1, f1]
    simp [e3]
/-- a row with an open end that is none of those ahead -/
theorem AS.pick (h : AS n B (P ++ T) Gs) (hL : Lay n B) {e : Int} (he : e ∈ endsL n) (ho : e ∉ flat B) (no : ∀ t ∈ P, e ≠ t.1 ∧ e ≠ t.2.1) : ∃ f S T', AS n B (P ++ (e, f, S) :: T') Gs := by
  have h0 := h
  obtain ⟨R, G, hs, h1, h2⟩ := h
  obtain ⟨r, hr, hk⟩ := hs.endRow he ho
  obtain ⟨i, hi, ei⟩ := List.mem_iff_getElem.mp hr
  obtain ⟨t, ht, ⟨⟨⟨v1, e1⟩, ⟨u1, f1⟩⟩, q1⟩⟩ := pair_get h1 (i := i) (x := r) (by rw [List.getElem?_eq_getElem hi, ei])
  have he : e = t.1 ∨ e = t.2.1 := by
    rcases hk with ⟨u, hu⟩ | ⟨v, hv⟩
    · have := congrArg List.getLast? (hu.symm.trans f1)
      simp at this
      exact .inr this
    · rw [e1] at hv
      injection hv with z _
      exact .inl (by omega)
  have htm := List.mem_of_getElem? ht
  have htT : t ∈ T := by
    rcases List.mem_append.mp htm with z | z
    · have := no t z
      rcases he with z | z
      · exact absurd z this.1
      · exact absurd z this.2
    · exact z
  obtain ⟨s, s', es⟩ := List.append_of_mem htT
  have pm : (t :: (P ++ (s ++ s'))).Perm (P ++ T) := by
    rw [es]
    refine List.Perm.trans ?_ (List.Perm.append_left P List.perm_middle.symm)
    exact List.perm_middle.symm
  have h3 := h0.perm pm
  have fin : ∀ {f : Int} {S : List Int}, AS n B ((e, f, S) :: (P ++ (s ++ s'))) Gs → ∃ f S T', AS n B (P ++ (e, f, S) :: T') Gs := fun {f S} z => ⟨f, S, s ++ s', z.perm List.perm_middle⟩
  obtain ⟨t1, t2, t3⟩ := t
  simp only at he
  rcases he with rfl | rfl
  · exact fin h3
  · exact fin h3.turn
/-- each piece stands once -/
theorem AS.pcs (h : AS n B T Gs) : (T.flatMap (fun t => t.2.2) ++ Gs.flatten).Perm (rng 1 n.toNat) := by
  obtain ⟨R, G, hs, h1, h2⟩ := h
  refine List.Perm.trans (List.Perm.append ?_ ?_) hs.pcs
  · clear hs h2
    induction h1 with
    | nil => exact .refl _
    | cons k _ ih => rw [List.flatMap_cons, List.flatten_cons, List.map_append]; exact k.2.append ih
  · clear hs h1
    induction h2 with
    | nil => exact .refl _
    | cons k _ ih => rw [List.flatten_cons, List.flatten_cons, List.map_append]; exact k.append ih
theorem AS.nd (h : AS n B T Gs) : (T.flatMap (fun t => t.2.2) ++ Gs.flatten).Nodup := h.pcs.symm.nodup ((rng_asc 1 n.toNat).imp fun h => by omega)
theorem AS.ne (h : AS n B T Gs) : (∀ t ∈ T, t.2.2 ≠ []) ∧ ∀ s ∈ Gs, s ≠ [] := by
  obtain ⟨R, G, hs, h1, h2⟩ := h
  constructor
  · intro t ht
    obtain ⟨i, hi, ei⟩ := List.mem_iff_getElem.mp ht
    obtain ⟨r, hr, ⟨⟨v, e⟩, _⟩, q⟩ := pair_get2 h1 (i := i) (p := t) (by rw [List.getElem?_eq_getElem hi, ei])
    intro z
    rw [z, e] at q
    have := q.length_eq
    simp at this
  · intro s hsm
    obtain ⟨i, hi, ei⟩ := List.mem_iff_getElem.mp hsm
    obtain ⟨g, hg, q⟩ := pair_get2 h2 (i := i) (p := s) (by rw [List.getElem?_eq_getElem hi, ei])
    intro z
    rw [z] at q
    have := q.length_eq
    have ne := hs.neG g (List.mem_of_getElem? hg)
    match g, ne with
    | x :: t, _ => simp at this
theorem AS.apart {t u : Rw} (h : AS n B (t :: u :: T) Gs) : ∀ z ∈ t.2.2, z ∉ u.2.2 := fun z hz hu => by
  have := h.nd
  rw [List.flatMap_cons, List.flatMap_cons, List.append_assoc, List.append_assoc] at this
  exact (List.nodup_append.mp this).2.2 z hz z (List.mem_append_left _ hu) rfl
/-! ### groups of pieces -/
def mS (l : List Int) : List Int := l.mergeSort fun x y => decide (x ≤ y)
theorem mS_perm (l : List Int) : (mS l).Perm l := List.mergeSort_perm _ _
theorem mS_srt (l : List Int) : (mS l).Pairwise (· ≤ ·) := by
  have := List.pairwise_mergeSort (le := fun x y : Int => decide (x ≤ y)) (fun a b c h1 h2 => decide_eq_true (Int.le_trans (of_decide_eq_true h1) (of_decide_eq_true h2))) (fun a b => by
    rcases Int.le_total a b with z | z <;> simp [z]) l
  exact this.imp fun z => of_decide_eq_true z
theorem srt_uniq {l m : List Int} (p : l.Perm m) (h : l.Pairwise (· ≤ ·)) (h2 : m.Pairwise (· ≤ ·)) : l = m :=
  List.Perm.eq_of_pairwise (le := fun p q : Int => p ≤ q) (fun a b _ _ h1 h2 => Int.le_antisymm h1 h2) h h2 p
theorem mS_eq {l m : List Int} : mS l = mS m ↔ l.Perm m :=
  ⟨fun h => (mS_perm l).symm.trans (h ▸ mS_perm m), fun h => srt_uniq ((mS_perm l).trans (h.trans (mS_perm m).symm)) (mS_srt l) (mS_srt m)⟩
def rsG (T : List Rw) : List (List Int) := srtR (T.map fun t => mS t.2.2)
def gsG (Gs : List (List Int)) : List (List Int) := srtR (Gs.map mS)
theorem srtR_iff {R R' : List (List Int)} : srtR R = srtR R' ↔ R.Perm R' := ⟨fun h => (srtR_perm R).symm.trans (h ▸ srtR_perm R'), srtR_eq⟩
theorem rsG_len (T : List Rw) : (rsG T).length = T.length := by unfold rsG; rw [(srtR_perm _).length_eq, List.length_map]
theorem gsG_len (Gs : List (List Int)) : (gsG Gs).length = Gs.length := by unfold gsG; rw [(srtR_perm _).length_eq, List.length_map]
/-- the word by the groups -/
def wordG (r g r' g' : List (List Int)) : Str :=
  if (r'.length : Int) - r.length = 1 ∧ (g'.length : Int) - g.length = 0 then "cut" else
  if (r'.length : Int) - r.length = -1 ∧ (g'.length : Int) - g.length = 0 then "join" else
  if (r'.length : Int) - r.length = 1 ∧ (g'.length : Int) - g.length = -1 then "open" else
  if (r'.length : Int) - r.length = -1 ∧ (g'.length : Int) - g.length = 1 then "close" else
  if (r'.length : Int) - r.length = 0 ∧ (g'.length : Int) - g.length = 1 then (if r = r' then "part" else "let") else
  if (r'.length : Int) - r.length = 0 ∧ (g'.length : Int) - g.length = -1 then (if r = r' then "merge" else "take") else
  if r = r' ∧ g = g' then "turn" else "exchange"
def oppW (w : Str) : Str :=
  if w = "cut" then "join" else if w = "join" then "cut" else if w = "open" then "close" else if w = "close" then "open" else if w = "let" then "take" else if w = "take" then "let" else if w = "part" then "merge" else if w = "merge" then "part" else if w = "turn" then "turn" else "exchange"
theorem wordG_opp (r g r' g' : List (List Int)) : oppW (wordG r g r' g') = wordG r' g' r g := by
  unfold wordG
  generalize hx : (r'.length : Int) - r.length = x
  generalize hy : (g'.length : Int) - g.length = y
  have hx' : (r.length : Int) - r'.length = -x := by omega
  have hy' : (g.length : Int) - g'.length = -y := by omega
  rw [hx', hy']
  have case : (x = 1 ∧ y = 0) ∨ (x = -1 ∧ y = 0) ∨ (x = 1 ∧ y = -1) ∨ (x = -1 ∧ y = 1) ∨ (x = 0 ∧ y = 1) ∨ (x = 0 ∧ y = -1) ∨ (¬ (x = 1 ∧ y = 0) ∧ ¬ (x = -1 ∧ y = 0) ∧ ¬ (x = 1 ∧ y = -1) ∧ ¬ (x = -1 ∧ y = 1) ∧ ¬ (x = 0 ∧ y = 1) ∧ ¬ (x = 0 ∧ y = -1)) := by omega
  have o1 : oppW "cut" = "join" := by decide +kernel
  have o2 : oppW "join" = "cut" := by decide +kernel
  have o3 : oppW "open" = "close" := by decide +kernel
  have o4 : oppW "close" = "open" := by decide +kernel
  have o5 : oppW "let" = "take" := by decide +kernel
  have o6 : oppW "take" = "let" := by decide +kernel
  have o7 : oppW "part" = "merge" := by decide +kernel
  have o8 : oppW "merge" = "part" := by decide +kernel
  have o9 : oppW "turn" = "turn" := by decide +kernel
  have o10 : oppW "exchange" = "exchange" := by decide +kernel
  rcases case with ⟨rfl, rfl⟩ | ⟨rfl, rfl⟩ | ⟨rfl, rfl⟩ | ⟨rfl, rfl⟩ | ⟨rfl, rfl⟩ | ⟨rfl, rfl⟩ | ⟨h1, h2, h3, h4, h5, h6⟩
  · simpa using o1
  · simpa using o2
  · simpa using o3
  · simpa using o4
  · by_cases h : r = r'
    · subst h; simpa using o7
    · have h' : ¬ r' = r := fun z => h z.symm
      simpa [h, h'] using o5
  · by_cases h : r = r'
    · subst h; simpa using o8
    · have h' : ¬ r' = r := fun z => h z.symm
      simpa [h, h'] using o6
  · have k1 : ¬ (-x = 1 ∧ -y = 0) := by omega
    have k2 : ¬ (-x = -1 ∧ -y = 0) := by omega
    have k3 : ¬ (-x = 1 ∧ -y = -1) := by omega
    have k4 : ¬ (-x = -1 ∧ -y = 1) := by omega
    have k5 : ¬ (-x = 0 ∧ -y = 1) := by omega
    have k6 : ¬ (-x = 0 ∧ -y = -1) := by omega
    rw [if_neg h1, if_neg h2, if_neg h3, if_neg h4, if_neg h5, if_neg h6, if_neg k1, if_neg k2, if_neg k3, if_neg k4, if_neg k5, if_neg k6]
    by_cases h : r = r' ∧ g = g'
    · rw [if_pos h, if_pos ⟨h.1.symm, h.2.symm⟩]; exact o9
    · rw [if_neg h, if_neg fun z => h ⟨z.1.symm, z.2.symm⟩]; exact o10
end Vf
namespace Vf
open PySem PySem.Spec PyProof.Rows L2
/-! ### the kind of a move is the word by its groups -/
variable {n : Int} {L M B C J : List (Int × Int)} {T T' X : List Rw} {Gs Gs' : List (List Int)}
def W (T : List Rw) (Gs : List (List Int)) (T' : List Rw) (Gs' : List (List Int)) : Str := wordG (rsG T) (gsG Gs) (rsG T') (gsG Gs')
theorem W_cut (h : T'.length = T.length + 1) (g : Gs'.length = Gs.length) : W T Gs T' Gs' = "cut" := by
  unfold W wordG; rw [rsG_len, rsG_len, gsG_len, gsG_len, if_pos (by omega)]
theorem W_join (h : T'.length + 1 = T.length) (g : Gs'.length = Gs.length) : W T Gs T' Gs' = "join" := by
  unfold W wordG; rw [rsG_len, rsG_len, gsG_len, gsG_len, if_neg (by omega), if_pos (by omega)]
theorem W_open (h : T'.length = T.length + 1) (g : Gs'.length + 1 = Gs.length) : W T Gs T' Gs' = "open" := by
  unfold W wordG; rw [rsG_len, rsG_len, gsG_len, gsG_len, if_neg (by omega), if_neg (by omega), if_pos (by omega)]
theorem W_close (h : T'.length + 1 = T.length) (g : Gs'.length = Gs.length + 1) : W T Gs T' Gs' = "close" := by
  unfold W wordG; rw [rsG_len, rsG_len, gsG_len, gsG_len, if_neg (by omega), if_neg (by omega), if_neg (by omega), if_pos (by omega)]
theorem W_more (h : T'.length = T.length) (g : Gs'.length = Gs.length + 1) : W T Gs T' Gs' = if rsG T = rsG T' then ("part" : Str) else "let" := by
  unfold W wordG; rw [rsG_len, rsG_len, gsG_len, gsG_len, if_neg (by omega), if_neg (by omega), if_neg (by omega), if_neg (by omega), if_pos (by omega)]
theorem W_less (h : T'.length = T.length) (g : Gs'.length + 1 = Gs.length) : W T Gs T' Gs' = if rsG T = rsG T' then ("merge" : Str) else "take" := by
  unfold W wordG; rw [rsG_len, rsG_len, gsG_len, gsG_len, if_neg (by omega), if_neg (by omega), if_neg (by omega), if_neg (by omega), if_neg (by omega), if_pos (by omega)]
theorem W_same (h : T'.length = T.length) (g : Gs'.length = Gs.length) : W T Gs T' Gs' = if rsG T = rsG T' ∧ gsG Gs = gsG Gs' then ("turn" : Str) else "exchange" := by
  unfold W wordG; rw [rsG_len, rsG_len, gsG_len, gsG_len, if_neg (by omega), if_neg (by omega), if_neg (by omega), if_neg (by omega), if_neg (by omega), if_neg (by omega)]
theorem rsG_one {t u : Rw} (e : t.2.2.Perm u.2.2) (X : List Rw) : rsG (t :: X) = rsG (u :: X) := by
  unfold rsG
  rw [List.map_cons, List.map_cons, mS_eq.mpr e]
theorem rsG_no1 {t u : Rw} {X : List Rw} (h : ¬ t.2.2.Perm u.2.2) : rsG (t :: X) ≠ rsG (u :: X) := fun z => by
  unfold rsG at z
  have p := srtR_iff.mp z
  rw [List.map_cons, List.map_cons] at p
  have c := p.count_eq (mS t.2.2)
  rw [List.count_cons_self, List.count_cons_of_ne (fun k => h (mS_eq.mp k.symm))] at c
  omega
theorem rsG_no2 {t1 t2 u1 u2 : Rw} {X : List Rw} (h1 : ¬ t1.2.2.Perm u1.2.2) (h2 : ¬ t1.2.2.Perm u2.2.2) : rsG (t1 :: t2 :: X) ≠ rsG (u1 :: u2 :: X) := fun z => by
  unfold rsG at z
  have p := srtR_iff.mp z
  simp only [List.map_cons] at p
  have p2 : ([mS t1.2.2, mS t2.2.2] ++ X.map fun t => mS t.2.2).Perm ([mS u1.2.2, mS u2.2.2] ++ X.map fun t => mS t.2.2) := p
  have m := ((List.perm_append_right_iff _).mp p2).mem_iff (a := mS t1.2.2)
  have : mS t1.2.2 ∈ [mS u1.2.2, mS u2.2.2] := m.mp (by simp)
  simp only [List.mem_cons, List.not_mem_nil, or_false] at this
  rcases this with k | k
  · exact h1 (mS_eq.mp k)
  · exact h2 (mS_eq.mp k)
/-- a piece more is no permutation -/
theorem no_perm {S S' X : List Int} (ne : S' ≠ []) (h : ∀ z ∈ S', z ∉ X) : ¬ X.Perm (S ++ S') := fun p => by
  match S', ne with
  | x :: t, _ => exact h x (by simp) (p.symm.subset (by simp))
theorem no_len {S S' : List Int} (ne : S' ≠ []) : ¬ (S ++ S').Perm S := fun p => by
  have := p.length_eq
  match S', ne with
  | x :: t, _ => simp at this
/-- one pair after another -/
theorem kind_join {x y : Int} (hB : Lay n B) (hx : x ∈ endsL n ∧ x ∉ flat B) (hy : y ∈ endsL n ∧ y ∉ flat B) (ne : x ≠ y) (pm : M.Perm (prI x y :: B)) :
    ∃ T Gs T' Gs', AS n B T Gs ∧ AS n M T' Gs' ∧ (if farE (ptb B) x = y then ("close" : Str) else "join") = W T Gs T' Gs' ∧ (if farE (ptb B) x = y then ("open" : Str) else "cut") = W T' Gs' T Gs := by
  obtain ⟨R, G, hs⟩ := sys_exists hB
  have h0 := AS.of hs
  obtain ⟨f, S, T1, h1⟩ := AS.pick (P := []) h0 hB hx.1 hx.2 (fun _ z => nomatch z)
  have hf : farE (ptb B) x = f := AS.far h1 hB
  by_cases c : f = y
  · subst c
    rw [if_pos hf, if_pos hf]
    exact ⟨_, _, _, _, h1, h1.close (pm.trans (by rw [prI_comm])), (W_close rfl rfl).symm, (W_open rfl rfl).symm⟩
  · rw [if_neg (by rw [hf]; exact c), if_neg (by rw [hf]; exact c)]
    obtain ⟨g, S2, T2, h2⟩ := AS.pick (P := [(x, f, S)]) h1 hB hy.1 hy.2 (fun t ht => by
      rw [List.mem_singleton.mp ht]; exact ⟨ne.symm, fun z => c z.symm⟩)
    have h2' : AS n B ((x, f, S) :: (y, g, S2) :: T2) _ := h2
    exact ⟨_, _, _, _, h2', h2'.turn.join pm, (W_join rfl rfl).symm, (W_cut rfl rfl).symm⟩
theorem finW {w : Str} (e : w = W T Gs T' Gs') (h : w ≠ "exchange" ∨ (T'.length = T.length ∧ Gs'.length = Gs.length)) : w = W T Gs T' Gs' ∧ (W T Gs T' Gs' = "exchange" → T'.length = T.length ∧ Gs'.length = Gs.length) :=
  ⟨e, fun z => h.elim (fun n => absurd (e.trans z) n) id⟩
theorem kind_trans {a e o : Int} (hB : Lay n B) (ha : a ∈ endsL n ∧ a ∉ flat B) (he : e ∈ endsL n ∧ e ∉ flat B) (ho : o ∈ endsL n ∧ o ∉ flat B) (ae : a ≠ e) (ao : a ≠ o) (eo : e ≠ o)
    (pL : L.Perm (prI a e :: B)) (pM : M.Perm (prI e o :: B)) :
    ∃ T Gs T' Gs', AS n L T Gs ∧ AS n M T' Gs' ∧ (if farE (ptb B) e = a then ("take" : Str) else if farE (ptb B) e = o then "let" else if farE (ptb B) a = o then "turn" else "exchange") = W T Gs T' Gs' ∧ (W T Gs T' Gs' = "exchange" → T'.length = T.length ∧ Gs'.length = Gs.length) := by
  obtain ⟨R, G, hs⟩ := sys_exists hB
  have h0 := AS.of hs
  obtain ⟨f, S, T1, h1⟩ := AS.pick (P := []) h0 hB he.1 he.2 (fun _ z => nomatch z)
  have hf : farE (ptb B) e = f := AS.far h1 hB
  rw [hf]
  by_cases c1 : f = a
  · subst c1
    rw [if_pos rfl]
    obtain ⟨g, S2, T2, h2⟩ := AS.pick (P := [(e, f, S)]) h1 hB ho.1 ho.2 (fun t ht => by rw [List.mem_singleton.mp ht]; exact ⟨eo.symm, ao.symm⟩)
    have h2' : AS n B ((e, f, S) :: (o, g, S2) :: T2) _ := h2
    have hL := h2'.close pL
    have hM := h2'.turn.join pM
    refine ⟨_, _, _, _, hL, hM, finW ?_ (by first | exact Or.inl (by decide +kernel) | exact Or.inr ⟨rfl, rfl⟩)⟩
    rw [W_less (by rfl) (by rfl), if_neg]
    refine rsG_no1 fun p => ?_
    exact no_len (h2'.ne.1 (e, f, S) (by simp)) (List.perm_append_comm.trans p.symm)
  rw [if_neg c1]
  by_cases c2 : f = o
  · subst c2
    rw [if_pos rfl]
    obtain ⟨g, S2, T2, h2⟩ := AS.pick (P := [(e, f, S)]) h1 hB ha.1 ha.2 (fun t ht => by rw [List.mem_singleton.mp ht]; exact ⟨ae, ao⟩)
    have h2' : AS n B ((e, f, S) :: (a, g, S2) :: T2) _ := h2
    have hL := h2'.turn.join (pL.trans (by rw [prI_comm]))
    have hM := h2'.close (pM.trans (by rw [prI_comm]))
    refine ⟨_, _, _, _, hL, hM, finW ?_ (by first | exact Or.inl (by decide +kernel) | exact Or.inr ⟨rfl, rfl⟩)⟩
    rw [W_more (by rfl) (by rfl), if_neg]
    refine rsG_no1 fun p => ?_
    exact no_len (h2'.ne.1 (e, f, S) (by simp)) (List.perm_append_comm.trans p)
  rw [if_neg c2]
  obtain ⟨g, S2, T2, h2⟩ := AS.pick (P := [(e, f, S)]) h1 hB ha.1 ha.2 (fun t ht => by rw [List.mem_singleton.mp ht]; exact ⟨ae, fun z => c1 z.symm⟩)
  have h2' : AS n B ((e, f, S) :: (a, g, S2) :: T2) _ := h2
  have hg : farE (ptb B) a = g := AS.far (h2'.perm (List.Perm.swap _ _ _)) hB
  rw [hg]
  by_cases c3 : g = o
  · subst c3
    rw [if_pos rfl]
    have hL := h2'.turn.join (pL.trans (by rw [prI_comm]))
    have hM := (((h2'.perm (List.Perm.swap _ _ _)).turn.perm (List.Perm.swap _ _ _)).turn).join pM
    refine ⟨_, _, _, _, hL, hM, finW ?_ (by first | exact Or.inl (by decide +kernel) | exact Or.inr ⟨rfl, rfl⟩)⟩
    rw [W_same (by rfl) (by rfl), if_pos ⟨rsG_one (.refl _) _, rfl⟩]
  · rw [if_neg c3]
    obtain ⟨k, S3, T3, h3⟩ := AS.pick (P := [(e, f, S), (a, g, S2)]) h2 hB ho.1 ho.2 (fun t ht => by
      rcases List.mem_cons.mp ht with rfl | ht
      · exact ⟨eo.symm, fun z => c2 z.symm⟩
      · rw [List.mem_singleton.mp ht]; exact ⟨ao.symm, fun z => c3 z.symm⟩)
    have h3' : AS n B ((e, f, S) :: (a, g, S2) :: (o, k, S3) :: T3) _ := h3
    have hL := h3'.turn.join (pL.trans (by rw [prI_comm]))
    have hM0 : AS n B ((e, f, S) :: (o, k, S3) :: (a, g, S2) :: T3) _ := h3'.perm (List.Perm.cons _ (List.Perm.swap _ _ _))
    have hM := hM0.turn.join pM
    refine ⟨_, _, _, _, hL, hM, finW ?_ (by first | exact Or.inl (by decide +kernel) | exact Or.inr ⟨rfl, rfl⟩)⟩
    have ap : ∀ z ∈ S2, z ∉ S3 := AS.apart (t := (a, g, S2)) (u := (o, k, S3)) (T := (e, f, S) :: T3) (h3'.perm ((List.Perm.cons _ (List.Perm.swap _ _ _)).trans (List.Perm.swap _ _ _)))
    have ap2 : ∀ z ∈ S3, z ∉ S ++ S2 := fun z hz hm => by
      rcases List.mem_append.mp hm with hm | hm
      · exact AS.apart (t := (e, f, S)) (u := (o, k, S3)) (T := (a, g, S2) :: T3) hM0 z hm hz
      · exact ap z hm hz
    rw [W_same (by rfl) (by rfl), if_neg]
    intro z
    refine rsG_no2 ?_ ?_ z.1
    · exact no_perm (h3'.ne.1 (o, k, S3) (by simp)) ap2
    · exact no_len (h3'.ne.1 (e, f, S) (by simp)) ∘ fun p => List.perm_append_comm.trans p
theorem AS.s12 {t u : Rw} (h : AS n B (t :: u :: X) Gs) : AS n B (u :: t :: X) Gs := h.perm (List.Perm.swap _ _ _)
theorem AS.s23 {t u v : Rw} (h : AS n B (t :: u :: v :: X) Gs) : AS n B (t :: v :: u :: X) Gs := h.perm ((List.Perm.swap _ _ _).cons _)
theorem AS.s34 {t u v w : Rw} (h : AS n B (t :: u :: v :: w :: X) Gs) : AS n B (t :: u :: w :: v :: X) Gs := h.perm (((List.Perm.swap _ _ _).cons _).cons _)
theorem far_sym (hB : Lay n B) {x y : Int} (hx : x ∈ endsL n ∧ x ∉ flat B) (h : farE (ptb B) x = y) : farE (ptb B) y = x := by
  obtain ⟨R, G, hs⟩ := sys_exists hB
  obtain ⟨f, S, T1, h1⟩ := AS.pick (P := []) (AS.of hs) hB hx.1 hx.2 (fun _ z => nomatch z)
  have hf : farE (ptb B) x = f := AS.far h1 hB
  rw [hf] at h
  subst h
  exact AS.far (AS.turn (T := T1) h1) hB
theorem gsG_one {s s' : List Int} (e : s.Perm s') (X : List (List Int)) : gsG (s :: X) = gsG (s' :: X) := by
  unfold gsG
  rw [List.map_cons, List.map_cons, mS_eq.mpr e]
def swW (fe : Int → Int) (l h x y : Int) : Str :=
  if (fe l = x ∨ fe l = y) ∨ (fe h = x ∨ fe h = y) then
    (if ((fe l = x ∨ fe l = y) ∧ fe l = x) ∨ (¬ (fe l = x ∨ fe l = y) ∧ fe h = y) then (if (fe l = x ∨ fe l = y) ∧ (fe h = x ∨ fe h = y) then ("part" : Str) else "let") else "turn")
  else if fe l = h then (if fe x = y then ("merge" : Str) else "take") else (if fe x = y then ("take" : Str) else "exchange")
theorem kind_swap {l h x y : Int} (hB : Lay n B) (hl : l ∈ endsL n ∧ l ∉ flat B) (hh : h ∈ endsL n ∧ h ∉ flat B) (hx : x ∈ endsL n ∧ x ∉ flat B) (hy : y ∈ endsL n ∧ y ∉ flat B)
    (lh : l ≠ h) (lx : l ≠ x) (ly : l ≠ y) (hx' : h ≠ x) (hy' : h ≠ y) (xy : x ≠ y) (pL : L.Perm (prI l h :: prI x y :: B)) (pM : M.Perm (prI l x :: prI h y :: B)) :
    ∃ T Gs T' Gs', AS n L T Gs ∧ AS n M T' Gs' ∧ swW (farE (ptb B)) l h x y = W T Gs T' Gs' ∧ (W T Gs T' Gs' = "exchange" → T'.length = T.length ∧ Gs'.length = Gs.length) := by
  have pL2 : L.Perm (prI x y :: (prI l h :: B)) := pL.trans (List.Perm.swap _ _ _)
  have pM2 : M.Perm (prI h y :: (prI l x :: B)) := pM.trans (List.Perm.swap _ _ _)
  have r0 : ∀ {a b : Int}, (prI a b :: B).Perm (prI a b :: B) := fun {a b} => .refl _
  have r1 : ∀ {a b : Int}, (prI a b :: B).Perm (prI b a :: B) := fun {a b} => by rw [prI_comm]
  obtain ⟨R, G, hs⟩ := sys_exists hB
  have h0 := AS.of hs
  generalize (G.map fun g => g.map ab) = Gs at h0
  obtain ⟨f1, S1, T1, h1⟩ := AS.pick (P := []) h0 hB hl.1 hl.2 (fun _ z => nomatch z)
  have e1 : farE (ptb B) l = f1 := AS.far h1 hB
  obtain ⟨f2, S2', T2', h2'⟩ := AS.pick (P := []) h0 hB hh.1 hh.2 (fun _ z => nomatch z)
  have e2 : farE (ptb B) h = f2 := AS.far h2' hB
  have f12 : f1 ≠ f2 := fun z => by
    have a1 := far_sym hB hl e1
    have a2 := far_sym hB hh e2
    rw [z, a2] at a1
    exact lh a1.symm
  unfold swW
  rw [e1, e2]
  by_cases cA : f1 = x ∨ f1 = y
  · rw [if_pos (Or.inl cA)]
    have hf1 : h ≠ f1 := by rcases cA with rfl | rfl <;> assumption
    obtain ⟨g2, S2, T2, h2⟩ := AS.pick (P := [(l, f1, S1)]) h1 hB hh.1 hh.2 (fun t ht => by rw [List.mem_singleton.mp ht]; exact ⟨lh.symm, hf1⟩)
    have h2 : AS n B ((l, f1, S1) :: (h, g2, S2) :: T2) Gs := h2
    have : g2 = f2 := by rw [← e2]; exact (AS.far h2.s12 hB).symm
    subst this
    by_cases cB : g2 = x ∨ g2 = y
    · by_cases c : f1 = x
      · subst c
        have : g2 = y := by rcases cB with z | z; exact absurd z.symm f12; exact z
        subst this
        rw [if_pos (Or.inl ⟨cA, rfl⟩), if_pos ⟨cA, cB⟩]
        have hL := (h2.turn.join (c := h) r0).close (pL2.trans (by rw [prI_comm f1 g2]))
        have hM := (h2.close (r1)).close (pM2.trans (by rw [prI_comm h g2]))
        exact ⟨_, _, _, _, hL, hM, finW (by rw [W_more (by rfl) (by rfl), if_pos rfl]) (by first | exact Or.inl (by decide +kernel) | exact Or.inr ⟨rfl, rfl⟩)⟩
      · have : f1 = y := by rcases cA with z | z; exact absurd z c; exact z
        subst this
        have : g2 = x := by rcases cB with z | z; exact z; exact absurd z.symm f12
        subst this
        rw [if_neg (fun z => z.elim (fun z => c z.2) (fun z => z.1 cA))]
        have hL := (h2.turn.join (c := h) r0).close pL2
        have hM := (h2.s12.join (c := l) r1).close (pM2.trans (by rw [prI_comm h f1]))
        exact ⟨_, _, _, _, hL, hM, finW (by rw [W_same (by rfl) (by rfl), if_pos ⟨rfl, gsG_one List.perm_append_comm _⟩]) (by first | exact Or.inl (by decide +kernel) | exact Or.inr ⟨rfl, rfl⟩)⟩
    · by_cases c : f1 = x
      · subst c
        rw [if_pos (Or.inl ⟨cA, rfl⟩), if_neg (fun z => cB z.2)]
        obtain ⟨f3, S3, T3, h3⟩ := AS.pick (P := [(l, f1, S1), (h, g2, S2)]) h2 hB hy.1 hy.2 (fun t ht => by
          rcases List.mem_cons.mp ht with rfl | ht
          · exact ⟨ly.symm, xy.symm⟩
          · rw [List.mem_singleton.mp ht]; exact ⟨hy'.symm, fun z => cB (.inr z.symm)⟩)
        have h3 : AS n B ((l, f1, S1) :: (h, g2, S2) :: (y, f3, S3) :: T3) Gs := h3
        have hL := ((h3.turn.join (c := h) r0).turn).join pL2
        have hM := ((h3.close (r1)).turn).join pM2
        refine ⟨_, _, _, _, hL, hM, finW ?_ (by first | exact Or.inl (by decide +kernel) | exact Or.inr ⟨rfl, rfl⟩)⟩
        rw [W_more (by rfl) (by rfl), if_neg]
        refine rsG_no1 fun p => ?_
        have q := p.length_eq
        have ne := h3.ne.1 (l, f1, S1) (by simp)
        simp at q ne
        exact ne q
      · have : f1 = y := by rcases cA with z | z; exact absurd z c; exact z
        subst this
        rw [if_neg (fun z => z.elim (fun z => c z.2) (fun z => z.1 cA))]
        obtain ⟨f3, S3, T3, h3⟩ := AS.pick (P := [(l, f1, S1), (h, g2, S2)]) h2 hB hx.1 hx.2 (fun t ht => by
          rcases List.mem_cons.mp ht with rfl | ht
          · exact ⟨lx.symm, xy⟩
          · rw [List.mem_singleton.mp ht]; exact ⟨hx'.symm, fun z => cB (.inl z.symm)⟩)
        have h3 : AS n B ((l, f1, S1) :: (h, g2, S2) :: (x, f3, S3) :: T3) Gs := h3
        have hL := ((h3.turn.join (c := h) r0).turn).join (pL2.trans (by rw [prI_comm x f1]))
        have hM := ((h3.turn.s23.join (c := x) r0).s12.turn).join pM2
        refine ⟨_, _, _, _, hL, hM, finW ?_ (by first | exact Or.inl (by decide +kernel) | exact Or.inr ⟨rfl, rfl⟩)⟩
        have hp : ((S1 ++ S2) ++ S3).Perm (S2 ++ (S1 ++ S3)) := by
          rw [List.append_assoc]
          exact List.perm_append_comm_assoc _ _ _
        rw [W_same (by rfl) (by rfl), if_pos ⟨rsG_one hp _, rfl⟩]
  · by_cases cB : f2 = x ∨ f2 = y
    · rw [if_pos (Or.inr cB)]
      have lf2 : l ≠ f2 := by rcases cB with rfl | rfl <;> assumption
      have h2' : AS n B ((h, f2, S2') :: T2') Gs := h2'
      obtain ⟨g1, S1', T3, h3⟩ := AS.pick (P := [(h, f2, S2')]) h2' hB hl.1 hl.2 (fun t ht => by rw [List.mem_singleton.mp ht]; exact ⟨lh, lf2⟩)
      have h3 : AS n B ((h, f2, S2') :: (l, g1, S1') :: T3) Gs := h3
      have : g1 = f1 := by rw [← e1]; exact (AS.far h3.s12 hB).symm
      subst this
      by_cases c : f2 = y
      · subst c
        rw [if_pos (Or.inr ⟨cA, rfl⟩), if_neg (fun z => cA z.1)]
        obtain ⟨f3, S3, T4, h4⟩ := AS.pick (P := [(h, f2, S2'), (l, g1, S1')]) h3 hB hx.1 hx.2 (fun t ht => by
          rcases List.mem_cons.mp ht with rfl | ht
          · exact ⟨hx'.symm, xy⟩
          · rw [List.mem_singleton.mp ht]; exact ⟨lx.symm, fun z => cA (.inl z.symm)⟩)
        have h4 : AS n B ((h, f2, S2') :: (l, g1, S1') :: (x, f3, S3) :: T4) Gs := h4
        have hL := (h4.s12.turn.join (c := h) r0).join (pL2.trans (by rw [prI_comm x f2]))
        have hM := (h4.close (r1)).turn.join (c := x) (pM.trans (by rw [prI_comm h f2]))
        refine ⟨_, _, _, _, hL, hM, finW ?_ (by first | exact Or.inl (by decide +kernel) | exact Or.inr ⟨rfl, rfl⟩)⟩
        rw [W_more (by rfl) (by rfl), if_neg]
        refine rsG_no1 fun p => ?_
        have q := p.length_eq
        have ne := h4.ne.1 (h, f2, S2') (by simp)
        simp at q ne
        exact ne q
      · have : f2 = x := by rcases cB with z | z; exact z; exact absurd z c
        subst this
        rw [if_neg (fun z => z.elim (fun z => cA z.1) (fun z => c z.2))]
        obtain ⟨f3, S3, T4, h4⟩ := AS.pick (P := [(h, f2, S2'), (l, g1, S1')]) h3 hB hy.1 hy.2 (fun t ht => by
          rcases List.mem_cons.mp ht with rfl | ht
          · exact ⟨hy'.symm, xy.symm⟩
          · rw [List.mem_singleton.mp ht]; exact ⟨ly.symm, fun z => cA (.inr z.symm)⟩)
        have h4 : AS n B ((h, f2, S2') :: (l, g1, S1') :: (y, f3, S3) :: T4) Gs := h4
        have hL := (h4.s12.turn.join (c := h) r0).join pL2
        have hM := (h4.turn.s12.turn.join (c := f2) r0).join pM2
        exact ⟨_, _, _, _, hL, hM, finW (by rw [W_same (by rfl) (by rfl), if_pos ⟨rsG_one (.refl _) _, rfl⟩]) (by first | exact Or.inl (by decide +kernel) | exact Or.inr ⟨rfl, rfl⟩)⟩
    · rw [if_neg (fun z => z.elim cA cB)]
      have h1 : AS n B ((l, f1, S1) :: T1) Gs := h1
      by_cases c1 : f1 = h
      · subst c1
        rw [if_pos rfl]
        obtain ⟨f3, S3, T2, h2⟩ := AS.pick (P := [(l, f1, S1)]) h1 hB hx.1 hx.2 (fun t ht => by rw [List.mem_singleton.mp ht]; exact ⟨lx.symm, hx'.symm⟩)
        have h2 : AS n B ((l, f1, S1) :: (x, f3, S3) :: T2) Gs := h2
        have e3 : farE (ptb B) x = f3 := AS.far h2.s12 hB
        rw [e3]
        by_cases c3 : f3 = y
        · subst c3
          rw [if_pos rfl]
          have hL := (h2.close (r1)).close (pL2.trans (by rw [prI_comm x f3, prI_comm l f1]))
          have hM := (h2.turn.join (c := x) r0).close (pM2.trans (by rw [prI_comm f1 f3]))
          exact ⟨_, _, _, _, hL, hM, finW (by rw [W_less (by rfl) (by rfl), if_pos rfl]) (by first | exact Or.inl (by decide +kernel) | exact Or.inr ⟨rfl, rfl⟩)⟩
        · rw [if_neg c3]
          obtain ⟨f4, S4, T3, h3⟩ := AS.pick (P := [(l, f1, S1), (x, f3, S3)]) h2 hB hy.1 hy.2 (fun t ht => by
            rcases List.mem_cons.mp ht with rfl | ht
            · exact ⟨ly.symm, hy'.symm⟩
            · rw [List.mem_singleton.mp ht]; exact ⟨xy.symm, fun z => c3 z.symm⟩)
          have h3 : AS n B ((l, f1, S1) :: (x, f3, S3) :: (y, f4, S4) :: T3) Gs := h3
          have hL := (h3.close (r1)).turn.join (pL2.trans (by rw [prI_comm l f1]))
          have hM := ((h3.turn.join (c := x) r0).turn).join pM2
          refine ⟨_, _, _, _, hL, hM, finW ?_ (by first | exact Or.inl (by decide +kernel) | exact Or.inr ⟨rfl, rfl⟩)⟩
          rw [W_less (by rfl) (by rfl), if_neg]
          refine rsG_no1 fun p => ?_
          have q := p.length_eq
          have ne := h3.ne.1 (l, f1, S1) (by simp)
          simp at q ne
          exact ne (by omega)
      · rw [if_neg c1]
        obtain ⟨g2, S2, T2, h2⟩ := AS.pick (P := [(l, f1, S1)]) h1 hB hh.1 hh.2 (fun t ht => by rw [List.mem_singleton.mp ht]; exact ⟨lh.symm, fun z => c1 z.symm⟩)
        have h2 : AS n B ((l, f1, S1) :: (h, g2, S2) :: T2) Gs := h2
        have : g2 = f2 := by rw [← e2]; exact (AS.far h2.s12 hB).symm
        subst this
        obtain ⟨f3, S3, T3, h3⟩ := AS.pick (P := [(l, f1, S1), (h, g2, S2)]) h2 hB hx.1 hx.2 (fun t ht => by
          rcases List.mem_cons.mp ht with rfl | ht
          · exact ⟨lx.symm, fun z => cA (.inl z.symm)⟩
          · rw [List.mem_singleton.mp ht]; exact ⟨hx'.symm, fun z => cB (.inl z.symm)⟩)
        have h3 : AS n B ((l, f1, S1) :: (h, g2, S2) :: (x, f3, S3) :: T3) Gs := h3
        have e3 : farE (ptb B) x = f3 := AS.far h3.s23.s12 hB
        rw [e3]
        by_cases c3 : f3 = y
        · subst c3
          rw [if_pos rfl]
          have hL := ((h3.turn.join (c := h) r0).s12).close (pL2.trans (by rw [prI_comm x f3]))
          have hM := (h3.turn.s23.join (c := x) r0).join (pM2.trans (by rw [prI_comm h f3]))
          refine ⟨_, _, _, _, hL, hM, finW ?_ (by first | exact Or.inl (by decide +kernel) | exact Or.inr ⟨rfl, rfl⟩)⟩
          rw [W_less (by rfl) (by rfl), if_neg]
          refine rsG_no1 fun p => ?_
          have q := p.length_eq
          have ne := h3.ne.1 (x, f3, S3) (by simp)
          simp at q ne
          exact ne (by omega)
        · rw [if_neg c3]
          obtain ⟨f4, S4, T4, h4⟩ := AS.pick (P := [(l, f1, S1), (h, g2, S2), (x, f3, S3)]) h3 hB hy.1 hy.2 (fun t ht => by
            rcases List.mem_cons.mp ht with rfl | ht
            · exact ⟨ly.symm, fun z => cA (.inr z.symm)⟩
            rcases List.mem_cons.mp ht with rfl | ht
            · exact ⟨hy'.symm, fun z => cB (.inr z.symm)⟩
            · rw [List.mem_singleton.mp ht]; exact ⟨xy.symm, fun z => c3 z.symm⟩)
          have h4 : AS n B ((l, f1, S1) :: (h, g2, S2) :: (x, f3, S3) :: (y, f4, S4) :: T4) Gs := h4
          have hL1 := h4.turn.join (c := h) r0
          have hL := (hL1.perm (T' := (x, f3, S3) :: (y, f4, S4) :: (f1, g2, S1 ++ S2) :: T4) (List.perm_middle (l₁ := [(x, f3, S3), (y, f4, S4)]))).turn.join pL2
          have hM1 := h4.turn.s23.join (c := x) r0
          have hM := (hM1.s12.turn.s23.join (c := y) pM2)
          refine ⟨_, _, _, _, hL.s12, hM.s12, finW ?_ (by first | exact Or.inl (by decide +kernel) | exact Or.inr ⟨rfl, rfl⟩)⟩
          have a3 : ∀ z ∈ S3, z ∉ S1 ++ S2 := fun z hz hm => by
            rcases List.mem_append.mp hm with hm | hm
            · exact AS.apart (h4.s23) z hm hz
            · exact AS.apart (h4.s12.s23) z hm hz
          have a4 : ∀ z ∈ S4, z ∉ S1 ++ S2 := fun z hz hm => by
            rcases List.mem_append.mp hm with hm | hm
            · exact AS.apart (h4.s34.s23) z hm hz
            · exact AS.apart (h4.s12.s34.s23) z hm hz
          rw [W_same (by rfl) (by rfl), if_neg]
          intro z
          refine rsG_no2 ?_ ?_ z.1
          · exact no_perm (h4.ne.1 (x, f3, S3) (by simp)) a3
          · exact no_perm (h4.ne.1 (y, f4, S4) (by simp)) a4
end Vf
namespace Vf
open PySem PySem.Spec PyProof.Rows L2
/-! ### the kind of any move -/
theorem cutL_perm {n : Int} {L C J : List (Int × Int)} (hL : Lay n L) (h : mvD n L (mD C J) = true) : L.Perm (C ++ cutL L C) := by
  have := (mv_left hL h).1
  rw [← List.append_assoc] at this
  exact (List.perm_append_right_iff _).mp this
theorem prI_sum (a b : Int) : (prI a b).1 + (prI a b).2 = a + b := by unfold prI; simp only; omega
theorem prI_has {a b c : Int} : (c = (prI a b).1 ∨ c = (prI a b).2) ↔ (c = a ∨ c = b) := mem_prI
/-- the shapes of moves -/
theorem mv_shape {n : Int} {L C J : List (Int × Int)} (hL : Lay n L) (h : mvD n L (mD C J) = true) :
    (∃ x y, C = [] ∧ J = [(x, y)] ∧ x < y ∧ x ∈ opensL n L ∧ y ∈ opensL n L) ∨ (∃ p, C = [p] ∧ J = [] ∧ p ∈ L) ∨
    (∃ p e y, C = [p] ∧ J = [prI e y] ∧ p ∈ L ∧ (e = p.1 ∨ e = p.2) ∧ y ∈ opensL n L) ∨
    (∃ p q x y, C = [p, q] ∧ J = [(p.1, x), cpl p.2 y] ∧ p ∈ L ∧ q ∈ L ∧ p.1 < q.1 ∧ ((x = q.1 ∧ y = q.2) ∨ (x = q.2 ∧ y = q.1))) := by
  have hm := movesM_all hL h
  unfold movesM at hm
  rcases List.mem_append.mp hm with hm | hm
  · obtain ⟨x, y, hx, hy, lt, e⟩ := joinsM_lt (opens_asc n L) hm
    injection e with e1 e2
    exact .inl ⟨x, y, e1, e2, lt, hx, hy⟩
  · obtain ⟨p, hp, e | ⟨q, hq, e⟩ | ⟨q, hq, lt, e⟩⟩ := goM_kinds hL.asc hm
    · injection e with e1 e2
      exact .inr (.inl ⟨p, e1, e2, hp⟩)
    · injection e with e1 e2
      refine .inr (.inr (.inl ?_))
      unfold newP at hq
      rcases List.mem_append.mp hq with hq | hq
      · obtain ⟨y, hy, rfl⟩ := List.mem_map.mp hq
        exact ⟨p, p.1, y, e1, by rw [e2, cpl_prI], hp, .inl rfl, hy⟩
      · obtain ⟨y, hy, rfl⟩ := List.mem_map.mp hq
        exact ⟨p, p.2, y, e1, by rw [e2, cpl_prI], hp, .inr rfl, hy⟩
    · have lt' : p.1 < q.1 := by
        rcases lt with lt | ⟨z, lt⟩
        · exact lt
        · have := lay_share hL hp hq (.inl rfl) (.inl z)
          subst this; omega
      rcases e with e | e
      · injection e with e1 e2
        exact .inr (.inr (.inr ⟨p, q, q.1, q.2, e1, e2, hp, hq, lt', .inl ⟨rfl, rfl⟩⟩))
      · injection e with e1 e2
        exact .inr (.inr (.inr ⟨p, q, q.2, q.1, e1, e2, hp, hq, lt', .inr ⟨rfl, rfl⟩⟩))
theorem kind_word2 {n : Int} {L C J M : List (Int × Int)} (hL : Lay n L) (h : mvD n L (mD C J) = true) (pM : M.Perm (cutL L C ++ J)) :
    ∃ T Gs T' Gs', AS n L T Gs ∧ AS n M T' Gs' ∧ kindL L C J = W T Gs T' Gs' ∧ (W T Gs T' Gs' = "exchange" → T'.length = T.length ∧ Gs'.length = Gs.length) := by
  have pL := cutL_perm hL h
  have op := fun e he => mv_open hL h (e := e) he
  have hB := cutL_lay C hL
  unfold kindL
  rcases mv_shape hL h with ⟨x, y, rfl, rfl, lt, hx, hy⟩ | ⟨p, rfl, rfl, hp⟩ | ⟨p, e, y, rfl, rfl, hp, he, hy⟩ | ⟨p, q, x, y, rfl, rfl, hp, hq, lt, hxy⟩
  · obtain ⟨T, Gs, T', Gs', h1, h2, h3, _⟩ := kind_join (M := M) (x := x) (y := y) hB (op x (.inr (by simp [flat]))) (op y (.inr (by simp [flat]))) (by omega) (by
      rw [show prI x y = (x, y) from prI_self (p := (x, y)) lt]
      exact pM.trans List.perm_append_comm)
    exact ⟨T, Gs, T', Gs', h1.permB (pL.trans (by simp)), h2, finW h3 (.inl (by
      show (if farE (ptb (cutL L [])) x = y then ("close" : Str) else "join") ≠ "exchange"
      split <;> decide +kernel))⟩
  · have cp := hL.cp p hp
    obtain ⟨T, Gs, T', Gs', h1, h2, _, h3⟩ := kind_join (M := L) (x := p.1) (y := p.2) hB (op p.1 (.inl (by simp [flat]))) (op p.2 (.inl (by simp [flat]))) (by omega) (by
      rw [prI_self (by omega)]; exact pL)
    exact ⟨T', Gs', T, Gs, h2, h1.permB (pM.trans (by simp)), finW h3 (.inl (by
      show (if farE (ptb (cutL L [p])) p.1 = p.2 then ("open" : Str) else "cut") ≠ "exchange"
      split <;> decide +kernel))⟩
  · have cp := hL.cp p hp
    have yL : y ∉ flat L := (mem_opens.mp hy).2
    have y1 : y ≠ p.1 := fun z => yL (z ▸ mem_flat.mpr ⟨p, hp, .inl rfl⟩)
    have y2 : y ≠ p.2 := fun z => yL (z ▸ mem_flat.mpr ⟨p, hp, .inr rfl⟩)
    have oy := op y (.inr (mem_flat.mpr ⟨_, List.mem_singleton.mpr rfl, prI_has.mpr (.inr rfl)⟩))
    have o1 := op p.1 (.inl (by simp [flat]))
    have o2 := op p.2 (.inl (by simp [flat]))
    have pM' : M.Perm (prI e y :: cutL L [p]) := pM.trans List.perm_append_comm
    show ∃ T Gs T' Gs', AS n L T Gs ∧ AS n M T' Gs' ∧ kTrans (farE (ptb (cutL L [p]))) p (prI e y) = W T Gs T' Gs' ∧ (W T Gs T' Gs' = "exchange" → T'.length = T.length ∧ Gs'.length = Gs.length)
    rcases he with rfl | rfl
    · obtain ⟨T, Gs, T', Gs', h1, h2, h3, h4⟩ := kind_trans (L := L) (a := p.2) (e := p.1) (o := y) hB o2 o1 oy (by omega) (fun z => y2 z.symm) (fun z => y1 z.symm) (by rw [prI_comm, prI_self (by omega)]; exact pL) pM'
      refine ⟨T, Gs, T', Gs', h1, h2, ?_, h4⟩
      rw [← h3]
      have k : kTransE p (prI p.1 y) = (p.2, p.1, y) := by
        unfold kTransE
        rw [if_pos (prI_has.mpr (.inl rfl))]
        have := prI_sum p.1 y
        simp only
        rw [this]
        congr 1
        · congr 1 <;> omega
      unfold kTrans
      rw [k]
    · obtain ⟨T, Gs, T', Gs', h1, h2, h3, h4⟩ := kind_trans (L := L) (a := p.1) (e := p.2) (o := y) hB o1 o2 oy (by omega) (fun z => y1 z.symm) (fun z => y2 z.symm) (by rw [prI_self (by omega)]; exact pL) pM'
      refine ⟨T, Gs, T', Gs', h1, h2, ?_, h4⟩
      rw [← h3]
      have k : kTransE p (prI p.2 y) = (p.1, p.2, y) := by
        unfold kTransE
        rw [if_neg (fun z => by rcases prI_has.mp z with z | z; omega; exact y1 z.symm)]
        have := prI_sum p.2 y
        simp only
        rw [this]
        congr 1
        · congr 1 <;> omega
      unfold kTrans
      rw [k]
  · have cp := hL.cp p hp
    have cq := hL.cp q hq
    have ne : p ≠ q := fun z => by subst z; omega
    obtain ⟨n1, n2, n3, n4⟩ := nd_two hL hp hq ne
    have o1 := op p.1 (.inl (by simp [flat]))
    have o2 := op p.2 (.inl (by simp [flat]))
    have o3 := op q.1 (.inl (by simp [flat]))
    have o4 := op q.2 (.inl (by simp [flat]))
    have pxy : prI x y = q := by
      rcases hxy with ⟨rfl, rfl⟩ | ⟨rfl, rfl⟩
      · exact prI_self (by omega)
      · rw [prI_comm]; exact prI_self (by omega)
    have ox : x ∈ endsL n ∧ x ∉ flat (cutL L [p, q]) := by rcases hxy with ⟨rfl, rfl⟩ | ⟨rfl, rfl⟩ <;> assumption
    have oy : y ∈ endsL n ∧ y ∉ flat (cutL L [p, q]) := by rcases hxy with ⟨rfl, rfl⟩ | ⟨rfl, rfl⟩ <;> assumption
    have d : p.1 < x ∧ p.1 ≠ y ∧ p.2 ≠ x ∧ p.2 ≠ y ∧ x ≠ y := by
      rcases hxy with ⟨rfl, rfl⟩ | ⟨rfl, rfl⟩ <;> (refine ⟨?_, ?_, ?_, ?_, ?_⟩ <;> omega)
    obtain ⟨T, Gs, T', Gs', h1, h2, h3, h4⟩ := kind_swap (L := L) (l := p.1) (h := p.2) (x := x) (y := y) (M := M) hB o1 o2 ox oy (by omega) (by omega) d.2.1 d.2.2.1 d.2.2.2.1 d.2.2.2.2 (by rw [pxy, prI_self (by omega)]; exact pL) (by
      rw [show prI p.1 x = (p.1, x) from prI_self (p := (p.1, x)) d.1, ← cpl_prI]
      exact pM.trans List.perm_append_comm)
    refine ⟨T, Gs, T', Gs', h1, h2, ?_, h4⟩
    rw [← h3]
    show kSwap (farE (ptb (cutL L [p, q]))) p q [(p.1, x), cpl p.2 y] = _
    have sx : farE (ptb (cutL L [p, q])) q.1 = q.2 ↔ farE (ptb (cutL L [p, q])) x = y := by
      rcases hxy with ⟨rfl, rfl⟩ | ⟨rfl, rfl⟩
      · exact Iff.rfl
      · exact ⟨fun z => far_sym hB o3 z, fun z => far_sym hB o4 z⟩
    have in1 : ∀ e : Int, (e = q.1 ∨ e = q.2) ↔ (e = x ∨ e = y) := fun e => by
      rcases hxy with ⟨rfl, rfl⟩ | ⟨rfl, rfl⟩
      · exact Iff.rfl
      · exact or_comm
    unfold kSwap swW
    generalize farE (ptb (cutL L [p, q])) p.1 = f1
    generalize farE (ptb (cutL L [p, q])) p.2 = f2
    generalize farE (ptb (cutL L [p, q])) q.1 = f3 at sx ⊢
    generalize farE (ptb (cutL L [p, q])) x = f4 at sx ⊢
    have c1 : ∀ f : Int, cpl p.1 f ∈ [(p.1, x), cpl p.2 y] ↔ f = x := fun f => by
      simp only [List.mem_cons, List.not_mem_nil, or_false]
      constructor
      · rintro (z | z)
        · rw [show (p.1, x) = cpl p.1 x by unfold cpl; rw [if_pos d.1]] at z
          rcases cpl_inj z with z | z
          · exact z.2
          · rw [← z.1] at d; omega
        · rcases cpl_inj z with z | z
          · omega
          · exact absurd z.1 d.2.1
      · rintro rfl
        exact .inl (by unfold cpl; rw [if_pos d.1])
    have c2 : ∀ f : Int, cpl p.2 f ∈ [(p.1, x), cpl p.2 y] ↔ f = y := fun f => by
      simp only [List.mem_cons, List.not_mem_nil, or_false]
      constructor
      · rintro (z | z)
        · rw [show (p.1, x) = cpl p.1 x by unfold cpl; rw [if_pos d.1]] at z
          rcases cpl_inj z with z | z
          · omega
          · exact absurd z.1 d.2.2.1
        · rcases cpl_inj z with z | z
          · exact z.2
          · exact absurd z.1 d.2.2.2.1
      · rintro rfl
        exact .inr rfl
    have hin : (if f1 = q.1 ∨ f1 = q.2 then cpl p.1 f1 else cpl p.2 f2) ∈ [(p.1, x), cpl p.2 y] ↔ ((f1 = x ∨ f1 = y) ∧ f1 = x) ∨ (¬ (f1 = x ∨ f1 = y) ∧ f2 = y) := by
      by_cases a1 : f1 = x ∨ f1 = y
      · rw [if_pos ((in1 _).mpr a1), c1]
        exact ⟨fun z => .inl ⟨a1, z⟩, fun z => z.elim (fun z => z.2) fun z => absurd a1 z.1⟩
      · rw [if_neg (fun z => a1 ((in1 _).mp z)), c2]
        exact ⟨fun z => .inr ⟨a1, z⟩, fun z => z.elim (fun z => absurd z.1 a1) fun z => z.2⟩
    simp only [hin]
    simp only [in1, sx]
/-- how the numbers of rows and of rings change, by the word -/
def dW (w : Str) : Int × Int := if w = "cut" then (1, 0) else if w = "join" then (-1, 0) else if w = "open" then (1, -1) else if w = "close" then (-1, 1) else if w = "let" ∨ w = "part" then (0, 1) else if w = "take" ∨ w = "merge" then (0, -1) else (0, 0)
def words10 : List Str := ["cut", "join", "open", "close", "let", "take", "part", "merge", "exchange", "turn"]
theorem W_lens {T T' : List Rw} {Gs Gs' : List (List Int)} (h : W T Gs T' Gs' = "exchange" → T'.length = T.length ∧ Gs'.length = Gs.length) : ((T'.length : Int) - T.length, (Gs'.length : Int) - Gs.length) = dW (W T Gs T' Gs') ∧ W T Gs T' Gs' ∈ words10 := by
  have fin : ∀ {w : Str} {a b : Int}, W T Gs T' Gs' = w → dW w = (a, b) → w ∈ words10 → (T'.length : Int) - T.length = a → (Gs'.length : Int) - Gs.length = b → ((T'.length : Int) - T.length, (Gs'.length : Int) - Gs.length) = dW (W T Gs T' Gs') ∧ W T Gs T' Gs' ∈ words10 := fun {w a b} e1 e2 e3 e4 e5 => by rw [e1, e2, e4, e5]; exact ⟨rfl, e3⟩
  by_cases c1 : T'.length = T.length + 1 ∧ Gs'.length = Gs.length
  · exact fin (W_cut c1.1 c1.2) (by decide +kernel : dW "cut" = (1, 0)) (by decide +kernel) (by omega) (by omega)
  by_cases c2 : T'.length + 1 = T.length ∧ Gs'.length = Gs.length
  · exact fin (W_join c2.1 c2.2) (by decide +kernel : dW "join" = (-1, 0)) (by decide +kernel) (by omega) (by omega)
  by_cases c3 : T'.length = T.length + 1 ∧ Gs'.length + 1 = Gs.length
  · exact fin (W_open c3.1 c3.2) (by decide +kernel : dW "open" = (1, -1)) (by decide +kernel) (by omega) (by omega)
  by_cases c4 : T'.length + 1 = T.length ∧ Gs'.length = Gs.length + 1
  · exact fin (W_close c4.1 c4.2) (by decide +kernel : dW "close" = (-1, 1)) (by decide +kernel) (by omega) (by omega)
  by_cases c5 : T'.length = T.length ∧ Gs'.length = Gs.length + 1
  · have e := W_more c5.1 c5.2
    by_cases r : rsG T = rsG T'
    · rw [if_pos r] at e
      exact fin e (by decide +kernel : dW "part" = (0, 1)) (by decide +kernel) (by omega) (by omega)
    · rw [if_neg r] at e
      exact fin e (by decide +kernel : dW "let" = (0, 1)) (by decide +kernel) (by omega) (by omega)
  by_cases c6 : T'.length = T.length ∧ Gs'.length + 1 = Gs.length
  · have e := W_less c6.1 c6.2
    by_cases r : rsG T = rsG T'
    · rw [if_pos r] at e
      exact fin e (by decide +kernel : dW "merge" = (0, -1)) (by decide +kernel) (by omega) (by omega)
    · rw [if_neg r] at e
      exact fin e (by decide +kernel : dW "take" = (0, -1)) (by decide +kernel) (by omega) (by omega)
  have e : W T Gs T' Gs' = if rsG T = rsG T' ∧ gsG Gs = gsG Gs' then ("turn" : Str) else "exchange" := by
    unfold W wordG
    rw [rsG_len, rsG_len, gsG_len, gsG_len, if_neg (by omega), if_neg (by omega), if_neg (by omega), if_neg (by omega), if_neg (by omega), if_neg (by omega)]
  by_cases r : rsG T = rsG T' ∧ gsG Gs = gsG Gs'
  · rw [if_pos r] at e
    have l1 := congrArg List.length r.1
    have l2 := congrArg List.length r.2
    rw [rsG_len, rsG_len] at l1
    rw [gsG_len, gsG_len] at l2
    exact fin e (by decide +kernel : dW "turn" = (0, 0)) (by decide +kernel) (by omega) (by omega)
  · rw [if_neg r] at e
    obtain ⟨l1, l2⟩ := h e
    exact fin e (by decide +kernel : dW "exchange" = (0, 0)) (by decide +kernel) (by omega) (by omega)
end Vf
namespace Vf
open PySem PySem.Spec PyProof.Rows L2
/-! ### what hangs together by couplings -/
def IsE (z e : Int) : Prop := e = z ∨ e = 0 - z
structure Grp (n : Int) (L : List (Int × Int)) (S : List Int) (row : Bool) : Prop where
  rg : ∀ z ∈ S, 1 ≤ z ∧ z ≤ n
  nd : S.Nodup
  ne : S ≠ []
  inn : ∀ z ∈ S, ∀ e, IsE z e → ptb L e ≠ 0 → ab (ptb L e) ∈ S
  all : ∀ P : Int → Prop, (∃ z ∈ S, P z) → (∀ z ∈ S, P z → ∀ e, IsE z e → ptb L e ≠ 0 → P (ab (ptb L e))) → ∀ z ∈ S, P z
  opn : row = true → ∃ z ∈ S, ∃ e, IsE z e ∧ ptb L e = 0
  cls : row = false → ∀ z ∈ S, ∀ e, IsE z e → ptb L e ≠ 0
/-- what spreads along a list in both directions -/
theorem spread {P : Int → Prop} : ∀ {r : List Int}, (∀ u x y v, r = u ++ x :: y :: v → (P x ↔ P y)) → ∀ x ∈ r, P x → ∀ y ∈ r, P y
  | [], _, _, h, _, _, _ => nomatch h
  | [a], _, x, hx, px, y, hy => by rw [List.mem_singleton.mp hx] at px; rw [List.mem_singleton.mp hy]; exact px
  | a :: b :: t, h, x, hx, px, y, hy => by
    have ih := spread (r := b :: t) (P := P) (fun u x y v e => h (a :: u) x y v (by rw [e]; rfl))
    have ab' := h [] a b t rfl
    have hb : P b := by
      rcases List.mem_cons.mp hx with rfl | hx
      · exact ab'.mp px
      · exact ih x hx px b (by simp)
    rcases List.mem_cons.mp hy with rfl | hy
    · exact ab'.mpr hb
    · exact ih b (by simp) hb y hy
theorem ab_cases (x : Int) : ab x = x ∨ ab x = -x := by unfold ab; omega
theorem isE_ab {x e : Int} : IsE (ab x) e ↔ e = x ∨ e = -x := by
  unfold IsE
  rcases ab_cases x with h | h <;> rw [h] <;> omega
theorem ab_ab (x : Int) : ab (-x) = ab x := by unfold ab; omega
variable {n : Int} {L : List (Int × Int)} {R G : List (List Int)}
/-- of what reading it is, of one that steps lead through -/
theorem grp_of {r S : List Int} {row : Bool} (ne : r ≠ []) (pS : S.Perm (r.map ab)) (nd : (r.map ab).Nodup) (rg : ∀ x ∈ r, 1 ≤ ab x ∧ ab x ≤ n)
    (st : ∀ u x y v, r = u ++ x :: y :: v → ptb L x = -y ∧ ptb L (-y) = x) (last : ∀ u x, r = u ++ [x] → ptb L x = 0 ∨ ∃ y ∈ r, ab (ptb L x) = ab y) (first : ∀ x v, r = x :: v → ptb L (-x) = 0 ∨ ∃ y ∈ r, ab (ptb L (-x)) = ab y)
    (hr : row = true → ∃ x v, r = x :: v ∧ ptb L (-x) = 0) (hc : row = false → (∀ x ∈ r, ptb L x ≠ 0 ∧ ptb L (-x) ≠ 0)) : Grp n L S row := by
  have mem : ∀ {z}, z ∈ S ↔ ∃ x ∈ r, ab x = z := fun {z} => by rw [pS.mem_iff, List.mem_map]
  refine ⟨fun z hz => ?_, pS.symm.nodup nd, fun z => ?_, fun z hz e he h0 => ?_, fun P hP cl => ?_, fun hrow => ?_, fun hrow z hz e he => ?_⟩
  · obtain ⟨x, hx, rfl⟩ := mem.mp hz; exact rg x hx
  · rw [z] at pS
    have := pS.length_eq
    match r, ne with
    | _ :: _, _ => simp at this
  · obtain ⟨x, hx, rfl⟩ := mem.mp hz
    obtain ⟨u, v, er⟩ := List.append_of_mem hx
    rcases isE_ab.mp he with rfl | rfl
    · match v, er with
      | [], er =>
        rcases last u e er with h | ⟨y, hy, h⟩
        · exact absurd h h0
        · rw [h]; exact mem.mpr ⟨y, hy, rfl⟩
      | y :: v, er =>
        rw [(st u e y v er).1, ab_ab]
        exact mem.mpr ⟨y, by rw [er]; simp, rfl⟩
    · by_cases hu : u = []
      · subst hu
        rcases first x v er with h | ⟨y, hy, h⟩
        · exact absurd h h0
        · rw [h]; exact mem.mpr ⟨y, hy, rfl⟩
      · have eu := (List.dropLast_concat_getLast hu).symm
        generalize u.dropLast = w at eu
        generalize u.getLast hu = y at eu
        have er2 : r = w ++ y :: x :: v := by rw [er, eu]; simp
        rw [(st w y x v er2).2]
        exact mem.mpr ⟨y, by rw [er2]; simp, rfl⟩
  · obtain ⟨z, hz, pz⟩ := hP
    obtain ⟨x, hx, rfl⟩ := mem.mp hz
    intro z' hz'
    obtain ⟨y, hy, rfl⟩ := mem.mp hz'
    refine spread (P := fun x => P (ab x)) (r := r) (fun u a b v e => ?_) x hx pz y hy
    have s := st u a b v e
    have ha : a ∈ r := by rw [e]; simp
    have hb : b ∈ r := by rw [e]; simp
    have a0 : a ≠ 0 := fun z => by have := rg a ha; subst z; simp [ab] at this
    have b0 : b ≠ 0 := fun z => by have := rg b hb; subst z; simp [ab] at this
    constructor
    · intro pa
      have := cl (ab a) (mem.mpr ⟨a, ha, rfl⟩) pa a (isE_ab.mpr (.inl rfl)) (by rw [s.1]; omega)
      rwa [s.1, ab_ab] at this
    · intro pb
      have := cl (ab b) (mem.mpr ⟨b, hb, rfl⟩) pb (-b) (isE_ab.mpr (.inr rfl)) (by rw [s.2]; exact a0)
      rwa [s.2] at this
  · obtain ⟨x, v, e, h⟩ := hr hrow
    exact ⟨ab x, mem.mpr ⟨x, by rw [e]; simp, rfl⟩, -x, isE_ab.mpr (.inr rfl), h⟩
  · obtain ⟨x, hx, rfl⟩ := mem.mp hz
    rcases isE_ab.mp he with rfl | rfl
    · exact (hc hrow _ hx).1
    · exact (hc hrow _ hx).2
/-- the groups with their kinds -/
def flags (T : List Rw) (Gs : List (List Int)) : List (List Int × Bool) := T.map (fun t => (t.2.2, true)) ++ Gs.map fun s => (s, false)
theorem AS.grps {T : List Rw} {Gs : List (List Int)} (h : AS n L T Gs) (hL : Lay n L) : ∀ g ∈ flags T Gs, Grp n L g.1 g.2 := by
  obtain ⟨R, G, hs, h1, h2⟩ := h
  intro g hg
  rcases List.mem_append.mp hg with hg | hg
  · obtain ⟨t, ht, rfl⟩ := List.mem_map.mp hg
    obtain ⟨i, hi, ei⟩ := List.mem_iff_getElem.mp ht
    obtain ⟨r, hr, ⟨_, q⟩⟩ := pair_get2 h1 (i := i) (p := t) (by rw [List.getElem?_eq_getElem hi, ei])
    have hr := List.mem_of_getElem? hr
    refine grp_of (hs.neR r hr) q (hs.ndR hr) (fun x hx => hs.rangeR hr hx) (fun u x y v e => ?_) (fun u x e => .inl (hs.open1 hL hr e)) (fun x v e => .inl (hs.open2 hL hr e)) (fun _ => ?_) (fun z => nomatch z)
    · have := hs.row hL hr e
      exact ⟨this.1, this.2.1⟩
    · match r, hs.neR r hr, hr with
      | x :: v, _, hr => exact ⟨x, v, rfl, hs.open2 hL hr rfl⟩
  · obtain ⟨s, hsm, rfl⟩ := List.mem_map.mp hg
    obtain ⟨i, hi, ei⟩ := List.mem_iff_getElem.mp hsm
    obtain ⟨r, hr, q⟩ := pair_get2 h2 (i := i) (p := s) (by rw [List.getElem?_eq_getElem hi, ei])
    have hr := List.mem_of_getElem? hr
    have io : ∀ x ∈ r, ptb L x ≠ 0 ∧ ptb L (-x) ≠ 0 := fun x hx => by
      have := hs.ringIn hr hx
      exact ⟨(ptb_some hL this.1).1, (ptb_some hL this.2).1⟩
    refine grp_of (hs.neG r hr) q (hs.ndG hr) (fun x hx => hs.rangeG hr hx) (fun u x y v e => ?_) (fun u x e => .inr ?_) (fun x v e => .inr ?_) (fun z => nomatch z) (fun _ => io)
    · match r, hs.neG r hr, hr with
      | a :: t, _, hr =>
        have := hs.ring hL (u := u) (v := v ++ [a]) (x := x) (y := y) hr (by
          have : a :: (t ++ [a]) = (a :: t) ++ [a] := rfl
          rw [this, e]; simp)
        exact ⟨this.1, this.2.1⟩
    · match r, hs.neG r hr, hr with
      | a :: t, _, hr =>
        have := hs.ring hL (u := u) (v := []) (x := x) (y := a) hr (by
          have : a :: (t ++ [a]) = (a :: t) ++ [a] := rfl
          rw [this, e]; simp)
        exact ⟨a, by simp, by rw [this.1, ab_ab]⟩
    · subst e
      obtain ⟨u, b, eb⟩ : ∃ u b, x :: v = u ++ [b] := ⟨(x :: v).dropLast, (x :: v).getLast (by simp), (List.dropLast_concat_getLast (by simp)).symm⟩
      have := hs.ring hL (u := u) (v := []) (x := b) (y := x) hr (by
        have : x :: (v ++ [x]) = (x :: v) ++ [x] := rfl
        rw [this, eb]; simp)
      exact ⟨b, by rw [eb]; simp, by rw [this.2.1]⟩
theorem flags_pcs {T : List Rw} {Gs : List (List Int)} : (flags T Gs).flatMap (·.1) = T.flatMap (fun t => t.2.2) ++ Gs.flatten := by
  unfold flags
  rw [List.flatMap_append, List.flatMap_map, List.flatMap_map]
  congr 1
  induction Gs with
  | nil => rfl
  | cons s Gs ih => rw [List.flatMap_cons, ih, List.flatten_cons]
theorem filt_f {α : Type} (l : List α) : l.filter (fun _ => false) = [] := List.filter_eq_nil_iff.mpr fun _ _ z => nomatch z
theorem ptb_par {L : List (Int × Int)} {e : Int} (e0 : e ≠ 0) : ptb L e = (parI L e).getD 0 := by unfold ptb; rw [if_neg e0]
theorem flatMap_few {α : Type} (f : α → List Int) : ∀ {l : List α}, (∀ a ∈ l, f a ≠ []) → l.length ≤ (l.flatMap f).length
  | [], _ => Nat.le_refl _
  | a :: l, h => by
    have := flatMap_few f (l := l) fun b hb => h b (List.mem_cons_of_mem _ hb)
    have h1 : 1 ≤ (f a).length := by
      have := h a (by simp)
      match f a, this with
      | _ :: _, _ => simp
    rw [List.flatMap_cons, List.length_append, List.length_cons]
    omega
theorem AS.few {T : List Rw} {Gs : List (List Int)} (h : AS n L T Gs) (hL : Lay n L) : (flags T Gs).length ≤ 60 ∧ ∀ g ∈ flags T Gs, g.1.length ≤ 60 := by
  have p := h.pcs
  rw [← flags_pcs] at p
  have l := p.length_eq
  rw [rng_len] at l
  have n60 := hL.n60
  have n1 := hL.n1
  constructor
  · have := flatMap_few (fun g : List Int × Bool => g.1) (l := flags T Gs) fun g hg => (h.grps hL g hg).ne
    omega
  · intro g hg
    have := List.length_flatMap (l := flags T Gs) (f := fun g : List Int × Bool => g.1)
    obtain ⟨s, t, e⟩ := List.append_of_mem hg
    rw [e, List.flatMap_append, List.flatMap_cons, List.length_append, List.length_append] at l
    omega
theorem flags_cover {T : List Rw} {Gs : List (List Int)} {D : List (List Int × Bool)} (h : AS n L T Gs) (p : D.Perm (flags T Gs)) {z : Int} : (∃ g ∈ D, z ∈ g.1) ↔ 1 ≤ z ∧ z ≤ n := by
  have q := h.pcs
  rw [← flags_pcs] at q
  have := (p.flatMap_right (fun g : List Int × Bool => g.1)).trans q
  rw [← List.mem_flatMap, this.mem_iff, mem_rng]
  omega
theorem ils_hid {H H' : Hp} {t : List Addr} {xs : List V} {R : List (List Int)} (s : Same H H') (h : ILs (Hid t H) xs R) : ILs (Hid t H') xs R := h.mono (hid_same s)
/-- the groups of a layout are told by the layout -/
def fg (g : List Int × Bool) : List Int × Bool := (mS g.1, g.2)
theorem fg_nd {T : List Rw} {Gs : List (List Int)} (hL : Lay n L) (h : AS n L T Gs) : ((flags T Gs).map fg).Nodup := by
  have nd := h.nd
  rw [← flags_pcs] at nd
  have pw := (List.pairwise_flatMap.mp nd).2
  have ne : ∀ g ∈ flags T Gs, g.1 ≠ [] := fun g hg => (h.grps hL g hg).ne
  refine List.pairwise_map.mpr (List.Pairwise.imp_of_mem (fun {a b} ha hb (z : ∀ x ∈ a.1, ∀ y ∈ b.1, x ≠ y) e => ?_) pw)
  have e1 : mS a.1 = mS b.1 := congrArg Prod.fst e
  have pm := mS_eq.mp e1
  match hx : a.1, ne a ha with
  | x :: t, _ => exact z x (by rw [hx]; simp) x (pm.mem_iff.mp (by rw [hx]; simp)) rfl
theorem fg_sub {T T' : List Rw} {Gs Gs' : List (List Int)} (hL : Lay n L) (h : AS n L T Gs) (h' : AS n L T' Gs') : ∀ g ∈ (flags T Gs).map fg, g ∈ (flags T' Gs').map fg := fun g hg => by
  obtain ⟨a, ha, rfl⟩ := List.mem_map.mp hg
  have ga := h.grps hL a ha
  obtain ⟨x, hx⟩ : ∃ x, x ∈ a.1 := by
    match hx : a.1, ga.ne with
    | x :: t, _ => exact ⟨x, by simp⟩
  obtain ⟨b, hb, hxb⟩ := (flags_cover h' (.refl _)).mpr (ga.rg x hx)
  have gb := h'.grps hL b hb
  have s1 : ∀ z ∈ a.1, z ∈ b.1 := ga.all (fun z => z ∈ b.1) ⟨x, hx, hxb⟩ fun z _ hz e he h0 => gb.inn z hz e he h0
  have s2 : ∀ z ∈ b.1, z ∈ a.1 := gb.all (fun z => z ∈ a.1) ⟨x, hxb, hx⟩ fun z _ hz e he h0 => ga.inn z hz e he h0
  have pm : a.1.Perm b.1 := (List.perm_ext_iff_of_nodup ga.nd gb.nd).mpr fun z => ⟨s1 z, s2 z⟩
  have ef : a.2 = b.2 := by
    cases h1 : a.2 with
    | true =>
      cases h2 : b.2 with
      | true => rfl
      | false =>
        obtain ⟨z, hz, e, he, h0⟩ := ga.opn h1
        exact absurd h0 (gb.cls h2 z (s1 z hz) e he)
    | false =>
      cases h2 : b.2 with
      | false => rfl
      | true =>
        obtain ⟨z, hz, e, he, h0⟩ := gb.opn h2
        exact absurd h0 (ga.cls h1 z (s2 z hz) e he)
  exact List.mem_map.mpr ⟨b, hb, by unfold fg; rw [mS_eq.mpr pm.symm, ef]⟩
theorem fg_rows (T : List Rw) (Gs : List (List Int)) : ((((flags T Gs).map fg).filter (·.2)).map (·.1)) = T.map (fun t => mS t.2.2) ∧ ((((flags T Gs).map fg).filter fun g => !g.2).map (·.1)) = Gs.map mS := by
  unfold flags fg
  rw [List.map_append, List.map_map, List.map_map, List.filter_append, List.filter_append, List.filter_map, List.filter_map, List.filter_map, List.filter_map]
  simp only [Function.comp_def, Bool.not_true, Bool.not_false, filt_t, filt_f]
  simp [Function.comp_def]
theorem groups_uniq {T T' : List Rw} {Gs Gs' : List (List Int)} (hL : Lay n L) (h : AS n L T Gs) (h' : AS n L T' Gs') : rsG T = rsG T' ∧ gsG Gs = gsG Gs' := by
  have pm : ((flags T Gs).map fg).Perm ((flags T' Gs').map fg) := (List.perm_ext_iff_of_nodup (fg_nd hL h) (fg_nd hL h')).mpr fun g => ⟨fg_sub hL h h' g, fg_sub hL h' h g⟩
  have e := fg_rows T Gs
  have e' := fg_rows T' Gs'
  constructor
  · unfold rsG
    rw [← e.1, ← e'.1]
    exact srtR_eq ((pm.filter _).map _)
  · unfold gsG
    rw [← e.2, ← e'.2]
    exact srtR_eq ((pm.filter _).map _)
end Vf
namespace Vf
open PySem PySem.Spec PyProof.Rows L2
/-! ### the classes of three errors, asked one by one -/
/-- the field of an error, as data -/
def vI : V → PyData
  | .int i => .int i
  | _ => .none
/-- what a call of a function of moves tells -/
inductive Res (k : Int) (c d e : PyData) : List PyData → Prop
  | pieces (h : piecesD c = none) : Res k c d e [.str "pieces"]
  | layout (n : Int) (i : V) (h : piecesD c = some n) (hE : LayE n d i) : Res k c d e [.tuple [.str "layout", vI i]]
  | move (n : Int) (L : List (Int × Int)) (h : piecesD c = some n) (hL : Lay n L) (ed : d = dL L) (hk : k = 2 ∨ k = 3) (hm : mvD n L e = false) : Res k c d e [.str "move"]
  | fine (n : Int) (L : List (Int × Int)) (h : piecesD c = some n) (hL : Lay n L) (ed : d = dL L) (hk : k = 2 ∨ k = 3 → mvD n L e = true) : Res k c d e []
/-- where the layout is none -/
theorem Res.lay {k n : Int} {d e : PyData} {ds : List PyData} {i : V} (h : Res k (.int n) d e ds) (n1 : 1 ≤ n) (n2 : n ≤ 60) (hE : LayE n d i) : ds = [.tuple [.str "layout", vI i]] := by
  have pn := pieces_int n1 n2
  cases h with
  | pieces h => rw [pn] at h; cases h
  | layout m j h hE2 =>
    rw [pn] at h; cases h
    have := (fltD_some hE).symm.trans (fltD_some hE2)
    cases this; rfl
  | move m L h hL ed _ _ => rw [pn] at h; cases h; subst ed; exact (layE_no hL hE).elim
  | fine m L h hL ed _ => rw [pn] at h; cases h; subst ed; exact (layE_no hL hE).elim
end Vf
namespace Vf
open PySem PySem.Spec PyProof.Rows L2
/-! ### pieces renumbered and turned -/
variable {n : Int} {σ : Int → Int} {L M : List (Int × Int)}
theorem AS.inR {T : List Rw} {Gs : List (List Int)} (ha : AS n L T Gs) : (∀ s ∈ T.map (fun t => t.2.2), ∀ z ∈ s, 1 ≤ z ∧ z ≤ n) ∧ ∀ s ∈ Gs, ∀ z ∈ s, 1 ≤ z ∧ z ≤ n := by
  have p := ha.pcs
  have key : ∀ z, z ∈ T.flatMap (fun t => t.2.2) ++ Gs.flatten → 1 ≤ z ∧ z ≤ n := fun z hz => by
    have := mem_rng.mp (p.mem_iff.mp hz); omega
  refine ⟨fun s hs z hz => ?_, fun s hs z hz => key z (List.mem_append_right _ (List.mem_flatten.mpr ⟨s, hs, hz⟩))⟩
  obtain ⟨t, ht, rfl⟩ := List.mem_map.mp hs
  exact key z (List.mem_append_left _ (List.mem_flatMap.mpr ⟨t, ht, hz⟩))
end Vf
namespace Vf
open PySem PySem.Spec PyProof.Rows L2
/-! ### layouts and moves renamed -/
end Vf
namespace Vf
open PySem PySem.Spec PyProof.Rows L2
/-! ### a purse of coins: three numbers, of which the last one counts the coins -/
def Purse (H : Hp) (t : Addr) (m : Int) : Prop := ∃ a b c : Int, H t = some (.lst [.int a, .int b, .int c]) ∧ 0 ≤ a ∧ 0 ≤ b ∧ b < 10 ^ 42 ∧ 0 ≤ c ∧ c ≤ m
theorem Purse.mono {H H' : Hp} {t : Addr} {m : Int} (s : Same H H') (h : Purse H t m) : Purse H' t m := let ⟨a, b, c, e, r⟩ := h; ⟨a, b, c, s _ _ e, r⟩
theorem Purse.ne {H : Hp} {t D : Addr} {o : HO} {m : Int} (n : D ≠ t) (h : Purse H t m) : Purse (upd H D o) t m := let ⟨a, b, c, e, r⟩ := h; ⟨a, b, c, (upd_ne n.symm).trans e, r⟩
theorem Purse.le {H : Hp} {t : Addr} {m m' : Int} (h : Purse H t m) (l : m ≤ m') : Purse H t m' := let ⟨a, b, c, e, h1, h2, h3, h4, h5⟩ := h; ⟨a, b, c, e, h1, h2, h3, h4, Int.le_trans h5 l⟩
theorem Purse.lst {H : Hp} {t : Addr} {m : Int} (h : Purse H t m) : ∃ xs, H t = some (.lst xs) := let ⟨_, _, _, e, _⟩ := h; ⟨_, e⟩
/-- one end left out -/
theorem Mk.one {n : Int} {l : List Int} {L : List (Int × Int)} {a : Int} {i : Nat} (h : Mk n l L) (ha : l[i]? = some a) : Mk n (l.eraseIdx i) L := by
  have p1 := perm_erase ha
  have nd1 : (a :: l.eraseIdx i ++ flat L).Nodup := ((p1.append_right (flat L)).nodup_iff).mp h.nd
  have sub1 : ∀ e ∈ a :: l.eraseIdx i ++ flat L, e ∈ endsL n := fun e he => h.sub e ((p1.append_right (flat L)).mem_iff.mpr he)
  exact ⟨h.cp, (List.nodup_cons.mp nd1).2, fun e he => sub1 e (List.mem_cons_of_mem _ he)⟩
/-! ### sorted words -/
end Vf
namespace Vf
open PySem PySem.Spec PyProof.Rows L2
/-! ### signed numbers for pieces, drawn one by one -/
def sgF (ns : List Int) (x : Int) : Int := if 0 < x then ns.getD (x - 1).toNat 0 else if x < 0 then -(ns.getD (-x - 1).toNat 0) else 0
/-- a table of signed numbers while it grows -/
def SgD (D : List (Key × V)) (ns : List Int) : Prop := D.length = 2 * ns.length ∧ ∀ e : Int, valV D (Sum.inl e : Key) = if 1 ≤ ab e ∧ ab e ≤ ns.length then some (.int (sgF ns e)) else none
theorem SgD.nil : SgD [] [] := ⟨rfl, fun e => by rw [if_neg (by simp; omega)]; rfl⟩
end Vf
namespace Vf
open PySem PySem.Spec PyProof.Rows L2
/-! ### min(t), max(t) of a tuple of two ints -/
section
variable {X : Cx} {K : PySem.W.Frag}
theorem alike_ints (i j : Int) : PySem.W.AlikeAll [.int i, .int j] := by
  refine ⟨fun x hx y hy => ?_, fun x hx => ?_⟩
  · simp only [List.mem_cons, List.not_mem_nil, or_false] at hx hy
    rcases hx with rfl | rfl <;> rcases hy with rfl | rfl <;> rfl
  · simp only [List.mem_cons, List.not_mem_nil, or_false] at hx
    rcases hx with rfl | rfl <;> simp
end
/-! ### words and their opposites, told by a table -/
theorem back_facts {n : Int} {L C J M : List (Int × Int)} (hL : Lay n L) (hm : mvD n L (mD C J) = true) (hM : Lay n M) (pm : M.Perm (cutL L C ++ J)) :
    mvD n M (mD J C) = true ∧ L.Perm (cutL M J ++ C) ∧ kindL M J C = oppW (kindL L C J) ∧ kindL L C J ∈ words10 ∧ ∃ R G R' G', NSys n L R G ∧ NSys n M R' G' ∧ ((R'.length : Int) - R.length, (G'.length : Int) - G.length) = dW (kindL L C J) := by
  have opp := mv_opp hL hm hM pm
  have bk := (mv_back hL hm hM pm).symm
  obtain ⟨T, Gs, T', Gs', a1, a2, e1, e2⟩ := kind_word2 hL hm pm
  obtain ⟨U, Hs, U', Hs', b1, b2, f1, f2⟩ := kind_word2 hM opp bk
  obtain ⟨w1, w2⟩ := W_lens e2
  refine ⟨opp, bk, ?_, e1 ▸ w2, ?_⟩
  · rw [e1, f1]
    unfold W
    rw [wordG_opp]
    obtain ⟨g1, g2⟩ := groups_uniq hM b1 a2
    obtain ⟨g3, g4⟩ := groups_uniq hL b2 a1
    rw [g1, g2, g3, g4]
  · obtain ⟨R, G, hs, p1, p2⟩ := a1
    obtain ⟨R', G', hs', p3, p4⟩ := a2
    refine ⟨_, _, _, _, hs.normal, hs'.normal, ?_⟩
    rw [List.length_map, List.length_map, List.length_map, List.length_map, e1, ← w1]
    have l1 := pair_len p1
    have l2 := pair_len p2
    have l3 := pair_len p3
    have l4 := pair_len p4
    rw [l1, l2, l3, l4]
/-- words in the heap, four to a row -/
def Tp4 (H : Hp) (v : V) (q : Str × Str × Int × Int) : Prop := ∃ p, v = .ref p ∧ H p = some (.tup [.str q.1, .str q.2.1, .int q.2.2.1, .int q.2.2.2])
theorem Tp4.mono {H H' : Hp} {v : V} {q : Str × Str × Int × Int} (s : Same H H') (h : Tp4 H v q) : Tp4 H' v q := let ⟨p, e, f⟩ := h; ⟨p, e, s _ _ f⟩
end Vf
namespace Vf
open PySem PySem.Spec PyProof.Rows L2
/-! ### joining two ends -/
structure Iv (f : Int → Int) : Prop where
  z : f 0 = 0
  inv : ∀ e, f e ≠ 0 → f (f e) = e
  ne : ∀ e, e ≠ 0 → f e ≠ e
/-- a and b joined, and what they were coupled with joined, too -/
def J (f : Int → Int) (a b e : Int) : Int := if e = 0 then 0 else if e = a then b else if e = b then a else if e = f b then f a else if e = f a then f b else f e
/-! ### tables of partners with their ends -/
structure Mt (n : Int) (f : Int → Int) : Prop where
  iv : Iv f
  to : ∀ e, f e ≠ 0 → e ∈ endsL n ∧ f e ∈ endsL n
variable {n : Int} {f g : Int → Int}
theorem end0 {e : Int} (h : e ∈ endsL n) : e ≠ 0 := (mem_endsL.mp h).2.2
/-! ### classes of ends that hang together -/
structure Pts (n : Int) (f g : Int → Int) (C : List (List Int)) : Prop where
  pm : C.flatten.Perm (endsL n)
  ne : ∀ c ∈ C, c ≠ []
  clo : ∀ c ∈ C, Clo f g c
  con : ∀ c ∈ C, ∀ S : List Int, Clo f g S → (∃ e ∈ c, e ∈ S) → ∀ e ∈ c, e ∈ S
instance (c : List Int) : Decidable (∀ e ∈ c, f e ≠ 0 ∧ g e ≠ 0) := inferInstance
theorem Pts.nd {C : List (List Int)} (h : Pts n f g C) : C.flatten.Nodup := h.pm.nodup_iff.mpr (endsL_nd n)
theorem Pts.cl {C s t : List (List Int)} {c : List Int} (h : Pts n f g C) (e : C = s ++ c :: t) : c.Nodup ∧ (∀ x ∈ c, x ∈ endsL n) ∧ ∀ r, r ∈ s ∨ r ∈ t → ∀ x ∈ r, x ∉ c ∧ x ∈ endsL n := by
  have nd := h.nd
  have mm : ∀ x, x ∈ C.flatten ↔ x ∈ endsL n := fun x => h.pm.mem_iff
  subst e
  rw [List.flatten_append, List.flatten_cons] at nd mm
  obtain ⟨n1, n2, n3⟩ := List.nodup_append.mp nd
  obtain ⟨n4, n5, n6⟩ := List.nodup_append.mp n2
  refine ⟨n4, fun x hx => (mm x).mp (by simp [hx]), fun r hr x hx => ⟨fun hc => ?_, ?_⟩⟩
  · rcases hr with hr | hr
    · exact n3 x (List.mem_flatten.mpr ⟨r, hr, hx⟩) x (List.mem_append_left _ hc) rfl
    · exact n6 x hc x (List.mem_flatten.mpr ⟨r, hr, hx⟩) rfl
  · refine (mm x).mp ?_
    rcases hr with hr | hr
    · exact List.mem_append_left _ (List.mem_flatten.mpr ⟨r, hr, hx⟩)
    · exact List.mem_append_right _ (List.mem_append_right _ (List.mem_flatten.mpr ⟨r, hr, hx⟩))
end Vf
namespace Vf
open PySem PySem.Spec PyProof.Rows L2
/-! ### the cost of a way from one table to another -/
variable {n : Int} {f g : Int → Int}
def cnt (n : Int) (f : Int → Int) : Int := (((endsL n).filter fun e => decide (f e ≠ 0)).length : Nat)
def cst (f : Int → Int) (a b : Int) : Int := if f a = b then 0 else 2
def R2 (n : Int) : (Int → Int) → List (Int × Int) → Int
  | f, [] => cnt n f
  | f, p :: M => cst f p.1 p.2 + R2 n (J f p.1 p.2) M
def joinOk (n : Int) (M : List (Int × Int)) : Prop := ∀ p ∈ M, p.1 ∈ endsL n ∧ p.2 ∈ endsL n ∧ p.1 ≠ p.2
end Vf
namespace Vf
open PySem PySem.Spec PyProof.Rows L2
/-! ### the distance of two layouts, twice -/
variable {n : Int} {f g : Int → Int}
/-- couplings of g -/
def inG (n : Int) (g : Int → Int) (M : List (Int × Int)) : Prop := ∀ p ∈ M, p.1 ∈ endsL n ∧ p.2 ∈ endsL n ∧ g p.1 = p.2
theorem inG.ok (G : Mt n g) {M : List (Int × Int)} (h : inG n g M) : joinOk n M := fun p hp => ⟨(h p hp).1, (h p hp).2.1, fun z => by
  have := (h p hp).2.2
  rw [← z] at this
  exact G.iv.ne p.1 (end0 (h p hp).1) this⟩
theorem inG.swap (G : Mt n g) {M : List (Int × Int)} (h : inG n g M) {p : Int × Int} (hp : p ∈ M) : g p.2 = p.1 := by
  obtain ⟨h1, h2, h3⟩ := h p hp
  rw [← h3]; exact G.iv.inv p.1 (by rw [h3]; exact end0 h2)
end Vf
namespace Vf
open PySem PySem.Spec PyProof.Rows L2
/-! ### the distance of two layouts, twice -/
variable {n : Int} {L M N C K : List (Int × Int)}
def pt (L : List (Int × Int)) (e : Int) : Int := (parI L e).getD 0
theorem ptb_pt {e : Int} (e0 : e ≠ 0) : ptb L e = pt L e := ptb_par e0
theorem pt_flat (hL : Lay n L) {e : Int} : pt L e ≠ 0 ↔ e ∈ flat L := by
  unfold pt
  cases c : parI L e with
  | none => simp [parI_none.mp c]
  | some y =>
    have h1 := (par_mem hL c).2.2
    have h2 : e ∈ flat L := Decidable.byContradiction fun w => by rw [parI_none.mpr w] at c; cases c
    simp [h1, h2]
theorem flat_end (hL : Lay n L) {e : Int} (h : e ∈ flat L) : e ∈ endsL n := by
  obtain ⟨p, hp, k⟩ := mem_flat.mp h
  have := hL.cp p hp
  exact mem_endsL.mpr (by omega)
theorem pt_mt (hL : Lay n L) : Mt n (pt L) := by
  have iv := ptb_inv hL
  have en : ∀ e, pt L e ≠ 0 → e ∈ endsL n := fun e h => flat_end hL ((pt_flat hL).mp h)
  have to : ∀ e, pt L e ≠ 0 → pt L e ∈ endsL n ∧ pt L (pt L e) = e ∧ pt L e ≠ e := fun e h => by
    have he := en e h
    have := iv.to e he (by rw [ptb_pt (end0 he)]; exact h)
    rw [ptb_pt (end0 he), ptb_pt h] at this
    exact this
  refine ⟨⟨Decidable.byContradiction fun w => end0 (en 0 w) rfl, fun e h => (to e h).2.1, fun e e0 z => ?_⟩, fun e h => ⟨en e h, (to e h).1⟩⟩
  by_cases h : pt L e = 0
  · rw [h] at z; exact e0 z.symm
  · exact (to e h).2.2 z
theorem pt_in (hL : Lay n L) : inG n (pt L) L := fun p hp => by
  have cp := hL.cp p hp
  refine ⟨mem_endsL.mpr (by omega), mem_endsL.mpr (by omega), ?_⟩
  rw [← ptb_pt (by omega)]
  exact (ptb_iff hL (by omega) (by omega)).mpr (.inl hp)
def dd (n : Int) (L M : List (Int × Int)) : Int := R2 n (pt L) M - 2 * M.length
theorem Pts.swap {f g : Int → Int} {X : List (List Int)} (h : Pts n f g X) : Pts n g f X := ⟨h.pm, h.ne, fun c hc => clo_swap (h.clo c hc), fun c hc S hS => h.con c hc S (clo_swap hS)⟩
end Vf
namespace Vf
open PySem PySem.Spec PyProof.Rows L2
/-! ### the program that tells distances -/
theorem r_aug {i : Nat} {te : TE} {f : Int → Int → Int} {D : L2.Ends} {σ : L2.St} {H : Hp} (h : ∃ x, σ[i]? = some (some (.int x)) ∧ te σ H fun y H1 => ∃ j, y = .int j ∧ D.nx (σ.set i (some (.int (f x j)))) H1) : tAug i te (ipI f) D σ H := by
  obtain ⟨x, h0, h⟩ := h
  refine ⟨_, h0, ?_⟩
  have e : (fun y H1 => ipI f (.int x) y H1 fun z H2 => D.nx (σ.set i (some z)) H2) = fun y H1 => ∃ j, y = V.int j ∧ D.nx (σ.set i (some (.int (f x j)))) H1 := by
    funext y H1
    refine propext ⟨?_, ?_⟩
    · rintro ⟨a, b, e1, rfl, q⟩
      cases e1
      exact ⟨b, rfl, q⟩
    · rintro ⟨b, rfl, q⟩
      exact ⟨x, b, rfl, rfl, q⟩
  rw [e]
  exact h
/-- the table of what is left of the one layout: right where no coupling of the other one has been -/
structure Acr (n : Int) (F f : Int → Int) (P : List Int) : Prop where
  eq : ∀ e, e ∈ endsL n → e ∉ P → F e = f e
  rg : ∀ e, -n ≤ e → e ≤ n → -n ≤ F e ∧ F e ≤ n
theorem Acr.same {n : Int} {F f : Int → Int} {P Q : List Int} (h : Acr n F f P) : Acr n F f (P ++ Q) := ⟨fun e he nP => h.eq e he fun z => nP (List.mem_append_left _ z), h.rg⟩
/-! ### the moves of a shortest list -/
variable {n : Int} {L M : List (Int × Int)}
end Vf
namespace Vf
open PySem PySem.Spec PyProof.Rows L2
/-! ### a shortest list of moves -/
variable {n : Int} {L M N K : List (Int × Int)} {ms : List Mv}
def Walk (n : Int) : List (Int × Int) → List Mv → List (Int × Int) → Prop
  | L, [], M => L = M
  | L, m :: ms, M => mvD n L (mD m.1 m.2) = true ∧ Walk n (behind L m.1 m.2) ms M
theorem Walk.app : ∀ {ms : List Mv} {L : List (Int × Int)} {ms2 : List Mv}, Walk n L ms K → Walk n K ms2 M → Walk n L (ms ++ ms2) M
  | [], L, _, h1, h2 => (show L = K from h1) ▸ h2
  | _ :: _, _, _, h1, h2 => ⟨h1.1, Walk.app h1.2 h2⟩
theorem Walk.lay : ∀ {ms : List Mv} {L : List (Int × Int)}, Lay n L → Walk n L ms M → Lay n M
  | [], L, h, w => (show L = M from w) ▸ h
  | _ :: _, _, h, w => Walk.lay (mv_sorted h w.1).1 w.2
def cm (L : List (Int × Int)) (e : Int) : Mv := ([cpl e (pt L e)], [])
end Vf
namespace Vf
open PySem PySem.Spec PyProof.Rows L2
/-! ### moves in a list that grows, beside a table that changes -/
theorem hid_some {l : List Addr} {H : Hp} {b : Addr} {o : HO} (h : Hid l H b = some o) : b ∉ l ∧ H b = some o := by
  unfold Hid at h
  by_cases c : b ∈ l
  · rw [if_pos c] at h; cases h
  · rw [if_neg c] at h; exact ⟨c, h⟩
/-- a list of values that leads from a layout to another one, or does not -/
inductive LeadsB (n : Int) (M : List (Int × Int)) : List (Int × Int) → List PyData → Bool → Prop
  | nil (L : List (Int × Int)) : LeadsB n M L [] (decide (L = M))
  | no {L : List (Int × Int)} {e : PyData} {es : List PyData} (h : mvD n L e = false) : LeadsB n M L (e :: es) false
  | yes {L C J : List (Int × Int)} {es : List PyData} {b : Bool} (h : mvD n L (mD C J) = true) (r : LeadsB n M (behind L C J) es b) : LeadsB n M L (mD C J :: es) b
end Vf
namespace Vf
open PySem PySem.Spec PyProof.Rows L2
/-! ### classes found end by end -/
variable {n : Int} {f g : Int → Int} {L M K : List (Int × Int)} {ms : List Mv}
/-- the classes found so far -/
structure Ptl (n : Int) (f g : Int → Int) (C : List (List Int)) : Prop where
  nd : C.flatten.Nodup
  sub : ∀ e ∈ C.flatten, e ∈ endsL n
  ne : ∀ c ∈ C, c ≠ []
  clo : ∀ c ∈ C, Clo f g c
  con : ∀ c ∈ C, ∀ S : List Int, Clo f g S → (∃ e ∈ c, e ∈ S) → ∀ e ∈ c, e ∈ S
theorem Ptl.done {C : List (List Int)} (h : Ptl n f g C) (all : ∀ e ∈ endsL n, e ∈ C.flatten) : Pts n f g C :=
  ⟨(List.perm_ext_iff_of_nodup h.nd (endsL_nd n)).mpr fun e => ⟨h.sub e, all e⟩, h.ne, h.clo, h.con⟩
/-- a class that grows from one end -/
structure Bf (n : Int) (f g : Int → Int) (P : List Int) (e0 : Int) (xs : List Int) (d : Nat) : Prop where
  fst : e0 ∈ xs
  nd : (P ++ xs).Nodup
  sub : ∀ x ∈ xs, x ∈ endsL n
  side : ∀ S : List Int, Clo f g S → ∀ x ∈ xs, (x ∈ S ↔ e0 ∈ S)
  cl : ∀ i x, i < d → xs[i]? = some x → (f x ≠ 0 → f x ∈ xs) ∧ (g x ≠ 0 → g x ∈ xs)
  le : d ≤ xs.length
theorem Bf.add {P xs : List Int} {e0 x y : Int} {d : Nat} (h : Bf n f g P e0 xs d) (F : Mt n f) (G : Mt n g) (hx : x ∈ xs) (y0 : y ≠ 0) (hy : y = f x ∨ y = g x) (ny : y ∉ P ++ xs) : Bf n f g P e0 (xs ++ [y]) d := by
  have yE : y ∈ endsL n := by
    rcases hy with z | z
    · rw [z]; exact (F.to x (z ▸ y0)).2
    · rw [z]; exact (G.to x (z ▸ y0)).2
  refine ⟨List.mem_append_left _ h.fst, ?_, fun z hz => ?_, fun S hS z hz => ?_, fun i z hi hz => ?_, ?_⟩
  · rw [← List.append_assoc]
    refine List.nodup_append.mpr ⟨h.nd, by simp, fun a ha b hb => ?_⟩
    rw [List.mem_singleton.mp hb]
    rintro rfl
    exact ny ha
  · rcases List.mem_append.mp hz with hz | hz
    · exact h.sub z hz
    · rw [List.mem_singleton.mp hz]; exact yE
  · rcases List.mem_append.mp hz with hz | hz
    · exact h.side S hS z hz
    · rw [List.mem_singleton.mp hz, ← h.side S hS x hx]
      rcases hy with z | z
      · have k := F.iv.inv x (z ▸ y0)
        constructor
        · intro w
          have := (hS y w).1
          rw [z, k] at this
          exact this (end0 (h.sub x hx))
        · intro w
          rw [z]; exact (hS x w).1 (z ▸ y0)
      · have k := G.iv.inv x (z ▸ y0)
        constructor
        · intro w
          have := (hS y w).2
          rw [z, k] at this
          exact this (end0 (h.sub x hx))
        · intro w
          rw [z]; exact (hS x w).2 (z ▸ y0)
  · have il : i < xs.length := Nat.lt_of_lt_of_le hi h.le
    rw [List.getElem?_append_left il] at hz
    have := h.cl i z hi hz
    exact ⟨fun w => List.mem_append_left _ (this.1 w), fun w => List.mem_append_left _ (this.2 w)⟩
  · rw [List.length_append]; have := h.le; omega
theorem Bf.len {P xs : List Int} {e0 : Int} {d : Nat} (h : Bf n f g P e0 xs d) (n1 : 1 ≤ n) : (xs.length : Int) ≤ 2 * n := by
  have nd := List.nodup_cons.mpr ⟨fun z => end0 (h.sub 0 z) rfl, (List.nodup_append.mp h.nd).2.1⟩
  have := nodup_sub (l := 0 :: xs) (m := rng (-n) (2 * n + 1).toNat) nd fun x hx => by
    rcases List.mem_cons.mp hx with rfl | hx
    · exact mem_rng.mpr (by omega)
    · have := mem_endsL.mp (h.sub x hx); exact mem_rng.mpr (by omega)
  rw [List.length_cons, rng_len] at this
  omega
theorem Bf.done {C : List (List Int)} {xs : List Int} {e0 : Int} (h : Bf n f g C.flatten e0 xs xs.length) (p : Ptl n f g C) : Ptl n f g (C ++ [xs]) := by
  have cl : Clo f g xs := fun x hx => by
    obtain ⟨i, hi⟩ := List.getElem?_of_mem hx
    exact h.cl i x (List.getElem?_eq_some_iff.mp hi).1 hi
  refine ⟨by rw [List.flatten_append, List.flatten_cons, List.flatten_nil, List.append_nil]; exact h.nd, fun e he => ?_, fun c hc => ?_, fun c hc => ?_, fun c hc => ?_⟩
  · rw [List.flatten_append, List.flatten_cons, List.flatten_nil, List.append_nil] at he
    exact (List.mem_append.mp he).elim (p.sub e) (h.sub e)
  · rcases List.mem_append.mp hc with hc | hc
    · exact p.ne c hc
    · rw [List.mem_singleton.mp hc]; exact fun z => by have := h.fst; rw [z] at this; cases this
  · rcases List.mem_append.mp hc with hc | hc
    · exact p.clo c hc
    · rw [List.mem_singleton.mp hc]; exact cl
  · rcases List.mem_append.mp hc with hc | hc
    · exact p.con c hc
    · rw [List.mem_singleton.mp hc]
      rintro S hS ⟨x, hx, hxS⟩ y hy
      exact (h.side S hS y hy).mpr ((h.side S hS x hx).mp hxS)
/-! ### the way back -/
def swM (m : Mv) : Mv := (m.2, m.1)
theorem Walk.snoc {m : Mv} (h : Walk n L ms K) (hm : mvD n K (mD m.1 m.2) = true) : Walk n L (ms ++ [m]) (behind K m.1 m.2) := h.app ⟨hm, rfl⟩
theorem mv_turn {C J' : List (Int × Int)} (hL : Lay n L) (hm : mvD n L (mD C J') = true) : mvD n (behind L C J') (mD J' C) = true ∧ behind (behind L C J') J' C = L := by
  obtain ⟨hB, pB⟩ := mv_sorted hL hm
  obtain ⟨b1, b2, _⟩ := back_facts hL hm hB pB
  obtain ⟨hB2, pB2⟩ := mv_sorted hB b1
  exact ⟨b1, asc_uniq hB2.asc hL.asc (pB2.trans b2.symm)⟩
theorem Walk.back : ∀ {ms : List Mv} {L : List (Int × Int)}, Lay n L → Walk n L ms M → Walk n M ((ms.map swM).reverse) L
  | [], L, _, w => (show L = M from w).symm
  | m :: ms, L, hL, w => by
    obtain ⟨hB, _⟩ := mv_sorted hL w.1
    obtain ⟨b1, b2⟩ := mv_turn hL w.1
    have ih := Walk.back hB w.2
    rw [List.map_cons, List.reverse_cons]
    have := ih.snoc (m := swM m) b1
    rw [show behind (behind L m.1 m.2) (swM m).1 (swM m).2 = L from b2] at this
    exact this
theorem mD_inj {C J' C2 J2 : List (Int × Int)} (e : mD C J' = mD C2 J2) : C = C2 ∧ J' = J2 := by
  simp only [mD, PyData.tuple.injEq, List.cons.injEq, PyData.list.injEq, and_true] at e
  exact ⟨dL_inj (by unfold dL; rw [e.1]), dL_inj (by unfold dL; rw [e.2])⟩
theorem LeadsB.uniq {L : List (Int × Int)} {ds : List PyData} {b b' : Bool} (h : LeadsB n M L ds b) (h' : LeadsB n M L ds b') : b = b' := by
  induction h with
  | nil L => cases h'; rfl
  | no h => cases h' with
    | no _ => rfl
    | yes k _ => rw [h] at k; cases k
  | @yes L C J es b h r ih =>
    generalize e : mD C J = d at h'
    cases h' with
    | no k => rw [← e, h] at k; cases k
    | yes k r' =>
      obtain ⟨rfl, rfl⟩ := mD_inj e
      exact ih r'
/-- moves of a walk have few and small couplings -/
theorem Walk.small : ∀ {ms : List Mv} {L : List (Int × Int)}, Lay n L → Walk n L ms M → ∀ m ∈ ms, Sm 153 4 (encM m)
  | [], _, _, _, _, hm => (nomatch hm)
  | m :: ms, L, hL, w, m', hm => by
    rcases List.mem_cons.mp hm with rfl | hm
    · exact sm_mv hL w.1
    · exact Walk.small (mv_sorted hL w.1).1 w.2 m' hm
end Vf
namespace Vf
open PySem PySem.Spec PyProof.Rows L2
/-! ### components as classes, and their cost -/
variable {n : Int} {L M : List (Int × Int)} {f g : Int → Int}
/-! ### components taken over -/
theorem AltI.congr {f' g' : Int → Int} {w : List Int} (h : AltI f g w) (e : ∀ x ∈ w, f' x = f x ∧ g' x = g x) : AltI f' g' w := fun i x y hx hy => by
  have := e x (List.mem_of_getElem? hx)
  rw [this.1, this.2]; exact h i x y hx hy
theorem Wy.congr {f' g' : Int → Int} {w : List Int} {x y : Int} (h : Wy n f g w x y) (e : ∀ x ∈ w, f' x = f x ∧ g' x = g x) : Wy n f' g' w x y := by
  have ex := e x (List.mem_of_getElem? h.fst)
  have ey := e y (List.mem_of_getElem? h.lst)
  exact ⟨h.alt.congr e, h.fst, h.lst, by rw [ex.2]; exact h.x0, by rw [ey.1, ey.2]; exact h.y0, h.nd, h.sub⟩
theorem PartOk.congr {f' g' : Int → Int} {c : Cm} (h : PartOk n f g c) (e : ∀ x ∈ c.2, f' x = f x ∧ g' x = g x) : PartOk n f' g' c := by
  have e2 : ∀ x ∈ c.2, g' x = g x ∧ f' x = f x := fun x hx => ⟨(e x hx).2, (e x hx).1⟩
  cases h with
  | odd h l => exact .odd (h.congr e2) l
  | one h l k => exact .one (h.congr e) l k
  | other h l k => exact .other (h.congr e2) l k
  | @ring w x h =>
    refine .ring ⟨h.alt.congr fun z hz => ?_, h.fst, h.ev, h.min, h.nd, h.sub⟩
    rcases List.mem_append.mp hz with hz | hz
    · exact e z hz
    · rw [List.mem_singleton.mp hz]; exact e x (List.mem_of_getElem? h.fst)
/-! ### a component in a list of components -/
/-! ### components beside a tap -/
theorem tap_upd {H : Hp} {t D : Addr} {o : HO} (h : Tap H t) (n : D ≠ t) : Tap (upd H D o) t := let ⟨a, b, c, e, r⟩ := h; ⟨a, b, c, by rw [upd_ne n.symm]; exact e, r⟩
end Vf
namespace Vf
open PySem PySem.Spec PyProof.Rows L2
/-! ### lists of moves that a law makes up -/
def Bm (m : Mv) : Prop := Bd m.1 ∧ Bd m.2 ∧ m.1.length ≤ 2 ∧ m.2.length ≤ 2
def LsM (H : Hp) (m : Nat) (v : V) : Prop := ∃ a xs M, v = .ref a ∧ H a = some (.lst xs) ∧ MvL H xs M ∧ (∀ r ∈ M, Bm r) ∧ M.length ≤ m
section
variable {K : PySem.W.Frag} {t : List Addr} {σ : L2.St} {H0 H H' : Hp} {te ta tb : TE} {ts : TA} {tl th : TO} {m m' a W k : Nat} {v : V} {vs : List Nat} {ix : Nat}
theorem LsM.mono (s : Same H H') (h : LsM H m v) : LsM H' m v := let ⟨a, xs, M, e, h1, h2, h3⟩ := h; ⟨a, xs, M, e, s _ _ h1, h2.mono s, h3⟩
theorem LsM.le (h : LsM H m v) (hm : m ≤ m') : LsM H m' v := let ⟨a, xs, M, e, h1, h2, h3, h4⟩ := h; ⟨a, xs, M, e, h1, h2, h3, Nat.le_trans h4 hm⟩
theorem Walk.split {n : Int} {L M : List (Int × Int)} {ms ms2 : List Mv} (h : Walk n L (ms ++ ms2) M) : ∃ N, Walk n L ms N ∧ Walk n N ms2 M := by
  induction ms generalizing L with
  | nil => exact ⟨L, rfl, h⟩
  | cons m ms ih =>
    obtain ⟨N, h1, h2⟩ := ih h.2
    exact ⟨N, ⟨h.1, h1⟩, h2⟩
/-! a list that is not empty -/
end
end Vf
namespace Vf
open PySem PySem.Spec PyProof.Rows L2
/-! ### two layouts side by side -/
variable {a b : Int} {L M L' M' U V C J' : List (Int × Int)}
def onI (a x : Int) : Int := if x > 0 then x + a else x - a
def onP (a : Int) (p : Int × Int) : Int × Int := (onI a p.1, onI a p.2)
def onL (a : Int) (X : List (Int × Int)) : List (Int × Int) := X.map (onP a)
theorem onI_lt (a0 : 0 ≤ a) {x y : Int} (x0 : x ≠ 0) (y0 : y ≠ 0) : onI a x < onI a y ↔ x < y := by
  unfold onI; split <;> split <;> omega
theorem onI_0 (a0 : 0 ≤ a) {x : Int} (x0 : x ≠ 0) : onI a x ≠ 0 := by
  unfold onI; split <;> omega
structure Sbs (a b : Int) (L M U : List (Int × Int)) : Prop where
  hL : Lay a L
  hM : Lay b M
  hU : Lay (a + b) U
  pm : U.Perm (L ++ onL a M)
theorem on_range (hM : Lay b M) (a0 : 0 ≤ a) {p : Int × Int} (h : p ∈ onL a M) : (-(a + b) ≤ p.1 ∧ p.1 < p.2 ∧ p.2 ≤ a + b ∧ p.1 ≠ 0 ∧ p.2 ≠ 0) ∧ (a < p.1 ∨ p.1 < -a) ∧ (a < p.2 ∨ p.2 < -a) := by
  obtain ⟨q, hq, rfl⟩ := List.mem_map.mp h
  have c := hM.cp q hq
  have l := (onI_lt a0 c.2.2.2.1 c.2.2.2.2).mpr c.2.1
  unfold onP
  refine ⟨⟨?_, l, ?_, onI_0 a0 c.2.2.2.1, onI_0 a0 c.2.2.2.2⟩, ?_, ?_⟩ <;> (unfold onI; simp only; split <;> omega)
theorem Sbs.uniq (h : Sbs a b L M U) (h' : Sbs a b L M V) : U = V := asc_uniq h.hU.asc h'.hU.asc (h.pm.trans h'.pm.symm)
theorem pt_val {n : Int} (hL : Lay n L) {p : Int × Int} (hp : p ∈ L) : pt L p.1 = p.2 ∧ pt L p.2 = p.1 := ⟨(pt_in hL p hp).2.2, (pt_in hL).swap (pt_mt hL) hp⟩
/-! ### their components -/
/-! ### their readings -/
end Vf
namespace Vf
open PySem PySem.Spec PyProof.Rows L2
/-! ### moves of two layouts side by side -/
variable {a b : Int} {L M L' M' U V C J' : List (Int × Int)}
theorem Sbs.a0 (h : Sbs a b L M U) : 0 ≤ a := by have := h.hL.n1; omega
theorem Sbs.apart (h : Sbs a b L M U) {p : Int × Int} (hp : p ∈ L) : p ∉ onL a M := fun z => by
  have := on_range h.hM h.a0 z
  have := h.hL.cp p hp
  omega
theorem prI_lt {x y : Int} (h : x < y) : prI x y = (x, y) := by unfold prI; rw [Int.min_eq_left (by omega), Int.max_eq_right (by omega)]
/-! ### words -/
/-! ### numbers of moves -/
theorem half_mul (x : Int) : (2 * x * (2 * x - 1)).fdiv 2 = x * (2 * x - 1) := by
  rw [Int.fdiv_eq_ediv_of_nonneg _ (by decide), Int.mul_assoc, Int.mul_ediv_cancel_left _ (by decide)]
theorem Sbs.len (h : Sbs a b L M U) : U.length = L.length + M.length := by
  rw [h.pm.length_eq, List.length_append]; unfold onL; rw [List.length_map]
theorem Sbs.count (h : Sbs a b L M U) : cntM (a + b) U = cntM a L + cntM b M + (2 * (L.length : Int) * M.length + 2 * (L.length : Int) * (2 * b - 2 * M.length) + 2 * (M.length : Int) * (2 * a - 2 * L.length) + (2 * a - 2 * L.length) * (2 * b - 2 * M.length)) := by
  unfold cntM
  rw [half_mul, half_mul, half_mul, h.len, Int.natCast_add]
  generalize (L.length : Int) = l
  generalize (M.length : Int) = m
  grind
end Vf
namespace Vf
open PySem PySem.Spec PyProof.Rows L2
/-! ### for k63 -/
variable {a b : Int} {L M L' M' U W C J' : List (Int × Int)}
def NzP (X : List (Int × Int)) : Prop := ∀ p ∈ X, p.1 ≠ 0 ∧ p.2 ≠ 0
theorem Lay.nz {n : Int} (h : Lay n L) : NzP L := fun p hp => (h.cp p hp).2.2.2
/-- a test whose ways meet again -/
theorem r_testJ {tt : TT} {σ : L2.St} {H : Hp} {R : Bool → Hp → Prop} (I : Bool → Hp → Prop) (h1 : ∀ R' : Bool → Hp → Prop, (∀ b H', I b H' → R' b H') → tt σ H R') (h2 : ∀ b H', I b H' → R b H') : tt σ H R := h1 R h2
end Vf
namespace Vf
open PySem PySem.Spec PyProof.Rows L2
/-! ### a zip of two lists, kept in a variable -/
def OzO (z TI TO : Addr) : HO := .ext fun h => IsZip h z TI TO .none
def OpO (T : Addr) (u v : Value) : HO := .ext fun h => IsPair h T u v
def OqO (T : Addr) : HO := .ext fun h => ∃ x y, IsPair h T x y
def OiO (i a : Addr) : HO := .ext fun h => h.IsListIter i a 0
structure ZipV (H : Hp) (n : Nat) (z TI TO i1 i2 a b : Addr) : Prop where
  ap : ZipApart z TI TO i1 i2 a b
  hz : H z = some (OzO z TI TO)
  hI : H TI = some (OpO TI (.ref i1) (.ref i2))
  hO : H TO = some (OqO TO)
  h1 : H i1 = some (OiO i1 a)
  h2 : H i2 = some (OiO i2 b)
  n1 : n ≤ i1
  n2 : n ≤ i2
  nI : n ≤ TI
  nO : n ≤ TO
  nz : n ≤ z
def rZipN (K : PySem.W.Frag) (n : Nat) : List V → Hp → VK → Prop := fun vs H Q => ∃ (a b : Addr) (xs ys : List V), vs = [.ref a, .ref b] ∧ SqL K H a xs ∧ SqL K H b ys ∧ ∀ z TI TO i1 i2 H', Same H H' → (∀ x, x ∈ [z, TI, TO, i1, i2] → H x = none) → (∀ x o, H' x = some o → x ∈ [z, TI, TO, i1, i2] ∨ H x = some o) → ZipV H' n z TI TO i1 i2 a b → Q (.ref z) H'
theorem extOk {P : Program} {w : World} {H : Hp} {h : Heap} {a : Addr} {f : Heap → Prop} (h1 : f h) (h2 : ∃ o, h.get? a = some o) (h3 : ∀ g g' : Heap, f g → (∀ o : Obj, g.get? a = some o → g'.get? a = some o) → f g') : ObjOk P w H h a (.ext f) := ⟨h1, h2, h3⟩
theorem push_sz (h : Heap) (o : Obj) : (h.push o).objs.size = h.objs.size + 1 := by simp [Heap.push]
theorem push_get {h : Heap} {o u : Obj} {b : Addr} (fr : o.isFreed = false) (e : (h.push o).get? b = some u) : h.get? b = some u ∨ (b = h.objs.size ∧ u = o) := by
  by_cases hb : b = h.objs.size
  · rw [Heap.get?_push_at hb fr] at e
    exact .inr ⟨hb, (Option.some.inj e).symm⟩
  · left
    unfold Heap.push Heap.get? at e
    unfold Heap.get?
    simp only [Array.getElem?_push, if_neg hb] at e
    exact e
/-- what is laid next, at the heap's end -/
theorem inv_push {X : Cx} {pins : List (Addr × Obj)} {σ : L2.St} {H : Hp} {s : Shared} {o : Obj} {a : Addr} {f : Heap → Prop} (I : L2.Inv X pins σ H s) (ha : s.heap.objs.size = a) (fr : o.isFreed = false) (h1 : f (s.heap.push o)) (h3 : ∀ g g' : Heap, f g → (∀ u : Obj, g.get? a = some u → g'.get? a = some u) → f g') :
    L2.Inv X pins σ (upd H a (.ext f)) { heap := s.heap.push o, gens := s.gens, drawn := s.drawn, toks := s.toks, os := s.os } := by
  subst ha
  exact Inv.laid I (fun b u e => Heap.get?_push_of_some o e) (Nat.le_refl _) (extOk h1 ⟨o, Heap.get?_push_at rfl fr⟩ h3)
theorem iter_st {i a : Addr} : ∀ g g' : Heap, g.IsListIter i a 0 → (∀ u : Obj, g.get? i = some u → g'.get? i = some u) → g'.IsListIter i a 0 := fun g g' ⟨o, h1, h2⟩ k => ⟨o, k _ h1, h2⟩
theorem call_zipN {X : Cx} : CallR X (.type "zip") (rZipN X.K X.s_0.heap.objs.size) := fun pins s σ H vs us Q I r h => by
  obtain ⟨a, b, xs, ys, rfl, hqx, hqy, q⟩ := h
  cases r with
  | cons r1 rr =>
  cases rr with
  | cons r2 rr =>
  cases rr
  cases r1
  cases r2
  obtain ⟨its, rv, p1, _⟩ := Inv.list I hqx
  obtain ⟨its2, rv2, p2, _⟩ := Inv.list I hqy
  have la := PlainL.lt p1
  have lb := PlainL.lt p2
  refine call_zip_2 (PlainL.isList p1) (PlainL.isList p2) fun h' hz hTI hTO h1 h2 hsz hk => ?_
  have ap := W.ktu_apart s.heap.objs.size a b la lb
  have hs0 := Inv.sz I
  generalize hn : s.heap.objs.size = n at *
  obtain ⟨o1, g1, c1, d1⟩ := h1
  obtain ⟨o2, g2, c2, d2⟩ := h2
  have f1 : o1.isFreed = false := by cases o1; simp only at d1; subst d1; rfl
  have f2 : o2.isFreed = false := by cases o2; simp only at d2; subst d2; rfl
  have I1 := inv_push (o := o1) (f := fun h => h.IsListIter n a 0) I hn f1 ⟨o1, Heap.get?_push_at hn.symm f1, c1, d1⟩ iter_st
  have n1 : (s.heap.push o1).objs.size = n + 1 := by rw [push_sz, hn]
  have I2 := inv_push (o := o2) (f := fun h => h.IsListIter (n + 1) b 0) I1 n1 f2 ⟨o2, Heap.get?_push_at n1.symm f2, c2, d2⟩ iter_st
  have n2 : ((s.heap.push o1).push o2).objs.size = n + 2 := by rw [push_sz, n1]
  have I3 := inv_push (o := { cls := Value.type "tuple", data := Data.seq #[.ref n, .ref (n + 1)] }) (f := fun h => IsPair h (n + 2) (.ref n) (.ref (n + 1))) I2 n2 rfl (Heap.get?_push_at n2.symm rfl) (fun g g' h k => k _ h)
  have n3 : (((s.heap.push o1).push o2).push { cls := Value.type "tuple", data := Data.seq #[.ref n, .ref (n + 1)] }).objs.size = n + 3 := by rw [push_sz, n2]
  have I4 := inv_push (o := { cls := Value.type "tuple", data := Data.seq #[.none, .none] }) (f := fun h => ∃ x y, IsPair h (n + 3) x y) I3 n3 rfl ⟨_, _, Heap.get?_push_at n3.symm rfl⟩ (fun g g' ⟨x, y, h⟩ k => ⟨x, y, k _ h⟩)
  have n4 : ((((s.heap.push o1).push o2).push { cls := Value.type "tuple", data := Data.seq #[.ref n, .ref (n + 1)] }).push { cls := Value.type "tuple", data := Data.seq #[.none, .none] }).objs.size = n + 4 := by rw [push_sz, n3]
  have I5 := inv_push (o := { cls := Value.type "zip", data := Data.fields #[.none, Value.bool false, Value.bool false, Value.ref (n + 2), Value.ref (n + 3)] }) (f := fun h => IsZip h (n + 4) (n + 2) (n + 3) .none) I4 n4 rfl (Heap.get?_push_at n4.symm rfl) (fun g g' h k => k _ h)
  have I6 := Inv.kept (h' := h') (t' := s.toks) I5 (fun c u e => by
    rcases push_get rfl e with e | ⟨rfl, rfl⟩
    · rcases push_get rfl e with e | ⟨rfl, rfl⟩
      · rcases push_get rfl e with e | ⟨rfl, rfl⟩
        · rcases push_get f2 e with e | ⟨rfl, rfl⟩
          · rcases push_get f1 e with e | ⟨rfl, rfl⟩
            · exact hk _ _ e
            · rw [hn]; exact g1
          · rw [n1]; exact g2
        · rw [n2]; exact hTI
      · rw [n3]; exact hTO
    · rw [n4]; exact hz)
  refine ⟨.ref (n + 4), _, I6, rfl, ?_⟩
  have fr : ∀ k, H (n + k) = none := fun k => HOk.fresh I.hok (by omega)
  refine q (n + 4) (n + 2) (n + 3) n (n + 1) _ ?_ ?_ ?_ ?_
  · intro x o e
    have ne : ∀ j, x ≠ n + j := fun j z => by rw [z, fr j] at e; cases e
    have n0 : x ≠ n := ne 0
    rw [upd_ne (ne 4), upd_ne (ne 3), upd_ne (ne 2), upd_ne (ne 1), upd_ne n0]
    exact e
  · intro x hx
    have : x = n + 4 ∨ x = n + 2 ∨ x = n + 3 ∨ x = n ∨ x = n + 1 := by simpa using hx
    rcases this with rfl | rfl | rfl | rfl | rfl
    · exact fr 4
    · exact fr 2
    · exact fr 3
    · exact fr 0
    · exact fr 1
  · intro x o e
    by_cases h4 : x = n + 4
    · left; simp [h4]
    rw [upd_ne h4] at e
    by_cases h3 : x = n + 3
    · left; simp [h3]
    rw [upd_ne h3] at e
    by_cases h2 : x = n + 2
    · left; simp [h2]
    rw [upd_ne h2] at e
    by_cases h1 : x = n + 1
    · left; simp [h1]
    rw [upd_ne h1] at e
    by_cases h0 : x = n
    · left; simp [h0]
    rw [upd_ne h0] at e
    exact .inr e
  · have d0 : ∀ {j : Nat}, 0 < j → n ≠ n + j := fun {j} h z => by have : n < n + j := Nat.lt_add_of_pos_right h; omega
    have d : ∀ {i j : Nat}, i ≠ j → n + i ≠ n + j := fun h z => h (Nat.add_left_cancel z)
    refine ⟨ap, upd_same, ?_, ?_, ?_, ?_, hs0, Nat.le_add_right_of_le hs0, Nat.le_add_right_of_le hs0, Nat.le_add_right_of_le hs0, Nat.le_add_right_of_le hs0⟩
    · rw [upd_ne (d (by decide)), upd_ne (d (by decide)), upd_same]; rfl
    · rw [upd_ne (d (by decide)), upd_same]; rfl
    · rw [upd_ne (d0 (by decide)), upd_ne (d0 (by decide)), upd_ne (d0 (by decide)), upd_ne (d0 (by decide)), upd_same]; rfl
    · rw [upd_ne (d (by decide)), upd_ne (d (by decide)), upd_ne (d (by decide)), upd_same]; rfl
/-- a for, or a comprehension, over a zip that stands in a variable -/
def iZipN (K : PySem.W.Frag) (n k : Nat) : TI := fun σ H R => ∃ z TI TO i1 i2 a b, σ[k]? = some (some (.ref z)) ∧ ZipV H n z TI TO i1 i2 a b ∧ R (Itz K a b) (Hid [z, TI, TO, i1, i2] H)
theorem ext_at {X : Cx} {pins : List (Addr × Obj)} {σ : L2.St} {H : Hp} {s : Shared} {a : Addr} {f : Heap → Prop} (I : L2.Inv X pins σ H s) (h : H a = some (.ext f)) : f s.heap := by
  have : ObjOk X.prog X.w H s.heap a (.ext f) := I.hok a _ h
  exact this.1
theorem pi_zipN {X : Cx} {elts : List Expr} {kk : Nat} {tpos : Pos} {k : Nat} {x : Str} {p : Pos} (hN : X.N[k]? = some x) (hv : Vis X.env.scope x) (hd : (x == Str.ofString "__debug__") = false := by rfl) (hcd : (x == Str.ofString "__classdict__") = false := by rfl) :
    PI X (.Tuple elts kk tpos) (.Name x p) (iZipN X.K X.s_0.heap.objs.size k) := ⟨fun pins s σ H R I h => by
  obtain ⟨z, TI, TO, i1, i2, a, b, hs, hz, q⟩ := h
  refine thn ((pe_var hN hv hd hcd).run pins s σ H (fun v H1 => v = V.ref z ∧ H1 = H) I ⟨V.ref z, hs, rfl, rfl⟩) fun u s1 h1 => ?_
  obtain ⟨v, H1, I1, r1, rfl, rfl⟩ := h1
  cases r1
  have e0 := ext_at I1 hz.hz
  have e1 := ext_at I1 hz.hI
  have e2 := ext_at I1 hz.hO
  have e3 := ext_at I1 hz.h1
  have e4 := ext_at I1 hz.h2
  have A := hz.ap
  refine wpAny_pyIter_zip e0 ?_
  have J0 := ItX.inv_drop I1 hz.hz
  have J1 := ItX.inv_drop J0 (a := TI) (by unfold ItX.dropH; rw [if_neg A.TIz]; exact hz.hI)
  have J2 := ItX.inv_drop J1 (a := TO) (by unfold ItX.dropH; rw [if_neg (Ne.symm A.TITO), if_neg A.TOz]; exact hz.hO)
  have J3 := ItX.inv_drop J2 (a := i1) (by unfold ItX.dropH; rw [if_neg (Ne.symm A.TOi1), if_neg (Ne.symm A.TIi1), if_neg A.i1z]; exact hz.h1)
  have J4 := ItX.inv_drop J3 (a := i2) (by unfold ItX.dropH; rw [if_neg (Ne.symm A.i12), if_neg (Ne.symm A.TOi2), if_neg (Ne.symm A.TIi2), if_neg A.i2z]; exact hz.h2)
  have eH : ItX.dropH (ItX.dropH (ItX.dropH (ItX.dropH (ItX.dropH H1 z) TI) TO) i1) i2 = Hid [z, TI, TO, i1, i2] H1 := funext fun y => by
    unfold ItX.dropH Hid
    by_cases c4 : y = i2
    · rw [if_pos c4, if_pos (by simp [c4])]
    by_cases c3 : y = i1
    · rw [if_neg c4, if_pos c3, if_pos (by simp [c3])]
    by_cases c2 : y = TO
    · rw [if_neg c4, if_neg c3, if_pos c2, if_pos (by simp [c2])]
    by_cases c1 : y = TI
    · rw [if_neg c4, if_neg c3, if_neg c2, if_pos c1, if_pos (by simp [c1])]
    by_cases c0 : y = z
    · rw [if_neg c4, if_neg c3, if_neg c2, if_neg c1, if_pos c0, if_pos (by simp [c0])]
    · rw [if_neg c4, if_neg c3, if_neg c2, if_neg c1, if_neg c0, if_neg (by simp [c0, c1, c2, c3, c4])]
  rw [eH] at J4
  refine ⟨z, [z, TI, TO, i1, i2], _, Itz X.K a b, _, rfl, J4, turn_zip A, ⟨e0, e1, e2, e3, e4⟩, fun c hc => ?_, q⟩
  have fp : ∀ {y : Addr} {o : HO}, H1 y = some o → X.s_0.heap.objs.size ≤ y → y ∈ [z, TI, TO, i1, i2] → FpOk X pins (Hid [z, TI, TO, i1, i2] H1) y := fun h n m => ⟨by unfold Hid; rw [if_pos m], (ItX.inv_fp I1 h n).2⟩
  have : c = z ∨ c = TI ∨ c = TO ∨ c = i1 ∨ c = i2 := by simpa using hc
  rcases this with rfl | rfl | rfl | rfl | rfl
  · exact fp hz.hz hz.nz hc
  · exact fp hz.hI hz.nI hc
  · exact fp hz.hO hz.nO hc
  · exact fp hz.h1 hz.n1 hc
  · exact fp hz.h2 hz.n2 hc⟩
end Vf
namespace Vf
open PySem PySem.Spec PyProof.Rows L2
/-! ### a set comprehension with two fors: its loops -/
end Vf
namespace Vf
open PySem PySem.Spec PyProof.Rows L2
/-! ### a set comprehension of ints with two fors -/
def Sc2In (w : World) (J1 : It) (g1 : TG) (tt1 : TT) (te : TE) (vs1 : List Nat) (D : Addr) (σ2 : L2.St) (H4 : Hp) (Nx : Hp → Prop) : Prop :=
  ∃ W1 : Nat → Nat → Hp → Prop, (∃ m, W1 0 m H4) ∧ ∀ j k H, W1 j k H → (J1.stop j H ∧ Nx H) ∨ (J1.go j H ∧ ∃ Nx1 : Hp → Prop, (∀ H', Nx1 H' → ∃ k', k' < k ∧ W1 (j + 1) k' H') ∧
    ∀ x H', J1.yld j H x H' → g1 x (wipe σ2 vs1) H' fun σ3 H5 => wipe σ3 vs1 = wipe σ2 vs1 ∧ tt1 σ3 H5 fun b H6 => if b = true then te σ3 H6 fun y H7 => rSAdd w (.ref D) [y] H7 fun _ H8 => Nx1 H8 else Nx1 H6)
def tSc2 (w : World) (wi : TI) (g : TG) (tt : TT) (wi1 : TI) (g1 : TG) (tt1 : TT) (te : TE) (vs vs1 : List Nat) : TE := fun σ H Q => wi σ H fun J H1 => ∀ D, H1 D = none →
  ∃ W : Nat → Nat → Hp → Prop, (∃ m, W 0 m (upd H1 D (SetO w D (fun _ => false) 0))) ∧ ∀ i m H, W i m H → (J.stop i H ∧ Q (.ref D) H) ∨ (J.go i H ∧ ∃ Nx : Hp → Prop, (∀ H', Nx H' → ∃ m', m' < m ∧ W (i + 1) m' H') ∧
    ∀ x H', J.yld i H x H' → g x (wipe σ vs) H' fun σ2 H2 => wipe σ2 vs = wipe σ vs ∧ tt σ2 H2 fun b H3 => if b = true then wi1 σ2 H3 fun J1 H4 => Sc2In w J1 g1 tt1 te vs1 D σ2 H4 Nx else Nx H3)
/-! its readings -/
def Sc2W (w : World) (J : It) (g : TG) (tt : TT) (wi1 : TI) (g1 : TG) (tt1 : TT) (te : TE) (vs vs1 : List Nat) (D : Addr) (σ : L2.St) (H1 : Hp) (Qd : Hp → Prop) : Prop :=
  ∃ W : Nat → Nat → Hp → Prop, (∃ m, W 0 m (upd H1 D (SetO w D (fun _ => false) 0))) ∧ ∀ i m H, W i m H → (J.stop i H ∧ Qd H) ∨ (J.go i H ∧ ∃ Nx : Hp → Prop, (∀ H', Nx H' → ∃ m', m' < m ∧ W (i + 1) m' H') ∧
    ∀ x H', J.yld i H x H' → g x (wipe σ vs) H' fun σ2 H2 => wipe σ2 vs = wipe σ vs ∧ tt σ2 H2 fun b H3 => if b = true then wi1 σ2 H3 fun J1 H4 => Sc2In w J1 g1 tt1 te vs1 D σ2 H4 Nx else Nx H3)
theorem r_sc2 {w : World} {wi wi1 : TI} {g g1 : TG} {tt tt1 : TT} {te : TE} {vs vs1 : List Nat} {σ : L2.St} {H : Hp} {Q : VK} (h : wi σ H fun J H1 => ∀ D, H1 D = none → Sc2W w J g tt wi1 g1 tt1 te vs vs1 D σ H1 (Q (.ref D))) : tSc2 w wi g tt wi1 g1 tt1 te vs vs1 σ H Q := h
end Vf
namespace Vf
open PySem PySem.Spec PyProof.Rows L2
/-! ### readings that are given -/
/-- the readings R are right, with those of A ahead -/
structure RdOk (n : Int) (A R : List (List Int)) : Prop where
  ne : ∀ r ∈ R, r ≠ []
  nd : (A.flatten.map ab ++ R.flatten.map ab).Nodup
  rg : ∀ x ∈ A.flatten ++ R.flatten, 1 ≤ ab x ∧ ab x ≤ n
  few : A.length ≤ 60 ∧ R.length ≤ 60 ∧ A.flatten.length ≤ 60 ∧ R.flatten.length ≤ 60
theorem steps_get {r : List Int} {i : Nat} {x y : Int} (hx : r[i]? = some x) (hy : r[i + 1]? = some y) : (steps r)[i]? = some (prI x (-y)) := by
  rw [steps_zip]
  unfold zs
  have hy' : (r.drop 1)[i]? = some y := by rw [List.getElem?_drop, Nat.add_comm]; exact hy
  rw [List.getElem?_map, List.getElem?_zip_eq_some (z := (x, y)) |>.mpr ⟨hx, hy'⟩]
  simp
theorem steps_len (r : List Int) : (steps r).length = r.length - 1 := by
  rw [steps_zip]; unfold zs; rw [List.length_map, List.length_zip, List.length_drop]; omega
theorem steps_one {r : List Int} (h : r.length ≤ 1) : steps r = [] := by
  match r, h with
  | [], _ => rfl
  | [_], _ => rfl
  | _ :: _ :: _, h => simp at h
/-- other readings of the same rows and rings; rows of one piece may be left out -/
structure Oth (R G R' G' : List (List Int)) : Prop where
  neR : ∀ r ∈ R', r ≠ []
  neG : ∀ r ∈ G', r ≠ []
  sub : ∃ rest, (R'.flatten.map ab ++ rest).Perm (R.flatten.map ab)
  gp : (G'.flatten.map ab).Perm (G.flatten.map ab)
  sp : (R'.flatMap steps).Perm (R.flatMap steps)
  rp : (G'.flatMap ringC).Perm (G.flatMap ringC)
theorem Oth.refl {n : Int} {R G : List (List Int)} (d : Dealt n R G) : Oth R G R G := ⟨d.neR, d.neG, ⟨[], by simp⟩, .refl _, .refl _, .refl _⟩
theorem flat_many : ∀ {R : List (List Int)}, (∀ r ∈ R, r ≠ []) → R.length ≤ R.flatten.length
  | [], _ => Nat.le_refl _
  | r :: R, h => by
    have := flat_many (R := R) fun r hr => h r (by simp [hr])
    have : 0 < r.length := by have := h r (by simp); cases r with | nil => exact absurd rfl this | cons _ _ => simp
    rw [List.flatten_cons, List.length_append, List.length_cons]; omega
theorem Oth.ok {n : Int} {R G R' G' : List (List Int)} (d : Dealt n R G) (n60 : n ≤ 60) (o : Oth R G R' G') : RdOk n [] R' ∧ RdOk n R' G' ∧ (cps R' G').Perm (cps R G) := by
  obtain ⟨rest, pr⟩ := o.sub
  have P : (R'.flatten.map ab ++ rest ++ G'.flatten.map ab).Perm (rng 1 n.toNat) := (pr.append o.gp).trans d.pcs
  have nd := P.nodup_iff.mpr ((rng_asc 1 n.toNat).imp fun h => by omega)
  have sl : (R'.flatten.map ab ++ G'.flatten.map ab).Sublist (R'.flatten.map ab ++ rest ++ G'.flatten.map ab) := (List.sublist_append_left _ _).append (.refl _)
  have rg : ∀ x, x ∈ R'.flatten ∨ x ∈ G'.flatten → 1 ≤ ab x ∧ ab x ≤ n := fun x hx => by
    have : ab x ∈ rng 1 n.toNat := P.mem_iff.mp (sl.subset (List.mem_append.mpr (hx.imp (fun h => List.mem_map.mpr ⟨x, h, rfl⟩) fun h => List.mem_map.mpr ⟨x, h, rfl⟩)))
    have := mem_rng.mp this
    omega
  have len := P.length_eq
  rw [rng_len, List.length_append, List.length_append, List.length_map, List.length_map] at len
  have m1 := flat_many o.neR
  have m2 := flat_many o.neG
  refine ⟨⟨o.neR, ?_, fun x hx => rg x (.inl (by simpa using hx)), ⟨by simp, by omega, by simp, by omega⟩⟩, ⟨o.neG, sl.nodup nd, fun x hx => rg x (List.mem_append.mp hx), ⟨by omega, by omega, by omega, by omega⟩⟩, o.sp.append o.rp⟩
  have := (List.sublist_append_left (R'.flatten.map ab) (G'.flatten.map ab)).nodup (sl.nodup nd)
  simpa using this
/-- rows read otherwise, so far -/
structure RowsO (R R' : List (List Int)) : Prop where
  ne : ∀ r ∈ R', r ≠ []
  sub : ∃ rest, (R'.flatten.map ab ++ rest).Perm (R.flatten.map ab)
  sp : (R'.flatMap steps).Perm (R.flatMap steps)
  len : R'.length ≤ R.length
theorem flat_ins (R : List (List Int)) {S : List (List Int)} {o : List Int} (p : S.Perm (o :: R)) : (S.flatten.map ab).Perm (o.map ab ++ R.flatten.map ab) := by
  have := (p.flatten).map ab
  rw [List.flatten_cons, List.map_append] at this
  exact this
theorem RowsO.skip {R R' : List (List Int)} {r : List Int} (h : RowsO R R') (l : r.length ≤ 1) : RowsO (R ++ [r]) R' := by
  obtain ⟨rest, p⟩ := h.sub
  refine ⟨h.ne, ⟨rest ++ r.map ab, ?_⟩, ?_, by rw [List.length_append]; have := h.len; omega⟩
  · rw [List.flatten_append, List.map_append, ← List.append_assoc]
    simpa using p.append_right (r.map ab)
  · rw [List.flatMap_append]
    have : [r].flatMap steps = [] := by simp [steps_one l]
    rw [this, List.append_nil]; exact h.sp
theorem RowsO.add {R R' S : List (List Int)} {r o : List Int} (h : RowsO R R') (ne : r ≠ []) (pa : (o.map ab).Perm (r.map ab)) (ps : (steps o).Perm (steps r)) (pS : S.Perm (o :: R')) : RowsO (R ++ [r]) S := by
  obtain ⟨rest, p⟩ := h.sub
  have neo : o ≠ [] := fun z => by subst z; have := pa.length_eq; simp at this; exact ne (List.eq_nil_of_length_eq_zero this.symm)
  refine ⟨fun x hx => ?_, ⟨rest, ?_⟩, ?_, by rw [pS.length_eq, List.length_append, List.length_cons]; have := h.len; simp; omega⟩
  · rcases List.mem_cons.mp (pS.mem_iff.mp hx) with rfl | hx
    · exact neo
    · exact h.ne x hx
  · rw [List.flatten_append, List.map_append]
    refine ((flat_ins R' pS).append_right rest).trans ?_
    rw [List.append_assoc]
    refine (pa.append p).trans ?_
    have : ([r].flatten.map ab) = r.map ab := by simp
    rw [this]
    exact List.perm_append_comm
  · rw [List.flatMap_append]
    have q := pS.flatMap_right steps
    rw [List.flatMap_cons] at q
    refine q.trans ((ps.append h.sp).trans ?_)
    have : [r].flatMap steps = steps r := by simp
    rw [this]
    exact List.perm_append_comm
/-- rings read otherwise, so far -/
structure RingsO (G G' : List (List Int)) : Prop where
  ne : ∀ r ∈ G', r ≠ []
  gp : (G'.flatten.map ab).Perm (G.flatten.map ab)
  rp : (G'.flatMap ringC).Perm (G.flatMap ringC)
  len : G'.length = G.length
theorem RingsO.add {R R' S : List (List Int)} {r o : List Int} (h : RingsO R R') (ne : r ≠ []) (pa : (o.map ab).Perm (r.map ab)) (ps : (ringC o).Perm (ringC r)) (pS : S.Perm (o :: R')) : RingsO (R ++ [r]) S := by
  have neo : o ≠ [] := fun z => by subst z; have := pa.length_eq; simp at this; exact ne (List.eq_nil_of_length_eq_zero this.symm)
  refine ⟨fun x hx => ?_, ?_, ?_, by rw [pS.length_eq, List.length_append, List.length_cons, h.len]; rfl⟩
  · rcases List.mem_cons.mp (pS.mem_iff.mp hx) with rfl | hx
    · exact neo
    · exact h.ne x hx
  · rw [List.flatten_append, List.map_append]
    refine (flat_ins R' pS).trans ((pa.append h.gp).trans ?_)
    have : ([r].flatten.map ab) = r.map ab := by simp
    rw [this]
    exact List.perm_append_comm
  · rw [List.flatMap_append]
    have q := pS.flatMap_right ringC
    rw [List.flatMap_cons] at q
    refine q.trans ((ps.append h.rp).trans ?_)
    have : [r].flatMap ringC = ringC r := by simp
    rw [this]
    exact List.perm_append_comm
theorem Oth.of {R G R' G' : List (List Int)} (h : RowsO R R') (g : RingsO G G') : Oth R G R' G' := ⟨h.ne, g.ne, h.sub, g.gp, h.sp, g.rp⟩
theorem turn_ab (g : List Int) (k : Nat) : ((g.drop k ++ g.take k).map ab).Perm (g.map ab) := by
  have : (g.drop k ++ g.take k).Perm (g.take k ++ g.drop k) := List.perm_append_comm
  rw [List.take_append_drop] at this
  exact this.map ab
theorem turn_ring (g : List Int) (k : Nat) : (ringC (g.drop k ++ g.take k)).Perm (ringC g) := by
  have := ring_rot (g.drop k) (g.take k)
  rw [List.take_append_drop] at this
  exact this
theorem ringC_tk (g : List Int) : steps (g ++ g.take 1) = ringC g := by
  cases g with
  | nil => rfl
  | cons x t => rfl
/-! two fresh lists of readings that grow, beside the draws' list -/
structure StO (B : Hp) (t c0 d0 : Addr) (H' : Hp) (zs : List V) (R' : List (List Int)) (ws : List V) (G' : List (List Int)) : Prop where
  s : Same B (Hid [t, c0, d0] H')
  T : Tap H' t
  hc : H' c0 = some (.lst zs)
  hz : ILs (Hid [t, c0, d0] H') zs R'
  hd : H' d0 = some (.lst ws)
  hw : ILs (Hid [t, c0, d0] H') ws G'
section
variable {B H' H'' : Hp} {t c0 d0 : Addr} {zs ws : List V} {R' G' : List (List Int)}
theorem StO.new (h : StO B t c0 d0 H' zs R' ws G') (s : Same H' H'') : StO B t c0 d0 H'' zs R' ws G' :=
  ⟨h.s.trans (hid_same s), h.T.mono s, s _ _ h.hc, ils_hid s h.hz, s _ _ h.hd, ils_hid s h.hw⟩
theorem StO.draw (h : StO B t c0 d0 H' zs R' ws G') (b : But t H' H'') (T : Tap H'' t) (ct : c0 ≠ t) (dt : d0 ≠ t) : StO B t c0 d0 H'' zs R' ws G' ∧ Hid [t, c0, d0] H'' = Hid [t, c0, d0] H' := by
  have e : Hid [t, c0, d0] H'' = Hid [t, c0, d0] H' := funext fun x => by
    unfold Hid
    by_cases c : x ∈ [t, c0, d0]
    · rw [if_pos c, if_pos c]
    · rw [if_neg c, if_neg c]; exact b x fun z => c (by simp [z])
  exact ⟨⟨by rw [e]; exact h.s, T, (b c0 ct).trans h.hc, by rw [e]; exact h.hz, (b d0 dt).trans h.hd, by rw [e]; exact h.hw⟩, e⟩
theorem StO.at (h : StO B t c0 d0 H' zs R' ws G') {x : Addr} {o : HO} (e : B x = some o) : H' x = some o := (hid_some (h.s _ _ e)).2
theorem StO.fresh (h : StO B t c0 d0 H' zs R' ws G') {u : Addr} (n : H' u = none) : u ∉ [t, c0, d0] := fun m => by
  obtain ⟨tx, ht⟩ := h.T.lst
  have : u = t ∨ u = c0 ∨ u = d0 := by simpa using m
  rcases this with rfl | rfl | rfl
  · rw [ht] at n; cases n
  · rw [h.hc] at n; cases n
  · rw [h.hd] at n; cases n
end
theorem ins_perm {α : Type} (L : List α) (o : α) (k : Nat) : (L.take k ++ [o] ++ L.drop k).Perm (o :: L) := by
  have h : (L.take k ++ [o] ++ L.drop k).Perm ([o] ++ L.take k ++ L.drop k) := List.perm_append_comm.append_right _
  refine h.trans ?_
  rw [List.append_assoc, List.take_append_drop]; exact .refl _
end Vf
namespace Vf
open PySem PySem.Spec PyProof.Rows L2
/-! ### ends renamed, whatever their pieces -/
structure Bj (n : Int) (σ : Int → Int) : Prop where
  rg : ∀ e, -n ≤ e ∧ e ≤ n ∧ e ≠ 0 → -n ≤ σ e ∧ σ e ≤ n ∧ σ e ≠ 0
  inj : ∀ a b, -n ≤ a ∧ a ≤ n ∧ a ≠ 0 → -n ≤ b ∧ b ≤ n ∧ b ≠ 0 → σ a = σ b → a = b
end Vf
namespace Vf
open PySem PySem.Spec PyProof.Rows L2
/-! ### dict(zip(xs, ys)), walks of a dict, dicts of names -/
structure NmD (n : Int) (σ : Int → Int) (D : List (Key × V)) : Prop where
  bj : Bj n σ
  ks : ∃ ks : List Int, D.map (·.1) = ks.map (Sum.inl : Int → Key) ∧ ks.length ≤ 400
  val : ∀ e, e ∈ endsL n → valV D (Sum.inl e : Key) = some (.int (σ e))
theorem NmD.key {n : Int} {σ : Int → Int} {D : List (Key × V)} (h : NmD n σ D) {ks : List Int} (e : D.map (·.1) = ks.map (Sum.inl : Int → Key)) {x : Int} (hx : x ∈ endsL n) : x ∈ ks := by
  have := valV_in (h.val x hx)
  rw [e] at this
  obtain ⟨y, hy, k⟩ := List.mem_map.mp this
  injection k with k
  exact k ▸ hy
end Vf
namespace Vf
open PySem PySem.Spec PyProof.Rows L2
end Vf
namespace Vf
open PySem PySem.Spec PyProof.Rows L2
/-! ### for pieces and ends renamed -/
theorem sys_rdok {n : Int} {L : List (Int × Int)} {R G : List (List Int)} (n1 : 1 ≤ n) (n60 : n ≤ 60) (h : Sys n L R G) : RdOk n [] R ∧ RdOk n R G := by
  have nd : (R.flatten.map ab ++ G.flatten.map ab).Nodup := h.pcs.symm.nodup ((rng_asc 1 n.toNat).imp fun h => by omega)
  have len := h.pcs.length_eq
  rw [List.length_append, List.length_map, List.length_map, rng_len] at len
  have mR := flat_many h.neR
  have mG := flat_many h.neG
  have rg : ∀ x, x ∈ R.flatten ∨ x ∈ G.flatten → 1 ≤ ab x ∧ ab x ≤ n := fun x hx => by
    have : ab x ∈ R.flatten.map ab ++ G.flatten.map ab := List.mem_append.mpr (hx.imp (fun z => List.mem_map.mpr ⟨x, z, rfl⟩) fun z => List.mem_map.mpr ⟨x, z, rfl⟩)
    have := mem_rng.mp (h.pcs.mem_iff.mp this)
    omega
  refine ⟨⟨h.neR, by simpa using (List.nodup_append.mp nd).1, fun x hx => rg x (.inl (by simpa using hx)), ⟨by decide, by omega, by decide, by omega⟩⟩, ⟨h.neG, nd, fun x hx => rg x (List.mem_append.mp hx), by omega⟩⟩
end Vf
namespace Vf
open PySem PySem.Spec PyProof.Rows L2
end Vf
namespace Vf
open PySem PySem.Spec PyProof.Rows L2
/-! ### dict comprehensions, a set display of one whole number -/
def DcW (J : It) (g : TG) (tt : TT) (tk tv : TE) (own : List Nat) (D : Addr) (σ : L2.St) (H1 : Hp) (Qd : Hp → Prop) : Prop :=
  ∃ V : Nat → Nat → Hp → Prop, (∃ m, V 0 m (upd H1 D (.dK []))) ∧ ∀ k m G, V k m G →
    (J.stop k G ∧ Qd G) ∨ (J.go k G ∧ ∃ T : Hp → Prop, (∀ G', T G' → ∃ m', m' < m ∧ V (k + 1) m' G') ∧ ∀ x G', J.yld k G x G' →
      g x (wipe σ own) G' fun τ G2 => wipe τ own = wipe σ own ∧ tt τ G2 fun c G3 =>
        if c = true then tk τ G3 fun y G4 => tv τ G4 fun z G5 => ∃ got key, y = kV key ∧ G5 D = some (.dK got) ∧ got.length < sizeLine ∧ T (upd G5 D (.dK (putK got key z)))
        else T G3)
theorem r_dcS {α : Type} {J : It} {G : Hp → Prop} {rel : V → α → Prop} {L : List α} {g : TG} {tt : TT} {tk tv : TE} {vs : List Nat} {D : Addr} {σ : L2.St} {H1 : Hp} {Qd : Hp → Prop} (S : Seq J G rel L) (Pv : List α → Hp → Prop) (h0 : Pv [] (upd H1 D (.dK [])))
    (hk : ∀ d H, Pv d H → G H) (hs : ∀ d p r v H, L = d ++ p :: r → rel v p → Pv d H → g v (wipe σ vs) H fun σ2 H2 => wipe σ2 vs = wipe σ vs ∧ tt σ2 H2 fun b H3 =>
      if b = true then tk σ2 H3 fun y H4 => tv σ2 H4 fun z H5 => ∃ kvs k, y = kV k ∧ H5 D = some (.dK kvs) ∧ kvs.length < sizeLine ∧ Pv (d ++ [p]) (upd H5 D (.dK (putK kvs k z))) else Pv (d ++ [p]) H3) (hd : ∀ H, Pv L H → Qd H) : DcW J g tt tk tv vs D σ H1 Qd := by
  refine ⟨fun i m H => m = L.length - i ∧ i ≤ L.length ∧ Pv (L.take i) H, ⟨L.length, by simp, Nat.zero_le _, h0⟩, ?_⟩
  rintro i m H ⟨rfl, hi, p0⟩
  have q := hk _ H p0
  by_cases hlt : i < L.length
  · refine .inr ⟨S.goes i H hlt q, Pv (L.take (i + 1)), fun H' p' => ⟨L.length - (i + 1), by omega, rfl, hlt, p'⟩, fun x H' y => ?_⟩
    obtain ⟨e, p, hp, r⟩ := S.yields i H x H' hlt q y
    subst e
    obtain ⟨e1, e2⟩ := split_at hp
    rw [e2]
    exact hs _ p _ x _ e1 r p0
  · have e : i = L.length := by omega
    subst e
    rw [List.take_length] at p0
    exact .inl ⟨S.stops H q, hd H p0⟩
theorem codeIn_kds {K : PySem.W.Frag} {cd : Value} {q : Str} (e : PySem.W.codeIn K cd q = true) : PySem.W.kdsCode K cd = true := by
  unfold PySem.W.codeIn at e
  unfold PySem.W.kdsCode
  split at e
  · rename_i c
    split at e
    · rename_i ho
      simp only [ho]
    · cases e
  · cases e
section
variable {P : Program} {w : World} {K : PySem.W.Frag} {mg : Str → Option Value} {base : Heap} {CX : CXT} {k : Nat} {f : Addr} {fd : FuncData} {ps : List Str}
theorem okGc {x qual : Str} {st : Stmt} {N : List Str} {sp : Sp} (F : Fun K x qual st f fd) (S : FnScope N ps (defScope st)) (ar : ∀ vs H Q E, sp vs H Q E → vs.length = ps.length)
    (hb : ∀ (cdv : Value) (A : Around) (outer : List Env) (s : Shared) (H : Hp) (vs : List V) (Q : VK) (E : XK), Room k (A.deeper (envOfC qual (defScope st) s.heap.objs.size f cdv)) → A.guards = some [] → PySem.W.kdsCode K cdv = true → sp vs H Q E →
      ∃ t, PSs (cxOf CX P w K mg base N qual (defScope st) f cdv A outer s H E) (defBody st) t ∧ t { nx := fun _ H' => Q .non H', rt := Q } (start N vs) H) : FnG P w K mg base CX (k + 1) f fd ps sp := by
  have F' := F
  obtain ⟨_, _, _, _, _, _, cdv, _, _, e, lk, hcd⟩ := F.ex
  subst e
  refine ⟨ar, fun A outer s H args us vs Q E hr hg e0 bd r q0 => ?_⟩
  have kept : ∀ b o, base.get? b = some o → s.heap.get? b = some o := fun b o z => (e0.bs b o z).1
  have inK := e0.mod.kin.keeps kept
  refine codeAny_call_function hr.depth (inK _ _ lk) rfl S.co S.gen rfl (PySem.W.codeRec_of inK hcd) (bd _ _ _ _ ?_)
  refine wpAny_newFunctionEnv_cells S.kind (fun y hy => ?_) fun env ee s1 x1 => ?_
  · rcases S.par y.1 (List.of_mem_zip (show (y.1, y.2) ∈ ps.zip us from hy)).1 with z | z
    · exact Or.inl z
    · exact Or.inr ⟨z, PySem.W.cellsFrom_some _ _ _ (Or.inl z)⟩
  · subst ee
    refine ⟨(e0.mod.nolimit.keeps kept).keeps x1.toInCall.keep, codeAny_func ?_⟩
    obtain ⟨t, T, q⟩ := hb cdv A outer s H vs Q E (hr.deeper _) hg (codeIn_kds hcd) q0
    refine wpAny_mono (T.run [] s1 _ H _ (inv_start S hr.hd e0 (ar _ _ _ _ q0) r x1) q) (fun fl s' z => ?_) fun _ _ z => z
    have z' := ends_call z
    cases fl <;> exact z'
end
/-- {e}, e a whole number -/
def tSetOne (w : World) (te : TE) : TE := fun σ H Q => ∀ p, H p = none → te σ (upd H p (SetO w p (fun _ => false) 0)) fun v H1 => ∃ i, v = .int i ∧ H1 p = some (SetO w p (fun _ => false) 0) ∧ Q (.ref p) (upd H1 p (SetO w p (fun j => false || decide (j = i)) 1))
theorem disp_one {P : Program} {w : World} {A : Around} {E : Value → Shared → Prop} {s : Shared} {b : Bool} {t1 : Sem Value} {Q : Value → Shared → Prop}
    (h : wpAny (model P w) A t1 (fun v s1 => wpAny (model P w) A (setAdd s.heap.objs.size v) (fun _ s2 => Q (.ref s.heap.objs.size) s2) E s1) E { s with heap := s.heap.push { cls := .type "set", dict := none, data := .set #[] 0 (.fresh 0 0 (!w.params.followText "set-order")) } }) :
    wpAny (model P w) A (setDisplay .oneByOne b [(false, t1)]) Q E s := by
  unfold setDisplay
  try dsimp only
  rw [if_neg (by decide)]
  refine wpAny_bind (PpSet.newSet_ok ?_)
  dsimp only
  rw [show (if [(false, t1)].length > 30 then 0 else ([(false, t1)].findIdx? (·.1)).getD [(false, t1)].length) = 1 from rfl]
  rw [show [(false, t1)].take 1 = [(false, t1)] from rfl, show [(false, t1)].drop 1 = [] from rfl]
  refine wpAny_bind (wpAny_holding ?_)
  show wpAny _ _ ((evalAll [t1]) >>= _) _ _ _
  refine wpAny_bind ?_
  show wpAny _ _ (t1 >>= fun v => holding [v] (evalAll []) >>= fun r => pure (v :: r)) _ _ _
  refine wpAny_bind (wpAny_mono h (fun v s1 h1 => ?_) fun _ _ x => x)
  refine wpAny_bind (wpAny_holding (wpAny_pure (wpAny_pure ?_)))
  refine wpAny_bind (wpAny_holding ?_)
  refine wpAny_bind ?_
  rw [List.forIn_cons]
  refine wpAny_bind (wpAny_bind (wpAny_mono h1 (fun _ s2 h2 => ?_) fun _ _ x => x))
  refine wpAny_pure ?_
  rw [List.forIn_nil]
  refine wpAny_pure ?_
  rw [if_neg (by decide)]
  refine wpAny_pure ?_
  exact wpAny_bind (wpAny_pure (wpAny_pure (wpAny_pure h2)))
theorem pe_setOne {X : Cx} {e : Expr} {te : TE} {pos : Pos} (hcd : PySem.W.kdsCode X.K X.env.code = true) (he : PE X e te) (hs : starEach [e] X.env = [(false, eval e X.env)] := by rfl) : PE X (.Set [e] 0 pos) (tSetOne X.w te) := ⟨fun pins s σ H Q I h => by
  rw [arm_eval_Set]
  refine wpAny_bind (wpAny_standAt ?_)
  refine wpAny_bind (PySem.W.kds_main I.kIn hcd fun b => ?_)
  rw [hs]
  show wpAny _ _ (setDisplay .oneByOne _ [(false, do let v ← eval e X.env; standAt pos; pure v)]) _ _ _
  refine disp_one ?_
  have I1 := I.laid (o := SetO X.w s.heap.objs.size (fun _ => false) 0) (t' := s.toks) (fun b u z => Heap.get?_push_of_some _ z) (Nat.le_refl _) (setO_new (setR_fresh X.w))
  refine wpAny_bind (thn (he.run pins _ σ _ _ I1 (h s.heap.objs.size (I.hok.fresh (Nat.le_refl _)))) fun v s1 h1 => ?_)
  refine wpAny_bind (wpAny_standAt (wpAny_pure ?_))
  obtain ⟨u, H1, I2, rv, i, rfl, hD, q⟩ := h1
  obtain ⟨t, rfl⟩ := rv
  have R := setO_get I2 hD
  show wpAny _ _ (setAdd _ _) _ _ _
  unfold setAdd
  refine wpAny_holding (wpAny_bind ((intKind X.prog X.w).pyHash (intKind_is X.prog X.w i t) ?_))
  refine setR_add_hashed (s := { s1 with toks := s1.toks + 1 }) R (by decide) fun h' sb new => ?_
  have hE : ∃ u, h'.get? s.heap.objs.size = some u := by
    have ⟨o, _, _, _, ho, _⟩ := new
    exact ⟨o, ho⟩
  exact ⟨.ref s.heap.objs.size, _, I2.write (e := s.heap.objs.size) (t' := s1.toks + 1) (by rw [hD]; trivial) (.inl rfl) (fun b u hb hu => (sb.2 b hb).trans hu) hE (setO_new new), rfl, q⟩⟩
end Vf
namespace Vf
open PySem PySem.Spec PyProof.Rows L2
/-! ### texts of readings -/
def nS (i : Int) : Str := Str.ofString (toString i)
def rdS (r : List Int) : Str := Txt.join (Str.ofString " ") (r.map nS)
def ringS (r : List Int) : Str := Str.ofString "(" ++ rdS r ++ Str.ofString ")"
def partS (p : Bool × List Int) : Str := if p.1 = true then ringS p.2 else rdS p.2
def txtP (P : List (Bool × List Int)) : Str := Txt.join (Str.ofString ", ") (P.map partS)
def numC (i : Int) : List Nat := if i < 0 then 45 :: TL.numL i.natAbs else TL.numL i.natAbs
theorem tl_nS (i : Int) : TL.tl (nS i) = numC i := by
  unfold nS numC
  cases i with
  | ofNat n =>
    rw [if_neg (by simp)]
    exact TL.tl_num n
  | negSucc n =>
    rw [if_pos (by omega)]
    have e : (toString (Int.negSucc n) : String) = "-" ++ toString (n + 1) := rfl
    rw [e, TL.tl_ofString, String.toList_append, List.map_append]
    have h := TL.tl_num (n + 1)
    rw [TL.tl_ofString] at h
    have e2 : (toString (((n + 1 : Nat) : Int)) : String) = toString (n + 1) := rfl
    rw [e2] at h
    rw [h]
    rfl
theorem numC_free {i : Int} {s : Nat} (h : s < 45 ∨ s = 46 ∨ s = 47 ∨ 57 < s) : s ∉ numC i := by
  unfold numC
  have k : s ∉ TL.numL i.natAbs := TL.numL_free (by omega)
  split
  · intro z
    rcases List.mem_cons.mp z with z | z
    · omega
    · exact k z
  · exact k
theorem numC_ne (i : Int) : numC i ≠ [] := by
  unfold numC
  split
  · simp
  · exact TL.numL_ne _
theorem numC_inj {i j : Int} (h : numC i = numC j) : i = j := by
  have no : ∀ (n : Nat) (l : List Nat), TL.numL n = 45 :: l → False := fun n l e => by
    have : (45 : Nat) ∈ TL.numL n := by rw [e]; simp
    exact TL.numL_free (n := n) (by omega) this
  unfold numC at h
  split at h <;> split at h
  · injection h with _ h
    have := TL.numL_inj h
    omega
  · exact (no _ _ h.symm).elim
  · exact (no _ _ h).elim
  · have := TL.numL_inj h
    omega
theorem nS_inj {i j : Int} (h : nS i = nS j) : i = j := numC_inj (by rw [← tl_nS, ← tl_nS, h])
theorem nS_len {i : Int} (h : i.natAbs ≤ 60) : (nS i).length ≤ 3 := by
  rw [TL.len_tl, tl_nS]
  have := TL.numL_len (n := i.natAbs) (k := 2) (by omega) (by omega)
  unfold numC
  split
  · rw [List.length_cons]; omega
  · omega
theorem mem_joinL {S : List Nat} {c : Nat} : ∀ {ps : List (List Nat)}, c ∈ TL.joinL S ps → c ∈ S ∨ ∃ p ∈ ps, c ∈ p
  | [], h => nomatch h
  | [p], h => .inr ⟨p, by simp, h⟩
  | p :: q :: r, h => by
    have h : c ∈ p ++ (S ++ TL.joinL S (q :: r)) := h
    rcases List.mem_append.mp h with h | h
    · exact .inr ⟨p, by simp, h⟩
    · rcases List.mem_append.mp h with h | h
      · exact .inl h
      · rcases mem_joinL h with h | ⟨z, hz, h⟩
        · exact .inl h
        · exact .inr ⟨z, List.mem_cons_of_mem _ hz, h⟩
theorem tl_sp : TL.tl (Str.ofString " ") = [32] := by decide
theorem tl_cm : TL.tl (Str.ofString ", ") = [44, 32] := by decide
theorem tl_po : TL.tl (Str.ofString "(") = [40] := by decide
theorem tl_pc : TL.tl (Str.ofString ")") = [41] := by decide
theorem tl_rdS (r : List Int) : TL.tl (rdS r) = TL.joinL [32] (r.map numC) := by
  unfold rdS
  rw [TL.join_eq, TL.tl_join, tl_sp, List.map_map]
  exact congrArg _ (List.map_congr_left fun x _ => tl_nS x)
theorem rdS_free {r : List Int} {s : Nat} (h : s < 32 ∨ (32 < s ∧ s < 45) ∨ s = 46 ∨ s = 47 ∨ 57 < s) : s ∉ TL.tl (rdS r) := fun z => by
  rw [tl_rdS] at z
  rcases mem_joinL z with z | ⟨p, hp, z⟩
  · rw [List.mem_singleton] at z; omega
  · obtain ⟨x, _, rfl⟩ := List.mem_map.mp hp
    exact numC_free (by omega) z
theorem rdS_head {x : Int} {r : List Int} : ∃ l, TL.tl (rdS (x :: r)) = numC x ++ l := by
  rw [tl_rdS, List.map_cons]
  cases r with
  | nil => exact ⟨[], by simp [TL.joinL]⟩
  | cons y r => exact ⟨_, rfl⟩
theorem rdS_ne {r : List Int} (h : r ≠ []) : ∃ c l, TL.tl (rdS r) = c :: l ∧ c ≠ 40 := by
  match r, h with
  | x :: r, _ =>
    obtain ⟨l, e⟩ := rdS_head (x := x) (r := r)
    match hn : numC x, numC_ne x with
    | c :: m, _ =>
      refine ⟨c, m ++ l, by rw [e, hn]; rfl, fun z => ?_⟩
      have : (40 : Nat) ∈ numC x := by rw [hn, z]; simp
      exact numC_free (by omega) this
theorem tl_ringS (r : List Int) : TL.tl (ringS r) = 40 :: (TL.tl (rdS r) ++ [41]) := by
  unfold ringS
  rw [TL.tl_append, TL.tl_append, tl_po, tl_pc]
  rfl
theorem split_rd {r : List Int} (h : r ≠ []) : Txt.split (rdS r) (Str.ofString " ") = r.map nS := by
  unfold rdS
  refine TL.split_join (s := 32) (S := []) tl_sp (by decide +kernel) (by simpa using h) fun p hp => ?_
  obtain ⟨x, _, rfl⟩ := List.mem_map.mp hp
  rw [tl_nS]
  exact numC_free (by omega)
theorem partS_free {p : Bool × List Int} : 44 ∉ TL.tl (partS p) := by
  unfold partS
  have k : 44 ∉ TL.tl (rdS p.2) := rdS_free (by omega)
  split
  · rw [tl_ringS]
    intro z
    rcases List.mem_cons.mp z with z | z
    · omega
    · rcases List.mem_append.mp z with z | z
      · exact k z
      · rw [List.mem_singleton] at z; omega
  · exact k
theorem split_txt {P : List (Bool × List Int)} (h : P ≠ []) : Txt.split (txtP P) (Str.ofString ", ") = P.map partS := by
  unfold txtP
  refine TL.split_join (s := 44) (S := [32]) tl_cm (by decide +kernel) (by simpa using h) fun p hp => ?_
  obtain ⟨x, _, rfl⟩ := List.mem_map.mp hp
  exact partS_free
theorem starts_pre {x y : Str} (hy : TL.tl y ≠ []) : Txt.startswith x y = TL.pre (TL.tl y) (TL.tl x) := by
  have h := TL.at_iff (x := x) hy 0
  rw [List.drop_zero] at h
  unfold Txt.startswith
  rw [Bool.eq_iff_iff, ← h, Bool.and_eq_true, decide_eq_true_eq]
  exact Iff.rfl
theorem ends_pre {x y : Str} (hy : TL.tl y ≠ []) (hl : y.length ≤ x.length) : Txt.endswith x y = TL.pre (TL.tl y) ((TL.tl x).drop (x.length - y.length)) := by
  have h := TL.at_iff (x := x) hy (x.length - y.length)
  unfold Txt.endswith
  rw [Bool.eq_iff_iff, ← h, Bool.and_eq_true, decide_eq_true_eq]
  unfold StrLaws.At
  constructor
  · exact fun z => ⟨by omega, z.2⟩
  · exact fun z => ⟨by omega, z.2⟩
theorem starts_ring (r : List Int) : Txt.startswith (ringS r) (Str.ofString "(") = true := by
  rw [starts_pre (by rw [tl_po]; simp), tl_po, tl_ringS]
  exact TL.pre_self [40] _
theorem ends_ring (r : List Int) : Txt.endswith (ringS r) (Str.ofString ")") = true := by
  have l1 : (Str.ofString ")").length = 1 := by decide
  have l2 : (ringS r).length = (TL.tl (rdS r)).length + 2 := by rw [TL.len_tl, tl_ringS]; simp
  rw [ends_pre (by rw [tl_pc]; simp) (by omega), tl_pc, l1, l2, tl_ringS]
  rw [show (TL.tl (rdS r)).length + 2 - 1 = (40 :: TL.tl (rdS r)).length by simp, ← List.cons_append, List.drop_left]
  exact TL.pre_self [41] []
theorem starts_row {r : List Int} (h : r ≠ []) : Txt.startswith (rdS r) (Str.ofString "(") = false := by
  obtain ⟨c, l, e, ne⟩ := rdS_ne h
  rw [starts_pre (by rw [tl_po]; simp), tl_po, e]
  exact TL.pre_of_head [] l ne
theorem cut_ring (r : List Int) : cutS (ringS r) (some 1) (some (-1)) = rdS r := by
  have l2 : (ringS r).length = (TL.tl (rdS r)).length + 2 := by rw [TL.len_tl, tl_ringS]; simp
  have e : (ringS r).cps.toList = 40 :: (TL.tl (rdS r) ++ [41]) := tl_ringS r
  unfold cutS
  have h1 : HT.sIx (ringS r).length 0 (some 1) = 1 := by rw [l2]; unfold HT.sIx; simp
  have h2 : HT.sIx (ringS r).length (ringS r).length (some (-1)) = (TL.tl (rdS r)).length + 1 := by rw [l2]; unfold HT.sIx; simp; omega
  rw [h1, h2, e]
  rw [List.drop_succ_cons, List.drop_zero, show (TL.tl (rdS r)).length + 1 - 1 = (TL.tl (rdS r)).length by omega, List.take_left]
theorem txt_ne {P : List (Bool × List Int)} (h : P ≠ []) (ne : ∀ p ∈ P, p.2 ≠ []) : (txtP P == Str.ofString "") = false := by
  have : TL.tl (txtP P) ≠ [] := by
    match P, h with
    | p :: P, _ =>
      have hp : TL.tl (partS p) ≠ [] := by
        unfold partS
        split
        · rw [tl_ringS]; simp
        · obtain ⟨c, l, e, _⟩ := rdS_ne (ne p (by simp)); rw [e]; simp
      unfold txtP
      rw [TL.join_eq, TL.tl_join, List.map_cons, List.map_cons]
      cases P with
      | nil => exact hp
      | cons q P =>
        intro z
        exact hp (List.append_eq_nil_iff.mp z).1
  refine beq_eq_false_iff_ne.mpr fun z => this ?_
  rw [z]; decide
theorem txt_nil : txtP [] = Str.ofString "" := by decide
/-- lengths -/
theorem rdS_len {r : List Int} (h : ∀ x ∈ r, x.natAbs ≤ 60) : (rdS r).length ≤ 4 * r.length ∧ ((r.map nS).map (·.length)).sum + (r.map nS).length * (Str.ofString " ").length ≤ 4 * r.length := by
  have l1 : (Str.ofString " ").length = 1 := by decide
  have s : ∀ {r : List Int}, (∀ x ∈ r, x.natAbs ≤ 60) → ((r.map nS).map (·.length)).sum ≤ 3 * r.length := fun {r} h => by
    induction r with
    | nil => simp
    | cons x r ih =>
      rw [List.map_cons, List.map_cons, List.sum_cons, List.length_cons]
      have := nS_len (h x (by simp))
      have := ih fun y hy => h y (List.mem_cons_of_mem _ hy)
      omega
  have k := s h
  have j := StrLaws.join_length_le (Str.ofString " ") (r.map nS)
  rw [List.length_map, l1] at j ⊢
  refine ⟨?_, by omega⟩
  unfold rdS
  rw [TL.join_eq]
  omega
def partL (P : List (Bool × List Int)) : Nat := (P.map fun p => p.2.length).sum
theorem txt_len {P : List (Bool × List Int)} (h : ∀ p ∈ P, ∀ x ∈ p.2, x.natAbs ≤ 60) : (txtP P).length ≤ 4 * partL P + 4 * P.length ∧ ((P.map partS).map (·.length)).sum + (P.map partS).length * (Str.ofString ", ").length ≤ 4 * partL P + 4 * P.length ∧ ∀ p ∈ P, (partS p).length ≤ 4 * p.2.length + 2 := by
  have l2 : (Str.ofString ", ").length = 2 := by decide
  have one : ∀ p : Bool × List Int, (∀ x ∈ p.2, x.natAbs ≤ 60) → (partS p).length ≤ 4 * p.2.length + 2 := fun p hp => by
    have k := (rdS_len hp).1
    unfold partS
    split
    · rw [TL.len_tl, tl_ringS, List.length_cons, List.length_append, List.length_singleton, ← TL.len_tl]; omega
    · omega
  have s : ∀ {P : List (Bool × List Int)}, (∀ p ∈ P, ∀ x ∈ p.2, x.natAbs ≤ 60) → ((P.map partS).map (·.length)).sum ≤ 4 * partL P + 2 * P.length := fun {P} h => by
    induction P with
    | nil => simp [partL]
    | cons p P ih =>
      rw [List.map_cons, List.map_cons, List.sum_cons, List.length_cons]
      have := one p (h p (by simp))
      have := ih fun y hy => h y (List.mem_cons_of_mem _ hy)
      have e : partL (p :: P) = p.2.length + partL P := by unfold partL; rw [List.map_cons, List.sum_cons]
      omega
  have k := s h
  have j := StrLaws.join_length_le (Str.ofString ", ") (P.map partS)
  rw [List.length_map, l2] at j ⊢
  refine ⟨?_, by omega, fun p hp => one p (h p hp)⟩
  unfold txtP
  rw [TL.join_eq]
  omega
theorem str_nil (a : Str) : Str.empty ++ a = a := TL.ext_tl (by rw [TL.tl_append]; rfl)
end Vf
namespace Vf
open PySem PySem.Spec PyProof.Rows L2
/-! parts of texts -/
def rowsP (P : List (Bool × List Int)) : List (List Int) := (P.filter fun p => !p.1).map (·.2)
def ringsP (P : List (Bool × List Int)) : List (List Int) := (P.filter fun p => p.1).map (·.2)
def cpP (p : Bool × List Int) : List (Int × Int) := if p.1 = true then ringC p.2 else steps p.2
theorem part_flat : ∀ P : List (Bool × List Int), (P.flatMap (·.2)).Perm ((rowsP P).flatten ++ (ringsP P).flatten)
  | [] => .refl _
  | (false, r) :: P => by
    have h := part_flat P
    show (r ++ P.flatMap (·.2)).Perm ((r :: rowsP P).flatten ++ (ringsP P).flatten)
    rw [List.flatten_cons, List.append_assoc]
    exact h.append_left r
  | (true, r) :: P => by
    have h := part_flat P
    show (r ++ P.flatMap (·.2)).Perm ((rowsP P).flatten ++ (r :: ringsP P).flatten)
    rw [List.flatten_cons]
    refine (h.append_left r).trans ?_
    rw [← List.append_assoc, ← List.append_assoc]
    exact List.perm_append_comm.append_right _
theorem part_cp : ∀ P : List (Bool × List Int), (P.flatMap cpP).Perm (cps (rowsP P) (ringsP P))
  | [] => .refl _
  | (false, r) :: P => by
    have h := part_cp P
    unfold cps at h ⊢
    show (steps r ++ P.flatMap cpP).Perm ((r :: rowsP P).flatMap steps ++ (ringsP P).flatMap ringC)
    rw [List.flatMap_cons, List.append_assoc]
    exact h.append_left _
  | (true, r) :: P => by
    have h := part_cp P
    unfold cps at h ⊢
    show (ringC r ++ P.flatMap cpP).Perm ((rowsP P).flatMap steps ++ (r :: ringsP P).flatMap ringC)
    rw [List.flatMap_cons]
    refine (h.append_left _).trans ?_
    rw [← List.append_assoc, ← List.append_assoc]
    exact List.perm_append_comm.append_right _
theorem partL_eq (P : List (Bool × List Int)) : partL P = (P.flatMap (·.2)).length := by
  unfold partL
  rw [List.length_flatMap]
structure TxtOk (n : Int) (P : List (Bool × List Int)) (L : List (Int × Int)) : Prop where
  ne : ∀ p ∈ P, p.2 ≠ []
  nd : ((P.flatMap (·.2)).map ab).Nodup
  rg : ∀ x ∈ P.flatMap (·.2), 1 ≤ ab x ∧ ab x ≤ n
  cp : (P.flatMap cpP).Perm L
  len : (P.flatMap (·.2)).length ≤ 60
  many : P.length ≤ 60
theorem txt_ok {n : Int} {P : List (Bool × List Int)} {L : List (Int × Int)} (n60 : n ≤ 60) (ok1 : RdOk n [] (rowsP P)) (ok2 : RdOk n (rowsP P) (ringsP P)) (cp : (cps (rowsP P) (ringsP P)).Perm L) : TxtOk n P L := by
  have pf := part_flat P
  have nd : ((P.flatMap (·.2)).map ab).Nodup := by
    have := ok2.nd
    rw [← List.map_append] at this
    exact (pf.map ab).symm.nodup this
  have rg : ∀ x ∈ P.flatMap (·.2), 1 ≤ ab x ∧ ab x ≤ n := fun x hx => ok2.rg x (pf.mem_iff.mp hx)
  have ne : ∀ p ∈ P, p.2 ≠ [] := fun p hp => by
    cases h : p.1 with
    | false => exact ok1.ne _ (List.mem_map.mpr ⟨p, List.mem_filter.mpr ⟨hp, by simp [h]⟩, rfl⟩)
    | true => exact ok2.ne _ (List.mem_map.mpr ⟨p, List.mem_filter.mpr ⟨hp, by simp [h]⟩, rfl⟩)
  have len : (P.flatMap (·.2)).length ≤ 60 := by
    have := nodup_sub (l := (P.flatMap (·.2)).map ab) (m := rng 1 60) nd fun y hy => by
      obtain ⟨x, hx, rfl⟩ := List.mem_map.mp hy
      have := rg x hx
      exact mem_rng.mpr (by omega)
    rw [List.length_map, rng_len] at this
    exact this
  refine ⟨ne, nd, rg, (part_cp P).trans cp, len, ?_⟩
  have : ∀ {P : List (Bool × List Int)}, (∀ p ∈ P, p.2 ≠ []) → P.length ≤ (P.flatMap (·.2)).length := fun {P} h => by
    induction P with
    | nil => simp
    | cons p P ih =>
      rw [List.length_cons, List.flatMap_cons, List.length_append]
      have := ih fun q hq => h q (List.mem_cons_of_mem _ hq)
      have := List.length_pos_iff.mpr (h p (by simp))
      omega
  have := this ne
  omega
def wrap (b : Bool) (R : List (List Int)) : List (Bool × List Int) := R.map fun r => (b, r)
theorem rows_wrap (R G : List (List Int)) : rowsP (wrap false R ++ wrap true G) = R ∧ ringsP (wrap false R ++ wrap true G) = G := by
  unfold rowsP ringsP wrap
  constructor
  · rw [List.filter_append, List.filter_map, List.filter_map, List.map_append, List.map_map, List.map_map]
    simp [Function.comp_def, filt_t, filt_f]
  · rw [List.filter_append, List.filter_map, List.filter_map, List.map_append, List.map_map, List.map_map]
    simp [Function.comp_def, filt_t, filt_f]
theorem ins_row (P : List (Bool × List Int)) (o : List Int) (k : Nat) : (rowsP (P.take k ++ [(false, o)] ++ P.drop k)).Perm (o :: rowsP P) ∧ ringsP (P.take k ++ [(false, o)] ++ P.drop k) = ringsP P := by
  constructor
  · have := ((ins_perm P (false, o) k).filter fun p => !p.1).map (·.2)
    exact this
  · unfold ringsP
    rw [List.filter_append, List.filter_append]
    have e : ([(false, o)] : List (Bool × List Int)).filter (fun p => p.1) = [] := rfl
    rw [e, List.append_nil, ← List.filter_append, List.take_append_drop]
theorem ins_ring (P : List (Bool × List Int)) (o : List Int) (k : Nat) : (ringsP (P.take k ++ [(true, o)] ++ P.drop k)).Perm (o :: ringsP P) ∧ rowsP (P.take k ++ [(true, o)] ++ P.drop k) = rowsP P := by
  constructor
  · have := ((ins_perm P (true, o) k).filter fun p => p.1).map (·.2)
    exact this
  · unfold rowsP
    rw [List.filter_append, List.filter_append]
    have e : ([(true, o)] : List (Bool × List Int)).filter (fun p => !p.1) = [] := rfl
    rw [e, List.append_nil, ← List.filter_append, List.take_append_drop]
theorem wrap_S (b : Bool) (R : List (List Int)) : (wrap b R).map partS = R.map (if b = true then ringS else rdS) := by
  unfold wrap
  rw [List.map_map]
  cases b <;> rfl
end Vf
namespace Vf
open PySem PySem.Spec PyProof.Rows L2
theorem partL_le {P : List (Bool × List Int)} (h : ∀ p ∈ P, p.2.length ≤ 60) : partL P ≤ 60 * P.length := by
  induction P with
  | nil => simp [partL]
  | cons p P ih =>
    have := h p (by simp)
    have := ih fun q hq => h q (List.mem_cons_of_mem _ hq)
    have e : partL (p :: P) = p.2.length + partL P := by unfold partL; rw [List.map_cons, List.sum_cons]
    rw [List.length_cons]; omega
theorem txt_wrap {R G : List (List Int)} (few : ∀ r, r ∈ R ∨ r ∈ G → r.length ≤ 60 ∧ ∀ x ∈ r, x.natAbs ≤ 60) (lR : R.length ≤ 60) (lG : G.length ≤ 60) :
    txtP (wrap false R ++ wrap true G) = Txt.join (Str.ofString ", ") (R.map rdS ++ G.map ringS) ∧ ((R.map rdS ++ G.map ringS).map (·.length)).sum + (R.map rdS ++ G.map ringS).length * (Str.ofString ", ").length ≤ 16777216 := by
  have e : (wrap false R ++ wrap true G).map partS = R.map rdS ++ G.map ringS := by
    rw [List.map_append, wrap_S, wrap_S]
    rfl
  have mem : ∀ p ∈ wrap false R ++ wrap true G, p.2 ∈ R ∨ p.2 ∈ G := fun p hp => by
    rcases List.mem_append.mp hp with hp | hp
    · obtain ⟨r, hr, rfl⟩ := List.mem_map.mp hp; exact .inl hr
    · obtain ⟨r, hr, rfl⟩ := List.mem_map.mp hp; exact .inr hr
  have k := (txt_len (P := wrap false R ++ wrap true G) fun p hp x hx => (few _ (mem p hp)).2 x hx).2.1
  have m := partL_le (P := wrap false R ++ wrap true G) fun p hp => (few _ (mem p hp)).1
  have l : (wrap false R ++ wrap true G).length ≤ 120 := by unfold wrap; rw [List.length_append, List.length_map, List.length_map]; omega
  rw [e] at k
  refine ⟨by unfold txtP; rw [e], Nat.le_trans k (by omega)⟩
theorem str_app_len (a b : Str) : (a ++ b).length = a.length + b.length := by rw [TL.len_tl, TL.tl_append, List.length_append, ← TL.len_tl, ← TL.len_tl]
theorem len_po : (Str.ofString "(").length = 1 := by decide
theorem len_pc : (Str.ofString ")").length = 1 := by decide
end Vf
namespace Vf
open PySem PySem.Spec PyProof.Rows L2
/-! a fresh list of texts that grows, beside the draws' list -/
structure StT (B : Hp) (t c0 : Addr) (H' : Hp) (P : List (Bool × List Int)) : Prop where
  s : Same B (Hid [t, c0] H')
  T : Tap H' t
  hc : H' c0 = some (.lst ((P.map partS).map V.str))
section
variable {B H' H'' : Hp} {t c0 : Addr} {P : List (Bool × List Int)}
theorem StT.new (h : StT B t c0 H' P) (s : Same H' H'') : StT B t c0 H'' P :=
  ⟨h.s.trans (hid_same s), h.T.mono s, s _ _ h.hc⟩
theorem StT.draw (h : StT B t c0 H' P) (b : But t H' H'') (T : Tap H'' t) (ct : c0 ≠ t) : StT B t c0 H'' P ∧ Hid [t, c0] H'' = Hid [t, c0] H' := by
  have e : Hid [t, c0] H'' = Hid [t, c0] H' := funext fun x => by
    unfold Hid
    by_cases c : x ∈ [t, c0]
    · rw [if_pos c, if_pos c]
    · rw [if_neg c, if_neg c]; exact b x fun z => c (by simp [z])
  exact ⟨⟨by rw [e]; exact h.s, T, (b c0 ct).trans h.hc⟩, e⟩
theorem StT.ins (h : StT B t c0 H' P) (ct : c0 ≠ t) (p : Bool × List Int) (k : Nat) :
    StT B t c0 (upd H' c0 (.lst (((P.map partS).map V.str).take k ++ [.str (partS p)] ++ ((P.map partS).map V.str).drop k))) (P.take k ++ [p] ++ P.drop k) := by
  have e : Hid [t, c0] (upd H' c0 (.lst (((P.map partS).map V.str).take k ++ [.str (partS p)] ++ ((P.map partS).map V.str).drop k))) = Hid [t, c0] H' := hid_upd (by simp)
  refine ⟨by rw [e]; exact h.s, tap_upd h.T ct, ?_⟩
  rw [upd_same, List.map_append, List.map_append, List.map_append, List.map_append, List.map_take, List.map_drop, List.map_take, List.map_drop]
  rfl
theorem StT.at (h : StT B t c0 H' P) {x : Addr} {o : HO} (e : B x = some o) : H' x = some o := (hid_some (h.s _ _ e)).2
theorem StT.fresh (h : StT B t c0 H' P) {u : Addr} (n : H' u = none) : u ∉ [t, c0] := fun m => by
  obtain ⟨tx, ht⟩ := h.T.lst
  have : u = t ∨ u = c0 := by simpa using m
  rcases this with rfl | rfl
  · rw [ht] at n; cases n
  · rw [h.hc] at n; cases n
end
theorem parts_len (P : List (Bool × List Int)) : P.length = (rowsP P).length + (ringsP P).length := by
  unfold rowsP ringsP
  rw [List.length_map, List.length_map]
  induction P with
  | nil => rfl
  | cons p P ih =>
    obtain ⟨b, r⟩ := p
    cases b
    · show P.length + 1 = ((P.filter fun p => !p.1).length + 1) + (P.filter fun p => p.1).length
      omega
    · show P.length + 1 = (P.filter fun p => !p.1).length + ((P.filter fun p => p.1).length + 1)
      omega
theorem nab60 {n : Int} {R G : List (List Int)} (dl : Dealt n R G) (n60 : n ≤ 60) {r o : List Int} (hr : r ∈ R ∨ r ∈ G) (pa : (o.map ab).Perm (r.map ab)) {x : Int} (hx : x ∈ o) : x.natAbs ≤ 60 := by
  have h1 : ab x ∈ r.map ab := pa.mem_iff.mp (List.mem_map_of_mem hx)
  obtain ⟨y, hy, e⟩ := List.mem_map.mp h1
  have h2 : ab y ∈ R.flatten.map ab ++ G.flatten.map ab := by
    rcases hr with hr | hr
    · exact List.mem_append_left _ (List.mem_map_of_mem (List.mem_flatten.mpr ⟨r, hr, hy⟩))
    · exact List.mem_append_right _ (List.mem_map_of_mem (List.mem_flatten.mpr ⟨r, hr, hy⟩))
  have := mem_rng.mp (dl.pcs.mem_iff.mp h2)
  rw [e] at this
  unfold ab at this; omega
/-! single pieces -/
def ones (n : Int) : List (List Int) := (rng 1 n.toNat).map fun x => [x]
theorem ones_nsys {n : Int} : NSys n [] (ones n) [] := by
  have sg : ∀ r ∈ ones n, ∃ x, r = [x] ∧ 1 ≤ x := fun r hr => by
    obtain ⟨x, hx, rfl⟩ := List.mem_map.mp hr
    exact ⟨x, rfl, (mem_rng.mp hx).1⟩
  refine ⟨⟨fun r hr => ?_, fun _ h => (nomatch h), ?_, ?_⟩, fun r hr => ?_, fun _ h => (nomatch h)⟩
  · obtain ⟨x, rfl, _⟩ := sg r hr; simp
  · have e : (ones n).flatten = rng 1 n.toNat := by
      unfold ones
      rw [← List.flatMap_def]
      induction rng 1 n.toNat with
      | nil => rfl
      | cons x t ih => rw [List.flatMap_cons, ih]; rfl
    rw [e]
    have : (rng 1 n.toNat).map ab = rng 1 n.toNat := by
      refine (List.map_congr_left fun x hx => ?_).trans (List.map_id _)
      have := mem_rng.mp hx
      unfold ab; simp; omega
    rw [this]
    simp
  · unfold cps ones
    rw [List.flatMap_map]
    simp [steps]
  · obtain ⟨x, rfl, h⟩ := sg r hr
    have : mnA [x] = x := by show ab x = x; unfold ab; omega
    rw [this]; simp
theorem ones_srt {n : Int} : srtR (ones n) = ones n := by
  refine srtR_id ?_
  unfold ones
  rw [List.pairwise_map]
  exact (rng_asc 1 n.toNat).imp fun z => List.le_of_lt (List.cons_lt_cons_iff.mpr (.inl z))
theorem rd_one (x : Int) : rdS [x] = nS x := TL.ext_tl (by rw [tl_rdS, tl_nS]; rfl)
theorem ones_txt {n : Int} : txtP (wrap false (srtR (ones n)) ++ wrap true (srtR [])) = Txt.join (Str.ofString ", ") ((rng 1 n.toNat).map nS) := by
  rw [ones_srt, srtR_id (R := []) .nil]
  unfold txtP
  rw [List.map_append, wrap_S]
  unfold ones wrap
  rw [List.map_map]
  simp only [List.map_nil, List.append_nil]
  exact congrArg _ (List.map_congr_left fun x _ => rd_one x)
theorem rng_up (n : Nat) : (rng 0 n).map (fun k => k + 1) = rng 1 n := by
  unfold rng
  rw [List.map_map]
  exact List.map_congr_left fun k _ => by simp; omega
theorem ones_len {n : Int} (n60 : n ≤ 60) : (((rng 1 n.toNat).map nS).map (·.length)).sum + ((rng 1 n.toNat).map nS).length * (Str.ofString ", ").length ≤ 16777216 := by
  have k := (rdS_len (r := rng 1 n.toNat) fun x hx => by have := mem_rng.mp hx; omega).2
  have l1 : (Str.ofString " ").length = 1 := by decide
  have l2 : (Str.ofString ", ").length = 2 := by decide
  rw [List.length_map, rng_len, l1] at k
  rw [List.length_map, rng_len, l2]
  omega
theorem r_setOne {w : World} {te : TE} {i : Int} {σ : L2.St} {H : Hp} {Q : VK} (he : ∀ H' Q', Q' (.int i) H' → te σ H' Q') (h : ∀ p H1, H p = none → Same H H1 → H1 p = some (SetO w p (fun j => decide (j = i)) 1) → Q (.ref p) H1) : tSetOne w te σ H Q :=
  fun p np => he _ _ ⟨i, rfl, upd_same, by rw [upd_upd]; exact h p _ np (same_new np) upd_same⟩
end Vf
namespace V15
open PySem PySem.Spec PyProof.Rows L2 Vf
def topS (i : Nat) : Stmt := PySem.Challenge.pw_crosshitch_k15_texts_of_layouts.main.body.getD i (.Pass ⟨0, 0, 0, 0⟩)
abbrev s_is_integer : Stmt := topS 7
theorem sc_is_integer : FnScope ["value"] ["value"] (defScope s_is_integer) := ⟨rfl, rfl, rfl, by decide +kernel, rfl, by decide +kernel, by decide +kernel⟩
abbrev s_are_integers : Stmt := topS 8
theorem sc_are_integers : FnScope ["one", "other"] ["one", "other"] (defScope s_are_integers) := ⟨rfl, rfl, rfl, by decide +kernel, rfl, by decide +kernel, by decide +kernel⟩
abbrev s_couplings_in : Stmt := topS 9
theorem sc_couplings_in : FnScope ["partners"] ["partners"] (defScope s_couplings_in) := ⟨rfl, rfl, rfl, by decide +kernel, rfl, by decide +kernel, by decide +kernel⟩
abbrev s_check_pieces : Stmt := topS 10
theorem sc_check_pieces : FnScope ["pieces"] ["pieces"] (defScope s_check_pieces) := ⟨rfl, rfl, rfl, by decide +kernel, rfl, by decide +kernel, by decide +kernel⟩
abbrev s_partners_or_wrong : Stmt := topS 11
theorem sc_partners_or_wrong : FnScope ["pieces", "items", "partners", "ahead", "item", "low", "high"] ["pieces", "items"] (defScope s_partners_or_wrong) := ⟨rfl, rfl, rfl, by decide +kernel, rfl, by decide +kernel, by decide +kernel⟩
abbrev s_checked_partners : Stmt := topS 12
theorem sc_checked_partners : FnScope ["pieces", "layout", "partners"] ["pieces", "layout"] (defScope s_checked_partners) := ⟨rfl, rfl, rfl, by decide +kernel, rfl, by decide +kernel, by decide +kernel⟩
abbrev s_readings_in : Stmt := topS 14
theorem sc_readings_in : FnScope ["pieces", "partners", "rows", "rings", "seen", "piece", "reading", "end", "ahead"] ["pieces", "partners"] (defScope s_readings_in) := ⟨rfl, rfl, rfl, by decide +kernel, rfl, by decide +kernel, by decide +kernel⟩
abbrev s_couplings_along : Stmt := topS 15
abbrev N_couplings_along : List Str := ["numbers", "pairs", "number", "behind"]
theorem sc_couplings_along : FnScope ["numbers", "pairs", "number", "behind"] ["numbers"] (defScope s_couplings_along) := ⟨rfl, rfl, rfl, by decide +kernel, rfl, by decide +kernel, by decide +kernel⟩
abbrev s__words : Stmt := topS 17
abbrev N__words : List Str := ["reading", "number"]
theorem sc__words : FnScope ["reading", "number"] ["reading"] (defScope s__words) := ⟨rfl, rfl, rfl, by decide +kernel, rfl, by decide +kernel, by decide +kernel⟩
abbrev s_show_layout : Stmt := topS 18
abbrev N_show_layout : List Str := ["pieces", "layout", "rows", "rings", "row", "ring"]
theorem sc_show_layout : FnScope ["pieces", "layout", "rows", "rings", "row", "ring"] ["pieces", "layout"] (defScope s_show_layout) := ⟨rfl, rfl, rfl, by decide +kernel, rfl, by decide +kernel, by decide +kernel⟩
abbrev s__ends_by_word : Stmt := topS 19
abbrev N__ends_by_word : List Str := ["pieces", "end"]
theorem sc__ends_by_word : FnScope ["pieces", "end"] ["pieces"] (defScope s__ends_by_word) := ⟨rfl, rfl, rfl, by decide +kernel, rfl, by decide +kernel, by decide +kernel⟩
abbrev s__check_string : Stmt := topS 20
theorem sc__check_string : FnScope ["text"] ["text"] (defScope s__check_string) := ⟨rfl, rfl, rfl, by decide +kernel, rfl, by decide +kernel, by decide +kernel⟩
abbrev s_read_layout : Stmt := topS 21
abbrev N_read_layout : List Str := ["pieces", "text", "ends", "layout", "seen", "part", "told", "in_ring", "words", "reading", "number", "word"]
theorem sc_read_layout : FnScope ["pieces", "text", "ends", "layout", "seen", "part", "told", "in_ring", "words", "reading", "number", "word"] ["pieces", "text"] (defScope s_read_layout) := ⟨rfl, rfl, rfl, by decide +kernel, rfl, by decide +kernel, by decide +kernel⟩
abbrev s__law_tap : Stmt := topS 23
theorem sc__law_tap : FnScope ["cell", "turn", "whole"] ["cell", "turn"] (defScope s__law_tap) := ⟨rfl, rfl, rfl, by decide +kernel, rfl, by decide +kernel, by decide +kernel⟩
abbrev s__law_draw : Stmt := topS 24
theorem sc__law_draw : FnScope ["tap", "bound", "found"] ["tap", "bound"] (defScope s__law_draw) := ⟨rfl, rfl, rfl, by decide +kernel, rfl, by decide +kernel, by decide +kernel⟩
abbrev s__law_cells : Stmt := topS 25
theorem sc__law_cells : FnScope ["script", "many"] ["script", "many"] (defScope s__law_cells) := ⟨rfl, rfl, rfl, by decide +kernel, rfl, by decide +kernel, by decide +kernel⟩
abbrev s__law_pair : Stmt := topS 27
theorem sc__law_pair : FnScope ["one", "other"] ["one", "other"] (defScope s__law_pair) := ⟨rfl, rfl, rfl, by decide +kernel, rfl, by decide +kernel, by decide +kernel⟩
abbrev s__law_chains : Stmt := topS 30
theorem sc__law_chains : FnScope ["tap", "pieces", "left", "found", "long", "reading", "turn", "row"] ["tap", "pieces"] (defScope s__law_chains) := ⟨rfl, rfl, rfl, by decide +kernel, rfl, by decide +kernel, by decide +kernel⟩
abbrev s__law_coupled : Stmt := topS 31
abbrev N__law_coupled : List Str := ["rows", "rings", "found", "reading", "one", "other"]
theorem sc__law_coupled : FnScope ["rows", "rings", "found", "reading", "one", "other"] ["rows", "rings"] (defScope s__law_coupled) := ⟨rfl, rfl, rfl, by decide +kernel, rfl, by decide +kernel, by decide +kernel⟩
abbrev s__law_normal : Stmt := topS 32
abbrev N__law_normal : List Str := ["rows", "rings", "found", "others", "reading", "least", "row", "at", "number"]
theorem sc__law_normal : FnScope ["rows", "rings", "found", "others", "reading", "least", "row", "at", "number"] ["rows", "rings"] (defScope s__law_normal) := ⟨rfl, rfl, rfl, by decide +kernel, rfl, by decide +kernel, by decide +kernel⟩
abbrev s__law_numbers : Stmt := topS 33
abbrev N__law_numbers : List Str := ["numbers", "number"]
theorem sc__law_numbers : FnScope ["numbers", "number"] ["numbers"] (defScope s__law_numbers) := ⟨rfl, rfl, rfl, by decide +kernel, rfl, by decide +kernel, by decide +kernel⟩
abbrev s__law_text : Stmt := topS 34
abbrev N__law_text : List Str := ["rows", "rings", "row", "ring"]
theorem sc__law_text : FnScope ["rows", "rings", "row", "ring"] ["rows", "rings"] (defScope s__law_text) := ⟨rfl, rfl, rfl, by decide +kernel, rfl, by decide +kernel, by decide +kernel⟩
abbrev s__law_otherwise : Stmt := topS 35
abbrev N__law_otherwise : List Str := ["tap", "rows", "rings", "found", "reading", "one", "at", "number"]
theorem sc__law_otherwise : FnScope ["tap", "rows", "rings", "found", "reading", "one", "at", "number"] ["tap", "rows", "rings"] (defScope s__law_otherwise) := ⟨rfl, rfl, rfl, by decide +kernel, rfl, by decide +kernel, by decide +kernel⟩
abbrev s__law_right : Stmt := topS 36
abbrev N__law_right : List Str := ["tap", "pieces", "rows", "rings", "layout", "normal", "given", "text", "turn", "found", "k"]
theorem sc__law_right : FnScope ["tap", "pieces", "rows", "rings", "layout", "normal", "given", "text", "turn", "found", "k"] ["tap"] (defScope s__law_right) := ⟨rfl, rfl, rfl, by decide +kernel, rfl, by decide +kernel, by decide +kernel⟩
abbrev s_law : Stmt := topS 37
abbrev N_law : List Str := ["script", "cells", "k"]
theorem sc_law : FnScope ["script", "cells", "k"] ["script"] (defScope s_law) := ⟨rfl, rfl, rfl, by decide +kernel, rfl, by decide +kernel, by decide +kernel⟩
abbrev i_InvalidLayout : Stmt := initOf (topS 2)
abbrev i_InvalidText : Stmt := initOf (topS 3)
def sp_is_integer (K : PySem.W.Frag) : Sp := fun vs H Q _ => ∃ (v : V) (d : PyData), vs = [v] ∧ Dt K H v d ∧ Q (.bl (isIntD d)) H
def sp_are_integers (K : PySem.W.Frag) : Sp := fun vs H Q _ => ∃ (v : V) (d : PyData) (u : V) (e : PyData), vs = [v, u] ∧ Dt K H v d ∧ Dt K H u e ∧ Q (.bl (isIntD d && isIntD e)) H
def sp_couplings_in (K : PySem.W.Frag) : Sp := fun vs H Q _ => ∃ (n : Int) (T : Addr) (ts : List Int) (L : List (Int × Int)), vs = [.ref T] ∧ Lay n L ∧ H T = some (.lst (ts.map V.int)) ∧ IsF n (ptb L) ts ∧ Q (.int (L.length : Nat)) H
def sp_check_pieces (K : PySem.W.Frag) : Sp := fun vs H Q E => ∃ (v : V) (d : PyData), vs = [v] ∧ Dt K H v d ∧ (∀ n, piecesD d = some n → Q .non H) ∧ (piecesD d = none → E (.ref (clsOf K "InvalidPieces")) none H)
def sp_partners_or_wrong (K : PySem.W.Frag) : Sp := fun vs H Q _ => ∃ (n : Int) (a : Addr) (xs : List V) (ds : List PyData), vs = [.int n, .ref a] ∧ 1 ≤ n ∧ n ≤ 60 ∧ H a = some (.lst xs) ∧ DtAll K H xs ds ∧ (∀ L T ts H', Lay n L → ds = L.map dP → Same H H' → H T = none → H' T = some (.lst (ts.map V.int)) → IsF n (ptb L) ts → Q (.ref T) H') ∧ (∀ (i : Nat) H', layW n [] ds = some i → Same H H' → Q (.int i) H')
def sp_checked_partners (K : PySem.W.Frag) : Sp := fun vs H Q E => ∃ (n : Int) (v : V) (d : PyData), vs = [.int n, v] ∧ 1 ≤ n ∧ n ≤ 60 ∧ Dt K H v d ∧ fewD d ∧ (∀ L T ts H', Lay n L → d = dL L → Same H H' → H T = none → H' T = some (.lst (ts.map V.int)) → IsF n (ptb L) ts → Q (.ref T) H') ∧ (∀ i dx H', LayE n d i → Same H H' → H dx = none → H' dx = some (.xd [("index", i)]) → E (.ref (clsOf K "InvalidLayout")) (some dx) H')
def sp_readings_in (K : PySem.W.Frag) : Sp := fun vs H Q _ => ∃ (n : Int) (T : Addr) (ts : List Int) (L : List (Int × Int)) (R G : List (List Int)), vs = [.int n, .ref T] ∧ Lay n L ∧ H T = some (.lst (ts.map V.int)) ∧ IsF n (ptb L) ts ∧ NSys n L R G ∧ ∀ p a b xs ys R' G' H', Same H H' → H p = none → H' p = some (.tup [.ref a, .ref b]) → NewR H H' a xs R' → NewR H H' b ys G' → R'.Perm R → G'.Perm G → (G'.Pairwise fun g g' => mnA g < mnA g') → Q (.ref p) H'
def sp_couplings_along (K : PySem.W.Frag) : Sp := fun vs H Q _ => ∃ (a : Addr) (r : List Int), vs = [.ref a] ∧ H a = some (.lst (r.map V.int)) ∧ r.length ≤ 200 ∧ ∀ p ys H', Same H H' → H p = none → H' p = some (.lst ys) → Prs H' ys (steps r) → Q (.ref p) H'
def sp__words (K : PySem.W.Frag) : Sp := fun vs H Q _ => ∃ (a : Addr) (r : List Int), vs = [.ref a] ∧ H a = some (.lst (r.map V.int)) ∧ r.length ≤ 200 ∧ (∀ x ∈ r, x.natAbs ≤ 60) ∧ ∀ H', Same H H' → Q (.str (rdS r)) H'
def sp_show_layout (K : PySem.W.Frag) : Sp := fun vs H Q E => ∃ (n : Int) (a : Addr) (xs : List V) (L : List (Int × Int)) (R G : List (List Int)), vs = [.int n, .ref a] ∧ Lay n L ∧ H a = some (.lst xs) ∧ Prs H xs L ∧ NSys n L R G ∧ ∀ H', Same H H' → Q (.str (txtP (wrap false (srtR R) ++ wrap true (srtR G)))) H'
def sp__ends_by_word (K : PySem.W.Frag) : Sp := fun vs H Q _ => ∃ n : Int, vs = [.int n] ∧ 1 ≤ n ∧ n ≤ 60 ∧ ∀ p H' (D : List (Key × V)), (∀ e ∈ endsL n, valV D (Sum.inr (nS e) : Key) = some (.int e)) → Same H H' → H p = none → H' p = some (.dK D) → Q (.ref p) H'
def sp__check_string (K : PySem.W.Frag) : Sp := fun vs H Q E => ∃ x : Str, vs = [.str x] ∧ Q .non H
def sp_read_layout (K : PySem.W.Frag) : Sp := fun vs H Q E => ∃ (n : Int) (PP : List (Bool × List Int)) (L : List (Int × Int)), vs = [.int n, .str (txtP PP)] ∧ Lay n L ∧ TxtOk n PP L ∧ ∀ p zs H', Same H H' → H p = none → H' p = some (.lst zs) → Prs H' zs L → Q (.ref p) H'
def sp__law_tap (K : PySem.W.Frag) : Sp := fun vs H Q _ => ∃ c k : Int, vs = [.int c, .int k] ∧ 0 ≤ k ∧ k ≤ 100 ∧ ∀ p H', Same H H' → H p = none → Tap H' p → Q (.ref p) H'
def sp__law_draw (K : PySem.W.Frag) : Sp := fun vs H Q _ => ∃ (t : Addr) (n : Int), vs = [.ref t, .int n] ∧ Tap H t ∧ 0 < n ∧ n < 1000000 ∧ ∀ (r : Int) H', 0 ≤ r → r < n → But t H H' → Tap H' t → Q (.int r) H'
def sp__law_cells (K : PySem.W.Frag) : Sp := fun vs H Q _ => ∃ (a : Addr) (ns : List Int) (m : Int), vs = [.ref a, .int m] ∧ SqL K H a (ns.map V.int) ∧ ns.length ≤ 63 ∧ 1 ≤ m ∧ m ≤ 63 ∧ ∀ p H' (cs : List Int), Same H H' → H p = none → H' p = some (.lst (cs.map V.int)) → cs.length ≤ 64 → Q (.ref p) H'
def sp__law_pair (K : PySem.W.Frag) : Sp := fun vs H Q _ => ∃ a b : Int, vs = [.int a, .int b] ∧ NewO H (.tup [.int (min a b), .int (max a b)]) Q
def sp__law_chains (K : PySem.W.Frag) : Sp := fun vs H Q _ => ∃ (t : Addr) (n : Int), vs = [.ref t, .int n] ∧ Tap H t ∧ 1 ≤ n ∧ n ≤ 60 ∧ ∀ p a b R G H', Dealt n R G → SameX t H H' → Tap H' t → H p = none → H a = none → H b = none → H' p = some (.lst [.ref a, .ref b]) → LL (Hid [t] H') a R → LL (Hid [t] H') b G → Q (.ref p) H'
def sp__law_coupled (K : PySem.W.Frag) : Sp := fun vs H Q _ => ∃ (a b : Addr) (R G : List (List Int)), vs = [.ref a, .ref b] ∧ LL H a R ∧ LL H b G ∧ (∀ r, r ∈ R ∨ r ∈ G → r.length ≤ 100) ∧ (cps R G).length ≤ 1000 ∧ (cps R G).Nodup ∧ ∀ p H' ys M, Same H H' → H p = none → H' p = some (.lst ys) → Prs H' ys M → M.Perm (cps R G) → Asc M → Q (.ref p) H'
def sp__law_normal (K : PySem.W.Frag) : Sp := fun vs H Q _ => ∃ (a b : Addr) (R G : List (List Int)), vs = [.ref a, .ref b] ∧ LL H a R ∧ LL H b G ∧ (∀ r ∈ R, r ≠ []) ∧ (∀ r ∈ G, r ≠ []) ∧ (∀ r, r ∈ R ∨ r ∈ G → r.length ≤ 100) ∧ R.length ≤ 1000 ∧ G.length ≤ 1000 ∧ ∀ p c d H', Same H H' → H p = none → H' p = some (.lst [.ref c, .ref d]) → LL H' c (srtR (R.map nrow)) → LL H' d (srtR (G.map nring)) → Q (.ref p) H'
def sp__law_numbers (K : PySem.W.Frag) : Sp := fun vs H Q _ => ∃ (a : Addr) (r : List Int), vs = [.ref a] ∧ H a = some (.lst (r.map V.int)) ∧ r.length ≤ 200 ∧ (∀ x ∈ r, x.natAbs ≤ 60) ∧ ∀ H', Same H H' → Q (.str (rdS r)) H'
def sp__law_text (K : PySem.W.Frag) : Sp := fun vs H Q _ => ∃ (a b : Addr) (R G : List (List Int)), vs = [.ref a, .ref b] ∧ LL H a R ∧ LL H b G ∧ (∀ r, r ∈ R ∨ r ∈ G → r.length ≤ 60 ∧ ∀ x ∈ r, x.natAbs ≤ 60) ∧ R.length ≤ 60 ∧ G.length ≤ 60 ∧ ∀ H', Same H H' → Q (.str (txtP (wrap false R ++ wrap true G))) H'
def sp__law_otherwise (K : PySem.W.Frag) : Sp := fun vs H Q _ => ∃ (t a b : Addr) (n : Int) (R G : List (List Int)), vs = [.ref t, .ref a, .ref b] ∧ Tap H t ∧ Dealt n R G ∧ n ≤ 60 ∧ LL (Hid [t] H) a R ∧ LL (Hid [t] H) b G ∧ ∀ p P H', RowsO R (rowsP P) → RingsO G (ringsP P) → SameX t H H' → Tap H' t → H p = none → H' p = some (.lst ((P.map partS).map V.str)) → Q (.ref p) H'
def sp__law_right (K : PySem.W.Frag) : Sp := fun vs H Q _ => ∃ t : Addr, vs = [.ref t] ∧ Tap H t ∧ ∀ H', SameX t H H' → Q (.bl true) H'
def sp_law (K : PySem.W.Frag) : Sp := fun vs H Q _ => ∃ (a : Addr) (ns : List Int), vs = [.ref a] ∧ SqL K H a (ns.map V.int) ∧ ns.length ≤ 63 ∧ ∀ H', Q (.bl true) H'
theorem evPr_call {K : PySem.W.Frag} {t : List Addr} {σ : L2.St} {H0 : Hp} {ta tb : TE} {i j : Int} (ha : EvI t σ H0 ta i) (hb : EvI t σ H0 tb j) : EvPr t σ H0 (tCall (sp__law_pair K) [] E0 (tCons ta (tCons tb tNil))) (prI i j) := fun H Q s n q =>
  ha H _ s (hb H _ s ⟨i, j, rfl, fun p H' s' np hp => q _ _ s' ⟨p, rfl, hid_get hp (hid_at n np)⟩⟩)
theorem zip_pairs {K : PySem.W.Frag} {i j : Nat} {vs : List Nat} {la lb : List Int} {ca cb : Addr} {σ : L2.St} {H1 : Hp} {D : Addr} {Qd : Hp → Prop}
    (hw : ∀ x y, wipe (((wipe σ vs).set i (some x)).set j (some y)) vs = wipe σ vs) (hi : ∀ x y : V, (((wipe σ vs).set i (some x)).set j (some y))[i]? = some (some x)) (hj : ∀ x y : V, (((wipe σ vs).set i (some x)).set j (some y))[j]? = some (some y))
    (ha : H1 ca = some (.lst (la.map V.int))) (hb : H1 cb = some (.lst (lb.map V.int))) (hl : la.length ≤ 1000)
    (nD : H1 D = none) (q : ∀ H2 ws, Same H1 H2 → H2 D = some (.lst ws) → Prs H2 ws (zs la lb) → Qd H2) :
    LcW (Itz K ca cb) (gTup K 2 (gCons (gName i) (gCons (gName j) gNil))) tYes (tCall (sp__law_pair K) [] E0 (tCons (tVar i) (tCons (tOp (rI0 fun i j => .int (i - j)) (tC (.int 0)) (tVar j)) tNil))) vs D σ H1 Qd := by
  have nca : ca ≠ D := ne_of_none ha nD
  have ncb : cb ≠ D := ne_of_none hb nD
  have sD := same_new (o := .lst []) nD
  have zl : (zs la lb).length = min la.length lb.length := by unfold zs; rw [List.length_map, List.length_zip]
  refine r_lcZ (xs := la.map V.int) (ys := lb.map V.int) (fun k H' => Same (Hid [D] (upd H1 D (.lst []))) H' ∧ ∃ acc, H' D = some (.lst acc) ∧ Prs H' acc ((zs la lb).take k)) ⟨hid_le, [], upd_same, .nil⟩ (fun k H' ⟨s, _⟩ => ⟨sql (s _ _ (hid_get (sD _ _ ha) (by simpa using nca))), sql (s _ _ (hid_get (sD _ _ hb) (by simpa using ncb)))⟩) ?_ ?_
  · rintro k x y T H' hx hy ⟨s, acc, hacc, hP⟩ nT
    rw [List.getElem?_map] at hx hy
    obtain ⟨xi, hxi, rfl⟩ := Option.map_eq_some_iff.mp hx
    obtain ⟨yi, hyi, rfl⟩ := Option.map_eq_some_iff.mp hy
    have hk : (zs la lb)[k]? = some (prI xi (0 - yi)) := by
      unfold zs
      rw [List.getElem?_map, List.getElem?_zip_eq_some (z := (xi, yi)) |>.mpr ⟨hxi, hyi⟩]
      rfl
    have sT := same_new (o := .tup [.int xi, .int yi]) nT
    refine r_gtup (sqt upd_same) rfl (r_gcons (r_gname (r_gcons (r_gname (r_gnil ⟨hw _ _, r_yes ?_⟩)))))
    show (if true = true then _ else _)
    rw [if_pos rfl]
    have hTD : T ≠ D := fun z => by rw [z, hacc] at nT; cases nT
    have key : EvPr [] (((wipe σ vs).set i (some (.int xi))).set j (some (.int yi))) (Hid [] (upd H' T (.tup [.int xi, .int yi]))) (tCall (sp__law_pair K) [] E0 (tCons (tVar i) (tCons (tOp (rI0 fun i j => .int (i - j)) (tC (.int 0)) (tVar j)) tNil))) (prI xi (0 - yi)) :=
      evPr_call (evI_var (hi _ _)) (evI_op (g := fun a b => a - b) evI_c (evI_var (hj _ _)))
    refine key _ _ (Same.refl _) (fun _ z => by cases z) fun v H2 s2 hv => ?_
    have hacc2 := s2 _ _ (sT _ _ hacc)
    have hP2 := (hP.mono sT).mono s2
    have kl : k < (zs la lb).length := (List.getElem?_eq_some_iff.mp hk).1
    have al : acc.length ≤ 1000 := by have := pair_len hP; rw [this, List.length_take]; omega
    refine ⟨acc, hacc2, szs (by omega), fun b o e => ?_, acc ++ [v], upd_same, ?_⟩
    · have hb := hid_un e
      rw [upd_ne (by simpa using hb)]
      exact s2 _ _ (sT _ _ (s b o e))
    · rw [List.take_add_one, hk]
      refine pair_app (hP2.but but_upd hacc2 fun _ z => by cases z) (.cons ?_ .nil)
      have hv2 : Pr H2 v (prI xi (0 - yi)) := hv.mono hid_le
      exact hv2.but but_upd hacc2 fun _ z => by cases z
  · rintro H2 ⟨s, acc, hacc, hP⟩
    rw [List.length_map, List.length_map, ← zl, List.take_length] at hP
    refine q H2 acc (fun b o e => ?_) hacc hP
    have nb : b ≠ D := ne_of_none e nD
    exact s b o (hid_get (sD _ _ e) (by simpa using nb))
end V15
local macro_rules | `(tactic| walk_at "side") => `(tactic| first | (show _ ≠ _; omega) | fail)
local macro_rules | `(tactic| walk_at "side") => `(tactic| first | (show _ ≠ _; decide) | fail)
local macro_rules | `(tactic| walk_at "side") => `(tactic| first | exact ⟨by omega, by omega⟩ | fail)
local macro_rules | `(tactic| walk_at "side") => `(tactic| first | exact ⟨by decide, by decide, by decide⟩ | fail)
local macro_rules | `(tactic| walk_at "side") => `(tactic| first | exact Or.inr ⟨by omega, by omega⟩ | fail)
local macro_rules | `(tactic| walk_at "side") => `(tactic| first | exact Or.inl ⟨by omega, by omega⟩ | fail)
local macro_rules | `(tactic| walk_at "side") => `(tactic| first | exact Or.inr ⟨by decide, by decide⟩ | fail)
local macro_rules | `(tactic| walk_at "side") => `(tactic| first | exact Or.inl ⟨by decide, by decide⟩ | fail)
local macro_rules | `(tactic| walk_at "side") => `(tactic| first | omega | fail)
local macro_rules | `(tactic| walk_at "side") => `(tactic| first | decide | fail)
local macro_rules | `(tactic| walk_at "side") => `(tactic| first | assumption | fail)
local macro_rules | `(tactic| walk_at "cond") => `(tactic| first | (intro h; exact V.noConfusion h) | fail)
local macro_rules | `(tactic| walk_at "cond") => `(tactic| first | rfl | fail)
local macro_rules | `(tactic| walk_at "cond") => `(tactic| first | omega | fail)
local macro_rules | `(tactic| walk_at "cond") => `(tactic| first | assumption | fail)
local macro_rules | `(tactic| walk_at "ev1") => `(tactic| first | refine ⟨rfl, ?_⟩ | fail)
local macro_rules | `(tactic| walk_at "ev1") => `(tactic| first | refine ⟨_, rfl, ?_⟩ | fail)
local macro_rules | `(tactic| walk_at "ev1") => `(tactic| first | refine ⟨_, _, rfl, ?_⟩ | fail)
local macro_rules | `(tactic| walk_at "ev1") => `(tactic| first | refine Or.inr ⟨_, rfl, ?_⟩ | fail)
local macro_rules | `(tactic| walk_at "ev1") => `(tactic| first | refine Or.inl ⟨_, rfl, ?_⟩ | fail)
local macro_rules | `(tactic| walk_at "ev1") => `(tactic| first | with_reducible dsimp only | fail)
local macro_rules | `(tactic| walk_at "ev1") => `(tactic| first | (with_reducible refine Vf.ifNn (by walk_at "cond") ?_) | fail)
local macro_rules | `(tactic| walk_at "ev1") => `(tactic| first | (with_reducible refine Vf.ifN (by walk_at "cond") ?_) | fail)
local macro_rules | `(tactic| walk_at "ev1") => `(tactic| first | (with_reducible refine Vf.ifDn (by walk_at "cond") ?_) | fail)
local macro_rules | `(tactic| walk_at "ev1") => `(tactic| first | (with_reducible refine Vf.ifD (by walk_at "cond") ?_) | fail)
local macro_rules | `(tactic| walk_at "ev1") => `(tactic| first | with_reducible refine L2.iteF ?_ | fail)
local macro_rules | `(tactic| walk_at "ev1") => `(tactic| first | with_reducible refine L2.iteT ?_ | fail)
local macro_rules | `(tactic| walk_at "ev1") => `(tactic| first | ((with_reducible refine' Vf.r_sin ?evs ?_); (case evs => assumption)) | fail)
local macro_rules | `(tactic| walk_at "ev1") => `(tactic| first | with_reducible refine Vf.ifNF ?_ | fail)
local macro_rules | `(tactic| walk_at "ev1") => `(tactic| first | with_reducible refine Vf.ifNT ?_ | fail)
local macro_rules | `(tactic| walk_at "ev1") => `(tactic| first | ((with_reducible refine' Vf.r_setL ?evs ?eva ?_); (case evs => assumption); (case eva => rfl)) | fail)
local macro_rules | `(tactic| walk_at "ev1") => `(tactic| first | ((with_reducible refine' Vf.r_ixT ?evs ?eva ?_); (case evs => first | assumption | exact Vf.sqt (by assumption)); (case eva => rfl)) | fail)
local macro_rules | `(tactic| walk_at "ev1") => `(tactic| first | refine ⟨_, _, rfl, .inr (Vf.sqt (by assumption)), ?_⟩ | fail)
local macro_rules | `(tactic| walk_at "ev1") => `(tactic| first | refine ⟨_, _, rfl, .inl (by assumption), ?_⟩ | fail)
local macro_rules | `(tactic| walk_at "ev1") => `(tactic| first | refine ⟨_, _, rfl, .inl (Vf.sql (by assumption)), ?_⟩ | fail)
local macro_rules | `(tactic| walk_at "ev1") => `(tactic| first | ((with_reducible refine' Vf.r_gtup ?evs ?eva ?_); (case evs => first | assumption | exact Vf.sqt (by assumption)); (case eva => rfl)) | fail)
local macro_rules | `(tactic| walk_at "ev1") => `(tactic| first | ((with_reducible refine' Vf.r_ixL ?evs ?eva ?_); (case evs => first | assumption | exact Vf.sql (by assumption)); (case eva => rfl)) | fail)
local macro_rules | `(tactic| walk_at "ev1") => `(tactic| first | with_reducible refine Vf.r_yes ?_ | fail)
local macro_rules | `(tactic| walk_at "ev1") => `(tactic| first | with_reducible refine Vf.r_ilist ?_ | fail)
local macro_rules | `(tactic| walk_at "ev1") => `(tactic| first | with_reducible refine Vf.r_rng2 ?_ | fail)
local macro_rules | `(tactic| walk_at "ev1") => `(tactic| first | with_reducible refine Vf.r_rng1 ?_ | fail)
local macro_rules | `(tactic| walk_at "ev1") => `(tactic| first | with_reducible refine Vf.r_aug ?_ | fail)
local macro_rules | `(tactic| walk_at "ev1") => `(tactic| first | with_reducible refine Vf.r_sc2 ?_ | fail)
local macro_rules | `(tactic| walk_at "ev1") => `(tactic| first | with_reducible refine Vf.r_lc2 ?_ | fail)
local macro_rules | `(tactic| walk_at "ev1") => `(tactic| first | with_reducible refine Vf.r_par3 ?_ | fail)
local macro_rules | `(tactic| walk_at "ev1") => `(tactic| first | with_reducible refine Vf.r_lstRg2 ?_ | fail)
local macro_rules | `(tactic| walk_at "ev1") => `(tactic| first | with_reducible refine Vf.r_break ?_ | fail)
local macro_rules | `(tactic| walk_at "ev1") => `(tactic| first | with_reducible refine Vf.r_cont ?_ | fail)
local macro_rules | `(tactic| walk_at "ev1") => `(tactic| first | with_reducible refine Vf.r_asg2 ?_ | fail)
local macro_rules | `(tactic| walk_at "ev1") => `(tactic| first | with_reducible refine Vf.r_notT ?_ | fail)
local macro_rules | `(tactic| walk_at "ev1") => `(tactic| first | with_reducible refine Vf.r_cv3 ?_ | fail)
local macro_rules | `(tactic| walk_at "ev1") => `(tactic| first | with_reducible refine Vf.r_ch3 ?_ | fail)
local macro_rules | `(tactic| walk_at "ev1") => `(tactic| first | with_reducible refine Vf.r_truB ?_ | fail)
local macro_rules | `(tactic| walk_at "ev1") => `(tactic| first | with_reducible refine Vf.r_truI ?_ | fail)
local macro_rules | `(tactic| walk_at "ev1") => `(tactic| first | with_reducible refine Vf.r_tru ?_ | fail)
local macro_rules | `(tactic| walk_at "ev1") => `(tactic| first | with_reducible refine Vf.r_callS ?_ | fail)
local macro_rules | `(tactic| walk_at "ev1") => `(tactic| first | with_reducible refine Vf.r_mkF ?_ | fail)
local macro_rules | `(tactic| walk_at "ev1") => `(tactic| first | with_reducible refine Vf.r_mk1 ?_ | fail)
local macro_rules | `(tactic| walk_at "ev1") => `(tactic| first | with_reducible refine Vf.r_m1 ?_ | fail)
local macro_rules | `(tactic| walk_at "ev1") => `(tactic| first | with_reducible refine Vf.r_xfv ?_ | fail)
local macro_rules | `(tactic| walk_at "ev1") => `(tactic| first | with_reducible refine Vf.r_nF ?_ | fail)
local macro_rules | `(tactic| walk_at "ev1") => `(tactic| first | with_reducible refine Vf.r_n1 ?_ | fail)
local macro_rules | `(tactic| walk_at "ev1") => `(tactic| first | with_reducible refine Vf.r_dnew ?_ | fail)
local macro_rules | `(tactic| walk_at "ev1") => `(tactic| first | with_reducible refine Vf.r_dget2 ?_ | fail)
local macro_rules | `(tactic| walk_at "ev1") => `(tactic| first | with_reducible refine Vf.r_dget1 ?_ | fail)
local macro_rules | `(tactic| walk_at "ev1") => `(tactic| first | with_reducible refine Vf.r_dnotin ?_ | fail)
local macro_rules | `(tactic| walk_at "ev1") => `(tactic| first | with_reducible refine Vf.r_din ?_ | fail)
local macro_rules | `(tactic| walk_at "ev1") => `(tactic| first | with_reducible refine Vf.r_dget ?_ | fail)
local macro_rules | `(tactic| walk_at "ev1") => `(tactic| first | with_reducible refine Vf.r_lc ?_ | fail)
local macro_rules | `(tactic| walk_at "ev1") => `(tactic| first | with_reducible refine Vf.r_for ?_ | fail)
local macro_rules | `(tactic| walk_at "ev1") => `(tactic| first | with_reducible refine Vf.r_sadd ?_ | fail)
local macro_rules | `(tactic| walk_at "ev1") => `(tactic| first | with_reducible refine Vf.r_ienum ?_ | fail)
local macro_rules | `(tactic| walk_at "ev1") => `(tactic| first | with_reducible refine Vf.r_bm0 ?_ | fail)
local macro_rules | `(tactic| walk_at "ev1") => `(tactic| first | with_reducible refine Vf.r_bm ?_ | fail)
local macro_rules | `(tactic| walk_at "ev1") => `(tactic| first | with_reducible refine Vf.r_part ?_ | fail)
local macro_rules | `(tactic| walk_at "ev1") => `(tactic| first | with_reducible refine Vf.r_noPart ?_ | fail)
local macro_rules | `(tactic| walk_at "ev1") => `(tactic| first | with_reducible refine Vf.r_sl ?_ | fail)
local macro_rules | `(tactic| walk_at "ev1") => `(tactic| first | with_reducible refine Vf.r_chain ?_ | fail)
local macro_rules | `(tactic| walk_at "ev1") => `(tactic| first | with_reducible refine Vf.r_blV ?_ | fail)
local macro_rules | `(tactic| walk_at "ev1") => `(tactic| first | with_reducible refine Vf.r_if ?_ | fail)
local macro_rules | `(tactic| walk_at "ev1") => `(tactic| first | with_reducible refine Vf.r_notV ?_ | fail)
local macro_rules | `(tactic| walk_at "ev1") => `(tactic| first | with_reducible refine Vf.r_orV ?_ | fail)
local macro_rules | `(tactic| walk_at "ev1") => `(tactic| first | with_reducible refine Vf.r_andV ?_ | fail)
local macro_rules | `(tactic| walk_at "ev1") => `(tactic| first | with_reducible refine Vf.r_not ?_ | fail)
local macro_rules | `(tactic| walk_at "ev1") => `(tactic| first | with_reducible refine Vf.r_or ?_ | fail)
local macro_rules | `(tactic| walk_at "ev1") => `(tactic| first | with_reducible refine Vf.r_and ?_ | fail)
local macro_rules | `(tactic| walk_at "ev1") => `(tactic| first | with_reducible refine Vf.r_b ?_ | fail)
local macro_rules | `(tactic| walk_at "ev1") => `(tactic| first | with_reducible refine Vf.r_test ?_ | fail)
local macro_rules | `(tactic| walk_at "ev1") => `(tactic| first | with_reducible refine Vf.r_call ?_ | fail)
local macro_rules | `(tactic| walk_at "ev1") => `(tactic| first | with_reducible refine Vf.r_tup ?_ | fail)
local macro_rules | `(tactic| walk_at "ev1") => `(tactic| first | with_reducible refine Vf.r_lst ?_ | fail)
local macro_rules | `(tactic| walk_at "ev1") => `(tactic| first | with_reducible refine Vf.r_nil ?_ | fail)
local macro_rules | `(tactic| walk_at "ev1") => `(tactic| first | with_reducible refine Vf.r_cons ?_ | fail)
local macro_rules | `(tactic| walk_at "ev1") => `(tactic| first | with_reducible refine Vf.r_cb ?_ | fail)
local macro_rules | `(tactic| walk_at "ev1") => `(tactic| first | ((with_reducible refine Vf.r_I ?evc ?_); (case evc => walk_at "side")) | fail)
local macro_rules | `(tactic| walk_at "ev1") => `(tactic| first | with_reducible refine Vf.r_neS ?_ | fail)
local macro_rules | `(tactic| walk_at "ev1") => `(tactic| first | with_reducible refine Vf.r_eqS ?_ | fail)
local macro_rules | `(tactic| walk_at "ev1") => `(tactic| first | with_reducible refine Vf.r_neI ?_ | fail)
local macro_rules | `(tactic| walk_at "ev1") => `(tactic| first | with_reducible refine Vf.r_eqI ?_ | fail)
local macro_rules | `(tactic| walk_at "ev1") => `(tactic| first | with_reducible refine Vf.r_un ?_ | fail)
local macro_rules | `(tactic| walk_at "ev1") => `(tactic| first | with_reducible refine Vf.r_U ?_ | fail)
local macro_rules | `(tactic| walk_at "ev1") => `(tactic| first | with_reducible refine Vf.r_I0 ?_ | fail)
local macro_rules | `(tactic| walk_at "ev1") => `(tactic| first | with_reducible refine Vf.r_op ?_ | fail)
local macro_rules | `(tactic| walk_at "ev1") => `(tactic| first | with_reducible refine Vf.r_c ?_ | fail)
local macro_rules | `(tactic| walk_at "ev1") => `(tactic| first | ((with_reducible refine Vf.r_var ?_); refine ⟨_, rfl, ?_⟩) | fail)
local macro_rules | `(tactic| walk_at "ev1") => `(tactic| first | with_reducible refine Vf.r_gsub ?_ | fail)
local macro_rules | `(tactic| walk_at "ev1") => `(tactic| first | with_reducible refine Vf.r_gcons ?_ | fail)
local macro_rules | `(tactic| walk_at "ev1") => `(tactic| first | with_reducible refine Vf.r_gnil ?_ | fail)
local macro_rules | `(tactic| walk_at "ev1") => `(tactic| first | with_reducible refine Vf.r_gname ?_ | fail)
local macro_rules | `(tactic| walk_at "ev1") => `(tactic| first | with_reducible refine Vf.r_dput ?_ | fail)
local macro_rules | `(tactic| walk_at "ev1") => `(tactic| first | with_reducible refine Vf.r_par ?_ | fail)
local macro_rules | `(tactic| walk_at "ev1") => `(tactic| first | with_reducible refine Vf.r_ifS ?_ | fail)
local macro_rules | `(tactic| walk_at "ev1") => `(tactic| first | with_reducible refine Vf.r_retN ?_ | fail)
local macro_rules | `(tactic| walk_at "ev1") => `(tactic| first | with_reducible refine Vf.r_ret ?_ | fail)
local macro_rules | `(tactic| walk_at "ev1") => `(tactic| first | with_reducible refine Vf.r_drop ?_ | fail)
local macro_rules | `(tactic| walk_at "ev1") => `(tactic| first | with_reducible refine Vf.r_next ?_ | fail)
local macro_rules | `(tactic| walk_at "ev1") => `(tactic| first | with_reducible refine Vf.r_asg ?_ | fail)
local macro_rules | `(tactic| walk_at "ev1") => `(tactic| first | with_reducible refine Vf.r_seq ?_ | fail)
local macro_rules | `(tactic| walk_at "ev") => `(tactic| repeat (walk_at "ev1"))
local macro_rules | `(tactic| walk_at "val1") => `(tactic| first | apply Vf.evV_i | fail)
local macro_rules | `(tactic| walk_at "val1") => `(tactic| first | apply Vf.evO_i | fail)
local macro_rules | `(tactic| walk_at "val1") => `(tactic| first | exact Vf.evO_no | fail)
local macro_rules | `(tactic| walk_at "val1") => `(tactic| first | exact Vf.evI_ixLT rfl (by assumption) (Vf.evI_var rfl) (by assumption) (by assumption) rfl | fail)
local macro_rules | `(tactic| walk_at "val1") => `(tactic| first | apply Vf.evI_rI | fail)
local macro_rules | `(tactic| walk_at "val1") => `(tactic| first | apply Vf.evI_un | fail)
local macro_rules | `(tactic| walk_at "val1") => `(tactic| first | apply Vf.evI_op | fail)
local macro_rules | `(tactic| walk_at "val1") => `(tactic| first | exact Vf.evI_var rfl | fail)
local macro_rules | `(tactic| walk_at "val1") => `(tactic| first | exact Vf.asI (by assumption) | fail)
local macro_rules | `(tactic| walk_at "val1") => `(tactic| first | exact Vf.evI_c | fail)
local macro_rules | `(tactic| walk_at "val1") => `(tactic| first | exact Vf.evL_var rfl (by assumption) | fail)
local macro_rules | `(tactic| walk_at "val1") => `(tactic| first | exact Vf.asL (by assumption) | fail)
local macro_rules | `(tactic| walk_at "val1") => `(tactic| first | apply Vf.evL_rep2 | fail)
local macro_rules | `(tactic| walk_at "val1") => `(tactic| first | apply Vf.evL_listOf | fail)
local macro_rules | `(tactic| walk_at "val1") => `(tactic| first | apply Vf.evL_rev | fail)
local macro_rules | `(tactic| walk_at "val1") => `(tactic| first | apply Vf.evL_sl | fail)
local macro_rules | `(tactic| walk_at "val1") => `(tactic| first | apply Vf.evL_cat | fail)
local macro_rules | `(tactic| walk_at "val1") => `(tactic| first | apply Vf.evL_lst | fail)
local macro_rules | `(tactic| walk_at "val1") => `(tactic| first | exact Vf.evV_ixL rfl (by assumption) (Vf.evI_var rfl) (by assumption) (by assumption) | fail)
local macro_rules | `(tactic| walk_at "val1") => `(tactic| first | exact Vf.evV_dct1 rfl (by assumption) (Nat.le_refl _) | fail)
local macro_rules | `(tactic| walk_at "val1") => `(tactic| first | apply Vf.evV_strE | fail)
local macro_rules | `(tactic| walk_at "val1") => `(tactic| first | apply Vf.evV_eqI | fail)
local macro_rules | `(tactic| walk_at "val1") => `(tactic| first | exact Vf.evV_var rfl (by assumption) | fail)
local macro_rules | `(tactic| walk_at "val1") => `(tactic| first | exact Vf.asV (by assumption) | fail)
local macro_rules | `(tactic| walk_at "val1") => `(tactic| first | apply Vf.evV_rep2 | fail)
local macro_rules | `(tactic| walk_at "val1") => `(tactic| first | apply Vf.evV_listOf | fail)
local macro_rules | `(tactic| walk_at "val1") => `(tactic| first | apply Vf.evV_tupOf | fail)
local macro_rules | `(tactic| walk_at "val1") => `(tactic| first | apply Vf.evV_rev | fail)
local macro_rules | `(tactic| walk_at "val1") => `(tactic| first | apply Vf.evV_sl | fail)
local macro_rules | `(tactic| walk_at "val1") => `(tactic| first | apply Vf.evV_cat | fail)
local macro_rules | `(tactic| walk_at "val1") => `(tactic| first | apply Vf.evV_lst | fail)
local macro_rules | `(tactic| walk_at "val1") => `(tactic| first | apply Vf.evV_tup | fail)
local macro_rules | `(tactic| walk_at "val1") => `(tactic| first | exact Vf.evV_str0 | fail)
local macro_rules | `(tactic| walk_at "val1") => `(tactic| first | exact Vf.evV_dct0 | fail)
local macro_rules | `(tactic| walk_at "val1") => `(tactic| first | exact Vf.evV_bl | fail)
local macro_rules | `(tactic| walk_at "val1") => `(tactic| first | exact Vf.evV_non | fail)
local macro_rules | `(tactic| walk_at "val1") => `(tactic| first | apply Vf.evA_cons | fail)
local macro_rules | `(tactic| walk_at "val1") => `(tactic| first | exact Vf.evA_nil | fail)
local macro_rules | `(tactic| walk_at "val1") => `(tactic| first | exact Vf.asI (by assumption) | fail)
local macro_rules | `(tactic| walk_at "val1") => `(tactic| first | exact Vf.asL (by assumption) | fail)
local macro_rules | `(tactic| walk_at "val1") => `(tactic| first | exact Vf.asV (by assumption) | fail)
local macro_rules | `(tactic| walk_at "val") => `(tactic| ((repeat' (walk_at "val1")); all_goals (first | decide | omega)))
local macro_rules | `(tactic| walk_at "evS") => `(tactic| repeat ((fail_if_success (with_reducible show L2.tSeq _ _ _ _ _)); walk_at "ev1"))
local macro_rules | `(tactic| walk_at "nw") => `(tactic| (refine ⟨Vf.szl (by first | exact Nat.le_of_ble_eq_true rfl | (simp only [List.length_cons, List.length_append, List.length_map, List.length_nil]; omega)), fun c nc => ?_⟩; generalize hE : L2.upd _ c _ = Hn; obtain ⟨sn, hn⟩ := Vf.nw_eq nc hE; clear hE))
local macro_rules | `(tactic| walk_at "nw0") => `(tactic| (intro c nc; generalize hE : L2.upd _ c _ = Hn; obtain ⟨sn, hn⟩ := Vf.nw_eq nc hE; clear hE))
namespace V15
open PySem PySem.Spec PyProof.Rows L2 Vf
section
variable {P : Program} {w : World} {K : PySem.W.Frag} {mg : Str → Option Value} {base : Heap}
theorem ok_is_integer {f : Addr} {fd : FuncData} (F : Fun K "is_integer" "is_integer" s_is_integer f fd) (m_isinstance : mg "isinstance" = none) (m_int : mg "int" = none) (m_bool : mg "bool" = none) : FnOk P w K mg base CX0 1 f fd ["value"] (sp_is_integer K) := by
  refine F.ok sc_is_integer (fun vs H Q E h => ?_) (fun cdv A outer s H vs Q E hr h => ?_)
  · obtain ⟨_, _, rfl, _⟩ := h
    rfl
  · have hu := hu_of hr
    obtain ⟨v, d, rfl, hd, q⟩ := h
    refine ⟨_, (pss_one (ps_ret (pe_and (pe_callB (isiK (K := K)) (by rfl) m_isinstance (by decide +kernel) (pa_cons (pv 0) (pa_cons (pe_bltn (v := .ty "int") (by rfl) m_int (by decide +kernel) rfl) pa_nil))) (pe_one (pe_not (pe_callB (isiK (K := K)) (by rfl) m_isinstance (by decide +kernel) (pa_cons (pv 0) (pa_cons (pe_bltn (v := .ty "bool") (by rfl) m_bool (by decide +kernel) rfl) pa_nil)))))))), ?_⟩
    walk_at "ev"
    refine r_isD hd (.inl rfl) ?_
    walk_at "ev"
    refine ite2 (fun h => ?_) (fun h => ?_)
    · walk_at "ev"
      refine r_isD hd (.inr (.inl rfl)) ?_
      walk_at "ev"
      rw [isInt_t h]
      exact q
    · rw [isInt_f h] at q
      exact q
end
end V15
namespace V15
open PySem PySem.Spec PyProof.Rows L2 Vf
section
variable {P : Program} {w : World} {K : PySem.W.Frag} {mg : Str → Option Value} {base : Heap}
theorem ok_are_integers {f : Addr} {fd : FuncData} (F : Fun K "are_integers" "are_integers" s_are_integers f fd) (D_is_integer : Def P w K mg base 1 "is_integer" ["value"] (sp_is_integer K)) (m_int : mg "int" = none) (m_type : mg "type" = none) : FnOk P w K mg base CX0 2 f fd ["one", "other"] (sp_are_integers K) := by
  refine F.ok sc_are_integers (fun vs H Q E h => ?_) (fun cdv A outer s H vs Q E hr h => ?_)
  · obtain ⟨_, _, _, _, rfl, _⟩ := h
    rfl
  · have hu := hu_of hr
    obtain ⟨v, d, u, e, rfl, hd, he, q⟩ := h
    refine ⟨_, (pss_cons (ps_if (PW.pt (pw_and (pt_cmpR op_tyEq (pe_callTy (typK (K := K)) (by rfl) m_type (by decide +kernel) (pa_cons (pv 0) pa_nil)) (pe_bltn (v := .ty "int") (by rfl) m_int (by decide +kernel) rfl) (nomark _)) (pw_and1 (pt_cmpR op_tyEq (pe_callTy (typK (K := K)) (by rfl) m_type (by decide +kernel) (pa_cons (pv 1) pa_nil)) (pe_bltn (v := .ty "int") (by rfl) m_int (by decide +kernel) rfl) (nomark _))))) (pss_one (ps_ret pe_bl)) pss_nil)
        (pss_one (ps_ret (pe_and (pe_def D_is_integer (hr.mono (by decide)) (pa_cons (pv 0) pa_nil)) (pe_one (pe_def D_is_integer (hr.mono (by decide)) (pa_cons (pv 1) pa_nil))))))), ?_⟩
    walk_at "ev"
    refine r_typ hd ?_
    walk_at "ev"
    refine r_tyC (tyN_d d) .int ?_
    walk_at "ev"
    refine ite2 (fun h => ?_) (fun h => ?_)
    · have h' : tyD d = "int" := by simpa using h
      rw [tyD_int.mp h', Bool.true_and] at q
      walk_at "ev"
      refine r_typ he ?_
      walk_at "ev"
      refine r_tyC (tyN_d e) .int ?_
      walk_at "ev"
      refine ite2 (fun h2 => ?_) (fun h2 => ?_)
      · rw [tyD_int.mp (show tyD e = "int" by simpa using h2)] at q
        walk_at "ev"
        exact q
      · walk_at "ev"
        refine ⟨v, d, rfl, hd, ?_⟩
        rw [tyD_int.mp h']
        walk_at "ev"
        exact ⟨u, e, rfl, he, q⟩
    · walk_at "ev"
      refine ⟨v, d, rfl, hd, ?_⟩
      walk_at "ev"
      refine ite2 (fun h2 => absurd (tyD_int.mpr h2) (by simpa using h)) (fun h2 => ?_)
      rw [Bool.eq_false_iff.mpr h2, Bool.false_and] at q
      exact q
end
end V15
namespace V15
open PySem PySem.Spec PyProof.Rows L2 Vf
section
variable {P : Program} {w : World} {K : PySem.W.Frag} {mg : Str → Option Value} {base : Heap}
theorem ok_couplings_in {f : Addr} {fd : FuncData} (F : Fun K "couplings_in" "couplings_in" s_couplings_in f fd) (m_len : mg "len" = none) : FnOk P w K mg base CX0 1 f fd ["partners"] (sp_couplings_in K) := by
  refine F.ok sc_couplings_in (fun vs H Q E h => ?_) (fun cdv A outer s H vs Q E hr h => ?_)
  · obtain ⟨_, _, _, _, rfl, _⟩ := h
    rfl
  · have hu := hu_of hr
    obtain ⟨n, T, ts, L, rfl, hL, hT, hF, q⟩ := h
    refine ⟨_, (pss_one (ps_ret (pe_op op_fdivN (pe_op op_sub (pe_callB (lenK (K := K)) (by rfl) m_len (by decide +kernel) (pa_cons (pv 0) pa_nil)) (pe_bm PySem.F.plainAttrs_list PySem.F.slot_list_count PySem.F.type_list_count (lcountK (K := K)) (pv 0) (pa_cons pe_int pa_nil))) pe_int))), ?_⟩
    have c := lay_count hL hF
    walk_at "ev"
    refine ⟨tyL hT, ?_⟩
    walk_at "ev"
    refine r_cnt (sql hT) ?_
    walk_at "ev"
    rw [List.length_map, c.1]
    exact q
end
end V15
namespace V15
open PySem PySem.Spec PyProof.Rows L2 Vf
section
variable {P : Program} {w : World} {K : PySem.W.Frag} {mg : Str → Option Value} {base : Heap}
theorem ok_check_pieces {f : Addr} {fd : FuncData} (F : Fun K "check_pieces" "check_pieces" s_check_pieces f fd) (D_is_integer : Def P w K mg base 1 "is_integer" ["value"] (sp_is_integer K)) (m_int : mg "int" = none) (m_type : mg "type" = none) (N_InvalidPieces : New1 K mg "InvalidPieces") {t_MOST_PIECES : Tok} (g_MOST_PIECES : mg "MOST_PIECES" = some (.int 60 t_MOST_PIECES)) : FnG P w K mg base (L2.CX P w) 2 f fd ["pieces"] (sp_check_pieces K) := by
  refine okG F sc_check_pieces (fun vs H Q E h => ?_) (fun cdv A outer s H vs Q E hr hgd h => ?_)
  · obtain ⟨_, _, rfl, _⟩ := h
    rfl
  · have hu := hu_of hr
    obtain ⟨v, d, rfl, hd, q1, q2⟩ := h
    refine ⟨_, (pss_one (ps_if (PW.pt (pw_or (PW.pt (pw_and (pt_cmpR op_tyIsN (pe_callTy (typK (K := K)) (by rfl) m_type (by decide +kernel) (pa_cons (pv 0) pa_nil)) (pe_bltn (v := .ty "int") (by rfl) m_int (by decide +kernel) rfl) (nomark _)) (pw_and1 (pt_not (pt_val (pe_def D_is_integer (hr.mono (by decide)) (pa_cons (pv 0) pa_nil))))))) (pw_or (pt_cmpR op_lt (pv 0) pe_int (nomark _)) (pw_or1 (pt_cmpR op_gt (pv 0) (pe_glob (v := .int 60) rfl g_MOST_PIECES ⟨_, rfl⟩) (nomark _)))))) (pss_one (ps_raise rfl (takes_of (E := E) rfl rfl rfl rfl) (pmk_1 N_InvalidPieces (pe_joined (PJ.cons pe_str (PJ.cons (pe_fmtE (pe_glob (v := .int 60) rfl g_MOST_PIECES ⟨_, rfl⟩)) PJ.nil)))))) pss_nil)), ?_⟩
    have easy : Easy (.int 60) := .inr ⟨60, rfl, by decide +kernel⟩
    have bad : ∀ σ, piecesD d = none → tMk1 (clsOf K "InvalidPieces") (fun σ H Q => tJs [tC (V.str "the number of pieces is an integer from 1 to "), fun σ H Q => tC (V.int 60) σ H fun x H1 => Easy x ∧ ∀ (m : Str), m.length ≤ 2000 → Q (V.str m) H1] Str.empty σ H fun out H1 => Q (V.str out) H1) σ H fun cls d H' => E cls d H' :=
      fun σ h => ⟨_, rfl, by decide, easy, fun m hm => ⟨m, rfl, by rw [strLen_append]; exact szl (Nat.le_trans (Nat.add_le_add (show _ ≤ 100 by decide) hm) (by decide)), q2 h⟩⟩
    walk_at "ev"
    refine r_typ hd ?_
    walk_at "ev"
    refine r_tyC (tyN_d d) .int ?_
    walk_at "ev"
    refine ite2 (fun h0 => ?_) (fun h0 => ?_)
    · have nI : isIntD d = false := Bool.eq_false_iff.mpr fun z => by have := tyD_int.mpr z; simp [this] at h0
      walk_at "ev"
      refine ⟨v, d, rfl, hd, ?_⟩
      rw [nI]
      walk_at "ev"
      refine ⟨by decide, easy, fun m hm => ⟨m, rfl, by rw [strLen_append]; exact szl (Nat.le_trans (Nat.add_le_add (show _ ≤ 100 by decide) hm) (by decide)), q2 ?_⟩⟩
      cases d <;> first | rfl | cases nI
    · obtain ⟨i, rfl⟩ := isInt_some (tyD_int.mp (show tyD d = "int" by simpa using h0))
      cases dt_int hd
      walk_at "ev"
      refine ite2 (fun h => ?_) (fun h => ?_)
      · refine L2.iteT ?_
        exact bad _ (if_neg (by simp at h; omega))
      · walk_at "ev"
        refine ite2 (fun h2 => ?_) (fun h2 => ?_)
        · exact bad _ (if_neg (by simp at h2; omega))
        · walk_at "ev"
          exact q1 i (if_pos (by simp at h h2; omega))
end
end V15
namespace V15
open PySem PySem.Spec PyProof.Rows L2 Vf
section
variable {P : Program} {w : World} {K : PySem.W.Frag} {mg : Str → Option Value} {base : Heap}
theorem ok_partners_or_wrong {f : Addr} {fd : FuncData} (F : Fun K "partners_or_wrong" "partners_or_wrong" s_partners_or_wrong f fd) (D_couplings_in : Def P w K mg base 1 "couplings_in" ["partners"] (sp_couplings_in K)) (D_are_integers : Def P w K mg base 2 "are_integers" ["one", "other"] (sp_are_integers K)) (m_tuple : mg "tuple" = none) (m_type : mg "type" = none) (m_len : mg "len" = none) (m_int : mg "int" = none) : FnOk P w K mg base CX0 3 f fd ["pieces", "items"] (sp_partners_or_wrong K) := by
  refine F.ok sc_partners_or_wrong (fun vs H Q E h => ?_) (fun cdv A outer s H vs Q E hr h => ?_)
  · obtain ⟨_, _, _, _, rfl, _⟩ := h
    rfl
  · have hu := hu_of hr
    obtain ⟨n, a, xs, ds, rfl, n1, n60, ha, hD, q1, q2⟩ := h
    refine ⟨_, (pss_cons (ps_set (i := 2) sc_partners_or_wrong.nd rfl (Or.inl rfl) (pe_op op_rep (pe_lst (pa_cons pe_int pa_nil)) (pe_op op_add (pe_op op_mul pe_int (pv 0)) pe_int)))
        (pss_cons (ps_asg pe_int (pg_sub (pv 2) pe_int set_list))
        (pss_cons (ps_set (i := 3) sc_partners_or_wrong.nd rfl (Or.inl rfl) (pe_op op_sub (pe_un un_neg (pv 0)) pe_int))
        (pss_cons (ps_for PassesOwn.never rfl (pi_list (pv 1)) (pg_name (i := 4) sc_partners_or_wrong.nd rfl (Or.inl rfl))
          (pss_cons (ps_if (PW.pt (pw_and (pt_cmpR op_tyIs (pe_callTy (typK (K := K)) (by rfl) m_type (by decide +kernel) (pa_cons (pv 4) pa_nil)) (pe_bltn (v := .ty "tuple") (by rfl) m_tuple (by decide +kernel) rfl) (nomark _)) (pw_and1 (pt_cmpR op_eq (pe_callB (lenK (K := K)) (by rfl) m_len (by decide +kernel) (pa_cons (pv 4) pa_nil)) pe_int (nomark _))))) (pss_cons (ps_asg (pv 4) (pg_tup rfl (pgs_cons (pg_name (i := 5) sc_partners_or_wrong.nd rfl (Or.inl rfl)) (pgs_cons (pg_name (i := 6) sc_partners_or_wrong.nd rfl (Or.inl rfl)) pgs_nil))))
        (pss_one (ps_if (PW.pt (pw_or (PW.pt (pw_and (pt_cmpR op_tyIs (pe_callTy (typK (K := K)) (by rfl) m_type (by decide +kernel) (pa_cons (pv 5) pa_nil)) (pe_bltn (v := .ty "int") (by rfl) m_int (by decide +kernel) rfl) (nomark _)) (pw_and1 (pt_cmpR op_tyIs (pe_callTy (typK (K := K)) (by rfl) m_type (by decide +kernel) (pa_cons (pv 6) pa_nil)) (pe_bltn (v := .ty "int") (by rfl) m_int (by decide +kernel) rfl) (nomark _))))) (pw_or1 (pt_val (pe_def D_are_integers (hr.mono (by decide)) (pa_cons (pv 5) (pa_cons (pv 6) pa_nil))))))) (pss_one (ps_if (PW.pt (pw_and (pt_ch3 op_lt op_lt op_le (pv 3) (pv 5) (pv 6) (pv 0)) (pw_and (pt_not (pt_tru (K := K) (pe_ix (ixL (K := K)) (pv 2) (pv 5) (fun _ _ => rfl)))) (pw_and1 (pt_not (pt_tru (K := K) (pe_ix (ixL (K := K)) (pv 2) (pv 6) (fun _ _ => rfl)))))))) (pss_cons (ps_asg (pv 6) (pg_sub (pv 2) (pv 5) set_list))
        (pss_cons (ps_asg2 (pv 5) (pg_sub (pv 2) (pv 6) set_list) (pg_name (i := 3) sc_partners_or_wrong.nd rfl (Or.inl rfl)))
        (pss_one ps_continue))) pss_nil)) pss_nil))) pss_nil)
        (pss_one (ps_ret (pe_def D_couplings_in (hr.mono (by decide)) (pa_cons (pv 2) pa_nil))))))
        (pss_one (ps_ret (pv 2))))))), ?_⟩
    walk_at "ev"
    refine ⟨szl (by show 1 ≤ 100000; decide), fun z nz => ?_⟩
    have sz := same_new (o := .lst [.int 0]) nz
    have hz : upd H z (.lst [.int 0]) z = some (.lst [.int 0]) := upd_same
    generalize upd H z (.lst [.int 0]) = H1 at sz hz ⊢
    walk_at "ev"
    refine ⟨z, 2 * n + 1, [.int 0], rfl, rfl, hz, by omega, by omega, szl (by show 1 * (2 * n + 1).toNat ≤ 100000; omega), fun T nT => ?_⟩
    rw [rep_one]
    have nT0 := sz.free nT
    walk_at "ev"
    obtain ⟨j0, e0, s0, F0⟩ := (IsF.start (n := n) (by omega)).ix (e := 0) 1 (by omega) (by omega)
    refine r_setL upd_same e0 ?_
    rw [s0, upd_upd]
    have F1 := F0.congr (g := ptb []) fun x _ _ => ptb_start x
    generalize (List.replicate (2 * n + 1).toNat (0 : Int)).set j0 1 = t0 at F1 ⊢
    have s1 := sz.trans (same_new (o := .lst (t0.map V.int)) nT)
    have hT : upd H1 T (.lst (t0.map V.int)) T = some (.lst (t0.map V.int)) := upd_same
    generalize upd H1 T (.lst (t0.map V.int)) = H2 at s1 hT ⊢
    walk_at "ev"
    refine ⟨⟨_, sql (s1 _ _ ha)⟩, ?_⟩
    refine r_forS (seq_list (dta_pair hD)) (fun dn σ H' => ∃ L ts ah y4 y5 y6, σ = [some (.int n), some (.ref a), some (.ref T), some (.int ah), y4, y5, y6] ∧ Same H H' ∧ H' T = some (.lst (ts.map V.int)) ∧ IsF n (ptb L) ts ∧ Lay n L ∧ dn = L.map dP ∧ (∀ q ∈ L, q.1 ≤ ah) ∧ (ah = -n - 1 ∨ ∃ q ∈ L, ah = q.1))
      ⟨[], t0, -n - 1, none, none, none, rfl, s1, hT, F1, Lay.nil n1 n60, rfl, fun _ z => (nomatch z), .inl rfl⟩ (fun dn σ H' ⟨_, _, _, _, _, _, _, s, _⟩ => sql (s _ _ ha)) ?_ ?_
    · rintro dn d r x σ H4 e hd ⟨L, ts, ah, y4, y5, y6, rfl, s4, hT4, hF, hL, rfl, hle, hah⟩
      have hd4 := hd.mono s4
      have fin : (∀ q, cpD n d = some q → ¬ okN L q) → Q (.int (L.length : Nat)) H4 := fun hb => q2 L.length H4 (by rw [e]; exact layW_bad hL hb) s4
      walk_at "ev"
      refine r_typ hd4 ?_
      walk_at "ev"
      refine r_tyC (tyN_d d) .tup ?_
      walk_at "ev"
      refine ite2 (fun h => ?_) (fun h => ?_)
      rotate_left
      · walk_at "ev"
        refine ⟨n, T, ts, L, rfl, hL, hT4, hF, fin (fun q c => ?_)⟩
        rw [cp_none_tup (fun z => by simp [tyD_tup.mpr z] at h)] at c
        cases c
      obtain ⟨ds', rfl⟩ := tyD_tup.mp (show tyD d = "tuple" by simpa using h)
      obtain ⟨t, ys, rfl, ht, hys⟩ := dt_tup hd4
      walk_at "ev"
      refine ite2 (fun h2 => ?_) (fun h2 => ?_)
      rotate_left
      · walk_at "ev"
        refine ⟨n, T, ts, L, rfl, hL, hT4, hF, fin (fun q c => ?_)⟩
        rw [cp_none_len (fun z => by rw [← dta_len hys] at z; simp [z] at h2)] at c
        cases c
      have hl : ys.length = 2 := by
        have : (ys.length : Int) = 2 := by simpa using h2
        omega
      obtain ⟨u, v, rfl⟩ : ∃ u v, ys = [u, v] := by
        match ys, hl with
        | [u, v], _ => exact ⟨u, v, rfl⟩
      cases hys with
      | @cons _ _ d1 _ k1 hr1 =>
      cases hr1 with
      | @cons _ _ d2 _ k2 hr2 =>
      cases hr2
      walk_at "ev"
      by_cases hI : isIntD d1 = true ∧ isIntD d2 = true
      · obtain ⟨i, rfl⟩ := isInt_some hI.1
        obtain ⟨j, rfl⟩ := isInt_some hI.2
        cases dt_int k1
        cases dt_int k2
        refine r_typ k1 ?_
        walk_at "ev"
        refine r_tyC (tyN_d _) .int ?_
        walk_at "ev"
        refine r_typ k2 ?_
        walk_at "ev"
        refine r_tyC (tyN_d _) .int ?_
        walk_at "ev"
        have bad : ¬ (-n ≤ i ∧ i < j ∧ j ≤ n ∧ i ≠ 0 ∧ j ≠ 0) → ∀ q, cpD n (.tuple [.int i, .int j]) = some q → ¬ okN L q := fun hb q c => by rw [cp_none_rng hb] at c; cases c
        have ah0 : -n - 1 ≤ ah := by
          rcases hah with z | ⟨q, hq, z⟩
          · omega
          · have := (hL.cp q hq).1; omega
        have bad2 : ¬ okN L (i, j) → ∀ q, cpD n (.tuple [.int i, .int j]) = some q → ¬ okN L q := fun hb q c => by
          obtain ⟨c1, _⟩ := cpD_dP c
          have : q = (i, j) := by cases c1; rfl
          rw [this]; exact hb
        refine ite2 (fun c1 => ?p1) (fun c1 => ?n1)
        case n1 =>
          walk_at "ev"
          refine ⟨n, T, ts, L, rfl, hL, hT4, hF, fin ?_⟩
          have c1' : ¬ ah < i := by simpa using c1
          rcases hah with z | ⟨q, hq, z⟩
          · exact bad (by omega)
          · exact bad2 fun k => by have := k.1 q hq; simp only at this; omega
        have c1' : ah < i := by simpa using c1
        walk_at "ev"
        refine ite2 (fun c2 => ?p2) (fun c2 => ?n2)
        case n2 =>
          walk_at "ev"
          refine ⟨n, T, ts, L, rfl, hL, hT4, hF, fin (bad ?_)⟩
          have c2' : ¬ i < j := by simpa using c2
          omega
        have c2' : i < j := by simpa using c2
        walk_at "ev"
        refine ite2 (fun c3 => ?_) (fun c3 => ?_)
        rotate_left
        · have c3' : ¬ j ≤ n := by simpa using c3
          walk_at "ev"
          exact ⟨n, T, ts, L, rfl, hL, hT4, hF, fin (bad (by omega))⟩
        have c3' : j ≤ n := by simpa using c3
        walk_at "ev"
        refine r_ixL (sql hT4) (hF.at (by omega) (by omega)) ?_
        walk_at "ev"
        refine ite2 (fun c4 => ?_) (fun c4 => ?_)
        rotate_left
        · walk_at "ev"
          refine ⟨n, T, ts, L, rfl, hL, hT4, hF, fin ?_⟩
          have c4' : ¬ ptb L i = 0 := by simpa using c4
          rw [ptb_zero hL] at c4'
          by_cases z : i = 0
          · exact bad (by omega)
          · exact bad2 fun k => c4' ⟨z, k.2.1⟩
        have c4' : ptb L i = 0 := by simpa using c4
        walk_at "ev"
        refine r_ixL (sql hT4) (hF.at (by omega) (by omega)) ?_
        walk_at "ev"
        refine ite2 (fun c5 => ?_) (fun c5 => ?_)
        rotate_left
        · walk_at "ev"
          refine ⟨n, T, ts, L, rfl, hL, hT4, hF, fin ?_⟩
          have c5' : ¬ ptb L j = 0 := by simpa using c5
          rw [ptb_zero hL] at c5'
          by_cases z : j = 0
          · exact bad (by omega)
          · exact bad2 fun k => c5' ⟨z, k.2.2⟩
        have c5' : ptb L j = 0 := by simpa using c5
        rw [ptb_zero hL] at c4' c5'
        walk_at "ev"
        obtain ⟨j1, e1, w1, F1⟩ := hF.ix (e := i) j (by omega) (by omega)
        refine r_setL hT4 e1 ?_
        rw [w1]
        walk_at "ev"
        obtain ⟨j2, e2, w2, F2⟩ := F1.ix (e := j) i (by omega) (by omega)
        refine r_setL upd_same e2 ?_
        rw [w2, upd_upd]
        walk_at "ev"
        have hok : okN L (i, j) := by
          refine ⟨fun q hq => ?_, c4'.2, c5'.2⟩
          have := hle q hq
          show q.1 < i
          omega
        refine ⟨L ++ [(i, j)], _, i, _, _, _, rfl, Vf.Same.set s4 nT0, upd_same, F2.congr fun x _ _ => ptb_snoc c4'.2 c5'.2 c4'.1 c5'.1 (by omega) x, hL.snoc ⟨by show -n ≤ i; omega, c2', c3', c4'.1, c5'.1⟩ hok, by rw [List.map_append]; rfl, fun q hq => ?_, .inr ⟨(i, j), by simp, rfl⟩⟩
        rcases List.mem_append.mp hq with z | z
        · have := hle q z; omega
        · rw [List.mem_singleton.mp z]; exact Int.le_refl _
      · have bad : ∀ q, cpD n (.tuple [d1, d2]) = some q → ¬ okN L q := fun q c => by rw [cp_none_int hI] at c; cases c
        have both : (isIntD d1 && isIntD d2) = false := by simpa using hI
        refine r_typ k1 ?_
        walk_at "ev"
        refine r_tyC (tyN_d _) .int ?_
        walk_at "ev"
        refine ite2 (fun c1 => ?g2) (fun c1 => ?g1)
        case' g2 =>
          walk_at "ev"
          refine r_typ k2 ?_
          walk_at "ev"
          refine r_tyC (tyN_d _) .int ?_
          walk_at "ev"
          refine ite2 (fun c2 => absurd ⟨tyD_int.mp (by simpa using c1), tyD_int.mp (by simpa using c2)⟩ hI) (fun c2 => ?g3)
        all_goals
          walk_at "ev"
          refine ⟨u, d1, v, d2, rfl, k1, k2, ?_⟩
          rw [both]
          walk_at "ev"
          exact ⟨n, T, ts, L, rfl, hL, hT4, hF, fin bad⟩
    · rintro σ H3 ⟨L, ts, ah, y4, y5, y6, rfl, s3, hT3, hF, hL, he, _⟩
      walk_at "ev"
      exact q1 L T ts H3 hL he s3 nT0 hT3 hF
end
end V15
namespace V15
open PySem PySem.Spec PyProof.Rows L2 Vf
section
variable {P : Program} {w : World} {K : PySem.W.Frag} {mg : Str → Option Value} {base : Heap}
theorem ok_checked_partners {f : Addr} {fd : FuncData} (F : Fun K "checked_partners" "checked_partners" s_checked_partners f fd) (D_partners_or_wrong : Def P w K mg base 3 "partners_or_wrong" ["pieces", "items"] (sp_partners_or_wrong K)) (m_list : mg "list" = none) (m_int : mg "int" = none) (m_type : mg "type" = none) (F_InvalidLayout : NewF P w K mg base "InvalidLayout" "index") : FnG P w K mg base (L2.CX P w) 4 f fd ["pieces", "layout"] (sp_checked_partners K) := by
  refine okG F sc_checked_partners (fun vs H Q E h => ?_) (fun cdv A outer s H vs Q E hr hgd h => ?_)
  · obtain ⟨_, _, _, rfl, _⟩ := h
    rfl
  · have hu := hu_of hr
    obtain ⟨n, v, d, rfl, n1, n60, hd, hf, q1, q2⟩ := h
    refine ⟨_, (pss_cons (ps_if (pt_cmpR op_tyIsN (pe_callTy (typK (K := K)) (by rfl) m_type (by decide +kernel) (pa_cons (pv 1) pa_nil)) (pe_bltn (v := .ty "list") (by rfl) m_list (by decide +kernel) rfl) (nomark _)) (pss_one (ps_raise rfl (takes_of (E := E) rfl rfl rfl rfl) (pmk_F F_InvalidLayout (hr.mono (by decide)) pe_non))) pss_nil)
        (pss_cons (ps_set (i := 2) sc_checked_partners.nd rfl (Or.inl rfl) (pe_def D_partners_or_wrong (hr.mono (by decide)) (pa_cons (pv 0) (pa_cons (pv 1) pa_nil))))
        (pss_cons (ps_if (pt_cmpR op_tyIs (pe_callTy (typK (K := K)) (by rfl) m_type (by decide +kernel) (pa_cons (pv 2) pa_nil)) (pe_bltn (v := .ty "int") (by rfl) m_int (by decide +kernel) rfl) (nomark _)) (pss_one (ps_raise rfl (takes_of (E := E) rfl rfl rfl rfl) (pmk_F F_InvalidLayout (hr.mono (by decide)) (pv 2)))) pss_nil)
        (pss_one (ps_ret (pv 2)))))), ?_⟩
    walk_at "ev"
    refine r_typ hd ?_
    walk_at "ev"
    refine r_tyC (tyN_d d) .lst ?_
    walk_at "ev"
    refine ite2 (fun h => ?_) (fun h => ?_)
    · walk_at "ev"
      refine ⟨.inl rfl, fun dx nd => ?_⟩
      refine q2 _ dx _ (.list ?_) (same_new nd) nd upd_same
      cases d <;> first | rfl | simp [tyD] at h
    · obtain ⟨ds, rfl⟩ := tyD_lst.mp (show tyD d = "list" by simpa using h)
      obtain ⟨a, xs, rfl, ha, hD⟩ := dt_lst hd
      walk_at "ev"
      refine ⟨n, a, xs, ds, rfl, n1, n60, ha, hD, fun L T ts H' hL e s nT hT hF => ?_, fun i H' e s => ?_⟩
      · walk_at "ev"
        refine r_typ (.lst hT (dta_ints ts)) ?_
        walk_at "ev"
        refine r_tyC (tyN_d _) .int ?_
        walk_at "ev"
        subst e
        exact q1 L T ts H' hL rfl s nT hT hF
      · walk_at "ev"
        refine r_typ (.int _) ?_
        walk_at "ev"
        refine r_tyC (tyN_d _) .int ?_
        walk_at "ev"
        refine ⟨easy_nat (by have := layW_lt e; have := hf ds rfl; simp at *; omega), fun dx nd => ?_⟩
        exact q2 _ dx _ (.item e) (s.trans (same_new nd)) (s.free nd) upd_same
end
end V15
namespace V15
open PySem PySem.Spec PyProof.Rows L2 Vf
section
variable {P : Program} {w : World} {K : PySem.W.Frag} {mg : Str → Option Value} {base : Heap}
theorem ok_readings_in {f : Addr} {fd : FuncData} (F : Fun K "readings_in" "readings_in" s_readings_in f fd) (m_range : mg "range" = none) (m_abs : mg "abs" = none) : FnOk P w K mg base CX0 1 f fd ["pieces", "partners"] (sp_readings_in K) := by
  refine F.ok sc_readings_in (fun vs H Q E h => ?_) (fun cdv A outer s H vs Q E hr h => ?_)
  · obtain ⟨_, _, _, _, _, _, rfl, _⟩ := h
    rfl
  · have hu := hu_of hr
    obtain ⟨n, T, ts, L, R, G, rfl, hL, hT, hF, hN, q⟩ := h
    refine ⟨_, (pss_cons (ps_par (i := 2) (j := 3) (by rfl) sc_readings_in.nd rfl rfl (by decide) rfl rfl (pa_cons (pe_lst pa_nil) (pa_cons (pe_lst pa_nil) pa_nil)) (by rfl))
        (pss_cons (ps_set (i := 4) sc_readings_in.nd rfl (Or.inl rfl) (pe_op op_rep (pe_lst (pa_cons pe_bl pa_nil)) (pe_op op_add (pv 0) pe_int)))
        (pss_cons (ps_for PassesOwn.never rfl (pi_range2 (by rfl) m_range (pa_cons pe_int (pa_cons (pe_op op_add (pv 0) pe_int) pa_nil))) (pg_name (i := 5) sc_readings_in.nd rfl (Or.inl rfl))
          (pss_cons (ps_if (pt_val (pe_ix (ixL (K := K)) (pv 4) (pv 5) (fun _ _ => rfl))) (pss_one ps_continue) pss_nil)
        (pss_cons (ps_set (i := 6) sc_readings_in.nd rfl (Or.inl rfl) (pe_lst (pa_cons (pv 5) pa_nil)))
        (pss_cons (ps_set (i := 7) sc_readings_in.nd rfl (Or.inl rfl) (pe_ix (ixL (K := K)) (pv 1) (pv 5) (fun _ _ => rfl)))
        (pss_cons (ps_while PassesOwn.never (PW.pt (pw_and (pt_tru (K := K) (pv 7)) (pw_and1 (pt_cmpR op_ne (pv 7) (pe_un un_neg (pv 5)) (nomark _))))) (pss_cons (ps_expr (pe_bm PySem.F.plainAttrs_list PySem.F.slot_list_append PySem.F.type_list_append mt_append (pv 6) (pa_cons (pe_un un_neg (pv 7)) pa_nil)))
        (pss_cons (ps_asg pe_bl (pg_sub (pv 4) (pe_callB call_abs (by rfl) m_abs (by decide +kernel) (pa_cons (pv 7) pa_nil)) set_list))
        (pss_one (ps_set (i := 7) sc_readings_in.nd rfl (Or.inl rfl) (pe_ix (ixL (K := K)) (pv 1) (pe_un un_neg (pv 7)) (fun _ _ => rfl)))))))
        (pss_cons (ps_if (pt_tru (K := K) (pv 7)) (pss_cons (ps_expr (pe_bm PySem.F.plainAttrs_list PySem.F.slot_list_append PySem.F.type_list_append mt_append (pv 3) (pa_cons (pv 6) pa_nil)))
        (pss_one ps_continue)) pss_nil)
        (pss_cons (ps_set (i := 8) sc_readings_in.nd rfl (Or.inl rfl) (pe_lst pa_nil))
        (pss_cons (ps_set (i := 7) sc_readings_in.nd rfl (Or.inl rfl) (pe_ix (ixL (K := K)) (pv 1) (pe_un un_neg (pv 5)) (fun _ _ => rfl)))
        (pss_cons (ps_while PassesOwn.never (pt_tru (K := K) (pv 7)) (pss_cons (ps_expr (pe_bm PySem.F.plainAttrs_list PySem.F.slot_list_append PySem.F.type_list_append mt_append (pv 8) (pa_cons (pv 7) pa_nil)))
        (pss_cons (ps_asg pe_bl (pg_sub (pv 4) (pe_callB call_abs (by rfl) m_abs (by decide +kernel) (pa_cons (pv 7) pa_nil)) set_list))
        (pss_one (ps_set (i := 7) sc_readings_in.nd rfl (Or.inl rfl) (pe_ix (ixL (K := K)) (pv 1) (pe_un un_neg (pv 7)) (fun _ _ => rfl)))))))
        (pss_one (ps_expr (pe_bm PySem.F.plainAttrs_list PySem.F.slot_list_append PySem.F.type_list_append mt_append (pv 2) (pa_cons (pe_ifExp (pt_tru (K := K) (pv 8)) (pe_op (catK (K := K)) (revK (K := K) (pv 8)) (pv 6)) (pv 6)) pa_nil)))))))))))))
        (pss_one (ps_ret (pe_tup (pa_cons (pv 2) (pa_cons (pv 3) pa_nil)))))))), ?_⟩
    have n1 := hL.n1
    have n60 := hL.n60
    walk_at "ev"
    refine ⟨szl (by show 0 ≤ 100000; decide), fun a na => ?_⟩
    have s1 := same_new (o := .lst []) na
    have ha : upd H a (.lst []) a = some (.lst []) := upd_same
    generalize upd H a (.lst []) = H1 at s1 ha ⊢
    walk_at "ev"
    refine ⟨szl (by show 0 ≤ 100000; decide), fun b nb => ?_⟩
    have s2 := same_new (o := .lst []) nb
    have hb : upd H1 b (.lst []) b = some (.lst []) := upd_same
    have ha2 := s2 _ _ ha
    generalize upd H1 b (.lst []) = H2 at s2 hb ha2 ⊢
    walk_at "ev"
    refine ⟨szl (by show 1 ≤ 100000; decide), fun z nz => ?_⟩
    have s3 := same_new (o := .lst [.bl false]) nz
    have hz : upd H2 z (.lst [.bl false]) z = some (.lst [.bl false]) := upd_same
    generalize upd H2 z (.lst [.bl false]) = H3 at s3 hz ⊢
    walk_at "ev"
    refine ⟨z, n + 1, [.bl false], rfl, rfl, hz, by omega, by omega, szl (by show 1 * (n + 1).toNat ≤ 100000; omega), fun S nS => ?_⟩
    rw [marks_new (by omega)]
    have s4 := same_new (o := .lst (marks n fun _ => false)) nS
    have hS : upd H3 S (.lst (marks n fun _ => false)) S = some (.lst (marks n fun _ => false)) := upd_same
    generalize upd H3 S (.lst (marks n fun _ => false)) = H4 at s4 hS ⊢
    have s24 := s3.trans s4
    have s04 := s1.trans (s2.trans s24)
    have ha4 := s24 _ _ ha2
    have hb4 := s24 _ _ hb
    have nab : a ≠ b := ne_of_none ha nb
    have naS : a ≠ S := ne_of_none (s3 _ _ ha2) nS
    have nbS : b ≠ S := ne_of_none (s3 _ _ hb) nS
    have nTa : T ≠ a := ne_of_none hT na
    have nTb : T ≠ b := ne_of_none (s1 _ _ hT) nb
    have nTS : T ≠ S := ne_of_none (s3 _ _ (s2 _ _ (s1 _ _ hT))) nS
    have hT4 := s04 _ _ hT
    walk_at "ev"
    refine ⟨⟨by omega, by omega, by omega, by omega⟩, ?_⟩
    refine r_forS seq_range (fun d σ H' => ∃ xs ys Ra Ga s y5 y6 y7 y8, σ = [some (.int n), some (.ref T), some (.ref a), some (.ref b), some (.ref S), y5, y6, y7, y8] ∧ Same (Hid [a, b, S] H4) H' ∧ H' a = some (.lst xs) ∧ ILs H' xs Ra ∧ (∀ c, V.ref c ∈ xs → H4 c = none) ∧ H' b = some (.lst ys) ∧ ILs H' ys Ga ∧ (∀ c, V.ref c ∈ ys → H4 c = none) ∧ H' S = some (.lst (marks n s)) ∧ Stt n R G d.length Ra Ga s)
      ⟨[], [], [], [], _, _, _, _, _, rfl, hid_le, ha4, .nil, fun _ z => (by cases z), hb4, .nil, fun _ z => (by cases z), hS, Stt.start hN.toSys⟩ (fun _ _ _ _ => trivial) ?_ ?_
    · rintro d p r v σ H5 e rfl ⟨xs, ys, Ra, Ga, s, y5, y6, y7, y8, rfl, s5, ha5, hxs, fxs, hb5, hys, fys, hS5, st⟩
      obtain ⟨ep, hd⟩ := rng_split e
      have ep2 : p = (d.length : Int) + 1 := by omega
      have hk : (d.length : Int) + 1 ≤ n := by omega
      have elen : (((d ++ [p]).length : Nat) : Int) = (d.length : Int) + 1 := by rw [List.length_append]; simp
      clear e ep
      subst ep2
      generalize hkk : (d.length : Int) = k at *
      have k0 : 0 ≤ k := by omega
      have hT5 := s5 T _ (hid_get hT4 (by simpa using ⟨nTa, nTb, nTS⟩))
      walk_at "ev"
      refine r_ixL (sql hS5) (marks_at (by omega) hk) ?_
      walk_at "ev"
      refine ite2 (fun hs => ?_) (fun hs => ?_)
      · walk_at "ev"
        refine ⟨xs, ys, Ra, Ga, s, _, _, _, _, rfl, s5, ha5, hxs, fxs, hb5, hys, fys, hS5, ?_⟩
        rw [elen]
        exact st.skip hN.toSys k0 hk hs
      obtain ⟨E, post, alt, hpl, w0, w1⟩ := st.kase hN hL k0 hk (Bool.eq_false_iff.mpr hs)
      have hE : E = 0 ∨ E = -(k + 1) := alt.elim (fun z => .inl z.1) fun z => .inr z.1
      walk_at "ev"
      refine ⟨szl (by show 1 ≤ 100000; decide), fun c nc => ?_⟩
      have s6 := same_new (o := .lst [.int (k + 1)]) nc
      have hc : upd H5 c (.lst [.int (k + 1)]) c = some (.lst (([k + 1] : List Int).map V.int)) := upd_same
      generalize upd H5 c (.lst [.int (k + 1)]) = H6 at s6 hc ⊢
      have nca : a ≠ c := ne_of_none ha5 nc
      have ncb : b ≠ c := ne_of_none hb5 nc
      have ncS : S ≠ c := ne_of_none hS5 nc
      have ncT : T ≠ c := ne_of_none hT5 nc
      have c4 : H4 c = none := by
        cases h : H4 c with
        | none => rfl
        | some o =>
          have := s5 c o (hid_get h (by simpa using ⟨nca.symm, ncb.symm, ncS.symm⟩))
          rw [nc] at this; cases this
      have out : ∀ c', H4 c' = none → c' ≠ a ∧ c' ≠ b ∧ c' ≠ S := fun c' h => ⟨fun z => (by rw [z, ha4] at h; cases h), fun z => (by rw [z, hb4] at h; cases h), fun z => (by rw [z, hS] at h; cases h)⟩
      have in5 : ∀ {xs : List V} {R : List (List Int)}, ILs H5 xs R → ∀ c', V.ref c' ∈ xs → c' ≠ c := fun {xs R} h c' hc' z => by
        obtain ⟨i, hi⟩ := List.getElem?_of_mem hc'
        obtain ⟨_, _, c2, e2, e3⟩ := pair_get h hi
        cases e2
        rw [z, nc] at e3
        cases e3
      have hx6 : ILs (Hid [S, c, b, a] H6) xs Ra := hid_ils (hxs.mono s6) fun c' hc' => by
        have := out c' (fxs c' hc')
        have h2 := in5 hxs c' hc'
        simp [this, h2]
      have hy6 : ILs (Hid [S, c, b, a] H6) ys Ga := hid_ils (hys.mono s6) fun c' hc' => by
        have := out c' (fys c' hc')
        have h2 := in5 hys c' hc'
        simp [this, h2]
      have hT6 : Hid [S, c, b, a] H6 T = some (.lst (ts.map V.int)) := hid_get (s6 _ _ hT5) (by simp [nTa, nTb, nTS, ncT])
      have fr : ∀ {H' : Hp}, Same (Hid [S, c, b, a] H6) H' → Same (Hid [a, b, S] H4) H' := fun {H'} h x o e => by
        have e5 := s5 x o e
        have x1 := hid_un e
        have x2 : x ≠ c := ne_of_none e5 nc
        exact h x o (hid_get (s6 _ _ e5) (by simp at x1 ⊢; exact ⟨x1.2.2, x2, x1.2.1, x1.1⟩))
      walk_at "ev"
      refine r_ixL (sql (s6 _ _ hT5)) (hF.at (by omega) (by omega)) ?_
      rw [w0]
      walk_at "evS"
      refine Vf.r_seq ?_
      refine r_while (fun m σ' H' => ∃ dn rest s1, post = dn ++ rest ∧ m = rest.length ∧ σ' = [some (.int n), some (.ref T), some (.ref a), some (.ref b), some (.ref S), some (.int (k + 1)), some (.ref c), some (.int (nxR E rest)), y8] ∧ Same (Hid [S, c, b, a] H6) H' ∧ H' a = some (.lst xs) ∧ H' b = some (.lst ys) ∧ H' c = some (.lst (((k + 1) :: dn).map V.int)) ∧ H' S = some (.lst (marks n s1)) ∧ ∀ q, s1 q = true ↔ s q = true ∨ ∃ x ∈ dn, ab x = (q : Int))
        post.length ⟨[], post, s, rfl, rfl, rfl, hid_le, s6 _ _ ha5, s6 _ _ hb5, hc, s6 _ _ hS5, fun q => by simp⟩ ?_
      rintro m σ' H7 ⟨dn, rest, s1, hpost, rfl, rfl, s7, ha7, hb7, hc7, hS7, hs1⟩
      have hT7 := s7 _ _ hT6
      cases rest with
      | cons y rest =>
        obtain ⟨v0, v1, v2, v3, v4, v5⟩ := w1 dn y rest hpost
        show tAnd _ _ _ _ _
        have ey : nxR E (y :: rest) = -y := rfl
        rw [ey]
        walk_at "ev"
        refine ite2 (fun _ => ?_) (fun h => absurd (show ((-y : Int) != 0) = true by simpa using v1) h)
        walk_at "ev"
        refine r_whT ?_
        walk_at "ev"
        refine ⟨tyL hc7, ?_⟩
        walk_at "ev"
        have hdl : dn.length < 60 := by rw [hpost, List.length_append, List.length_cons] at hpl; omega
        refine r_app hc7 (szs (by simp; omega)) ?_
        have hS8 : upd H7 c (.lst (((k + 1) :: dn).map V.int ++ [.int (- -y)])) S = some (.lst (marks n s1)) := by rw [upd_ne ncS]; exact hS7
        walk_at "ev"
        have eab : (if -y < 0 then - -y else -y) = ab y := by unfold ab; split <;> omega
        rw [eab]
        have ab0 : 0 ≤ ab y ∧ ab y ≤ n := by unfold ab; omega
        refine r_setL hS8 (marks_ix ab0.1 ab0.2) ?_
        rw [marks_set]
        walk_at "ev"
        have hT8 : upd (upd H7 c (.lst (((k + 1) :: dn).map V.int ++ [.int (- -y)]))) S (.lst (marks n fun q => if q = (ab y).toNat then true else s1 q)) T = some (.lst (ts.map V.int)) := by rw [upd_ne nTS, upd_ne ncT]; exact hT7
        refine r_ixL (sql hT8) (hF.at (by omega) (by omega)) ?_
        rw [show (- -y : Int) = y by omega, v0]
        walk_at "ev"
        refine ⟨rest.length, by simp, dn ++ [y], rest, _, by rw [hpost]; simp, rfl, rfl, hid_set (hid_set s7 (by simp)) (by simp), ?_, ?_, ?_, upd_same, fun q => ?_⟩
        · rw [upd_ne naS, upd_ne nca]; exact ha7
        · rw [upd_ne nbS, upd_ne ncb]; exact hb7
        · rw [upd_ne ncS.symm, upd_same]; simp
        · have e2 : (q = (ab y).toNat) ↔ ab y = (q : Int) := by omega
          simp only [List.mem_append, List.mem_singleton]
          by_cases cq : q = (ab y).toNat
          · rw [if_pos cq]
            exact ⟨fun _ => .inr ⟨y, .inr rfl, e2.mp cq⟩, fun _ => rfl⟩
          · rw [if_neg cq, hs1]
            constructor
            · rintro (h | ⟨x, hx, h⟩)
              · exact .inl h
              · exact .inr ⟨x, .inl hx, h⟩
            · rintro (h | ⟨x, hx | rfl, h⟩)
              · exact .inl h
              · exact .inr ⟨x, hx, h⟩
              · exact absurd (e2.mpr h) cq
      | nil =>
        rw [List.append_nil] at hpost
        subst hpost
        have eE : nxR E [] = E := rfl
        rw [eE]
        rcases alt with ⟨rfl, pre, hr, hm⟩ | ⟨rfl, hg, hm⟩
        rotate_left
        · -- a ring
          walk_at "ev"
          refine ite2 (fun _ => ?_) (fun h => absurd (show ((-(k + 1) : Int) != 0) = true by simp; omega) h)
          walk_at "ev"
          refine ite2 (fun _ => ?_) (fun h => absurd (show ((-(k + 1) : Int) != 0) = true by simp; omega) h)
          walk_at "ev"
          refine ⟨tyL hb7, ?_⟩
          walk_at "ev"
          have hyl := pair_len hys
          have hG60 : Ga.length ≤ 60 := by
            have := nodup_sub (l := Ga.map mnA) (m := rng 1 n.toNat) (by rw [List.Nodup, List.pairwise_map]; exact st.asG.imp fun z => by omega) fun x hx => by
              obtain ⟨g, hg', rfl⟩ := List.mem_map.mp hx
              have := hN.toSys.mnPos (.inr ((st.inG g).mp hg').1)
              exact mem_rng.mpr (by omega)
            rw [List.length_map, rng_len] at this
            omega
          refine r_app hb7 (szs (by omega)) ?_
          have s8 : Same (Hid [S, c, b, a] H6) (upd H7 b (.lst (ys ++ [.ref c]))) := hid_set s7 (by simp)
          walk_at "ev"
          refine ⟨xs, ys ++ [.ref c], Ra, Ga ++ [(k + 1) :: post], s1, _, _, _, _, rfl, fr s8, by rw [upd_ne nab]; exact ha7, hx6.mono s8, fxs, upd_same, pair_app (hy6.mono s8) (.cons ⟨c, rfl, by rw [upd_ne ncb.symm]; exact hc7⟩ .nil), fun c' hc' => ?_, by rw [upd_ne nbS.symm]; exact hS7, ?_⟩
          · rcases List.mem_append.mp hc' with z | z
            · exact fys c' z
            · cases List.mem_singleton.mp z; exact c4
          · rw [elen]
            exact st.ring hN.toSys k0 hg hm hs1
        · -- a row
          walk_at "ev"
          refine ⟨szl (by show 0 ≤ 100000; decide), fun dd nd => ?_⟩
          have s8 := same_new (o := .lst []) nd
          have hd8 : upd H7 dd (.lst []) dd = some (.lst (([] : List Int).map V.int)) := upd_same
          generalize upd H7 dd (.lst []) = H8 at s8 hd8 ⊢
          have nda : a ≠ dd := ne_of_none ha7 nd
          have ndb : b ≠ dd := ne_of_none hb7 nd
          have ndS : S ≠ dd := ne_of_none hS7 nd
          have ndT : T ≠ dd := ne_of_none hT7 nd
          have ndc : c ≠ dd := ne_of_none hc7 nd
          obtain ⟨l0, l1⟩ := hN.toSys.walkL hL hr
          walk_at "ev"
          refine r_ixL (sql (s8 _ _ hT7)) (hF.at (by omega) (by omega)) ?_
          rw [l0]
          have hprl : pre.reverse.length ≤ 60 := by
            have := hN.toSys.few n60 (.inl hr)
            rw [List.length_append] at this
            rw [List.length_reverse]
            omega
          have f8 : ∀ {H' : Hp}, Same (Hid [S, dd] H8) H' → Same (Hid [S, c, b, a] H6) H' := fun {H'} h x o e => by
            have x1 := hid_un e
            have e7 := s7 x o e
            exact h x o (hid_get (s8 _ _ e7) (by simp at x1 ⊢; exact ⟨x1.1, ne_of_none e7 nd⟩))
          have g8 : ∀ {H' : Hp}, Same (Hid [S, dd] H8) H' → H' a = some (.lst xs) ∧ H' c = some (.lst (((k + 1) :: post).map V.int)) ∧ H' T = some (.lst (ts.map V.int)) ∧ H' b = some (.lst ys) := fun {H'} h =>
            ⟨h _ _ (hid_get (s8 _ _ ha7) (by simp [naS, nda])), h _ _ (hid_get (s8 _ _ hc7) (by simp [ncS.symm, ndc])), h _ _ (hid_get (s8 _ _ hT7) (by simp [nTS, ndT])), h _ _ (hid_get (s8 _ _ hb7) (by simp [nbS, ndb]))⟩
          walk_at "evS"
          refine Vf.r_seq ?_
          refine r_while (fun m σ' H' => ∃ dn rest s2, pre.reverse = dn ++ rest ∧ m = rest.length ∧ σ' = [some (.int n), some (.ref T), some (.ref a), some (.ref b), some (.ref S), some (.int (k + 1)), some (.ref c), some (.int (nxL rest)), some (.ref dd)] ∧ Same (Hid [S, dd] H8) H' ∧ H' dd = some (.lst (dn.map V.int)) ∧ H' S = some (.lst (marks n s2)) ∧ ∀ q, s2 q = true ↔ s1 q = true ∨ ∃ x ∈ dn, ab x = (q : Int))
            pre.reverse.length ⟨[], pre.reverse, s1, rfl, rfl, rfl, hid_le, hd8, s8 _ _ hS7, fun q => by simp⟩ ?_
          rintro m σ' H9 ⟨dn, rest, s2, hpre, rfl, rfl, s9, hd9, hS9, hs2⟩
          obtain ⟨ha9, hc9, hT9, hb9⟩ := g8 s9
          cases rest with
          | cons y rest =>
            obtain ⟨v0, v1, v2, v3⟩ := l1 dn y rest hpre
            have ey : nxL (y :: rest) = y := rfl
            rw [ey]
            walk_at "ev"
            refine ite2 (fun _ => ?_) (fun h => absurd (show ((y : Int) != 0) = true by simpa using v1) h)
            refine r_whT ?_
            walk_at "ev"
            refine ⟨tyL hd9, ?_⟩
            walk_at "ev"
            have hdl : dn.length < 60 := by rw [hpre, List.length_append, List.length_cons] at hprl; omega
            refine r_app hd9 (szs (by simp; omega)) ?_
            have hS10 : upd H9 dd (.lst (dn.map V.int ++ [.int y])) S = some (.lst (marks n s2)) := by rw [upd_ne ndS]; exact hS9
            walk_at "ev"
            have eab : (if y < 0 then -y else y) = ab y := by unfold ab; split <;> omega
            rw [eab]
            have ab0 : 0 ≤ ab y ∧ ab y ≤ n := by unfold ab; omega
            refine r_setL hS10 (marks_ix ab0.1 ab0.2) ?_
            rw [marks_set]
            walk_at "ev"
            have hT10 : upd (upd H9 dd (.lst (dn.map V.int ++ [.int y]))) S (.lst (marks n fun q => if q = (ab y).toNat then true else s2 q)) T = some (.lst (ts.map V.int)) := by rw [upd_ne nTS, upd_ne ndT]; exact hT9
            refine r_ixL (sql hT10) (hF.at (by omega) (by omega)) ?_
            rw [v0]
            walk_at "ev"
            refine ⟨rest.length, by simp, dn ++ [y], rest, _, by rw [hpre]; simp, rfl, rfl, hid_set (hid_set s9 (by simp)) (by simp), ?_, upd_same, fun q => ?_⟩
            · rw [upd_ne ndS.symm, upd_same]; simp
            · have e2 : (q = (ab y).toNat) ↔ ab y = (q : Int) := by omega
              simp only [List.mem_append, List.mem_singleton]
              by_cases cq : q = (ab y).toNat
              · rw [if_pos cq]
                exact ⟨fun _ => .inr ⟨y, .inr rfl, e2.mp cq⟩, fun _ => rfl⟩
              · rw [if_neg cq, hs2]
                constructor
                · rintro (h | ⟨x, hx, h⟩)
                  · exact .inl h
                  · exact .inr ⟨x, .inl hx, h⟩
                · rintro (h | ⟨x, hx | rfl, h⟩)
                  · exact .inl h
                  · exact .inr ⟨x, hx, h⟩
                  · exact absurd (e2.mpr h) cq
          | nil =>
            rw [List.append_nil] at hpre
            have ey : nxL [] = 0 := rfl
            rw [ey]
            have hxl := pair_len hxs
            have hR60 : Ra.length ≤ 60 := by
              have := nodup_sub (l := Ra.map mnA) (m := rng 1 n.toNat) (by
                rw [List.Nodup, List.pairwise_map]
                refine List.Pairwise.imp_of_mem (fun {x y} hx hy z e => z ?_) st.ndR
                have k1 := ((st.inR x).mp hx).1
                have k2 := ((st.inR y).mp hy).1
                obtain ⟨u, hu, eu⟩ := mn_ab (hN.neR x k1)
                obtain ⟨w, hw, ew⟩ := mn_ab (hN.neR y k2)
                exact (hN.toSys.same (.inl k1) (.inl k2) hu hw (by rw [eu, ew]; exact e)).1) fun x hx => by
                obtain ⟨g, hg', rfl⟩ := List.mem_map.mp hx
                have := hN.toSys.mnPos (.inl ((st.inR g).mp hg').1)
                exact mem_rng.mpr (by omega)
              rw [List.length_map, rng_len] at this
              omega
            have hs3 : ∀ q, s2 q = true ↔ s q = true ∨ ∃ x ∈ pre ++ post, ab x = (q : Int) := fun q => by
              rw [hs2, hs1, ← hpre]
              simp only [List.mem_append, List.mem_reverse]
              constructor
              · rintro ((h | ⟨x, hx, h⟩) | ⟨x, hx, h⟩)
                · exact .inl h
                · exact .inr ⟨x, .inr hx, h⟩
                · exact .inr ⟨x, .inl hx, h⟩
              · rintro (h | ⟨x, hx | hx, h⟩)
                · exact .inl (.inl h)
                · exact .inr ⟨x, hx, h⟩
                · exact .inl (.inr ⟨x, hx, h⟩)
            have fin : ∀ (e : Addr) H10, Same H9 H10 → H10 e = some (.lst ((pre ++ (k + 1) :: post).map V.int)) → e ≠ a → H4 e = none → ∃ xs' ys' Ra' Ga' s' y5 y6 y7 y8, ([some (.int n), some (.ref T), some (.ref a), some (.ref b), some (.ref S), some (.int (k + 1)), some (.ref c), some (.int 0), some (.ref dd)] : L2.St) = [some (.int n), some (.ref T), some (.ref a), some (.ref b), some (.ref S), y5, y6, y7, y8] ∧ Same (Hid [a, b, S] H4) (upd H10 a (.lst (xs ++ [.ref e]))) ∧ upd H10 a (.lst (xs ++ [.ref e])) a = some (.lst xs') ∧ ILs (upd H10 a (.lst (xs ++ [.ref e]))) xs' Ra' ∧ (∀ c, V.ref c ∈ xs' → H4 c = none) ∧ upd H10 a (.lst (xs ++ [.ref e])) b = some (.lst ys') ∧ ILs (upd H10 a (.lst (xs ++ [.ref e]))) ys' Ga' ∧ (∀ c, V.ref c ∈ ys' → H4 c = none) ∧ upd H10 a (.lst (xs ++ [.ref e])) S = some (.lst (marks n s')) ∧ Stt n R G (((d ++ [k + 1]).length : Nat) : Int) Ra' Ga' s' := fun e H10 s10 he nea e4 => by
              have s11 : Same (Hid [S, c, b, a] H6) (upd H10 a (.lst (xs ++ [.ref e]))) := hid_set ((f8 s9).trans s10) (by simp)
              refine ⟨xs ++ [.ref e], ys, Ra ++ [pre ++ (k + 1) :: post], Ga, s2, _, _, _, _, rfl, fr s11, upd_same, pair_app (hx6.mono s11) (.cons ⟨e, rfl, by rw [upd_ne nea]; exact he⟩ .nil), fun c' hc' => ?_, by rw [upd_ne nab.symm]; exact s10 _ _ hb9, hy6.mono s11, fys, by rw [upd_ne naS.symm]; exact s10 _ _ hS9, ?_⟩
              · rcases List.mem_append.mp hc' with z | z
                · exact fxs c' z
                · cases List.mem_singleton.mp z; exact e4
              · rw [elen]
                exact st.row hN.toSys k0 hr hm hs3
            have free4 : ∀ {e : Addr}, H9 e = none → H4 e = none ∧ e ≠ a := fun {e} h => by
              have nea : e ≠ a := fun z => by rw [z, ha9] at h; cases h
              have neb : e ≠ b := fun z => by rw [z, hb9] at h; cases h
              have neS : e ≠ S := fun z => by rw [z, hS9] at h; cases h
              refine ⟨?_, nea⟩
              cases h4 : H4 e with
              | none => rfl
              | some o =>
                have := fr (f8 s9) e o (hid_get h4 (by simp [nea, neb, neS]))
                rw [h] at this; cases this
            walk_at "ev"
            refine ⟨tyL ha9, ?_⟩
            refine Vf.r_cons ?_
            refine Vf.r_if ?_
            refine Vf.r_tru ?_
            refine Vf.r_var ⟨_, rfl, ?_⟩
            refine ⟨_, .inl ⟨_, sql hd9, rfl⟩, ?_⟩
            cases dn with
            | nil =>
              have pe : pre = [] := by simpa using hpre
              subst pe
              refine ifF (by simp) ?_
              refine Vf.r_var ⟨_, rfl, ?_⟩
              refine Vf.r_nil ?_
              refine r_app ha9 (szs (by omega)) ?_
              exact fin c H9 (Same.refl _) hc9 nca.symm c4
            | cons w dn =>
              refine ifT (by simp) ?_
              refine Vf.r_op ?_
              refine ⟨_, rfl, dd, _, rfl, sql hd9, fun r nr => ?_⟩
              have sr := same_new (o := .lst ((w :: dn).map V.int).reverse) nr
              have hr10 : upd H9 r (.lst ((w :: dn).map V.int).reverse) r = some (.lst ((w :: dn).map V.int).reverse) := upd_same
              generalize upd H9 r (.lst ((w :: dn).map V.int).reverse) = H10 at sr hr10 ⊢
              refine Vf.r_var ⟨_, rfl, ?_⟩
              refine ⟨r, c, _, _, rfl, rfl, sql hr10, sql (sr _ _ hc9), szl (by
                have h1 := congrArg List.length hpre
                simp at h1 hprl ⊢
                omega), fun e ne => ?_⟩
              have se := same_new (o := .lst (((w :: dn).map V.int).reverse ++ ((k + 1) :: post).map V.int)) ne
              have he : upd H10 e (.lst (((w :: dn).map V.int).reverse ++ ((k + 1) :: post).map V.int)) e = some (.lst ((pre ++ (k + 1) :: post).map V.int)) := by
                rw [upd_same, List.map_append, ← hpre, List.map_reverse, List.reverse_reverse]
              refine Vf.r_nil ?_
              refine r_app (se _ _ (sr _ _ ha9)) (szs (by omega)) ?_
              obtain ⟨e4, nea⟩ := free4 (sr.free ne)
              exact fin e _ (sr.trans se) he nea e4
    · rintro σ H5 ⟨xs, ys, Ra, Ga, s, y5, y6, y7, y8, rfl, s5, ha5, hxs, fxs, hb5, hys, fys, hS5, st⟩
      have en : (((rng 1 (n + 1 - 1).toNat).length : Nat) : Int) = n := by rw [rng_len]; omega
      rw [en] at st
      obtain ⟨pR, pG⟩ := st.done hN.toSys
      walk_at "ev"
      refine ⟨szl (by show 2 ≤ 100000; decide), fun p np => ?_⟩
      have s6 := same_new (o := .tup [.ref a, .ref b]) np
      have s05 : Same H H5 := fun x o e => s5 x o (hid_get (s04 _ _ e) (by
        simp
        exact ⟨ne_of_none e na, ne_of_none (s1 _ _ e) nb, ne_of_none (s3 _ _ (s2 _ _ (s1 _ _ e))) nS⟩))
      exact q p a b xs ys Ra Ga _ (s05.trans s6) (s05.free np) upd_same ⟨na, s6 _ _ ha5, hxs.mono s6, fun c hc => s04.free (fxs c hc)⟩ ⟨s1.free nb, s6 _ _ hb5, hys.mono s6, fun c hc => s04.free (fys c hc)⟩ pR pG st.asG
end
end V15
namespace V15
open PySem PySem.Spec PyProof.Rows L2 Vf
section
variable {P : Program} {w : World} {K : PySem.W.Frag} {mg : Str → Option Value} {base : Heap}
theorem ok_couplings_along {f : Addr} {fd : FuncData} (F : Fun K "couplings_along" "couplings_along" s_couplings_along f fd) (m_zip : mg "zip" = none) : FnOk P w K mg base CX0 1 f fd ["numbers"] (sp_couplings_along K) := by
  refine F.ok sc_couplings_along (fun vs H Q E h => ?_) (fun cdv A outer s H vs Q E hr h => ?_)
  · obtain ⟨_, _, rfl, _⟩ := h
    rfl
  · have hu := hu_of hr
    obtain ⟨a, r, rfl, ha, rl, q⟩ := h
    refine ⟨_, (pss_cons (ps_set (i := 1) sc_couplings_along.nd rfl (Or.inl rfl) (pe_callTy call_zipN (by rfl) m_zip (by decide +kernel) (pa_cons (pv 0) (pa_cons (pe_slice (slK (K := K)) (pv 0) (po_some pe_int) po_none) pa_nil))))
        (pss_one (ps_ret (pe_lc (g := gTup K 2 (gCons (gName 2) (gCons (gName 3) gNil))) (own := [("number", 2), ("behind", 3)]) rfl sc_couplings_along.nd (pi_zipN (k := 1) rfl (by first | exact Or.inl rfl | exact Or.inr (Or.inl rfl) | exact Or.inr (Or.inr rfl))) (blkOk_by (own := [("number", 2), ("behind", 3)]) (N := N_couplings_along) (sc := defScope s_couplings_along) (by decide +kernel)) (fun _ _ _ _ _ => (pg_tup rfl (pgs_cons (pg_name (i := 2) sc_couplings_along.nd rfl (Or.inl rfl)) (pgs_cons (pg_name (i := 3) sc_couplings_along.nd rfl (Or.inl rfl)) pgs_nil)))) (fun _ _ _ _ _ => pts_nil) (fun _ _ _ _ _ => (pe_ifExp (pt_cmpR op_lt (pv 2) (pe_un un_neg (pv 3)) (nomark _)) (pe_tup (pa_cons (pv 2) (pa_cons (pe_un un_neg (pv 3)) pa_nil))) (pe_tup (pa_cons (pe_un un_neg (pv 3)) (pa_cons (pv 2) pa_nil))))))))), ?_⟩
    walk_at "ev"
    refine ⟨a, _, rfl, sql ha, fun c nc => ?_⟩
    have s1 := same_new (o := .lst (cutV (r.map V.int) (some 1) none)) nc
    have hc : upd H c (.lst (cutV (r.map V.int) (some 1) none)) c = some (.lst ((r.drop 1).map V.int)) := by rw [upd_same, cut_f1, List.map_drop]
    generalize upd H c (.lst (cutV (r.map V.int) (some 1) none)) = H1 at s1 hc ⊢
    have ha1 := s1 _ _ ha
    walk_at "ev"
    refine ⟨a, c, _, _, rfl, sql ha1, sql hc, fun z TI TO i1 i2 H2 s2 nz back hz => ?_⟩
    walk_at "ev"
    refine ⟨z, TI, TO, i1, i2, a, c, rfl, hz, ?_⟩
    have s3 : Same H1 (Hid [z, TI, TO, i1, i2] H2) := fun x o e => hid_get (s2 _ _ e) fun m => by rw [nz x m] at e; cases e
    generalize Hid [z, TI, TO, i1, i2] H2 = H3 at s3 ⊢
    intro D nD
    have a3 := s3 _ _ ha1
    have c3 := s3 _ _ hc
    refine r_lcZ (xs := r.map V.int) (ys := (r.drop 1).map V.int) (fun i H' => Same H3 H' ∧ ∃ acc, H' D = some (.lst acc) ∧ Prs H' acc ((steps r).take i)) ⟨same_new nD, [], upd_same, .nil⟩ (fun i H' p => ⟨sql (p.1 _ _ a3), sql (p.1 _ _ c3)⟩) ?_ ?_
    · rintro i x y T H4 hx hy ⟨s4, acc, hacc, hA⟩ nT
      rw [List.getElem?_map, Option.map_eq_some_iff] at hx hy
      obtain ⟨x', hx, rfl⟩ := hx
      obtain ⟨y', hy, rfl⟩ := hy
      rw [List.getElem?_drop, Nat.add_comm] at hy
      have g := steps_get hx hy
      have il := (List.getElem?_eq_some_iff.mp hx).1
      have al := pair_len hA
      rw [List.length_take] at al
      have sT := same_new (o := .tup [.int x', .int y']) nT
      have hT : upd H4 T (.tup [.int x', .int y']) T = some (.tup [.int x', .int y']) := upd_same
      generalize upd H4 T (.tup [.int x', .int y']) = H5 at sT hT ⊢
      have fin : ∀ {H6 : Hp} {u : Addr} {p : Int × Int}, Same H5 H6 → H6 u = some (.tup [.int p.1, .int p.2]) → p = prI x' (-y') → ∃ acc_1, H6 D = some (.lst acc_1) ∧ acc_1.length < sizeLine ∧ Same H3 (upd H6 D (.lst (acc_1 ++ [.ref u]))) ∧ ∃ acc, upd H6 D (.lst (acc_1 ++ [.ref u])) D = some (.lst acc) ∧ Prs (upd H6 D (.lst (acc_1 ++ [.ref u]))) acc ((steps r).take (i + 1)) := fun {H6 u p} s6 hu ep => by
        have hD := (sT.trans s6) _ _ hacc
        refine ⟨acc, hD, szs (by omega), Vf.Same.set (s4.trans (sT.trans s6)) nD, acc ++ [.ref u], upd_same, ?_⟩
        rw [List.take_succ, g]
        exact Prs.but but_upd hD (fun _ z => nomatch z) (pair_app (hA.mono (sT.trans s6)) (.cons ⟨u, rfl, ep ▸ hu⟩ .nil))
      walk_at "ev"
      refine ite2 (fun c1 => ?_) (fun c1 => ?_)
      · have c1 := of_decide_eq_true c1
        walk_at "ev"; walk_at "nw"; rename_i u nu H6 s6 hu
        exact fin s6 hu (prI_lt c1).symm
      · have c1 : ¬ x' < -y' := by simpa using c1
        walk_at "ev"; walk_at "nw"; rename_i u nu H6 s6 hu
        exact fin (p := (-y', x')) s6 hu (by unfold prI; rw [Int.min_eq_right (by omega), Int.max_eq_left (by omega)])
    · rintro H4 ⟨s4, acc, hacc, hA⟩
      rw [List.take_of_length_le (by rw [steps_len, List.length_map, List.length_map, List.length_drop]; omega)] at hA
      exact q D acc H4 (s1.trans (s3.trans s4)) ((s1.trans s3).free nD) hacc hA
end
end V15
namespace V15
open PySem PySem.Spec PyProof.Rows L2 Vf
section
variable {P : Program} {w : World} {K : PySem.W.Frag} {mg : Str → Option Value} {base : Heap}
theorem ok__words {f : Addr} {fd : FuncData} (F : Fun K "_words" "_words" s__words f fd) (m_str : mg "str" = none) : FnOk P w K mg base CX0 1 f fd ["reading"] (sp__words K) := by
  refine F.ok sc__words (fun vs H Q E h => ?_) (fun cdv A outer s H vs Q E hr h => ?_)
  · obtain ⟨_, _, rfl, _⟩ := h
    rfl
  · have hu := hu_of hr
    obtain ⟨a, r, rfl, ha, hl, hr, q⟩ := h
    refine ⟨_, (pss_one (ps_ret (pe_join pe_str (pe_lc (own := [("number", 1)]) rfl sc__words.nd (pi_list (pv 0)) (blkOk_by (own := [("number", 1)]) (N := N__words) (sc := defScope s__words) (by decide +kernel)) (fun _ _ _ _ _ => (pg_name (i := 1) sc__words.nd rfl (Or.inl rfl))) (fun _ _ _ _ _ => pts_nil) (fun _ _ _ _ _ => (pe_callTy strK (by rfl) m_str (by decide +kernel) (pa_cons (pv 1) pa_nil))))))), ?_⟩
    obtain ⟨l1, l2⟩ := rdS_len hr
    walk_at "ev"
    refine ⟨⟨_, rfl⟩, ?_⟩
    walk_at "ev"
    refine ⟨⟨_, sql ha⟩, fun D nD => ?_⟩
    refine r_lcS (seq_list (K := K) (a := a) (rel := fun v (e : Int) => v = .int e) (L := r) (pair_map fun _ _ => rfl)) (fun dm H' => Same H H' ∧ H' D = some (.lst ((dm.map nS).map V.str))) ⟨same_new nD, upd_same⟩ (fun _ _ k => sql (k.1 _ _ ha)) ?_ ?_
    · rintro dm x rm v H2 em rfl ⟨s2, h2⟩
      have ml : dm.length < r.length := by have := congrArg List.length em; simp at this; omega
      have x60 := hr x (by rw [em]; simp)
      walk_at "ev"
      refine ⟨log_small (by omega), _, h2, szs (by rw [List.length_map, List.length_map]; omega), Vf.Same.set s2 nD, ?_⟩
      rw [List.map_append, List.map_append]
      exact upd_same
    rintro H2 ⟨s2, h2⟩
    walk_at "ev"
    exact ⟨_, D, _, rfl, rfl, .inl (sql h2), by omega, q H2 s2⟩
end
end V15
namespace V15
open PySem PySem.Spec PyProof.Rows L2 Vf
section
variable {P : Program} {w : World} {K : PySem.W.Frag} {mg : Str → Option Value} {base : Heap}
theorem ok_show_layout {f : Addr} {fd : FuncData} (F : Fun K "show_layout" "show_layout" s_show_layout f fd) (D_check_pieces : DefR P w K mg base 2 "check_pieces" ["pieces"] (sp_check_pieces K)) (D_readings_in : Def P w K mg base 1 "readings_in" ["pieces", "partners"] (sp_readings_in K)) (D_checked_partners : DefR P w K mg base 4 "checked_partners" ["pieces", "layout"] (sp_checked_partners K)) (D__words : Def P w K mg base 1 "_words" ["reading"] (sp__words K)) (m_sorted : mg "sorted" = none) : FnG P w K mg base (L2.CX P w) 5 f fd ["pieces", "layout"] (sp_show_layout K) := by
  refine okG F sc_show_layout (fun vs H Q E h => ?_) (fun cdv A outer s H vs Q E hr hgd h => ?_)
  · obtain ⟨_, _, _, _, _, _, rfl, _⟩ := h
    rfl
  · have hu := hu_of hr
    obtain ⟨n, a, xs, L, R, G, rfl, hL, ha, hP, hN, q⟩ := h
    refine ⟨_, (pss_cons (ps_expr (pe_defR D_check_pieces (E := E) (passes_call (takes_of (E := E) rfl rfl rfl rfl) fun _ _ _ _ z => z) (hr.mono (by decide)) hgd (pa_cons (pv 0) pa_nil)))
        (pss_cons (ps_asg (pe_def D_readings_in (hr.mono (by decide)) (pa_cons (pv 0) (pa_cons (pe_defR D_checked_partners (E := E) (passes_call (takes_of (E := E) rfl rfl rfl rfl) fun _ _ _ _ z => z) (hr.mono (by decide)) hgd (pa_cons (pv 0) (pa_cons (pv 1) pa_nil))) pa_nil))) (pg_tup rfl (pgs_cons (pg_name (i := 2) sc_show_layout.nd rfl (Or.inl rfl)) (pgs_cons (pg_name (i := 3) sc_show_layout.nd rfl (Or.inl rfl)) pgs_nil))))
        (pss_one (ps_ret (pe_join pe_str (pe_op (catK (K := K)) (pe_lc (own := [("row", 4)]) rfl sc_show_layout.nd (pi_list (pe_callB (srtDK (K := K) hr.units) (by rfl) m_sorted (by decide +kernel) (pa_cons (pv 2) pa_nil))) (blkOk_by (own := [("row", 4)]) (N := N_show_layout) (sc := defScope s_show_layout) (by decide +kernel)) (fun _ _ _ _ _ => (pg_name (i := 4) sc_show_layout.nd rfl (Or.inl rfl))) (fun _ _ _ _ _ => pts_nil) (fun _ _ _ _ _ => (pe_def D__words (hr.mono (by decide)) (pa_cons (pv 4) pa_nil)))) (pe_lc (own := [("ring", 5)]) rfl sc_show_layout.nd (pi_list (pv 3)) (blkOk_by (own := [("ring", 5)]) (N := N_show_layout) (sc := defScope s_show_layout) (by decide +kernel)) (fun _ _ _ _ _ => (pg_name (i := 5) sc_show_layout.nd rfl (Or.inl rfl))) (fun _ _ _ _ _ => pts_nil) (fun _ _ _ _ _ => (pe_joined (PJ.cons pe_str (PJ.cons (pe_fmt (pe_def D__words (hr.mono (by decide)) (pa_cons (pv 5) pa_nil))) (PJ.cons pe_str PJ.nil)))))))))))), ?_⟩
    have n1 := hL.n1
    have n60 := hL.n60
    walk_at "ev"
    refine ⟨.int n, .int n, rfl, .int n, fun m hm => ?_, fun e => (by rw [pieces_int n1 n60] at e; cases e)⟩
    walk_at "ev"
    refine ⟨n, .ref a, dL L, rfl, n1, n60, dt_lay ha hP, hL.few, fun L' T ts H1 _ e s nT hT hF => ?_, fun i dx H1 h s nd hx => (layE_no hL h).elim⟩
    cases dL_inj e
    walk_at "ev"
    refine ⟨n, T, ts, L, R, G, rfl, hL, hT, hF, hN, fun p c d xs' ys' R' G' H2 s2 np hp nR nG pR pG asc => ?_⟩
    refine r_gtup (sqt hp) rfl ?_
    have eG := ringsSrt hN pG asc
    subst eG
    have eR := srtR_eq pR
    have hcR := nR.at'
    have hdG := nG.at'
    walk_at "ev"
    refine ⟨⟨_, rfl⟩, ?_⟩
    walk_at "ev"
    refine r_sortR (sql hcR) nR.ils (by have := hN.toSys.numR n60; rw [pR.length_eq]; omega) fun zs p2 hz hsub np2 => ?_
    rw [eR] at hz
    have s3 := same_new (o := .lst zs) np2
    have hp2 : upd H2 p2 (.lst zs) p2 = some (.lst zs) := upd_same
    have hz3 := hz.mono s3
    generalize upd H2 p2 (.lst zs) = H3 at s3 hp2 hz3 ⊢
    have hdG3 := s3 _ _ hdG
    have iG3 := nG.ils.mono s3
    have num := hN.toSys.numR n60
    have few : ∀ r, r ∈ R ∨ r ∈ G → r.length ≤ 60 ∧ ∀ x ∈ r, x.natAbs ≤ 60 := fun r hr => ⟨hN.toSys.few n60 hr, fun x hx => by
      have := hr.elim (fun z => hN.toSys.rangeR z hx) fun z => hN.toSys.rangeG z hx
      unfold ab at this; omega⟩
    have lR := (srtR_perm R).length_eq
    have lG := (srtR_perm G).length_eq
    walk_at "ev"
    refine ⟨⟨_, sql hp2⟩, fun D nD => ?_⟩
    refine r_lcS (seq_list (K := K) (a := p2) hz3) (fun dn H' => Same H3 H' ∧ H' D = some (.lst ((dn.map rdS).map V.str))) ⟨same_new nD, upd_same⟩ (fun _ _ k => sql (k.1 _ _ hp2)) ?_ ?_
    · rintro dn r rv v H4 e hv ⟨s4, h4⟩
      obtain ⟨tt, rfl, ht⟩ := hv
      have hr : r ∈ srtR R := by rw [e]; simp
      have dl : dn.length < (srtR R).length := by have := congrArg List.length e; simp only [List.length_append, List.length_cons] at this; omega
      obtain ⟨f1, f2⟩ := few r (.inl ((srtR_perm R).mem_iff.mp hr))
      walk_at "ev"
      refine ⟨tt, r, rfl, s4 _ _ ht, by omega, f2, fun H5 s5 => ?_⟩
      refine ⟨_, s5 _ _ h4, szs (by rw [List.length_map, List.length_map]; omega), Vf.Same.set (s4.trans s5) nD, ?_⟩
      rw [List.map_append, List.map_append]
      exact upd_same
    rintro H4 ⟨s4, h4⟩
    have hd4 := s4 _ _ hdG3
    have iG4 := iG3.mono s4
    walk_at "ev"
    refine ⟨⟨_, sql hd4⟩, fun D2 nD2 => ?_⟩
    refine r_lcS (seq_list (K := K) (a := d) iG4) (fun dn H' => Same H4 H' ∧ H' D2 = some (.lst ((dn.map ringS).map V.str))) ⟨same_new nD2, upd_same⟩ (fun _ _ k => sql (k.1 _ _ hd4)) ?_ ?_
    · rintro dn r rv v H5 e hv ⟨s5, h5⟩
      obtain ⟨tt, rfl, ht⟩ := hv
      have hr : r ∈ srtR G := by rw [e]; simp
      have dl : dn.length < (srtR G).length := by have := congrArg List.length e; simp only [List.length_append, List.length_cons] at this; omega
      obtain ⟨f1, f2⟩ := few r (.inr ((srtR_perm G).mem_iff.mp hr))
      have rl := (rdS_len f2).1
      have ht5 := s5 _ _ ht
      walk_at "ev"
      rw [str_nil]
      refine ⟨szl (by rw [len_po]; omega), ?_⟩
      walk_at "ev"
      refine ⟨tt, r, rfl, ht5, by omega, f2, fun H6 s6 => ?_⟩
      refine .inl ⟨_, rfl, szl (by omega), ?_⟩
      refine ⟨_, rfl, szl (by rw [str_app_len, len_po]; omega), ?_⟩
      walk_at "ev"
      refine ⟨szl (by rw [str_app_len, str_app_len, len_po, len_pc]; omega), ?_⟩
      refine ⟨_, s6 _ _ h5, szs (by rw [List.length_map, List.length_map]; omega), Vf.Same.set (s5.trans s6) nD2, ?_⟩
      rw [List.map_append, List.map_append]
      exact upd_same
    rintro H5 ⟨s5, h5⟩
    have h45 := s5 _ _ h4
    obtain ⟨w1, w2⟩ := txt_wrap (R := srtR R) (G := srtR G) (fun r hr => few r (hr.imp (srtR_perm R).mem_iff.mp (srtR_perm G).mem_iff.mp)) (by omega) (by omega)
    walk_at "ev"
    refine ⟨D, D2, _, _, rfl, rfl, sql h45, sql h5, szl (by rw [List.length_map, List.length_map, List.length_map, List.length_map]; omega), fun w' nw => ?_⟩
    have sw := same_new (o := .lst (((srtR R).map rdS).map V.str ++ ((srtR G).map ringS).map V.str)) nw
    refine ⟨_, w', (srtR R).map rdS ++ (srtR G).map ringS, rfl, rfl, .inl (sql (by rw [List.map_append]; exact upd_same)), w2, ?_⟩
    rw [← w1]
    exact q _ (s.trans (s2.trans (s3.trans (s4.trans (s5.trans sw)))))
end
end V15
namespace V15
open PySem PySem.Spec PyProof.Rows L2 Vf
section
variable {P : Program} {w : World} {K : PySem.W.Frag} {mg : Str → Option Value} {base : Heap}
theorem ok__ends_by_word {f : Addr} {fd : FuncData} (F : Fun K "_ends_by_word" "_ends_by_word" s__ends_by_word f fd) (m_str : mg "str" = none) (m_range : mg "range" = none) : FnOk P w K mg base CX0 1 f fd ["pieces"] (sp__ends_by_word K) := by
  refine F.ok sc__ends_by_word (fun vs H Q E h => ?_) (fun cdv A outer s H vs Q E hr h => ?_)
  · obtain ⟨_, rfl, _⟩ := h
    rfl
  · have hu := hu_of hr
    obtain ⟨n, rfl, n1, n60, q⟩ := h
    refine ⟨_, (pss_one (ps_ret (pe_dc (own := [("end", 1)]) rfl sc__ends_by_word.nd (pi_range2 (by rfl) m_range (pa_cons (pe_un un_neg (pv 0)) (pa_cons (pe_op op_add (pv 0) pe_int) pa_nil))) (blkOk_by (own := [("end", 1)]) (N := N__ends_by_word) (sc := defScope s__ends_by_word) (by decide +kernel)) (fun _ _ _ _ _ => (pg_name (i := 1) sc__ends_by_word.nd rfl (Or.inl rfl))) (fun _ _ _ _ _ => pts_one (pt_cmpR op_ne (pv 1) pe_int (nomark _))) (fun _ _ _ _ _ => (pe_callTy strK (by rfl) m_str (by decide +kernel) (pa_cons (pv 1) pa_nil))) (fun _ _ _ _ _ => (pv 1))))), ?_⟩
    walk_at "ev"
    refine ⟨⟨by omega, by omega, by omega, by omega⟩, fun D nD => ?_⟩
    refine r_dcS seq_range (fun dn H' => Same H H' ∧ ∃ E1 : List (Key × V), H' D = some (.dK E1) ∧ E1.length ≤ dn.length ∧ ∀ e, e ∈ dn → e ≠ 0 → valV E1 (Sum.inr (nS e) : Key) = some (.int e)) ⟨same_new nD, [], upd_same, by simp, fun e h => nomatch h⟩ (fun _ _ _ => trivial) ?_ ?_
    · rintro dn x rr v H2 e rfl ⟨s2, E1, hE, lE, hv⟩
      have hk : x ∈ rng (-n) (n + 1 - -n).toNat := by rw [e]; simp
      have hk := mem_rng.mp hk
      have dl : dn.length < 200 := by have := congrArg List.length e; rw [rng_len] at this; simp at this; omega
      walk_at "ev"
      refine ite2 (fun c => ?_) (fun c => ?_)
      · walk_at "ev"
        have hx : x.natAbs ≤ 60 := by omega
        refine ⟨log_small (by omega), ?_⟩
        walk_at "ev"
        refine ⟨E1, Sum.inr (nS x), rfl, hE, szs (by omega), Vf.Same.set s2 nD, _, upd_same, ?_, fun e he e0 => ?_⟩
        · have := length_putK E1 (Sum.inr (nS x) : Key) (.int x)
          rw [List.length_append, List.length_singleton]; omega
        · rw [valV_put]
          by_cases z : e = x
          · rw [z, if_pos rfl]
          · rw [if_neg (fun k => z (by injection k with k; exact nS_inj k))]
            rcases List.mem_append.mp he with he | he
            · exact hv e he e0
            · exact absurd (List.mem_singleton.mp he) z
      · have x0 : x = 0 := by simpa using c
        refine ⟨s2, E1, hE, by rw [List.length_append]; omega, fun e he e0 => ?_⟩
        rcases List.mem_append.mp he with he | he
        · exact hv e he e0
        · exact absurd ((List.mem_singleton.mp he).trans x0) e0
    rintro H2 ⟨s2, E1, hE, lE, hv⟩
    refine q D H2 E1 (fun e he => ?_) s2 nD hE
    have he := mem_endsL.mp he
    exact hv e (mem_rng.mpr (by omega)) he.2.2
end
end V15
namespace V15
open PySem PySem.Spec PyProof.Rows L2 Vf
section
variable {P : Program} {w : World} {K : PySem.W.Frag} {mg : Str → Option Value} {base : Heap}
theorem ok__check_string {f : Addr} {fd : FuncData} (F : Fun K "_check_string" "_check_string" s__check_string f fd) (m_isinstance : mg "isinstance" = none) (m_str : mg "str" = none) (F_InvalidText : NewF P w K mg base "InvalidText" "part") : FnG P w K mg base (L2.CX P w) 3 f fd ["text"] (sp__check_string K) := by
  refine okG F sc__check_string (fun vs H Q E h => ?_) (fun cdv A outer s H vs Q E hr hgd h => ?_)
  · obtain ⟨_, rfl, _⟩ := h
    rfl
  · have hu := hu_of hr
    obtain ⟨x, rfl, q⟩ := h
    refine ⟨_, (pss_one (ps_if (pt_not (pt_val (pe_callB (isiK (K := K)) (by rfl) m_isinstance (by decide +kernel) (pa_cons (pv 0) (pa_cons (pe_bltn (v := .ty "str") (by rfl) m_str (by decide +kernel) rfl) pa_nil))))) (pss_one (ps_raise rfl (takes_of (E := E) rfl rfl rfl rfl) (pmk_F F_InvalidText (hr.mono (by decide)) pe_non))) pss_nil)), ?_⟩
    walk_at "ev"
    refine r_isD (.str x) (by simp) ?_
    rw [show isD "str" (PyData.str x) = true from rfl]
    walk_at "ev"
    exact q
end
end V15
namespace V15
open PySem PySem.Spec PyProof.Rows L2 Vf
section
variable {P : Program} {w : World} {K : PySem.W.Frag} {mg : Str → Option Value} {base : Heap}
theorem ok_read_layout {f : Addr} {fd : FuncData} (F : Fun K "read_layout" "read_layout" s_read_layout f fd) (D_check_pieces : DefR P w K mg base 2 "check_pieces" ["pieces"] (sp_check_pieces K)) (D__check_string : DefR P w K mg base 3 "_check_string" ["text"] (sp__check_string K)) (D__ends_by_word : Def P w K mg base 1 "_ends_by_word" ["pieces"] (sp__ends_by_word K)) (D_couplings_along : Def P w K mg base 1 "couplings_along" ["numbers"] (sp_couplings_along K)) (m_enumerate : mg "enumerate" = none) (m_sorted : mg "sorted" = none) (m_abs : mg "abs" = none) (F_InvalidText : NewF P w K mg base "InvalidText" "part") : FnG P w K mg base (L2.CX P w) 4 f fd ["pieces", "text"] (sp_read_layout K) := by
  refine okGc F sc_read_layout (fun vs H Q E h => ?_) (fun cdv A outer s H vs Q E hr hgd hcd h => ?_)
  · obtain ⟨_, _, _, rfl, _⟩ := h
    rfl
  · have hu := hu_of hr
    obtain ⟨n, PP, L, rfl, hL, ok, q⟩ := h
    refine ⟨_, (pss_cons (ps_expr (pe_defR D_check_pieces (E := E) (passes_call (takes_of (E := E) rfl rfl rfl rfl) fun _ _ _ _ z => z) (hr.mono (by decide)) hgd (pa_cons (pv 0) pa_nil)))
        (pss_cons (ps_expr (pe_defR D__check_string (E := E) (passes_call (takes_of (E := E) rfl rfl rfl rfl) fun _ _ _ _ z => z) (hr.mono (by decide)) hgd (pa_cons (pv 1) pa_nil)))
        (pss_cons (ps_if (pt_cmpR op_eq (pv 1) pe_str (nomark _)) (pss_one (ps_ret (pe_lst pa_nil))) pss_nil)
        (pss_cons (ps_set (i := 2) sc_read_layout.nd rfl (Or.inr rfl) (pe_def D__ends_by_word (hr.mono (by decide)) (pa_cons (pv 0) pa_nil)))
        (pss_cons (ps_set (i := 3) sc_read_layout.nd rfl (Or.inl rfl) (pe_lst pa_nil))
        (pss_cons (ps_set (i := 4) sc_read_layout.nd rfl (Or.inl rfl) (pe_setOne hcd pe_int))
        (pss_cons (ps_for (passes_of rfl) rfl (pi_enum (by rfl) m_enumerate (pa_cons (pe_split (pv 1) pe_str) pa_nil)) (pg_tup rfl (pgs_cons (pg_name (i := 5) sc_read_layout.nd rfl (Or.inl rfl)) (pgs_cons (pg_name (i := 6) sc_read_layout.nd rfl (Or.inl rfl)) pgs_nil)))
          (pss_cons (ps_set (i := 7) sc_read_layout.nd rfl (Or.inl rfl) (pe_and (pe_m1 PySem.F.slot_str_startswith PySem.F.type_str_startswith mt_startswith (pv 6) pe_str) (pe_one (pe_m1 PySem.F.slot_str_endswith PySem.F.type_str_endswith mt_endswith (pv 6) pe_str))))
        (pss_cons (ps_set (i := 8) sc_read_layout.nd rfl (Or.inl rfl) (pe_ifExp (pt_val (pv 7)) (pe_slice sl_str (pv 6) (po_some pe_int) (po_some (pe_un un_neg pe_int))) (pv 6)))
        (pss_cons (ps_setLc (i := 9) (own := [("word", 11)]) rfl sc_read_layout.nd rfl rfl (sw_true rfl rfl rfl (by decide +kernel)) (pi_list (pe_split (pv 8) pe_str)) (blkOk_by (own := [("word", 11)]) (N := N_read_layout) (sc := defScope s_read_layout) (by decide +kernel)) (fun _ _ _ _ _ => (pg_name (i := 11) sc_read_layout.nd rfl (Or.inl rfl))) (fun _ _ _ _ _ => pts_nil) (fun _ _ _ _ _ => (pe_dget2 hu (pv 2) (pv 11) pe_int ⟨rfl, rfl, rfl, rfl⟩)))
        (pss_cons (ps_for (passes_of rfl) rfl (pi_list (pv 9)) (pg_name (i := 10) sc_read_layout.nd rfl (Or.inl rfl))
          (pss_cons (ps_if (pt_cmpR or_sin (pe_callB call_abs (by rfl) m_abs (by decide +kernel) (pa_cons (pv 10) pa_nil)) (pv 4) rfl) (pss_one (ps_raise rfl (takes_of (E := E) rfl rfl rfl rfl) (pmk_F F_InvalidText (hr.mono (by decide)) (pv 5)))) pss_nil)
        (pss_one (ps_expr (pe_sadd (pv 4) (pa_cons (pe_callB call_abs (by rfl) m_abs (by decide +kernel) (pa_cons (pv 10) pa_nil)) pa_nil))))))
        (pss_one (ps_expr (pe_bm PySem.F.plainAttrs_list PySem.F.slot_list_extend PySem.F.type_list_extend mt_extend (pv 3) (pa_cons (pe_def D_couplings_along (hr.mono (by decide)) (pa_cons (pe_ifExp (pt_val (pv 7)) (pe_op (catK (K := K)) (pv 9) (pe_slice (slK (K := K)) (pv 9) po_none (po_some pe_int))) (pv 9)) pa_nil)) pa_nil)))))))))
        (pss_one (ps_ret (pe_callB (sortedK (K := K)) (by rfl) m_sorted (by decide +kernel) (pa_cons (pv 3) pa_nil))))))))))), ?_⟩
    have n1 := hL.n1
    have n60 := hL.n60
    walk_at "ev"
    refine ⟨.int n, .int n, rfl, .int n, fun m hm => ?_, fun e => (by rw [pieces_int n1 n60] at e; cases e)⟩
    walk_at "ev"
    refine ite2 (fun c => ?_) (fun c => ?_)
    · have hP : PP = [] := Decidable.byContradiction fun z => beq_eq_false_iff_ne.mp (txt_ne z ok.ne) (of_decide_eq_true c)
      subst hP
      have eL : L = [] := List.perm_nil.mp ok.cp.symm
      subst eL
      walk_at "ev"
      exact ⟨szl (by show 0 ≤ 100000; decide), fun p np => q p [] _ (same_new np) np upd_same .nil⟩
    have hP : PP ≠ [] := fun z => by subst z; exact c (decide_eq_true txt_nil)
    have sp := split_txt hP
    have len := txt_len (P := PP) fun p hp x hx => by
      have := ok.rg x (List.mem_flatMap.mpr ⟨p, hp, hx⟩)
      unfold ab at this; omega
    walk_at "ev"
    refine ⟨n1, n60, fun d H1 D hD s1 nd hd => ?_⟩
    walk_at "ev"; walk_at "nw"; rename_i l nl H2 s2 hl
    walk_at "ev"
    refine r_setOne (i := 0) (fun _ _ h => h) fun sd H3 nsd s3 hsd => ?_
    have sdl : sd ≠ l := fun z => by rw [z, hl] at nsd; cases nsd
    have hl3 := s3 _ _ hl
    have hd3 := (s2.trans s3) _ _ hd
    have s03 := s1.trans (s2.trans s3)
    have nlH := s1.free nl
    have nsdH := (s1.trans s2).free nsd
    have pl := partL_eq PP
    have many := ok.many
    have flen := ok.len
    walk_at "ev"
    refine ⟨⟨_, rfl⟩, ?_⟩
    walk_at "ev"
    refine ⟨_, _, rfl, rfl, by decide, szl (by omega), fun qa nqa => ?_⟩
    rw [sp]
    have s4 := same_new (o := .lst ((PP.map partS).map V.str)) nqa
    have hqa : upd H3 qa (.lst ((PP.map partS).map V.str)) qa = some (.lst ((PP.map partS).map V.str)) := upd_same
    have ql : qa ≠ l := fun z => by rw [z, hl3] at nqa; cases nqa
    have qs : qa ≠ sd := fun z => by rw [z, hsd] at nqa; cases nqa
    have hl4 := s4 _ _ hl3
    have hsd4 := s4 _ _ hsd
    have s14 := s2.trans (s3.trans s4)
    have nsd1 := s2.free nsd
    generalize upd H3 qa (.lst ((PP.map partS).map V.str)) = H4 at s4 hqa hl4 hsd4 s14 ⊢
    walk_at "ev"
    refine ⟨qa, _, rfl, sql hqa, ?_⟩
    have hxs : Paired (fun v (p : Bool × List Int) => v = V.str (partS p)) ((PP.map partS).map V.str) PP := by rw [List.map_map]; exact pair_map fun _ _ => rfl
    refine r_forE (bk := fun _ _ => False) (ct := fun _ _ => False) hxs (fun dn σ H' => ∃ y5 y6 y7 y8 y9 y10 y11 zs, ∃ (S : Int → Bool) (m : Nat), σ = [some (.int n), some (.str (txtP PP)), some (.ref d), some (.ref l), some (.ref sd), y5, y6, y7, y8, y9, y10, y11] ∧ Same H1 H' ∧ H' qa = some (.lst ((PP.map partS).map V.str)) ∧ H' l = some (.lst zs) ∧ Prs H' zs (dn.flatMap cpP) ∧ H' sd = some (SetO w sd S m) ∧ m ≤ 1 + (dn.flatMap (·.2)).length ∧ ∀ k, S k = true ↔ k = 0 ∨ k ∈ (dn.flatMap (·.2)).map ab) ⟨_, _, _, _, _, _, _, [], _, 1, rfl, s14, hqa, hl4, .nil, hsd4, Nat.le_refl _, fun k => by simp⟩ (fun _ _ _ ⟨_, _, _, _, _, _, _, _, _, _, _, _, h, _⟩ => sql h) ?_ ?_
    · rintro dn p rr x T σ H5 e hx rfl ⟨y5, y6, y7, y8, y9, y10, y11, zs, S, m, rfl, s5, hqa5, hl5, hz5, hS5, hm5, iff5⟩ nT
      have sT := same_new (o := .tup [.int (dn.length : Nat), .str (partS p)]) nT
      have hT : upd H5 T (.tup [.int (dn.length : Nat), .str (partS p)]) T = some (.tup [.int (dn.length : Nat), .str (partS p)]) := upd_same
      generalize upd H5 T (.tup [.int (dn.length : Nat), .str (partS p)]) = H6 at sT hT ⊢
      have s6 := s5.trans sT
      have hp : p ∈ PP := by rw [e]; simp
      have ne := ok.ne p hp
      have sl := len.2.2 p hp
      have p60 : p.2.length ≤ 60 := by
        rw [e, List.flatMap_append, List.flatMap_cons, List.length_append, List.length_append] at flen; omega
      obtain ⟨b, r⟩ := p
      refine r_gtup (sqt hT) rfl ?_
      have hd6 := s6 _ _ hd
      have hqa6 := sT _ _ hqa5
      have hl6 := sT _ _ hl5
      have hS6 := sT _ _ hS5
      have hz6 := hz5.mono sT
      walk_at "evS"
      refine r_seqJ (fun σ' H' => H6 = H' ∧ σ' = [some (.int n), some (.str (txtP PP)), some (.ref d), some (.ref l), some (.ref sd), some (.int (dn.length : Nat)), some (.str (partS (b, r))), some (.bl b), y8, y9, y10, y11]) (fun nx' k => ?_) ?_
      · walk_at "ev"
        refine ⟨⟨_, rfl⟩, ?_⟩
        walk_at "ev"
        refine ⟨_, _, rfl, rfl, _, rfl, ?_⟩
        cases b with
        | true =>
          rw [show partS (true, r) = ringS r from rfl, starts_ring]
          refine L2.iteT ?_
          walk_at "ev"
          refine ⟨⟨_, rfl⟩, ?_⟩
          walk_at "ev"
          refine ⟨_, _, rfl, rfl, ?_⟩
          rw [ends_ring]
          walk_at "ev"
          exact k _ _ ⟨rfl, rfl⟩
        | false =>
          rw [show partS (false, r) = rdS r from rfl, starts_row ne]
          refine L2.iteF ?_
          walk_at "ev"
          exact k _ _ ⟨rfl, rfl⟩
      rintro _ _ ⟨rfl, rfl⟩
      refine r_seqJ (fun σ' H' => H6 = H' ∧ σ' = [some (.int n), some (.str (txtP PP)), some (.ref d), some (.ref l), some (.ref sd), some (.int (dn.length : Nat)), some (.str (partS (b, r))), some (.bl b), some (.str (rdS r)), y9, y10, y11]) (fun nx' k => ?_) ?_
      · walk_at "ev"
        cases b with
        | true =>
          refine L2.iteT ?_
          walk_at "ev"
          rw [show cutS (partS (true, r)) (some 1) (some (-1)) = rdS r from cut_ring r]
          exact ⟨szl (by omega), k _ _ ⟨rfl, rfl⟩⟩
        | false =>
          refine L2.iteF ?_
          walk_at "ev"
          exact k _ _ ⟨rfl, rfl⟩
      rintro _ _ ⟨rfl, rfl⟩
      have rg : ∀ x ∈ r, 1 ≤ ab x ∧ ab x ≤ n := fun x hx => ok.rg x (List.mem_flatMap.mpr ⟨(b, r), hp, hx⟩)
      have r60 : ∀ x ∈ r, x.natAbs ≤ 60 := fun x hx => by have := rg x hx; unfold ab at this; omega
      have rl := (rdS_len r60).1
      have p60 : r.length ≤ 60 := p60
      walk_at "ev"
      refine ⟨⟨_, rfl⟩, ?_⟩
      walk_at "ev"
      refine ⟨_, _, rfl, rfl, by decide, szl (by omega), fun qb nqb => ?_⟩
      rw [split_rd ne]
      have s7 := same_new (o := .lst ((r.map nS).map V.str)) nqb
      have hqb : upd H6 qb (.lst ((r.map nS).map V.str)) qb = some (.lst ((r.map nS).map V.str)) := upd_same
      generalize upd H6 qb (.lst ((r.map nS).map V.str)) = H7 at s7 hqb ⊢
      have hd7 := s7 _ _ hd6
      walk_at "ev"
      refine ⟨⟨_, sql hqb⟩, fun D2 nD2 => ?_⟩
      have hws : Paired (fun v (x : Int) => v = V.str (nS x)) ((r.map nS).map V.str) r := by rw [List.map_map]; exact pair_map fun _ _ => rfl
      refine r_lcP (seq_list hws) (fun _ => true) (fun x => .int x) (by omega) nD2 (fun _ s => s.seq (sql hqb)) ?_ ?_
      · intro x v H8 acc hx hv s8 ha8 hz N h1 h2
        subst hv
        walk_at "ev"
        refine ⟨.inl ⟨_, .inl (s8 _ _ hd7)⟩, ?_⟩
        walk_at "ev"
        refine ⟨_, DGet.k (k := .inr (nS x)) (s8 _ _ hd7), ?_⟩
        rw [hD x (mem_endsL.mpr (by have := rg x hx; unfold ab at this; omega))]
        exact ⟨acc, ha8, hz, h1 rfl⟩
      rw [filt_t]
      have s8 := same_new (o := .lst (r.map V.int)) nD2
      have hD2 : upd H7 D2 (.lst (r.map V.int)) D2 = some (.lst (r.map V.int)) := upd_same
      change upd H7 D2 (.lst (r.map V.int)) D2 = some (.lst (r.map V.int)) at hD2
      generalize upd H7 D2 (.lst (r.map V.int)) = H8 at s8 hD2 ⊢
      have s68 := s7.trans s8
      have s18 := s6.trans s68
      have hqa8 := s68 _ _ hqa6
      have hl8 := s68 _ _ hl6
      have hS8 := s68 _ _ hS6
      have hz8 := hz6.mono s68
      have D2l : D2 ≠ l := fun z => by rw [z, s7 _ _ hl6] at nD2; cases nD2
      have D2s : D2 ≠ sd := fun z => by rw [z, s7 _ _ hS6] at nD2; cases nD2
      walk_at "ev"
      refine ⟨⟨_, sql hD2⟩, ?_⟩
      refine r_forS (bk := fun _ _ => False) (ct := fun _ _ => False) (seq_list (K := K) (a := D2) (rel := fun v (e : Int) => v = .int e) (L := r) (pair_map fun _ _ => rfl)) (fun dm σ H' => ∃ y10 y11, ∃ (S : Int → Bool) (m : Nat), σ = [some (.int n), some (.str (txtP PP)), some (.ref d), some (.ref l), some (.ref sd), some (.int (dn.length : Nat)), some (.str (partS (b, r))), some (.bl b), some (.str (rdS r)), some (.ref D2), y10, y11] ∧ Same H1 H' ∧ H' qa = some (.lst ((PP.map partS).map V.str)) ∧ H' l = some (.lst zs) ∧ Prs H' zs (dn.flatMap cpP) ∧ H' D2 = some (.lst (r.map V.int)) ∧ H' sd = some (SetO w sd S m) ∧ m ≤ 1 + (dn.flatMap (·.2) ++ dm).length ∧ ∀ k, S k = true ↔ k = 0 ∨ k ∈ (dn.flatMap (·.2) ++ dm).map ab) ⟨_, _, S, m, rfl, s18, hqa8, hl8, hz8, hD2, hS8, by rw [List.append_nil]; exact hm5, fun k => by rw [List.append_nil]; exact iff5 k⟩ (fun _ _ _ ⟨_, _, _, _, _, _, _, _, _, h, _⟩ => sql h) ?_ ?_
      · rintro dm x rm v σ H9 em rfl ⟨y10, y11, S9, m9, rfl, s9, hqa9, hl9, hz9, hD9, hS9, hm9, iff9⟩
        have ml : dm.length < r.length := by have := congrArg List.length em; simp at this; omega
        have fl9 : (dn.flatMap (·.2)).length ≤ 60 := by
          rw [e, List.flatMap_append, List.length_append] at flen; omega
        rw [List.length_append] at hm9
        have xg := rg x (by rw [em]; simp)
        have new : ab x ∉ (dn.flatMap (·.2) ++ dm).map ab := by
          have nd := ok.nd
          rw [e, List.flatMap_append, List.flatMap_cons] at nd
          have : dn.flatMap (·.2) ++ (r ++ rr.flatMap (·.2)) = (dn.flatMap (·.2) ++ dm) ++ x :: (rm ++ rr.flatMap (·.2)) := by rw [em]; simp
          rw [show (b, r).2 = r from rfl, this, List.map_append, List.map_cons] at nd
          exact fun z => (List.nodup_append.mp nd).2.2 _ z _ (by simp) rfl
        have ns : S9 (ab x) = false := by
          cases z : S9 (ab x) with
          | false => rfl
          | true =>
            rcases (iff9 _).mp z with z | z
            · omega
            · exact absurd z new
        walk_at "ev"
        rw [show (if x < 0 then -x else x) = ab x by unfold ab; split <;> omega, ns]
        refine L2.iteF ?_
        walk_at "ev"
        refine ⟨⟨sd, S9, m9, rfl, hS9⟩, ?_⟩
        walk_at "ev"
        refine ⟨sd, _, S9, m9, rfl, rfl, hS9, Nat.lt_of_le_of_lt (show m9 + 1 ≤ 200 by omega) (by decide), ?_⟩
        rw [show (if x < 0 then -x else x) = ab x by unfold ab; split <;> omega]
        have sne : ∀ {y : Addr} {o : HO}, H9 y = some o → y ≠ sd → upd H9 sd (SetO w sd (fun j => S9 j || decide (j = ab x)) (if S9 (ab x) = true then m9 else m9 + 1)) y = some o := fun h ne => (upd_ne ne).trans h
        refine ⟨_, _, _, _, rfl, Vf.Same.set s9 nsd1, sne hqa9 qs, sne hl9 sdl.symm, Prs.but but_upd hS9 (fun _ z => nomatch z) hz9, sne hD9 D2s, upd_same, ?_, fun k => ?_⟩
        · rw [List.length_append, List.length_append, List.length_singleton]; split <;> omega
        · rw [← List.append_assoc, List.map_append, List.mem_append, List.map_cons, List.map_nil, List.mem_singleton, Bool.or_eq_true, iff9 k, decide_eq_true_eq, or_assoc]
      rintro σ H9 ⟨y10, y11, S9, m9, rfl, s9, hqa9, hl9, hz9, hD9, hS9, hm9, iff9⟩
      have zl := pair_len hz9
      have cl : (dn.flatMap cpP).length + (cpP (b, r)).length ≤ 60 := by
        have := ok.cp.length_eq
        have := hL.len
        rw [e, List.flatMap_append, List.flatMap_cons, List.length_append, List.length_append] at *
        omega
      walk_at "ev"
      refine ⟨tyL hl9, ?_⟩
      have fin : ∀ {Hb : Hp} {ws : List V}, Same H9 Hb → Prs Hb ws (cpP (b, r)) → ∃ y5 y6 y7 y8 y9 y10' y11' zs', ∃ (S : Int → Bool) (m : Nat), [some (V.int n), some (.str (txtP PP)), some (.ref d), some (.ref l), some (.ref sd), some (.int (dn.length : Nat)), some (.str (partS (b, r))), some (.bl b), some (.str (rdS r)), some (.ref D2), y10, y11] = [some (.int n), some (.str (txtP PP)), some (.ref d), some (.ref l), some (.ref sd), y5, y6, y7, y8, y9, y10', y11'] ∧ Same H1 (upd Hb l (.lst (zs ++ ws))) ∧ upd Hb l (.lst (zs ++ ws)) qa = some (.lst ((PP.map partS).map V.str)) ∧ upd Hb l (.lst (zs ++ ws)) l = some (.lst zs') ∧ Prs (upd Hb l (.lst (zs ++ ws))) zs' ((dn ++ [(b, r)]).flatMap cpP) ∧ upd Hb l (.lst (zs ++ ws)) sd = some (SetO w sd S m) ∧ m ≤ 1 + ((dn ++ [(b, r)]).flatMap (·.2)).length ∧ ∀ k, S k = true ↔ k = 0 ∨ k ∈ ((dn ++ [(b, r)]).flatMap (·.2)).map ab := fun {Hb ws} sb hw => by
        have e1 : (dn ++ [(b, r)]).flatMap cpP = dn.flatMap cpP ++ cpP (b, r) := by rw [List.flatMap_append, List.flatMap_cons, List.flatMap_nil, List.append_nil]
        have e2 : (dn ++ [(b, r)]).flatMap (·.2) = dn.flatMap (·.2) ++ r := by rw [List.flatMap_append, List.flatMap_cons, List.flatMap_nil, List.append_nil]
        rw [e1, e2]
        exact ⟨_, _, _, _, _, _, _, zs ++ ws, S9, m9, rfl, Vf.Same.set (s9.trans sb) nl, (upd_ne ql).trans (sb _ _ hqa9), upd_same, Prs.but but_upd (sb _ _ hl9) (fun _ z => nomatch z) (pair_app (hz9.mono sb) hw), (upd_ne sdl).trans (sb _ _ hS9), hm9, iff9⟩
      walk_at "ev"
      cases b with
      | true =>
        refine L2.iteT ?_
        walk_at "ev"
        refine ⟨D2, _, rfl, sql hD9, fun u nu => ?_⟩
        rw [cut_t1, ← List.map_take]
        have su := same_new (o := .lst ((r.take 1).map V.int)) nu
        have hu' : upd H9 u (.lst ((r.take 1).map V.int)) u = some (.lst ((r.take 1).map V.int)) := upd_same
        generalize upd H9 u (.lst ((r.take 1).map V.int)) = Ha at su hu' ⊢
        walk_at "ev"
        refine ⟨D2, u, _, _, rfl, rfl, sql (su _ _ hD9), sql hu', szl (by rw [List.length_map, List.length_map, List.length_take]; omega), fun w' nw => ?_⟩
        rw [← List.map_append]
        have sw := same_new (o := .lst ((r ++ r.take 1).map V.int)) nw
        have hw : upd Ha w' (.lst ((r ++ r.take 1).map V.int)) w' = some (.lst ((r ++ r.take 1).map V.int)) := upd_same
        generalize upd Ha w' (.lst ((r ++ r.take 1).map V.int)) = Hb at sw hw ⊢
        walk_at "ev"
        refine ⟨w', r ++ r.take 1, rfl, hw, by rw [List.length_append, List.length_take]; omega, fun p ys Hc sc np hp hys => ?_⟩
        rw [ringC_tk] at hys
        have yl := pair_len hys
        have s9c := su.trans (sw.trans sc)
        have cl : (dn.flatMap cpP).length + (ringC r).length ≤ 60 := cl
        walk_at "ev"
        refine ⟨l, p, zs, ys, rfl, rfl, s9c _ _ hl9, hp, szl (by omega), ?_⟩
        exact fin s9c hys
      | false =>
        refine L2.iteF ?_
        walk_at "ev"
        refine ⟨D2, r, rfl, hD9, by omega, fun p ys Hc sc np hp hys => ?_⟩
        have yl := pair_len hys
        have cl : (dn.flatMap cpP).length + (steps r).length ≤ 60 := cl
        walk_at "ev"
        refine ⟨l, p, zs, ys, rfl, rfl, sc _ _ hl9, hp, szl (by omega), ?_⟩
        exact fin sc hys
    rintro σ H5 ⟨y5, y6, y7, y8, y9, y10, y11, zs, S, m, rfl, s5, hqa5, hl5, hz5, hS5, hm5, iff5⟩
    walk_at "ev"
    refine r_sortedP (sql hl5) hz5 (ok.cp.nodup_iff.mpr (nd_of_flat hL.nd)) fun us N p pm asc hN np => ?_
    have eN : N = L := asc_uniq asc hL.asc (pm.trans ok.cp)
    subst eN
    exact q p us _ ((s1.trans s5).trans (same_new np)) ((s1.trans s5).free np) upd_same (hN.mono (same_new np))
end
end V15
namespace V15
open PySem PySem.Spec PyProof.Rows L2 Vf
section
variable {P : Program} {w : World} {K : PySem.W.Frag} {mg : Str → Option Value} {base : Heap}
theorem ok__law_tap {f : Addr} {fd : FuncData} (F : Fun K "_law_tap" "_law_tap" s__law_tap f fd) (m_int : mg "int" = none) (m_abs : mg "abs" = none) : FnOk P w K mg base CX0 1 f fd ["cell", "turn"] (sp__law_tap K) := by
  refine F.ok sc__law_tap (fun vs H Q E h => ?_) (fun cdv A outer s H vs Q E hr h => ?_)
  · obtain ⟨_, _, rfl, _⟩ := h
    rfl
  · have hu := hu_of hr
    obtain ⟨c, k, rfl, k0, k1, q⟩ := h
    refine ⟨_, (pss_cons (ps_set (i := 2) sc__law_tap.nd rfl (Or.inl rfl) (pe_op op_add (pe_op op_mul pe_int (pe_callB call_abs (by rfl) m_abs (by decide +kernel) (pa_cons (pv 0) pa_nil))) (pe_callTy call_int1 (by rfl) m_int (by decide +kernel) (pa_cons (pe_cmpR op_lt (pv 0) pe_int (nomark _)) pa_nil))))
        (pss_one (ps_ret (pe_lst (pa_cons (pv 2) (pa_cons (pe_op op_add (pe_op op_add (pe_op op_modN (pe_callTy call_int1 (by rfl) m_int (by decide +kernel) (pa_cons (pv 2) pa_nil)) pe_int) (pe_op op_mul pe_int (pv 1))) pe_int) (pa_cons (pe_op op_add (pe_op op_add (pe_op op_modN (pe_callTy call_int1 (by rfl) m_int (by decide +kernel) (pa_cons (pv 2) pa_nil)) pe_int) (pe_op op_mul pe_int (pv 1))) pe_int) pa_nil))))))), ?_⟩
    walk_at "ev"
    generalize hw : 2 * (if c < 0 then -c else c) + (if decide (c < 0) = true then 1 else 0) = W
    have w0 : 0 ≤ W := by
      rw [← hw]
      by_cases e : c < 0
      · rw [if_pos e, if_pos (decide_eq_true e)]; omega
      · rw [if_neg e, if_neg (by simpa using e)]; omega
    refine ⟨szl (by show 3 ≤ 100000; decide), fun p np => ?_⟩
    have e1 := fm W 4294967291 (by decide)
    have e2 := fm W 2147483587 (by decide)
    exact q p _ (same_new np) np ⟨_, _, _, upd_same, w0, by omega, by omega, by omega⟩
end
end V15
namespace V15
open PySem PySem.Spec PyProof.Rows L2 Vf
section
variable {P : Program} {w : World} {K : PySem.W.Frag} {mg : Str → Option Value} {base : Heap}
theorem ok__law_draw {f : Addr} {fd : FuncData} (F : Fun K "_law_draw" "_law_draw" s__law_draw f fd) (m_int : mg "int" = none) : FnOk P w K mg base CX0 1 f fd ["tap", "bound"] (sp__law_draw K) := by
  refine F.ok sc__law_draw (fun vs H Q E h => ?_) (fun cdv A outer s H vs Q E hr h => ?_)
  · obtain ⟨_, _, rfl, _⟩ := h
    rfl
  · have hu := hu_of hr
    obtain ⟨t, n, rfl, ⟨a, b, c, ht, a0, b0, c0, c1⟩, n0, n1, q⟩ := h
    refine ⟨_, (pss_cons (ps_if (pt_cmpR op_ge (pe_ix (ixL (K := K)) (pv 0) pe_int (fun _ _ => rfl)) (pe_op op_powW pe_int pe_int) (nomark _)) (pss_cons (ps_set (i := 2) sc__law_draw.nd rfl (Or.inl rfl) (pe_op op_modN (pe_callTy call_int1 (by rfl) m_int (by decide +kernel) (pa_cons (pe_ix (ixL (K := K)) (pv 0) pe_int (fun _ _ => rfl)) pa_nil)) (pv 1)))
        (pss_cons (ps_asg (pe_op op_fdivN (pe_ix (ixL (K := K)) (pv 0) pe_int (fun _ _ => rfl)) (pv 1)) (pg_sub (pv 0) pe_int set_list))
        (pss_one (ps_ret (pv 2))))) pss_nil)
        (pss_cons (ps_asg (pe_op op_modN (pe_callTy call_int1 (by rfl) m_int (by decide +kernel) (pa_cons (pe_op op_add (pe_op op_mul (pe_ix (ixL (K := K)) (pv 0) pe_int (fun _ _ => rfl)) pe_int) pe_int) pa_nil)) pe_int) (pg_sub (pv 0) pe_int set_list))
        (pss_cons (ps_asg (pe_op op_modN (pe_callTy call_int1 (by rfl) m_int (by decide +kernel) (pa_cons (pe_op op_add (pe_op op_mul (pe_ix (ixL (K := K)) (pv 0) pe_int (fun _ _ => rfl)) (pe_ix (ixL (K := K)) (pv 0) pe_int (fun _ _ => rfl))) (pe_ix (ixL (K := K)) (pv 0) pe_int (fun _ _ => rfl))) pa_nil)) pe_int) (pg_sub (pv 0) pe_int set_list))
        (pss_one (ps_ret (pe_op op_modN (pe_callTy call_int1 (by rfl) m_int (by decide +kernel) (pa_cons (pe_op op_add (pe_op op_fdivN (pe_ix (ixL (K := K)) (pv 0) pe_int (fun _ _ => rfl)) pe_int) (pe_op op_fdivN (pe_ix (ixL (K := K)) (pv 0) pe_int (fun _ _ => rfl)) pe_int)) pa_nil)) (pv 1))))))), ?_⟩
    have nz : n ≠ 0 := by omega
    have nb : CDivN a n := ⟨nz, by omega⟩
    have hS : SqL K H t [.int a, .int b, .int c] := .inl (.inl ht)
    walk_at "ev"
    refine ite2 (fun _ => ?_) (fun _ => ?_)
    · walk_at "ev"
      have e1 := fm a n n0
      exact q _ _ e1.1 e1.2 (fun b e => upd_ne e) ⟨_, _, _, upd_same, Int.fdiv_nonneg a0 (by omega), b0, c0, c1⟩
    · walk_at "ev"
      have e1 := fm (b * 69069 + 40503) 4294967291 (by decide)
      generalize (b * 69069 + 40503).fmod 4294967291 = b' at e1 ⊢
      have s0 : upd H t (.lst ([.int a, .int b, .int c].set (Int.toNat 1) (.int b'))) t = some (.lst [.int a, .int b', .int c]) := upd_same
      generalize h1 : upd H t (.lst ([.int a, .int b, .int c].set (Int.toNat 1) (.int b'))) = H1 at s0 ⊢
      have s1 : SqL K H1 t [.int a, .int b', .int c] := .inl (.inl s0)
      walk_at "ev"
      have e2 := fm (c * c + b') 2147483587 (by decide)
      generalize (c * c + b').fmod 2147483587 = c' at e2 ⊢
      have s2 : upd H1 t (.lst ([.int a, .int b', .int c].set (Int.toNat 2) (.int c'))) t = some (.lst [.int a, .int b', .int c']) := upd_same
      generalize h2 : upd H1 t (.lst ([.int a, .int b', .int c].set (Int.toNat 2) (.int c'))) = H2 at s2 ⊢
      have s3 : SqL K H2 t [.int a, .int b', .int c'] := .inl (.inl s2)
      walk_at "ev"
      have e3 := fm (b'.fdiv 32 + c'.fdiv 16) n n0
      exact q _ _ e3.1 e3.2 (fun b e => by rw [← h2, upd_ne e, ← h1, upd_ne e]) ⟨_, _, _, s2, a0, e1.1, e2.1, by omega⟩
end
end V15
namespace V15
open PySem PySem.Spec PyProof.Rows L2 Vf
section
variable {P : Program} {w : World} {K : PySem.W.Frag} {mg : Str → Option Value} {base : Heap}
theorem ok__law_cells {f : Addr} {fd : FuncData} (F : Fun K "_law_cells" "_law_cells" s__law_cells f fd) (m_max : mg "max" = none) (m_min : mg "min" = none) (m_len : mg "len" = none) : FnOk P w K mg base CX0 1 f fd ["script", "many"] (sp__law_cells K) := by
  refine F.ok sc__law_cells (fun vs H Q E h => ?_) (fun cdv A outer s H vs Q E hr h => ?_)
  · obtain ⟨_, _, _, rfl, _⟩ := h
    rfl
  · have hu := hu_of hr
    obtain ⟨a, ns, m, rfl, hS, hl, m1, m2, q⟩ := h
    refine ⟨_, (pss_one (ps_ret (pe_slice (slK (K := K)) (pe_op (catK (K := K)) (pv 0) (pe_lst (pa_cons pe_int pa_nil))) po_none (po_some (pe_callB (call_max2 rfl) (by rfl) m_max (by decide +kernel) (pa_cons pe_int (pa_cons (pe_callB (call_min2 rfl) (by rfl) m_min (by decide +kernel) (pa_cons (pv 1) (pa_cons (pe_callB (lenK (K := K)) (by rfl) m_len (by decide +kernel) (pa_cons (pv 0) pa_nil)) pa_nil))) pa_nil))))))), ?_⟩
    walk_at "ev"
    refine ⟨szl (by show 1 ≤ 100000; decide), fun b nb => ?_⟩
    have s1 := same_new (o := .lst [.int 0]) nb
    generalize hB : upd H b (.lst [.int 0]) = H1 at s1 ⊢
    have hb : H1 b = some (.lst [.int 0]) := by rw [← hB]; exact upd_same
    refine ⟨a, b, ns.map V.int, _, rfl, rfl, s1.seq hS, sql hb, szl (by rw [List.length_map]; show ns.length + 1 ≤ 100000; omega), fun c nc => ?_⟩
    walk_at "ev"
    have s2 := s1.trans (same_new (o := .lst (ns.map V.int ++ [.int 0])) nc)
    refine ⟨a, ns.map V.int, rfl, .inl (s2.seq hS), ?_⟩
    walk_at "ev"
    refine ⟨c, _, rfl, sql upd_same, fun e ne => ?_⟩
    obtain ⟨cs, h1, h2⟩ := cut_ints (ns ++ [0]) none (some (if (if ((ns.map V.int).length : Int) < m then ((ns.map V.int).length : Int) else m) > 1 then (if ((ns.map V.int).length : Int) < m then ((ns.map V.int).length : Int) else m) else 1))
    rw [List.map_append] at h1
    refine q e _ cs (s2.trans (same_new ne)) (s2.free ne) ?_ (by rw [List.length_append] at h2; show cs.length ≤ 64; have : ([0] : List Int).length = 1 := rfl; omega)
    rw [upd_same, ← h1]
    rfl
end
end V15
namespace V15
open PySem PySem.Spec PyProof.Rows L2 Vf
section
variable {P : Program} {w : World} {K : PySem.W.Frag} {mg : Str → Option Value} {base : Heap}
theorem ok__law_pair {f : Addr} {fd : FuncData} (F : Fun K "_law_pair" "_law_pair" s__law_pair f fd) (m_min : mg "min" = none) (m_max : mg "max" = none) : FnOk P w K mg base CX0 1 f fd ["one", "other"] (sp__law_pair K) := by
  refine F.ok sc__law_pair (fun vs H Q E h => ?_) (fun cdv A outer s H vs Q E hr h => ?_)
  · obtain ⟨_, _, rfl, _⟩ := h
    rfl
  · have hu := hu_of hr
    obtain ⟨a, b, rfl, q⟩ := h
    refine ⟨_, (pss_one (ps_ret (pe_tup (pa_cons (pe_callB (call_min2 rfl) (by rfl) m_min (by decide +kernel) (pa_cons (pv 0) (pa_cons (pv 1) pa_nil))) (pa_cons (pe_callB (call_max2 rfl) (by rfl) m_max (by decide +kernel) (pa_cons (pv 0) (pa_cons (pv 1) pa_nil))) pa_nil))))), ?_⟩
    walk_at "ev"
    have e1 : (if b < a then b else a) = min a b := by omega
    have e2 : (if b > a then b else a) = max a b := by omega
    rw [e1, e2]
    exact ⟨szl (by show 2 ≤ 100000; decide), fun p np => q.mk (Same.refl H) p np⟩
end
end V15
namespace V15
open PySem PySem.Spec PyProof.Rows L2 Vf
section
variable {P : Program} {w : World} {K : PySem.W.Frag} {mg : Str → Option Value} {base : Heap}
theorem ok__law_chains {f : Addr} {fd : FuncData} (F : Fun K "_law_chains" "_law_chains" s__law_chains f fd) (D__law_draw : Def P w K mg base 1 "_law_draw" ["tap", "bound"] (sp__law_draw K)) (m_list : mg "list" = none) (m_range : mg "range" = none) (m_int : mg "int" = none) (m_min : mg "min" = none) (m_len : mg "len" = none) : FnOk P w K mg base CX0 2 f fd ["tap", "pieces"] (sp__law_chains K) := by
  refine F.ok sc__law_chains (fun vs H Q E h => ?_) (fun cdv A outer s H vs Q E hr h => ?_)
  · obtain ⟨_, _, rfl, _⟩ := h
    rfl
  · have hu := hu_of hr
    obtain ⟨t, n, rfl, hT, n1, n60, q⟩ := h
    refine ⟨_, (pss_cons (ps_par (i := 2) (j := 3) (by rfl) sc__law_chains.nd rfl rfl (by decide) rfl rfl (pa_cons (pe_listRg rfl (by rfl) m_list (prg_2 (by rfl) m_range pe_int (pe_op op_add (pv 1) pe_int))) (pa_cons (pe_lst (pa_cons (pe_lst pa_nil) (pa_cons (pe_lst pa_nil) pa_nil))) pa_nil)) (by rfl))
        (pss_cons (ps_set (i := 4) sc__law_chains.nd rfl (Or.inl rfl) (pe_op op_add pe_int (pe_def D__law_draw (hr.mono (by decide)) (pa_cons (pv 0) (pa_cons (pe_ix (ixL (K := K)) (pe_lst (pa_cons pe_int (pa_cons pe_int (pa_cons pe_int pa_nil)))) (pe_def D__law_draw (hr.mono (by decide)) (pa_cons (pv 0) (pa_cons pe_int pa_nil))) (fun _ _ => rfl)) pa_nil)))))
        (pss_cons (ps_while PassesOwn.never (pt_cmpR (neNilK (K := K) hr.units0) (pv 2) (pe_lst pa_nil) (nomark _)) (pss_cons (ps_set (i := 5) sc__law_chains.nd rfl (Or.inl rfl) (pe_lst pa_nil))
        (pss_cons (ps_for PassesOwn.never rfl (pi_range1 (by rfl) m_range (pa_cons (pe_op op_add pe_int (pe_def D__law_draw (hr.mono (by decide)) (pa_cons (pv 0) (pa_cons (pe_callB (call_min2 rfl) (by rfl) m_min (by decide +kernel) (pa_cons (pv 4) (pa_cons (pe_callB (lenK (K := K)) (by rfl) m_len (by decide +kernel) (pa_cons (pv 2) pa_nil)) pa_nil))) pa_nil)))) pa_nil)) (pg_name (i := 6) sc__law_chains.nd rfl (Or.inl rfl))
          (pss_one (ps_expr (pe_bm PySem.F.plainAttrs_list PySem.F.slot_list_append PySem.F.type_list_append mt_append (pv 5) (pa_cons (pe_op op_mul (pe_bm PySem.F.plainAttrs_list PySem.F.slot_list_pop PySem.F.type_list_pop mt_popAt (pv 2) (pa_cons (pe_def D__law_draw (hr.mono (by decide)) (pa_cons (pv 0) (pa_cons (pe_callB (lenK (K := K)) (by rfl) m_len (by decide +kernel) (pa_cons (pv 2) pa_nil)) pa_nil))) pa_nil)) (pe_ix (ixL (K := K)) (pe_lst (pa_cons pe_int (pa_cons (pe_un un_neg pe_int) pa_nil))) (pe_def D__law_draw (hr.mono (by decide)) (pa_cons (pv 0) (pa_cons pe_int pa_nil))) (fun _ _ => rfl))) pa_nil)))))
        (pss_cons (ps_set (i := 7) sc__law_chains.nd rfl (Or.inl rfl) (pe_ix (ixL (K := K)) (pv 3) (pe_callTy call_int1 (by rfl) m_int (by decide +kernel) (pa_cons (pe_cmpR op_eq (pe_def D__law_draw (hr.mono (by decide)) (pa_cons (pv 0) (pa_cons pe_int pa_nil))) pe_int (nomark _)) pa_nil)) (fun _ _ => rfl)))
        (pss_one (ps_expr (pe_bm PySem.F.plainAttrs_list PySem.F.slot_list_append PySem.F.type_list_append mt_append (pv 7) (pa_cons (pv 5) pa_nil))))))))
        (pss_one (ps_ret (pv 3)))))), ?_⟩
    walk_at "ev"
    refine ⟨_, _, rfl, rfl, RgOk.of_le (by decide) (by omega) (by decide) (by omega), fun l nl => ?_⟩
    have s1 := same_new (o := .lst ((rng 1 (n + 1 - 1).toNat).map V.int)) nl
    have hl : upd H l (.lst ((rng 1 (n + 1 - 1).toNat).map V.int)) l = some (.lst ((rng 1 n.toNat).map V.int)) := by rw [upd_same, show n + 1 - 1 = n by omega]
    generalize upd H l (.lst ((rng 1 (n + 1 - 1).toNat).map V.int)) = H1 at s1 hl ⊢
    walk_at "ev"
    refine ⟨szl (by show 0 ≤ 100000; decide), fun a na => ?_⟩
    have s2 := same_new (o := .lst []) na
    have ha : upd H1 a (.lst []) a = some (.lst []) := upd_same
    generalize upd H1 a (.lst []) = H2 at s2 ha ⊢
    walk_at "ev"
    refine ⟨szl (by show 0 ≤ 100000; decide), fun b nb => ?_⟩
    have s3 := same_new (o := .lst []) nb
    have hb : upd H2 b (.lst []) b = some (.lst []) := upd_same
    generalize upd H2 b (.lst []) = H3 at s3 hb ⊢
    walk_at "ev"
    refine ⟨szl (by show 2 ≤ 100000; decide), fun p np => ?_⟩
    have s4 := same_new (o := .lst [.ref a, .ref b]) np
    have hp : upd H3 p (.lst [.ref a, .ref b]) p = some (.lst [.ref a, .ref b]) := upd_same
    generalize upd H3 p (.lst [.ref a, .ref b]) = H4 at s4 hp ⊢
    have tn : ∀ {x : Addr}, H x = none → t ≠ x := fun {x} h z => by obtain ⟨_, _, _, e, _⟩ := hT; rw [z, h] at e; cases e
    have ntl := tn nl
    have nta := tn (s1.free na)
    have ntb := tn (s1.free (s2.free nb))
    have ntp := tn (s1.free (s2.free (s3.free np)))
    have nla : l ≠ a := ne_of_none hl na
    have nlb : l ≠ b := ne_of_none (s2 _ _ hl) nb
    have nlp : l ≠ p := ne_of_none (s3 _ _ (s2 _ _ hl)) np
    have nab : a ≠ b := ne_of_none ha nb
    have nap : a ≠ p := ne_of_none (s3 _ _ ha) np
    have nbp : b ≠ p := ne_of_none hb np
    have s04 := s1.trans (s2.trans (s3.trans s4))
    walk_at "ev"
    refine ⟨szl (by show 3 ≤ 100000; decide), fun p0 np0 => ?_⟩
    have s5 := same_new (o := .lst [.int 3, .int 9, .int 60]) np0
    have hp0 : upd H4 p0 (.lst [.int 3, .int 9, .int 60]) p0 = some (.lst (([3, 9, 60] : List Int).map V.int)) := upd_same
    generalize upd H4 p0 (.lst [.int 3, .int 9, .int 60]) = H5 at s5 hp0 ⊢
    have s05 := s04.trans s5
    have ntp0 := tn (s04.free np0)
    walk_at "ev"
    refine ⟨hT.mono s05, by decide, by decide, fun r H6 r0 r1 b6 t6 => ?_⟩
    obtain ⟨v, hv, hv2⟩ := at_int (ns := [3, 9, 60]) r0 r1
    have hv3 : v = 3 ∨ v = 9 ∨ v = 60 := by simpa using List.mem_of_getElem? hv2
    refine r_ixL (sql ((b6 p0 ntp0.symm).trans hp0)) hv ?_
    walk_at "ev"
    refine ⟨t6, by omega, by omega, fun r' H7 r0' r1' b7 t7 => ?_⟩
    generalize hlg : 1 + r' = lg
    have lg1 : 1 ≤ lg := by omega
    have b67 : But t H5 H7 := b6.trans b7
    have x7 : SameX t H H7 := (SameX.of s05).trans (SameX.ofBut b67)
    have hl7 : H7 l = some (.lst ((rng 1 n.toNat).map V.int)) := (b67 l ntl.symm).trans (s5 _ _ (s4 _ _ (s3 _ _ (s2 _ _ hl))))
    have ha7 : H7 a = some (.lst []) := (b67 a nta.symm).trans (s5 _ _ (s4 _ _ (s3 _ _ ha)))
    have hb7 : H7 b = some (.lst []) := (b67 b ntb.symm).trans (s5 _ _ (s4 _ _ hb))
    have hp7 : H7 p = some (.lst [.ref a, .ref b]) := (b67 p ntp.symm).trans (s5 _ _ hp)
    walk_at "evS"
    refine Vf.r_seq ?_
    refine r_while (fun m σ' H' => ∃ ls R G xs ys y5 y6 y7, m = ls.length ∧ σ' = [some (.ref t), some (.int n), some (.ref l), some (.ref p), some (.int lg), y5, y6, y7] ∧ SameX t H H' ∧ Tap H' t ∧ H' l = some (.lst (ls.map V.int)) ∧ H' p = some (.lst [.ref a, .ref b]) ∧ H' a = some (.lst xs) ∧ ILs (Hid [t, l, a, b] H') xs R ∧ H' b = some (.lst ys) ∧ ILs (Hid [t, l, a, b] H') ys G ∧ (∀ r ∈ R, r ≠ []) ∧ (∀ g ∈ G, g ≠ []) ∧ (ls ++ (R.flatten.map ab ++ G.flatten.map ab)).Perm (rng 1 n.toNat) ∧ R.length + G.length + ls.length ≤ 60)
      (rng 1 n.toNat).length ⟨rng 1 n.toNat, [], [], [], [], _, _, _, rfl, by rw [hlg]; rfl, x7, t7, hl7, hp7, ha7, .nil, hb7, .nil, fun _ z => (by cases z), fun _ z => (by cases z), by simp, by rw [rng_len]; simp; omega⟩ ?_
    rintro m σ' H8 ⟨ls, R, G, xs, ys, y5, y6, y7, rfl, rfl, x8, t8, hl8, hp8, ha8, hxs8, hb8, hys8, neR, neG, pm, few⟩
    walk_at "ev"
    refine ⟨szl (by show 0 ≤ 100000; decide), fun z nz => ?_⟩
    have sz := same_new (o := .lst []) nz
    have hz : upd H8 z (.lst []) z = some (.lst []) := upd_same
    have xz : SameX t H (upd H8 z (.lst [])) := x8.trans (SameX.of sz)
    have tz := t8.mono sz
    have hxz := hxs8.mono (hid_same (t := [t, l, a, b]) sz)
    have hyz := hys8.mono (hid_same (t := [t, l, a, b]) sz)
    have hlz := sz _ _ hl8
    have hpz := sz _ _ hp8
    have haz := sz _ _ ha8
    have hbz := sz _ _ hb8
    generalize upd H8 z (.lst []) = H9 at sz hz xz tz hxz hyz hlz hpz haz hbz ⊢
    refine ⟨l, z, ls.map V.int, rfl, rfl, sql hlz, hz, ?_⟩
    rw [bneT]
    walk_at "ev"
    by_cases cl : ls = []
    · subst cl
      rw [decide_eq_true (by rfl)]
      walk_at "ev"
      have dl : Dealt n R G := ⟨neR, neG, by simpa using pm⟩
      have cut : Same (Hid [t, l, a, b] H9) (Hid [t] H9) := fun x o e => by
        have h1 := hid_un e
        simp at h1
        exact hid_get (hid_le _ _ e) (by simpa using h1.1)
      exact q p a b R G H9 dl xz tz (s1.free (s2.free (s3.free np))) (s1.free na) (s1.free (s2.free nb)) hpz ⟨xs, hid_get haz (by simpa using nta.symm), hxz.mono cut⟩ ⟨ys, hid_get hbz (by simpa using ntb.symm), hyz.mono cut⟩
    rw [decide_eq_false (by simpa using cl)]
    have lpos : 0 < ls.length := List.length_pos_iff.mpr cl
    walk_at "ev"
    refine r_whT ?_
    walk_at "ev"
    refine ⟨szl (by show 0 ≤ 100000; decide), fun c nc => ?_⟩
    have s10 := same_new (o := .lst []) nc
    have hc : upd H9 c (.lst []) c = some (.lst (([] : List Int).map V.int)) := upd_same
    have hx10 : ILs (Hid [c, t, l, a, b] (upd H9 c (.lst []))) xs R := hxz.mono (hid_fresh nc)
    have hy10 : ILs (Hid [c, t, l, a, b] (upd H9 c (.lst []))) ys G := hyz.mono (hid_fresh nc)
    have nct : c ≠ t := fun z => by obtain ⟨_, _, _, e, _⟩ := tz; rw [← z, nc] at e; cases e
    have ncl : c ≠ l := fun z => by rw [z, hlz] at nc; cases nc
    have nca : c ≠ a := fun z => by rw [z, haz] at nc; cases nc
    have ncb : c ≠ b := fun z => by rw [z, hbz] at nc; cases nc
    have ncp : c ≠ p := fun z => by rw [z, hpz] at nc; cases nc
    have cH : H c = none := by
      cases h : H c with
      | none => rfl
      | some o => have := xz c o nct h; rw [nc] at this; cases this
    have x10 := xz.trans (SameX.of s10)
    have t10 := tz.mono s10
    have hl10 := s10 _ _ hlz
    have hp10 := s10 _ _ hpz
    have ha10 := s10 _ _ haz
    have hb10 := s10 _ _ hbz
    generalize upd H9 c (.lst []) = H10 at s10 hc hx10 hy10 x10 t10 hl10 hp10 ha10 hb10 ⊢
    walk_at "ev"
    rw [List.length_map]
    have ls60 : ls.length ≤ 60 := by omega
    refine ⟨t10, by split <;> omega, by split <;> omega, fun rr H11 rr0 rr1 b11 t11 => ?_⟩
    have rr2 : rr < ls.length := by split at rr1 <;> omega
    have inL : ∀ y ∈ ls, 1 ≤ y ∧ y ≤ 60 := fun y hy => by
      have := mem_rng.mp (pm.mem_iff.mp (List.mem_append_left _ hy))
      omega
    walk_at "ev"
    refine ⟨by omega, by omega, ?_⟩
    have e11 : Hid [c, t, l, a, b] H11 = Hid [c, t, l, a, b] H10 := hid_butL b11 (by simp)
    refine r_forS seq_range (fun dn σ' H' => ∃ ls' rd y6, σ' = [some (.ref t), some (.int n), some (.ref l), some (.ref p), some (.int lg), some (.ref c), y6, y7] ∧ SameX t H H' ∧ Tap H' t ∧ H' l = some (.lst (ls'.map V.int)) ∧ H' c = some (.lst (rd.map V.int)) ∧ H' p = some (.lst [.ref a, .ref b]) ∧ H' a = some (.lst xs) ∧ ILs (Hid [c, t, l, a, b] H') xs R ∧ H' b = some (.lst ys) ∧ ILs (Hid [c, t, l, a, b] H') ys G ∧ (ls' ++ rd.map ab).Perm ls ∧ rd.length = dn.length)
      ⟨ls, [], _, rfl, x10.trans (SameX.ofBut b11), t11, (b11 l ntl.symm).trans hl10, (b11 c nct).trans hc, (b11 p ntp.symm).trans hp10, (b11 a nta.symm).trans ha10, e11 ▸ hx10, (b11 b ntb.symm).trans hb10, e11 ▸ hy10, by simp, rfl⟩ (fun _ _ _ _ => trivial) ?_ ?_
    · rintro dn k r9 v σ' H12 ed rfl ⟨ls', rd, y6, rfl, x12, t12, hl12, hc12, hp12, ha12, hx12, hb12, hy12, pm2, hrd⟩
      obtain ⟨_, hdn⟩ := rng_split ed
      have hlen := pm2.length_eq
      rw [List.length_append, List.length_map] at hlen
      have lpos' : 0 < ls'.length := by omega
      walk_at "ev"
      refine ⟨tyL hc12, ?_⟩
      walk_at "ev"
      refine ⟨tyL hl12, ?_⟩
      walk_at "ev"
      rw [List.length_map]
      refine ⟨t12, by omega, by omega, fun i H13 i0 i1 b13 t13 => ?_⟩
      have hl13 := (b13 l ntl.symm).trans hl12
      walk_at "ev"
      obtain ⟨y, gy, my⟩ := get_ints (ns := ls') (k := i.toNat) (by omega)
      refine r_pop hl13 i0 (by rw [List.length_map]; exact i1) (by omega) gy ?_
      have hy := inL y (pm2.mem_iff.mp (List.mem_append_left _ (List.mem_of_getElem? my)))
      rw [map_eraseI]
      have pe := perm_erase my
      have b14 : ∀ x, x ≠ t → x ≠ l → upd H13 l (.lst ((ls'.eraseIdx i.toNat).map V.int)) x = H12 x := fun x h1 h2 => by rw [upd_ne h2]; exact b13 x h1
      have hl14 : upd H13 l (.lst ((ls'.eraseIdx i.toNat).map V.int)) l = some (.lst ((ls'.eraseIdx i.toNat).map V.int)) := upd_same
      have x14 : SameX t H (upd H13 l (.lst ((ls'.eraseIdx i.toNat).map V.int))) := (x12.trans (SameX.ofBut b13)).set nl
      have t14 : Tap (upd H13 l (.lst ((ls'.eraseIdx i.toNat).map V.int))) t := by
        obtain ⟨q1, q2, q3, q4, q5⟩ := t13
        exact ⟨q1, q2, q3, by rw [upd_ne ntl]; exact q4, q5⟩
      have e14 : Hid [c, t, l, a, b] (upd H13 l (.lst ((ls'.eraseIdx i.toNat).map V.int))) = Hid [c, t, l, a, b] H12 := (hid_upd (by simp)).trans (hid_butL b13 (by simp))
      generalize upd H13 l (.lst ((ls'.eraseIdx i.toNat).map V.int)) = H14 at b14 hl14 x14 t14 e14 ⊢
      walk_at "ev"
      refine ⟨szl (by show 2 ≤ 100000; decide), fun g ng => ?_⟩
      have s15 := same_new (o := .lst [.int 1, .int (-1)]) ng
      have hg : upd H14 g (.lst [.int 1, .int (-1)]) g = some (.lst (([1, -1] : List Int).map V.int)) := upd_same
      have ngt : g ≠ t := fun z => by obtain ⟨_, _, _, e, _⟩ := t14; rw [← z, ng] at e; cases e
      generalize upd H14 g (.lst [.int 1, .int (-1)]) = H15 at s15 hg ⊢
      walk_at "ev"
      refine ⟨t14.mono s15, by decide, by decide, fun j H16 j0 j1 b16 t16 => ?_⟩
      obtain ⟨w, hw, hw2⟩ := at_int (ns := [1, -1]) j0 j1
      have hw3 : w = 1 ∨ w = -1 := by simpa using List.mem_of_getElem? hw2
      refine r_ixL (sql ((b16 g ngt).trans hg)) hw ?_
      refine r_I (.inl ⟨by omega, by omega⟩) ?_
      have hc14 := (b14 c nct ncl).trans hc12
      have hc16 := (b16 c nct).trans (s15 _ _ hc14)
      walk_at "ev"
      have rdl : rd.length ≤ 60 := by omega
      refine r_app hc16 (szs (by rw [List.length_map]; omega)) ?_
      have eab : ab (y * w) = y := by
        rcases hw3 with rfl | rfl
        · rw [Int.mul_one]; unfold ab; omega
        · rw [Int.mul_neg, Int.mul_one]; unfold ab; omega
      have x16 : SameX t H (upd H16 c (.lst (rd.map V.int ++ [.int (y * w)]))) := ((x14.trans (SameX.of s15)).trans (SameX.ofBut b16)).set cH
      have t16' : Tap (upd H16 c (.lst (rd.map V.int ++ [.int (y * w)]))) t := by
        obtain ⟨q1, q2, q3, q4, q5⟩ := t16
        exact ⟨q1, q2, q3, by rw [upd_ne nct.symm]; exact q4, q5⟩
      have k16 : ∀ x, x ≠ t → x ≠ l → x ≠ c → ∀ o, H12 x = some o → upd H16 c (.lst (rd.map V.int ++ [.int (y * w)])) x = some o := fun x h1 h2 h3 o e => by
        rw [upd_ne h3, b16 x h1]
        exact s15 _ _ ((b14 x h1 h2).trans e)
      have e16 : Hid [c, t, l, a, b] (upd H16 c (.lst (rd.map V.int ++ [.int (y * w)]))) = Hid [c, t, l, a, b] H15 := (hid_upd (by simp)).trans (hid_butL b16 (by simp))
      have m16 : Same (Hid [c, t, l, a, b] H12) (Hid [c, t, l, a, b] (upd H16 c (.lst (rd.map V.int ++ [.int (y * w)])))) := by
        rw [e16, ← e14]
        exact hid_same s15
      refine ⟨ls'.eraseIdx i.toNat, rd ++ [y * w], _, rfl, x16, t16', ?_, ?_, k16 p ntp.symm nlp.symm ncp.symm _ hp12, k16 a nta.symm nla.symm nca.symm _ ha12, hx12.mono m16, k16 b ntb.symm nlb.symm ncb.symm _ hb12, hy12.mono m16, ?_, by rw [List.length_append, List.length_append, hrd]; rfl⟩
      · rw [upd_ne ncl.symm, b16 l ntl.symm]
        exact s15 _ _ hl14
      · rw [upd_same, List.map_append]; rfl
      · rw [List.map_append]
        refine List.Perm.trans ?_ pm2
        show ((ls'.eraseIdx i.toNat) ++ (rd.map ab ++ [ab (y * w)])).Perm (ls' ++ rd.map ab)
        rw [eab]
        refine List.Perm.trans ?_ (pe.symm.append_right _)
        rw [← List.append_assoc]
        exact (List.perm_append_comm (l₁ := ls'.eraseIdx i.toNat ++ rd.map ab) (l₂ := [y]))
    · rintro σ' H12 ⟨ls', rd, y6, rfl, x12, t12, hl12, hc12, hp12, ha12, hx12, hb12, hy12, pm2, hrd⟩
      rw [rng_len] at hrd
      have hlen := pm2.length_eq
      rw [List.length_append, List.length_map] at hlen
      have rdne : rd ≠ [] := fun z => by rw [z] at hrd; simp at hrd; omega
      walk_at "ev"
      refine ⟨t12, by decide, by decide, fun f H13 f0 f1 b13 t13 => ?_⟩
      walk_at "ev"
      have k13 : ∀ x, x ≠ t → ∀ o, H12 x = some o → H13 x = some o := fun x h o e => (b13 x h).trans e
      have x13 := x12.trans (SameX.ofBut b13)
      have e13 : Hid [c, t, l, a, b] H13 = Hid [c, t, l, a, b] H12 := hid_butL b13 (by simp)
      have hp13 := k13 p ntp.symm _ hp12
      have pmf : (ls' ++ (R.flatten.map ab ++ (G.flatten.map ab ++ rd.map ab))).Perm (rng 1 n.toNat) := by
        refine List.Perm.trans ?_ pm
        refine List.Perm.trans ?_ (pm2.append_right _)
        rw [List.append_assoc]
        refine List.Perm.append_left _ ?_
        rw [← List.append_assoc]
        exact List.perm_append_comm
      have tup : ∀ {x : Addr} {o : HO}, x ≠ t → Tap (upd H13 x o) t := fun {x o} h => by
        obtain ⟨q1, q2, q3, q4, q5⟩ := t13
        exact ⟨q1, q2, q3, by rw [upd_ne h.symm]; exact q4, q5⟩
      have ils : ∀ {zs : List V} {S : List (List Int)} {x : Addr} {o : HO}, x ∈ [t, l, a, b] → ILs (Hid [c, t, l, a, b] H12) zs S → ILs (Hid [t, l, a, b] (upd H13 x o)) zs S := fun {zs S x o} hx h => by
        rw [hid_upd hx]
        rw [← e13] at h
        exact h.mono hid_more
      have newc : ∀ {x : Addr} {o : HO}, x ∈ [t, l, a, b] → IL (Hid [t, l, a, b] (upd H13 x o)) (.ref c) rd := fun {x o} hx => by
        rw [hid_upd hx]
        exact ⟨c, rfl, hid_get (k13 c nct _ hc12) (by simp [nct, ncl, nca, ncb])⟩
      have xsl := pair_len hx12
      have ysl := pair_len hy12
      by_cases cf : f = 0
      · rw [decide_eq_true cf]
        refine r_ixL (v := .ref b) (sql hp13) rfl ?_
        walk_at "ev"
        refine ⟨tyL (k13 b ntb.symm _ hb12), ?_⟩
        walk_at "ev"
        refine r_app (k13 b ntb.symm _ hb12) (szs (by omega)) ?_
        walk_at "ev"
        refine ⟨ls'.length, by omega, ls', R, G ++ [rd], xs, ys ++ [.ref c], _, _, _, rfl, rfl, x13.set (s1.free (s2.free nb)), tup ntb.symm, ?_, ?_, ?_, ils (by simp) hx12, upd_same, pair_app (ils (by simp) hy12) (.cons (newc (by simp)) .nil), neR, ?_, ?_, ?_⟩
        · rw [upd_ne nlb]; exact k13 l ntl.symm _ hl12
        · rw [upd_ne nbp.symm]; exact hp13
        · rw [upd_ne nab]; exact k13 a nta.symm _ ha12
        · intro g hg
          rcases List.mem_append.mp hg with z | z
          · exact neG g z
          · rw [List.mem_singleton.mp z]; exact rdne
        · rw [List.flatten_append, List.map_append]
          simpa using pmf
        · rw [List.length_append, List.length_singleton]
          omega
      · rw [decide_eq_false cf]
        refine r_ixL (v := .ref a) (sql hp13) rfl ?_
        walk_at "ev"
        refine ⟨tyL (k13 a nta.symm _ ha12), ?_⟩
        walk_at "ev"
        refine r_app (k13 a nta.symm _ ha12) (szs (by omega)) ?_
        walk_at "ev"
        refine ⟨ls'.length, by omega, ls', R ++ [rd], G, xs ++ [.ref c], ys, _, _, _, rfl, rfl, x13.set (s1.free na), tup nta.symm, ?_, ?_, upd_same, pair_app (ils (by simp) hx12) (.cons (newc (by simp)) .nil), ?_, ils (by simp) hy12, ?_, neG, ?_, ?_⟩
        · rw [upd_ne nla]; exact k13 l ntl.symm _ hl12
        · rw [upd_ne nap.symm]; exact hp13
        · rw [upd_ne nab.symm]; exact k13 b ntb.symm _ hb12
        · intro g hg
          rcases List.mem_append.mp hg with z | z
          · exact neR g z
          · rw [List.mem_singleton.mp z]; exact rdne
        · rw [List.flatten_append, List.map_append]
          refine List.Perm.trans ?_ pmf
          refine List.Perm.append_left _ ?_
          rw [List.append_assoc]
          refine List.Perm.append_left _ ?_
          simpa using List.perm_append_comm
        · rw [List.length_append, List.length_singleton]
          omega
end
end V15
namespace V15
open PySem PySem.Spec PyProof.Rows L2 Vf
section
variable {P : Program} {w : World} {K : PySem.W.Frag} {mg : Str → Option Value} {base : Heap}
theorem ok__law_coupled {f : Addr} {fd : FuncData} (F : Fun K "_law_coupled" "_law_coupled" s__law_coupled f fd) (D__law_pair : Def P w K mg base 1 "_law_pair" ["one", "other"] (sp__law_pair K)) (m_sorted : mg "sorted" = none) (m_zip : mg "zip" = none) : FnOk P w K mg base CX0 2 f fd ["rows", "rings"] (sp__law_coupled K) := by
  refine F.ok sc__law_coupled (fun vs H Q E h => ?_) (fun cdv A outer s H vs Q E hr h => ?_)
  · obtain ⟨_, _, _, _, rfl, _⟩ := h
    rfl
  · have hu := hu_of hr
    obtain ⟨a, b, R, G, rfl, ⟨xs, ha, hxs⟩, ⟨ys, hb, hys⟩, hl, hcl, nd, q⟩ := h
    refine ⟨_, (pss_cons (ps_set (i := 2) sc__law_coupled.nd rfl (Or.inl rfl) (pe_lst pa_nil))
        (pss_cons (ps_for PassesOwn.never rfl (pi_list (pv 0)) (pg_name (i := 3) sc__law_coupled.nd rfl (Or.inl rfl))
          (pss_one (ps_expr (pe_bm PySem.F.plainAttrs_list PySem.F.slot_list_extend PySem.F.type_list_extend mt_extend (pv 2) (pa_cons (pe_lc (g := gTup K 2 (gCons (gName 4) (gCons (gName 5) gNil))) (own := [("one", 4), ("other", 5)]) rfl sc__law_coupled.nd (pi_zip (by rfl) m_zip (pa_cons (pv 3) (pa_cons (pe_slice (slK (K := K)) (pv 3) (po_some pe_int) po_none) pa_nil))) (blkOk_by (own := [("one", 4), ("other", 5)]) (N := N__law_coupled) (sc := defScope s__law_coupled) (by decide +kernel)) (fun _ _ _ _ _ => (pg_tup rfl (pgs_cons (pg_name (i := 4) sc__law_coupled.nd rfl (Or.inl rfl)) (pgs_cons (pg_name (i := 5) sc__law_coupled.nd rfl (Or.inl rfl)) pgs_nil)))) (fun _ _ _ _ _ => pts_nil) (fun _ _ _ _ _ => (pe_def D__law_pair (hr.mono (by decide)) (pa_cons (pv 4) (pa_cons (pe_op op_sub pe_int (pv 5)) pa_nil))))) pa_nil)))))
        (pss_cons (ps_for PassesOwn.never rfl (pi_list (pv 1)) (pg_name (i := 3) sc__law_coupled.nd rfl (Or.inl rfl))
          (pss_one (ps_expr (pe_bm PySem.F.plainAttrs_list PySem.F.slot_list_extend PySem.F.type_list_extend mt_extend (pv 2) (pa_cons (pe_lc (g := gTup K 2 (gCons (gName 4) (gCons (gName 5) gNil))) (own := [("one", 4), ("other", 5)]) rfl sc__law_coupled.nd (pi_zip (by rfl) m_zip (pa_cons (pv 3) (pa_cons (pe_op (catK (K := K)) (pe_slice (slK (K := K)) (pv 3) (po_some pe_int) po_none) (pe_slice (slK (K := K)) (pv 3) po_none (po_some pe_int))) pa_nil))) (blkOk_by (own := [("one", 4), ("other", 5)]) (N := N__law_coupled) (sc := defScope s__law_coupled) (by decide +kernel)) (fun _ _ _ _ _ => (pg_tup rfl (pgs_cons (pg_name (i := 4) sc__law_coupled.nd rfl (Or.inl rfl)) (pgs_cons (pg_name (i := 5) sc__law_coupled.nd rfl (Or.inl rfl)) pgs_nil)))) (fun _ _ _ _ _ => pts_nil) (fun _ _ _ _ _ => (pe_def D__law_pair (hr.mono (by decide)) (pa_cons (pv 4) (pa_cons (pe_op op_sub pe_int (pv 5)) pa_nil))))) pa_nil)))))
        (pss_one (ps_ret (pe_callB (sortedK (K := K)) (by rfl) m_sorted (by decide +kernel) (pa_cons (pv 2) pa_nil))))))), ?_⟩
    walk_at "ev"
    refine ⟨szl (by show 0 ≤ 100000; decide), fun fa nfa => ?_⟩
    have s1 := same_new (o := .lst []) nfa
    have hfa : upd H fa (.lst []) fa = some (.lst []) := upd_same
    generalize upd H fa (.lst []) = H1 at s1 hfa ⊢
    walk_at "evS"
    refine Vf.r_seq ?_
    walk_at "evS"
    have lR : (R.flatMap steps).length ≤ 1000 := by have := hcl; unfold cps at this; rw [List.length_append] at this; omega
    refine ⟨⟨_, sql (s1 _ _ ha)⟩, ?_⟩
    refine r_forS (seq_list hxs) (fun dn σ H' => ∃ zs y3, σ = [some (.ref a), some (.ref b), some (.ref fa), y3, none, none] ∧ Same H H' ∧ H' fa = some (.lst zs) ∧ Prs H' zs (dn.flatMap steps)) ⟨[], _, rfl, s1, hfa, .nil⟩ (fun _ _ _ ⟨_, _, _, s, _⟩ => sql (s _ _ ha)) ?_ ?_
    · rintro dn r rr v σ H2 e hv ⟨zs, y3, rfl, s2, hf2, hP2⟩
      obtain ⟨c, rfl, hc⟩ := hv.mono s2
      have hr := hl r (.inl (by rw [e]; simp))
      walk_at "ev"
      refine ⟨tyL hf2, ?_⟩
      walk_at "ev"
      refine ⟨c, r.map V.int, rfl, sql hc, fun s ns => ?_⟩
      have ss := same_new (o := .lst (cutV (r.map V.int) (some 1) none)) ns
      have hs : upd H2 s (.lst (cutV (r.map V.int) (some 1) none)) s = some (.lst ((r.drop 1).map V.int)) := by rw [upd_same, cut_f1, List.map_drop]
      generalize upd H2 s (.lst (cutV (r.map V.int) (some 1) none)) = H3 at ss hs ⊢
      refine Vf.r_nil ?_
      refine ⟨c, s, _, _, rfl, sql (ss _ _ hc), sql hs, fun D nD => ?_⟩
      refine zip_pairs (i := 4) (j := 5) (fun _ _ => rfl) (fun _ _ => rfl) (fun _ _ => rfl) (ss _ _ hc) hs (by omega) nD fun H4 ws s4 hD hW => ?_
      have s24 := ss.trans s4
      refine Vf.r_nil ?_
      have l1 := pair_len hP2
      have l2 := pair_len hW
      rw [← steps_zip] at l2 hW
      have l3 : ((dn ++ [r]).flatMap steps).length ≤ 1000 := by
        rw [e, List.flatMap_append, List.length_append, List.flatMap_cons, List.length_append] at lR
        rw [List.flatMap_append, List.length_append, List.flatMap_cons, List.length_append, List.flatMap_nil]
        show _ + (_ + 0) ≤ _
        omega
      rw [List.flatMap_append, List.flatMap_cons, List.flatMap_nil, List.append_nil] at l3 ⊢
      rw [List.length_append] at l3
      refine ⟨fa, D, zs, ws, rfl, rfl, s24 _ _ hf2, hD, szl (by omega), ?_⟩
      refine ⟨zs ++ ws, _, rfl, Vf.Same.set (s2.trans s24) nfa, upd_same, ?_⟩
      exact pair_app ((hP2.mono s24).but but_upd (s24 _ _ hf2) fun _ z => by cases z) (hW.but but_upd (s24 _ _ hf2) fun _ z => by cases z)
    rintro σ H2 ⟨zs0, y3, rfl, s2, hf2, hP2⟩
    refine Vf.r_seq ?_
    walk_at "evS"
    refine ⟨⟨_, sql (s2 _ _ hb)⟩, ?_⟩
    refine r_forS (seq_list hys) (fun dn σ H' => ∃ zs y3, σ = [some (.ref a), some (.ref b), some (.ref fa), y3, none, none] ∧ Same H H' ∧ H' fa = some (.lst zs) ∧ Prs H' zs (R.flatMap steps ++ dn.flatMap ringC)) ⟨zs0, _, rfl, s2, hf2, by simpa using hP2⟩ (fun _ _ _ ⟨_, _, _, s, _⟩ => sql (s _ _ hb)) ?_ ?_
    · rintro dn r rr v σ H2 e hv ⟨zs, y3, rfl, s2, hf2, hP2⟩
      obtain ⟨c, rfl, hc⟩ := hv.mono s2
      have hr := hl r (.inr (by rw [e]; simp))
      walk_at "ev"
      refine ⟨tyL hf2, ?_⟩
      walk_at "ev"
      refine ⟨c, r.map V.int, rfl, sql hc, fun s ns => ?_⟩
      have ss := same_new (o := .lst (cutV (r.map V.int) (some 1) none)) ns
      have hs : upd H2 s (.lst (cutV (r.map V.int) (some 1) none)) s = some (.lst ((r.drop 1).map V.int)) := by rw [upd_same, cut_f1, List.map_drop]
      generalize upd H2 s (.lst (cutV (r.map V.int) (some 1) none)) = H3 at ss hs ⊢
      walk_at "ev"
      refine ⟨c, r.map V.int, rfl, sql (ss _ _ hc), fun u nu => ?_⟩
      have su := same_new (o := .lst (cutV (r.map V.int) none (some 1))) nu
      have hu' : upd H3 u (.lst (cutV (r.map V.int) none (some 1))) u = some (.lst ((r.take 1).map V.int)) := by rw [upd_same, cut_t1, List.map_take]
      have hs' := su _ _ hs
      generalize upd H3 u (.lst (cutV (r.map V.int) none (some 1))) = H4 at su hu' hs' ⊢
      refine ⟨s, u, _, _, rfl, rfl, sql hs', sql hu', szl (by rw [List.length_map, List.length_map, List.length_drop, List.length_take]; omega), fun w nw => ?_⟩
      have sw := same_new (o := .lst ((r.drop 1).map V.int ++ (r.take 1).map V.int)) nw
      have hw : upd H4 w (.lst ((r.drop 1).map V.int ++ (r.take 1).map V.int)) w = some (.lst ((r.drop 1 ++ r.take 1).map V.int)) := by rw [upd_same, List.map_append]
      generalize upd H4 w (.lst ((r.drop 1).map V.int ++ (r.take 1).map V.int)) = H5 at sw hw ⊢
      have s25 := ss.trans (su.trans sw)
      refine Vf.r_nil ?_
      refine ⟨c, w, _, _, rfl, sql (s25 _ _ hc), sql hw, fun D nD => ?_⟩
      refine zip_pairs (i := 4) (j := 5) (fun _ _ => rfl) (fun _ _ => rfl) (fun _ _ => rfl) (s25 _ _ hc) hw (by omega) nD fun H6 ws s6 hD hW => ?_
      have s26 := s25.trans s6
      refine Vf.r_nil ?_
      have l1 := pair_len hP2
      have l2 := pair_len hW
      rw [← ringC_zip] at l2 hW
      have l3 : (R.flatMap steps ++ (dn ++ [r]).flatMap ringC).length ≤ 1000 := by
        unfold cps at hcl
        rw [e, List.flatMap_append, List.length_append, List.length_append, List.flatMap_cons, List.length_append] at hcl
        rw [List.flatMap_append, List.length_append, List.length_append, List.flatMap_cons, List.length_append, List.flatMap_nil]
        show _ + (_ + (_ + 0)) ≤ _
        omega
      rw [List.flatMap_append, List.flatMap_cons, List.flatMap_nil, List.append_nil, ← List.append_assoc] at l3 ⊢
      rw [List.length_append] at l3
      refine ⟨fa, D, zs, ws, rfl, rfl, s26 _ _ hf2, hD, szl (by omega), ?_⟩
      refine ⟨zs ++ ws, _, rfl, Vf.Same.set (s2.trans s26) nfa, upd_same, ?_⟩
      exact pair_app ((hP2.mono s26).but but_upd (s26 _ _ hf2) fun _ z => by cases z) (hW.but but_upd (s26 _ _ hf2) fun _ z => by cases z)
    rintro σ H3 ⟨zs, y3, rfl, s3, hf3, hP3⟩
    walk_at "ev"
    refine r_sortedP (sql hf3) hP3 nd fun ys' M p pm asc hP np => ?_
    have sp := same_new (o := .lst ys') np
    exact q p _ ys' M (s3.trans sp) (s3.free np) upd_same (hP.mono sp) pm asc
end
end V15
namespace V15
open PySem PySem.Spec PyProof.Rows L2 Vf
section
variable {P : Program} {w : World} {K : PySem.W.Frag} {mg : Str → Option Value} {base : Heap}
theorem ok__law_normal {f : Addr} {fd : FuncData} (F : Fun K "_law_normal" "_law_normal" s__law_normal f fd) (m_min : mg "min" = none) (m_sorted : mg "sorted" = none) (m_list : mg "list" = none) (m_abs : mg "abs" = none) : FnOk P w K mg base CX0 1 f fd ["rows", "rings"] (sp__law_normal K) := by
  refine F.ok sc__law_normal (fun vs H Q E h => ?_) (fun cdv A outer s H vs Q E hr h => ?_)
  · obtain ⟨_, _, _, _, rfl, _⟩ := h
    rfl
  · have hu := hu_of hr
    obtain ⟨a, b, R, G, rfl, ⟨xs, ha, hxs⟩, ⟨ys, hb, hys⟩, neR, neG, hl, lR, lG, q⟩ := h
    refine ⟨_, (pss_cons (ps_par (i := 2) (j := 3) (by rfl) sc__law_normal.nd rfl rfl (by decide) rfl rfl (pa_cons (pe_lst pa_nil) (pa_cons (pe_lst pa_nil) pa_nil)) (by rfl))
        (pss_cons (ps_for PassesOwn.never rfl (pi_list (pv 0)) (pg_name (i := 4) sc__law_normal.nd rfl (Or.inl rfl))
          (pss_cons (ps_set (i := 5) sc__law_normal.nd rfl (Or.inl rfl) (pe_callB (minK (K := K) rfl) (by rfl) m_min (by decide +kernel) (pa_cons (pe_lc (own := [("number", 8)]) rfl sc__law_normal.nd (pi_list (pv 4)) (blkOk_by (own := [("number", 8)]) (N := N__law_normal) (sc := defScope s__law_normal) (by decide +kernel)) (fun _ _ _ _ _ => (pg_name (i := 8) sc__law_normal.nd rfl (Or.inl rfl))) (fun _ _ _ _ _ => pts_nil) (fun _ _ _ _ _ => (pe_callB call_abs (by rfl) m_abs (by decide +kernel) (pa_cons (pv 8) pa_nil)))) pa_nil)))
        (pss_one (ps_expr (pe_bm PySem.F.plainAttrs_list PySem.F.slot_list_append PySem.F.type_list_append mt_append (pv 2) (pa_cons (pe_ifExp (pt_cmpR (inSeqK (K := K)) (pv 5) (pv 4) rfl) (pe_callTy (listK (K := K)) (by rfl) m_list (by decide +kernel) (pa_cons (pv 4) pa_nil)) (pe_lc (own := [("number", 8)]) rfl sc__law_normal.nd (pi_list (revK (K := K) (pv 4))) (blkOk_by (own := [("number", 8)]) (N := N__law_normal) (sc := defScope s__law_normal) (by decide +kernel)) (fun _ _ _ _ _ => (pg_name (i := 8) sc__law_normal.nd rfl (Or.inl rfl))) (fun _ _ _ _ _ => pts_nil) (fun _ _ _ _ _ => (pe_op op_sub pe_int (pv 8))))) pa_nil))))))
        (pss_cons (ps_for PassesOwn.never rfl (pi_list (pv 1)) (pg_name (i := 4) sc__law_normal.nd rfl (Or.inl rfl))
          (pss_cons (ps_set (i := 5) sc__law_normal.nd rfl (Or.inl rfl) (pe_callB (minK (K := K) rfl) (by rfl) m_min (by decide +kernel) (pa_cons (pe_lc (own := [("number", 8)]) rfl sc__law_normal.nd (pi_list (pv 4)) (blkOk_by (own := [("number", 8)]) (N := N__law_normal) (sc := defScope s__law_normal) (by decide +kernel)) (fun _ _ _ _ _ => (pg_name (i := 8) sc__law_normal.nd rfl (Or.inl rfl))) (fun _ _ _ _ _ => pts_nil) (fun _ _ _ _ _ => (pe_callB call_abs (by rfl) m_abs (by decide +kernel) (pa_cons (pv 8) pa_nil)))) pa_nil)))
        (pss_cons (ps_set (i := 6) sc__law_normal.nd rfl (Or.inl rfl) (pe_ifExp (pt_cmpR (inSeqK (K := K)) (pv 5) (pv 4) rfl) (pe_callTy (listK (K := K)) (by rfl) m_list (by decide +kernel) (pa_cons (pv 4) pa_nil)) (pe_lc (own := [("number", 8)]) rfl sc__law_normal.nd (pi_list (revK (K := K) (pv 4))) (blkOk_by (own := [("number", 8)]) (N := N__law_normal) (sc := defScope s__law_normal) (by decide +kernel)) (fun _ _ _ _ _ => (pg_name (i := 8) sc__law_normal.nd rfl (Or.inl rfl))) (fun _ _ _ _ _ => pts_nil) (fun _ _ _ _ _ => (pe_op op_sub pe_int (pv 8))))))
        (pss_cons (ps_set (i := 7) sc__law_normal.nd rfl (Or.inl rfl) (pe_bm PySem.F.plainAttrs_list PySem.F.slot_list_index PySem.F.type_list_index mt_index (pv 6) (pa_cons (pv 5) pa_nil)))
        (pss_one (ps_expr (pe_bm PySem.F.plainAttrs_list PySem.F.slot_list_append PySem.F.type_list_append mt_append (pv 3) (pa_cons (pe_op (catK (K := K)) (pe_slice (slK (K := K)) (pv 6) (po_some (pv 7)) po_none) (pe_slice (slK (K := K)) (pv 6) po_none (po_some (pv 7)))) pa_nil))))))))
        (pss_one (ps_ret (pe_lst (pa_cons (pe_callB (srtDK (K := K) hr.units) (by rfl) m_sorted (by decide +kernel) (pa_cons (pv 2) pa_nil)) (pa_cons (pe_callB (srtDK (K := K) hr.units) (by rfl) m_sorted (by decide +kernel) (pa_cons (pv 3) pa_nil)) pa_nil)))))))), ?_⟩
    walk_at "ev"
    refine ⟨szl (by show 0 ≤ 100000; decide), fun fa nfa => ?_⟩
    have s1 := same_new (o := .lst []) nfa
    have hfa : upd H fa (.lst []) fa = some (.lst []) := upd_same
    generalize upd H fa (.lst []) = H1 at s1 hfa ⊢
    walk_at "ev"
    refine ⟨szl (by show 0 ≤ 100000; decide), fun oa noa => ?_⟩
    have s2 := same_new (o := .lst []) noa
    have hoa : upd H1 oa (.lst []) oa = some (.lst []) := upd_same
    have hfa2 := s2 _ _ hfa
    have nfo : fa ≠ oa := ne_of_none hfa noa
    generalize upd H1 oa (.lst []) = H2 at s2 hoa hfa2 ⊢
    have s02 := s1.trans s2
    walk_at "ev"
    have noaH := s1.free noa
    -- the least piece, and a reading turned as it should be
    refine ⟨⟨_, sql (s02 _ _ ha)⟩, ?_⟩
    refine r_forS (seq_list hxs) (fun dn σ H' => ∃ zs y4 y5, σ = [some (.ref a), some (.ref b), some (.ref fa), some (.ref oa), y4, y5, none, none, none] ∧ Same H H' ∧ H' fa = some (.lst zs) ∧ ILs (Hid [fa, oa] H') zs (dn.map nrow) ∧ H' oa = some (.lst [])) ⟨[], _, _, rfl, s02, hfa2, .nil, hoa⟩ (fun _ _ _ ⟨_, _, _, _, s, _⟩ => sql (s _ _ ha)) ?_ ?_
    · rintro dn r rr v σ H3 e hv ⟨zs, y4, y5, rfl, s3, hf3, hz3, ho3⟩
      obtain ⟨c, rfl, hc⟩ := hv.mono s3
      have hr := hl r (.inl (by rw [e]; simp))
      have ner := neR r (by rw [e]; simp)
      have dnl : dn.length ≤ 1000 := by rw [e, List.length_append] at lR; omega
      walk_at "ev"
      refine ⟨⟨_, sql hc⟩, fun D nD => ?_⟩
      refine r_lcP (seq_list (rel := fun v (i : Int) => v = .int i) (L := r) (pair_map fun _ _ => rfl)) (fun _ => true) (fun i => .int (ab i)) (by omega) nD (fun _ s => s.seq (sql hc)) ?_ ?_
      · intro x v H4 acc hx hv s4 ha4 hz N h1 h2
        subst hv
        walk_at "ev"
        have eab : (if x < 0 then -x else x) = ab x := by unfold ab; split <;> omega
        rw [eab]
        exact ⟨acc, ha4, hz, h1 rfl⟩
      rw [filt_t, show (r.map fun i => V.int (ab i)) = (r.map ab).map V.int by rw [List.map_map]; rfl]
      have s4 := same_new (o := .lst ((r.map ab).map V.int)) nD
      have hD : upd H3 D (.lst ((r.map ab).map V.int)) D = some (.lst ((r.map ab).map V.int)) := upd_same
      generalize upd H3 D (.lst ((r.map ab).map V.int)) = H4 at s4 hD ⊢
      walk_at "ev"
      refine ⟨D, _, rfl, sql hD, by rw [List.length_map]; exact List.length_pos_iff.mpr ner, fun m hm1 hm2 => ?_⟩
      have em : mnA r = m := mnA_of ⟨by obtain ⟨x, hx, e⟩ := List.mem_map.mp hm1; exact ⟨x, hx, e.symm⟩, fun y hy => hm2 _ (List.mem_map.mpr ⟨y, hy, rfl⟩)⟩
      subst em
      have hc4 := s4 _ _ hc
      have hf4 := s4 _ _ hf3
      have ho4 := s4 _ _ ho3
      have hz4 := hz3.mono (hid_same (t := [fa, oa]) s4)
      have fin : ∀ (w : Addr) H5, Same H4 H5 → H4 w = none → H5 w = some (.lst ((nrow r).map V.int)) → ILs (Hid [fa, oa] (upd H5 fa (.lst (zs ++ [.ref w])))) (zs ++ [.ref w]) ((dn ++ [r]).map nrow) := fun w H5 s5 nw hw => by
        have w1 : w ≠ fa := (ne_of_none hf4 nw).symm
        have w2 : w ≠ oa := (ne_of_none ho4 nw).symm
        rw [hid_upd (by simp), List.map_append]
        exact pair_app (hz4.mono (hid_same s5)) (.cons ⟨w, rfl, hid_get hw (by simp [w1, w2])⟩ .nil)
      walk_at "evS"
      refine ⟨tyL hf4, ?_⟩
      refine Vf.r_cons ?_
      refine Vf.r_if ?_
      walk_at "ev"
      refine ⟨flat_ints _, ?_⟩
      rw [if_neg Bool.false_ne_true, in_ints]
      walk_at "ev"
      have zl := pair_len hz4
      rw [List.length_map] at zl
      refine ite2 (fun cm => ?_) (fun cm => ?_)
      · have cm' : mnA r ∈ r := of_decide_eq_true cm
        walk_at "ev"
        intro w nw
        have sw := same_new (o := .lst (r.map V.int)) nw
        have en : nrow r = r := if_pos cm'
        walk_at "ev"
        refine r_app (sw _ _ hf4) (szs (by omega)) ?_
        exact ⟨zs ++ [.ref w], _, _, rfl, Vf.Same.set (s3.trans (s4.trans sw)) nfa, upd_same, fin w _ sw nw (by rw [upd_same, en]), by rw [upd_ne nfo.symm]; exact sw _ _ ho4⟩
      · have cm' : ¬ mnA r ∈ r := by simpa using cm
        have en : nrow r = revn r := if_neg cm'
        refine Vf.r_lc ?_
        refine ⟨_, rfl, c, _, rfl, sql hc4, fun u nu => ?_⟩
        have su := same_new (o := .lst (r.map V.int).reverse) nu
        have hu' : upd H4 u (.lst (r.map V.int).reverse) u = some (.lst (r.reverse.map V.int)) := by rw [upd_same, List.map_reverse]
        generalize upd H4 u (.lst (r.map V.int).reverse) = H5 at su hu' ⊢
        refine ⟨u, rfl, ⟨_, sql hu'⟩, fun D2 nD2 => ?_⟩
        refine r_lcP (seq_list (rel := fun v (i : Int) => v = .int i) (L := r.reverse) (pair_map fun _ _ => rfl)) (fun _ => true) (fun i => .int (0 - i)) (by rw [List.length_reverse]; omega) nD2 (fun _ s => s.seq (sql hu')) ?_ ?_
        · intro x v H6 acc hx hv s6 ha6 hz N h1 h2
          subst hv
          walk_at "ev"
          exact ⟨acc, ha6, hz, h1 rfl⟩
        rw [filt_t, show (r.reverse.map fun i => V.int (0 - i)) = (revn r).map V.int by unfold revn; rw [List.map_map]; rfl]
        have s6 := same_new (o := .lst ((revn r).map V.int)) nD2
        have hD2 : upd H5 D2 (.lst ((revn r).map V.int)) D2 = some (.lst ((nrow r).map V.int)) := by rw [upd_same, en]
        generalize upd H5 D2 (.lst ((revn r).map V.int)) = H6 at s6 hD2 ⊢
        have s46 := su.trans s6
        walk_at "ev"
        refine r_app (s46 _ _ hf4) (szs (by omega)) ?_
        exact ⟨zs ++ [.ref D2], _, _, rfl, Vf.Same.set (s3.trans (s4.trans s46)) nfa, upd_same, fin D2 _ s46 (su.free nD2) hD2, by rw [upd_ne nfo.symm]; exact s46 _ _ ho4⟩
    rintro σ H3 ⟨fz, y4, y5, rfl, s3, hf3, hfz, ho3⟩
    refine Vf.r_seq ?_
    walk_at "evS"
    refine ⟨⟨_, sql (s3 _ _ hb)⟩, ?_⟩
    refine r_forS (seq_list hys) (fun dn σ H' => ∃ zs y4 y5 y6 y7, σ = [some (.ref a), some (.ref b), some (.ref fa), some (.ref oa), y4, y5, y6, y7, none] ∧ Same H H' ∧ H' oa = some (.lst zs) ∧ ILs (Hid [fa, oa] H') zs (dn.map nring) ∧ H' fa = some (.lst fz) ∧ ILs (Hid [fa, oa] H') fz (R.map nrow)) ⟨[], _, _, _, _, rfl, s3, ho3, .nil, hf3, hfz⟩ (fun _ _ _ ⟨_, _, _, _, _, _, s, _⟩ => sql (s _ _ hb)) ?_ ?_
    · rintro dn r rr v σ H3 e hv ⟨zs, y4, y5, y6, y7, rfl, s3, ho3, hz3, hf3, hfz⟩
      obtain ⟨c, rfl, hc⟩ := hv.mono s3
      have hr := hl r (.inr (by rw [e]; simp))
      have ner := neG r (by rw [e]; simp)
      have dnl : dn.length ≤ 1000 := by rw [e, List.length_append] at lG; omega
      walk_at "ev"
      refine ⟨⟨_, sql hc⟩, fun D nD => ?_⟩
      refine r_lcP (seq_list (rel := fun v (i : Int) => v = .int i) (L := r) (pair_map fun _ _ => rfl)) (fun _ => true) (fun i => .int (ab i)) (by omega) nD (fun _ s => s.seq (sql hc)) ?_ ?_
      · intro x v H4 acc hx hv s4 ha4 hz N h1 h2
        subst hv
        walk_at "ev"
        have eab : (if x < 0 then -x else x) = ab x := by unfold ab; split <;> omega
        rw [eab]
        exact ⟨acc, ha4, hz, h1 rfl⟩
      rw [filt_t, show (r.map fun i => V.int (ab i)) = (r.map ab).map V.int by rw [List.map_map]; rfl]
      have s4 := same_new (o := .lst ((r.map ab).map V.int)) nD
      have hD : upd H3 D (.lst ((r.map ab).map V.int)) D = some (.lst ((r.map ab).map V.int)) := upd_same
      generalize upd H3 D (.lst ((r.map ab).map V.int)) = H4 at s4 hD ⊢
      walk_at "ev"
      refine ⟨D, _, rfl, sql hD, by rw [List.length_map]; exact List.length_pos_iff.mpr ner, fun m hm1 hm2 => ?_⟩
      have em : mnA r = m := mnA_of ⟨by obtain ⟨x, hx, e⟩ := List.mem_map.mp hm1; exact ⟨x, hx, e.symm⟩, fun y hy => hm2 _ (List.mem_map.mpr ⟨y, hy, rfl⟩)⟩
      subst em
      have hc4 := s4 _ _ hc
      have hf4 := s4 _ _ hf3
      have ho4 := s4 _ _ ho3
      have hz4 := hz3.mono (hid_same (t := [fa, oa]) s4)
      have hfz4 := hfz.mono (hid_same (t := [fa, oa]) s4)
      have zl := pair_len hz4
      rw [List.length_map] at zl
      obtain ⟨u, v, eu, hmu, enr⟩ := nring_of ner
      have nrl : (nrow r).length = r.length := by have := (nrow_ab r).length_eq; simpa using this
      have uvl : u.length + v.length ≤ 100 := by rw [eu, List.length_append, List.length_cons] at nrl; omega
      -- from the turned reading on
      have fin : ∀ (w : Addr) H5, Same H4 H5 → H4 w = none → H5 w = some (.lst ((nrow r).map V.int)) → ∀ (nx : L2.St → Hp → Prop), (∀ H' zs y4 y5 y6 y7, Same H H' → H' oa = some (.lst zs) → ILs (Hid [fa, oa] H') zs ((dn ++ [r]).map nring) → H' fa = some (.lst fz) → ILs (Hid [fa, oa] H') fz (R.map nrow) → nx [some (.ref a), some (.ref b), some (.ref fa), some (.ref oa), y4, y5, y6, y7, none] H') →
          ∀ rt bk ct, tSeq (tAsg (tBM K "list" (rIndex K) (tVar 6) (tCons (tVar 5) tNil)) (gName 7)) (tDrop (tBM K "list" rAppend (tVar 3) (tCons (tOp (rCatS K) (tSl (rSlL K) (tVar 6) (tPart (tVar 7)) tNoPart) (tSl (rSlL K) (tVar 6) tNoPart (tPart (tVar 7)))) tNil))) ⟨nx, rt, bk, ct⟩ [some (.ref a), some (.ref b), some (.ref fa), some (.ref oa), some (.ref c), some (.int (mnA r)), some (.ref w), y7, none] H5 := fun w H5 s5 nw hw nx k rt bk ct => by
        have hw' : H5 w = some (.lst ((u ++ mnA r :: v).map V.int)) := by rw [hw, eu]
        refine Vf.r_seq ?_
        refine Vf.r_asg ?_
        refine Vf.r_bm ?_
        refine Vf.r_var ⟨_, rfl, tyL hw, ?_⟩
        refine Vf.r_cons ?_
        refine Vf.r_var ⟨_, rfl, ?_⟩
        refine Vf.r_nil ?_
        refine r_idx (sql hw') hmu ?_
        refine Vf.r_gname ?_
        refine Vf.r_drop ?_
        refine Vf.r_bm ?_
        refine Vf.r_var ⟨_, rfl, tyL (s5 _ _ ho4), ?_⟩
        refine Vf.r_cons ?_
        refine Vf.r_op ?_
        refine Vf.r_sl ?_
        refine Vf.r_var ⟨_, rfl, ?_⟩
        refine Vf.r_part ?_
        refine Vf.r_var ⟨_, rfl, ⟨_, rfl, ?_⟩⟩
        refine Vf.r_noPart ?_
        refine ⟨w, _, rfl, sql hw', fun e1 n1 => ?_⟩
        have t1 := same_new (o := .lst (cutV ((u ++ mnA r :: v).map V.int) (some (u.length : Nat)) none)) n1
        have h1 : upd H5 e1 (.lst (cutV ((u ++ mnA r :: v).map V.int) (some (u.length : Nat)) none)) e1 = some (.lst ((mnA r :: v).map V.int)) := by rw [upd_same, cut_from, ← List.map_drop, List.drop_left]
        generalize upd H5 e1 (.lst (cutV ((u ++ mnA r :: v).map V.int) (some (u.length : Nat)) none)) = H6 at t1 h1 ⊢
        refine Vf.r_sl ?_
        refine Vf.r_var ⟨_, rfl, ?_⟩
        refine Vf.r_noPart ?_
        refine Vf.r_part ?_
        refine Vf.r_var ⟨_, rfl, ⟨_, rfl, ?_⟩⟩
        refine ⟨w, _, rfl, sql (t1 _ _ hw'), fun e2 n2 => ?_⟩
        have t2 := same_new (o := .lst (cutV ((u ++ mnA r :: v).map V.int) none (some (u.length : Nat)))) n2
        have h2 : upd H6 e2 (.lst (cutV ((u ++ mnA r :: v).map V.int) none (some (u.length : Nat)))) e2 = some (.lst (u.map V.int)) := by rw [upd_same, cut_to, ← List.map_take, List.take_left]
        have h1' := t2 _ _ h1
        generalize upd H6 e2 (.lst (cutV ((u ++ mnA r :: v).map V.int) none (some (u.length : Nat)))) = H7 at t2 h1' h2 ⊢
        refine ⟨e1, e2, _, _, rfl, rfl, sql h1', sql h2, szl (by rw [List.length_map, List.length_map, List.length_cons]; omega), fun x nx' => ?_⟩
        have t3 := same_new (o := .lst ((mnA r :: v).map V.int ++ u.map V.int)) nx'
        have h3 : upd H7 x (.lst ((mnA r :: v).map V.int ++ u.map V.int)) x = some (.lst ((nring r).map V.int)) := by rw [upd_same, ← List.map_append, enr]; rfl
        have t57 := t1.trans t2
        have fx : H4 x = none := s5.free (t57.free nx')
        generalize upd H7 x (.lst ((mnA r :: v).map V.int ++ u.map V.int)) = H8 at t3 h3 ⊢
        have s48 := s5.trans (t57.trans t3)
        refine Vf.r_nil ?_
        refine r_app (s48 _ _ ho4) (szs (by omega)) ?_
        have x1 : x ≠ fa := (ne_of_none hf4 fx).symm
        have x2 : x ≠ oa := (ne_of_none ho4 fx).symm
        refine k _ (zs ++ [.ref x]) _ _ _ _ (Vf.Same.set (s3.trans (s4.trans s48)) noaH) upd_same ?_ (by rw [upd_ne nfo]; exact s48 _ _ hf4) ?_
        · rw [hid_upd (by simp), List.map_append]
          exact pair_app (hz4.mono (hid_same s48)) (.cons ⟨x, rfl, hid_get h3 (by simp [x1, x2])⟩ .nil)
        · rw [hid_upd (by simp)]
          exact hfz4.mono (hid_same s48)
      walk_at "evS"
      refine Vf.r_seq ?_
      refine Vf.r_asg ?_
      refine Vf.r_if ?_
      walk_at "ev"
      refine ⟨flat_ints _, ?_⟩
      rw [if_neg Bool.false_ne_true, in_ints]
      walk_at "ev"
      refine ite2 (fun cm => ?_) (fun cm => ?_)
      · have cm' : mnA r ∈ r := of_decide_eq_true cm
        walk_at "evS"
        intro w nw
        have sw := same_new (o := .lst (r.map V.int)) nw
        have en : nrow r = r := if_pos cm'
        walk_at "evS"
        exact fin w _ sw nw (by rw [upd_same, en]) _ (fun H' zs y4 y5 y6 y7 h1 h2 h3 h4 h5 => ⟨zs, y4, y5, y6, y7, rfl, h1, h2, h3, h4, h5⟩) _ _ _
      · have cm' : ¬ mnA r ∈ r := by simpa using cm
        have en : nrow r = revn r := if_neg cm'
        refine Vf.r_lc ?_
        refine ⟨_, rfl, c, _, rfl, sql hc4, fun u nu => ?_⟩
        have su := same_new (o := .lst (r.map V.int).reverse) nu
        have hu' : upd H4 u (.lst (r.map V.int).reverse) u = some (.lst (r.reverse.map V.int)) := by rw [upd_same, List.map_reverse]
        generalize upd H4 u (.lst (r.map V.int).reverse) = H5 at su hu' ⊢
        refine ⟨u, rfl, ⟨_, sql hu'⟩, fun D2 nD2 => ?_⟩
        refine r_lcP (seq_list (rel := fun v (i : Int) => v = .int i) (L := r.reverse) (pair_map fun _ _ => rfl)) (fun _ => true) (fun i => .int (0 - i)) (by rw [List.length_reverse]; omega) nD2 (fun _ s => s.seq (sql hu')) ?_ ?_
        · intro x v H6 acc hx hv s6 ha6 hz N h1 h2
          subst hv
          walk_at "ev"
          exact ⟨acc, ha6, hz, h1 rfl⟩
        rw [filt_t, show (r.reverse.map fun i => V.int (0 - i)) = (revn r).map V.int by unfold revn; rw [List.map_map]; rfl]
        have s6 := same_new (o := .lst ((revn r).map V.int)) nD2
        have hD2 : upd H5 D2 (.lst ((revn r).map V.int)) D2 = some (.lst ((nrow r).map V.int)) := by rw [upd_same, en]
        generalize upd H5 D2 (.lst ((revn r).map V.int)) = H6 at s6 hD2 ⊢
        walk_at "evS"
        exact fin D2 _ (su.trans s6) (su.free nD2) hD2 _ (fun H' zs y4 y5 y6 y7 h1 h2 h3 h4 h5 => ⟨zs, y4, y5, y6, y7, rfl, h1, h2, h3, h4, h5⟩) _ _ _
    rintro σ H4 ⟨oz, y4, y5, y6, y7, rfl, s4, ho4, hoz, hf4, hfz⟩
    walk_at "ev"
    refine r_sortR (sql hf4) (hfz.mono hid_le) (by rw [List.length_map]; omega) fun z1 p1 hz1 hsub1 np1 => ?_
    have s5 := same_new (o := .lst z1) np1
    have hp1 : upd H4 p1 (.lst z1) p1 = some (.lst z1) := upd_same
    have hz1' := hz1.mono s5
    generalize upd H4 p1 (.lst z1) = H5 at s5 hp1 hz1' ⊢
    walk_at "ev"
    refine r_sortR (sql (s5 _ _ ho4)) ((hoz.mono hid_le).mono s5) (by rw [List.length_map]; omega) fun z2 p2 hz2 hsub2 np2 => ?_
    have s6 := same_new (o := .lst z2) np2
    have hp2 : upd H5 p2 (.lst z2) p2 = some (.lst z2) := upd_same
    have hz2' := hz2.mono s6
    generalize upd H5 p2 (.lst z2) = H6 at s6 hp2 hz2' ⊢
    walk_at "ev"
    refine ⟨szl (by show 2 ≤ 100000; decide), fun p np => ?_⟩
    have s7 := same_new (o := .lst [.ref p1, .ref p2]) np
    have s47 := s4.trans (s5.trans (s6.trans s7))
    exact q p p1 p2 _ s47 (s4.free (s5.free (s6.free np))) upd_same ⟨z1, s7 _ _ (s6 _ _ hp1), (hz1'.mono s6).mono s7⟩ ⟨z2, s7 _ _ hp2, hz2'.mono s7⟩
end
end V15
namespace V15
open PySem PySem.Spec PyProof.Rows L2 Vf
section
variable {P : Program} {w : World} {K : PySem.W.Frag} {mg : Str → Option Value} {base : Heap}
theorem ok__law_numbers {f : Addr} {fd : FuncData} (F : Fun K "_law_numbers" "_law_numbers" s__law_numbers f fd) (m_str : mg "str" = none) : FnOk P w K mg base CX0 1 f fd ["numbers"] (sp__law_numbers K) := by
  refine F.ok sc__law_numbers (fun vs H Q E h => ?_) (fun cdv A outer s H vs Q E hr h => ?_)
  · obtain ⟨_, _, rfl, _⟩ := h
    rfl
  · have hu := hu_of hr
    obtain ⟨a, r, rfl, ha, hl, hr, q⟩ := h
    refine ⟨_, (pss_one (ps_ret (pe_join pe_str (pe_lc (own := [("number", 1)]) rfl sc__law_numbers.nd (pi_list (pv 0)) (blkOk_by (own := [("number", 1)]) (N := N__law_numbers) (sc := defScope s__law_numbers) (by decide +kernel)) (fun _ _ _ _ _ => (pg_name (i := 1) sc__law_numbers.nd rfl (Or.inl rfl))) (fun _ _ _ _ _ => pts_nil) (fun _ _ _ _ _ => (pe_callTy strK (by rfl) m_str (by decide +kernel) (pa_cons (pv 1) pa_nil))))))), ?_⟩
    obtain ⟨l1, l2⟩ := rdS_len hr
    walk_at "ev"
    refine ⟨⟨_, rfl⟩, ?_⟩
    walk_at "ev"
    refine ⟨⟨_, sql ha⟩, fun D nD => ?_⟩
    refine r_lcS (seq_list (K := K) (a := a) (rel := fun v (e : Int) => v = .int e) (L := r) (pair_map fun _ _ => rfl)) (fun dm H' => Same H H' ∧ H' D = some (.lst ((dm.map nS).map V.str))) ⟨same_new nD, upd_same⟩ (fun _ _ k => sql (k.1 _ _ ha)) ?_ ?_
    · rintro dm x rm v H2 em rfl ⟨s2, h2⟩
      have ml : dm.length < r.length := by have := congrArg List.length em; simp at this; omega
      have x60 := hr x (by rw [em]; simp)
      walk_at "ev"
      refine ⟨log_small (by omega), _, h2, szs (by rw [List.length_map, List.length_map]; omega), Vf.Same.set s2 nD, ?_⟩
      rw [List.map_append, List.map_append]
      exact upd_same
    rintro H2 ⟨s2, h2⟩
    walk_at "ev"
    exact ⟨_, D, _, rfl, rfl, .inl (sql h2), by omega, q H2 s2⟩
end
end V15
namespace V15
open PySem PySem.Spec PyProof.Rows L2 Vf
section
variable {P : Program} {w : World} {K : PySem.W.Frag} {mg : Str → Option Value} {base : Heap}
theorem ok__law_text {f : Addr} {fd : FuncData} (F : Fun K "_law_text" "_law_text" s__law_text f fd) (D__law_numbers : Def P w K mg base 1 "_law_numbers" ["numbers"] (sp__law_numbers K)) : FnOk P w K mg base CX0 2 f fd ["rows", "rings"] (sp__law_text K) := by
  refine F.ok sc__law_text (fun vs H Q E h => ?_) (fun cdv A outer s H vs Q E hr h => ?_)
  · obtain ⟨_, _, _, _, rfl, _⟩ := h
    rfl
  · have hu := hu_of hr
    obtain ⟨a, b, R, G, rfl, ⟨xs, ha, hR⟩, ⟨ys, hb, hG⟩, few, lR, lG, q⟩ := h
    refine ⟨_, (pss_one (ps_ret (pe_join pe_str (pe_op (catK (K := K)) (pe_lc (own := [("row", 2)]) rfl sc__law_text.nd (pi_list (pv 0)) (blkOk_by (own := [("row", 2)]) (N := N__law_text) (sc := defScope s__law_text) (by decide +kernel)) (fun _ _ _ _ _ => (pg_name (i := 2) sc__law_text.nd rfl (Or.inl rfl))) (fun _ _ _ _ _ => pts_nil) (fun _ _ _ _ _ => (pe_def D__law_numbers (hr.mono (by decide)) (pa_cons (pv 2) pa_nil)))) (pe_lc (own := [("ring", 3)]) rfl sc__law_text.nd (pi_list (pv 1)) (blkOk_by (own := [("ring", 3)]) (N := N__law_text) (sc := defScope s__law_text) (by decide +kernel)) (fun _ _ _ _ _ => (pg_name (i := 3) sc__law_text.nd rfl (Or.inl rfl))) (fun _ _ _ _ _ => pts_nil) (fun _ _ _ _ _ => (pe_op op_add_str (pe_op op_add_str pe_str (pe_def D__law_numbers (hr.mono (by decide)) (pa_cons (pv 3) pa_nil))) pe_str))))))), ?_⟩
    walk_at "ev"
    refine ⟨⟨_, rfl⟩, ?_⟩
    walk_at "ev"
    refine ⟨⟨_, sql ha⟩, fun D nD => ?_⟩
    refine r_lcS (seq_list (K := K) (a := a) hR) (fun dn H' => Same H H' ∧ H' D = some (.lst ((dn.map rdS).map V.str))) ⟨same_new nD, upd_same⟩ (fun _ _ k => sql (k.1 _ _ ha)) ?_ ?_
    · rintro dn r rv v H2 e hv ⟨s2, h2⟩
      obtain ⟨tt, rfl, ht⟩ := hv
      have hr : r ∈ R := by rw [e]; simp
      have dl : dn.length < R.length := by have := congrArg List.length e; simp at this; omega
      obtain ⟨f1, f2⟩ := few r (.inl hr)
      walk_at "ev"
      refine ⟨tt, r, rfl, s2 _ _ ht, by omega, f2, fun H3 s3 => ?_⟩
      refine ⟨_, s3 _ _ h2, szs (by rw [List.length_map, List.length_map]; omega), Vf.Same.set (s2.trans s3) nD, ?_⟩
      rw [List.map_append, List.map_append]
      exact upd_same
    rintro H2 ⟨s2, h2⟩
    have hb2 := s2 _ _ hb
    walk_at "ev"
    refine ⟨⟨_, sql hb2⟩, fun D2 nD2 => ?_⟩
    refine r_lcS (seq_list (K := K) (a := b) hG) (fun dn H' => Same H2 H' ∧ H' D2 = some (.lst ((dn.map ringS).map V.str))) ⟨same_new nD2, upd_same⟩ (fun _ _ k => sql (k.1 _ _ hb2)) ?_ ?_
    · rintro dn r rv v H3 e hv ⟨s3, h3⟩
      obtain ⟨tt, rfl, ht⟩ := hv
      have hr : r ∈ G := by rw [e]; simp
      have dl : dn.length < G.length := by have := congrArg List.length e; simp at this; omega
      obtain ⟨f1, f2⟩ := few r (.inr hr)
      walk_at "ev"
      refine ⟨tt, r, rfl, (s2.trans s3) _ _ ht, by omega, f2, fun H4 s4 => ?_⟩
      walk_at "ev"
      have rl := (rdS_len f2).1
      refine ⟨_, _, rfl, rfl, szl (by rw [len_po]; omega), ?_⟩
      walk_at "ev"
      refine ⟨_, _, rfl, rfl, szl (by rw [str_app_len, len_po, len_pc]; omega), ?_⟩
      refine ⟨_, s4 _ _ h3, szs (by rw [List.length_map, List.length_map]; omega), Vf.Same.set (s3.trans s4) nD2, ?_⟩
      rw [List.map_append, List.map_append]
      exact upd_same
    rintro H3 ⟨s3, h3⟩
    have h23 := s3 _ _ h2
    obtain ⟨w1, w2⟩ := txt_wrap few lR lG
    walk_at "ev"
    refine ⟨D, D2, _, _, rfl, rfl, sql h23, sql h3, szl (by rw [List.length_map, List.length_map, List.length_map, List.length_map]; omega), fun w' nw => ?_⟩
    have sw := same_new (o := .lst ((R.map rdS).map V.str ++ (G.map ringS).map V.str)) nw
    refine ⟨_, w', R.map rdS ++ G.map ringS, rfl, rfl, .inl (sql (by rw [List.map_append]; exact upd_same)), w2, ?_⟩
    rw [← w1]
    exact q _ (s2.trans (s3.trans sw))
end
end V15
namespace V15
open PySem PySem.Spec PyProof.Rows L2 Vf
section
variable {P : Program} {w : World} {K : PySem.W.Frag} {mg : Str → Option Value} {base : Heap}
theorem ok__law_otherwise {f : Addr} {fd : FuncData} (F : Fun K "_law_otherwise" "_law_otherwise" s__law_otherwise f fd) (D__law_draw : Def P w K mg base 1 "_law_draw" ["tap", "bound"] (sp__law_draw K)) (D__law_numbers : Def P w K mg base 1 "_law_numbers" ["numbers"] (sp__law_numbers K)) (m_list : mg "list" = none) (m_len : mg "len" = none) : FnOk P w K mg base CX0 2 f fd ["tap", "rows", "rings"] (sp__law_otherwise K) := by
  refine F.ok sc__law_otherwise (fun vs H Q E h => ?_) (fun cdv A outer s H vs Q E hr h => ?_)
  · obtain ⟨_, _, _, _, _, _, rfl, _⟩ := h
    rfl
  · have hu := hu_of hr
    obtain ⟨t, a, b, n, R, G, rfl, hT, dl, n60, ⟨xs, ha, hR⟩, ⟨ys, hb, hG⟩, q⟩ := h
    refine ⟨_, (pss_cons (ps_set (i := 3) sc__law_otherwise.nd rfl (Or.inl rfl) (pe_lst pa_nil))
        (pss_cons (ps_for PassesOwn.never rfl (pi_list (pv 1)) (pg_name (i := 4) sc__law_otherwise.nd rfl (Or.inl rfl))
          (pss_one (ps_if (PW.pt (pw_or (pt_cmpR op_gt (pe_callB (lenK (K := K)) (by rfl) m_len (by decide +kernel) (pa_cons (pv 4) pa_nil)) pe_int (nomark _)) (pw_or1 (pt_cmpR op_eq (pe_def D__law_draw (hr.mono (by decide)) (pa_cons (pv 0) (pa_cons pe_int pa_nil))) pe_int (nomark _))))) (pss_cons (ps_set (i := 5) sc__law_otherwise.nd rfl (Or.inl rfl) (pe_ifExp (pt_cmpR op_eq (pe_def D__law_draw (hr.mono (by decide)) (pa_cons (pv 0) (pa_cons pe_int pa_nil))) pe_int (nomark _)) (pe_lc (own := [("number", 7)]) rfl sc__law_otherwise.nd (pi_list (revK (K := K) (pv 4))) (blkOk_by (own := [("number", 7)]) (N := N__law_otherwise) (sc := defScope s__law_otherwise) (by decide +kernel)) (fun _ _ _ _ _ => (pg_name (i := 7) sc__law_otherwise.nd rfl (Or.inl rfl))) (fun _ _ _ _ _ => pts_nil) (fun _ _ _ _ _ => (pe_op op_sub pe_int (pv 7)))) (pe_callTy (listK (K := K)) (by rfl) m_list (by decide +kernel) (pa_cons (pv 4) pa_nil))))
        (pss_one (ps_expr (pe_bm PySem.F.plainAttrs_list PySem.F.slot_list_insert PySem.F.type_list_insert mt_insert (pv 3) (pa_cons (pe_def D__law_draw (hr.mono (by decide)) (pa_cons (pv 0) (pa_cons (pe_op op_add (pe_callB (lenK (K := K)) (by rfl) m_len (by decide +kernel) (pa_cons (pv 3) pa_nil)) pe_int) pa_nil))) (pa_cons (pe_def D__law_numbers (hr.mono (by decide)) (pa_cons (pv 5) pa_nil)) pa_nil)))))) pss_nil)))
        (pss_cons (ps_for PassesOwn.never rfl (pi_list (pv 2)) (pg_name (i := 4) sc__law_otherwise.nd rfl (Or.inl rfl))
          (pss_cons (ps_set (i := 5) sc__law_otherwise.nd rfl (Or.inl rfl) (pe_ifExp (pt_cmpR op_eq (pe_def D__law_draw (hr.mono (by decide)) (pa_cons (pv 0) (pa_cons pe_int pa_nil))) pe_int (nomark _)) (pe_lc (own := [("number", 7)]) rfl sc__law_otherwise.nd (pi_list (revK (K := K) (pv 4))) (blkOk_by (own := [("number", 7)]) (N := N__law_otherwise) (sc := defScope s__law_otherwise) (by decide +kernel)) (fun _ _ _ _ _ => (pg_name (i := 7) sc__law_otherwise.nd rfl (Or.inl rfl))) (fun _ _ _ _ _ => pts_nil) (fun _ _ _ _ _ => (pe_op op_sub pe_int (pv 7)))) (pe_callTy (listK (K := K)) (by rfl) m_list (by decide +kernel) (pa_cons (pv 4) pa_nil))))
        (pss_cons (ps_set (i := 6) sc__law_otherwise.nd rfl (Or.inl rfl) (pe_def D__law_draw (hr.mono (by decide)) (pa_cons (pv 0) (pa_cons (pe_callB (lenK (K := K)) (by rfl) m_len (by decide +kernel) (pa_cons (pv 5) pa_nil)) pa_nil))))
        (pss_one (ps_expr (pe_bm PySem.F.plainAttrs_list PySem.F.slot_list_insert PySem.F.type_list_insert mt_insert (pv 3) (pa_cons (pe_def D__law_draw (hr.mono (by decide)) (pa_cons (pv 0) (pa_cons (pe_op op_add (pe_callB (lenK (K := K)) (by rfl) m_len (by decide +kernel) (pa_cons (pv 3) pa_nil)) pe_int) pa_nil))) (pa_cons (pe_op op_add_str (pe_op op_add_str pe_str (pe_def D__law_numbers (hr.mono (by decide)) (pa_cons (pe_op (catK (K := K)) (pe_slice (slK (K := K)) (pv 5) (po_some (pv 6)) po_none) (pe_slice (slK (K := K)) (pv 5) po_none (po_some (pv 6)))) pa_nil))) pe_str) pa_nil))))))))
        (pss_one (ps_ret (pv 3)))))), ?_⟩
    obtain ⟨fw, _, _, lR, lG⟩ := dl.few n60
    walk_at "ev"; walk_at "nw"; rename_i c0 nc0 H1 s1 hc0
    have sBt : Same (Hid [t] H) (Hid [t, c0] H1) := fun x o e => by
      obtain ⟨n1, e1⟩ := hid_some e
      refine hid_get (s1 _ _ e1) fun m => ?_
      have : x = t ∨ x = c0 := by simpa using m
      rcases this with rfl | rfl
      · simp at n1
      · rw [e1] at nc0; cases nc0
    obtain ⟨tx, htx⟩ := hT.lst
    have ct : c0 ≠ t := fun z => by rw [z, htx] at nc0; cases nc0
    have ba := sBt _ _ ha
    have bb := sBt _ _ hb
    have bR := hR.mono sBt
    have bG := hG.mono sBt
    have st0 : StT (Hid [t, c0] H1) t c0 H1 [] := ⟨Same.refl _, hT.mono s1, hc0⟩
    have sx : ∀ {H' : Hp}, Same (Hid [t, c0] H1) (Hid [t, c0] H') → SameX t H H' := fun {H'} h x o nx e => (hid_some (h _ _ (sBt _ _ (hid_get e (by simp [nx]))))).2
    generalize Hid [t, c0] H1 = B at *
    walk_at "ev"
    refine ⟨⟨_, sql (st0.at ba)⟩, ?_⟩
    refine r_forS (bk := fun _ _ => False) (ct := fun _ _ => False) (seq_list (K := K) (a := a) bR) (fun dn σ H' => ∃ y4 y5 y6 y7 P, σ = [some (.ref t), some (.ref a), some (.ref b), some (.ref c0), y4, y5, y6, y7] ∧ StT B t c0 H' P ∧ RowsO dn (rowsP P) ∧ ringsP P = []) ⟨_, _, _, _, [], rfl, st0, ⟨fun _ h => (nomatch h), ⟨[], by simp [rowsP]⟩, .refl _, by simp [rowsP]⟩, rfl⟩ (fun _ _ _ ⟨_, _, _, _, _, _, s, _⟩ => sql (s.at ba)) ?_ ?_
    · rintro dn r rr v σ H4 e ⟨ev, rfl, he⟩ ⟨y4, y5, y6, y7, P, rfl, st, ro, er⟩
      have hr : r ∈ R := by rw [e]; simp
      have r60 := fw r (.inl hr)
      have he4 := st.at he
      have nel := dl.neR r hr
      have dln : dn.length < R.length := by have := congrArg List.length e; simp at this; omega
      have zl := parts_len P
      have hml : ((P.map partS).map V.str).length = P.length := by rw [List.length_map, List.length_map]
      rw [er] at zl
      have z0 : ([] : List (List Int)).length = 0 := rfl
      have Rl := ro.len
      refine Vf.r_gname ?_
      refine Vf.r_ifS (b := fun _ _ => True) ?_
      refine r_testJ (fun bb H' => (bb = false → r.length ≤ 1) ∧ StT B t c0 H' P) (fun R0 k => ?_) ?_
      · walk_at "ev"
        rw [List.length_map]
        refine ite2 (fun c1 => ?_) (fun c1 => ?_)
        · walk_at "ev"
          exact k _ _ ⟨fun z => (nomatch z), st⟩
        · have c1 : ¬ (1 : Int) < (r.length : Nat) := by simpa using c1
          walk_at "ev"
          refine ⟨st.T, by decide, by decide, fun r2 H5 r20 r21 b5 t5 => ?_⟩
          have st5 := (st.draw b5 t5 ct).1
          walk_at "ev"
          exact k _ _ ⟨fun _ => by omega, st5⟩
      rintro bb H5 ⟨hbb, st5⟩
      cases bb with
      | false =>
        walk_at "ev"
        exact ⟨_, _, _, _, P, rfl, st5, ro.skip (hbb rfl), er⟩
      | true =>
        have he5 := st5.at he
        refine L2.iteT ?_
        refine Vf.r_atS (σ' := [some (.ref t), some (.ref a), some (.ref b), some (.ref c0), some (.ref ev), y5, y6, y7]) rfl ?_
        refine r_seqJ (fun σ' H' => ∃ y6 y7 u o, σ' = [some (.ref t), some (.ref a), some (.ref b), some (.ref c0), some (.ref ev), some (.ref u), y6, y7] ∧ StT B t c0 H' P ∧ Hid [t, c0] H' u = some (.lst (List.map V.int o)) ∧ (o = r ∨ o = revn r)) (fun nx' k => ?_) ?_
        · walk_at "ev"
          refine ⟨st5.T, by decide, by decide, fun r3 H6 r30 r31 b6 t6 => ?_⟩
          have st6 := (st5.draw b6 t6 ct).1
          have he6 := st6.at he
          walk_at "ev"
          refine ite2 (fun _ => ?_) (fun _ => ?_)
          · refine Vf.r_lc ?_
            refine ⟨_, rfl, ev, _, rfl, sql he6, fun u nu => ?_⟩
            have su := same_new (o := .lst (r.map V.int).reverse) nu
            have hu' : upd H6 u (.lst (r.map V.int).reverse) u = some (.lst (r.reverse.map V.int)) := by rw [upd_same, List.map_reverse]
            generalize upd H6 u (.lst (r.map V.int).reverse) = H7 at su hu' ⊢
            refine ⟨u, rfl, ⟨_, sql hu'⟩, fun D2 nD2 => ?_⟩
            refine r_lcP (seq_list (rel := fun v (i : Int) => v = .int i) (L := r.reverse) (pair_map fun _ _ => rfl)) (fun _ => true) (fun i => .int (0 - i)) (by rw [List.length_reverse]; omega) nD2 (fun _ s => s.seq (sql hu')) ?_ ?_
            · intro x v H8 acc hx hv s8 ha8 hz N h1 h2
              subst hv
              walk_at "ev"
              exact ⟨acc, ha8, hz, h1 rfl⟩
            rw [filt_t, show (r.reverse.map fun i => V.int (0 - i)) = (revn r).map V.int by unfold revn; rw [List.map_map]; rfl]
            have s8 := same_new (o := .lst ((revn r).map V.int)) nD2
            have hD2 : upd H7 D2 (.lst ((revn r).map V.int)) D2 = some (.lst ((revn r).map V.int)) := upd_same
            generalize upd H7 D2 (.lst ((revn r).map V.int)) = H8 at s8 hD2 ⊢
            have fr := st6.fresh (su.free nD2)
            walk_at "ev"
            exact k _ _ ⟨_, _, D2, revn r, rfl, st6.new (su.trans s8), hid_get hD2 fr, .inr rfl⟩
          · walk_at "ev"
            intro u nu
            have su := same_new (o := .lst (r.map V.int)) nu
            have hu : upd H6 u (.lst (r.map V.int)) u = some (.lst (r.map V.int)) := upd_same
            generalize upd H6 u (.lst (r.map V.int)) = H7 at su hu ⊢
            walk_at "ev"
            exact k _ _ ⟨_, _, u, r, rfl, st6.new su, hid_get hu (st6.fresh nu), .inl rfl⟩
        rintro σ' H6 ⟨y6', y7', u, o, rfl, st6, hu6, ho⟩
        have pa : (o.map ab).Perm (r.map ab) := by rcases ho with rfl | rfl; exact .refl _; exact revn_ab _
        have ol : o.length = r.length := by have := pa.length_eq; simpa using this
        have ps : (steps o).Perm (steps r) := by rcases ho with rfl | rfl; exact .refl _; rw [revn_steps]; exact List.reverse_perm _
        have ol60 : o.length ≤ 60 := by omega
        have o60 : ∀ x ∈ o, x.natAbs ≤ 60 := fun x hx => nab60 dl n60 (.inl hr) pa hx
        have hc6 := st6.hc
        walk_at "ev"
        refine ⟨tyL hc6, ?_⟩
        walk_at "ev"
        refine ⟨st6.T, by omega, by omega, fun i H7 i0 i1 b7 t7 => ?_⟩
        obtain ⟨st7, eh⟩ := st6.draw b7 t7 ct
        have hu7 := hu6
        rw [← eh] at hu7
        walk_at "ev"
        refine ⟨u, o, rfl, (hid_some hu7).2, by omega, o60, fun H8 s8 => ?_⟩
        have st8 := st7.new s8
        obtain ⟨ri1, ri2⟩ := ins_row P o i.toNat
        refine ⟨c0, _, i, .str (rdS o), rfl, rfl, st8.hc, szs (by rw [List.length_map, List.length_map]; omega), i0, by omega, ?_⟩
        exact ⟨_, _, _, _, _, rfl, st8.ins ct (false, o) i.toNat, ro.add nel pa ps ri1, ri2.trans er⟩
    rintro σ H4 ⟨y4, y5, y6, y7, P, rfl, st, ro, er⟩
    walk_at "ev"
    refine ⟨⟨_, sql (st.at bb)⟩, ?_⟩
    refine r_forS (bk := fun _ _ => False) (ct := fun _ _ => False) (seq_list (K := K) (a := b) bG) (fun dn σ H' => ∃ y4 y5 y6 y7 P2, σ = [some (.ref t), some (.ref a), some (.ref b), some (.ref c0), y4, y5, y6, y7] ∧ StT B t c0 H' P2 ∧ rowsP P2 = rowsP P ∧ RingsO dn (ringsP P2)) ⟨_, _, _, _, P, rfl, st, rfl, by rw [er]; exact ⟨fun _ h => (nomatch h), .refl _, .refl _, rfl⟩⟩ (fun _ _ _ ⟨_, _, _, _, _, _, s, _⟩ => sql (s.at bb)) ?_ ?_
    · rintro dn r rr v σ H5 e ⟨ev, rfl, he⟩ ⟨y4, y5, y6, y7, P2, rfl, st5, eR, go⟩
      have hr : r ∈ G := by rw [e]; simp
      have r60 := fw r (.inr hr)
      have he5 := st5.at he
      have nel := dl.neG r hr
      have dln : dn.length < G.length := by have := congrArg List.length e; simp at this; omega
      have zl := parts_len P2
      have hml : ((P2.map partS).map V.str).length = P2.length := by rw [List.length_map, List.length_map]
      have Rl := ro.len
      rw [eR] at zl
      have Gl := go.len
      have rpos : 0 < r.length := by cases r with | nil => exact absurd rfl nel | cons _ _ => simp
      refine Vf.r_gname ?_
      refine Vf.r_atS (σ' := [some (.ref t), some (.ref a), some (.ref b), some (.ref c0), some (.ref ev), y5, y6, y7]) rfl ?_
      refine r_seqJ (fun σ' H' => ∃ y6 y7 u o, σ' = [some (.ref t), some (.ref a), some (.ref b), some (.ref c0), some (.ref ev), some (.ref u), y6, y7] ∧ StT B t c0 H' P2 ∧ Hid [t, c0] H' u = some (.lst (List.map V.int o)) ∧ (o = r ∨ o = revn r)) (fun nx' k => ?_) ?_
      · walk_at "ev"
        refine ⟨st5.T, by decide, by decide, fun r3 H6 r30 r31 b6 t6 => ?_⟩
        have st6 := (st5.draw b6 t6 ct).1
        have he6 := st6.at he
        walk_at "ev"
        refine ite2 (fun _ => ?_) (fun _ => ?_)
        · refine Vf.r_lc ?_
          refine ⟨_, rfl, ev, _, rfl, sql he6, fun u nu => ?_⟩
          have su := same_new (o := .lst (r.map V.int).reverse) nu
          have hu' : upd H6 u (.lst (r.map V.int).reverse) u = some (.lst (r.reverse.map V.int)) := by rw [upd_same, List.map_reverse]
          generalize upd H6 u (.lst (r.map V.int).reverse) = H7 at su hu' ⊢
          refine ⟨u, rfl, ⟨_, sql hu'⟩, fun D2 nD2 => ?_⟩
          refine r_lcP (seq_list (rel := fun v (i : Int) => v = .int i) (L := r.reverse) (pair_map fun _ _ => rfl)) (fun _ => true) (fun i => .int (0 - i)) (by rw [List.length_reverse]; omega) nD2 (fun _ s => s.seq (sql hu')) ?_ ?_
          · intro x v H8 acc hx hv s8 ha8 hz N h1 h2
            subst hv
            walk_at "ev"
            exact ⟨acc, ha8, hz, h1 rfl⟩
          rw [filt_t, show (r.reverse.map fun i => V.int (0 - i)) = (revn r).map V.int by unfold revn; rw [List.map_map]; rfl]
          have s8 := same_new (o := .lst ((revn r).map V.int)) nD2
          have hD2 : upd H7 D2 (.lst ((revn r).map V.int)) D2 = some (.lst ((revn r).map V.int)) := upd_same
          generalize upd H7 D2 (.lst ((revn r).map V.int)) = H8 at s8 hD2 ⊢
          have fr := st6.fresh (su.free nD2)
          walk_at "ev"
          exact k _ _ ⟨_, _, D2, revn r, rfl, st6.new (su.trans s8), hid_get hD2 fr, .inr rfl⟩
        · walk_at "ev"
          intro u nu
          have su := same_new (o := .lst (r.map V.int)) nu
          have hu : upd H6 u (.lst (r.map V.int)) u = some (.lst (r.map V.int)) := upd_same
          generalize upd H6 u (.lst (r.map V.int)) = H7 at su hu ⊢
          walk_at "ev"
          exact k _ _ ⟨_, _, u, r, rfl, st6.new su, hid_get hu (st6.fresh nu), .inl rfl⟩
      rintro σ' H6 ⟨y6', y7', u, o, rfl, st6, hu6, ho⟩
      have pa : (o.map ab).Perm (r.map ab) := by rcases ho with rfl | rfl; exact .refl _; exact revn_ab _
      have ol : o.length = r.length := by have := pa.length_eq; simpa using this
      have ps : (ringC o).Perm (ringC r) := by rcases ho with rfl | rfl; exact .refl _; exact ring_rev _
      have hu6' := (hid_some hu6).2
      walk_at "ev"
      rw [List.length_map]
      refine ⟨st6.T, by omega, by omega, fun at' H7 a0 a1 b7 t7 => ?_⟩
      obtain ⟨j, rfl⟩ : ∃ j : Nat, at' = j := ⟨at'.toNat, by omega⟩
      obtain ⟨st7, eh⟩ := st6.draw b7 t7 ct
      have hu7 := hu6
      rw [← eh] at hu7
      have hd7 := st7.hc
      walk_at "ev"
      refine ⟨tyL hd7, ?_⟩
      walk_at "ev"
      refine ⟨st7.T, by omega, by omega, fun i H8 i0 i1 b8 t8 => ?_⟩
      obtain ⟨st8, eh8⟩ := st7.draw b8 t8 ct
      have hu8 := hu7
      rw [← eh8] at hu8
      have hu8' := (hid_some hu8).2
      walk_at "ev"
      refine ⟨u, _, rfl, sql hu8', fun g1 ng1 => ?_⟩
      rw [cut_from, ← List.map_drop]
      have sg1 := same_new (o := .lst ((o.drop j).map V.int)) ng1
      have hg1 : upd H8 g1 (.lst ((o.drop j).map V.int)) g1 = some (.lst ((o.drop j).map V.int)) := upd_same
      generalize upd H8 g1 (.lst ((o.drop j).map V.int)) = H9 at sg1 hg1 ⊢
      walk_at "ev"
      refine ⟨u, _, rfl, sql (sg1 _ _ hu8'), fun g2 ng2 => ?_⟩
      rw [cut_to, ← List.map_take]
      have sg2 := same_new (o := .lst ((o.take j).map V.int)) ng2
      have hg2 : upd H9 g2 (.lst ((o.take j).map V.int)) g2 = some (.lst ((o.take j).map V.int)) := upd_same
      generalize upd H9 g2 (.lst ((o.take j).map V.int)) = Ha at sg2 hg2 ⊢
      walk_at "ev"
      refine ⟨g1, g2, _, _, rfl, rfl, sql (sg2 _ _ hg1), sql hg2, szl (by rw [List.length_map, List.length_map, List.length_drop, List.length_take]; omega), fun g3 ng3 => ?_⟩
      rw [← List.map_append]
      have sg3 := same_new (o := .lst ((o.drop j ++ o.take j).map V.int)) ng3
      have hg3 : upd Ha g3 (.lst ((o.drop j ++ o.take j).map V.int)) g3 = some (.lst ((o.drop j ++ o.take j).map V.int)) := upd_same
      generalize upd Ha g3 (.lst ((o.drop j ++ o.take j).map V.int)) = Hb at sg3 hg3 ⊢
      have st9 := st8.new (sg1.trans sg2)
      have fr := st9.fresh ng3
      have sta := st9.new sg3
      have o60 : ∀ x ∈ o.drop j ++ o.take j, x.natAbs ≤ 60 := fun x hx => nab60 dl n60 (.inr hr) ((turn_ab o j).trans pa) hx
      have gl : (o.drop j ++ o.take j).length ≤ 60 := by rw [List.length_append, List.length_drop, List.length_take]; omega
      have rl := rdS_len o60
      walk_at "ev"
      refine ⟨g3, o.drop j ++ o.take j, rfl, hg3, by omega, o60, fun Hc sc => ?_⟩
      walk_at "ev"
      refine ⟨_, _, rfl, rfl, szl (by rw [len_po]; omega), ?_⟩
      walk_at "ev"
      refine ⟨_, _, rfl, rfl, szl (by rw [str_app_len, len_po, len_pc]; omega), ?_⟩
      have stb := sta.new sc
      obtain ⟨ri1, ri2⟩ := ins_ring P2 (o.drop j ++ o.take j) i.toNat
      refine ⟨c0, _, i, .str (partS (true, o.drop j ++ o.take j)), rfl, rfl, stb.hc, szs (by rw [List.length_map, List.length_map]; omega), i0, by omega, ?_⟩
      exact ⟨_, _, _, _, _, rfl, stb.ins ct (true, o.drop j ++ o.take j) i.toNat, ri2.trans eR, go.add nel ((turn_ab o j).trans pa) ((turn_ring o j).trans ps) ri1⟩
    rintro σ H5 ⟨y4, y5, y6, y7, P2, rfl, st5, eR, go⟩
    walk_at "ev"
    exact q c0 P2 H5 (by rw [eR]; exact ro) go (sx st5.s) st5.T nc0 st5.hc
end
end V15
namespace V15
open PySem PySem.Spec PyProof.Rows L2 Vf
section
variable {P : Program} {w : World} {K : PySem.W.Frag} {mg : Str → Option Value} {base : Heap}
theorem ok__law_right {f : Addr} {fd : FuncData} (F : Fun K "_law_right" "_law_right" s__law_right f fd) (D__law_chains : Def P w K mg base 2 "_law_chains" ["tap", "pieces"] (sp__law_chains K)) (D__law_draw : Def P w K mg base 1 "_law_draw" ["tap", "bound"] (sp__law_draw K)) (D__law_coupled : Def P w K mg base 2 "_law_coupled" ["rows", "rings"] (sp__law_coupled K)) (D__law_normal : Def P w K mg base 1 "_law_normal" ["rows", "rings"] (sp__law_normal K)) (D__law_text : Def P w K mg base 2 "_law_text" ["rows", "rings"] (sp__law_text K)) (D_read_layout : DefR P w K mg base 4 "read_layout" ["pieces", "text"] (sp_read_layout K)) (D_show_layout : DefR P w K mg base 5 "show_layout" ["pieces", "layout"] (sp_show_layout K)) (D__law_otherwise : Def P w K mg base 2 "_law_otherwise" ["tap", "rows", "rings"] (sp__law_otherwise K)) (m_range : mg "range" = none) (m_list : mg "list" = none) (m_repr : mg "repr" = none) (m_str : mg "str" = none) : FnG P w K mg base CX0 6 f fd ["tap"] (sp__law_right K) := by
  refine okG0 F sc__law_right (fun vs H Q E h => ?_) (fun cdv A outer s H vs Q E hr hgd h => ?_)
  · obtain ⟨_, rfl, _⟩ := h
    rfl
  · have hu := hu_of hr
    obtain ⟨t, rfl, hT, q⟩ := h
    refine ⟨_, (pss_cons (ps_set (i := 1) sc__law_right.nd rfl (Or.inl rfl) (pe_op op_add pe_int (pe_def D__law_draw (hr.mono (by decide)) (pa_cons (pv 0) (pa_cons (pe_ix (ixL (K := K)) (pe_lst (pa_cons pe_int (pa_cons pe_int pa_nil))) (pe_def D__law_draw (hr.mono (by decide)) (pa_cons (pv 0) (pa_cons pe_int pa_nil))) (fun _ _ => rfl)) pa_nil)))))
        (pss_cons (ps_asg (pe_def D__law_chains (hr.mono (by decide)) (pa_cons (pv 0) (pa_cons (pv 1) pa_nil))) (pg_lst rfl (pgs_cons (pg_name (i := 2) sc__law_right.nd rfl (Or.inl rfl)) (pgs_cons (pg_name (i := 3) sc__law_right.nd rfl (Or.inl rfl)) pgs_nil))))
        (pss_cons (ps_par (i := 4) (j := 5) (by rfl) sc__law_right.nd rfl rfl (by decide) rfl rfl (pa_cons (pe_def D__law_coupled (hr.mono (by decide)) (pa_cons (pv 2) (pa_cons (pv 3) pa_nil))) (pa_cons (pe_def D__law_normal (hr.mono (by decide)) (pa_cons (pv 2) (pa_cons (pv 3) pa_nil))) pa_nil)) (by rfl))
        (pss_cons (ps_par (i := 6) (j := 7) (by rfl) sc__law_right.nd rfl rfl (by decide) rfl rfl (pa_cons (pe_callTy (listK (K := K)) (by rfl) m_list (by decide +kernel) (pa_cons (pv 4) pa_nil)) (pa_cons (pe_def D__law_text (hr.mono (by decide)) (pa_cons (pe_ix (ixL (K := K)) (pv 5) pe_int (fun _ _ => rfl)) (pa_cons (pe_ix (ixL (K := K)) (pv 5) pe_int (fun _ _ => rfl)) pa_nil))) pa_nil)) (by rfl))
        (pss_cons (ps_if (PW.pt (pw_or (pt_cmpR op_ne (pe_defR D_show_layout (E := E0) passR0 (hr.mono (by decide)) hgd (pa_cons (pv 1) (pa_cons (pv 6) pa_nil))) (pv 7) (nomark _)) (pw_or1 (pt_cmpR (neD (K := K) hr.units) (pv 6) (pv 4) (nomark _))))) (pss_one (ps_ret pe_bl)) pss_nil)
        (pss_cons (ps_for PassesOwn.never rfl (pi_range1 (by rfl) m_range (pa_cons pe_int pa_nil)) (pg_name (i := 8) sc__law_right.nd rfl (Or.inl rfl))
          (pss_cons (ps_set (i := 9) sc__law_right.nd rfl (Or.inl rfl) (pe_defR D_read_layout (E := E0) passR0 (hr.mono (by decide)) hgd (pa_cons (pv 1) (pa_cons (pv 7) pa_nil))))
        (pss_cons (ps_if (pt_cmpR op_ne (pe_callB (reprK (K := K) hgd hr) (by rfl) m_repr (by decide +kernel) (pa_cons (pv 9) pa_nil)) (pe_callB (reprK (K := K) hgd hr) (by rfl) m_repr (by decide +kernel) (pa_cons (pv 4) pa_nil)) (nomark _)) (pss_one (ps_ret pe_bl)) pss_nil)
        (pss_cons (ps_expr (pe_bm PySem.F.plainAttrs_list PySem.F.slot_list_append PySem.F.type_list_append mt_append (pv 9) (pa_cons (pe_tup (pa_cons pe_int (pa_cons pe_int pa_nil))) pa_nil)))
        (pss_one (ps_set (i := 7) sc__law_right.nd rfl (Or.inl rfl) (pe_join pe_str (pe_def D__law_otherwise (hr.mono (by decide)) (pa_cons (pv 0) (pa_cons (pv 2) (pa_cons (pv 3) pa_nil)))))))))))
        (pss_one (ps_ret (pe_and (pe_cmpR (eqNilK (K := K) hr.units0) (pe_defR D_read_layout (E := E0) passR0 (hr.mono (by decide)) hgd (pa_cons (pv 1) (pa_cons pe_str pa_nil))) (pe_lst pa_nil) (nomark _)) (pe_one (pe_cmpR op_eq (pe_defR D_show_layout (E := E0) passR0 (hr.mono (by decide)) hgd (pa_cons (pv 1) (pa_cons (pe_lst pa_nil) pa_nil))) (pe_join pe_str (pe_lc (own := [("k", 10)]) rfl sc__law_right.nd (pi_range1 (by rfl) m_range (pa_cons (pv 1) pa_nil)) (blkOk_by (own := [("k", 10)]) (N := N__law_right) (sc := defScope s__law_right) (by decide +kernel)) (fun _ _ _ _ _ => (pg_name (i := 10) sc__law_right.nd rfl (Or.inl rfl))) (fun _ _ _ _ _ => pts_nil) (fun _ _ _ _ _ => (pe_callTy strK (by rfl) m_str (by decide +kernel) (pa_cons (pe_op op_add (pv 10) pe_int) pa_nil))))) (nomark _)))))))))))), ?_⟩
    walk_at "ev"; walk_at "nw"; rename_i p0 np0 H1 s1 hp0'
    have hp0 : H1 p0 = some (.lst (([6, 60] : List Int).map V.int)) := hp0'
    have hp0t : p0 ≠ t := fun z => by obtain ⟨tx, htx⟩ := hT.lst; rw [z, htx] at np0; cases np0
    walk_at "ev"
    refine ⟨hT.mono s1, by decide, by decide, fun r H2 r0 r1 b2 t2 => ?_⟩
    obtain ⟨v, hv, hv2⟩ := at_int (ns := [6, 60]) r0 r1
    have hv3 : v = 6 ∨ v = 60 := by simpa using List.mem_of_getElem? hv2
    refine r_ixL (sql ((b2 p0 hp0t).trans hp0)) hv ?_
    walk_at "ev"
    refine ⟨t2, by omega, by omega, fun r' H3 r0' r1' b3 t3 => ?_⟩
    have x3 : SameX t H H3 := ((SameX.of s1).trans (SameX.ofBut b2)).trans (SameX.ofBut b3)
    generalize hn : 1 + r' = n
    have n1 : 1 ≤ n := by omega
    have n60 : n ≤ 60 := by omega
    walk_at "evS"
    refine Vf.r_seq ?_
    walk_at "evS"
    rw [hn]
    refine ⟨t3, n1, n60, fun p a b R G H4 dl x4 t4 np na nb hp la lb => ?_⟩
    have x04 := x3.trans x4
    refine r_glst (sql hp) rfl ?_
    have la' := la.mono hid_le
    have lb' := lb.mono hid_le
    obtain ⟨f1, f2, f3, f4, f5⟩ := dl.few n60
    obtain ⟨k1, k2, _⟩ := (Oth.refl dl).ok dl n60
    walk_at "evS"
    refine Vf.r_seq ?_
    walk_at "ev"
    refine ⟨a, b, R, G, rfl, la', lb', fun r hr => Nat.le_trans (f1 r hr) (by decide), by omega, f3, fun c H5 ys M s5 nc hc hM pm asc => ?_⟩
    have hL := dl.lay n1 n60 pm asc
    have hN := (dl.sys pm).normal
    have t5 := t4.mono s5
    have kc := tap_no t5 hc hM
    have la5 := la.mono (hid_same (t := [t]) s5)
    have lb5 := lb.mono (hid_same (t := [t]) s5)
    have num := hN.toSys.numR n60
    walk_at "ev"
    refine ⟨a, b, R, G, rfl, la5.mono hid_le, lb5.mono hid_le, dl.neR, dl.neG, fun r hr => Nat.le_trans (f1 r hr) (by decide), by omega, by omega, fun d c1 d1 H6 s6 nd hd hc1 hd1 => ?_⟩
    have hc6 := s6 _ _ hc
    walk_at "evS"
    refine Vf.r_seq ?_
    walk_at "ev"
    intro g ng
    have s7 := same_new (o := .lst ys) ng
    have hg : upd H6 g (.lst ys) g = some (.lst ys) := upd_same
    generalize upd H6 g (.lst ys) = H7 at s7 hg ⊢
    generalize hRS : srtR (R.map nrow) = RS at *
    generalize hGS : srtR (G.map nring) = GS at *
    have few : ∀ r, r ∈ RS ∨ r ∈ GS → r.length ≤ 60 ∧ ∀ x ∈ r, x.natAbs ≤ 60 := fun r hr => by
      have hr : r ∈ R.map nrow ∨ r ∈ G.map nring := hr.imp (fun z => (srtR_perm _).mem_iff.mp (hRS ▸ z)) (fun z => (srtR_perm _).mem_iff.mp (hGS ▸ z))
      refine ⟨hN.toSys.few n60 hr, fun x hx => ?_⟩
      have := hr.elim (fun z => hN.toSys.rangeR z hx) fun z => hN.toSys.rangeG z hx
      unfold ab at this; omega
    have lR : RS.length ≤ 60 := by rw [← hRS, (srtR_perm _).length_eq]; exact num.1
    have lG : GS.length ≤ 60 := by rw [← hGS, (srtR_perm _).length_eq]; exact num.2
    have hd7 := s7 _ _ hd
    walk_at "ev"
    refine ⟨c1, d1, RS, GS, rfl, hc1.mono s7, hd1.mono s7, few, lR, lG, fun H8 s8 => ?_⟩
    have hg8 := s8 _ _ hg
    have s58 := s6.trans (s7.trans s8)
    have hM8 := hM.mono s58
    have hc8 := s58 _ _ hc
    walk_at "ev"
    refine ⟨n, g, ys, M, R.map nrow, G.map nring, rfl, hL, hg8, hM8, hN, fun H9 s9 => ?_⟩
    rw [hRS, hGS]
    walk_at "ev"
    have hc9 := s9 _ _ hc8
    have hM9 := hM8.mono s9
    refine r_neD (dp_lay (sql (s9 _ _ hg8)) hM9) (dp_lay (sql hc9) hM9) hL.small (by omega) ?_
    have s59 := s58.trans s9
    have t9 := t5.mono s59
    have la9 := la5.mono (hid_same (t := [t]) s59)
    have lb9 := lb5.mono (hid_same (t := [t]) s59)
    have okW : TxtOk n (wrap false RS ++ wrap true GS) M := by
      obtain ⟨z1, z2⟩ := rows_wrap RS GS
      have hS := (hN.perm (hRS ▸ srtR_perm _) (hGS ▸ srtR_perm _) : NSys n M RS GS)
      obtain ⟨o1, o2⟩ := sys_rdok n1 n60 hS.toSys
      exact txt_ok n60 (by rw [z1]; exact o1) (by rw [z1, z2]; exact o2) (by rw [z1, z2]; exact hS.cp)
    walk_at "ev"
    refine ⟨by decide, by decide, ?_⟩
    refine r_forS (bk := fun _ _ => False) (ct := fun _ _ => False) seq_range (fun dn σ H' => ∃ y8 y9 y10 P, σ = [some (.ref t), some (.int n), some (.ref a), some (.ref b), some (.ref c), some (.ref d), some (.ref g), some (.str (txtP P)), y8, y9, y10] ∧ SameX t H9 H' ∧ Tap H' t ∧ TxtOk n P M) ⟨_, _, _, _, rfl, SameX.refl, t9, okW⟩ (fun _ _ _ _ => trivial) ?_ ?_
    · rintro dn j rj v0 σ Ha e rfl ⟨y8, y9, y10, P0, rfl, xa, ta, ok⟩
      have hs := hid_samex xa
      have hca := xa _ _ kc hc9
      have hMa : Prs Ha ys M := xa.prs (t9.lst.choose_spec) (fun _ z => nomatch z) hM9
      walk_at "ev"
      refine ⟨n, P0, M, rfl, hL, ok, fun u zs Hb sb nu hu hzs => ?_⟩
      walk_at "ev"
      refine hL.small.rep (by omega) (by omega) (dp_lay (sql hu) hzs) ?_
      walk_at "ev"
      refine hL.small.rep (by omega) (by omega) (dp_lay (sql (sb _ _ hca)) (hMa.mono sb)) ?_
      walk_at "ev"
      have xa' : SameX t Ha Hb := SameX.of sb
      have tb := ta.mono sb
      have ut : u ≠ t := fun z => by obtain ⟨tx, htx⟩ := ta.lst; rw [z, htx] at nu; cases nu
      have zl := pair_len hzs
      refine ⟨tyL hu, ?_⟩
      walk_at "ev"; walk_at "nw"; rename_i tu ntu Hc sc htu
      walk_at "ev"
      refine r_app (sc _ _ hu) (szs (by have := hL.len; omega)) ?_
      have sbc := Vf.Same.set (sb.trans sc) nu (o := .lst (zs ++ [.ref tu]))
      have tc := tap_upd (o := .lst (zs ++ [.ref tu])) (tb.mono sc) ut
      generalize upd Hc u (.lst (zs ++ [.ref tu])) = Hd at sbc tc ⊢
      have x9d := xa.trans (SameX.of sbc)
      have hsd := hid_samex x9d
      walk_at "ev"
      refine ⟨⟨_, rfl⟩, ?_⟩
      walk_at "ev"
      refine ⟨t, a, b, n, R, G, rfl, tc, dl, n60, la9.mono hsd, lb9.mono hsd, fun p' P' He ro go xe te np' hp' => ?_⟩
      obtain ⟨o1, o2, o3⟩ := (Oth.of ro go).ok dl n60
      have ok' := txt_ok n60 o1 o2 (o3.trans pm.symm)
      have tl := (txt_len (P := P') fun p hp x hx => by
        have := ok'.rg x (List.mem_flatMap.mpr ⟨p, hp, hx⟩)
        unfold ab at this; omega).2.1
      rw [partL_eq] at tl
      have t1 := ok'.len
      have t2 := ok'.many
      refine ⟨_, p', P'.map partS, rfl, rfl, .inl (sql hp'), Nat.le_trans tl (by omega), ?_⟩
      walk_at "ev"
      exact ⟨_, _, _, P', rfl, x9d.trans xe, te, ok'⟩
    rintro σ Ha ⟨y8, y9, y10, P0, rfl, xa, ta, ok⟩
    have n0 : Lay n [] := ⟨n1, n60, fun _ h => (nomatch h), List.Pairwise.nil, List.nodup_nil⟩
    walk_at "ev"
    refine ⟨n, [], [], by rw [txt_nil]; rfl, n0, ⟨fun _ h => (nomatch h), List.nodup_nil, fun _ h => (nomatch h), .refl _, by decide, by decide⟩, fun u zs Hb sb nu hu hzs => ?_⟩
    have zn : zs = [] := by cases hzs; rfl
    subst zn
    walk_at "ev"
    walk_at "nw"; rename_i e1 ne1 Hc sc he1
    refine ⟨u, e1, [], rfl, rfl, sql (sc _ _ hu), he1, ?_⟩
    walk_at "ev"
    walk_at "nw"; rename_i e2 ne2 Hd sd he2
    walk_at "ev"
    refine ⟨n, e2, [], [], ones n, [], rfl, n0, he2, .nil, ones_nsys, fun He se => ?_⟩
    rw [ones_txt]
    walk_at "ev"
    refine ⟨⟨_, rfl⟩, ?_⟩
    walk_at "ev"
    refine ⟨by omega, by omega, fun D nD => ?_⟩
    refine r_lcP seq_range (fun _ => true) (fun k => .str (nS (k + 1))) (by rw [rng_len]; omega) nD (fun _ _ => trivial) ?_ ?_
    · intro k v Hf acc hk hv sf haf hz N h1 h2
      subst hv
      have hk := mem_rng.mp hk
      walk_at "ev"
      exact ⟨log_small (by omega), acc, haf, hz, h1 rfl⟩
    rw [filt_t, show (rng 0 n.toNat).map (fun k => V.str (nS (k + 1))) = ((rng 1 n.toNat).map nS).map V.str by rw [List.map_map, ← rng_up, List.map_map]; rfl]
    refine ⟨_, D, (rng 1 n.toNat).map nS, rfl, rfl, .inl (sql upd_same), ones_len n60, ?_⟩
    walk_at "ev"
    rw [decide_eq_true rfl]
    have sD := same_new (o := .lst (((rng 1 n.toNat).map nS).map V.str)) nD
    exact q _ (x04.trans ((SameX.of (s5.trans s59)).trans (xa.trans (SameX.of (sb.trans (sc.trans (sd.trans (se.trans sD))))))))
end
end V15
namespace V15
open PySem PySem.Spec PyProof.Rows L2 Vf
section
variable {P : Program} {w : World} {K : PySem.W.Frag} {mg : Str → Option Value} {base : Heap}
theorem ok_law {f : Addr} {fd : FuncData} (F : Fun K "law" "law" s_law f fd) (D__law_cells : Def P w K mg base 1 "_law_cells" ["script", "many"] (sp__law_cells K)) (D__law_right : DefG P w K mg base 6 "_law_right" ["tap"] (sp__law_right K)) (D__law_tap : Def P w K mg base 1 "_law_tap" ["cell", "turn"] (sp__law_tap K)) (m_range : mg "range" = none) (m_len : mg "len" = none) : FnG P w K mg base CX0 7 f fd ["script"] (sp_law K) := by
  refine okG0 F sc_law (fun vs H Q E h => ?_) (fun cdv A outer s H vs Q E hr hgd h => ?_)
  · obtain ⟨_, _, rfl, _⟩ := h
    rfl
  · have hu := hu_of hr
    obtain ⟨a, ns, rfl, hS, hl, q⟩ := h
    refine ⟨_, (pss_cons (ps_set (i := 1) sc_law.nd rfl (Or.inr rfl) (pe_def D__law_cells (hr.mono (by decide)) (pa_cons (pv 0) (pa_cons pe_int pa_nil))))
        (pss_one (ps_ret (pe_cmpR (eqD (K := K) hr.units) (pe_lc (own := [("k", 2)]) rfl sc_law.nd (pi_range1 (by rfl) m_range (pa_cons (pe_callB (lenK (K := K)) (by rfl) m_len (by decide +kernel) (pa_cons (pv 1) pa_nil)) pa_nil)) (blkOk_by (own := [("k", 2)]) (N := N_law) (sc := defScope s_law) (by decide +kernel)) (fun _ _ _ _ _ => (pg_name (i := 2) sc_law.nd rfl (Or.inl rfl))) (fun _ _ _ _ _ => pts_one (pt_not (pt_val (pe_defG D__law_right (hr.mono (by decide)) hgd (pa_cons (pe_def D__law_tap (hr.mono (by decide)) (pa_cons (pe_ix (ixL (K := K)) (pv 1) (pv 2) (fun _ _ => rfl)) (pa_cons (pv 2) pa_nil))) pa_nil))))) (fun _ _ _ _ _ => (pv 2))) (pe_lst pa_nil) (nomark _))))), ?_⟩
    walk_at "ev"
    refine ⟨a, ns, 6, rfl, hS, hl, by decide, by decide, fun c H1 cs s1 nc hc hcl => ?_⟩
    walk_at "ev"
    rw [List.length_map]
    refine ⟨by omega, by omega, fun D nD => ?_⟩
    refine r_lcS seq_range (fun d H' => Same H1 H' ∧ H' D = some (.lst [])) ⟨same_new nD, upd_same⟩ (fun _ _ _ => trivial) ?_ ?_
    · rintro d k r v H2 e rfl ⟨s2, h2⟩
      have hk : 0 ≤ k ∧ k < 0 + (((cs.length : Int)).toNat : Int) := mem_rng.mp (by rw [e]; simp)
      obtain ⟨x, hx, _⟩ := at_int (ns := cs) (r := k) hk.1 (by omega)
      walk_at "ev"
      refine r_ixL (sql (s2 _ _ hc)) hx ?_
      walk_at "ev"
      refine ⟨hk.1, by omega, fun p H3 s3 np tp => ?_⟩
      walk_at "ev"
      refine ⟨tp, fun H4 x4 => ?_⟩
      walk_at "ev"
      refine ⟨x4.same (s2.trans s3) (s2.free np), x4 _ _ (ne_of_none h2 np) (s3 _ _ h2)⟩
    · rintro H2 ⟨s2, h2⟩
      walk_at "ev"
      refine ⟨szl (by show 0 ≤ 100000; decide), fun z nz => ?_⟩
      exact r_eqI1 (ns := []) (dp_ints (sql (same_new nz _ _ h2))) (dp_ints (sql upd_same)) (q _)
end
end V15
namespace V15
open PySem PySem.Spec PyProof.Rows L2 Vf
theorem all_mk {l : PySem.W.OpenLaw} {w : World} {K : PySem.W.Frag} {h : Heap} {mg : Str → Option Value} {fa : Addr} (X : K.In h) (G : h.Ns mainGlobals mg) (hfa : mg "law" = some (.ref fa))
    {f0 : Addr} {od0 an0 : Option Addr} {sl0 : Array (Option Value)} {oc0 kV0 dc0 pm0 cd0 ct0 : Value}
    (a0 : PySem.W.nsIn K mainGlobals "is_integer" = some (some (.ref f0))) (l0 : K.lookup f0 = some ⟨oc0, od0, .func (PySem.W.fnOf "is_integer" "is_integer" (defArgs s_is_integer) (defBody s_is_integer) (defScope s_is_integer) .none kV0 dc0 pm0 an0 cd0 ct0), sl0⟩) (c0 : PySem.W.codeIn K cd0 "is_integer" = true) (k0 : PySem.W.keepIn K (.ref f0) = true)
    {f1 : Addr} {od1 an1 : Option Addr} {sl1 : Array (Option Value)} {oc1 kV1 dc1 pm1 cd1 ct1 : Value}
    (a1 : PySem.W.nsIn K mainGlobals "are_integers" = some (some (.ref f1))) (l1 : K.lookup f1 = some ⟨oc1, od1, .func (PySem.W.fnOf "are_integers" "are_integers" (defArgs s_are_integers) (defBody s_are_integers) (defScope s_are_integers) .none kV1 dc1 pm1 an1 cd1 ct1), sl1⟩) (c1 : PySem.W.codeIn K cd1 "are_integers" = true) (k1 : PySem.W.keepIn K (.ref f1) = true)
    {f2 : Addr} {od2 an2 : Option Addr} {sl2 : Array (Option Value)} {oc2 kV2 dc2 pm2 cd2 ct2 : Value}
    (a2 : PySem.W.nsIn K mainGlobals "couplings_in" = some (some (.ref f2))) (l2 : K.lookup f2 = some ⟨oc2, od2, .func (PySem.W.fnOf "couplings_in" "couplings_in" (defArgs s_couplings_in) (defBody s_couplings_in) (defScope s_couplings_in) .none kV2 dc2 pm2 an2 cd2 ct2), sl2⟩) (c2 : PySem.W.codeIn K cd2 "couplings_in" = true) (k2 : PySem.W.keepIn K (.ref f2) = true)
    {f3 : Addr} {od3 an3 : Option Addr} {sl3 : Array (Option Value)} {oc3 kV3 dc3 pm3 cd3 ct3 : Value}
    (a3 : PySem.W.nsIn K mainGlobals "check_pieces" = some (some (.ref f3))) (l3 : K.lookup f3 = some ⟨oc3, od3, .func (PySem.W.fnOf "check_pieces" "check_pieces" (defArgs s_check_pieces) (defBody s_check_pieces) (defScope s_check_pieces) .none kV3 dc3 pm3 an3 cd3 ct3), sl3⟩) (c3 : PySem.W.codeIn K cd3 "check_pieces" = true) (k3 : PySem.W.keepIn K (.ref f3) = true)
    {f4 : Addr} {od4 an4 : Option Addr} {sl4 : Array (Option Value)} {oc4 kV4 dc4 pm4 cd4 ct4 : Value}
    (a4 : PySem.W.nsIn K mainGlobals "partners_or_wrong" = some (some (.ref f4))) (l4 : K.lookup f4 = some ⟨oc4, od4, .func (PySem.W.fnOf "partners_or_wrong" "partners_or_wrong" (defArgs s_partners_or_wrong) (defBody s_partners_or_wrong) (defScope s_partners_or_wrong) .none kV4 dc4 pm4 an4 cd4 ct4), sl4⟩) (c4 : PySem.W.codeIn K cd4 "partners_or_wrong" = true) (k4 : PySem.W.keepIn K (.ref f4) = true)
    {f5 : Addr} {od5 an5 : Option Addr} {sl5 : Array (Option Value)} {oc5 kV5 dc5 pm5 cd5 ct5 : Value}
    (a5 : PySem.W.nsIn K mainGlobals "checked_partners" = some (some (.ref f5))) (l5 : K.lookup f5 = some ⟨oc5, od5, .func (PySem.W.fnOf "checked_partners" "checked_partners" (defArgs s_checked_partners) (defBody s_checked_partners) (defScope s_checked_partners) .none kV5 dc5 pm5 an5 cd5 ct5), sl5⟩) (c5 : PySem.W.codeIn K cd5 "checked_partners" = true) (k5 : PySem.W.keepIn K (.ref f5) = true)
    {f6 : Addr} {od6 an6 : Option Addr} {sl6 : Array (Option Value)} {oc6 kV6 dc6 pm6 cd6 ct6 : Value}
    (a6 : PySem.W.nsIn K mainGlobals "readings_in" = some (some (.ref f6))) (l6 : K.lookup f6 = some ⟨oc6, od6, .func (PySem.W.fnOf "readings_in" "readings_in" (defArgs s_readings_in) (defBody s_readings_in) (defScope s_readings_in) .none kV6 dc6 pm6 an6 cd6 ct6), sl6⟩) (c6 : PySem.W.codeIn K cd6 "readings_in" = true) (k6 : PySem.W.keepIn K (.ref f6) = true)
    {f7 : Addr} {od7 an7 : Option Addr} {sl7 : Array (Option Value)} {oc7 kV7 dc7 pm7 cd7 ct7 : Value}
    (a7 : PySem.W.nsIn K mainGlobals "couplings_along" = some (some (.ref f7))) (l7 : K.lookup f7 = some ⟨oc7, od7, .func (PySem.W.fnOf "couplings_along" "couplings_along" (defArgs s_couplings_along) (defBody s_couplings_along) (defScope s_couplings_along) .none kV7 dc7 pm7 an7 cd7 ct7), sl7⟩) (c7 : PySem.W.codeIn K cd7 "couplings_along" = true) (k7 : PySem.W.keepIn K (.ref f7) = true)
    {f8 : Addr} {od8 an8 : Option Addr} {sl8 : Array (Option Value)} {oc8 kV8 dc8 pm8 cd8 ct8 : Value}
    (a8 : PySem.W.nsIn K mainGlobals "_words" = some (some (.ref f8))) (l8 : K.lookup f8 = some ⟨oc8, od8, .func (PySem.W.fnOf "_words" "_words" (defArgs s__words) (defBody s__words) (defScope s__words) .none kV8 dc8 pm8 an8 cd8 ct8), sl8⟩) (c8 : PySem.W.codeIn K cd8 "_words" = true) (k8 : PySem.W.keepIn K (.ref f8) = true)
    {f9 : Addr} {od9 an9 : Option Addr} {sl9 : Array (Option Value)} {oc9 kV9 dc9 pm9 cd9 ct9 : Value}
    (a9 : PySem.W.nsIn K mainGlobals "show_layout" = some (some (.ref f9))) (l9 : K.lookup f9 = some ⟨oc9, od9, .func (PySem.W.fnOf "show_layout" "show_layout" (defArgs s_show_layout) (defBody s_show_layout) (defScope s_show_layout) .none kV9 dc9 pm9 an9 cd9 ct9), sl9⟩) (c9 : PySem.W.codeIn K cd9 "show_layout" = true) (k9 : PySem.W.keepIn K (.ref f9) = true)
    {f10 : Addr} {od10 an10 : Option Addr} {sl10 : Array (Option Value)} {oc10 kV10 dc10 pm10 cd10 ct10 : Value}
    (a10 : PySem.W.nsIn K mainGlobals "_ends_by_word" = some (some (.ref f10))) (l10 : K.lookup f10 = some ⟨oc10, od10, .func (PySem.W.fnOf "_ends_by_word" "_ends_by_word" (defArgs s__ends_by_word) (defBody s__ends_by_word) (defScope s__ends_by_word) .none kV10 dc10 pm10 an10 cd10 ct10), sl10⟩) (c10 : PySem.W.codeIn K cd10 "_ends_by_word" = true) (k10 : PySem.W.keepIn K (.ref f10) = true)
    {f11 : Addr} {od11 an11 : Option Addr} {sl11 : Array (Option Value)} {oc11 kV11 dc11 pm11 cd11 ct11 : Value}
    (a11 : PySem.W.nsIn K mainGlobals "_check_string" = some (some (.ref f11))) (l11 : K.lookup f11 = some ⟨oc11, od11, .func (PySem.W.fnOf "_check_string" "_check_string" (defArgs s__check_string) (defBody s__check_string) (defScope s__check_string) .none kV11 dc11 pm11 an11 cd11 ct11), sl11⟩) (c11 : PySem.W.codeIn K cd11 "_check_string" = true) (k11 : PySem.W.keepIn K (.ref f11) = true)
    {f12 : Addr} {od12 an12 : Option Addr} {sl12 : Array (Option Value)} {oc12 kV12 dc12 pm12 cd12 ct12 : Value}
    (a12 : PySem.W.nsIn K mainGlobals "read_layout" = some (some (.ref f12))) (l12 : K.lookup f12 = some ⟨oc12, od12, .func (PySem.W.fnOf "read_layout" "read_layout" (defArgs s_read_layout) (defBody s_read_layout) (defScope s_read_layout) .none kV12 dc12 pm12 an12 cd12 ct12), sl12⟩) (c12 : PySem.W.codeIn K cd12 "read_layout" = true) (k12 : PySem.W.keepIn K (.ref f12) = true)
    {f13 : Addr} {od13 an13 : Option Addr} {sl13 : Array (Option Value)} {oc13 kV13 dc13 pm13 cd13 ct13 : Value}
    (a13 : PySem.W.nsIn K mainGlobals "_law_tap" = some (some (.ref f13))) (l13 : K.lookup f13 = some ⟨oc13, od13, .func (PySem.W.fnOf "_law_tap" "_law_tap" (defArgs s__law_tap) (defBody s__law_tap) (defScope s__law_tap) .none kV13 dc13 pm13 an13 cd13 ct13), sl13⟩) (c13 : PySem.W.codeIn K cd13 "_law_tap" = true) (k13 : PySem.W.keepIn K (.ref f13) = true)
    {f14 : Addr} {od14 an14 : Option Addr} {sl14 : Array (Option Value)} {oc14 kV14 dc14 pm14 cd14 ct14 : Value}
    (a14 : PySem.W.nsIn K mainGlobals "_law_draw" = some (some (.ref f14))) (l14 : K.lookup f14 = some ⟨oc14, od14, .func (PySem.W.fnOf "_law_draw" "_law_draw" (defArgs s__law_draw) (defBody s__law_draw) (defScope s__law_draw) .none kV14 dc14 pm14 an14 cd14 ct14), sl14⟩) (c14 : PySem.W.codeIn K cd14 "_law_draw" = true) (k14 : PySem.W.keepIn K (.ref f14) = true)
    {f15 : Addr} {od15 an15 : Option Addr} {sl15 : Array (Option Value)} {oc15 kV15 dc15 pm15 cd15 ct15 : Value}
    (a15 : PySem.W.nsIn K mainGlobals "_law_cells" = some (some (.ref f15))) (l15 : K.lookup f15 = some ⟨oc15, od15, .func (PySem.W.fnOf "_law_cells" "_law_cells" (defArgs s__law_cells) (defBody s__law_cells) (defScope s__law_cells) .none kV15 dc15 pm15 an15 cd15 ct15), sl15⟩) (c15 : PySem.W.codeIn K cd15 "_law_cells" = true) (k15 : PySem.W.keepIn K (.ref f15) = true)
    {f16 : Addr} {od16 an16 : Option Addr} {sl16 : Array (Option Value)} {oc16 kV16 dc16 pm16 cd16 ct16 : Value}
    (a16 : PySem.W.nsIn K mainGlobals "_law_pair" = some (some (.ref f16))) (l16 : K.lookup f16 = some ⟨oc16, od16, .func (PySem.W.fnOf "_law_pair" "_law_pair" (defArgs s__law_pair) (defBody s__law_pair) (defScope s__law_pair) .none kV16 dc16 pm16 an16 cd16 ct16), sl16⟩) (c16 : PySem.W.codeIn K cd16 "_law_pair" = true) (k16 : PySem.W.keepIn K (.ref f16) = true)
    {f17 : Addr} {od17 an17 : Option Addr} {sl17 : Array (Option Value)} {oc17 kV17 dc17 pm17 cd17 ct17 : Value}
    (a17 : PySem.W.nsIn K mainGlobals "_law_chains" = some (some (.ref f17))) (l17 : K.lookup f17 = some ⟨oc17, od17, .func (PySem.W.fnOf "_law_chains" "_law_chains" (defArgs s__law_chains) (defBody s__law_chains) (defScope s__law_chains) .none kV17 dc17 pm17 an17 cd17 ct17), sl17⟩) (c17 : PySem.W.codeIn K cd17 "_law_chains" = true) (k17 : PySem.W.keepIn K (.ref f17) = true)
    {f18 : Addr} {od18 an18 : Option Addr} {sl18 : Array (Option Value)} {oc18 kV18 dc18 pm18 cd18 ct18 : Value}
    (a18 : PySem.W.nsIn K mainGlobals "_law_coupled" = some (some (.ref f18))) (l18 : K.lookup f18 = some ⟨oc18, od18, .func (PySem.W.fnOf "_law_coupled" "_law_coupled" (defArgs s__law_coupled) (defBody s__law_coupled) (defScope s__law_coupled) .none kV18 dc18 pm18 an18 cd18 ct18), sl18⟩) (c18 : PySem.W.codeIn K cd18 "_law_coupled" = true) (k18 : PySem.W.keepIn K (.ref f18) = true)
    {f19 : Addr} {od19 an19 : Option Addr} {sl19 : Array (Option Value)} {oc19 kV19 dc19 pm19 cd19 ct19 : Value}
    (a19 : PySem.W.nsIn K mainGlobals "_law_normal" = some (some (.ref f19))) (l19 : K.lookup f19 = some ⟨oc19, od19, .func (PySem.W.fnOf "_law_normal" "_law_normal" (defArgs s__law_normal) (defBody s__law_normal) (defScope s__law_normal) .none kV19 dc19 pm19 an19 cd19 ct19), sl19⟩) (c19 : PySem.W.codeIn K cd19 "_law_normal" = true) (k19 : PySem.W.keepIn K (.ref f19) = true)
    {f20 : Addr} {od20 an20 : Option Addr} {sl20 : Array (Option Value)} {oc20 kV20 dc20 pm20 cd20 ct20 : Value}
    (a20 : PySem.W.nsIn K mainGlobals "_law_numbers" = some (some (.ref f20))) (l20 : K.lookup f20 = some ⟨oc20, od20, .func (PySem.W.fnOf "_law_numbers" "_law_numbers" (defArgs s__law_numbers) (defBody s__law_numbers) (defScope s__law_numbers) .none kV20 dc20 pm20 an20 cd20 ct20), sl20⟩) (c20 : PySem.W.codeIn K cd20 "_law_numbers" = true) (k20 : PySem.W.keepIn K (.ref f20) = true)
    {f21 : Addr} {od21 an21 : Option Addr} {sl21 : Array (Option Value)} {oc21 kV21 dc21 pm21 cd21 ct21 : Value}
    (a21 : PySem.W.nsIn K mainGlobals "_law_text" = some (some (.ref f21))) (l21 : K.lookup f21 = some ⟨oc21, od21, .func (PySem.W.fnOf "_law_text" "_law_text" (defArgs s__law_text) (defBody s__law_text) (defScope s__law_text) .none kV21 dc21 pm21 an21 cd21 ct21), sl21⟩) (c21 : PySem.W.codeIn K cd21 "_law_text" = true) (k21 : PySem.W.keepIn K (.ref f21) = true)
    {f22 : Addr} {od22 an22 : Option Addr} {sl22 : Array (Option Value)} {oc22 kV22 dc22 pm22 cd22 ct22 : Value}
    (a22 : PySem.W.nsIn K mainGlobals "_law_otherwise" = some (some (.ref f22))) (l22 : K.lookup f22 = some ⟨oc22, od22, .func (PySem.W.fnOf "_law_otherwise" "_law_otherwise" (defArgs s__law_otherwise) (defBody s__law_otherwise) (defScope s__law_otherwise) .none kV22 dc22 pm22 an22 cd22 ct22), sl22⟩) (c22 : PySem.W.codeIn K cd22 "_law_otherwise" = true) (k22 : PySem.W.keepIn K (.ref f22) = true)
    {f23 : Addr} {od23 an23 : Option Addr} {sl23 : Array (Option Value)} {oc23 kV23 dc23 pm23 cd23 ct23 : Value}
    (a23 : PySem.W.nsIn K mainGlobals "_law_right" = some (some (.ref f23))) (l23 : K.lookup f23 = some ⟨oc23, od23, .func (PySem.W.fnOf "_law_right" "_law_right" (defArgs s__law_right) (defBody s__law_right) (defScope s__law_right) .none kV23 dc23 pm23 an23 cd23 ct23), sl23⟩) (c23 : PySem.W.codeIn K cd23 "_law_right" = true) (k23 : PySem.W.keepIn K (.ref f23) = true)
    {f24 : Addr} {od24 an24 : Option Addr} {sl24 : Array (Option Value)} {oc24 kV24 dc24 pm24 cd24 ct24 : Value}
    (a24 : PySem.W.nsIn K mainGlobals "law" = some (some (.ref f24))) (l24 : K.lookup f24 = some ⟨oc24, od24, .func (PySem.W.fnOf "law" "law" (defArgs s_law) (defBody s_law) (defScope s_law) .none kV24 dc24 pm24 an24 cd24 ct24), sl24⟩) (c24 : PySem.W.codeIn K cd24 "law" = true) (k24 : PySem.W.keepIn K (.ref f24) = true)
    (z_isinstance : PySem.W.nsIn K mainGlobals "isinstance" = some none)
    (z_int : PySem.W.nsIn K mainGlobals "int" = some none)
    (z_bool : PySem.W.nsIn K mainGlobals "bool" = some none)
    (z_type : PySem.W.nsIn K mainGlobals "type" = some none)
    (z_len : PySem.W.nsIn K mainGlobals "len" = some none)
    (z_tuple : PySem.W.nsIn K mainGlobals "tuple" = some none)
    (z_list : PySem.W.nsIn K mainGlobals "list" = some none)
    (z_range : PySem.W.nsIn K mainGlobals "range" = some none)
    (z_abs : PySem.W.nsIn K mainGlobals "abs" = some none)
    (z_zip : PySem.W.nsIn K mainGlobals "zip" = some none)
    (z_str : PySem.W.nsIn K mainGlobals "str" = some none)
    (z_sorted : PySem.W.nsIn K mainGlobals "sorted" = some none)
    (z_enumerate : PySem.W.nsIn K mainGlobals "enumerate" = some none)
    (z_max : PySem.W.nsIn K mainGlobals "max" = some none)
    (z_min : PySem.W.nsIn K mainGlobals "min" = some none)
    (z_repr : PySem.W.nsIn K mainGlobals "repr" = some none)
    {t_MOST_PIECES : Tok} (y_MOST_PIECES : PySem.W.nsIn K mainGlobals "MOST_PIECES" = some (some (.int 60 t_MOST_PIECES)))
    {C_InvalidPieces : Addr} (ca_InvalidPieces : PySem.W.nsIn K mainGlobals "InvalidPieces" = some (some (.ref C_InvalidPieces))) (cb_InvalidPieces : errB K C_InvalidPieces = true)
    (cq_InvalidPieces : PySem.W.excIn K C_InvalidPieces veMro "ValueError.__new__" = true)
    {C_InvalidLayout : Addr} (ca_InvalidLayout : PySem.W.nsIn K mainGlobals "InvalidLayout" = some (some (.ref C_InvalidLayout))) (cb_InvalidLayout : errB K C_InvalidLayout = true)
    {fI_InvalidLayout c_InvalidLayout cc_InvalidLayout : Addr} {od_InvalidLayout an_InvalidLayout cdd_InvalidLayout cld_InvalidLayout : Option Addr} {sl_InvalidLayout ccs_InvalidLayout csl_InvalidLayout : Array (Option Value)} {oc_InvalidLayout kV_InvalidLayout dc_InvalidLayout pm_InvalidLayout ct_InvalidLayout ccl_InvalidLayout cl_InvalidLayout : Value} {vs_InvalidLayout : Array Value} {fi_InvalidLayout : Str} {tf_InvalidLayout : Tok}
    (ci_InvalidLayout : PySem.W.findIn K (.ref C_InvalidLayout) "__init__" = some (some (.ref fI_InvalidLayout))) (cy_InvalidLayout : PySem.W.typeIn K (.ref fI_InvalidLayout) = some (.type "function"))
    (cl_InvalidLayout' : K.lookup fI_InvalidLayout = some ⟨oc_InvalidLayout, od_InvalidLayout, .func (PySem.W.fnX "__init__" "InvalidLayout.__init__" (defArgs i_InvalidLayout) (defBody i_InvalidLayout) (defScope i_InvalidLayout) [("__class__", cc_InvalidLayout)] .none kV_InvalidLayout dc_InvalidLayout pm_InvalidLayout an_InvalidLayout (.ref c_InvalidLayout) ct_InvalidLayout), sl_InvalidLayout⟩)
    (cd_InvalidLayout : PySem.W.codeIn K (.ref c_InvalidLayout) "InvalidLayout.__init__" = true) (ck_InvalidLayout : K.lookup cc_InvalidLayout = some ⟨cl_InvalidLayout, cld_InvalidLayout, .cell (some (.ref C_InvalidLayout)), csl_InvalidLayout⟩) (ce_InvalidLayout : K.lookup c_InvalidLayout = some ⟨ccl_InvalidLayout, cdd_InvalidLayout, .fields vs_InvalidLayout, ccs_InvalidLayout⟩)
    (cv_InvalidLayout : vs_InvalidLayout[2]? = some (.str fi_InvalidLayout tf_InvalidLayout)) (cf_InvalidLayout : ((l.prog.main.file : Str) == fi_InvalidLayout) = true) (cs_InvalidLayout : supV K C_InvalidLayout) (cn_InvalidLayout : PySem.W.findIn K (.ref C_InvalidLayout) "index" = some none)
    {C_InvalidText : Addr} (ca_InvalidText : PySem.W.nsIn K mainGlobals "InvalidText" = some (some (.ref C_InvalidText))) (cb_InvalidText : errB K C_InvalidText = true)
    {fI_InvalidText c_InvalidText cc_InvalidText : Addr} {od_InvalidText an_InvalidText cdd_InvalidText cld_InvalidText : Option Addr} {sl_InvalidText ccs_InvalidText csl_InvalidText : Array (Option Value)} {oc_InvalidText kV_InvalidText dc_InvalidText pm_InvalidText ct_InvalidText ccl_InvalidText cl_InvalidText : Value} {vs_InvalidText : Array Value} {fi_InvalidText : Str} {tf_InvalidText : Tok}
    (ci_InvalidText : PySem.W.findIn K (.ref C_InvalidText) "__init__" = some (some (.ref fI_InvalidText))) (cy_InvalidText : PySem.W.typeIn K (.ref fI_InvalidText) = some (.type "function"))
    (cl_InvalidText' : K.lookup fI_InvalidText = some ⟨oc_InvalidText, od_InvalidText, .func (PySem.W.fnX "__init__" "InvalidText.__init__" (defArgs i_InvalidText) (defBody i_InvalidText) (defScope i_InvalidText) [("__class__", cc_InvalidText)] .none kV_InvalidText dc_InvalidText pm_InvalidText an_InvalidText (.ref c_InvalidText) ct_InvalidText), sl_InvalidText⟩)
    (cd_InvalidText : PySem.W.codeIn K (.ref c_InvalidText) "InvalidText.__init__" = true) (ck_InvalidText : K.lookup cc_InvalidText = some ⟨cl_InvalidText, cld_InvalidText, .cell (some (.ref C_InvalidText)), csl_InvalidText⟩) (ce_InvalidText : K.lookup c_InvalidText = some ⟨ccl_InvalidText, cdd_InvalidText, .fields vs_InvalidText, ccs_InvalidText⟩)
    (cv_InvalidText : vs_InvalidText[2]? = some (.str fi_InvalidText tf_InvalidText)) (cf_InvalidText : ((l.prog.main.file : Str) == fi_InvalidText) = true) (cs_InvalidText : supV K C_InvalidText) (cn_InvalidText : PySem.W.findIn K (.ref C_InvalidText) "part" = some none)
    (c_super : PySem.W.nsIn K mainGlobals "super" = some none) (c_st : PySem.W.nsIn K cStatics "thirdparty.any" = some none) (c_top : (l.prog.main.scope.names.lookup ("super" : Str)).isSome = false) :
    ∃ fd : FuncData, (∀ (s : Shared) (v : Value), BindsTo s fd ⟨[v], []⟩ [("script", v)]) ∧ ∀ base : Heap, K.In base → base.Ns mainGlobals mg → FnG l.prog w K mg base CX0 7 fa fd ["script"] (sp_law K) := by
  have e := hfa.symm.trans (PySem.W.mg_of X G a24)
  cases e
  have m_isinstance := PySem.W.mg_none_of X G z_isinstance
  have m_int := PySem.W.mg_none_of X G z_int
  have m_bool := PySem.W.mg_none_of X G z_bool
  have m_type := PySem.W.mg_none_of X G z_type
  have m_len := PySem.W.mg_none_of X G z_len
  have m_tuple := PySem.W.mg_none_of X G z_tuple
  have m_list := PySem.W.mg_none_of X G z_list
  have m_range := PySem.W.mg_none_of X G z_range
  have m_abs := PySem.W.mg_none_of X G z_abs
  have m_zip := PySem.W.mg_none_of X G z_zip
  have m_str := PySem.W.mg_none_of X G z_str
  have m_sorted := PySem.W.mg_none_of X G z_sorted
  have m_enumerate := PySem.W.mg_none_of X G z_enumerate
  have m_max := PySem.W.mg_none_of X G z_max
  have m_min := PySem.W.mg_none_of X G z_min
  have m_repr := PySem.W.mg_none_of X G z_repr
  have g_MOST_PIECES := PySem.W.mg_of X G y_MOST_PIECES
  have F0 := fun_mk (st := s_is_integer) l0 c0 k0
  have F1 := fun_mk (st := s_are_integers) l1 c1 k1
  have F2 := fun_mk (st := s_couplings_in) l2 c2 k2
  have F3 := fun_mk (st := s_check_pieces) l3 c3 k3
  have F4 := fun_mk (st := s_partners_or_wrong) l4 c4 k4
  have F5 := fun_mk (st := s_checked_partners) l5 c5 k5
  have F6 := fun_mk (st := s_readings_in) l6 c6 k6
  have F7 := fun_mk (st := s_couplings_along) l7 c7 k7
  have F8 := fun_mk (st := s__words) l8 c8 k8
  have F9 := fun_mk (st := s_show_layout) l9 c9 k9
  have F10 := fun_mk (st := s__ends_by_word) l10 c10 k10
  have F11 := fun_mk (st := s__check_string) l11 c11 k11
  have F12 := fun_mk (st := s_read_layout) l12 c12 k12
  have F13 := fun_mk (st := s__law_tap) l13 c13 k13
  have F14 := fun_mk (st := s__law_draw) l14 c14 k14
  have F15 := fun_mk (st := s__law_cells) l15 c15 k15
  have F16 := fun_mk (st := s__law_pair) l16 c16 k16
  have F17 := fun_mk (st := s__law_chains) l17 c17 k17
  have F18 := fun_mk (st := s__law_coupled) l18 c18 k18
  have F19 := fun_mk (st := s__law_normal) l19 c19 k19
  have F20 := fun_mk (st := s__law_numbers) l20 c20 k20
  have F21 := fun_mk (st := s__law_text) l21 c21 k21
  have F22 := fun_mk (st := s__law_otherwise) l22 c22 k22
  have F23 := fun_mk (st := s__law_right) l23 c23 k23
  have F24 := fun_mk (st := s_law) l24 c24 k24
  refine ⟨PySem.W.fnOf "law" "law" (defArgs s_law) (defBody s_law) (defScope s_law) .none kV24 dc24 pm24 an24 cd24 ct24, fun s v => .of_eq rfl, fun base _ _ => ?_⟩
  have N_InvalidPieces : New1 K mg "InvalidPieces" := new1_of X G ca_InvalidPieces cb_InvalidPieces cq_InvalidPieces
  have P_InvalidLayout : ∀ e ∈ (partsOf i_InvalidLayout), Part "index" e := by
    intro e he
    rcases List.mem_cons.mp he with rfl | he
    · exact .cst _ _ _ (by decide)
    rcases List.mem_cons.mp he with rfl | he
    · exact .fmt _ _
    rcases List.mem_cons.mp he with rfl | he
    · exact .cst _ _ _ (by decide)
    cases he
  have F_InvalidLayout : NewF l.prog w K mg base "InvalidLayout" "index" := newF_of (par := "index") X G cl_InvalidLayout' cd_InvalidLayout (NdefX.nscope_by (by decide +kernel)) ck_InvalidLayout rfl rfl ce_InvalidLayout cv_InvalidLayout cf_InvalidLayout c_super c_top c_st rfl ca_InvalidLayout cb_InvalidLayout ci_InvalidLayout cy_InvalidLayout cs_InvalidLayout cn_InvalidLayout (fun _ => rfl) (fun _ => rfl) (fun _ => rfl) (fun _ => rfl) (fun _ => rfl) P_InvalidLayout (by decide) (by decide) (by decide) (fun _ _ => rfl)
  have P_InvalidText : ∀ e ∈ (partsOf i_InvalidText), Part "part" e := by
    intro e he
    rcases List.mem_cons.mp he with rfl | he
    · exact .cst _ _ _ (by decide)
    rcases List.mem_cons.mp he with rfl | he
    · exact .fmt _ _
    rcases List.mem_cons.mp he with rfl | he
    · exact .cst _ _ _ (by decide)
    cases he
  have F_InvalidText : NewF l.prog w K mg base "InvalidText" "part" := newF_of (par := "part") X G cl_InvalidText' cd_InvalidText (NdefX.nscope_by (by decide +kernel)) ck_InvalidText rfl rfl ce_InvalidText cv_InvalidText cf_InvalidText c_super c_top c_st rfl ca_InvalidText cb_InvalidText ci_InvalidText cy_InvalidText cs_InvalidText cn_InvalidText (fun _ => rfl) (fun _ => rfl) (fun _ => rfl) (fun _ => rfl) (fun _ => rfl) P_InvalidText (by decide) (by decide) (by decide) (fun _ _ => rfl)
  have D_is_integer : Def l.prog w K mg base 1 "is_integer" ["value"] (sp_is_integer K) := ⟨f0, _, ok_is_integer F0 m_isinstance m_int m_bool, F0.kp, F0.binds (ps := ["value"]) fun _ _ _ _ _ _ us hl => match us, hl with | [_], _ => rfl, PySem.W.mg_of X G a0⟩
  have D_are_integers : Def l.prog w K mg base 2 "are_integers" ["one", "other"] (sp_are_integers K) := ⟨f1, _, ok_are_integers F1 D_is_integer m_int m_type, F1.kp, F1.binds (ps := ["one", "other"]) fun _ _ _ _ _ _ us hl => match us, hl with | [_, _], _ => rfl, PySem.W.mg_of X G a1⟩
  have D_couplings_in : Def l.prog w K mg base 1 "couplings_in" ["partners"] (sp_couplings_in K) := ⟨f2, _, ok_couplings_in F2 m_len, F2.kp, F2.binds (ps := ["partners"]) fun _ _ _ _ _ _ us hl => match us, hl with | [_], _ => rfl, PySem.W.mg_of X G a2⟩
  have D_check_pieces : DefR l.prog w K mg base 2 "check_pieces" ["pieces"] (sp_check_pieces K) := ⟨f3, _, ok_check_pieces F3 D_is_integer m_int m_type N_InvalidPieces g_MOST_PIECES, F3.kp, F3.binds (ps := ["pieces"]) fun _ _ _ _ _ _ us hl => match us, hl with | [_], _ => rfl, PySem.W.mg_of X G a3⟩
  have D_partners_or_wrong : Def l.prog w K mg base 3 "partners_or_wrong" ["pieces", "items"] (sp_partners_or_wrong K) := ⟨f4, _, ok_partners_or_wrong F4 D_couplings_in D_are_integers m_tuple m_type m_len m_int, F4.kp, F4.binds (ps := ["pieces", "items"]) fun _ _ _ _ _ _ us hl => match us, hl with | [_, _], _ => rfl, PySem.W.mg_of X G a4⟩
  have D_checked_partners : DefR l.prog w K mg base 4 "checked_partners" ["pieces", "layout"] (sp_checked_partners K) := ⟨f5, _, ok_checked_partners F5 D_partners_or_wrong m_list m_int m_type F_InvalidLayout, F5.kp, F5.binds (ps := ["pieces", "layout"]) fun _ _ _ _ _ _ us hl => match us, hl with | [_, _], _ => rfl, PySem.W.mg_of X G a5⟩
  have D_readings_in : Def l.prog w K mg base 1 "readings_in" ["pieces", "partners"] (sp_readings_in K) := ⟨f6, _, ok_readings_in F6 m_range m_abs, F6.kp, F6.binds (ps := ["pieces", "partners"]) fun _ _ _ _ _ _ us hl => match us, hl with | [_, _], _ => rfl, PySem.W.mg_of X G a6⟩
  have D_couplings_along : Def l.prog w K mg base 1 "couplings_along" ["numbers"] (sp_couplings_along K) := ⟨f7, _, ok_couplings_along F7 m_zip, F7.kp, F7.binds (ps := ["numbers"]) fun _ _ _ _ _ _ us hl => match us, hl with | [_], _ => rfl, PySem.W.mg_of X G a7⟩
  have D__words : Def l.prog w K mg base 1 "_words" ["reading"] (sp__words K) := ⟨f8, _, ok__words F8 m_str, F8.kp, F8.binds (ps := ["reading"]) fun _ _ _ _ _ _ us hl => match us, hl with | [_], _ => rfl, PySem.W.mg_of X G a8⟩
  have D_show_layout : DefR l.prog w K mg base 5 "show_layout" ["pieces", "layout"] (sp_show_layout K) := ⟨f9, _, ok_show_layout F9 D_check_pieces D_readings_in D_checked_partners D__words m_sorted, F9.kp, F9.binds (ps := ["pieces", "layout"]) fun _ _ _ _ _ _ us hl => match us, hl with | [_, _], _ => rfl, PySem.W.mg_of X G a9⟩
  have D__ends_by_word : Def l.prog w K mg base 1 "_ends_by_word" ["pieces"] (sp__ends_by_word K) := ⟨f10, _, ok__ends_by_word F10 m_str m_range, F10.kp, F10.binds (ps := ["pieces"]) fun _ _ _ _ _ _ us hl => match us, hl with | [_], _ => rfl, PySem.W.mg_of X G a10⟩
  have D__check_string : DefR l.prog w K mg base 3 "_check_string" ["text"] (sp__check_string K) := ⟨f11, _, ok__check_string F11 m_isinstance m_str F_InvalidText, F11.kp, F11.binds (ps := ["text"]) fun _ _ _ _ _ _ us hl => match us, hl with | [_], _ => rfl, PySem.W.mg_of X G a11⟩
  have D_read_layout : DefR l.prog w K mg base 4 "read_layout" ["pieces", "text"] (sp_read_layout K) := ⟨f12, _, ok_read_layout F12 D_check_pieces D__check_string D__ends_by_word D_couplings_along m_enumerate m_sorted m_abs F_InvalidText, F12.kp, F12.binds (ps := ["pieces", "text"]) fun _ _ _ _ _ _ us hl => match us, hl with | [_, _], _ => rfl, PySem.W.mg_of X G a12⟩
  have D__law_tap : Def l.prog w K mg base 1 "_law_tap" ["cell", "turn"] (sp__law_tap K) := ⟨f13, _, ok__law_tap F13 m_int m_abs, F13.kp, F13.binds (ps := ["cell", "turn"]) fun _ _ _ _ _ _ us hl => match us, hl with | [_, _], _ => rfl, PySem.W.mg_of X G a13⟩
  have D__law_draw : Def l.prog w K mg base 1 "_law_draw" ["tap", "bound"] (sp__law_draw K) := ⟨f14, _, ok__law_draw F14 m_int, F14.kp, F14.binds (ps := ["tap", "bound"]) fun _ _ _ _ _ _ us hl => match us, hl with | [_, _], _ => rfl, PySem.W.mg_of X G a14⟩
  have D__law_cells : Def l.prog w K mg base 1 "_law_cells" ["script", "many"] (sp__law_cells K) := ⟨f15, _, ok__law_cells F15 m_max m_min m_len, F15.kp, F15.binds (ps := ["script", "many"]) fun _ _ _ _ _ _ us hl => match us, hl with | [_, _], _ => rfl, PySem.W.mg_of X G a15⟩
  have D__law_pair : Def l.prog w K mg base 1 "_law_pair" ["one", "other"] (sp__law_pair K) := ⟨f16, _, ok__law_pair F16 m_min m_max, F16.kp, F16.binds (ps := ["one", "other"]) fun _ _ _ _ _ _ us hl => match us, hl with | [_, _], _ => rfl, PySem.W.mg_of X G a16⟩
  have D__law_chains : Def l.prog w K mg base 2 "_law_chains" ["tap", "pieces"] (sp__law_chains K) := ⟨f17, _, ok__law_chains F17 D__law_draw m_list m_range m_int m_min m_len, F17.kp, F17.binds (ps := ["tap", "pieces"]) fun _ _ _ _ _ _ us hl => match us, hl with | [_, _], _ => rfl, PySem.W.mg_of X G a17⟩
  have D__law_coupled : Def l.prog w K mg base 2 "_law_coupled" ["rows", "rings"] (sp__law_coupled K) := ⟨f18, _, ok__law_coupled F18 D__law_pair m_sorted m_zip, F18.kp, F18.binds (ps := ["rows", "rings"]) fun _ _ _ _ _ _ us hl => match us, hl with | [_, _], _ => rfl, PySem.W.mg_of X G a18⟩
  have D__law_normal : Def l.prog w K mg base 1 "_law_normal" ["rows", "rings"] (sp__law_normal K) := ⟨f19, _, ok__law_normal F19 m_min m_sorted m_list m_abs, F19.kp, F19.binds (ps := ["rows", "rings"]) fun _ _ _ _ _ _ us hl => match us, hl with | [_, _], _ => rfl, PySem.W.mg_of X G a19⟩
  have D__law_numbers : Def l.prog w K mg base 1 "_law_numbers" ["numbers"] (sp__law_numbers K) := ⟨f20, _, ok__law_numbers F20 m_str, F20.kp, F20.binds (ps := ["numbers"]) fun _ _ _ _ _ _ us hl => match us, hl with | [_], _ => rfl, PySem.W.mg_of X G a20⟩
  have D__law_text : Def l.prog w K mg base 2 "_law_text" ["rows", "rings"] (sp__law_text K) := ⟨f21, _, ok__law_text F21 D__law_numbers, F21.kp, F21.binds (ps := ["rows", "rings"]) fun _ _ _ _ _ _ us hl => match us, hl with | [_, _], _ => rfl, PySem.W.mg_of X G a21⟩
  have D__law_otherwise : Def l.prog w K mg base 2 "_law_otherwise" ["tap", "rows", "rings"] (sp__law_otherwise K) := ⟨f22, _, ok__law_otherwise F22 D__law_draw D__law_numbers m_list m_len, F22.kp, F22.binds (ps := ["tap", "rows", "rings"]) fun _ _ _ _ _ _ us hl => match us, hl with | [_, _, _], _ => rfl, PySem.W.mg_of X G a22⟩
  have D__law_right : DefG l.prog w K mg base 6 "_law_right" ["tap"] (sp__law_right K) := ⟨f23, _, ok__law_right F23 D__law_chains D__law_draw D__law_coupled D__law_normal D__law_text D_read_layout D_show_layout D__law_otherwise m_range m_list m_repr m_str, F23.kp, F23.binds (ps := ["tap"]) fun _ _ _ _ _ _ us hl => match us, hl with | [_], _ => rfl, PySem.W.mg_of X G a23⟩
  exact ok_law F24 D__law_cells D__law_right D__law_tap m_range m_len
end V15
open PySem PySem.W PyProof.Rows
set_option maxHeartbeats 0 in
theorem PySem.Challenge.cw_crosshitch_k15_texts_of_layouts_holds : PySem.Challenge.rw_crosshitch_k15_texts_of_layouts.Holds := by
  w_on; o_law; x_head; (case hw => w_witness2)
  k_fill
  refine Vf.walk_ofG (l := PySem.Challenge.rw_crosshitch_k15_texts_of_layouts) (n := 63) (k := 7) (x := "script") (sp := fun w => V15.sp_law _) rfl (by decide) rfl ⟨rfl, by decide, by decide⟩ (fun w h Y => PySem.W.kIn_of Y) ?F (fun _ _ a ns hl hS => ⟨a, ns, rfl, hS, hl, fun _ => rfl⟩)
  case F =>
    intro w mg fa h KX G hmg
    refine' V15.all_mk KX G hmg ?a0 ?l0 ?c0 ?k0 ?a1 ?l1 ?c1 ?k1 ?a2 ?l2 ?c2 ?k2 ?a3 ?l3 ?c3 ?k3 ?a4 ?l4 ?c4 ?k4 ?a5 ?l5 ?c5 ?k5 ?a6 ?l6 ?c6 ?k6 ?a7 ?l7 ?c7 ?k7 ?a8 ?l8 ?c8 ?k8 ?a9 ?l9 ?c9 ?k9 ?a10 ?l10 ?c10 ?k10 ?a11 ?l11 ?c11 ?k11 ?a12 ?l12 ?c12 ?k12 ?a13 ?l13 ?c13 ?k13 ?a14 ?l14 ?c14 ?k14 ?a15 ?l15 ?c15 ?k15 ?a16 ?l16 ?c16 ?k16 ?a17 ?l17 ?c17 ?k17 ?a18 ?l18 ?c18 ?k18 ?a19 ?l19 ?c19 ?k19 ?a20 ?l20 ?c20 ?k20 ?a21 ?l21 ?c21 ?k21 ?a22 ?l22 ?c22 ?k22 ?a23 ?l23 ?c23 ?k23 ?a24 ?l24 ?c24 ?k24 ?z_isinstance ?z_int ?z_bool ?z_type ?z_len ?z_tuple ?z_list ?z_range ?z_abs ?z_zip ?z_str ?z_sorted ?z_enumerate ?z_max ?z_min ?z_repr ?y_MOST_PIECES ?ca_InvalidPieces ?cb_InvalidPieces ?cq_InvalidPieces ?ca_InvalidLayout ?cb_InvalidLayout ?ci_InvalidLayout ?cy_InvalidLayout ?cl_InvalidLayout' ?cd_InvalidLayout ?ck_InvalidLayout ?ce_InvalidLayout ?cv_InvalidLayout ?cf_InvalidLayout ?cs_InvalidLayout ?cn_InvalidLayout ?ca_InvalidText ?cb_InvalidText ?ci_InvalidText ?cy_InvalidText ?cl_InvalidText' ?cd_InvalidText ?ck_InvalidText ?ce_InvalidText ?cv_InvalidText ?cf_InvalidText ?cs_InvalidText ?cn_InvalidText ?c_super ?c_st ?c_top
    (case a0 => k_is); (case l0 => k_is); (case c0 => k_is); (case k0 => k_is); (case a1 => k_is); (case l1 => k_is); (case c1 => k_is); (case k1 => k_is); (case a2 => k_is); (case l2 => k_is); (case c2 => k_is); (case k2 => k_is); (case a3 => k_is); (case l3 => k_is); (case c3 => k_is); (case k3 => k_is); (case a4 => k_is); (case l4 => k_is); (case c4 => k_is); (case k4 => k_is); (case a5 => k_is); (case l5 => k_is); (case c5 => k_is); (case k5 => k_is); (case a6 => k_is); (case l6 => k_is); (case c6 => k_is); (case k6 => k_is); (case a7 => k_is); (case l7 => k_is); (case c7 => k_is); (case k7 => k_is); (case a8 => k_is); (case l8 => k_is); (case c8 => k_is); (case k8 => k_is); (case a9 => k_is); (case l9 => k_is); (case c9 => k_is); (case k9 => k_is); (case a10 => k_is); (case l10 => k_is); (case c10 => k_is); (case k10 => k_is); (case a11 => k_is); (case l11 => k_is); (case c11 => k_is); (case k11 => k_is); (case a12 => k_is); (case l12 => k_is); (case c12 => k_is); (case k12 => k_is); (case a13 => k_is); (case l13 => k_is); (case c13 => k_is); (case k13 => k_is); (case a14 => k_is); (case l14 => k_is); (case c14 => k_is); (case k14 => k_is); (case a15 => k_is); (case l15 => k_is); (case c15 => k_is); (case k15 => k_is); (case a16 => k_is); (case l16 => k_is); (case c16 => k_is); (case k16 => k_is); (case a17 => k_is); (case l17 => k_is); (case c17 => k_is); (case k17 => k_is); (case a18 => k_is); (case l18 => k_is); (case c18 => k_is); (case k18 => k_is); (case a19 => k_is); (case l19 => k_is); (case c19 => k_is); (case k19 => k_is); (case a20 => k_is); (case l20 => k_is); (case c20 => k_is); (case k20 => k_is); (case a21 => k_is); (case l21 => k_is); (case c21 => k_is); (case k21 => k_is); (case a22 => k_is); (case l22 => k_is); (case c22 => k_is); (case k22 => k_is); (case a23 => k_is); (case l23 => k_is); (case c23 => k_is); (case k23 => k_is); (case a24 => k_is); (case l24 => k_is); (case c24 => k_is); (case k24 => k_is); (case z_isinstance => k_is); (case z_int => k_is); (case z_bool => k_is); (case z_type => k_is); (case z_len => k_is); (case z_tuple => k_is); (case z_list => k_is); (case z_range => k_is); (case z_abs => k_is); (case z_zip => k_is); (case z_str => k_is); (case z_sorted => k_is); (case z_enumerate => k_is); (case z_max => k_is); (case z_min => k_is); (case z_repr => k_is); (case y_MOST_PIECES => k_is)
    case ca_InvalidPieces => first | k_is | kernel_rfl | decide +kernel
    case cb_InvalidPieces => first | kernel_rfl | decide +kernel | k_is
    case cq_InvalidPieces => first | kernel_rfl | decide +kernel | k_is
    case ca_InvalidLayout => first | k_is | kernel_rfl | decide +kernel
    case cb_InvalidLayout => first | kernel_rfl | decide +kernel | k_is
    case ci_InvalidLayout => first | k_is | kernel_rfl | decide +kernel
    case cy_InvalidLayout => first | k_is | kernel_rfl | decide +kernel
    case cl_InvalidLayout' => first | k_is | kernel_rfl | decide +kernel
    case cd_InvalidLayout => first | k_is | kernel_rfl | decide +kernel
    case ck_InvalidLayout => first | k_is | kernel_rfl | decide +kernel
    case ce_InvalidLayout => first | k_is | kernel_rfl | decide +kernel
    case cv_InvalidLayout => first | rfl | kernel_rfl | decide +kernel
    case cf_InvalidLayout => first | kernel_rfl | decide +kernel | rfl
    case cs_InvalidLayout => first | kernel_rfl | decide +kernel | k_is
    case cn_InvalidLayout => first | k_is | kernel_rfl | decide +kernel
    case ca_InvalidText => first | k_is | kernel_rfl | decide +kernel
    case cb_InvalidText => first | kernel_rfl | decide +kernel | k_is
    case ci_InvalidText => first | k_is | kernel_rfl | decide +kernel
    case cy_InvalidText => first | k_is | kernel_rfl | decide +kernel
    case cl_InvalidText' => first | k_is | kernel_rfl | decide +kernel
    case cd_InvalidText => first | k_is | kernel_rfl | decide +kernel
    case ck_InvalidText => first | k_is | kernel_rfl | decide +kernel
    case ce_InvalidText => first | k_is | kernel_rfl | decide +kernel
    case cv_InvalidText => first | rfl | kernel_rfl | decide +kernel
    case cf_InvalidText => first | kernel_rfl | decide +kernel | rfl
    case cs_InvalidText => first | kernel_rfl | decide +kernel | k_is
    case cn_InvalidText => first | k_is | kernel_rfl | decide +kernel
    case c_super => first | k_is | kernel_rfl | decide +kernel
    case c_st => first | k_is | kernel_rfl | decide +kernel
    case c_top => first | k_is | kernel_rfl | decide +kernel
