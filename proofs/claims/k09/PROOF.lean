import PyProof.Rows.All
import Wide.All
import OpenK.AllK
import Wide.FinOn
import HandS.ForMost
import HandS.Wide
import HandS.Conv
import HandS.EndBits
import HandS.ForExc
import HandS.Style
import HandS.Codes
import HandS.Property
import HandS.MakeKwOnly
import HandS.IsInst
import HandS.TupAny
import HandS.Walk
import HandS.Dict
import HandS.DictComp
import HandS.Finally
import HandS.DeepEq
import HandS.ExcInit
import HandS.ExcIs
import HandS.ExcField
import HandS.RaiseMore
import HandS.ExcOwn
import HandS.HotCalls
import HandS.Hot
import HandS.ExcValueHot
import HandS.Deep
import HandS.Text
import HandS.Call
import HandS.DictTup
import HandS.Flow
import HandS.Strs
import HandS.DictEq
import HandS.WideBits
import HandS.SetFor
import HandS.Small
import KE.KDictZip
import HandS.ListItems
import HandS.ListEq
import KE.KDictList
import PyProof.DictMoreH
import PyProof.Rows.StrInSeq
import PyProof.SeqRoads2
import PySem.Challenge.RW_tightranges_k09_errors_of_systems
set_option Elab.async false
set_option linter.all false
set_option maxRecDepth 100000
namespace Gd
open PySem PySem.Spec PyProof.Rows L2

/-! ### a def called where no repr is under way -/
structure FnGd (P : Program) (w : World) (K : PySem.W.Frag) (mg : Str → Option Value)
    (base : Heap) (k : Nat) (f : Addr) (fd : FuncData) (ps : List Str) (sp : Sp) : Prop where
  len : ∀ vs H Q E, sp vs H Q E → vs.length = ps.length
  run : ∀ (A : Around) (out : List Env) (s : Shared) (H : Hp) (args : Args)
      (us : List Value) (vs : List V) (Q : VK) (E : XK),
      A.guards = some [] → Room k A → Env0 P w K mg base A out s H →
      BindsTo s fd args (ps.zip us) → Vals vs us → sp vs H Q E →
      codeAny (model P w) A (.call (.ref f) args) (CR CX0 out P w H s Q E) s

section
variable {P : Program} {w : World} {K : PySem.W.Frag} {mg : Str → Option Value} {base : Heap}

theorem okG {x qual : Str} {st : Stmt} {f : Addr} {fd : FuncData} {N ps : List Str} {k : Nat} {sp : Sp}
    (F : Fun K x qual st f fd) (S : FnScope N ps (defScope st))
    (len : ∀ vs H Q E, sp vs H Q E → vs.length = ps.length)
    (hb : ∀ (cdv : Value) (A : Around) (out : List Env) (s : Shared) (H : Hp) (vs : List V) (Q : VK) (E : XK),
      (A.deeper (envOfC qual (defScope st) s.heap.objs.size f cdv)).guards = some [] →
      Room k (A.deeper (envOfC qual (defScope st) s.heap.objs.size f cdv)) → sp vs H Q E →
      ∃ t, PSs (cxOf CX0 P w K mg base N qual (defScope st) f cdv A out s H E).nox (defBody st) t ∧
        t { nx := fun _ H' => Q .non H', rt := Q } (start N vs) H) :
    FnGd P w K mg base (k + 1) f fd ps sp := by
  obtain ⟨oc, od, kV, doc, pm, an, cdv, ct, osl, rfl, lk, cdok⟩ := F.ex
  constructor
  · exact len
  intro A out s H args us vs Q E gA rm env bnd rel pre
  have pl := len vs H Q E pre
  have keep : ∀ b o, base.get? b = some o → s.heap.get? b = some o := fun b o e => (env.bs b o e).1
  have kin := env.mod.kin.keeps keep
  have nol := env.mod.nolimit.keeps keep
  refine codeAny_call_function rm.depth (kin _ _ lk) rfl S.co S.gen rfl
    (PySem.W.codeRec_of kin cdok) (bnd _ _ _ _ ?_)
  refine wpAny_newFunctionEnv_cells S.kind ?_ fun en he s1 xx => ?_
  · rintro ⟨nm, val⟩ mem
    cases S.par nm (List.of_mem_zip mem).1 with
    | inl q => exact .inl q
    | inr q => exact .inr ⟨q, PySem.W.cellsFrom_some _ _ _ (.inl q)⟩
  subst he
  refine ⟨nol.keeps xx.toInCall.keep, codeAny_func ?_⟩
  obtain ⟨t, ht, hq⟩ := hb cdv A out s H vs Q E gA (rm.deeper _) pre
  have J0 := inv_start (CX := CX0) (E := E) (qual := qual) (f := f) (cd := cdv) S rm.hd env pl rel xx
  refine wpAny_mono (ht.nox.run [] s1 (start N vs) H _ J0 hq) ?_ (fun _ _ z => z)
  intro fl s' post
  cases fl with
  | next =>
    obtain ⟨_, H', J, q⟩ := post
    exact ⟨.non, H', J.os, J.bare, J.base, J.hok, rfl, q⟩
  | ret u =>
    obtain ⟨v, _, H', J, rv, q⟩ := post
    exact ⟨v, H', J.os, J.bare, J.base, J.hok, rv, q⟩
  | brk =>
    obtain ⟨_, _, _, no⟩ := post
    cases no
  | cont =>
    obtain ⟨_, _, _, no⟩ := post
    cases no

/-- the law's call at its own place: nothing is under way there -/
theorem lawG {mb : Str → Option Value} {k : Nat} {fa a : Addr} {fd : FuncData} {x : Str} {sp : Sp}
    {s : Shared} {vs : List Value} {ns : List Int}
    (kin : K.In s.heap) (glo : s.heap.Ns mainGlobals mg) (blt : s.heap.Ns builtinsNs mb)
    (boot : ∀ x : Str, x ≠ "__name__" → mb x = bootBuiltins x) (nol : s.heap.NoLimit) (gen : s.gens = #[])
    (obj : s.heap.get? a = some { cls := .type "list", data := .seq vs.toArray }) (insc : IntsAre vs ns)
    (short : ns.length ≤ sizeLine) (rm : Room k callerA)
    (F : ∀ base : Heap, K.In base → base.Ns mainGlobals mg → FnGd P w K mg base k fa fd [x] sp)
    (bnd : ∀ (s : Shared) (u : Value), BindsTo s fd ⟨[u], []⟩ [(x, u)])
    (pre : ∀ H : Hp, SqL K H a (ns.map V.int) → sp [.ref a] H (fun v _ => v = .bl true) E0) :
    codeAny (model P w) callerA (.call (.ref fa) ⟨[.ref a], []⟩)
      (fun r s' => r = .ok (.ret (.bool true)) ∧ OldK s.heap s'.heap ∧ s'.os = s.os ∧ AllBare s'.gens) s := by
  have rel : Vals (ns.map V.int) vs := vals_ints insc
  have cnt : vs.length = ns.length := insc.length
  let scr : Obj := { cls := .type "list", data := .seq vs.toArray }
  -- what is tracked at first: the script, unless the module knows it
  let H : Hp := fun b => if b = a ∧ K.lookup a = none then some (.frz scr (.lst (ns.map V.int))) else none
  have track : ∀ b u, H b = some u → b = a ∧ K.lookup a = none ∧ u = .frz scr (.lst (ns.map V.int)) := by
    intro b u e
    by_cases c : b = a ∧ K.lookup a = none
    · have e2 : some (HO.frz scr (.lst (ns.map V.int))) = some u := (if_pos c).symm.trans e
      exact ⟨c.1, c.2, (Option.some.inj e2).symm⟩
    · have e2 : (none : Option HO) = some u := (if_neg c).symm.trans e
      cases e2
  have isl : SqL K H a (ns.map V.int) := by
    cases q : K.lookup a with
    | none => exact .inl (.inr ⟨scr, if_pos ⟨rfl, q⟩⟩)
    | some o =>
      have o2 := kin a o q
      rw [obj] at o2
      cases o2
      exact .inr ⟨_, vs.toArray, _, q, rfl, rfl, rfl, by rw [List.size_toArray, cnt]; exact short, by simpa using rel⟩
  have hok : HOk P w H s.heap := by
    intro b u e
    obtain ⟨rfl, _, rfl⟩ := track b u e
    exact ⟨obj, by rw [List.length_map]; exact short, vs, _, rel, obj⟩
  have nodict : ∀ {b : Addr} {o : Obj} {es : Array DictEntry} {ep : Nat}, s.heap.get? b = some o → o.data = .dict es ep → H b = none := by
    intro b o es ep e d
    cases q : H b with
    | none => rfl
    | some u =>
      obtain ⟨rfl, _, _⟩ := track b u q
      rw [obj] at e
      cases e
      cases (show Data.seq vs.toArray _ = Data.dict es ep from d)
  have nspace : ∀ {b : Addr} {m : Str → Option Value}, s.heap.Ns b m → (hidT s.heap H).Ns b m := by
    rintro b m ⟨o, es, ep, e, d, r⟩
    exact ⟨o, es, ep, hidT_get e (nodict e d), d, r⟩
  have kin2 : K.In (hidT s.heap H) := by
    intro b o e
    refine hidT_get (kin b o e) ?_
    cases q : H b with
    | none => rfl
    | some u =>
      obtain ⟨rfl, n, _⟩ := track b u q
      rw [n] at e
      cases e
  have mod : Mod K mg (hidT s.heap H) := by
    refine ⟨kin2, nspace glo, ⟨mb, nspace blt, boot⟩, ?_⟩
    obtain ⟨mc, n1, n2⟩ := nol
    exact ⟨mc, nspace n1, n2⟩
  have env : Env0 P w K mg (hidT s.heap H) callerA [] s H := by
    refine ⟨rfl, mod, fun b o e => of_hidT e, Nat.le_of_eq (hidT_size _ _), trivial, ?_, hok, .of_eq gen⟩
    intro b m
    cases (show b ∈ ([] : List Addr) from m)
  have run := (F _ kin2 (nspace glo)).run callerA [] s H ⟨[.ref a], []⟩ [.ref a] [.ref a] _ _ rfl rm env
    (bnd s (.ref a)) (.cons rfl .nil) (pre H isl)
  refine codeAny_mono run ?_
  intro r s' post
  cases r with
  | error e => exact (post : False).elim
  | ok fl =>
    cases fl with
    | ret u =>
      obtain ⟨v, H', os, bare, un, hok', rv, vt⟩ := post
      have vt' : v = .bl true := vt
      subst vt'
      have ut : u = Value.bool true := rv
      subst ut
      refine ⟨rfl, OldK.of_keep ?_, os, bare⟩
      intro b o e
      cases q : H b with
      | none => exact un.keep b o e q (fun m => by cases (show b ∈ ([] : List Addr) from m)) (by simp)
      | some u2 =>
        obtain ⟨rfl, _, rfl⟩ := track b u2 q
        have stays := un.frzs b _ _ q
        have o1 := (hok b _ q).1
        have o2 := (hok' b _ stays).1
        rw [e] at o1
        cases o1
        exact o2
    | next => exact (post : False).elim
    | brk => exact (post : False).elim
    | cont => exact (post : False).elim
end

/-- the end of a law's proof -/
theorem walkG {l : PySem.W.OpenLaw} {n k : Nat} {q : Program} {loose : List Str} {XP : (Str → Option Value) → Heap → Prop}
    {YP : World → Heap → Prop} {d : DefRec} {K : Params → PySem.W.Frag} {sp : World → Sp} {x : Str}
    (most : l.most = some n) (small : n ≤ sizeLine) (plain : d.params.defaults = []) (rm : Room k callerA)
    (hY : ∀ (w : World) (h : Heap), YP w h → (K w.params).In h)
    (F : ∀ (w : World) (mg : Str → Option Value) (fa : Addr) (h : Heap),
      (K w.params).In h → h.Ns mainGlobals mg → mg d.name = some (.ref fa) →
      ∃ fd : FuncData, (∀ (s : Shared) (u : Value), BindsTo s fd ⟨[u], []⟩ [(x, u)]) ∧
        ∀ base : Heap, (K w.params).In base → base.Ns mainGlobals mg →
          FnGd l.prog w (K w.params) mg base k fa fd [x] (sp w))
    (pre : ∀ (w : World) (H : Hp) (a : Addr) (ns : List Int), ns.length ≤ n → (∀ z ∈ ns, Builtin.Int.intBits z ≤ 1048576) →
      SqL (K w.params) H a (ns.map V.int) → sp w [.ref a] H (fun v _ => v = .bl true) E0) :
    PySem.W.WalkO q loose XP YP l.row.toRowW d [] (fun f vs => PySem.call f vs) := by
  apply Att.attach_callB most plain
  intro w s0 s1 mg mb fa o pm cd doc a vs ns G Y _ _ _ named obj insc le bits gen
  obtain ⟨fd, bnd, all⟩ := F w mg fa _ (hY w _ Y) G.T.g named
  exact lawG (hY w _ Y) G.T.g G.T.b G.T.builtins G.T.nolimit gen obj insc (Nat.le_trans le small) rm all bnd
    fun H isl => pre w H a ns le bits isl

/-! ### rules -/
section
variable {X : Cx}
/-- repr of data -/
theorem call_repr {k : Nat} (gd : X.A.guards = some []) (hr : Room k X.A) : CallR X (.builtin "repr") (fun xs H Q => ∃ v d, xs = [v] ∧
    Dp X.K H v d ∧ d.hasDict = false ∧ d.showable = true ∧ d.depth ≤ 64 ∧ d.shown.length ≤ sizeLine ∧ (∃ a, v = .ref a) ∧ Q (.str d.shown) H) := by
  intro pins s σ H xs us Q I r h
  obtain ⟨v, d, rfl, dp, nod, sh, deep, fits, ⟨a, rfl⟩, q⟩ := h
  obtain ⟨u, rfl, ru⟩ := vals1 r
  cases ru
  obtain ⟨as, rd⟩ := Dp.reads I d _ _ dp rfl
  have room := hr.un
  refine repr_of_reads' rd sh (PyData.noDict_hsm nod) gd (by omega) (fun _ _ e => e) ?_ fits
  intro h' u tk keep
  exact ⟨.str _, H, I.kept keep, ⟨u, rfl⟩, q⟩
/-- i ** j, of great i -/
def CPowW (i j : Int) : Prop := 0 ≤ j ∧ (Builtin.Int.intBits i : Int) * j ≤ 2 ^ 27
theorem op_powW : OpR X (binaryOp .Pow) (rI CPowW fun i j => .int (i ^ j.toNat)) :=
  opI fun _ _ _ _ _ _ _ hc q => pow_int hc.1 hc.2 q
end
end Gd

set_option Elab.async false
set_option linter.all false
set_option maxRecDepth 100000
namespace Gd
open PySem PySem.Spec PyProof.Rows L2

/-! ### a def of the text, with all that a caller needs -/
structure Dn (P : Program) (w : World) (K : PySem.W.Frag) (mg : Str → Option Value) (base : Heap)
    (k : Nat) (x : Str) (st : Stmt) (ps : List Str) (sp : Sp) : Prop where
  ex : ∃ f fd, Fun K x x st f fd ∧ Binds K fd ps [] ∧ mg x = some (.ref f) ∧ FnOk P w K mg base CX0 k f fd ps sp
structure DnG (P : Program) (w : World) (K : PySem.W.Frag) (mg : Str → Option Value) (base : Heap)
    (k : Nat) (x : Str) (st : Stmt) (ps : List Str) (sp : Sp) : Prop where
  ex : ∃ f fd, Fun K x x st f fd ∧ Binds K fd ps [] ∧ mg x = some (.ref f) ∧ FnGd P w K mg base k f fd ps sp
section
variable {P : Program} {w : World} {K : PySem.W.Frag} {mg : Str → Option Value} {base : Heap}
/-- where a def stands -/
def At (K : PySem.W.Frag) (mg : Str → Option Value) (x : Str) (st : Stmt) (ps : List Str) : Prop :=
  ∃ f fd, Fun K x x st f fd ∧ Binds K fd ps [] ∧ mg x = some (.ref f)
theorem Dn.mk' {x : Str} {st : Stmt} {ps : List Str} {k : Nat} {sp : Sp} (h : At K mg x st ps)
    (ok : ∀ f fd, Fun K x x st f fd → FnOk P w K mg base CX0 k f fd ps sp) : Dn P w K mg base k x st ps sp := by
  obtain ⟨f, fd, F, b, g⟩ := h
  exact ⟨f, fd, F, b, g, ok f fd F⟩
theorem DnG.mk' {x : Str} {st : Stmt} {ps : List Str} {k : Nat} {sp : Sp} (h : At K mg x st ps)
    (ok : ∀ f fd, Fun K x x st f fd → FnGd P w K mg base k f fd ps sp) : DnG P w K mg base k x st ps sp := by
  obtain ⟨f, fd, F, b, g⟩ := h
  exact ⟨f, fd, F, b, g, ok f fd F⟩
end

/-- the reading of a call that raises nothing -/
def tCl (sp : Sp) (t : TA) : TE := fun σ H Q => t σ H fun vs H1 => sp vs H1 Q E0
def tClK (sp : Sp) (gV : List V → List V → List V) (t tk : TA) : TE := fun σ H Q => t σ H fun vs H1 => tk σ H1 fun zs H2 => sp (gV vs zs) H2 Q E0
section
variable {K : PySem.W.Frag} {x qual : Str} {st : Stmt} {f : Addr} {fd : FuncData} {ps ks : List Str}
theorem kb_of0 (n : Nat) (F : Fun K x qual st f fd) (g : {α : Type} → List α → List α → List α)
    (h : ∀ (kV doc pm : Value) (an : Option Addr) (cdv ct : Value) (us ws : List Value), us.length = n → ws.length = ks.length →
      bindArgs (PySem.W.fnOf x qual (defArgs st) (defBody st) (defScope st) .none kV doc pm an cdv ct) ⟨us, ks.zip ws⟩ = pure (ps.zip (g us ws))) :
    ∀ (s : Shared) (us ws : List Value), us.length = n → ws.length = ks.length → BindsTo s fd ⟨us, ks.zip ws⟩ (ps.zip (g us ws)) := by
  obtain ⟨oc, od, kV, doc, pm, an, cdv, ct, osl, rfl, lk, hcd⟩ := F.ex
  intro s us ws h1 h2
  exact .of_eq (h kV doc pm an cdv ct us ws h1 h2)
end
section
variable {X : Cx} {x : Str} {st : Stmt} {ps ks : List Str} {sp : Sp} {k j n : Nat} {e : Expr} {es : List Expr} {kws : List Keyword} {t tk : TA} {p pos : Pos}
/-- a call of a def that has its promise -/
theorem pe_c (D : Dn X.prog X.w X.K X.mg X.base k x st ps sp) (hr : Room j X.A) (hg : Gl X x) (ha : PA X (e :: es) t) (hk : k ≤ j := by decide)
    (hdb : (x == ("__debug__" : Str)) = false := by decide) (he : starEach (e :: es) X.env = (false, eval e X.env) :: starEach es X.env := by rfl)
    (hpl : (backTo pos (starEach es X.env)).any (·.1) = false := by rfl) :
    PE X (.Call (.Name x p) (e :: es) [] pos) (tCl sp t) := by
  obtain ⟨f, fd, F, b, g, ok⟩ := D.ex
  refine ⟨fun pins s σ H Q I h => ?_⟩
  refine wpAny_Call_Name_kw (ld_glob I hg g ?_ hdb)
  refine PySem.W.callWith_K (h₀ := X.base) I.ok.mod.kin F.kp (thn (ha.run pos pins s σ H _ I h) fun us s1 got => ?_) he hpl
  obtain ⟨vs, H1, I1, r1, q1⟩ := got
  refine ⟨I1.kIn, ?_⟩
  exact run_fn (dvs := []) ok (hr.mono hk) b .nil pass0 I1 r1 (by rw [List.append_nil]; exact q1)
theorem pe_cG (gd : X.A.guards = some []) (D : DnG X.prog X.w X.K X.mg X.base k x st ps sp) (hr : Room j X.A) (hg : Gl X x) (ha : PA X (e :: es) t) (hk : k ≤ j := by decide)
    (hdb : (x == ("__debug__" : Str)) = false := by decide) (he : starEach (e :: es) X.env = (false, eval e X.env) :: starEach es X.env := by rfl)
    (hpl : (backTo pos (starEach es X.env)).any (·.1) = false := by rfl) :
    PE X (.Call (.Name x p) (e :: es) [] pos) (tCl sp t) := by
  obtain ⟨f, fd, F, b, g, ok⟩ := D.ex
  refine ⟨fun pins s σ H Q I h => ?_⟩
  refine wpAny_Call_Name_kw (ld_glob I hg g ?_ hdb)
  refine PySem.W.callWith_K (h₀ := X.base) I.ok.mod.kin F.kp (thn (ha.run pos pins s σ H _ I h) fun us s1 got => ?_) he hpl
  obtain ⟨vs, H1, I1, r1, q2⟩ := got
  refine ⟨I1.kIn, ?_⟩
  have cnt : us.length = ps.length := by
    rw [← r1.length]
    exact ok.len _ _ _ _ q2
  have bnd : BindsTo s1 fd ⟨us, []⟩ (ps.zip us) := by
    have z := b s1 us I1.kIn (by simpa using cnt)
    simpa using z
  refine wpAny_call (codeAny_mono (ok.run X.A X.stack s1 H1 ⟨us, []⟩ us vs _ E0 gd (hr.mono hk) I1.env0 bnd r1 q2) ?_)
  intro r s' post
  cases r with
  | error e => exact (post : False).elim
  | ok fl =>
    cases fl with
    | ret u => exact I1.after post
    | next => exact (post : False).elim
    | brk => exact (post : False).elim
    | cont => exact (post : False).elim
/-- how the keywords bind -/
def KwTo (K : PySem.W.Frag) (x : Str) (st : Stmt) (ps ks : List Str) (n : Nat) (g : {α : Type} → List α → List α → List α) : Prop :=
  (∀ {vs zs : List V} {us ws : List Value}, vs.length = n → zs.length = ks.length → Vals vs us → Vals zs ws → Vals (g vs zs) (g us ws)) ∧
  ∀ f fd, Fun K x x st f fd → ∀ (s : Shared) (us ws : List Value), us.length = n → ws.length = ks.length → BindsTo s fd ⟨us, ks.zip ws⟩ (ps.zip (g us ws))
def tClN (n m : Nat) (sp : Sp) (gV : List V → List V → List V) (t tk : TA) : TE := fun σ H Q => t σ H fun vs H1 => tk σ H1 fun zs H2 => vs.length = n ∧ zs.length = m ∧ sp (gV vs zs) H2 Q E0
/-- f(k = v, ..) -/
theorem pe_cz {g : {α : Type} → List α → List α → List α} (D : Dn X.prog X.w X.K X.mg X.base k x st ps sp) (hr : Room j X.A) (kb : KwTo X.K x st ps ks 0 g) (hg : Gl X x) (hkw : PK X kws tk) (hk : k ≤ j := by decide)
    (hall : (backToKw pos (keywordEach kws X.env)).all (·.1.isSome) = true := by rfl) (hks : (backToKw pos (keywordEach kws X.env)).filterMap (·.1) = ks := by rfl)
    (hdb : (x == ("__debug__" : Str)) = false := by decide)
    (hpl : ((backTo pos (starEach [] X.env)).any (·.1) || (backToKw pos (keywordEach kws X.env)).any (·.1.isNone)) = false := by rfl) :
    PE X (.Call (.Name x p) [] kws pos) (tClN 0 ks.length sp g tNil tk) := by
  obtain ⟨f, fd, F, b, gg, ok⟩ := D.ex
  refine ⟨fun pins s σ H Q I h => ?_⟩
  refine wpAny_Call_Name_kw (ld_glob I hg gg ?_ hdb)
  refine PySem.W.callWith_KW0 (h₀ := X.base) I.ok.mod.kin F.kp hall ?_ hpl
  refine thn (hkw.run pos pins s σ H _ I h) fun ws s2 got => ?_
  obtain ⟨zs, H2, I2, rz, l1, l2, q2⟩ := got
  refine ⟨I2.kIn, ?_⟩
  rw [hks]
  have rel := kb.1 l1 l2 Paired.nil rz
  have bnd := kb.2 f fd F s2 [] ws rfl (rz.length.symm.trans l2)
  refine wpAny_call (codeAny_mono (ok.run X.A X.stack s2 H2 ⟨[], ks.zip ws⟩ _ _ _ E0 (hr.mono hk) I2.env0 bnd rel q2) ?_)
  intro r s' post
  cases r with
  | error e => exact (post : False).elim
  | ok fl =>
    cases fl with
    | ret u => exact I2.after post
    | next => exact (post : False).elim
    | brk => exact (post : False).elim
    | cont => exact (post : False).elim
end

/-! ### heaps: all but the draws' list stays -/
def Kp (a : Addr) (H H' : Hp) : Prop := ∀ b o, b ≠ a → H b = some o → H' b = some o
theorem Kp.refl {a : Addr} {H : Hp} : Kp a H H := fun _ _ _ e => e
theorem Kp.trans {a : Addr} {H H1 H2 : Hp} (x : Kp a H H1) (y : Kp a H1 H2) : Kp a H H2 := fun b o n e => y b o n (x b o n e)
theorem Kp.of {a : Addr} {H H' : Hp} (x : Same H H') : Kp a H H' := fun b o _ e => x b o e
theorem Kp.at {a : Addr} {H : Hp} {o : HO} : Kp a H (upd H a o) := fun b u n e => by rw [upd_ne n]; exact e
theorem Kp.new {a p : Addr} {H : Hp} {o : HO} (n : H p = none) : Kp a H (upd H p o) := fun b u _ e => by rw [upd_ne (ne_of_none e n)]; exact e
theorem Same.new {p : Addr} {H : Hp} {o : HO} (n : H p = none) : Same H (upd H p o) := fun b u e => by rw [upd_ne (ne_of_none e n)]; exact e
theorem SqT.same {K : PySem.W.Frag} {H H' : Hp} {b : Addr} {xs : List V} (k : Same H H') (h : SqT K H b xs) : SqT K H' b xs := by
  rcases h with (h | ⟨o, h⟩) | h
  · exact .inl (.inl (k _ _ h))
  · exact .inl (.inr ⟨o, k _ _ h⟩)
  · exact .inr h
/-- the draws' state: its list of three ints, after at most n draws -/
structure RS (n : Nat) (H : Hp) (a : Addr) : Prop where
  ok : ∃ d s t : Int, H a = some (.lst [.int d, .int s, .int t]) ∧ 0 ≤ d ∧ d.natAbs < 2 ^ 13000 ∧ 0 ≤ s ∧ s < 2305843009213693951 ∧ 0 ≤ t ∧ t ≤ n
theorem RS.mono {n m : Nat} {H : Hp} {a : Addr} (h : n ≤ m) (r : RS n H a) : RS m H a := by
  obtain ⟨d, s, t, e, h1, h2, h3, h4, h5, h6⟩ := r.ok
  exact ⟨d, s, t, e, h1, h2, h3, h4, h5, by omega⟩
theorem RS.same {n : Nat} {H H' : Hp} {a : Addr} (r : RS n H a) (k : Same H H') : RS n H' a := by
  obtain ⟨d, s, t, e, r⟩ := r.ok
  exact ⟨d, s, t, k _ _ e, r⟩
theorem RS.ne {n : Nat} {H : Hp} {a b : Addr} {o : HO} (r : RS n H a) (e : H b = some o) (no : ∀ xs, o ≠ .lst xs) : b ≠ a := by
  obtain ⟨d, s, t, e2, _⟩ := r.ok
  exact ne_of e e2 (no _)
theorem SqT.kp {K : PySem.W.Frag} {n : Nat} {H H' : Hp} {a b : Addr} {xs : List V} (r : RS n H a) (k : Kp a H H') (h : SqT K H b xs) : SqT K H' b xs := by
  rcases h with (h | ⟨o, h⟩) | h
  · exact .inl (.inl (k _ _ (r.ne h (fun _ z => by cases z)) h))
  · exact .inl (.inr ⟨o, k _ _ (r.ne h (fun _ z => by cases z)) h⟩)
  · exact .inr h

/-! ### ranges -/
abbrev Rg := Option (Option Int × Option Int)
def ov : Option Int → V
  | none => .non
  | some i => .int i
def RgV (K : PySem.W.Frag) (H : Hp) (v : V) : Rg → Prop
  | none => v = .non
  | some (l, h) => ∃ p, v = .ref p ∧ SqT K H p [ov l, ov h]
theorem RgV.same {K : PySem.W.Frag} {H H' : Hp} {v : V} {r : Rg} (k : Same H H') (h : RgV K H v r) : RgV K H' v r := by
  cases r with
  | none => exact h
  | some q =>
    obtain ⟨p, e, s⟩ := h
    exact ⟨p, e, SqT.same k s⟩
theorem RgV.kp {K : PySem.W.Frag} {n : Nat} {H H' : Hp} {a : Addr} {v : V} {r : Rg} (rs : RS n H a) (k : Kp a H H') (h : RgV K H v r) : RgV K H' v r := by
  cases r with
  | none => exact h
  | some q =>
    obtain ⟨p, e, s⟩ := h
    exact ⟨p, e, SqT.kp rs k s⟩
/-- Range check accepts it -/
def RgFit : Rg → Prop
  | some (some l, some h) => l ≤ h
  | _ => True
end Gd

set_option Elab.async false
set_option linter.all false
set_option maxRecDepth 100000
namespace Gd
open PySem PySem.Spec PyProof.Rows L2

theorem inV_ints (z : Int) : ∀ ns : List Int, inV (.int z) (ns.map V.int) = decide (z ∈ ns)
  | [] => rfl
  | n :: ns => by
    have ih := inV_ints z ns
    unfold inV at ih ⊢
    rw [List.map_cons, List.any_cons, ih]
    show ((n == z) || decide (z ∈ ns)) = decide (z ∈ n :: ns)
    by_cases h : n = z
    · subst h
      simp
    · have h2 : ¬ z = n := fun e => h e.symm
      simp [h, h2]
theorem flat_ints : ∀ ns : List Int, (ns.map V.int).all flatV = true
  | [] => rfl
  | _ :: ns => flat_ints ns
theorem dp_ints {K : PySem.W.Frag} {H : Hp} : ∀ ns : List Int, DpAll K H (ns.map V.int) (ns.map PyData.int)
  | [] => .nil
  | n :: ns => .cons (.int n) (dp_ints ns)
theorem canLay_ints : ∀ ns : List Int, PyData.canLayAll0 (ns.map PyData.int) = true
  | [] => rfl
  | n :: ns => by
    rw [List.map_cons]
    unfold PyData.canLayAll0
    rw [canLay_ints ns]
    rfl
theorem depth_ints : ∀ ns : List Int, PyData.depthAll (ns.map PyData.int) ≤ 1
  | [] => by simp [PyData.depthAll]
  | n :: ns => by
    have ih := depth_ints ns
    simp only [List.map_cons, PyData.depthAll, PyData.depth]
    omega
theorem shaped_ints (ns : List Int) : SeqAt.shaped (.list (ns.map PyData.int)) = true := by
  unfold SeqAt.shaped
  have h1 : PyData.canLay0 (.list (ns.map PyData.int)) = true := by
    have e : PyData.canLay0 (.list (ns.map PyData.int)) = PyData.canLayAll0 (ns.map PyData.int) := by simp [PyData.canLay0]
    rw [e]
    exact canLay_ints ns
  have h2 : PyData.depth (.list (ns.map PyData.int)) ≤ 64 := by
    have := depth_ints ns
    simp only [PyData.depth]
    omega
  rw [h1, decide_eq_true h2]
  rfl
theorem eqv_ints_nil (ns : List Int) : PyData.eqv (.list (ns.map PyData.int)) (.list []) = decide (ns = []) := by
  cases ns with
  | nil => simp [PyData.eqv, PyData.eqvAll]
  | cons n ns => simp [PyData.eqv, PyData.eqvAll]
/-- [x for x in xs if test] over ints, the test a function of the int -/
theorem lc_filter {K : PySem.W.Frag} {j : Nat} {tt : TT} {σ : L2.St} {H : Hp} {Qd : Hp → Prop} {a D : Addr} (ns : List Int) (p : Int → Bool)
    (hl : SqL K H a (ns.map V.int)) (hz : ns.length ≤ 100000) (nD : H D = none)
    (hw : ∀ z : Int, wipe ((wipe σ [j]).set j (some (.int z))) [j] = wipe σ [j])
    (hg : ∀ z : Int, ((wipe σ [j]).set j (some (.int z)))[j]? = some (some (.int z)))
    (ht : ∀ (z : Int) (H' : Hp) (R : Bool → Hp → Prop), Same H H' → R (p z) H' → tt ((wipe σ [j]).set j (some (.int z))) H' R)
    (q : Qd (upd H D (.lst ((ns.filter p).map V.int)))) :
    ∃ Z : Nat → Nat → Hp → Prop, (∃ m, Z 0 m (upd H D (.lst []))) ∧
      ∀ i m G, Z i m G →
        ((Itl K a).stop i G ∧ Qd G) ∨
        ((Itl K a).go i G ∧ ∃ N : Hp → Prop, (∀ G', N G' → ∃ m', m' < m ∧ Z (i + 1) m' G') ∧
          ∀ x G', (Itl K a).yld i G x G' →
            gName j x (wipe σ [j]) G' fun σ2 G2 =>
              wipe σ2 [j] = wipe σ [j] ∧
              tt σ2 G2 fun b G3 =>
                if b = true then
                  tVar j σ2 G3 fun y G4 =>
                    ∃ acc, G4 D = some (.lst acc) ∧ acc.length < sizeLine ∧
                      N (upd G4 D (.lst (acc ++ [y])))
                else N G3) := by
  refine lc_list (K := K) (a := a) (xs := ns.map V.int) (fun i H' => H' = upd H D (.lst (((ns.take i).filter p).map V.int))) rfl ?_ ?_ ?_
  · intro i H' _ e
    subst e
    exact (Same.new nD).seq hl
  · intro i x H' hx e
    subst e
    rw [List.getElem?_map] at hx
    cases c : ns[i]? with
    | none =>
      rw [c] at hx
      cases hx
    | some z =>
      rw [c] at hx
      have ex : V.int z = x := Option.some.inj hx
      subst ex
      have lt : i < ns.length := (List.getElem?_eq_some_iff.mp c).1
      have tk : (ns.take (i + 1)).filter p = (ns.take i).filter p ++ (if p z = true then [z] else []) := by
        rw [List.take_add_one, c]
        show ((ns.take i) ++ [z]).filter p = _
        rw [List.filter_append]
        by_cases c2 : p z = true
        · rw [if_pos c2]; simp [c2]
        · rw [if_neg c2]; simp [c2]
      refine ⟨hw z, ht z _ _ (Same.new nD) ?_⟩
      by_cases c2 : p z = true
      · rw [c2]
        refine iteT ⟨_, hg z, _, upd_same, ?_, ?_⟩
        · rw [List.length_map]
          have h1 : ((ns.take i).filter p).length ≤ (ns.take i).length := List.length_filter_le _ _
          have h2 : (ns.take i).length ≤ ns.length := List.length_take_le' ..
          exact Nat.lt_of_le_of_lt (Nat.le_trans (Nat.le_trans h1 h2) hz) (by decide)
        · rw [upd_upd, tk, if_pos c2, List.map_append]
          rfl
      · have c3 : p z = false := by simpa using c2
        rw [c3]
        refine iteF ?_
        show upd H D _ = upd H D _
        rw [tk, if_neg c2, List.append_nil]
  · intro H' e
    subst e
    rw [List.length_map, List.take_length]
    exact q
end Gd

set_option Elab.async false
set_option linter.all false
set_option maxRecDepth 100000
set_option autoImplicit false
namespace Gd
open PySem PySem.Spec PyProof.Rows L2

/-! ### data whose text is short -/
structure DOk (n k : Nat) (d : PyData) : Prop where
  short : d.leavesShort 72 = true
  bulk : d.bulk ≤ n
  nod : d.hasDict = false
  shw : d.showable = true
  lay : d.canLay0 = true
  deep : d.depth ≤ k
structure DAll (n k : Nat) (ds : List PyData) : Prop where
  short : PyData.leavesShortAll 72 ds = true
  bulk : PyData.bulkAll ds ≤ n
  nod : PyData.hasDictAll ds = false
  shw : PyData.showableAll ds = true
  lay : PyData.canLayAll0 ds = true
  deep : PyData.depthAll ds ≤ k
theorem DOk.mono {n m k j : Nat} {d : PyData} (h : DOk n k d) (a : n ≤ m) (b : k ≤ j) : DOk m j d :=
  ⟨h.short, Nat.le_trans h.bulk a, h.nod, h.shw, h.lay, Nat.le_trans h.deep b⟩
theorem DAll.mono {n m k j : Nat} {ds : List PyData} (h : DAll n k ds) (a : n ≤ m) (b : k ≤ j) : DAll m j ds :=
  ⟨h.short, Nat.le_trans h.bulk a, h.nod, h.shw, h.lay, Nat.le_trans h.deep b⟩
theorem DOk.none : DOk 0 1 .none := ⟨rfl, Nat.le_refl _, rfl, rfl, rfl, by simp [PyData.depth]⟩
theorem DOk.bool (b : Bool) : DOk 0 1 (.bool b) := ⟨rfl, Nat.le_refl _, rfl, rfl, rfl, by simp [PyData.depth]⟩
theorem DOk.int {i : Int} (h : i.natAbs < 10 ^ 60) : DOk 0 1 (.int i) := by
  refine ⟨?_, Nat.le_refl _, rfl, ?_, rfl, by simp [PyData.depth]⟩
  · have e := int_text_length_le10 (k := 60) (by decide) h
    unfold PyData.leavesShort
    refine decide_eq_true ?_
    show (Str.ofString (toString i)).length ≤ 72
    rw [PySem.ofString_length]
    omega
  · unfold PyData.showable
    refine decide_eq_true ?_
    have h2 : i.natAbs < 2 ^ 200 := Nat.lt_trans h (by decide)
    have := PySem.Flt.log2_lt_of (k := 200) (by decide) h2
    omega
theorem DOk.intL {i : Int} (h : i.natAbs < 10 ^ 68) : DOk 0 1 (.int i) := by
  refine ⟨?_, Nat.le_refl _, rfl, ?_, rfl, by simp [PyData.depth]⟩
  · have e := int_text_length_le10 (k := 68) (by decide) h
    unfold PyData.leavesShort
    refine decide_eq_true ?_
    show (Str.ofString (toString i)).length ≤ 72
    rw [PySem.ofString_length]
    omega
  · unfold PyData.showable
    refine decide_eq_true ?_
    have h2 : i.natAbs < 2 ^ 230 := Nat.lt_trans h (by decide)
    have := PySem.Flt.log2_lt_of (k := 230) (by decide) h2
    omega
theorem DOk.str {x : Str} (h1 : (x.cps.toList.all fun c => decide (c < 16 ^ 8)) = true) (h2 : x.cps.size ≤ 20) (h3 : PyData.canLay0 (.str x) = true) : DOk 20 1 (.str x) :=
  ⟨by unfold PyData.leavesShort; exact h1, by unfold PyData.bulk; exact h2, rfl, rfl, h3, by simp [PyData.depth]⟩
theorem DAll.nil : DAll 0 0 [] := ⟨rfl, Nat.le_refl _, rfl, rfl, rfl, by simp [PyData.depthAll]⟩
theorem DAll.cons {n m k j : Nat} {d : PyData} {ds : List PyData} (h : DOk n k d) (t : DAll m j ds) : DAll (n + 1 + m) (max k j) (d :: ds) := by
  refine ⟨?_, ?_, ?_, ?_, ?_, ?_⟩
  · unfold PyData.leavesShortAll; rw [h.short, t.short]; rfl
  · unfold PyData.bulkAll; have := h.bulk; have := t.bulk; omega
  · unfold PyData.hasDictAll; rw [h.nod, t.nod]; rfl
  · unfold PyData.showableAll; rw [h.shw, t.shw]; rfl
  · unfold PyData.canLayAll0; rw [h.lay, t.lay]; rfl
  · unfold PyData.depthAll; have := h.deep; have := t.deep; omega
theorem DOk.list {n k : Nat} {ds : List PyData} (t : DAll n k ds) : DOk n (k + 1) (.list ds) := by
  refine ⟨?_, ?_, ?_, ?_, ?_, ?_⟩
  · unfold PyData.leavesShort; exact t.short
  · unfold PyData.bulk; exact t.bulk
  · unfold PyData.hasDict; exact t.nod
  · unfold PyData.showable; exact t.shw
  · unfold PyData.canLay0; exact t.lay
  · unfold PyData.depth; have := t.deep; omega
theorem DOk.tuple {n k : Nat} {ds : List PyData} (t : DAll n k ds) : DOk n (k + 1) (.tuple ds) := by
  refine ⟨?_, ?_, ?_, ?_, ?_, ?_⟩
  · unfold PyData.leavesShort; exact t.short
  · unfold PyData.bulk; exact t.bulk
  · unfold PyData.hasDict; exact t.nod
  · unfold PyData.showable; exact t.shw
  · unfold PyData.canLay0; exact t.lay
  · unfold PyData.depth; have := t.deep; omega
theorem DOk.fits {n k : Nat} {d : PyData} (h : DOk n k d) (hn : n ≤ 200000) : d.shown.length ≤ sizeLine := by
  have e := PyData.shown_le_bulk 72 (by decide) d h.short
  have b := h.bulk
  have s : sizeLine = 16777216 := by decide
  omega
theorem DOk.shaped {n k : Nat} {d : PyData} (h : DOk n k d) (hk : k ≤ 64) : SeqAt.shaped d = true := by
  unfold SeqAt.shaped
  rw [h.lay, decide_eq_true (Nat.le_trans h.deep hk)]
  rfl
theorem DOk.eqv {n k : Nat} {d : PyData} (h : DOk n k d) : PyData.eqv d d = true := SeqAt.eqv_refl d h.lay
section
variable {X : Cx}
/-- repr of data that is short -/
theorem call_reprD {k : Nat} (gd : X.A.guards = some []) (hr : Room k X.A) : CallR X (.builtin "repr") (fun xs H Q => ∃ v d n k, xs = [v] ∧
    Dp X.K H v d ∧ DOk n k d ∧ n ≤ 200000 ∧ k ≤ 64 ∧ (∃ a, v = .ref a) ∧ Q (.str d.shown) H) := by
  intro pins s σ H xs us Q I r h
  obtain ⟨v, d, n, k, e, dp, ok, hn, hk, ex, q⟩ := h
  exact call_repr gd hr pins s σ H xs us Q I r ⟨v, d, e, dp, ok.nod, ok.shw, Nat.le_trans ok.deep hk, ok.fits hn, ex, q⟩
end

/-! ### draws -/
theorem RS.fresh {n : Nat} {H : Hp} {g p : Addr} (r : RS n H g) (np : H p = none) : p ≠ g := fun z => by
  obtain ⟨_, _, _, e, _⟩ := r.ok
  rw [← z, np] at e
  cases e
theorem pick_mem {xs : List V} {d : Int} (h0 : 0 ≤ d) (h1 : d < (xs.length : Int)) : ∃ v, atI xs d = some v ∧ v ∈ xs := by
  have lt : d.toNat < xs.length := by omega
  refine ⟨xs[d.toNat], ?_, List.getElem_mem lt⟩
  exact at_of (j := d.toNat) (by omega) (List.getElem?_eq_getElem lt)
theorem Kp.lst {K : PySem.W.Frag} {H H' : Hp} {g b : Addr} {xs : List V} (k : Kp g H H') (h : b ≠ g) (l : SqL K H b xs) : SqL K H' b xs := by
  rcases l with (h2 | ⟨o, h2⟩) | h2
  · exact .inl (.inl (k _ _ h h2))
  · exact .inl (.inr ⟨o, k _ _ h h2⟩)
  · exact .inr h2
/-- [e for x in xs] over a list; each e is a value of its own (told by f), no matter what else the heap bears -/
theorem lc_map {K : PySem.W.Frag} {j : Nat} {te : TE} {σ : L2.St} {H : Hp} {Qd : Hp → Prop} {a D : Addr} {xs : List V} (f : V → V)
    (hl : SqL K H a xs) (hz : xs.length ≤ 100000) (nD : H D = none)
    (hw : ∀ z : V, wipe ((wipe σ [j]).set j (some z)) [j] = wipe σ [j])
    (he : ∀ (z : V) (H' : Hp) (R : VK), z ∈ xs → Same H H' → R (f z) H' → te ((wipe σ [j]).set j (some z)) H' R)
    (q : Qd (upd H D (.lst (xs.map f)))) :
    ∃ Z : Nat → Nat → Hp → Prop, (∃ m, Z 0 m (upd H D (.lst []))) ∧
      ∀ i m G, Z i m G →
        ((Itl K a).stop i G ∧ Qd G) ∨
        ((Itl K a).go i G ∧ ∃ N : Hp → Prop, (∀ G', N G' → ∃ m', m' < m ∧ Z (i + 1) m' G') ∧
          ∀ x G', (Itl K a).yld i G x G' →
            gName j x (wipe σ [j]) G' fun σ2 G2 =>
              wipe σ2 [j] = wipe σ [j] ∧
              tYes σ2 G2 fun b G3 =>
                if b = true then
                  te σ2 G3 fun y G4 =>
                    ∃ acc, G4 D = some (.lst acc) ∧ acc.length < sizeLine ∧
                      N (upd G4 D (.lst (acc ++ [y])))
                else N G3) := by
  refine lc_list (K := K) (a := a) (xs := xs) (fun i H' => H' = upd H D (.lst ((xs.take i).map f))) rfl ?_ ?_ ?_
  · intro i H' _ e
    subst e
    exact (Same.new nD).seq hl
  · intro i x H' hx e
    subst e
    have lt : i < xs.length := (List.getElem?_eq_some_iff.mp hx).1
    have tk : (xs.take (i + 1)).map f = (xs.take i).map f ++ [f x] := by
      rw [List.take_add_one, hx]
      simp
    refine ⟨hw x, ?_⟩
    refine he x _ _ (List.mem_of_getElem? hx) (Same.new nD) ⟨_, upd_same, ?_, ?_⟩
    · rw [List.length_map]
      exact Nat.lt_of_le_of_lt (Nat.le_trans (List.length_take_le' ..) hz) (by decide)
    · rw [upd_upd, tk]
  · intro H' e
    subst e
    rw [List.take_length]
    exact q
/-- [e for x in xs] over a list; e may make objects; each is told by Out of its place -/
theorem lc_rel {K : PySem.W.Frag} {j : Nat} {te : TE} {σ : L2.St} {H : Hp} {Qd : Hp → Prop} {a D : Addr} {xs : List V} (Out : Nat → Hp → V → Prop)
    (hl : SqL K H a xs) (hz : xs.length ≤ 100000) (nD : H D = none)
    (st : ∀ i G G' y acc, Kp D G G' → G D = some (.lst acc) → Out i G y → Out i G' y)
    (hw : ∀ z : V, wipe ((wipe σ [j]).set j (some z)) [j] = wipe σ [j])
    (he : ∀ (i : Nat) (z : V) (G : Hp) (R : VK), xs[i]? = some z → Same H G → (∀ y G', Same G G' → Out i G' y → R y G') → te ((wipe σ [j]).set j (some z)) G R)
    (q : ∀ G ys, Same H G → G D = some (.lst ys) → ys.length = xs.length → (∀ (i : Nat) y, ys[i]? = some y → Out i G y) → Qd G) :
    ∃ Z : Nat → Nat → Hp → Prop, (∃ m, Z 0 m (upd H D (.lst []))) ∧
      ∀ i m G, Z i m G →
        ((Itl K a).stop i G ∧ Qd G) ∨
        ((Itl K a).go i G ∧ ∃ N : Hp → Prop, (∀ G', N G' → ∃ m', m' < m ∧ Z (i + 1) m' G') ∧
          ∀ x G', (Itl K a).yld i G x G' →
            gName j x (wipe σ [j]) G' fun σ2 G2 =>
              wipe σ2 [j] = wipe σ [j] ∧
              tYes σ2 G2 fun b G3 =>
                if b = true then
                  te σ2 G3 fun y G4 =>
                    ∃ acc, G4 D = some (.lst acc) ∧ acc.length < sizeLine ∧
                      N (upd G4 D (.lst (acc ++ [y])))
                else N G3) := by
  refine lc_list (K := K) (a := a) (xs := xs) (fun i G => Same H G ∧ ∃ ys, G D = some (.lst ys) ∧ ys.length = i ∧ ∀ (k : Nat) y, ys[k]? = some y → Out k G y)
    ⟨Same.new nD, [], upd_same, rfl, fun k y e => by simp at e⟩ ?_ ?_ ?_
  · intro i G _ e
    exact e.1.seq hl
  · rintro i x G hx ⟨sm, ys, oD, ly, ok⟩
    have lt : i < xs.length := (List.getElem?_eq_some_iff.mp hx).1
    refine ⟨hw x, ?_⟩
    refine he i x G _ hx sm fun y G' sm' oy => ⟨ys, sm' _ _ oD, Nat.lt_of_le_of_lt (by omega : ys.length ≤ 100000) (by decide), ?_⟩
    have kp : Kp D G' (upd G' D (.lst (ys ++ [y]))) := Kp.at
    refine ⟨fun b o e => ?_, ys ++ [y], upd_same, by rw [List.length_append, ly]; rfl, ?_⟩
    · rw [upd_ne (ne_of_none e nD)]
      exact sm' _ _ (sm _ _ e)
    · intro k y' ey
      by_cases c : k < ys.length
      · rw [List.getElem?_append_left c] at ey
        exact st _ _ _ _ _ kp (sm' _ _ oD) (st _ _ _ _ _ (Kp.of sm') oD (ok k y' ey))
      · have kl : k < (ys ++ [y]).length := (List.getElem?_eq_some_iff.mp ey).1
        rw [List.length_append] at kl
        have kk : k = i := by
          have : ([y] : List V).length = 1 := rfl
          omega
        subst kk
        rw [List.getElem?_append_right (by omega), ly, Nat.sub_self] at ey
        have e1 : y = y' := Option.some.inj ey
        subst e1
        exact st _ _ _ _ _ kp (sm' _ _ oD) oy
  · rintro G ⟨sm, ys, oD, ly, ok⟩
    exact q G ys sm oD ly ok
theorem SqT.kpl {K : PySem.W.Frag} {H H' : Hp} {a b : Addr} {xs ys : List V} (k : Kp a H H') (l : H a = some (.lst ys)) (h : SqT K H b xs) : SqT K H' b xs := by
  rcases h with (h | ⟨o, h⟩) | h
  · exact .inl (.inl (k _ _ (ne_of h l (fun z => by cases z)) h))
  · exact .inl (.inr ⟨o, k _ _ (ne_of h l (fun z => by cases z)) h⟩)
  · exact .inr h
theorem RgV.kpl {K : PySem.W.Frag} {H H' : Hp} {a : Addr} {v : V} {r : Rg} {ys : List V} (k : Kp a H H') (l : H a = some (.lst ys)) (h : RgV K H v r) : RgV K H' v r := by
  match r, h with
  | none, h => exact h
  | some q, ⟨p, e, s⟩ => exact ⟨p, e, SqT.kpl k l s⟩
/-! ### data of any size, for == -/
structure Ly (k : Nat) (d : PyData) : Prop where
  lay : d.canLay0 = true
  deep : d.depth ≤ k
structure LyAll (k : Nat) (ds : List PyData) : Prop where
  lay : PyData.canLayAll0 ds = true
  deep : PyData.depthAll ds ≤ k
theorem Ly.mono {k j : Nat} {d : PyData} (h : Ly k d) (a : k ≤ j) : Ly j d := ⟨h.lay, Nat.le_trans h.deep a⟩
theorem LyAll.mono {k j : Nat} {d : List PyData} (h : LyAll k d) (a : k ≤ j) : LyAll j d := ⟨h.lay, Nat.le_trans h.deep a⟩
theorem Ly.none : Ly 1 .none := ⟨rfl, by simp [PyData.depth]⟩
theorem Ly.bool (b : Bool) : Ly 1 (.bool b) := ⟨rfl, by simp [PyData.depth]⟩
theorem Ly.int (i : Int) : Ly 1 (.int i) := ⟨rfl, by simp [PyData.depth]⟩
theorem LyAll.nil : LyAll 0 [] := ⟨rfl, by simp [PyData.depthAll]⟩
theorem LyAll.cons {k j : Nat} {d : PyData} {ds : List PyData} (h : Ly k d) (t : LyAll j ds) : LyAll (max k j) (d :: ds) := by
  refine ⟨?_, ?_⟩
  · unfold PyData.canLayAll0; rw [h.lay, t.lay]; rfl
  · unfold PyData.depthAll; have := h.deep; have := t.deep; omega
theorem Ly.list {k : Nat} {ds : List PyData} (t : LyAll k ds) : Ly (k + 1) (.list ds) := by
  refine ⟨?_, ?_⟩
  · unfold PyData.canLay0; exact t.lay
  · unfold PyData.depth; have := t.deep; omega
theorem Ly.tuple {k : Nat} {ds : List PyData} (t : LyAll k ds) : Ly (k + 1) (.tuple ds) := by
  refine ⟨?_, ?_⟩
  · unfold PyData.canLay0; exact t.lay
  · unfold PyData.depth; have := t.deep; omega
theorem Ly.shaped {k : Nat} {d : PyData} (h : Ly k d) (hk : k ≤ 64 := by decide) : SeqAt.shaped d = true := by
  unfold SeqAt.shaped
  rw [h.lay, decide_eq_true (Nat.le_trans h.deep hk)]
  rfl
theorem Ly.eqv {k : Nat} {d : PyData} (h : Ly k d) : PyData.eqv d d = true := SeqAt.eqv_refl d h.lay
/-- [e for x in t] over a tuple -/
theorem lc_relT {K : PySem.W.Frag} {j : Nat} {te : TE} {σ : L2.St} {H : Hp} {Qd : Hp → Prop} {a D : Addr} {xs : List V} (Out : Nat → Hp → V → Prop)
    (hl : SqT K H a xs) (hz : xs.length ≤ 100000) (nD : H D = none)
    (st : ∀ i G G' y acc, Kp D G G' → G D = some (.lst acc) → Out i G y → Out i G' y)
    (hw : ∀ z : V, wipe ((wipe σ [j]).set j (some z)) [j] = wipe σ [j])
    (he : ∀ (i : Nat) (z : V) (G : Hp) (R : VK), xs[i]? = some z → Same H G → (∀ y G', Same G G' → Out i G' y → R y G') → te ((wipe σ [j]).set j (some z)) G R)
    (q : ∀ G ys, Same H G → G D = some (.lst ys) → ys.length = xs.length → (∀ (i : Nat) y, ys[i]? = some y → Out i G y) → Qd G) :
    ∃ Z : Nat → Nat → Hp → Prop, (∃ m, Z 0 m (upd H D (.lst []))) ∧
      ∀ i m G, Z i m G →
        ((Itt K a).stop i G ∧ Qd G) ∨
        ((Itt K a).go i G ∧ ∃ N : Hp → Prop, (∀ G', N G' → ∃ m', m' < m ∧ Z (i + 1) m' G') ∧
          ∀ x G', (Itt K a).yld i G x G' →
            gName j x (wipe σ [j]) G' fun σ2 G2 =>
              wipe σ2 [j] = wipe σ [j] ∧
              tYes σ2 G2 fun b G3 =>
                if b = true then
                  te σ2 G3 fun y G4 =>
                    ∃ acc, G4 D = some (.lst acc) ∧ acc.length < sizeLine ∧
                      N (upd G4 D (.lst (acc ++ [y])))
                else N G3) := by
  refine lc_tup (K := K) (a := a) (xs := xs) (fun i G => Same H G ∧ ∃ ys, G D = some (.lst ys) ∧ ys.length = i ∧ ∀ (k : Nat) y, ys[k]? = some y → Out k G y)
    ⟨Same.new nD, [], upd_same, rfl, fun k y e => by simp at e⟩ ?_ ?_ ?_
  · intro i G _ e
    exact SqT.same e.1 hl
  · rintro i x G hx ⟨sm, ys, oD, ly, ok⟩
    have lt : i < xs.length := (List.getElem?_eq_some_iff.mp hx).1
    refine ⟨hw x, ?_⟩
    refine he i x G _ hx sm fun y G' sm' oy => ⟨ys, sm' _ _ oD, Nat.lt_of_le_of_lt (by omega : ys.length ≤ 100000) (by decide), ?_⟩
    have kp : Kp D G' (upd G' D (.lst (ys ++ [y]))) := Kp.at
    refine ⟨fun b o e => ?_, ys ++ [y], upd_same, by rw [List.length_append, ly]; rfl, ?_⟩
    · rw [upd_ne (ne_of_none e nD)]
      exact sm' _ _ (sm _ _ e)
    · intro k y' ey
      by_cases c : k < ys.length
      · rw [List.getElem?_append_left c] at ey
        exact st _ _ _ _ _ kp (sm' _ _ oD) (st _ _ _ _ _ (Kp.of sm') oD (ok k y' ey))
      · have kl : k < (ys ++ [y]).length := (List.getElem?_eq_some_iff.mp ey).1
        rw [List.length_append] at kl
        have kk : k = i := by
          have : ([y] : List V).length = 1 := rfl
          omega
        subst kk
        rw [List.getElem?_append_right (by omega), ly, Nat.sub_self] at ey
        have e1 : y = y' := Option.some.inj ey
        subst e1
        exact st _ _ _ _ _ kp (sm' _ _ oD) oy
  · rintro G ⟨sm, ys, oD, ly, ok⟩
    exact q G ys sm oD ly ok
end Gd

set_option Elab.async false
set_option linter.all false
set_option maxRecDepth 100000
set_option autoImplicit false
namespace Gd
open PySem PySem.Spec PyProof.Rows L2

/-! ### data stays -/
mutual
theorem dp_same {K : PySem.W.Frag} {H H' : Hp} (k : Same H H') : ∀ {v : V} {d : PyData}, Dp K H v d → Dp K H' v d
  | _, _, .non => .non
  | _, _, .bl b => .bl b
  | _, _, .int i => .int i
  | _, _, .str x => .str x
  | _, _, .lst s a => .lst (k.seq s) (dpa_same k a)
  | _, _, .tup s a => .tup (SqT.same k s) (dpa_same k a)
theorem dpa_same {K : PySem.W.Frag} {H H' : Hp} (k : Same H H') : ∀ {v : List V} {d : List PyData}, DpAll K H v d → DpAll K H' v d
  | _, _, .nil => .nil
  | _, _, .cons a b => .cons (dp_same k a) (dpa_same k b)
end
/-- no list in it -/
inductive NoL : PyData → Prop
  | non : NoL .none
  | bl (b : Bool) : NoL (.bool b)
  | int (i : Int) : NoL (.int i)
  | str (x : Str) : NoL (.str x)
  | tup {ds : List PyData} : (∀ d ∈ ds, NoL d) → NoL (.tuple ds)
/-- the only list that may change stands at a -/
def Kl (a : Addr) (H H' : Hp) : Prop := (∃ ys, H a = some (.lst ys)) ∧ Kp a H H'
mutual
theorem dp_kl {K : PySem.W.Frag} {H H' : Hp} {a : Addr} (k : Kl a H H') : ∀ {v : V} {d : PyData}, Dp K H v d → NoL d → Dp K H' v d
  | _, _, .non, _ => .non
  | _, _, .bl b, _ => .bl b
  | _, _, .int i, _ => .int i
  | _, _, .str x, _ => .str x
  | _, _, .tup s x, n => .tup (let ⟨⟨_, o⟩, kp⟩ := k; SqT.kpl kp o s) (dpa_kl k x (match n with | .tup h => h))
  | _, _, .lst s x, n => nomatch n
theorem dpa_kl {K : PySem.W.Frag} {H H' : Hp} {a : Addr} (k : Kl a H H') : ∀ {v : List V} {d : List PyData}, DpAll K H v d → (∀ x ∈ d, NoL x) → DpAll K H' v d
  | _, _, .nil, _ => .nil
  | _, _, .cons x y, n => .cons (dp_kl k x (n _ (by simp))) (dpa_kl k y fun z m => n z (by simp [m]))
end
theorem RS.kl {n : Nat} {H H' : Hp} {g : Addr} (r : RS n H g) (k : Kp g H H') : Kl g H H' := by
  obtain ⟨_, _, _, e, _⟩ := r.ok
  exact ⟨⟨_, e⟩, k⟩
theorem dpa_len {K : PySem.W.Frag} {H : Hp} : ∀ {v : List V} {d : List PyData}, DpAll K H v d → v.length = d.length
  | _, _, .nil => rfl
  | _, _, .cons _ b => by rw [List.length_cons, List.length_cons, dpa_len b]
theorem dpa_get {K : PySem.W.Frag} {H : Hp} : ∀ {v : List V} {d : List PyData} {i : Nat} {x : V}, DpAll K H v d → v[i]? = some x → ∃ y, d[i]? = some y ∧ Dp K H x y
  | _, _, _, _, .nil, e => by simp at e
  | _, _, 0, _, .cons a _, e => by
    have e' := Option.some.inj e
    subst e'
    exact ⟨_, rfl, a⟩
  | _, _, i + 1, x, .cons _ b, e => by
    obtain ⟨y, e2, h⟩ := dpa_get (i := i) (x := x) b (by simpa using e)
    exact ⟨y, by simpa using e2, h⟩
theorem dpa_app {K : PySem.W.Frag} {H : Hp} : ∀ {v w : List V} {d e : List PyData}, DpAll K H v d → DpAll K H w e → DpAll K H (v ++ w) (d ++ e)
  | _, _, _, _, .nil, y => y
  | _, _, _, _, .cons a b, y => .cons a (dpa_app b y)
theorem dpa_one {K : PySem.W.Frag} {H : Hp} {v : V} {d : PyData} (h : Dp K H v d) : DpAll K H [v] [d] := .cons h .nil
theorem dpa_take {K : PySem.W.Frag} {H : Hp} : ∀ {v : List V} {d : List PyData} (n : Nat), DpAll K H v d → DpAll K H (v.take n) (d.take n)
  | _, _, 0, _ => .nil
  | _, _, _ + 1, .nil => .nil
  | _, _, n + 1, .cons a b => .cons a (dpa_take n b)
theorem dpa_drop {K : PySem.W.Frag} {H : Hp} : ∀ {v : List V} {d : List PyData} (n : Nat), DpAll K H v d → DpAll K H (v.drop n) (d.drop n)
  | _, _, 0, r => r
  | _, _, _ + 1, .nil => .nil
  | _, _, n + 1, .cons _ b => dpa_drop n b
theorem dpa_rev {K : PySem.W.Frag} {H : Hp} : ∀ {v : List V} {d : List PyData}, DpAll K H v d → DpAll K H v.reverse d.reverse
  | _, _, .nil => .nil
  | _, _, .cons a b => by
    rw [List.reverse_cons, List.reverse_cons]
    exact dpa_app (dpa_rev b) (dpa_one a)
theorem dpa_strs {K : PySem.W.Frag} {H : Hp} : ∀ ns : List Str, DpAll K H (ns.map V.str) (ns.map PyData.str)
  | [] => .nil
  | n :: ns => .cons (.str n) (dpa_strs ns)

/-! ### an own class: its methods, len, == -/
/-- where a method stands -/
def AtM (K : PySem.W.Frag) (C : Addr) (m qual : Str) (st : Stmt) (ps : List Str) : Prop :=
  ∃ f fd, PySem.W.findIn K (.ref C) m = some (some (.ref f)) ∧ PySem.W.isFn K (.ref f) = true ∧ Fun K m qual st f fd ∧ Binds K fd ps []
/-- where a property's getter stands -/
def AtP (K : PySem.W.Frag) (C : Addr) (m qual : Str) (st : Stmt) (ps : List Str) : Prop :=
  ∃ p f fd, PropOf K C m p f ∧ Fun K m qual st f fd ∧ Binds K fd ps []
structure Mt (P : Program) (w : World) (K : PySem.W.Frag) (mg : Str → Option Value) (base : Heap)
    (k : Nat) (C : Addr) (m qual : Str) (st : Stmt) (ps : List Str) (sp : Sp) : Prop where
  ex : ∃ f fd, PySem.W.findIn K (.ref C) m = some (some (.ref f)) ∧ PySem.W.isFn K (.ref f) = true ∧ Fun K m qual st f fd ∧ Binds K fd ps [] ∧ FnOk P w K mg base CX0 k f fd ps sp
structure Pt (P : Program) (w : World) (K : PySem.W.Frag) (mg : Str → Option Value) (base : Heap)
    (k : Nat) (C : Addr) (m qual : Str) (st : Stmt) (ps : List Str) (sp : Sp) : Prop where
  ex : ∃ p f fd, PropOf K C m p f ∧ Fun K m qual st f fd ∧ Binds K fd ps [] ∧ FnOk P w K mg base CX0 k f fd ps sp
/-- an own class -/
structure Ck (K : PySem.W.Frag) (mg : Str → Option Value) (C : Addr) (x : Str) : Prop where
  cl : Cls K C
  mks : PySem.W.makesIn K C = true
  kp : PySem.W.keepIn K (.ref C) = true
  mg_ : mg x = some (.ref C)
section
variable {P : Program} {w : World} {K : PySem.W.Frag} {mg : Str → Option Value} {base : Heap}
theorem Mt.mk' {C : Addr} {m qual : Str} {st : Stmt} {ps : List Str} {k : Nat} {sp : Sp} (h : AtM K C m qual st ps)
    (ok : ∀ f fd, Fun K m qual st f fd → FnOk P w K mg base CX0 k f fd ps sp) : Mt P w K mg base k C m qual st ps sp := by
  obtain ⟨f, fd, a, i, F, b⟩ := h
  exact ⟨f, fd, a, i, F, b, ok f fd F⟩
theorem Pt.mk' {C : Addr} {m qual : Str} {st : Stmt} {ps : List Str} {k : Nat} {sp : Sp} (h : AtP K C m qual st ps)
    (ok : ∀ f fd, Fun K m qual st f fd → FnOk P w K mg base CX0 k f fd ps sp) : Pt P w K mg base k C m qual st ps sp := by
  obtain ⟨p, f, fd, a, F, b⟩ := h
  exact ⟨p, f, fd, a, F, b, ok f fd F⟩
end
section
variable {X : Cx} {x m qual : Str} {st : Stmt} {ps ks : List Str} {sp : Sp} {k j n : Nat} {e o : Expr} {es : List Expr} {kws : List Keyword} {ta : TE} {t tk : TA} {p pos apos : Pos} {C : Addr}
/-- C(e, ..) -/
theorem pe_new (T : Ck X.K X.mg C x) (D : Mt X.prog X.w X.K X.mg X.base k C "__init__" qual st ps sp) (hr : Room j X.A) (hg : Gl X x) (ha : PA X (e :: es) t) (hk : k + 1 ≤ j := by decide)
    (hdb : (x == ("__debug__" : Str)) = false := by decide) (he : starEach (e :: es) X.env = (false, eval e X.env) :: starEach es X.env := by rfl)
    (hpl : (backTo pos (starEach es X.env)).any (·.1) = false := by rfl) :
    PE X (.Call (.Name x p) (e :: es) [] pos) (tMake C sp [] E0 t) := by
  obtain ⟨f, fd, a, i, F, b, ok⟩ := D.ex
  exact pe_make ⟨T.mks, a, i, T.kp⟩ ok (hr.mono hk) hg T.mg_ b .nil pass0 ha hdb he hpl
/-- e.f, a property -/
theorem pe_p (T : Ck X.K X.mg C x) (D : Pt X.prog X.w X.K X.mg X.base k C m qual st ps sp) (hr : Room j X.A) (he : PE X e ta) (hk : k + 1 ≤ j := by decide)
    (hab : attributeBase e m X.env (eval e X.env) = eval e X.env := by rfl) : PE X (.Attribute e m pos) (tProp C sp [] E0 ta) := by
  obtain ⟨p, f, fd, a, F, b, ok⟩ := D.ex
  exact pe_prop he T.cl a ok (hr.mono hk) b .nil pass0 hab
/-- len(o), o with its own __len__ -/
theorem call_lenO (D : Mt X.prog X.w X.K X.mg X.base k C "__len__" qual st ps sp) (hr : Room j X.A) (hk : k + 1 ≤ j := by decide) :
    CallR X (.builtin "len") (fun xs H Q => ∃ a dx fs, xs = [.ref a] ∧ H a = some (.ins C dx fs) ∧ sp [.ref a] H (fun v H' => ∃ n : Int, v = .int n ∧ 0 ≤ n ∧ n < 2 ^ 63 ∧ Q (.int n) H') E0) := by
  intro pins s σ H xs us Q I r h
  obtain ⟨a, dx, fs, rfl, ha, q⟩ := h
  obtain ⟨f, fd, at_, i, F, b, ok⟩ := D.ex
  obtain ⟨u, rfl, ru⟩ := vals1 r
  cases ru
  obtain ⟨mA, J, _⟩ := ins_get I.hok ha
  obtain ⟨od, J, _⟩ := J.look
  obtain ⟨m, hF⟩ := I.fr
  refine PySem.W.len_K hF I.ok.mod.kin J at_ i ?_
  have cnt : ([Value.ref a] : List Value).length = ps.length := by
    have := ok.len _ _ _ _ q
    exact this
  have bnd : BindsTo s fd ⟨[.ref a], []⟩ (ps.zip [.ref a]) := by
    have z := b s [.ref a] I.kIn (by simpa using cnt)
    simpa using z
  have hr' := hr.mono hk
  refine wpAny_call (codeAny_mono (ok.run X.A.in1 X.stack s H ⟨[.ref a], []⟩ [.ref a] [.ref a] _ E0 hr'.in1 I.env0.in1 bnd (.cons rfl .nil) q) ?_)
  intro r' s' post
  cases r' with
  | error e => exact (post : False).elim
  | ok fl =>
    cases fl with
    | ret u =>
      obtain ⟨v, H', I2, rv, n, ev, n0, n1, q2⟩ := I.after post
      subst ev
      obtain ⟨tk, rfl⟩ := rv
      exact ⟨⟨n0, n1⟩, .int n, H', I2.tok _, ⟨s'.toks, rfl⟩, q2⟩
    | next => exact (post : False).elim
    | brk => exact (post : False).elim
    | cont => exact (post : False).elim
/-- o == y, o with its own __eq__, which tells True or False -/
theorem op_eqO (D : Mt X.prog X.w X.K X.mg X.base k C "__eq__" qual st ps sp) (hr : Room j X.A) (hk : k ≤ j := by decide) :
    OpR X (compareOp .Eq) (fun x y H Q => ∃ a dx fs t, x = .ref a ∧ H a = some (.ins C dx fs) ∧ TyX X.K H y t ∧ PySem.W.notFirst X.K C t = true ∧
      sp [.ref a, y] H (fun v H' => ∃ b : Bool, v = .bl b ∧ Q (.bl b) H') E0) := by
  intro pins s σ H x y v u Q I rx ry h
  obtain ⟨a, dx, fs, t, rfl, ha, ty, nf, q⟩ := h
  obtain ⟨f, fd, at_, i, F, b, ok⟩ := D.ex
  cases rx
  obtain ⟨mA, J, _⟩ := ins_get I.hok ha
  obtain ⟨od, J, _⟩ := J.look
  obtain ⟨m, hF⟩ := I.fr
  obtain ⟨Pk, kit, pk, _⟩ := kit_of I ry ty
  have hr' := hr.mono hk
  show wpAny (model X.prog X.w) X.A (richCompare .Eq (.ref a) u) (EP X pins σ Q) X.xe s
  refine PySem.W.cmp_K (op := .Eq) (tb := t) hr'.units0 hF I.ok.mod.kin J (kit.ty _ _ I.kIn pk) nf at_ i ?_
  have cnt : ([Value.ref a, u] : List Value).length = ps.length := by
    have := ok.len _ _ _ _ q
    exact this
  have bnd : BindsTo s fd ⟨[.ref a, u], []⟩ (ps.zip [.ref a, u]) := by
    have z := b s [.ref a, u] I.kIn (by simpa using cnt)
    simpa using z
  refine wpAny_call (codeAny_mono (ok.run X.A X.stack s H ⟨[.ref a, u], []⟩ [.ref a, u] [.ref a, y] _ E0 hr' I.env0 bnd (.cons rfl (.cons ry .nil)) q) ?_)
  intro r' s' post
  cases r' with
  | error e => exact (post : False).elim
  | ok fl =>
    cases fl with
    | ret w =>
      obtain ⟨v, H', I2, rv, n, ev, q2⟩ := I.after post
      subst ev
      have ew : w = Value.bool n := rv
      subst ew
      exact ⟨.bl n, H', I2, rfl, q2⟩
    | next => exact (post : False).elim
    | brk => exact (post : False).elim
    | cont => exact (post : False).elim
/-- C(k = v, ..) -/
theorem pe_newk {g : {α : Type} → List α → List α → List α} (T : Ck X.K X.mg C x) (D : Mt X.prog X.w X.K X.mg X.base k C "__init__" qual st ps sp) (hr : Room j X.A)
    (kb : ∀ f fd, Fun X.K "__init__" qual st f fd → KBn X.K fd ps 1 ks g g) (hg : Gl X x) (hkw : PK X kws tk) (hk : k + 1 ≤ j := by decide)
    (hall : (backToKw pos (keywordEach kws X.env)).all (·.1.isSome) = true := by rfl) (hks : (backToKw pos (keywordEach kws X.env)).filterMap (·.1) = ks := by rfl) (hdb : (x == ("__debug__" : Str)) = false := by decide)
    (hpl : ((backTo pos (starEach [] X.env)).any (·.1) || (backToKw pos (keywordEach kws X.env)).any (·.1.isNone)) = false := by rfl) :
    PE X (.Call (.Name x p) [] kws pos) (tMakeK C 0 ks.length sp g E0 tNil tk) := by
  obtain ⟨f, fd, a, i, F, b, ok⟩ := D.ex
  exact pe_makeK0 ⟨T.mks, a, i, T.kp⟩ ok (hr.mono hk) hg T.mg_ (kb f fd F) pass0 hkw hall hks hdb hpl
end
end Gd

set_option Elab.async false
set_option linter.all false
set_option maxRecDepth 100000
set_option autoImplicit false
namespace Gd
open PySem PySem.Spec PyProof.Rows L2

/-! ### t[::-1], t a tuple -/
theorem adjust_rev (n : Nat) : Builtin.Slice.sliceAdjust none none (-1) (n : Int) = ((n : Int) - 1, -1) := by
  simp [Builtin.Slice.sliceAdjust]
theorem places_rev (n : Nat) : Builtin.Slice.slicePlaces ((n : Int) - 1) (-1) (-1) = n := by
  unfold Builtin.Slice.slicePlaces
  rw [if_neg (by decide)]
  by_cases h : (n : Int) - 1 > -1
  · rw [if_pos h]
    have e : (- (-1) : Int) = 1 := by decide
    rw [e, Int.ediv_one]
    omega
  · rw [if_neg h]
    omega
theorem fm_congr {α β : Type} {f g : α → Option β} : ∀ l : List α, (∀ x ∈ l, f x = g x) → l.filterMap f = l.filterMap g
  | [], _ => rfl
  | a :: l, h => by
    rw [List.filterMap_cons, List.filterMap_cons, h a (by simp), fm_congr l fun x m => h x (by simp [m])]
theorem pick_rev (xs : Array Value) : ((List.range xs.size).filterMap fun (k : Nat) => xs[(((xs.size : Int) - 1) + (k : Int) * (-1)).toNat]?).toArray = xs.toList.reverse.toArray := by
  have e : ((List.range xs.size).filterMap fun (k : Nat) => xs[(((xs.size : Int) - 1) + (k : Int) * (-1)).toNat]?) = ((List.range xs.size).map fun k => xs.size - 1 - k).filterMap (xs[·]?) := by
    rw [List.filterMap_map]
    refine fm_congr _ fun k hk => ?_
    have := List.mem_range.mp hk
    show xs[(((xs.size : Int) - 1) + (k : Int) * (-1)).toNat]? = xs[xs.size - 1 - k]?
    congr 1
    omega
  rw [e, PySem.W.krv_range, List.filterMap_reverse, PySem.W.krv_all]
section
variable {prog : Program} {w : World} {A : Around} {E : Value → Shared → Prop} {s : Shared}
theorem applied_rev {sl : Addr} {vl vu vs : Value} {n : Nat} {Q : Int × Int × Nat → Shared → Prop} (hs : s.heap.IsSliceOf sl vl vu vs) (pl : IsPart vl none) (pu : IsPart vu none) (ps : IsPart vs (some (-1)))
    (h : Q ((n : Int) - 1, -1, n) s) : wpAny (model prog w) A (Builtin.Slice.sliceApplied (.ref sl) (pure (n : Int))) Q E s := by
  obtain ⟨os, hos, hcs, hds⟩ := id hs
  unfold Builtin.Slice.sliceApplied Builtin.Slice.sliceFields
  refine wpAny_bind (wpAny_bind (wpAny_field hos hds (x := vl) rfl (wpAny_bind (wpAny_field hos hds (x := vu) rfl (wpAny_bind (wpAny_field hos hds (x := vs) rfl (wpAny_pure ?_)))))))
  refine wpAny_bind (HT.slicePart_ ps ?_)
  show wpAny _ _ (if ((-1 : Int) == 0) = true then _ else _) _ _ s
  rw [if_neg (by decide)]
  refine wpAny_bind (HT.slicePart_ pl (wpAny_bind (HT.slicePart_ pu (wpAny_bind (wpAny_pure ?_)))))
  show wpAny _ _ (match Builtin.Slice.sliceAdjust none none (-1) (n : Int) with | (lo, hi) => pure (lo, (-1 : Int), Builtin.Slice.slicePlaces lo hi (-1))) _ _ s
  rw [adjust_rev n]
  show wpAny _ _ (pure ((n : Int) - 1, (-1 : Int), Builtin.Slice.slicePlaces ((n : Int) - 1) (-1) (-1))) _ _ s
  rw [places_rev]
  exact wpAny_pure h
theorem getItem_rev {t sl : Addr} {items : Array Value} {vl vu vs : Value} {Q : Value → Shared → Prop} (ht : IsTup s.heap t items) (hs : s.heap.IsSliceOf sl vl vu vs) (pl : IsPart vl none) (pu : IsPart vu none) (ps : IsPart vs (some (-1)))
    (h : Q (.ref s.heap.objs.size) { s with heap := s.heap.push { cls := .type "tuple", data := .seq items.toList.reverse.toArray } })
    (hsz : items.size ≤ sizeLine) : wpAny (model prog w) A (getItem (.ref t) (.ref sl)) Q E s := by
  have hok : sizeOk (.seq items.toList.reverse.toArray) := by
    show items.toList.reverse.toArray.size ≤ sizeLine
    rw [List.size_toArray, List.length_reverse, Array.length_toList]
    exact hsz
  obtain ⟨os, hos, hcs, hds⟩ := id hs
  have hTs : s.TypeIs (.ref sl) "slice" := ⟨os, hos, hcs⟩
  unfold getItem
  try with_reducible refine wpAny_holding ?_
  first | refine wpAny_bind (wpAny_pure ?_) | skip
  refine wpAny_bind (wpAny_sequenceKey ht.typeIs (by decide) ?_)
  refine wpAny_bind (wpAny_callSpecial?_slot (name := Str.ofString "__getitem__") ht.typeIs PyProof.Rows.slot_tuple_getitem
    (wpAny_call_entry PyProof.Rows.slot_tuple_getitem ht.typeIs entry_tuple_getitem ?_ (args_tuple_getitem _ _)))
  show wpAny _ _ (Builtin.Tuple.tupleItemsOf (.ref t) >>= _) _ _ s
  refine wpAny_bind (tupleItemsOf_ ht ?_)
  refine wpAny_bind (wpAny_typeOf hTs ?_)
  rw [if_pos (by decide)]
  refine wpAny_bind (applied_rev hs pl pu ps ?_)
  have hno : ¬ (((((items.size : Int) - 1) == 0) && ((-1 : Int) == 1) && (items.size == items.size)) = true) := by
    intro q
    rw [Bool.and_eq_true, Bool.and_eq_true] at q
    exact absurd (eq_of_beq q.1.2) (by decide)
  show wpAny _ _ (if ((((items.size : Int) - 1) == 0) && ((-1 : Int) == 1) && (items.size == items.size)) = true then _ else _) _ _ s
  rw [if_neg hno, pick_rev]
  first
    | exact wpAny_bind (m := Builtin.Tuple.tupleExact _) (wpAny_newObj_type (wpAny_pure ⟨_, rfl, wpAny_pure h⟩) hok)
    | exact wpAny_bind (m := Builtin.Tuple.tupleExact _) (wpAny_newObj_type (wpAny_bind (wpAny_pure (wpAny_pure ⟨_, rfl, wpAny_pure h⟩))) hok)
    | exact wpAny_bind (wpAny_bind (m := Builtin.Tuple.tupleExact _) (wpAny_newObj_type (wpAny_pure (wpAny_pure ⟨_, rfl, wpAny_pure h⟩)) hok))
    | exact wpAny_bind (wpAny_bind (m := Builtin.Tuple.tupleExact _) (wpAny_newObj_type (wpAny_pure ⟨_, rfl, wpAny_pure h⟩) hok))
end
section
variable {X : Cx}
def tRevT (K : PySem.W.Frag) (te : TE) : TE := fun σ H Q => te σ H fun x H1 => ∃ a xs, x = .ref a ∧ SqT K H1 a xs ∧ ∀ p, H1 p = none → Q (.ref p) (upd H1 p (.tup xs.reverse))
theorem pe_revT {e : Expr} {te : TE} {k : Nat} {p1 p2 p3 pos : Pos} (he : PE X e te) : PE X (.Subscript e (.Slice none none (some (.UnaryOp .USub (.Constant (.int 1) k p1) p2)) p3) pos) (tRevT X.K te) := by
  refine ⟨fun pins s σ H Q I h => ?_⟩
  refine Subscript_ (thn (he.run pins s σ H _ I h) fun v s1 ⟨x, H1, I1, r1, q1⟩ => ?_)
  obtain ⟨a, xs, ex, hx, q⟩ := q1
  subst ex
  cases r1
  have hst : PO X (some (.UnaryOp .USub (.Constant (.int 1) k p1) p2)) (tPart (tUn (rU fun i => .int (-i)) (tC (.int 1)))) := po_some (pe_un un_neg pe_int)
  refine wpAny_Slice (thn (po_none.run pins s1 σ H1 (fun o H2 => o = none ∧ H2 = H1) I1 ⟨rfl, rfl⟩) fun vl s2 ⟨l, H2, I2, pl, el, e2⟩ => ?_)
  subst el e2
  refine thn (po_none.run pins s2 σ H2 (fun o H3 => o = none ∧ H3 = H2) I2 ⟨rfl, rfl⟩) fun vu s3 ⟨u, H3, I3, pu, eu, e3⟩ => ?_
  subst eu e3
  refine thn (hst.run pins s3 σ H3 (fun o H4 => o = some (-1) ∧ H4 = H3) I3 ⟨1, rfl, -1, rfl, rfl, rfl⟩) fun vs s4 ⟨o, H4, I4, ps, eo, e4⟩ => ?_
  subst eo e4
  have I5 : Inv X pins σ H4 { s4 with heap := s4.heap.push { cls := .type "slice", data := .fields #[vl, vu, vs] } } := I4.kept (t' := s4.toks) fun b ob q => Heap.get?_push_of_some _ q
  obtain ⟨its, r, ht, hz⟩ := I5.tuple hx
  have hlen := r.length
  show wpAny (model X.prog X.w) X.A (subscriptTail e (.Slice none none (some (.UnaryOp .USub (.Constant (.int 1) k p1) p2)) p3) (.ref a) (.ref s4.heap.objs.size)) (EP X pins σ Q) X.xe { s4 with heap := s4.heap.push { cls := .type "slice", data := .fields #[vl, vu, vs] } }
  refine tail_any (ops := [.ref a, .ref s4.heap.objs.size]) ht.typeIs (PyProof.Rows.slot_tuple_getitem.lookup) ?_ (by with_unfolding_all rfl)
  refine getItem_rev ht (Heap.IsSliceOf.new _ vl vu vs) pl pu ps ?_ (by rw [List.size_toArray]; omega)
  refine ⟨.ref _, _, I5.laid (t' := s4.toks) (o := .tup xs.reverse) (fun b ob q => Heap.get?_push_of_some _ q) (Nat.le_refl _) ?_, rfl, q _ (I5.hok.fresh (Nat.le_refl _))⟩
  refine ⟨by rw [List.length_reverse]; omega, its.reverse, r.reverse, _, Heap.get?_push_size _ rfl, rfl, 0, rfl⟩
end
end Gd

set_option Elab.async false
set_option linter.all false
set_option maxRecDepth 100000
set_option autoImplicit false
namespace Gd
open PySem PySem.Spec PyProof.Rows L2

/-! ### methods of an own class, called -/
section
variable {X : Cx} {x m qual : Str} {st : Stmt} {ps ks : List Str} {sp : Sp} {k j : Nat} {e o : Expr} {es : List Expr} {kws : List Keyword} {ta : TE} {t tk : TA} {p pos apos : Pos} {C : Addr}
/-- o.m(e, ..) -/
theorem pe_m {pl : Sem Bool} (T : Ck X.K X.mg C x) (D : Mt X.prog X.w X.K X.mg X.base k C m qual st ps sp) (hr : Room j X.A) (he : PE X o ta) (ha : PA X (e :: es) t) (hk : k ≤ j := by decide)
    (hst : starEach (e :: es) X.env = (false, eval e X.env) :: starEach es X.env := by rfl) (hpl : (backTo pos (starEach es X.env)).any (·.1) = false := by rfl)
    (ht : eval (.Call (.Attribute o m apos) (e :: es) [] pos) X.env = (do
      let ov ← eval o X.env
      standAt apos.atName
      let (f, first) ← holding [ov] (getMethod ov m pl)
      callWith pos f first (backTo pos (starEach (e :: es) X.env)) (backToKw pos (keywordEach [] X.env))) := by rfl) :
    PE X (.Call (.Attribute o m apos) (e :: es) [] pos) (tMeth C m sp [] E0 ta t) := by
  obtain ⟨f, fd, at_, i, F, b, ok⟩ := D.ex
  exact pe_meth he T.cl ⟨at_, i, F.kp⟩ ok (hr.mono hk) b .nil pass0 ha hst hpl ht
/-- o.m() -/
theorem pe_m0 {pl : Sem Bool} (T : Ck X.K X.mg C x) (D : Mt X.prog X.w X.K X.mg X.base k C m qual st ps sp) (hr : Room j X.A) (he : PE X o ta) (hk : k ≤ j := by decide)
    (ht : eval (.Call (.Attribute o m apos) [] [] pos) X.env = (do
      let ov ← eval o X.env
      standAt apos.atName
      let (f, first) ← holding [ov] (getMethod ov m pl)
      callWith pos f first (backTo pos (starEach [] X.env)) (backToKw pos (keywordEach [] X.env))) := by rfl) :
    PE X (.Call (.Attribute o m apos) [] [] pos) (tMeth C m sp [] E0 ta tNil) := by
  obtain ⟨f, fd, at_, i, F, b, ok⟩ := D.ex
  exact pe_meth0 he T.cl ⟨at_, i, F.kp⟩ ok (hr.mono hk) b .nil pass0 ht
/-- the reading of o == y, o with its own __eq__ -/
def rEqO (K : PySem.W.Frag) (C : Addr) (sp : Sp) : R2 := fun x y H Q => ∃ a dx fs t, x = .ref a ∧ H a = some (.ins C dx fs) ∧ TyX K H y t ∧ PySem.W.notFirst K C t = true ∧
  sp [.ref a, y] H (fun v H' => ∃ b : Bool, v = .bl b ∧ Q (.bl b) H') E0
/-- the reading of o.m(k = v, ..) -/
def tMethK (C : Addr) (m : Str) (n : Nat) (sp : Sp) (gV : List V → List V → List V) (ta : TE) (tk : TA) : TE := fun σ H Q => ta σ H fun x H1 => ∃ a dx fs, x = .ref a ∧ H1 a = some (.ins C dx fs) ∧ fs.lookup m = none ∧
  tk σ H1 fun zs H2 => zs.length = n ∧ sp (gV [x] zs) H2 Q E0
/-- o.m(k = v, ..) -/
theorem pe_mk {pl : Sem Bool} {g : {α : Type} → List α → List α → List α} (T : Ck X.K X.mg C x) (D : Mt X.prog X.w X.K X.mg X.base k C m qual st ps sp) (hr : Room j X.A) (kb : ∀ f fd, Fun X.K m qual st f fd → KBn X.K fd ps 1 ks g g) (he : PE X o ta) (hkw : PK X kws tk) (hk : k ≤ j := by decide)
    (hall : (backToKw pos (keywordEach kws X.env)).all (·.1.isSome) = true := by rfl) (hks : (backToKw pos (keywordEach kws X.env)).filterMap (·.1) = ks := by rfl)
    (hpl : ((backTo pos (starEach [] X.env)).any (·.1) || (backToKw pos (keywordEach kws X.env)).any (·.1.isNone)) = false := by rfl)
    (ht : eval (.Call (.Attribute o m apos) [] kws pos) X.env = (do
      let ov ← eval o X.env
      standAt apos.atName
      let (f, first) ← holding [ov] (getMethod ov m pl)
      callWith pos f first (backTo pos (starEach [] X.env)) (backToKw pos (keywordEach kws X.env))) := by rfl) :
    PE X (.Call (.Attribute o m apos) [] kws pos) (tMethK C m ks.length sp g ta tk) := by
  obtain ⟨f, fd, at_, i, F, b, ok⟩ := D.ex
  refine ⟨fun pins s σ H Q I h => ?_⟩
  refine PySem.W.methodCall_KW (pl := pl) (thn (he.run pins s σ H _ I h) fun u s1 got => ?_) ht
  obtain ⟨x', H1, I1, rx, a, dx, fs, ex, ea, l, q⟩ := got
  subst ex
  obtain rfl : u = Value.ref a := rx
  refine getmeth_ok I1 ea T.cl ⟨at_, i, F.kp⟩ l ?_
  refine PySem.W.callWith_KW0 (first := [.ref a]) (h₀ := X.base) I.ok.mod.kin F.kp hall ?_ hpl
  refine thn (hkw.run pos pins s1 σ H1 _ I1 q) fun ws s2 got2 => ?_
  obtain ⟨zs, H2, I2, rz, l1, q2⟩ := got2
  refine ⟨I2.kIn, ?_⟩
  rw [hks]
  have kb' := kb f fd F
  have r1 : Vals [V.ref a] [Value.ref a] := .cons rfl .nil
  have rel := kb'.rel r1 rz
  have bnd := kb'.to s2 [.ref a] ws I2.kIn rfl (rz.length.symm.trans l1)
  show wpAny _ _ (call (.ref f) [.ref a] (ks.zip ws)) _ _ _
  refine wpAny_call (codeAny_mono (ok.run X.A X.stack s2 H2 ⟨[.ref a], ks.zip ws⟩ _ _ _ E0 (hr.mono hk) I2.env0 bnd rel q2) ?_)
  intro r s' post
  cases r with
  | error e => exact (post : False).elim
  | ok fl =>
    cases fl with
    | ret u => exact I2.after post
    | next => exact (post : False).elim
    | brk => exact (post : False).elim
    | cont => exact (post : False).elim
end
end Gd

set_option Elab.async false
set_option linter.all false
set_option maxRecDepth 100000
set_option autoImplicit false
namespace Gd
open PySem PySem.Spec PyProof.Rows L2

/-! ### a shown text has only signs that there are -/
def Sg (t : Str) : Prop := ∀ c ∈ t.cps.toList, c < 1114112
theorem Sg.ok {t : Str} (h : Sg t) : PyData.strOk t = true := by
  unfold PyData.strOk
  rw [← Array.all_toList, List.all_eq_true]
  exact fun c m => decide_eq_true (h c m)
theorem Sg.of {t : Str} (h : PyData.strOk t = true) : Sg t := by
  unfold PyData.strOk at h
  rw [← Array.all_toList, List.all_eq_true] at h
  exact fun c m => of_decide_eq_true (h c m)
theorem char_lt (c : Char) : c.toNat < 1114112 := by
  have h := c.valid
  have e : c.toNat = c.val.toNat := rfl
  rcases h with h | h
  · have h1 : c.val.toNat < 0xd800 := h
    omega
  · have h1 : c.val.toNat < 0x110000 := h.2
    omega
theorem Sg.lit (s : String) : Sg (Str.ofString s) := fun c m => by
  rw [signs_ofString] at m
  obtain ⟨ch, _, rfl⟩ := List.mem_map.mp m
  exact char_lt ch
theorem Sg.app {a b : Str} (ha : Sg a) (hb : Sg b) : Sg (a ++ b) := fun c m => by
  have e : (a ++ b).cps = a.cps ++ b.cps := rfl
  rw [e, Array.toList_append, List.mem_append] at m
  exact m.elim (ha c) (hb c)
theorem reprChar_lt {q c : Nat} (hq : q < 1114112) (hc : c < 1114112) : ∀ d ∈ PySem.Builtin.Str.reprChar q c, d < 1114112 := by
  intro d m
  have hex : ∀ n, d ∈ List.replicate n 48 ++ (Nat.toDigits 16 c).map Char.toNat → d < 1114112 := fun n m => by
    rcases List.mem_append.mp m with m | m
    · have := (List.mem_replicate.mp m).2
      omega
    · obtain ⟨ch, _, rfl⟩ := List.mem_map.mp m
      exact char_lt ch
  unfold PySem.Builtin.Str.reprChar at m
  simp only at m
  split at m
  · simp only [List.mem_cons, List.not_mem_nil, or_false] at m
    omega
  split at m
  · simp only [List.mem_cons, List.not_mem_nil, or_false] at m
    omega
  split at m
  · simp only [List.mem_cons, List.not_mem_nil, or_false] at m
    omega
  split at m
  · simp only [List.mem_cons, List.not_mem_nil, or_false] at m
    omega
  split at m
  · simp only [List.mem_cons, List.not_mem_nil, or_false] at m
    omega
  split at m
  · rcases List.mem_append.mp m with m | m
    · simp only [List.mem_cons, List.not_mem_nil, or_false] at m
      omega
    · exact hex _ m
  split at m
  · rcases List.mem_append.mp m with m | m
    · simp only [List.mem_cons, List.not_mem_nil, or_false] at m
      omega
    · exact hex _ m
  · rcases List.mem_append.mp m with m | m
    · simp only [List.mem_cons, List.not_mem_nil, or_false] at m
      omega
    · exact hex _ m
theorem foldl_lt {q : Nat} (hq : q < 1114112) : ∀ (l : List Nat) (acc : Array Nat), (∀ c ∈ l, c < 1114112) → (∀ c ∈ acc.toList, c < 1114112) → ∀ c ∈ (l.foldl (fun out c => out ++ (PySem.Builtin.Str.reprChar q c).toArray) acc).toList, c < 1114112
  | [], acc, _, ha => ha
  | c :: l, acc, hl, ha => by
    refine foldl_lt hq l _ (fun d m => hl d (List.mem_cons_of_mem _ m)) fun d m => ?_
    rw [Array.toList_append, List.mem_append] at m
    rcases m with m | m
    · exact ha d m
    · exact reprChar_lt hq (hl c List.mem_cons_self) d m
theorem quote_lt (x : Str) : reprQuote x < 1114112 := by
  unfold reprQuote
  split <;> decide
theorem Sg.repr {x : Str} (h : Sg x) : Sg (reprText x) := by
  intro c m
  have e : (reprText x).cps = (x.cps.foldl (fun out c => out ++ (PySem.Builtin.Str.reprChar (reprQuote x) c).toArray) #[reprQuote x]).push (reprQuote x) := rfl
  rw [e, Array.toList_push, List.mem_append] at m
  rcases m with m | m
  · rw [← Array.foldl_toList] at m
    refine foldl_lt (quote_lt x) _ _ h (fun d md => ?_) c m
    have : d = reprQuote x := by simpa using md
    rw [this]
    exact quote_lt x
  · have : c = reprQuote x := by simpa using m
    rw [this]
    exact quote_lt x
theorem Sg.text : ∀ (ts : List Str) (k : Nat) (acc : Str), Sg acc → (∀ t ∈ ts, Sg t) → Sg (textFrom k acc ts)
  | [], _, _, ha, _ => ha
  | t :: ts, k, acc, ha, ht => by
    refine Sg.text ts (k + 1) _ (Sg.app (Sg.app ha ?_) (ht t List.mem_cons_self)) fun u m => ht u (List.mem_cons_of_mem _ m)
    split
    · exact Sg.lit _
    · exact Sg.lit _
theorem Sg.join {sep : Str} (hs : Sg sep) : ∀ (ts : List Str), (∀ t ∈ ts, Sg t) → Sg (Str.join sep ts)
  | [], _ => fun c m => by
    have : c ∈ ([] : List Nat) := m
    simp at this
  | [x], h => h x List.mem_cons_self
  | x :: y :: r, h => Sg.app (Sg.app (h x List.mem_cons_self) hs) (Sg.join hs (y :: r) fun t m => h t (List.mem_cons_of_mem _ m))
mutual
theorem shown_sg : ∀ d : PyData, d.canLay0 = true → Sg d.shown
  | .none, _ => by
    rw [PyData.shown_none]
    exact Sg.lit _
  | .bool b, _ => by
    rw [PyData.shown_bool]
    split <;> exact Sg.lit _
  | .int i, _ => by
    rw [PyData.shown_int]
    exact Sg.lit _
  | .str x, h => by
    have h' : PyData.strOk x = true := by simpa [PyData.canLay0] using h
    have e : (PyData.str x).shown = reprText x := by simp [PyData.shown]
    rw [e]
    exact Sg.repr (Sg.of h')
  | .list xs, h => by
    have h' : PyData.canLayAll0 xs = true := by simpa [PyData.canLay0] using h
    have e : (PyData.list xs).shown = listText (PyData.shownAll xs) := by simp [PyData.shown]
    rw [e]
    exact Sg.app (Sg.text _ _ _ (Sg.lit _) (shownAll_sg xs h')) (Sg.lit _)
  | .tuple xs, h => by
    have h' : PyData.canLayAll0 xs = true := by simpa [PyData.canLay0] using h
    have e : (PyData.tuple xs).shown = tupleText (PyData.shownAll xs) := by simp [PyData.shown]
    rw [e]
    refine Sg.app (Sg.app (Sg.lit _) (Sg.join (Sg.lit _) _ (shownAll_sg xs h'))) ?_
    split <;> exact Sg.lit _
  | .dict _, h => by simp [PyData.canLay0] at h
theorem shownAll_sg : ∀ xs : List PyData, PyData.canLayAll0 xs = true → ∀ t ∈ PyData.shownAll xs, Sg t
  | [], _, t, m => by
    rw [PyData.shownAll_nil] at m
    simp at m
  | x :: xs, h, t, m => by
    have h' : x.canLay0 = true ∧ PyData.canLayAll0 xs = true := by simpa [PyData.canLayAll0] using h
    rw [PyData.shownAll_cons, List.mem_cons] at m
    rcases m with rfl | m
    · exact shown_sg x h'.1
    · exact shownAll_sg xs h'.2 t m
end
theorem shown_ok {d : PyData} (h : d.canLay0 = true) : PyData.strOk d.shown = true := (shown_sg d h).ok
end Gd

set_option Elab.async false
set_option linter.all false
set_option maxRecDepth 100000
set_option autoImplicit false
namespace Gd
open PySem PySem.Spec PyProof.Rows L2

/-! ### dicts of text keys -/
mutual
theorem reads_noL {h : Heap} : ∀ (d : PyData) {v : Value} {as : List Addr}, Reads h v d as → NoL d → as = []
  | .none, _, _, r, _ => by cases r; rfl
  | .bool _, _, _, r, _ => by cases r; rfl
  | .int _, _, _, r, _ => by cases r; rfl
  | .str _, _, _, r, _ => by cases r; rfl
  | .list _, _, _, _, n => by cases n
  | .tuple ds, _, _, r, n => by
    cases r with
    | tuple h1 h2 h3 ra => exact readsAll_noL ds ra (by cases n with | tup f => exact f)
  | .dict _, _, _, _, n => by cases n
theorem readsAll_noL {h : Heap} : ∀ (ds : List PyData) {vs : List Value} {as : List Addr}, ReadsAll h vs ds as → (∀ d ∈ ds, NoL d) → as = []
  | [], _, _, r, _ => by cases r; rfl
  | d :: ds, _, _, r, n => by
    cases r with
    | cons r1 r2 =>
      rw [reads_noL d r1 (n d (by simp)), readsAll_noL ds r2 (fun x m => n x (by simp [m]))]
      rfl
end
/-- the pairs of a dict -/
abbrev kvOf (ks : List Str) (vs : List V) : List (Key × V) := (ks.map Sum.inr).zip vs
/-- at a: a dict from the texts ks to values of the data ds -/
structure Dct (K : PySem.W.Frag) (H : Hp) (a : Addr) (ks : List Str) (ds : List PyData) : Prop where
  ex : ∃ vs : List V, vs.length = ks.length ∧ H a = some (.dK (kvOf ks vs)) ∧ DpAll K H vs ds
  nol : ∀ d ∈ ds, NoL d
theorem keys_reads {P : Program} {w : World} {h : Heap} : ∀ {es : List DictEntry} {kvs : List (Key × Value)} {ks : List Str}, Pairs (mixKind P w) es kvs → kvs.map (·.1) = ks.map Sum.inr → ReadsAll h (es.map (·.key)) (ks.map PyData.str) []
  | [], _, ks, .nil, e => by
    have : ks = [] := by simpa using e.symm
    subst this
    exact .nil
  | _ :: _, _, [], .cons _ _ _, e => by simp at e
  | d :: es, kv :: kvs, k :: ks, .cons h1 h2 h3, e => by
    simp only [List.map_cons, List.cons.injEq] at e
    have h1' : keyIs kv.1 d.key = true := h1
    rw [e.1] at h1'
    rcases keyIs_shape h1' with ⟨i, t, q, _⟩ | ⟨x, t, q, q2⟩
    · cases q
    · cases q
      have := keys_reads (h := h) h3 e.2
      simp only [List.map_cons]
      rw [q2]
      exact ReadsAll.cons (.str k t) this
theorem vals_of_pairs {P : Program} {w : World} : ∀ {es : List DictEntry} {kvs : List (Key × Value)}, Pairs (mixKind P w) es kvs → es.map (·.val) = kvs.map (·.2)
  | _, _, .nil => rfl
  | _, _, .cons _ h2 h3 => by
    simp only [List.map_cons]
    rw [h2, vals_of_pairs h3]
theorem kv_vals {α : Type} : ∀ {kvs : List (α × V)} {us : List (α × Value)}, KV kvs us → Vals (kvs.map (·.2)) (us.map (·.2))
  | _, _, .nil => .nil
  | _, _, .cons h t => .cons h.2 (kv_vals t)
theorem kv_keys {α : Type} : ∀ {kvs : List (α × V)} {us : List (α × Value)}, KV kvs us → kvs.map (·.1) = us.map (·.1)
  | _, _, .nil => rfl
  | _, _, .cons h t => by
    simp only [List.map_cons]
    rw [h.1, kv_keys t]
theorem kvOf_keys : ∀ {ks : List Str} {vs : List V}, vs.length = ks.length → (kvOf ks vs).map (·.1) = ks.map Sum.inr
  | [], [], _ => rfl
  | k :: ks, v :: vs, l => by
    show Sum.inr k :: (kvOf ks vs).map (·.1) = _
    rw [kvOf_keys (by simpa using l)]
    rfl
theorem kvOf_vals : ∀ {ks : List Str} {vs : List V}, vs.length = ks.length → (kvOf ks vs).map (·.2) = vs
  | [], [], _ => rfl
  | k :: ks, v :: vs, l => by
    show v :: (kvOf ks vs).map (·.2) = _
    rw [kvOf_vals (by simpa using l)]
/-- the data of such a dict -/
def dctD (ks : List Str) (ds : List PyData) : PyData := .dict ((ks.map PyData.str).zip ds)
/-- a dict whose text is short -/
structure DctOk (n k : Nat) (ks : List Str) (ds : List PyData) : Prop where
  ks_ : ∀ x ∈ ks, DOk 20 1 (.str x)
  ds_ : ∀ d ∈ ds, DOk n k d
  len : ds.length = ks.length
  few : ks.length ≤ 100
theorem zip_facts {n k : Nat} : ∀ {ks : List Str} {ds : List PyData}, ds.length = ks.length → (∀ x ∈ ks, DOk 20 1 (.str x)) → (∀ d ∈ ds, DOk n k d) → 1 ≤ k →
    PyData.leavesShortKv 72 ((ks.map PyData.str).zip ds) = true ∧ PyData.bulkKv ((ks.map PyData.str).zip ds) ≤ ks.length * (n + 22) ∧ PyData.showableKv ((ks.map PyData.str).zip ds) = true ∧ PyData.depthKv ((ks.map PyData.str).zip ds) ≤ k
  | [], [], _, _, _, _ => ⟨rfl, by simp [PyData.bulkKv], rfl, by simp [PyData.depthKv]⟩
  | x :: ks, d :: ds, l, hk, hd, k1 => by
    obtain ⟨a1, a2, a3, a4⟩ := zip_facts (ks := ks) (ds := ds) (by simpa using l) (fun y m => hk y (by simp [m])) (fun y m => hd y (by simp [m])) k1
    have X := hk x (by simp)
    have D := hd d (by simp)
    simp only [List.map_cons, List.zip_cons_cons]
    refine ⟨?_, ?_, ?_, ?_⟩
    · unfold PyData.leavesShortKv
      rw [X.short, D.short, a1]
      rfl
    · unfold PyData.bulkKv
      have := X.bulk
      have := D.bulk
      rw [List.length_cons, Nat.succ_mul]
      omega
    · unfold PyData.showableKv
      rw [X.shw, D.shw, a3]
      rfl
    · unfold PyData.depthKv
      have := X.deep
      have := D.deep
      omega
theorem reads_dct {X : Cx} {pins : List (Addr × Obj)} {σ : L2.St} {H : Hp} {s : Shared} {a : Addr} {ks : List Str} {ds : List PyData} (I : Inv X pins σ H s) (h : Dct X.K H a ks ds) : Reads s.heap (.ref a) (dctD ks ds) [a] ∧ a ≠ sysModules := by
  obtain ⟨vs, lv, e, da⟩ := h.ex
  obtain ⟨_, hs, us, kv, o, es, ep, ho, ex, hdat, _, prs, _⟩ := dk_of I.hok e
  have k1 : ReadsAll s.heap (es.toList.map (·.key)) (ks.map PyData.str) [] := keys_reads prs (by rw [← kv_keys kv, kvOf_keys lv])
  have rv : Vals vs (us.map (·.2)) := by
    have z := kv_vals kv
    rw [kvOf_vals lv] at z
    exact z
  obtain ⟨as, k2⟩ := Dp.readsAll I ds vs (us.map (·.2)) da rv
  have z := readsAll_noL ds k2 h.nol
  subst z
  rw [← vals_of_pairs prs] at k2
  have l1 : (ks.map PyData.str).length = ds.length := by rw [List.length_map, ← lv, dpa_len da]
  have e1 : ((ks.map PyData.str).zip ds).map (·.1) = ks.map PyData.str := by
    rw [List.map_fst_zip]
    omega
  have e2 : ((ks.map PyData.str).zip ds).map (·.2) = ds := by
    rw [List.map_snd_zip]
    omega
  refine ⟨?_, fun z => ?_⟩
  · have := Reads.dict (kvs := (ks.map PyData.str).zip ds) ho ex.1 hdat (by rw [e1]; exact k1) (by rw [e2]; exact k2)
    exact this
  · rw [z] at hs
    simp at hs
section
variable {X : Cx}
/-- repr of a dict that is short -/
theorem call_reprDct {k : Nat} (gd : X.A.guards = some []) (hr : Room k X.A) : CallR X (.builtin "repr") (fun xs H Q => ∃ a ks ds n j, xs = [.ref a] ∧
    Dct X.K H a ks ds ∧ DctOk n j ks ds ∧ n ≤ 1000 ∧ 1 ≤ j ∧ j ≤ 60 ∧ Q (.str (dctD ks ds).shown) H) := by
  intro pins s σ H xs us Q I r h
  obtain ⟨a, ks, ds, n, j, rfl, dc, ok, hn, j1, hj, q⟩ := h
  obtain ⟨u, rfl, ru⟩ := vals1 r
  cases ru
  obtain ⟨rd, ns⟩ := reads_dct I dc
  obtain ⟨f1, f2, f3, f4⟩ := zip_facts ok.len ok.ks_ ok.ds_ j1
  have room := hr.un
  have dd : (dctD ks ds).depth ≤ 61 := by
    unfold dctD PyData.depth
    omega
  have fits : (dctD ks ds).shown.length ≤ sizeLine := by
    have e := PyData.shown_le_bulk 72 (by decide) (dctD ks ds) (by unfold dctD PyData.leavesShort; exact f1)
    have b : (dctD ks ds).bulk ≤ ks.length * (n + 22) := by
      unfold dctD PyData.bulk
      exact f2
    have c : ks.length * (n + 22) ≤ 100 * 1022 := Nat.mul_le_mul ok.few (by omega)
    have s : sizeLine = 16777216 := by decide
    omega
  refine repr_of_reads' rd (by unfold dctD PyData.showable; exact f3) (fun _ z => ?_) gd (by omega) (fun _ _ e => e) ?_ fits
  · have : sysModules = a := by simpa using z
    exact ns this.symm
  · intro h' u tk keep
    exact ⟨.str _, H, I.kept keep, ⟨u, rfl⟩, q⟩
end

/-! ### what stands at a key -/
theorem valV_kv {ks : List Str} (nd : ks.Nodup) : ∀ {vs : List V} {i : Nat} {x : Str} {v : V}, ks[i]? = some x → vs[i]? = some v → valV (kvOf ks vs) (.inr x) = some v := by
  induction ks with
  | nil => intro vs i x v e; simp at e
  | cons k ks ih =>
    intro vs i x v e1 e2
    cases vs with
    | nil => simp at e2
    | cons u vs =>
      have nd' := List.nodup_cons.mp nd
      show valV ((Sum.inr k, u) :: kvOf ks vs) (.inr x) = some v
      cases i with
      | zero =>
        have a : k = x := by simpa using e1
        have b : u = v := by simpa using e2
        subst a b
        exact valV_pos rfl
      | succ i =>
        have m : x ∈ ks := List.mem_of_getElem? (by simpa using e1)
        have ne : ¬ (Sum.inr k : Key) = Sum.inr x := fun z => by
          cases z
          exact nd'.1 m
        rw [valV_neg ne]
        exact ih nd'.2 (by simpa using e1) (by simpa using e2)
theorem valV_no {x : Str} : ∀ {ks : List Str} {vs : List V}, x ∉ ks → valV (kvOf ks vs) (.inr x) = none
  | [], _, _ => rfl
  | _ :: _, [], _ => rfl
  | k :: ks, v :: vs, h => by
    show valV ((Sum.inr k, v) :: kvOf ks vs) (.inr x) = none
    rw [valV_neg (fun z => by cases z; exact h (by simp))]
    exact valV_no (fun m => h (by simp [m]))
theorem kvOf_snoc {ks : List Str} {vs : List V} {k : Str} {v : V} (l : vs.length = ks.length) : kvOf ks vs ++ [(Sum.inr k, v)] = kvOf (ks ++ [k]) (vs ++ [v]) := by
  unfold kvOf
  rw [List.map_append, List.zip_append (by rw [List.length_map, l])]
  rfl
theorem Dct.same {K : PySem.W.Frag} {H H' : Hp} {a : Addr} {ks : List Str} {ds : List PyData} (k : Same H H') (h : Dct K H a ks ds) : Dct K H' a ks ds := by
  obtain ⟨vs, l, e, d⟩ := h.ex
  exact ⟨⟨vs, l, k _ _ e, dpa_same k d⟩, h.nol⟩
theorem Dct.kl {K : PySem.W.Frag} {H H' : Hp} {a g : Addr} {ks : List Str} {ds : List PyData} (k : Kl g H H') (h : Dct K H a ks ds) : Dct K H' a ks ds := by
  obtain ⟨vs, l, e, d⟩ := h.ex
  obtain ⟨ys, eg⟩ := k.1
  exact ⟨⟨vs, l, k.2 _ _ (ne_of e eg (fun z => by cases z)) e, dpa_kl k d h.nol⟩, h.nol⟩
end Gd

set_option Elab.async false
set_option linter.all false
set_option maxRecDepth 100000
set_option maxHeartbeats 2000000
set_option autoImplicit false
namespace Gd
open PySem PySem.Spec PyProof.Rows L2

/-! ### own exceptions with the __init__ of their base: made as values -/
/-- where that __init__ stands -/
def AtI (K : PySem.W.Frag) (fI : Addr) (qual : Str) (st : Stmt) (ps : List Str) : Prop := ∃ fd, Fun K "__init__" qual st fI fd ∧ Binds K fd ps []
structure DnI (P : Program) (w : World) (K : PySem.W.Frag) (mg : Str → Option Value) (base : Heap) (k : Nat) (fI : Addr) (qual : Str) (st : Stmt) (ps : List Str) (sp : Sp) : Prop where
  ex : ∃ fd, Fun K "__init__" qual st fI fd ∧ Binds K fd ps [] ∧ FnOk P w K mg base CX0 k fI fd ps sp
theorem DnI.mk' {P : Program} {w : World} {K : PySem.W.Frag} {mg : Str → Option Value} {base : Heap} {fI : Addr} {qual : Str} {st : Stmt} {ps : List Str} {k : Nat} {sp : Sp} (h : AtI K fI qual st ps)
    (ok : ∀ f fd, Fun K "__init__" qual st f fd → FnOk P w K mg base CX0 k f fd ps sp) : DnI P w K mg base k fI qual st ps sp := by
  obtain ⟨fd, F, b⟩ := h
  exact ⟨fd, F, b, ok fI fd F⟩
/-- what the top has left of such a class -/
structure ExT (K : PySem.W.Frag) (mg : Str → Option Value) (C fI : Addr) (x : Str) : Prop where
  ox : OexC K C
  mg_ : mg x = some (.ref C)
  iC : PySem.W.findIn K (.ref C) "__init__" = some (some (.ref fI))
  tI : PySem.W.typeIn K (.ref fI) = some (.type "function")
  nV : PySem.W.findIn K (.ref C) "value" = some none
  hg : PySem.W.findIn K (.ref C) "__getattribute__" = some (some (.builtin "BaseException.__getattribute__"))
  hk : PySem.W.findIn K (.ref C) "__getattr__" = some none
  hd : PySem.W.hasDictIn K C = true
  ha : PySem.W.findIn K (.ref C) "__class__" = some (some (.builtin "object.__class__"))
  hn : PySem.W.specialIn K (.builtin "object.__class__") "__get__" = some (some (.builtin "getset_descriptor.__get__"))
  ht : PySem.W.takesIn K (.builtin "object.__class__") = some true
  hm : PySem.W.mroIn K C (.type "object") = some true
/-- at a: an exception of the class at C that bears v -/
def ErrAt (H : Hp) (C : Addr) (a : Addr) (v : V) : Prop := ∃ d, H a = some (exo a C (some d)) ∧ H d = some (exd d [("value", v)])
theorem ErrAt.same {H H' : Hp} {C a : Addr} {v : V} (k : Same H H') (h : ErrAt H C a v) : ErrAt H' C a v := by
  obtain ⟨d, h1, h2⟩ := h
  exact ⟨d, k _ _ h1, k _ _ h2⟩
/-- the promise of __init__ -/
def spIni (K : PySem.W.Frag) : Sp := fun vs H Q _ => ∃ a C v, vs = [.ref a, v] ∧ OexC K C ∧ PySem.W.findIn K (.ref C) "value" = some none ∧ H a = some (exo a C none) ∧
  ∀ dx, H dx = none → dx ≠ a → Q .non (upd (upd H dx (exd dx [("value", v)])) a (exo a C (some dx)))
/-- C(e, ..), as a value -/
def tMkV (C : Addr) (sp : Sp) (ta : TA) : TE := fun σ H Q => ta σ H fun vs H1 => vs.length ≤ 1000 ∧ ∀ a, H1 a = none → sp (.ref a :: vs) (upd H1 a (exo a C none)) (fun v H2 => v = .non ∧ Q (.ref a) H2) E0
section
variable {X : Cx} {x qual : Str} {st : Stmt} {ps : List Str} {sp : Sp} {k j : Nat} {e : Expr} {es : List Expr} {ta : TA} {p pos : Pos} {C fI : Addr}
theorem pe_mkE (T : ExT X.K X.mg C fI x) (D : DnI X.prog X.w X.K X.mg X.base k fI qual st ps sp) (hr : Room j X.A) (hg : Gl X x) (ha : PA X (e :: es) ta) (hk : k + 1 ≤ j := by decide)
    (hdb : (x == ("__debug__" : Str)) = false := by decide) (he : starEach (e :: es) X.env = (false, eval e X.env) :: starEach es X.env := by rfl)
    (hpl : (backTo pos (starEach es X.env)).any (·.1) = false := by rfl) :
    PE X (.Call (.Name x p) (e :: es) [] pos) (tMkV C sp ta) := by
  obtain ⟨fd, F, b, ok⟩ := D.ex
  have hr' := hr.mono hk
  refine ⟨fun pins s σ H Q I h => ?_⟩
  obtain ⟨nm, q, N, bs, bm, sn, sub, ab, col, dd, k0, k1, k2, k3, k5, hC, hbm⟩ := T.ox.cls
  refine wpAny_Call_Name_kw (ld_glob I hg T.mg_ ?_ hdb)
  refine PySem.W.callWith_K (h₀ := X.base) I.ok.mod.kin T.ox.kC (thn (ha.run pos pins s σ H _ I h) fun us s1 got => ?_) he hpl
  obtain ⟨vs, H1, I1, r1, hz, q1⟩ := got
  refine ⟨I1.kIn, ?_⟩
  show wpAny _ _ (call (.ref C) us) _ _ _
  obtain ⟨hp, g, dr, tk, os⟩ := s1
  have big : hp.objs.size ≤ hp.objs.size + 1 := Nat.le_succ _
  have new : H1 (hp.objs.size + 1) = none := I1.hok.fresh big
  have hq := q1 (hp.objs.size + 1) new
  have grow : ∀ b o, hp.get? b = some o → ((hp.push (PySem.W.kdv_tup us)).push (PySem.HandSPX.excO C hp.objs.size)).get? b = some o := fun b o z => Heap.get?_push_of_some _ (Heap.get?_push_of_some _ z)
  have there : ((hp.push (PySem.W.kdv_tup us)).push (PySem.HandSPX.excO C hp.objs.size)).get? (hp.objs.size + 1) = some (PySem.HandSPX.excO C hp.objs.size) := by heap_get
  have I2 : Inv X pins σ (upd H1 (hp.objs.size + 1) (exo (hp.objs.size + 1) C none)) ⟨(hp.push (PySem.W.kdv_tup us)).push (PySem.HandSPX.excO C hp.objs.size), g, dr, tk, os⟩ := I1.laid (t' := tk) grow big (exo_ok there)
  have r2 : Vals (V.ref (hp.objs.size + 1) :: vs) (Value.ref (hp.objs.size + 1) :: us) := .cons rfl r1
  have cnt : (Value.ref (hp.objs.size + 1) :: us).length = ps.length := by
    rw [← r2.length]
    exact ok.len _ _ _ _ hq
  have bnd : BindsTo ⟨(hp.push (PySem.W.kdv_tup us)).push (PySem.HandSPX.excO C hp.objs.size), g, dr, tk, os⟩ fd ⟨Value.ref (hp.objs.size + 1) :: us, []⟩ (ps.zip (Value.ref (hp.objs.size + 1) :: us)) := by
    have z := b _ (Value.ref (hp.objs.size + 1) :: us) I2.kIn (by simpa using cnt)
    simpa using z
  have few : us.length ≤ sizeLine := by
    rw [← Paired.length r1, sizeLine_eq]
    omega
  refine wpAny_call (PySem.HandSPX.call_own PySem.F.excBase_ValueError (fun Y => PySem.HandSPX.refsVE_contains Y bm hbm) (I1.kIn _ _ hC) (PySem.W.looks_findIn I1.kIn T.iC) (fun self => PySem.W.bind_fn I1.kIn self T.tI) few ?_)
  refine codeAny_mono (ok.run _ X.stack _ _ ⟨Value.ref (hp.objs.size + 1) :: us, []⟩ (Value.ref (hp.objs.size + 1) :: us) _ _ E0 (hr'.make C us []) (I2.env0.make C us []) bnd r2 hq) fun r s' post => ?_
  cases r with
  | error er => exact (post : False).elim
  | ok fl =>
    cases fl with
    | ret u =>
      obtain ⟨v, H3, I3, rv, ev, q3⟩ := I2.after post
      subst ev
      exact ⟨rv, .ref (hp.objs.size + 1), H3, I3, rfl, q3⟩
    | next => exact (post : False).elim
    | brk => exact (post : False).elim
    | cont => exact (post : False).elim
end
/-- an exception is made -/
theorem mk_err {K : PySem.W.Frag} {C : Addr} {H1 : Hp} {v : V} {Q : Addr → Hp → Prop} {E : XK} (T : OexC K C) (n : PySem.W.findIn K (.ref C) "value" = some none)
    (q : ∀ a H', Same H1 H' → H1 a = none → ErrAt H' C a v → Q a H') :
    ∀ a, H1 a = none → spIni K (.ref a :: [v]) (upd H1 a (exo a C none)) (fun u H2 => u = .non ∧ Q a H2) E := by
  intro a na
  refine ⟨a, C, v, rfl, T, n, upd_same, fun dx nd ne => ⟨rfl, ?_⟩⟩
  have nd1 : H1 dx = none := by rw [upd_ne ne] at nd; exact nd
  refine q a _ (fun b o e => ?_) na ⟨dx, upd_same, ?_⟩
  · rw [upd_ne (ne_of_none e na), upd_ne (ne_of_none e nd1), upd_ne (ne_of_none e na)]
    exact e
  · rw [upd_ne ne, upd_same]
/-! ### e.value -/
def tVal (ta : TE) (C : Addr → Prop) : TE := fun σ H Q => ta σ H fun x H1 => ∃ a c v, x = .ref a ∧ C c ∧ ErrAt H1 c a v ∧ Q v H1
theorem err_inst {X : Cx} {pins : List (Addr × Obj)} {σ : L2.St} {H : Hp} {s : Shared} {C a : Addr} {v : V} (I : Inv X pins σ H s) (h : ErrAt H C a v) :
    ∃ (oe od : Obj) (u : Value), PySem.W.InstAt s.heap a oe C (some od) ∧ RelV v u ∧ PySem.W.lookIn "value" od = some (some u) := by
  obtain ⟨d, e1, e2⟩ := h
  obtain ⟨t1, he⟩ := exo_at I.hok e1
  obtain ⟨mA, ns, rel⟩ := exd_at I.hok e2
  obtain ⟨od, ho, hl⟩ := lookIn_ns ns
  have l : List.lookup ("value" : Str) [(("value" : Str), v)] = some v := by simp [List.lookup]
  obtain ⟨u, hu, ru⟩ := RelO.some_of (v := v) (o := mA "value") (by rw [← l]; exact rel "value")
  exact ⟨_, od, u, ⟨he, rfl, rfl, ho⟩, ru, by rw [hl, hu]⟩
theorem pe_val {X : Cx} {e : Expr} {te : TE} {pos : Pos} {S : Addr → Prop} (T : ∀ c, S c → ∃ fI x, ExT X.K X.mg c fI x) (he : PE X e te) (hb : attributeBase e "value" X.env (eval e X.env) = eval e X.env := by rfl) :
    PE X (.Attribute e "value" pos) (tVal te S) := by
  refine ⟨fun pins s σ H Q I h => ?_⟩
  refine attr_of hb (thn (he.run pins s σ H _ I h) fun u s1 got => ?_)
  obtain ⟨x, H1, I1, rx, a, c, v, ex, sc, ea, q⟩ := got
  subst ex
  obtain rfl : u = Value.ref a := rx
  obtain ⟨fI, y, T⟩ := T c sc
  obtain ⟨oe, od, w, J, ru, hl⟩ := err_inst I1 ea
  exact HandSPX.exc_get I1.kIn J T.hg T.hk T.ox.exC (PySem.W.findObj_own T.hd T.nV rfl hl) (handed_of ru) ⟨v, H1, I1.tok _, ru, q⟩
/-! ### isinstance(e, D) of such an exception -/
end Gd
namespace PySem.W
open PySem PySem.Spec PySem.Calls PyProof.Rows
section
variable {prog : Program} {w : World} {A : Around} {E : Value → Shared → Prop} {s : Shared} {K : Frag} {x D : Addr} {ox : Obj} {od : Option Obj}
theorem gd_findCls (c : (clsIn K D).isSome = true) {a g : Value} {n : Str} (f : findIn K (.ref D) n = some (some a)) (gt : specialIn K a "__get__" = some (some g)) (tk : takesIn K a = some true) : findObj K D od n = some (.bind g a) := by
  obtain ⟨cd, e⟩ := Option.isSome_iff_exists.mp c
  simp [findObj, e, f, gt, tk]
theorem gd_readCls {Q : Option Value → Shared → Prop} (ga : findIn K (.ref D) "__getattribute__" = some (some (.builtin "BaseException.__getattribute__"))) (gg : findIn K (.ref D) "__getattr__" = some none)
    (isE : subIn K (.ref D) (.type "BaseException") = some true) (c : (clsIn K D).isSome = true) (fc : findIn K (.ref D) "__class__" = some (some (.builtin "object.__class__")))
    (gt : specialIn K (.builtin "object.__class__") "__get__" = some (some (.builtin "getset_descriptor.__get__"))) (tk : takesIn K (.builtin "object.__class__") = some true) (mo : mroIn K D (.type "object") = some true)
    (Y : K.In s.heap) (J : InstAt s.heap x ox D od) (q : Q (some (.ref D)) { s with toks := s.toks + 1 }) : wpAny (model prog w) A (getAttr? (.ref x) "__class__") Q E s := by
  obtain ⟨hp, g, d, t, os⟩ := s
  have own : Looks (model prog w) hp (typeOf (.ref x)) (.ref D) := J.type
  have lga := looks_findIn (M := model prog w) Y ga
  have lgg := looks_findIn (M := model prog w) Y gg
  have lfc := looks_find (M := model prog w) Y J (gd_findCls (od := od) c fc gt tk)
  have exc : Looks (model prog w) hp (isInstance (.ref x) (.type "BaseException")) true := own.andThen (looks_subIn Y isE)
  have ne : (Value.builtin "BaseException.__getattribute__" == Value.builtin "object.__getattribute__") = false := by decide +kernel
  unfold getAttr? getAttrBy? getAttrBy
  refine wpAny_bind (wpAny_mkText (wpAny_bind (wpAny_attempt (wpAny_holding (wpAny_bind (own.at (wpAny_bind (lga.at ?_))))))))
  show wpAny _ _ (if (onTheHeap (Value.ref D) && (Value.builtin "BaseException.__getattribute__" == Value.builtin "object.__getattribute__")) = true then _ else _) _ _ _
  rw [ne, Bool.and_false, if_neg Bool.false_ne_true]
  unfold getAttrByItsOwn hookBefore
  refine wpAny_bind ?_
  rw [if_pos (show onTheHeap (Value.ref D) = true by rfl)]
  refine lgg.at (wpAny_bind (wpAny_attempt (wpAny_holding ?_)))
  unfold callGetattribute boundAndCalled
  rw [if_neg (by decide), PySem.F.excAttr_ValueError.ga.bind (.ref x)]
  refine wpAny_bind (wpAny_pure ?_)
  show wpAny _ _ (call (.builtin "BaseException.__getattribute__") [.ref x, .str "__class__" t]) _ _ _
  refine wpAny_call (codeAny_call_builtin PySem.F.excAttr_ValueError.ga.plain PySem.F.entry_bexc_ga ?_)
  refine @check_slot (model prog w) _ _ ⟨hp, g, d, t + 1, os⟩ "BaseException.__getattribute__" "BaseException" "__getattribute__" (.ref x) [.str "__class__" t] [] _ (by decide +kernel) (by decide +kernel) exc (PySem.F.args_bexc_ga (.ref x) (.str "__class__" t)) ?_
  unfold Builtin.«object.__getattribute__»
  refine wpAny_bind (wpAny_of_eq (a := ((Value.ref x : Value), [Value.str "__class__" t])) (by first | rfl | (simp only [slotArgs]; rfl)) (wpAny_bind (wpAny_pure (wpAny_bind (own.at (wpAny_bind (lfc.at ?_)))))))
  show wpAny _ _ (holding [Value.builtin "object.__class__"] (call (.builtin "getset_descriptor.__get__") [.builtin "object.__class__", .ref x, .ref D]) >>= ret) _ _ _
  refine wpAny_bind (wpAny_holding (wpAny_call (class_get (s := ⟨hp, g, d, t + 1, os⟩) (ox := ox) (od := od) Y J mo (wpAny_pure ?_))))
  show wpAny _ _ (handedOut (.ref D)) _ _ _
  rw [handedOut_of (v := .ref D) rfl]
  first
    | exact wpAny_pure (wpAny_pure q)
    | exact wpAny_pure q
    | exact wpAny_pure (wpAny_bind (wpAny_pure (wpAny_pure q)))
end
end PySem.W
namespace Gd
open PySem PySem.Spec PyProof.Rows L2
theorem err_kit {K : PySem.W.Frag} {mg : Str → Option Value} {C fI a : Addr} {x : Str} (T : ExT K mg C fI x) : PySem.W.KitX K (.ref a) (.ref C) (fun h => ∃ ox od, PySem.W.InstAt h a ox C od) where
  ty := fun _ _ _ ⟨_, _, J⟩ => J.type
  it := fun M h Y _ => by
    obtain ⟨nm, q, N, bs, bm, sn, sub, ab, col, dd, k0, k1, k2, k3, k5, hC, _⟩ := T.ox.cls
    intro A Q E s k z
    unfold isType loadHead
    exact wpAny_bind (wpAny_loadPart (k _ _ (Y _ _ hC)) (wpAny_pure z))
  ne := fun h tp dd its n sl Y e => by
    obtain ⟨nm, q, N, bs, bm, sn, sub, ab, col, dd, k0, k1, k2, k3, k5, hC, _⟩ := T.ox.cls
    refine Bool.eq_false_iff.mpr fun z => ?_
    have z2 : C = tp := Value.ref.inj (beq_iff_eq.mp z)
    subst z2
    have z3 : Value.type "type" = Value.type "tuple" := congrArg Obj.cls (Option.some.inj ((Y _ _ hC).symm.trans e))
    exact absurd (Value.type.inj z3) (by decide)
  ca := fun Y ⟨_, _, J⟩ k => by
    obtain ⟨cd, hc, _⟩ := PySem.W.any_some T.hd
    exact PySem.W.gd_readCls T.hg T.hk T.ox.exC (by rw [hc]; rfl) T.ha T.hn T.ht T.hm Y J k
/-- isinstance(e, c) -/
def rIsX (K : PySem.W.Frag) (S : Addr → Prop) : List V → Hp → VK → Prop := fun xs H Q => ∃ (a C : Addr) (v c : V) (cv : Value) (b : Bool), xs = [.ref a, c] ∧ S C ∧ ErrAt H C a v ∧ (∀ u, RelV c u → u = cv) ∧ PySem.W.kitOne K (.ref C) cv = some b ∧ Q (.bl b) H
theorem call_isX {X : Cx} {S : Addr → Prop} (T : ∀ c, S c → ∃ fI x, ExT X.K X.mg c fI x) : CallR X (.builtin "isinstance") (rIsX X.K S) := by
  intro pins s σ H xs us Q I r h
  obtain ⟨a, C, v, c, cv, b, rfl, sc, ea, hcv, e, q⟩ := h
  cases r with
  | cons rx rr =>
    cases rr with
    | cons rt rr =>
      cases rr
      cases rx
      have ec := hcv _ rt
      subst ec
      obtain ⟨fI, y, T⟩ := T C sc
      obtain ⟨oe, od, w, J, _⟩ := err_inst I ea
      exact PySem.W.kia_one (err_kit T) I.kIn ⟨_, _, J⟩ e (fun z => nomatch z) fun tk => ⟨.bl b, H, I.kept (t' := tk) fun _ _ z => z, rfl, q⟩
end Gd

set_option Elab.async false
set_option linter.all false
set_option maxRecDepth 100000
set_option maxHeartbeats 4000000
set_option autoImplicit false
namespace PySem
namespace HandSPX
open PySem.W PySem.Calls PyProof.Rows
section
variable {prog : Program} {w : World} {A : Around} {E : Value → Shared → Prop} {R : Result → Shared → Prop} {h : Heap} {g : Array GenState} {d : Drawn} {t : Nat} {os : OsState}
variable {nm q : Str} {C N : Addr} {bs bm bmB : List Value} {hdct : Bool} {sn : List Str} {sub : List Value} {ab : Bool} {col : Option Bool} {dd : Option Addr} {k0 k1 k2 k3 k5 : Option Value} {B newId initId : String} {n : Str} {u : Value}
theorem gd_checkK (V : ExcBaseFacts B newId initId bmB) (hT : ∀ X : String, bm.contains (.type X) = bmB.contains (.type X)) {Q : Unit → Shared → Prop}
    (hC : h.get? C = some (excClassObj nm q C N bs bm hdct sn sub ab col dd k0 k1 k2 k3 k5 newId)) (hq : Q () ⟨h, g, d, t, os⟩) : wpAny (model prog w) A (checkBuiltinCall newId ⟨[.ref C], [(n, u)]⟩) Q E ⟨h, g, d, t, os⟩ := by
  have has : (Value.ref C :: bm).contains (.type B) = true := by rw [List.contains_cons, hT, V.hasB, Bool.or_true]
  have star := V.noStar
  simp only [checkBuiltinCall, V.newKind, V.newSplit, V.newRow]
  repeat (first | refine wpAny_loadPart_at hC ?_ | (refine wpAny_isSubtype_exc hC ?_; rw [has]) | refine wpAny_staticBase_exc hC ?_ | refine wpAny_madeBy_exc hC ?_ | simp only [bne_self_eq_false, Bool.false_eq_true, if_false] | wp_step)
  exact hq
theorem gd_newK (V : ExcBaseFacts B newId initId bmB) (hT : ∀ X : String, bm.contains (.type X) = bmB.contains (.type X))
    (hC : h.get? C = some (excClassObj nm q C N bs bm hdct sn sub ab col dd k0 k1 k2 k3 k5 newId))
    (hq : R (.ok (.ret (.ref (h.objs.size + 1)))) ⟨(h.push (W.kdv_tup [])).push (excO C h.objs.size), g, d, t, os⟩) :
    codeAny (model prog w) A (.builtin newId ⟨[.ref C], [(n, u)]⟩) R ⟨h, g, d, t, os⟩ := by
  have ends := V.ends
  have has : (Value.ref C :: bm).contains (.type B) = true := by rw [List.contains_cons, hT, V.hasB, Bool.or_true]
  have noA : (Value.ref C :: bm).contains (.type "AttributeError") = false := by rw [List.contains_cons, hT, V.noAttr]; rfl
  have noN : (Value.ref C :: bm).contains (.type "NameError") = false := by rw [List.contains_cons, hT, V.noName]; rfl
  have few : ([] : List Value).length ≤ sizeLine := Nat.zero_le _
  refine codeAny_builtinAt V.entry ?_
  unfold Builtin.«BaseException.__new__»
  refine wpAt_bind ?_
  show wpAt _ _ _ (stack >>= _) _ _ _
  refine wpAt_bind (wpAt_stack fun p below => wpAt_of_wpAny ?_)
  wp_walk
  refine wpAt_of_wpAny ?_
  rw [V.owner]
  repeat (first | with_reducible refine wpAny_madeHere_exc V.canon hC ?_ | with_reducible refine wpAny_loadPart_at hC ?_ | (with_reducible refine wpAny_isSubtype_exc hC ?_; first | rw [has] | rw [noA] | rw [noN]) | wp_step)
  show R _ _
  rw [Heap.size_push]
  exact hq
theorem gd_typeCallK (V : ExcBaseFacts B newId initId bmB) (hT : ∀ X : String, bm.contains (.type X) = bmB.contains (.type X)) {fI : Addr} {Q : Fin → Shared → Prop}
    (hC : h.get? C = some (excClassObj nm q C N bs bm hdct sn sub ab col dd k0 k1 k2 k3 k5 newId))
    (hi : W.Looks (model prog w) h (typeLookup (.ref C) "__init__") (some (.ref fI))) (hb : ∀ self, W.Looks (model prog w) h (bindSpecial (.ref fI) self) (.ref fI, [self]))
    (hq : codeAny (model prog w) A (.call (.ref fI) ⟨[.ref (h.objs.size + 1)], [(n, u)]⟩)
      (fun r s' => match r with | .ok (.ret v) => v = .none ∧ Q (.done (.ret (.ref (h.objs.size + 1)))) s' | .ok _ => False | .error e => E e s')
      ⟨(h.push (W.kdv_tup [])).push (excO C h.objs.size), g, d, t, os⟩) :
    wpAny (model prog w) A (Builtin.«type.__call__» ⟨[.ref C], [(n, u)]⟩) Q E ⟨h, g, d, t, os⟩ := by
  repeat (first | with_reducible refine wpAny_loadPart_at hC ?_ | with_reducible refine wpAny_madeBy_exc hC ?_ | wp_step)
  refine codeAny_call_builtin_code (Code.quiet_builtin _ V.quiet) (gd_checkK V hT hC ?_)
  refine gd_newK V hT hC ?_
  show wpAny _ _ _ _ _ _
  have grow : ∀ b o, h.get? b = some o → ((h.push (W.kdv_tup [])).push (excO C h.objs.size)).get? b = some o := fun b o e => Heap.get?_push_of_some _ (Heap.get?_push_of_some _ e)
  have hC1 := grow _ _ hC
  have there : ((h.push (W.kdv_tup [])).push (excO C h.objs.size)).get? (h.objs.size + 1) = some (excO C h.objs.size) := by heap_get
  have self : (Value.ref C :: bm).contains (.ref C) = true := by simp
  have i1 := hi.keeps grow
  have b1 := (hb (.ref (h.objs.size + 1))).keeps grow
  unfold isInstance
  repeat (first | with_reducible refine wpAny_loadPart_at there ?_ | (with_reducible refine wpAny_isSubtype_exc hC1 ?_; rw [self]) | wp_step)
  show wpAny _ _ (typeLookup (.ref C) _) _ _ _
  refine i1.at (wpAny_holding (wpAny_bind (b1.at ?_)))
  refine wpAny_bind (wpAny_call (codeAny_mono hq fun r s' z => ?_))
  rcases r with e | (v | _ | _ | _) <;> first | exact z | exact z.elim | skip
  obtain ⟨rfl, z⟩ := z
  first
    | exact wpAny_pure (wpAny_pure z)
    | (wp_walk; exact z)
theorem gd_callK (V : ExcBaseFacts B newId initId bmB) (hT : ∀ X : String, bm.contains (.type X) = bmB.contains (.type X)) {fI : Addr}
    (hC : h.get? C = some (excClassObj nm q C N bs bm hdct sn sub ab col dd k0 k1 k2 k3 k5 newId))
    (hi : W.Looks (model prog w) h (typeLookup (.ref C) "__init__") (some (.ref fI))) (hb : ∀ self, W.Looks (model prog w) h (bindSpecial (.ref fI) self) (.ref fI, [self]))
    (hq : codeAny (model prog w) (A.under (.builtin "type.__call__" ⟨[.ref C], [(n, u)]⟩)) (.call (.ref fI) ⟨[.ref (h.objs.size + 1)], [(n, u)]⟩) (W.InitBack (h.objs.size + 1) R)
      ⟨(h.push (W.kdv_tup [])).push (excO C h.objs.size), g, d, t, os⟩) :
    codeAny (model prog w) A (.call (.ref C) ⟨[], [(n, u)]⟩) R ⟨h, g, d, t, os⟩ := by
  have f1 := tc_lookup
  have f2 := tc_bind (.ref C)
  have isT : (⟨h, g, d, t, os⟩ : Shared).TypeIs (.ref C) "type" := ⟨_, hC, rfl⟩
  refine codeAny_of_tree ?_
  show wpAny _ _ (callAny (.ref C) _) _ _ _
  repeat (any_goals (first | assumption | with_reducible refine wpAny_loadPart_at hC ?_ | wp_step))
  refine ⟨rfl, ?_⟩
  refine codeAny_call_builtin_at (Code.quiet_builtin _ (by decide +kernel)) entry_typeCall (wpAny_check_type_call_sub hC (gd_typeCallK V hT hC hi hb ?_))
  refine codeAny_mono hq fun r s' z => ?_
  rcases r with e | (v | _ | _ | _) <;> exact z
end
end HandSPX
end PySem
namespace Gd
open PySem PySem.Spec PyProof.Rows L2
/-- C(n = e), as a value -/
def tMkK (C : Addr) (sp : Sp) (tk : TA) : TE := fun σ H Q => tk σ H fun vs H1 => vs.length = 1 ∧ ∀ a, H1 a = none → sp (.ref a :: vs) (upd H1 a (exo a C none)) (fun v H2 => v = .non ∧ Q (.ref a) H2) E0
section
variable {X : Cx} {x qual n : Str} {st : Stmt} {ps : List Str} {sp : Sp} {k j : Nat} {kws : List Keyword} {tk : TA} {p pos : Pos} {C fI : Addr}
theorem pe_mkEk (T : ExT X.K X.mg C fI x) (D : DnI X.prog X.w X.K X.mg X.base k fI qual st ps sp) (hr : Room j X.A)
    (kb : ∀ fd, Fun X.K "__init__" qual st fI fd → ∀ (s : Shared) (a u : Value), BindsTo s fd ⟨[a], [(n, u)]⟩ (ps.zip [a, u])) (hg : Gl X x) (hkw : PK X kws tk) (hk : k + 1 ≤ j := by decide)
    (hall : (backToKw pos (keywordEach kws X.env)).all (·.1.isSome) = true := by rfl) (hks : (backToKw pos (keywordEach kws X.env)).filterMap (·.1) = [n] := by rfl)
    (hdb : (x == ("__debug__" : Str)) = false := by decide)
    (hpl : ((backTo pos (starEach [] X.env)).any (·.1) || (backToKw pos (keywordEach kws X.env)).any (·.1.isNone)) = false := by rfl) :
    PE X (.Call (.Name x p) [] kws pos) (tMkK C sp tk) := by
  obtain ⟨fd, F, b, ok⟩ := D.ex
  have hr' := hr.mono hk
  refine ⟨fun pins s σ H Q I h => ?_⟩
  obtain ⟨nm, q, N, bs, bm, sn, sub, ab, col, dd, k0, k1, k2, k3, k5, hC, hbm⟩ := T.ox.cls
  refine wpAny_Call_Name_kw (ld_glob I hg T.mg_ ?_ hdb)
  refine PySem.W.callWith_KW0 (h₀ := X.base) I.ok.mod.kin T.ox.kC hall ?_ hpl
  refine thn (hkw.run pos pins s σ H _ I h) fun us s1 got => ?_
  obtain ⟨vs, H1, I1, r1, hz, q1⟩ := got
  refine ⟨I1.kIn, ?_⟩
  rw [hks]
  match vs, us, r1, hz, q1 with
  | [v], [u], r1, hz, q1 =>
    show wpAny _ _ (call (.ref C) [] [(n, u)]) _ _ _
    obtain ⟨hp, g, dr, tkn, os⟩ := s1
    have big : hp.objs.size ≤ hp.objs.size + 1 := Nat.le_succ _
    have new : H1 (hp.objs.size + 1) = none := I1.hok.fresh big
    have hq := q1 (hp.objs.size + 1) new
    have grow : ∀ b o, hp.get? b = some o → ((hp.push (PySem.W.kdv_tup [])).push (PySem.HandSPX.excO C hp.objs.size)).get? b = some o := fun b o z => Heap.get?_push_of_some _ (Heap.get?_push_of_some _ z)
    have there : ((hp.push (PySem.W.kdv_tup [])).push (PySem.HandSPX.excO C hp.objs.size)).get? (hp.objs.size + 1) = some (PySem.HandSPX.excO C hp.objs.size) := by heap_get
    have I2 : Inv X pins σ (upd H1 (hp.objs.size + 1) (exo (hp.objs.size + 1) C none)) ⟨(hp.push (PySem.W.kdv_tup [])).push (PySem.HandSPX.excO C hp.objs.size), g, dr, tkn, os⟩ := I1.laid (t' := tkn) grow big (exo_ok there)
    have r2 : Vals [V.ref (hp.objs.size + 1), v] [Value.ref (hp.objs.size + 1), u] := .cons rfl r1
    have bnd := kb fd F ⟨(hp.push (PySem.W.kdv_tup [])).push (PySem.HandSPX.excO C hp.objs.size), g, dr, tkn, os⟩ (Value.ref (hp.objs.size + 1)) u
    refine wpAny_call (PySem.HandSPX.gd_callK PySem.F.excBase_ValueError (fun Y => PySem.HandSPX.refsVE_contains Y bm hbm) (I1.kIn _ _ hC) (PySem.W.looks_findIn I1.kIn T.iC) (fun self => PySem.W.bind_fn I1.kIn self T.tI) ?_)
    refine codeAny_mono (ok.run _ X.stack _ _ ⟨[Value.ref (hp.objs.size + 1)], [(n, u)]⟩ [Value.ref (hp.objs.size + 1), u] _ _ E0 (hr'.make C [] [(n, u)]) (I2.env0.make C [] [(n, u)]) bnd r2 hq) fun r s' post => ?_
    cases r with
    | error er => exact (post : False).elim
    | ok fl =>
      cases fl with
      | ret w =>
        obtain ⟨v3, H3, I3, rv, ev, q3⟩ := I2.after post
        subst ev
        exact ⟨rv, .ref (hp.objs.size + 1), H3, I3, rfl, q3⟩
      | next => exact (post : False).elim
      | brk => exact (post : False).elim
      | cont => exact (post : False).elim
end
/-- repr of anything short -/
theorem call_reprV {X : Cx} {k : Nat} (gd : X.A.guards = some []) (hr : Room k X.A) : CallR X (.builtin "repr") (fun xs H Q => ∃ v d n k, xs = [v] ∧ Dp X.K H v d ∧ DOk n k d ∧ n ≤ 200000 ∧ k ≤ 64 ∧ Q (.str d.shown) H) := by
  intro pins s σ H xs us Q I r h
  obtain ⟨v, d, n, j, rfl, dp, ok, hn, hj, q⟩ := h
  have fits := ok.fits hn
  cases dp with
  | non =>
    obtain ⟨u, rfl, ru⟩ := vals1 r
    cases ru
    rw [PyData.shown_none] at q
    exact PySem.P.repr_of_none ⟨.str "None", H, I.tok _, ⟨_, rfl⟩, q⟩
  | bl b =>
    obtain ⟨u, rfl, ru⟩ := vals1 r
    cases ru
    rw [PyData.shown_bool] at q
    exact PySem.P.repr_of_bool ⟨.str (if b then "True" else "False"), H, I.tok _, ⟨_, rfl⟩, by cases b <;> exact q⟩
  | int i =>
    obtain ⟨u, rfl, t, rfl⟩ := vals1 r
    have z : i.natAbs.log2 < 1920 := by simpa [PyData.showable] using ok.shw
    rw [PyData.shown_int] at q
    exact PySem.P.repr_of_int z ⟨.str _, H, I.tok _, ⟨_, rfl⟩, q⟩
  | str x =>
    obtain ⟨u, rfl, t, rfl⟩ := vals1 r
    have e : (PyData.str x).shown = reprText x := by simp [PyData.shown]
    rw [e] at q fits
    exact PySem.P.repr_of_str ⟨.str _, H, I.tok _, ⟨_, rfl⟩, q⟩ fits
  | lst a b => exact call_reprD gd hr pins s σ H _ us Q I r ⟨_, _, n, j, rfl, .lst a b, ok, hn, hj, ⟨_, rfl⟩, q⟩
  | tup a b => exact call_reprD gd hr pins s σ H _ us Q I r ⟨_, _, n, j, rfl, .tup a b, ok, hn, hj, ⟨_, rfl⟩, q⟩
end Gd
namespace Gd
open PySem PySem.Spec PyProof.Rows L2
/-! ### all own exceptions of a text: the base first, the others below it -/
def errB (K : PySem.W.Frag) (C fI : Addr) : Bool :=
  decide (PySem.W.findIn K (.ref C) "__setattr__" = some (some (.builtin "object.__setattr__"))) && (decide (PySem.W.subIn K (.ref C) (.type "BaseException") = some true) && (decide (PySem.W.typeIn K (.ref C) = some (.type "type")) && (PySem.W.keepIn K (.ref C) &&
  (decide (PySem.W.findIn K (.ref C) "__init__" = some (some (.ref fI))) && (decide (PySem.W.findIn K (.ref C) "value" = some none) && (decide (PySem.W.findIn K (.ref C) "__getattribute__" = some (some (.builtin "BaseException.__getattribute__"))) &&
  (decide (PySem.W.findIn K (.ref C) "__getattr__" = some none) && (PySem.W.hasDictIn K C && (decide (PySem.W.findIn K (.ref C) "__class__" = some (some (.builtin "object.__class__"))) && decide (PySem.W.mroIn K C (.type "object") = some true))))))))))
def initB (K : PySem.W.Frag) (fI : Addr) : Bool :=
  decide (PySem.W.typeIn K (.ref fI) = some (.type "function")) && (decide (PySem.W.specialIn K (.builtin "object.__class__") "__get__" = some (some (.builtin "getset_descriptor.__get__"))) && decide (PySem.W.takesIn K (.builtin "object.__class__") = some true))
def kitB (K : PySem.W.Frag) (C : Addr) (i : Nat) : Nat → List Addr → Bool
  | _, [] => decide (PySem.W.kitOne K (.ref C) (.type "ValueError") = some true)
  | j, D :: ds => decide (PySem.W.kitOne K (.ref C) (.ref D) = some (decide (i = j ∨ j = 0))) && kitB K C i (j + 1) ds
theorem kitB_at {K : PySem.W.Frag} {C : Addr} {i : Nat} : ∀ {j : Nat} {ds : List Addr}, kitB K C i j ds = true → (∀ (m : Nat) D, ds[m]? = some D → PySem.W.kitOne K (.ref C) (.ref D) = some (decide (i = j + m ∨ j + m = 0))) ∧ PySem.W.kitOne K (.ref C) (.type "ValueError") = some true
  | j, [], h => ⟨fun m D e => by simp at e, of_decide_eq_true h⟩
  | j, D :: ds, h => by
    obtain ⟨h1, h2⟩ := Bool.and_eq_true_iff.mp h
    obtain ⟨a, b⟩ := kitB_at h2
    refine ⟨fun m D' e => ?_, b⟩
    cases m with
    | zero =>
      have e' : D = D' := by simpa using e
      subst e'
      exact of_decide_eq_true h1
    | succ m =>
      have z := a m D' (by simpa using e)
      rw [show j + 1 + m = j + (m + 1) by omega] at z
      exact z
structure ErrT (K : PySem.W.Frag) (mg : Str → Option Value) (cs : List Addr) (ns : List Str) (fI : Addr) : Prop where
  t : ∀ (i : Nat) C x, cs[i]? = some C → ns[i]? = some x → ExT K mg C fI x
  sub : ∀ (i j : Nat) C D, cs[i]? = some C → cs[j]? = some D → PySem.W.kitOne K (.ref C) (.ref D) = some (decide (i = j ∨ j = 0))
  subV : ∀ (i : Nat) C, cs[i]? = some C → PySem.W.kitOne K (.ref C) (.type "ValueError") = some true
  len : cs.length = ns.length
theorem ErrT.all {K : PySem.W.Frag} {mg : Str → Option Value} {cs : List Addr} {ns : List Str} {fI : Addr} (T : ErrT K mg cs ns fI) : ∀ c, c ∈ cs → ∃ fI x, ExT K mg c fI x := by
  intro c m
  obtain ⟨i, l, e⟩ := List.getElem_of_mem m
  exact ⟨fI, ns[i]'(by rw [← T.len]; exact l), T.t i c _ (by rw [List.getElem?_eq_getElem l, e]) (List.getElem?_eq_getElem (by rw [← T.len]; exact l))⟩
theorem ext_mk {K : PySem.W.Frag} {mg : Str → Option Value} {C fI : Addr} {x : Str} (cls : ∃ nm q N bs bm sn sub ab col dd k0 k1 k2 k3 k5, K.lookup C = some (excClassObj nm q C N bs bm true sn sub ab col dd k0 k1 k2 k3 k5 "ValueError.__new__") ∧ PySem.HandSPX.refsVE bm = true)
    (g : mg x = some (.ref C)) (h : errB K C fI = true) (i : initB K fI = true) : ExT K mg C fI x := by
  obtain ⟨a1, h⟩ := Bool.and_eq_true_iff.mp h
  obtain ⟨a2, h⟩ := Bool.and_eq_true_iff.mp h
  obtain ⟨a3, h⟩ := Bool.and_eq_true_iff.mp h
  obtain ⟨a4, h⟩ := Bool.and_eq_true_iff.mp h
  obtain ⟨a5, h⟩ := Bool.and_eq_true_iff.mp h
  obtain ⟨a6, h⟩ := Bool.and_eq_true_iff.mp h
  obtain ⟨a7, h⟩ := Bool.and_eq_true_iff.mp h
  obtain ⟨a8, h⟩ := Bool.and_eq_true_iff.mp h
  obtain ⟨a9, h⟩ := Bool.and_eq_true_iff.mp h
  obtain ⟨b1, b2⟩ := Bool.and_eq_true_iff.mp h
  obtain ⟨i1, i⟩ := Bool.and_eq_true_iff.mp i
  obtain ⟨i2, i3⟩ := Bool.and_eq_true_iff.mp i
  exact ⟨⟨cls, of_decide_eq_true a1, of_decide_eq_true a2, of_decide_eq_true a3, a4⟩, g, of_decide_eq_true a5, of_decide_eq_true i1, of_decide_eq_true a6, of_decide_eq_true a7, of_decide_eq_true a8, a9, of_decide_eq_true b1, of_decide_eq_true i2, of_decide_eq_true i3, of_decide_eq_true b2⟩
end Gd

set_option Elab.async false
set_option linter.all false
set_option maxRecDepth 100000
set_option maxHeartbeats 4000000
set_option autoImplicit false
namespace Gd
open PySem PySem.Spec PyProof.Rows L2

/-! ### try: body / except C as n: y = n; the exception is kept as a value -/
/-- at a: an exception of the class cls, its dict d -/
def Kept (cls : Value) (d : Option Addr) (a : Addr) : HO := .ext fun h => ∃ (oe : Obj) (vs : Array Value), h.get? a = some oe ∧ oe.cls = cls ∧ oe.dict = d ∧ oe.data = .fields vs
theorem kept_ok {P : Program} {w : World} {H : Hp} {h : Heap} {a : Addr} {cls : Value} {d : Option Addr} {oe : Obj} {vs : Array Value} (e : h.get? a = some oe) (c : oe.cls = cls) (z : oe.dict = d) (f : oe.data = .fields vs) : ObjOk P w H h a (Kept cls d a) :=
  ⟨⟨oe, vs, e, c, z, f⟩, ⟨_, e⟩, fun h1 h2 x k => by
    obtain ⟨o, v, e1, r⟩ := x
    exact ⟨o, v, k _ e1, r⟩⟩
theorem kept_at {P : Program} {w : World} {H : Hp} {h : Heap} {a : Addr} {cls : Value} {d : Option Addr} (ok : HOk P w H h) (e : H a = some (Kept cls d a)) : ∃ (oe : Obj) (vs : Array Value), h.get? a = some oe ∧ oe.cls = cls ∧ oe.dict = d ∧ oe.data = .fields vs := by
  have z : ObjOk P w H h a (.ext fun h => ∃ (oe : Obj) (vs : Array Value), h.get? a = some oe ∧ oe.cls = cls ∧ oe.dict = d ∧ oe.data = .fields vs) := ok a _ e
  exact z.1
theorem kept_ne {cls : Value} {d : Option Addr} {a : Addr} {o : HO} (h : ∀ φ, o ≠ .ext φ) : Kept cls d a ≠ o := fun z => h _ z.symm
section
variable {X : Cx} {pins : List (Addr × Obj)} {σ : L2.St} {H : Hp} {s : Shared} {a : Addr} {oe : Obj} {vs : Array Value} {cls : Value} {d : Option Addr}
/-- a thing that stands there, and was not told of, is told of -/
theorem adopt (I : Inv X pins σ H s) (he : s.heap.get? a = some oe) (hc : oe.cls = cls) (hd : oe.dict = d) (hf : oe.data = .fields vs) (na : H a = none) (nL : a ≠ X.env.locals) (s0 : X.s_0.heap.get? a = none)
    (po : ∀ p ∈ X.pn ++ pins, p.1 ≠ a) : Inv X pins σ (upd H a (Kept cls d a)) s := by
  have old : ∀ {b : Addr} {o : HO}, H b = some o → upd H a (Kept cls d a) b = some o := fun {b o} e => by rw [upd_ne (ne_of_none e na)]; exact e
  have cel : ∀ y c, X.env.cells.lookup y = some c → c ≠ a := fun y c e z => by
    obtain ⟨v, hv⟩ := I.cell y c e
    obtain ⟨o, ho, hx⟩ := hv
    rw [z, he] at ho
    cases ho
    first
      | (rw [hf] at hx; cases hx)
      | (obtain ⟨_, hx⟩ := hx; rw [hf] at hx; cases hx)
  refine ⟨I.ok, I.os, I.bare, ⟨I.base.keep, I.base.slot, fun b o e n hx => ?_, I.base.there, fun b xs e => old (I.base.tups b xs e), fun b o u e => old (I.base.frzs b o u e), fun b ps e => ?_⟩, I.loc, I.cell, ?_, fun y c e => ?_, fun p hp => ?_, fun b o e => ?_, I.len⟩
  · rw [upd_ne (fun z => by rw [z, s0] at e; cases e)]
    exact I.base.free b o e n hx
  · obtain ⟨more, z⟩ := I.base.tbls b ps e
    exact ⟨more, old z⟩
  · rw [upd_ne (Ne.symm nL)]
    exact I.free
  · rw [upd_ne (cel y c e)]
    exact I.freeC y c e
  · obtain ⟨x1, x2, x3⟩ := I.pin p hp
    exact ⟨x1, by rw [upd_ne (po p hp)]; exact x2, x3⟩
  · by_cases z : b = a
    · subst z
      rw [upd_same] at e
      cases e
      exact kept_ok he hc hd hf
    · rw [upd_ne z] at e
      exact (I.hok b o e).stay (fun _ _ _ q => q) (fun c hx => old hx) fun c xs hx => old hx
end
/-- what the clause wishes -/
def wKeep (K : PySem.W.Frag) (c : Value) (i j : Nat) (Wout : WX) (D : Ends) : WX := fun cls d σ H =>
  ∃ b, PySem.W.exmOne K cls c = some b ∧ (b = true → ∀ a, H a = none → D.nx (((σ.set i (some (.ref a))).set j (some (.ref a))).set i none) (upd H a (Kept cls d a))) ∧ (b = false → Wout cls d σ H)
section
variable {X : Cx} {x n y : Str} {c : Value} {i j : Nat} {body : List Stmt} {np p1 p2 p3 pos pos' : Pos} {tb : WX → TS} {Wout : WX}
theorem ps_try_keep (hs : X.stack = X.env :: X.outer) (hf : X.env.frame = some X.env.locals) (hex : X.ex = []) (hN : X.N.Nodup) (hi : X.N[i]? = some n) (hln : X.env.kindOf n = some .local) (hj : X.N[j]? = some y) (hly : X.env.scope.names.lookup y = some .local) (hc : Names X x c) (tk : Takes X Wout)
    (hv : ∀ (a : Addr) (pn : List (Addr × Obj)), PS (X.suite a pn) (.Assign [.Name y p1] (.Name n p2) p3) (tAsg (tVar i) (gName j)))
    (hb : ∀ (W : WX) (pn : List (Addr × Obj)) (xe : Value → Shared → Prop), Takes (X.tr pn xe) W → PassesOwn (model X.prog X.w) X.A X.env xe → PSs (X.tr pn xe) body (tb W)) :
    PS X (.Try body [.ExceptHandler (some (.Name x np)) (some n) [.Assign [.Name y p1] (.Name n p2) p3] pos'] [] [] pos) (fun D σ H => tb (wKeep X.K c i j Wout D) D σ H) := by
  refine ⟨fun pins s σ H D I q0 => ?_⟩
  have ok := I.ok
  have fr : X.A.frames = some (X.env :: X.outer) := by rw [ok.frames, hs]
  have lc : Loc X.env.scope n := .inl hln
  have run := (hb (wKeep X.K c i j Wout D) (X.pn ++ pins) (fun e s1 => wpAny (model X.prog X.w) X.A (noteFrame e X.env) (fun _ s2 => wpAny (model X.prog X.w) X.A (setFlight e none) (fun _ s3 =>
    wpAny (model X.prog X.w) X.A (handleBy e X.env [.ExceptHandler (some (.Name x np)) (some n) [.Assign [.Name y p1] (.Name n p2) p3] pos']) (SP X pins D) X.xe s3) X.xe s2) X.xe s1) ?caught PassesOwn.looking).run [] s σ H D (I.toTry _) q0
  · refine wpAny_Try_except (wpAny_mono run (fun fl s1 z => ?_) fun _ _ z => z)
    cases fl with
    | next =>
      obtain ⟨σ1, H1, J, q⟩ := z
      exact wpAny_execs_nil ⟨σ1, H1, J.ofTry ok, q⟩
    | brk =>
      obtain ⟨σ1, H1, J, q⟩ := z
      exact ⟨σ1, H1, J.ofTry ok, q⟩
    | cont =>
      obtain ⟨σ1, H1, J, q⟩ := z
      exact ⟨σ1, H1, J.ofTry ok, q⟩
    | ret u =>
      obtain ⟨v, σ1, H1, J, r, q⟩ := z
      exact ⟨v, σ1, H1, J.ofTry ok, r, q⟩
  · intro u s' air
    obtain ⟨a, G, sI, pins', σ', H', cls, d, rfl, J', nb, up, sky, na, os, ag, b, exm, yes, no⟩ := air
    have J : Inv X pins σ' H' sI := J'.ofTry ok
    have sky2 : Sky G (X.env :: X.outer) a (Zc cls d) X.env.locals s'.heap := by rw [← hs]; exact sky
    show wpAny (model X.prog X.w) X.A (noteFrame (.ref a) X.env) _ _ _
    refine Sky.land Zc.steady fr hf sky2 fun h3 fl3 up3 => ?_
    have I3 : Inv X pins σ' H' { s' with heap := h3 } := J.landed nb fl3.1 (up.trans up3) os ag
    obtain ⟨o3, v3, e3, z3, d3⟩ := fl3.there
    have nfr : a ∉ frs (X.env :: X.outer) := fun m => by
      obtain ⟨_, o, eo, nf⟩ := fl3.2.2.1.mem m
      rw [e3] at eo
      cases eo
      exact nf _ d3
    have gone : sI.heap.get? a = none := by
      cases g : sI.heap.get? a with
      | none => rfl
      | some o =>
        have := nb a o g (by rw [hs]; exact nfr)
        rw [fl3.2.1] at this
        cases this
    have nL : a ≠ X.env.locals := fun z => nfr (List.mem_filterMap.mpr ⟨X.env, List.mem_cons_self, by rw [hf, z]⟩)
    have s0 : X.s_0.heap.get? a = none := by
      cases g : X.s_0.heap.get? a with
      | none => rfl
      | some o =>
        obtain ⟨o2, g2⟩ := J.base.there a o g (by rw [hex]; exact List.not_mem_nil)
        rw [gone] at g2
        cases g2
    have po : ∀ p ∈ X.pn ++ pins, p.1 ≠ a := fun p hp z => by
      have := (J.pin p hp).1
      rw [z, gone] at this
      cases this
    have calmless : ∀ {σ : L2.St} {H : Hp} {s : Shared}, Inv X pins σ H s → Inv (X.suite a (X.pn ++ pins)) [] σ H s := fun {σ H s} Y =>
      ⟨Y.ok.suite _ _, Y.os, Y.bare, Y.base, Y.loc, Y.cell, Y.free, Y.freeC, fun p hp => Y.pin p (by rw [List.append_nil] at hp; exact hp), Y.hok, Y.len⟩
    have back : ∀ {σ : L2.St} {H : Hp} {s : Shared}, Inv (X.suite a (X.pn ++ pins)) [] σ H s → Inv X pins σ H s := fun {σ H s} Y =>
      ⟨ok, Y.os, Y.bare, Y.base, Y.loc, Y.cell, Y.free, Y.freeC, fun p hp => Y.pin p (List.mem_append_left _ hp), Y.hok, Y.len⟩
    refine wpAny_handleBy_cons (codeAny_handlers_test ?_) (by intro q; cases q)
    have LT : PySem.W.Looks (model X.prog X.w) h3 (typeOf (.ref a)) cls := fun A' Q' E' s4 k q => wpAny_typeOf_ref (k _ _ e3) (by rw [z3.1]; exact q)
    have LM := PySem.W.exm_one (M := model X.prog X.w) I3.kIn LT exm
    have test : ∀ {Q : Value → Shared → Prop} {E : Value → Shared → Prop}, Q c { s' with heap := h3 } → wpAny (model X.prog X.w) (X.A.mark (some (.ref a))) (eval (.Name x np) X.env) Q E { s' with heap := h3 } := fun {Q E} q => by
      obtain ⟨gl, dbg, g | ⟨g, v, nn⟩⟩ := hc
      · exact ld_glob (X := X.suite a (X.pn ++ pins)) (calmless I3) gl g q dbg
      · exact ld_blt (X := X.suite a (X.pn ++ pins)) (calmless I3) gl g v q nn dbg
    refine test (LM.here ?_)
    cases b with
    | true =>
      refine codeAny_handlers_suite_as (HandSPX.lands_againZ fl3 fun h4 fl4 up4 => ?_)
      have I4 : Inv X pins σ' H' { s' with heap := h4 } := J.landed nb fl4.1 ((up.trans up3).trans up4) os ag
      obtain ⟨o4, v4, e4, z4, d4⟩ := fl4.there
      have I5 := adopt I4 e4 z4.1 z4.2 d4 na nL s0 po
      refine store_ok (X := X.suite a (X.pn ++ pins)) (v := .ref a) (calmless I5) hN hi lc rfl (fun s5 Y5 => ?_) (.inr hln)
      have li : i < σ'.length := by
        rw [J.len]
        exact (List.getElem?_eq_some_iff.mp hi).1
      have fin : ∀ {σ6 : L2.St} {H6 : Hp} {s6 : Shared} {Q : Shared → Prop}, Inv (X.suite a (X.pn ++ pins)) [] σ6 H6 s6 → (∀ s7, Inv X pins (σ6.set i none) H6 s7 → Q s7) →
          wpAny (model X.prog X.w) X.A (do bindName X.env n .none; unbindBehindTheSuite X.env n pos') (fun _ s7 => Q s7) X.xe s6 := fun {σ6 H6 s6 Q} Y q => gone_ok (back Y) hN hi hln q
      refine wpAny_mono ((pss_one (hv a (X.pn ++ pins))).run [] s5 _ _ { nx := fun σ1 H1 => D.nx (σ1.set i none) H1, rt := D.rt, bk := fun σ1 H1 => D.bk (σ1.set i none) H1, ct := fun σ1 H1 => D.ct (σ1.set i none) H1 } Y5 ⟨.ref a, List.getElem?_set_self li, yes rfl a na⟩) (fun fl s6 z => ?_) fun _ _ z => False.elim z
      cases fl with
      | next =>
        obtain ⟨σ6, H6, Y6, q6⟩ := z
        exact fin Y6 fun s7 J7 => ⟨_, _, J7, q6⟩
      | brk =>
        obtain ⟨σ6, H6, Y6, q6⟩ := z
        exact fin Y6 fun s7 J7 => ⟨_, _, J7, q6⟩
      | cont =>
        obtain ⟨σ6, H6, Y6, q6⟩ := z
        exact fin Y6 fun s7 J7 => ⟨_, _, J7, q6⟩
      | ret u =>
        obtain ⟨v6, σ6, H6, Y6, r6, q6⟩ := z
        exact fin Y6 fun s7 J7 => ⟨_, _, _, J7, r6, q6⟩
    | false =>
      show wpAny _ X.A (handleBy (.ref a) X.env []) _ _ _
      refine wpAny_handleBy_nil ?_
      obtain ⟨k1, k2, k3, oe, vs, T, oT, ts, he, hz, hd, h1, hr⟩ := id fl3
      unfold PySem.passOn
      refine wpAny_bind (wpAny_field he hd h1 ?_)
      rw [if_neg (show ¬ ((Value.ref T == Value.none) = true) from by simp)]
      have out : wpAny (model X.prog X.w) X.A (setFlight (.ref a) X.env.frame) (fun _ s4 => wpAny (model X.prog X.w) X.A (throw (.ref a) : Sem Flow) (SP X pins D) X.xe s4) X.xe { s' with heap := h3 } := by
        rw [hf]
        refine HandSPX.setFlight_upZ fl3 fun h4 hh4 up4 => wpAny_throw (tk _ _ ?_)
        exact ⟨a, G, sI, pins, σ', H', cls, d, rfl, J, nb, (up.trans up3).trans up4, .inr (.inr (by rw [hs]; exact hh4)), na, os, ag, no rfl⟩
      first
        | exact wpAny_bind (wpAny_pure (wpAny_bind out))
        | exact wpAny_bind out
end
end Gd

set_option Elab.async false
set_option linter.all false
set_option maxRecDepth 100000
set_option maxHeartbeats 4000000
set_option autoImplicit false
namespace Gd
open PySem PySem.Spec PyProof.Rows L2

/-! ### defs that may raise -/
structure DnX (P : Program) (w : World) (K : PySem.W.Frag) (mg : Str → Option Value) (base : Heap)
    (k : Nat) (x : Str) (st : Stmt) (ps : List Str) (sp : Sp) : Prop where
  ex : ∃ f fd, Fun K x x st f fd ∧ Binds K fd ps [] ∧ mg x = some (.ref f) ∧ FnOk P w K mg base (L2.CX P w) k f fd ps sp
theorem DnX.mk' {P : Program} {w : World} {K : PySem.W.Frag} {mg : Str → Option Value} {base : Heap} {x : Str} {st : Stmt} {ps : List Str} {k : Nat} {sp : Sp} (h : At K mg x st ps)
    (ok : ∀ f fd, Fun K x x st f fd → FnOk P w K mg base (L2.CX P w) k f fd ps sp) : DnX P w K mg base k x st ps sp := by
  obtain ⟨f, fd, F, b, g⟩ := h
  exact ⟨f, fd, F, b, g, ok f fd F⟩
/-- what a raise leaves -/
theorem mk_raise {K : PySem.W.Frag} {C : Addr} {H1 : Hp} {v : V} {Q : Value → Option Addr → Hp → Prop} {E : XK} (T : OexC K C) (n : PySem.W.findIn K (.ref C) "value" = some none)
    (q : ∀ d H', Same H1 H' → H1 d = none → H' d = some (.xd [("value", v)]) → Q (.ref C) (some d) H') :
    ∀ a, H1 a = none → spIni K (.ref a :: ([v] ++ [])) (upd H1 a (exo a C none))
      (fun u H2 => u = .non ∧ ∃ (d : Addr) (fs : List (Str × V)), H2 a = some (exo a C (some d)) ∧ H2 d = some (exd d fs) ∧ H1 d = none ∧ Q (.ref C) (some d) (upd (del H2 a) d (.xd fs))) E := by
  intro a na
  refine ⟨a, C, v, rfl, T, n, upd_same, fun dx nd ne => ⟨rfl, ?_⟩⟩
  have nd1 : H1 dx = none := by rw [upd_ne ne] at nd; exact nd
  refine ⟨dx, [("value", v)], upd_same, by rw [upd_ne ne, upd_same], nd1, q dx _ (fun b o e => ?_) nd1 upd_same⟩
  have ba : b ≠ a := ne_of_none e na
  have bd : b ≠ dx := ne_of_none e nd1
  rw [upd_ne bd, del_ne ba, upd_ne ba, upd_ne bd, upd_ne ba]
  exact e
section
variable {X : Cx} {W : WX} {x qual : Str} {st : Stmt} {ps : List Str} {sp : Sp} {k j : Nat} {e : Expr} {es : List Expr} {ta t : TA} {p pos pos2 : Pos} {C fI : Addr}
theorem pe_cX (tk : Takes X W) (D : DnX X.prog X.w X.K X.mg X.base k x st ps sp) (hr : Room j X.A) (hg : Gl X x) (ha : PA X (e :: es) t) (hk : k ≤ j := by decide)
    (hdb : (x == ("__debug__" : Str)) = false := by decide) (he : starEach (e :: es) X.env = (false, eval e X.env) :: starEach es X.env := by rfl)
    (hpl : (backTo pos (starEach es X.env)).any (·.1) = false := by rfl) :
    PE X (.Call (.Name x p) (e :: es) [] pos) (tCallS sp (WE W) t) := by
  obtain ⟨f, fd, F, b, g, ok⟩ := D.ex
  exact pe_callS ok (hr.mono hk) hg g F.kp b (fun σ => passAt tk σ) ha hdb he hpl
theorem ps_raiseE (hc : X.calm = true) (T : ExT X.K X.mg C fI x) (D : DnI X.prog X.w X.K X.mg X.base k fI qual st ps sp) (hr : Room j X.A) (tk : Takes X W) (hg : Gl X x) (ha : PA X (e :: es) ta) (hk : k + 1 ≤ j := by decide)
    (hdb : (x == ("__debug__" : Str)) = false := by decide) (he : starEach (e :: es) X.env = (false, eval e X.env) :: starEach es X.env := by rfl)
    (hpl : (backTo pos (starEach es X.env)).any (·.1) = false := by rfl) :
    PS X (.Raise (some (.Call (.Name x p) (e :: es) [] pos)) none pos2) (fun _ σ H => tMkO C sp [] ta σ H fun cls d H' => W cls d σ H') := by
  obtain ⟨fd, F, b, ok⟩ := D.ex
  exact ps_raise hc tk (pmk_oex T.ox T.iC T.tI ok (hr.mono hk) b .nil pass0 hg T.mg_ ha hdb he hpl)
end

/-! ### a kept exception -/
def ErrK (H : Hp) (C a : Addr) (v : V) : Prop := ∃ d, H a = some (Kept (.ref C) (some d) a) ∧ H d = some (.xd [("value", v)])
theorem ErrK.same {H H' : Hp} {C a : Addr} {v : V} (k : Same H H') (h : ErrK H C a v) : ErrK H' C a v := by
  obtain ⟨d, h1, h2⟩ := h
  exact ⟨d, k _ _ h1, k _ _ h2⟩
theorem errK_inst {X : Cx} {pins : List (Addr × Obj)} {σ : L2.St} {H : Hp} {s : Shared} {C a : Addr} {v : V} (I : Inv X pins σ H s) (h : ErrK H C a v) :
    ∃ (oe od : Obj) (u : Value), PySem.W.InstAt s.heap a oe C (some od) ∧ RelV v u ∧ PySem.W.lookIn "value" od = some (some u) := by
  obtain ⟨d, e1, e2⟩ := h
  obtain ⟨oe, vs, he, hc, hd, hf⟩ := kept_at I.hok e1
  have z : ObjOk X.prog X.w H s.heap d (.xd [("value", v)]) := I.hok d _ e2
  obtain ⟨mA, ns, rel⟩ := z
  obtain ⟨od, ho, hl⟩ := lookIn_ns ns
  have l : List.lookup ("value" : Str) [(("value" : Str), v)] = some v := by simp [List.lookup]
  obtain ⟨u, hu, ru⟩ := RelO.some_of (v := v) (o := mA "value") (by rw [← l]; exact rel "value")
  exact ⟨oe, od, u, ⟨he, hc, by unfold PySem.W.notCls; rw [hf] <;> rfl, by rw [hd]; exact ho⟩, ru, by rw [hl, hu]⟩
def tValK (ta : TE) (S : Addr → Prop) : TE := fun σ H Q => ta σ H fun x H1 => ∃ a c v, x = .ref a ∧ S c ∧ ErrK H1 c a v ∧ Q v H1
theorem pe_valK {X : Cx} {e : Expr} {te : TE} {pos : Pos} {S : Addr → Prop} (T : ∀ c, S c → ∃ fI x, ExT X.K X.mg c fI x) (he : PE X e te) (hb : attributeBase e "value" X.env (eval e X.env) = eval e X.env := by rfl) :
    PE X (.Attribute e "value" pos) (tValK te S) := by
  refine ⟨fun pins s σ H Q I h => ?_⟩
  refine attr_of hb (thn (he.run pins s σ H _ I h) fun u s1 got => ?_)
  obtain ⟨x, H1, I1, rx, a, c, v, ex, sc, ea, q⟩ := got
  subst ex
  obtain rfl : u = Value.ref a := rx
  obtain ⟨fI, y, T⟩ := T c sc
  obtain ⟨oe, od, w, J, ru, hl⟩ := errK_inst I1 ea
  exact HandSPX.exc_get I1.kIn J T.hg T.hk T.ox.exC (PySem.W.findObj_own T.hd T.nV rfl hl) (handed_of ru) ⟨v, H1, I1.tok _, ru, q⟩
def rIsXK (K : PySem.W.Frag) (S : Addr → Prop) : List V → Hp → VK → Prop := fun xs H Q => ∃ (a C : Addr) (v c : V) (cv : Value) (b : Bool), xs = [.ref a, c] ∧ S C ∧ ErrK H C a v ∧ (∀ u, RelV c u → u = cv) ∧ PySem.W.kitOne K (.ref C) cv = some b ∧ Q (.bl b) H
theorem call_isXK {X : Cx} {S : Addr → Prop} (T : ∀ c, S c → ∃ fI x, ExT X.K X.mg c fI x) : CallR X (.builtin "isinstance") (rIsXK X.K S) := by
  intro pins s σ H xs us Q I r h
  obtain ⟨a, C, v, c, cv, b, rfl, sc, ea, hcv, e, q⟩ := h
  obtain ⟨u1, u2, rfl, r1, r2⟩ := vals2 r
  cases (show u1 = Value.ref a from r1)
  have ec := hcv _ r2
  subst ec
  obtain ⟨fI, y, T⟩ := T C sc
  obtain ⟨oe, od, w, J, _⟩ := errK_inst I ea
  exact PySem.W.kia_one (err_kit T) I.kIn ⟨_, _, J⟩ e (fun z => nomatch z) fun tk => ⟨.bl b, H, I.tok tk, rfl, q⟩
/-- isinstance(e, (C, ..)) -/
def rIsXT (K : PySem.W.Frag) (S : Addr → Prop) : List V → Hp → VK → Prop := fun xs H Q => ∃ (a C tp : Addr) (v : V) (cs : List V) (us : List Value) (b : Bool), xs = [.ref a, .ref tp] ∧ S C ∧ ErrK H C a v ∧ H tp = some (.tup cs) ∧
  (∀ ws, Vals cs ws → ws = us) ∧ PySem.W.kitAny K (.ref C) us = some b ∧ Q (.bl b) H
theorem call_isXT {X : Cx} {S : Addr → Prop} (T : ∀ c, S c → ∃ fI x, ExT X.K X.mg c fI x) : CallR X (.builtin "isinstance") (rIsXT X.K S) := by
  intro pins s σ H xs us Q I r h
  obtain ⟨a, C, tp, v, cs, ws, b, rfl, sc, ea, ht, hcs, e, q⟩ := h
  obtain ⟨u1, u2, rfl, r1, r2⟩ := vals2 r
  cases (show u1 = Value.ref a from r1)
  cases (show u2 = Value.ref tp from r2)
  obtain ⟨fI, y, T⟩ := T C sc
  obtain ⟨oe, od, w, J, _⟩ := errK_inst I ea
  obtain ⟨_, its, rv, o, h1, h2, n, h3⟩ := (show ObjOk X.prog X.w H s.heap tp (.tup cs) from I.hok tp _ ht)
  have e3 := hcs _ rv
  subst e3
  obtain ⟨oc, od2, dt, sl⟩ := o
  simp only at h2 h3
  subst h2 h3
  exact PySem.W.kia_tup (err_kit T) I.kIn ⟨_, _, J⟩ h1 e (fun z => nomatch z) fun tk => ⟨.bl b, H, I.tok tk, rfl, q⟩
theorem vals_refs : ∀ {cs : List Addr} {ws : List Value}, Vals (cs.map V.ref) ws → ws = cs.map Value.ref
  | [], _, .nil => rfl
  | c :: cs, _, .cons a b => by
    cases (show _ = Value.ref c from a)
    rw [vals_refs b]
    rfl
end Gd

set_option Elab.async false
set_option linter.all false
set_option maxRecDepth 100000
set_option maxHeartbeats 4000000
set_option autoImplicit false
namespace Gd
open PySem PySem.Spec PyProof.Rows L2

/-! ### the end of a list's walk where an exception is handled -/
theorem next_list_endH {prog : Program} {w : World} {A : Around} {E : Value → Shared → Prop} {s : Shared} {it l x1 : Addr} {i : Nat} {items : Array Value} {Q : Option Value → Shared → Prop}
    (hot : HotX.HotAt A x1 s.heap) (ne : x1 ≠ it) (hit : s.heap.IsListIter it l i) (hl : s.heap.IsList l items) (hx : items[i]? = none)
    (hQ : ∀ h', Heap.ExtBut it s.heap h' → Q none { heap := h', gens := s.gens, drawn := s.drawn, toks := s.toks, os := s.os }) :
    wpAny (model prog w) A (pyNext (.ref it)) Q E s := by
  obtain ⟨o, ho, hc, hd⟩ := id hit
  obtain ⟨ol, hol, hcl, nl, hdl⟩ := id hl
  obtain ⟨hh, o1, vs1, h1, d1, c1⟩ := hot
  unfold pyNext
  refine wpAny_bind (wpAny_attempt (wpAny_callSpecial?_slot (Heap.IsListIter.typeIs hit) slot_listiter_next (wpAny_call_entry slot_listiter_next (Heap.IsListIter.typeIs hit) entry_listiter_next ?_)))
  refine wpAny_bind (wpAny_of_eq rfl (wpAny_bind (wpAny_field ho hd rfl ?_)))
  dsimp only
  rw [if_neg (by simp)]
  refine wpAny_bind (wpAny_field ho hd rfl ?_)
  refine wpAny_bind (wpAny_seqItems hol hdl ?_)
  dsimp only
  rw [show ((i : Int).toNat) = i from rfl, hx]
  dsimp only
  refine wpAny_bind (wpAny_rule (wpAny_bind (wpAny_setField ho hd (by simp) ?_)))
  have k1 : (s.heap.update it (Obj.mapFields fun x => x.setIfInBounds 0 .none)).get? x1 = some o1 := by
    rw [Heap.get?_update_other _ _ ne.symm]
    exact h1
  refine wpAny_bind (wpAny_bind (wpAny_newObj_type (wpAny_bind (wpAny_of_eq (Eq.refl (firstArgMember (.type "StopIteration") [])) (wpAny_newObj_type ?_)))))
  have get2 := Heap.get?_push_size (((s.heap.update it (Obj.mapFields fun x => x.setIfInBounds 0 .none)).push { cls := .type "tuple", data := .seq #[] }))
    (o := { cls := .type "StopIteration", data := .fields (#[.ref (s.heap.update it (Obj.mapFields fun x => x.setIfInBounds 0 .none)).objs.size, .none, .none, .none, .bool false, .none] ++ ownMembersOf (.type "StopIteration") []) }) rfl
  have k2 := Heap.get?_push_of_some { cls := .type "tuple", data := .seq #[] } k1
  refine HotX.raiseNew_hot ⟨hh, o1, vs1, Heap.get?_push_of_some _ k2, d1, c1⟩ (Nat.ne_of_lt (Heap.lt_size k2)) get2 rfl (by simp; omega) ?_
  refine wpAny_bind (wpAny_isInstance (T := "StopIteration") ⟨_, Heap.get?_update_self _ get2 rfl, rfl⟩ isSubtype_stop ?_)
  refine wpAny_pure (hQ _ fun b ob nb eb => ?_)
  have nb2 := Heap.lt_size (Heap.get?_push_of_some { cls := .type "tuple", data := .seq #[] } ((Heap.get?_update_other s.heap (Obj.mapFields fun x => x.setIfInBounds 0 .none) nb.symm).trans eb))
  show Heap.get? _ b = some ob
  rw [Heap.get?_update_other _ _ (Nat.ne_of_lt nb2).symm]
  exact Heap.get?_push_of_some _ (Heap.get?_push_of_some _ ((Heap.get?_update_other _ _ nb.symm).trans eb))
/-! ### the end of a tuple's walk, and a tuple unpacked, there -/
theorem next_tuple_endH {prog : Program} {w : World} {A : Around} {E : Value → Shared → Prop} {s : Shared} {it l x1 : Addr} {i : Nat} {items : Array Value} {Q : Option Value → Shared → Prop}
    (hot : HotX.HotAt A x1 s.heap) (ne : x1 ≠ it) (hit : s.heap.IsTupleIter it l i) (hl : IsTup s.heap l items) (hx : items[i]? = none)
    (hQ : ∀ h', Heap.ExtBut it s.heap h' → Q none { heap := h', gens := s.gens, drawn := s.drawn, toks := s.toks, os := s.os }) :
    wpAny (model prog w) A (pyNext (.ref it)) Q E s := by
  obtain ⟨o, ho, hc, hd⟩ := id hit
  obtain ⟨ol, hol, hcl, nl, hdl⟩ := id hl
  obtain ⟨hh, o1, vs1, h1, d1, c1⟩ := hot
  unfold pyNext
  refine wpAny_bind (wpAny_attempt (wpAny_callSpecial?_slot (Heap.IsTupleIter.typeIs hit) F.slot_tuple_iterator_next (wpAny_call_entry F.slot_tuple_iterator_next (Heap.IsTupleIter.typeIs hit) F.entry_tuple_iterator_next ?_)))
  refine wpAny_bind (wpAny_of_eq rfl (wpAny_bind (wpAny_field ho hd rfl ?_)))
  dsimp only
  rw [if_neg (by simp)]
  refine wpAny_bind (wpAny_field ho hd rfl ?_)
  refine wpAny_bind (wpAny_seqItems hol hdl ?_)
  dsimp only
  rw [show ((i : Int).toNat) = i from rfl, hx]
  dsimp only
  refine wpAny_bind (wpAny_rule (wpAny_bind (wpAny_setField ho hd (by simp) ?_)))
  have k1 : (s.heap.update it (Obj.mapFields fun x => x.setIfInBounds 0 .none)).get? x1 = some o1 := by
    rw [Heap.get?_update_other _ _ ne.symm]
    exact h1
  refine wpAny_bind (wpAny_bind (wpAny_newObj_type (wpAny_bind (wpAny_of_eq (Eq.refl (firstArgMember (.type "StopIteration") [])) (wpAny_newObj_type ?_)))))
  have get2 := Heap.get?_push_size (((s.heap.update it (Obj.mapFields fun x => x.setIfInBounds 0 .none)).push { cls := .type "tuple", data := .seq #[] }))
    (o := { cls := .type "StopIteration", data := .fields (#[.ref (s.heap.update it (Obj.mapFields fun x => x.setIfInBounds 0 .none)).objs.size, .none, .none, .none, .bool false, .none] ++ ownMembersOf (.type "StopIteration") []) }) rfl
  have k2 := Heap.get?_push_of_some { cls := .type "tuple", data := .seq #[] } k1
  refine HotX.raiseNew_hot ⟨hh, o1, vs1, Heap.get?_push_of_some _ k2, d1, c1⟩ (Nat.ne_of_lt (Heap.lt_size k2)) get2 rfl (by simp; omega) ?_
  refine wpAny_bind (wpAny_isInstance (T := "StopIteration") ⟨_, Heap.get?_update_self _ get2 rfl, rfl⟩ isSubtype_stop ?_)
  refine wpAny_pure (hQ _ fun b ob nb eb => ?_)
  have nb2 := Heap.lt_size (Heap.get?_push_of_some { cls := .type "tuple", data := .seq #[] } ((Heap.get?_update_other s.heap (Obj.mapFields fun x => x.setIfInBounds 0 .none) nb.symm).trans eb))
  show Heap.get? _ b = some ob
  rw [Heap.get?_update_other _ _ (Nat.ne_of_lt nb2).symm]
  exact Heap.get?_push_of_some _ (Heap.get?_push_of_some _ ((Heap.get?_update_other _ _ nb.symm).trans eb))

theorem unpackItemsH {prog : Program} {w : World} {A : Around} {E : Value → Shared → Prop} {s : Shared} {t x1 : Addr} {items : Array Value} {Q : List Value → Shared → Prop}
    (hot : HotX.HotAt A x1 s.heap) (ht : IsTup s.heap t items)
    (hQ : ∀ h', Heap.ExtBut s.heap.objs.size s.heap h' → Q items.toList { heap := h', gens := s.gens, drawn := s.drawn, toks := s.toks, os := s.os }) :
    wpAny (model prog w) A (unpackItems (.ref t) items.size none) Q E s := by
  obtain ⟨hh, o1, vs1, h1, d1, c1⟩ := hot
  have lx : x1 < s.heap.objs.size := Heap.lt_size h1
  have hlt : t ≠ s.heap.objs.size := by
    obtain ⟨o, ho, _⟩ := ht
    exact Nat.ne_of_lt (Heap.lt_size ho)
  unfold unpackItems notIterableAtAll
  refine wpAny_bind (wpAny_bind (wpAny_specialOf (IsTup.typeIs ht) slot_tuple_iter.lookup (wpAny_pure ?_)))
  dsimp only
  rw [if_neg (by simp)]
  refine wpAny_bind (wpAny_holding (iter_tuple ht (wpAny_bind (wpAny_holding (draw_tuple hlt items.size 0 _ _ ⟨_, Heap.get?_push_size s.heap rfl, rfl, rfl⟩ (IsTup.push ht _) (by omega) fun h2 hit2 hs2 => ?_)))))
  have hall : List.take items.size (List.drop 0 items.toList) = items.toList := by
    rw [List.drop_zero]
    exact List.take_of_length_le (by simp)
  rw [hall, if_neg (by simp)]
  have g2 : ∀ b ob, s.heap.get? b = some ob → h2.get? b = some ob := fun b ob e => by
    have nb : b ≠ s.heap.objs.size := Nat.ne_of_lt (Heap.lt_size e)
    rw [hs2.2 b nb]
    exact Heap.get?_push_of_some _ e
  refine wpAny_bind (wpAny_holding (next_tuple_endH (x1 := x1) ⟨hh, o1, vs1, g2 _ _ h1, d1, c1⟩ (Nat.ne_of_lt lx) hit2 (IsTup.extBut (IsTup.push ht _) hs2.extBut hlt) (by simp) fun h3 e3 => ?_))
  exact wpAny_pure (hQ _ fun b ob nb e => e3 b ob nb (g2 b ob e))
theorem pg_tupH {X : Cx} {pos : Pos} {es : List Expr} {k : Nat} {t : TGs} {n : Nat} (hot : ∀ pins s σ H, Inv X pins σ H s → ∃ x1, HotX.HotAt X.A x1 s.heap) (h : PGs X es t)
    (hn : (assignEach es X.env).length = n := by rfl) (hp : List.findIdx? (fun x => x.1) (assignEach es X.env) = none := by rfl) : PG X (.Tuple es k pos) (gTup X.K n t) := by
  refine ⟨fun pins s σ H v u Q I r q => ?_⟩
  obtain ⟨a, xs, rfl, sq, ln, q⟩ := q
  cases (show u = Value.ref a from r)
  obtain ⟨its, rv, tp, sz⟩ := I.tuple sq
  obtain ⟨x1, hx⟩ := hot _ _ _ _ I
  have sx : its.toArray.size = n := by rw [List.size_toArray, ← ln]; exact (Paired.length rv).symm
  rw [assign_Tuple]
  refine wpAny_bind (wpAny_standAt ?_)
  unfold unpack
  rw [hp, hn, ← sx]
  refine wpAny_bind (wpAny_holding (unpackItemsH hx tp fun h' e => ?_))
  refine h.run pins _ σ H xs its Q ?_ rv q
  exact I.kept fun b ob e2 => e b ob (Nat.ne_of_lt (Heap.lt_size e2)) e2
end Gd

set_option Elab.async false
set_option linter.all false
set_option maxRecDepth 100000
set_option maxHeartbeats 4000000
set_option autoImplicit false
namespace Gd
open PySem PySem.Spec PyProof.Rows L2

/-! ### a list comprehension over a list where an exception is handled -/
theorem lc_coreH {X : Cx} {p : Addr × Obj} {pins : List (Addr × Obj)} {s : Shared} {σ : L2.St} {H : Hp} {Q : VK} {elt tg iter : Expr} {ifs : List Expr} {scope : Scope} {own : List (Str × Nat)} {pos pos' : Pos} {ti : TE} {g : TG} {tt : TT} {te : TE}
    {use : Option (Value → Sem Unit)} {Qf : Value → Shared → Prop}
    (h1 : L2H.Hot1 X.A p) (hp : p ∈ X.pn) (hN : X.N.Nodup) (I : Inv X pins σ H s) (hi : PE X iter ti) (ok : BlkOk X.N X.env.scope scope own)
    (hg : ∀ (s : Shared) (H : Hp) (C : Addr) (cl : List (Str × Addr)) (fp : List Addr),
      (∀ pins s' σ H', Inv (X.blk s H scope (compEnvC scope cl C X.env) fp) pins σ H' s' → ∃ x1, HotX.HotAt X.A x1 s'.heap) → PG (X.blk s H scope (compEnvC scope cl C X.env) fp) tg g)
    (ht : ∀ (s : Shared) (H : Hp) (C : Addr) (cl : List (Str × Addr)) (fp : List Addr), PTs (X.blk s H scope (compEnvC scope cl C X.env) fp) ifs tt)
    (he : ∀ (s : Shared) (H : Hp) (C : Addr) (cl : List (Str × Addr)) (fp : List Addr), PE (X.blk s H scope (compEnvC scope cl C X.env) fp) elt te)
    (hs : ∀ x, foldedSetIterable iter X.env x = pure x) (h : tLc (iList X.K ti) g tt te (own.map (·.2)) σ H Q)
    (hRR : ∀ (D C : Addr) (s' : Shared) (m : Str → Option Value) (H' : Hp), Inv X pins σ H' s' → Q (V.ref D) H' → s'.heap.Ns C m → FpOk X pins H' C → compPost (model X.prog X.w) X.A X.xe use Qf (.ref D) C (.ok .next) s') :
    wpAny (model X.prog X.w) X.A (comprehension (elt.ListComp [{ target := tg, iter := iter, ifs := ifs, is_async := 0 }] scope pos) scope X.env pos' (newList []) false (eval iter X.env) use) Qf X.xe s := by
  have hfree : ∀ y ∈ scope.names, y.2 = .free → ∃ c, X.env.cells.lookup y.1 = some c := fun y hy e => (ok.free y hy e).elim (fun k => I.ok.has y.1 (.inl k)) (fun k => I.ok.has y.1 (.inr k))
  refine wpAny_comprehension_free (cl := cloFrom X.env.cells scope.names []) rfl hs (closure_ok hfree) ok.kind (fun y hy e => by rw [ok.uniq y hy, e]) ?_
  refine thn (hi.run pins s σ H _ I h) fun u s1 got => ?_
  obtain ⟨xv, H1, I1, rx, a, rfl, ⟨xs0, sq0⟩, q⟩ := got
  cases (show u = Value.ref a from rx)
  obtain ⟨its0, rv0, pl0, sz0⟩ := I1.list sq0
  obtain ⟨gp, hpn, pL, pfs, pnc⟩ := I1.pin p (List.mem_append_left _ hp)
  refine wpAny_pyIter_list pl0.isList ?_
  have pit : p.1 < s1.heap.objs.size := Heap.lt_size gp
  have nit : H1 s1.heap.objs.size = none := I1.hok.fresh (Nat.le_refl _)
  have I2 := I1.kept (t' := s1.toks) (h' := s1.heap.push { cls := .type "list_iterator", data := .fields #[.ref a, .int 0 0] }) fun b o e => Heap.get?_push_of_some _ e
  have fp1 : ∀ H', H' s1.heap.objs.size = none → FpOk X pins H' s1.heap.objs.size := fun H' e => Inv.fpOk I1 (Nat.le_refl _) e
  have li2 : (s1.heap.push { cls := .type "list_iterator", data := .fields #[.ref a, .int 0 0] }).IsListIter s1.heap.objs.size a 0 := ⟨_, Heap.get?_push_size _ rfl, rfl, rfl⟩
  have sz2 : s1.heap.objs.size < (s1.heap.push { cls := .type "list_iterator", data := .fields #[.ref a, .int 0 0] }).objs.size := by rw [Heap.size_push]; exact Nat.lt_succ_self _
  have gp2 : (s1.heap.push { cls := .type "list_iterator", data := .fields #[.ref a, .int 0 0] }).get? p.1 = some p.2 := Heap.get?_push_of_some _ gp
  generalize hit : s1.heap.objs.size = it at *
  generalize hh2 : s1.heap.push { cls := .type "list_iterator", data := .fields #[.ref a, .int 0 0] } = h2 at *
  refine wpAny_newObj_type (newEnv_comp ?_)
  have hDn : H1 h2.objs.size = none := I2.hok.fresh (Nat.le_refl _)
  obtain ⟨W, ⟨m0, w0⟩, turn⟩ := q h2.objs.size hDn
  have I3 := I2.laid (t' := s1.toks) (h' := h2.push { cls := .type "list", data := .seq #[] }) (a := h2.objs.size) (o := .lst []) (fun b o e => Heap.get?_push_of_some _ e) (Nat.le_refl _)
    ⟨Nat.zero_le _, [], 0, .nil, Heap.get?_push_size _ rfl⟩
  have itD : it ≠ h2.objs.size := Nat.ne_of_lt sz2
  have f3 : ∀ b ∈ [it], FpOk X pins (upd H1 h2.objs.size (.lst [])) b ∧ b < (h2.push { cls := .type "list", data := .seq #[] }).objs.size := fun b hb => by
    obtain rfl : b = it := by simpa using hb
    refine ⟨fp1 _ (by rw [upd_ne itD]; exact nit), ?_⟩
    rw [Heap.size_push]
    exact Nat.lt_succ_of_lt sz2
  have I4 := block_start I3 ok hN f3
  have gp3 : (h2.push { cls := .type "list", data := .seq #[] }).get? p.1 = some p.2 := Heap.get?_push_of_some _ gp2
  have li3 : (h2.push { cls := .type "list", data := .seq #[] }).IsListIter it a 0 := by
    obtain ⟨o, e, r⟩ := li2
    exact ⟨o, Heap.get?_push_of_some _ e, r⟩
  have pD : p.1 ≠ h2.objs.size := Nat.ne_of_lt (Heap.lt_size gp2)
  have pst : p.1 ∉ frs X.stack := by
    rcases I.ok.stk with e | ⟨e, f⟩
    · rw [e]; exact pfs
    · rw [e]
      intro m
      rcases List.mem_filterMap.mp m with ⟨en, me, ee⟩
      rcases List.mem_cons.mp me with rfl | me
      · rw [f] at ee
        exact pL (Option.some.inj ee).symm
      · exact pfs (List.mem_filterMap.mpr ⟨en, me, ee⟩)
  have h3p : upd H1 h2.objs.size (.lst []) p.1 = none := by rw [upd_ne pD]; exact hpn
  have itp : p.1 ≠ it := Nat.ne_of_lt pit
  have nCx : ∀ H', H' (h2.push { cls := .type "list", data := .seq #[] }).objs.size = none → FpOk X pins H' (h2.push { cls := .type "list", data := .seq #[] }).objs.size := fun H' e => Inv.fpOk I3 (Nat.le_refl _) e
  generalize hD : h2.objs.size = D at *
  generalize hh3 : h2.push { cls := .type "list", data := .seq #[] } = h3 at *
  have f3' := fun b hb => (f3 b hb).1
  have st4 : (pushCells (h3.push { cls := .type "dict", data := .dict #[] }) scope.names).IsListIter it a 0 := by
    obtain ⟨o, e, r⟩ := li3
    exact ⟨o, pushCells_keeps _ _ _ _ (Heap.get?_push_of_some _ e), r⟩
  have hotB : ∀ pins' s' σ' H', Inv (X.blk { heap := h3, gens := s1.gens, drawn := s1.drawn, toks := s1.toks, os := s1.os } (upd H1 D (.lst [])) scope (compEnvC scope (cellsFrom (h3.objs.size + 1) scope.names (cloFrom X.env.cells scope.names [])) h3.objs.size X.env) [it]) pins' σ' H' s' → HotX.HotAt X.A p.1 s'.heap := fun pins' s' σ' H' J => by
    obtain ⟨hh, vs, e1, c1⟩ := h1
    refine ⟨hh, p.2, vs, J.base.keep p.1 p.2 gp3 h3p pst ?_, e1, c1⟩
    simpa using itp
  have pg := hg { heap := h3, gens := s1.gens, drawn := s1.drawn, toks := s1.toks, os := s1.os } (upd H1 D (.lst [])) h3.objs.size (cellsFrom (h3.objs.size + 1) scope.names (cloFrom X.env.cells scope.names [])) [it] (fun _ _ _ _ J => ⟨_, hotB _ _ _ _ J⟩)
  have pt := ht { heap := h3, gens := s1.gens, drawn := s1.drawn, toks := s1.toks, os := s1.os } (upd H1 D (.lst [])) h3.objs.size (cellsFrom (h3.objs.size + 1) scope.names (cloFrom X.env.cells scope.names [])) [it]
  have pe := he { heap := h3, gens := s1.gens, drawn := s1.drawn, toks := s1.toks, os := s1.os } (upd H1 D (.lst [])) h3.objs.size (cellsFrom (h3.objs.size + 1) scope.names (cloFrom X.env.cells scope.names [])) [it]
  generalize hcl : cellsFrom (h3.objs.size + 1) scope.names (cloFrom X.env.cells scope.names []) = cl at *
  have loop := compLoop_any (prog := X.prog) (w := X.w) (A := X.A) (elt := elt) (target := tg) (iter := iter) (ifs := ifs) (scope := scope) (pos := pos) (it := .ref it) (acc := .ref D) (env := compEnvC scope cl h3.objs.size X.env)
    (R := compPost (model X.prog X.w) X.A X.xe use Qf (.ref D) h3.objs.size)
    (fun n s' => ∃ i H', Inv (X.blk { heap := h3, gens := s1.gens, drawn := s1.drawn, toks := s1.toks, os := s1.os } (upd H1 D (.lst [])) scope (compEnvC scope cl h3.objs.size X.env) [it]) [] (wipe σ (own.map (·.2))) H' s' ∧ s'.heap.IsListIter it a i ∧ H' it = none ∧ W i n H') ?step m0
    ⟨0, _, I4, st4, by rw [upd_ne itD]; exact nit, w0⟩
  · refine codeAny_compStart_list loop (wpAny_pyIter_listiter st4 loop)
  · rintro n s5 ⟨i, H5, I5, st5, n5, w5⟩
    have exI : ∀ {b}, b ∈ [it] → b = it := fun {b} hb => by simpa using hb
    have itL : it ≠ (compEnvC scope cl h3.objs.size X.env).locals := (I5.ok.exf it (by simp)).1
    have itC : ∀ (x : Str) (c : Addr), (compEnvC scope cl h3.objs.size X.env).cells.lookup x = some c → c ≠ it := (I5.ok.exf it (by simp)).2
    rcases turn i n H5 w5 with ⟨stop, qq⟩ | ⟨go, Nx, hNx, step⟩
    · obtain ⟨xs, sq, le⟩ := stop
      obtain ⟨its, rv, pl, sz⟩ := I5.list sq
      refine next_list_endH (hotB _ _ _ _ I5) itp st5 pl.isList (by simp; rw [← Paired.length rv]; exact le) fun h' eb => ?_
      have I6 := I5.turned (t' := s5.toks) (h' := h') (it := it) eb n5 itL (.inl (by simp)) itC (fun q hq => by simp at hq)
      have I7 := Inv.call' I3 I6.os I6.base I6.hok I6.bare (fun b hb => by
        have F := f3' b hb
        exact ⟨F.2.2.2.1, F.2.1, F.2.2.2.2.1, F.2.2.2.2.2⟩)
      obtain ⟨m, hn, _⟩ := I6.loc
      have nC : H5 h3.objs.size = none := I6.free
      exact hRR D h3.objs.size _ m H5 I7 qq hn (nCx H5 nC)
    · obtain ⟨xs, x, sq, ex⟩ := go
      obtain ⟨its, rv, pl, sz⟩ := I5.list sq
      obtain ⟨u, eu, ru⟩ := rv.get ex
      refine wpAny_pyNext_list_item st5 pl.isList (x := u) (by simpa using eu) fun h' it' sb => ?_
      have I6 := I5.turned (t' := s5.toks) (h' := h') (it := it) (fun b o nb e => (sb.2 b nb).trans e) n5 itL (.inl (by simp)) itC (fun q hq => by simp at hq)
      obtain ⟨o6, g6, c6, d6⟩ := id it'
      dsimp only
      refine go_of (n := "list_iterator") (vs := #[.ref a, .int ((i + 1 : Nat) : Int) 0]) g6 c6 d6 (by decide) ?_
      have d0 := step x H5 ⟨rfl, fun xs' sq' => by rw [I5.list_inj sq' sq]; exact ex⟩
      have I7 := I6.pinned (fp := [it]) (fun b hb => by
        obtain rfl := exI hb
        exact ⟨n5, itL, I5.ok.exfs b (by simp), .inl (by simp), itC, fun q hq => by simp at hq⟩) (fun b hb => by
        obtain rfl := exI hb
        exact ⟨o6, g6, fun v z => by rw [d6] at z; cases z⟩)
      refine thnF (pg.run _ _ _ _ x u _ I7 ru d0) fun _ s8 got8 => ?_
      obtain ⟨σ2, H8, I8, wz, q8⟩ := got8
      have fin : ∀ s' H', Inv (X.blk { heap := h3, gens := s1.gens, drawn := s1.drawn, toks := s1.toks, os := s1.os } (upd H1 D (.lst [])) scope (compEnvC scope cl h3.objs.size X.env) [it]) ([] ++ pinsAt [it] h') σ2 H' s' → Nx H' →
          ∃ m, m < n ∧ ∃ i H', Inv (X.blk { heap := h3, gens := s1.gens, drawn := s1.drawn, toks := s1.toks, os := s1.os } (upd H1 D (.lst [])) scope (compEnvC scope cl h3.objs.size X.env) [it]) [] (wipe σ (own.map (·.2))) H' s' ∧ s'.heap.IsListIter it a i ∧ H' it = none ∧ W i m H' := fun s' H' J nx => by
        obtain ⟨m', lt, w'⟩ := hNx _ nx
        obtain ⟨g7, n7, _⟩ := J.pin (it, o6) (List.mem_append_right _ (List.mem_append_right _ (mem_pinsAt (by simp) g6)))
        refine ⟨m', lt, i + 1, H', (Inv.unpinned J).weak ?_ (fun k v e => ?_), ⟨o6, g7, c6, d6⟩, n7, w'⟩
        · rw [← wz, wipe_length]
        · rw [← wz] at e
          exact (wipe_some e).1
      refine thnF (pt.run _ _ _ _ _ I8 q8) fun b s9 got9 => ?_
      obtain ⟨H9, I9, q9⟩ := got9
      cases b with
      | false => exact fin _ _ I9 q9
      | true =>
        refine thnF (pe.run _ _ _ _ _ I9 q9) fun y s10 got10 => ?_
        obtain ⟨yv, H10, I10, ry, acc, eD, szA, nx⟩ := got10
        exact app_ok (X := X.blk { heap := h3, gens := s1.gens, drawn := s1.drawn, toks := s1.toks, os := s1.os } (upd H1 D (.lst [])) scope (compEnvC scope cl h3.objs.size X.env) [it]) I10 eD szA ry fun s11 I11 => fin _ _ I11 nx
theorem pe_lcH {X : Cx} {p : Addr × Obj} {elt tg iter : Expr} {ifs : List Expr} {scope : Scope} {own : List (Str × Nat)} {pos : Pos} {ti : TE} {g : TG} {tt : TT} {te : TE}
    (h1 : L2H.Hot1 X.A p) (hp : p ∈ X.pn) (hN : X.N.Nodup) (hi : PE X iter ti) (ok : BlkOk X.N X.env.scope scope own)
    (hg : ∀ (s : Shared) (H : Hp) (C : Addr) (cl : List (Str × Addr)) (fp : List Addr),
      (∀ pins s' σ H', Inv (X.blk s H scope (compEnvC scope cl C X.env) fp) pins σ H' s' → ∃ x1, HotX.HotAt X.A x1 s'.heap) → PG (X.blk s H scope (compEnvC scope cl C X.env) fp) tg g)
    (ht : ∀ (s : Shared) (H : Hp) (C : Addr) (cl : List (Str × Addr)) (fp : List Addr), PTs (X.blk s H scope (compEnvC scope cl C X.env) fp) ifs tt)
    (he : ∀ (s : Shared) (H : Hp) (C : Addr) (cl : List (Str × Addr)) (fp : List Addr), PE (X.blk s H scope (compEnvC scope cl C X.env) fp) elt te)
    (hs : ∀ x, foldedSetIterable iter X.env x = pure x := by intro x; rfl) :
    PE X (.ListComp elt [{ target := tg, iter := iter, ifs := ifs, is_async := 0 }] scope pos) (tLc (iList X.K ti) g tt te (own.map (·.2))) := by
  refine ⟨fun pins s σ H Q I h => ?_⟩
  rw [eval_ListComp]
  refine lc_coreH h1 hp hN I hi ok hg ht he hs h fun D C s' m H' I' q hn f => ⟨m, hn, fun h'' sb => ?_⟩
  exact ⟨.ref D, H', I'.turned (fun b o nb e => (sb.2 b nb).trans e) f.1 f.2.1 f.2.2.2.1 f.2.2.2.2.1 f.2.2.2.2.2, rfl, q⟩
theorem ps_setLcH {X : Cx} {p : Addr × Obj} {i : Nat} {y : Str} {py : Pos} {elt tg iter : Expr} {ifs : List Expr} {scope : Scope} {own : List (Str × Nat)} {pos spos : Pos} {ti : TE} {g : TG} {tt : TT} {te : TE}
    (h1 : L2H.Hot1 X.A p) (hp : p ∈ X.pn) (hN : X.N.Nodup) (hy : X.N[i]? = some y) (hyl : X.env.scope.names.lookup y = some .local)
    (hsw : swapsWith (elt.ListComp [{ target := tg, iter := iter, ifs := ifs, is_async := 0 }] scope pos) (some (.Name y py)) spos.line X.env = pure true) (hi : PE X iter ti) (ok : BlkOk X.N X.env.scope scope own)
    (hg : ∀ (s : Shared) (H : Hp) (C : Addr) (cl : List (Str × Addr)) (fp : List Addr),
      (∀ pins s' σ H', Inv (X.blk s H scope (compEnvC scope cl C X.env) fp) pins σ H' s' → ∃ x1, HotX.HotAt X.A x1 s'.heap) → PG (X.blk s H scope (compEnvC scope cl C X.env) fp) tg g)
    (ht : ∀ (s : Shared) (H : Hp) (C : Addr) (cl : List (Str × Addr)) (fp : List Addr), PTs (X.blk s H scope (compEnvC scope cl C X.env) fp) ifs tt)
    (he : ∀ (s : Shared) (H : Hp) (C : Addr) (cl : List (Str × Addr)) (fp : List Addr), PE (X.blk s H scope (compEnvC scope cl C X.env) fp) elt te)
    (hs : ∀ x, foldedSetIterable iter X.env x = pure x := by intro x; rfl) :
    PS X (.Assign [.Name y py] (elt.ListComp [{ target := tg, iter := iter, ifs := ifs, is_async := 0 }] scope pos) spos) (tAsg (tLc (iList X.K ti) g tt te (own.map (·.2))) (gName i)) := by
  refine ⟨fun pins s σ H D I h => ?_⟩
  rw [exec_Assign_Name_used y py _ spos hsw]
  refine wpAny_bind (wpAny_standAt (wpAny_bind (wpAny_bind (thn (lc_coreH h1 hp hN I hi ok hg ht he hs h fun L C s' m H' I' q hn f => ?_) fun x s' hq => wpAny_pure (wpAny_pure hq)))))
  refine wpAny_assign_Name (store_ok2 (v := .ref L) I' hN hy (.inl hyl) rfl (fun s2 I2 x => ?_) (.inr hyl))
  obtain ⟨a, sb, ha⟩ := x
  obtain ⟨f0, f1, f2, f3, f4, f5⟩ := f
  have haC : C ≠ a := ha.elim (fun z => by rw [z]; exact f1) fun z e => f4 y a z e.symm
  refine ⟨m, Heap.Ns.sameBut hn sb haC, fun h3 sb3 => ⟨_, _, I2.turned (fun b o hb e => (sb3.2 b hb).trans e) f0 f1 f3 f4 f5, q⟩⟩
end Gd

set_option Elab.async false
set_option linter.all false
set_option maxRecDepth 100000
set_option maxHeartbeats 4000000
set_option autoImplicit false
namespace Gd
open PySem PySem.Spec PyProof.Rows L2

/-! ### raising what has no chain -/
theorem takes0N {X : Cx} : L2N.Takes X (fun _ _ _ _ => False) := fun u s' h => by
  obtain ⟨_, _, _, _, _, _, _, _, _, _, _, _, _, _, _, _, no⟩ := h
  exact no.elim
section
variable {X : Cx} {x qual : Str} {st : Stmt} {ps : List Str} {sp : Sp} {k j : Nat} {e : Expr} {es : List Expr} {ta t : TA} {p pos pos2 : Pos} {C fI : Addr} {W : WX}
theorem pmk_oexN (T : ExT X.K X.mg C fI x) (D : DnI X.prog X.w X.K X.mg X.base k fI qual st ps sp) (hr : Room j X.A) (hg : Gl X x) (ha : PA X (e :: es) ta) (hk : k + 1 ≤ j := by decide)
    (hdb : (x == ("__debug__" : Str)) = false := by decide) (he : starEach (e :: es) X.env = (false, eval e X.env) :: starEach es X.env := by rfl)
    (hpl : (backTo pos (starEach es X.env)).any (·.1) = false := by rfl) :
    L2N.PMk X (.Call (.Name x p) (e :: es) [] pos) (tMkO C sp [] ta) := by
  obtain ⟨fd, F, b, ok⟩ := D.ex
  have hr' := hr.mono hk
  intro pins s σ H Q I h
  obtain ⟨nm, q, N, bs, bm, sn, sub, ab, col, dd, k0, k1, k2, k3, k5, hC, hbm⟩ := T.ox.cls
  refine wpAny_Call_Name_kw (ld_glob I hg T.mg_ ?_ hdb)
  refine PySem.W.callWith_K (h₀ := X.base) I.ok.mod.kin T.ox.kC (thn (ha.run pos pins s σ H _ I h) fun us s1 got => ?_) he hpl
  obtain ⟨vs, H1, I1, r1, hz, q1⟩ := got
  refine ⟨I1.kIn, ?_⟩
  show wpAny _ _ (call (.ref C) us) _ _ _
  obtain ⟨hp, g, dr, tk, os⟩ := s1
  have big : hp.objs.size ≤ hp.objs.size + 1 := Nat.le_succ _
  have new : H1 (hp.objs.size + 1) = none := I1.hok.fresh big
  have hq := q1 (hp.objs.size + 1) new
  rw [List.append_nil] at hq
  have grow : ∀ b o, hp.get? b = some o → ((hp.push (PySem.W.kdv_tup us)).push (PySem.HandSPX.excO C hp.objs.size)).get? b = some o := fun b o z => Heap.get?_push_of_some _ (Heap.get?_push_of_some _ z)
  have there : ((hp.push (PySem.W.kdv_tup us)).push (PySem.HandSPX.excO C hp.objs.size)).get? (hp.objs.size + 1) = some (PySem.HandSPX.excO C hp.objs.size) := by heap_get
  have I2 : Inv X pins σ (upd H1 (hp.objs.size + 1) (exo (hp.objs.size + 1) C none)) ⟨(hp.push (PySem.W.kdv_tup us)).push (PySem.HandSPX.excO C hp.objs.size), g, dr, tk, os⟩ := I1.laid (t' := tk) grow big (exo_ok there)
  have r2 : Vals (V.ref (hp.objs.size + 1) :: vs) (Value.ref (hp.objs.size + 1) :: us) := .cons rfl r1
  have cnt : (Value.ref (hp.objs.size + 1) :: us).length = ps.length := by
    rw [← r2.length]
    exact ok.len _ _ _ _ hq
  have bnd : BindsTo ⟨(hp.push (PySem.W.kdv_tup us)).push (PySem.HandSPX.excO C hp.objs.size), g, dr, tk, os⟩ fd ⟨Value.ref (hp.objs.size + 1) :: us, []⟩ (ps.zip (Value.ref (hp.objs.size + 1) :: us)) := by
    have z := b _ (Value.ref (hp.objs.size + 1) :: us) I2.kIn (by simpa using cnt)
    simpa using z
  have few : us.length ≤ sizeLine := by
    rw [← Paired.length r1, sizeLine_eq]
    omega
  refine wpAny_call (PySem.HandSPX.call_own PySem.F.excBase_ValueError (fun Y => PySem.HandSPX.refsVE_contains Y bm hbm) (I1.kIn _ _ hC) (PySem.W.looks_findIn I1.kIn T.iC) (fun self => PySem.W.bind_fn I1.kIn self T.tI) few ?_)
  refine codeAny_mono (ok.run _ X.stack _ _ ⟨Value.ref (hp.objs.size + 1) :: us, []⟩ (Value.ref (hp.objs.size + 1) :: us) _ _ E0 (hr'.make C us []) (I2.env0.make C us []) bnd r2 hq) fun r s' post => ?_
  cases r with
  | error er => exact (post : False).elim
  | ok fl =>
    cases fl with
    | ret u =>
      obtain ⟨v, H2, os2, bare2, un2, hok2, rv, ev, d, fs, ea, ed, hd1, q2⟩ := post
      subst ev
      obtain ⟨h2, g2, d2, t2, os'⟩ := s'
      refine ⟨rv, ?_⟩
      obtain ⟨t0, G, IG, gk, ga, gx, na⟩ := mk_end0 (d2 := d2) (t2 := t2) I1 big grow un2 hok2 os2 bare2 ea ed hd1
      exact ⟨_, _, _, _, _, _, _, rfl, IG, gk, ga, gx, ⟨rfl, rfl, fun vs z => by cases z; rfl⟩, rfl, rfl, na, rfl, bare2, raises_own T.ox.exC T.ox.tyC, q2⟩
    | next => exact (post : False).elim
    | brk => exact (post : False).elim
    | cont => exact (post : False).elim
theorem ps_raiseN (hc : X.calm = true) (T : ExT X.K X.mg C fI x) (D : DnI X.prog X.w X.K X.mg X.base k fI qual st ps sp) (hr : Room j X.A) (tk : L2N.Takes X W) (hg : Gl X x) (ha : PA X (e :: es) ta) (hk : k + 1 ≤ j := by decide)
    (hdb : (x == ("__debug__" : Str)) = false := by decide) (he : starEach (e :: es) X.env = (false, eval e X.env) :: starEach es X.env := by rfl)
    (hpl : (backTo pos (starEach es X.env)).any (·.1) = false := by rfl) :
    PS X (.Raise (some (.Call (.Name x p) (e :: es) [] pos)) none pos2) (fun _ σ H => tMkO C sp [] ta σ H fun cls d H' => W cls d σ H') :=
  L2N.ps_raise hc tk (pmk_oexN T D hr hg ha hk hdb he hpl)
/-- defs that may raise so -/
structure DnN (P : Program) (w : World) (K : PySem.W.Frag) (mg : Str → Option Value) (base : Heap)
    (k : Nat) (x : Str) (st : Stmt) (ps : List Str) (sp : Sp) : Prop where
  ex : ∃ f fd, Fun K x x st f fd ∧ Binds K fd ps [] ∧ mg x = some (.ref f) ∧ FnOk P w K mg base (L2N.CX P w) k f fd ps sp
theorem DnN.mk' {P : Program} {w : World} {K : PySem.W.Frag} {mg : Str → Option Value} {base : Heap} {x : Str} {st : Stmt} {ps : List Str} {k : Nat} {sp : Sp} (h : At K mg x st ps)
    (ok : ∀ f fd, Fun K x x st f fd → FnOk P w K mg base (L2N.CX P w) k f fd ps sp) : DnN P w K mg base k x st ps sp := by
  obtain ⟨f, fd, F, b, g⟩ := h
  exact ⟨f, fd, F, b, g, ok f fd F⟩
theorem okN {P : Program} {w : World} {K : PySem.W.Frag} {mg : Str → Option Value} {base : Heap} {x qual : Str} {st : Stmt} {f : Addr} {fd : FuncData} {N ps : List Str} {k : Nat} {sp : Sp}
    (F : Fun K x qual st f fd) (S : FnScope N ps (defScope st)) (len : ∀ vs H Q E, sp vs H Q E → vs.length = ps.length)
    (hb : ∀ (cdv : Value) (A : Around) (outer : List Env) (s : Shared) (H : Hp) (vs : List V) (Q : VK) (E : XK), Room k (A.deeper (envOfC qual (defScope st) s.heap.objs.size f cdv)) → sp vs H Q E →
      ∃ t, PSs (cxOf (L2N.CX P w) P w K mg base N qual (defScope st) f cdv A outer s H E) (defBody st) t ∧ t { nx := fun _ H' => Q .non H', rt := Q } (start N vs) H) :
    FnOk P w K mg base (L2N.CX P w) (k + 1) f fd ps sp := by
  obtain ⟨oc, od, kV, doc, pm, an, cdv, ct, osl, rfl, lk, cdok⟩ := F.ex
  exact fn_of lk cdok S len fun A outer s H vs Q E rm h => hb cdv A outer s H vs Q E rm h
theorem pe_cN (tk : L2N.Takes X W) (D : DnN X.prog X.w X.K X.mg X.base k x st ps sp) (hr : Room j X.A) (hg : Gl X x) (ha : PA X (e :: es) t) (hk : k ≤ j := by decide)
    (hdb : (x == ("__debug__" : Str)) = false := by decide) (he : starEach (e :: es) X.env = (false, eval e X.env) :: starEach es X.env := by rfl)
    (hpl : (backTo pos (starEach es X.env)).any (·.1) = false := by rfl) :
    PE X (.Call (.Name x p) (e :: es) [] pos) (tCallS sp (WE W) t) := by
  obtain ⟨f, fd, F, b, g, ok⟩ := D.ex
  exact pe_callS ok (hr.mono hk) hg g F.kp b (fun σ => L2N.passAt tk σ) ha hdb he hpl
end

/-! ### a def called in an except suite: what it knows of the exception -/
abbrev SpE := Addr → Value → Option Addr → Sp
structure FnE (P : Program) (w : World) (K : PySem.W.Frag) (mg : Str → Option Value) (base : Heap) (k : Nat) (f : Addr) (fd : FuncData) (ps : List Str) (sp : SpE) : Prop where
  len : ∀ a cls d vs H Q E, sp a cls d vs H Q E → vs.length = ps.length
  run : ∀ (A : Around) (outer : List Env) (s : Shared) (H : Hp) (args : Args) (us : List Value) (vs : List V) (Q : VK) (E : XK) (p : Addr × Obj),
    L2H.RoomH k A → L2H.Hot1 A p → L2H.PinOk outer H s p → Env0 P w K mg base A outer s H → BindsTo s fd args (ps.zip us) → Vals vs us →
    sp p.1 p.2.cls p.2.dict vs H Q E → codeAny (model P w) A (.call (.ref f) args) (CR CX0 outer P w H s Q E) s
structure DnE (P : Program) (w : World) (K : PySem.W.Frag) (mg : Str → Option Value) (base : Heap)
    (k : Nat) (x : Str) (st : Stmt) (ps : List Str) (sp : SpE) : Prop where
  ex : ∃ f fd, Fun K x x st f fd ∧ Binds K fd ps [] ∧ mg x = some (.ref f) ∧ FnE P w K mg base k f fd ps sp
theorem DnE.mk' {P : Program} {w : World} {K : PySem.W.Frag} {mg : Str → Option Value} {base : Heap} {x : Str} {st : Stmt} {ps : List Str} {k : Nat} {sp : SpE} (h : At K mg x st ps)
    (ok : ∀ f fd, Fun K x x st f fd → FnE P w K mg base k f fd ps sp) : DnE P w K mg base k x st ps sp := by
  obtain ⟨f, fd, F, b, g⟩ := h
  exact ⟨f, fd, F, b, g, ok f fd F⟩
theorem okE {P : Program} {w : World} {K : PySem.W.Frag} {mg : Str → Option Value} {base : Heap} {x qual : Str} {st : Stmt} {f : Addr} {fd : FuncData} {N ps : List Str} {k : Nat} {sp : SpE}
    (F : Fun K x qual st f fd) (S : FnScope N ps (defScope st))
    (len : ∀ a cls d vs H Q E, sp a cls d vs H Q E → vs.length = ps.length)
    (hb : ∀ (cdv : Value) (A : Around) (out : List Env) (s : Shared) (H : Hp) (vs : List V) (Q : VK) (E : XK) (p : Addr × Obj),
      L2H.Hot1 A p → L2H.RoomH k (A.deeper (envOfC qual (defScope st) s.heap.objs.size f cdv)) → sp p.1 p.2.cls p.2.dict vs H Q E →
      ∃ t, PSs (L2H.cxH CX0 P w K mg base N qual (defScope st) f cdv A out s H E p).nox (defBody st) t ∧ t { nx := fun _ H' => Q .non H', rt := Q } (start N vs) H) :
    FnE P w K mg base (k + 1) f fd ps sp := by
  obtain ⟨oc, od, kV, doc, pm, an, cdv, ct, osl, rfl, lk, cdok⟩ := F.ex
  constructor
  · exact len
  intro A out s H args us vs Q E p rm hot pin env bnd rel pre
  have pl := len _ _ _ vs H Q E pre
  have keep : ∀ b o, base.get? b = some o → s.heap.get? b = some o := fun b o e => (env.bs b o e).1
  have kin := env.mod.kin.keeps keep
  have nol := env.mod.nolimit.keeps keep
  refine codeAny_call_function rm.depth (kin _ _ lk) rfl S.co S.gen rfl (PySem.W.codeRec_of kin cdok) (bnd _ _ _ _ ?_)
  refine wpAny_newFunctionEnv_cells S.kind ?_ fun en he s1 xx => ?_
  · rintro ⟨nm, val⟩ mem
    cases S.par nm (List.of_mem_zip mem).1 with
    | inl q => exact .inl q
    | inr q => exact .inr ⟨q, PySem.W.cellsFrom_some _ _ _ (.inl q)⟩
  subst he
  refine ⟨nol.keeps xx.toInCall.keep, codeAny_func ?_⟩
  obtain ⟨t, ht, hq⟩ := hb cdv A out s H vs Q E p hot (rm.deeper _) pre
  have J0 := L2H.inv_startH (CX := CX0) (E := E) (qual := qual) (f := f) (cd := cdv) S pin env pl rel xx
  refine wpAny_mono (ht.nox.run [] s1 (start N vs) H _ J0 hq) ?_ (fun _ _ z => z)
  intro fl s' post
  cases fl with
  | next =>
    obtain ⟨_, H', J, q⟩ := post
    exact ⟨.non, H', J.os, J.bare, J.base, J.hok, rfl, q⟩
  | ret u =>
    obtain ⟨v, _, H', J, rv, q⟩ := post
    exact ⟨v, H', J.os, J.bare, J.base, J.hok, rv, q⟩
  | brk =>
    obtain ⟨_, _, _, no⟩ := post
    cases no
  | cont =>
    obtain ⟨_, _, _, no⟩ := post
    cases no
theorem pe_cE {X : Cx} {x : Str} {st : Stmt} {ps : List Str} {sp : SpE} {k j : Nat} {e : Expr} {es : List Expr} {t : TA} {p pos : Pos} {a : Addr} {oe : Obj} {cls : Value} {d : Option Addr}
    (hx : X.A.handled = some (.ref a)) (hm : (a, oe) ∈ X.pn) (zn : L2N.Zn cls d oe) (fl : ∃ vs, oe.data = .fields vs)
    (D : DnE X.prog X.w X.K X.mg X.base k x st ps sp) (hr : L2H.RoomH j X.A) (hg : Gl X x) (ha : PA X (e :: es) t) (hk : k ≤ j := by decide)
    (hdb : (x == ("__debug__" : Str)) = false := by decide) (he : starEach (e :: es) X.env = (false, eval e X.env) :: starEach es X.env := by rfl)
    (hpl : (backTo pos (starEach es X.env)).any (·.1) = false := by rfl) :
    PE X (.Call (.Name x p) (e :: es) [] pos) (tCl (sp a cls d) t) := by
  obtain ⟨f, fd, F, b, g, ok⟩ := D.ex
  obtain ⟨rfl, rfl, zc⟩ := zn
  obtain ⟨fvs, fe⟩ := fl
  refine ⟨fun pins s σ H Q I h => ?_⟩
  refine wpAny_Call_Name_kw (ld_glob I hg g ?_ hdb)
  refine PySem.W.callWith_K (h₀ := X.base) I.ok.mod.kin F.kp (thn (ha.run pos pins s σ H _ I h) fun us s1 got => ?_) he hpl
  obtain ⟨vs, H1, I1, r1, q2⟩ := got
  refine ⟨I1.kIn, ?_⟩
  have cnt : us.length = ps.length := by
    rw [← r1.length]
    exact ok.len _ _ _ _ _ _ _ q2
  have bnd : BindsTo s1 fd ⟨us, []⟩ (ps.zip us) := by
    have z := b s1 us I1.kIn (by simpa using cnt)
    simpa using z
  have P1 := I1.pin (a, oe) (List.mem_append_left _ hm)
  have pin : L2H.PinOk X.stack H1 s1 (a, oe) := ⟨P1.1, P1.2.1, fun m => (List.mem_cons.mp (Inv.stkSub I1 a m)).elim P1.2.2.1 P1.2.2.2.1, P1.2.2.2.2⟩
  refine wpAny_call (codeAny_mono (ok.run X.A X.stack s1 H1 ⟨us, []⟩ us vs _ E0 (a, oe) (hr.mono hk) ⟨hx, fvs, fe, zc fvs fe⟩ pin I1.env0 bnd r1 q2) ?_)
  intro r s' post
  cases r with
  | error e => exact (post : False).elim
  | ok fl =>
    cases fl with
    | ret u => exact I1.after post
    | next => exact (post : False).elim
    | brk => exact (post : False).elim
    | cont => exact (post : False).elim

theorem unitsD {k : Nat} {A : Around} (h : Room k A) : A.units + 65 < cLine := by
  have := h.un
  omega
theorem roomS {k : Nat} {A : Around} {v : Option Value} (h : Room k A) : L2H.RoomH k (A.mark v) := ⟨(L2H.roomH_of h).dp, (L2H.roomH_of h).un⟩
/-! ### what is asked of it there -/
/-- what is known of the exception p: its class, its dict -/
def ErrP (H : Hp) (p : Addr × Obj) (C : Addr) (v : V) : Prop := ∃ d, p.2.cls = .ref C ∧ p.2.dict = some d ∧ H d = some (.xd [("value", v)])
theorem ErrP.same {H H' : Hp} {p : Addr × Obj} {C : Addr} {v : V} (k : Same H H') (h : ErrP H p C v) : ErrP H' p C v := by
  obtain ⟨d, h1, h2, h3⟩ := h
  exact ⟨d, h1, h2, k _ _ h3⟩
theorem errP_inst {X : Cx} {pins : List (Addr × Obj)} {σ : L2.St} {H : Hp} {s : Shared} {p : Addr × Obj} {C : Addr} {v : V} (I : Inv X pins σ H s) (hm : p ∈ X.pn) (h1 : L2H.Hot1 X.A p) (h : ErrP H p C v) :
    ∃ (od : Obj) (u : Value), PySem.W.InstAt s.heap p.1 p.2 C (some od) ∧ RelV v u ∧ PySem.W.lookIn "value" od = some (some u) := by
  obtain ⟨d, hc, hd, e2⟩ := h
  obtain ⟨_, vs, hf, _⟩ := h1
  have he := (I.pin p (List.mem_append_left _ hm)).1
  have z : ObjOk X.prog X.w H s.heap d (.xd [("value", v)]) := I.hok d _ e2
  obtain ⟨mA, ns, rel⟩ := z
  obtain ⟨od, ho, hl⟩ := lookIn_ns ns
  have l : List.lookup ("value" : Str) [(("value" : Str), v)] = some v := by simp [List.lookup]
  obtain ⟨u, hu, ru⟩ := RelO.some_of (v := v) (o := mA "value") (by rw [← l]; exact rel "value")
  exact ⟨od, u, ⟨he, hc, by unfold PySem.W.notCls; rw [hf] <;> rfl, by rw [hd]; exact ho⟩, ru, by rw [hl, hu]⟩
def tValP (ta : TE) (p : Addr × Obj) (S : Addr → Prop) : TE := fun σ H Q => ta σ H fun x H1 => ∃ c v, x = .ref p.1 ∧ S c ∧ ErrP H1 p c v ∧ Q v H1
theorem pe_valP {X : Cx} {p : Addr × Obj} {e : Expr} {te : TE} {pos : Pos} {S : Addr → Prop} (hm : p ∈ X.pn) (h1 : L2H.Hot1 X.A p) (T : ∀ c, S c → ∃ fI x, ExT X.K X.mg c fI x) (he : PE X e te) (hb : attributeBase e "value" X.env (eval e X.env) = eval e X.env := by rfl) :
    PE X (.Attribute e "value" pos) (tValP te p S) := by
  refine ⟨fun pins s σ H Q I h => ?_⟩
  refine attr_of hb (thn (he.run pins s σ H _ I h) fun u s1 got => ?_)
  obtain ⟨x, H1, I1, rx, c, v, ex, sc, ea, q⟩ := got
  subst ex
  obtain rfl : u = Value.ref p.1 := rx
  obtain ⟨fI, y, T⟩ := T c sc
  obtain ⟨od, w, J, ru, hl⟩ := errP_inst I1 hm h1 ea
  exact HandSPX.exc_get I1.kIn J T.hg T.hk T.ox.exC (PySem.W.findObj_own T.hd T.nV rfl hl) (handed_of ru) ⟨v, H1, I1.tok _, ru, q⟩
def rIsXP (K : PySem.W.Frag) (p : Addr × Obj) (S : Addr → Prop) : List V → Hp → VK → Prop := fun xs H Q => ∃ (C : Addr) (v c : V) (cv : Value) (b : Bool), xs = [.ref p.1, c] ∧ S C ∧ ErrP H p C v ∧ (∀ u, RelV c u → u = cv) ∧ PySem.W.kitOne K (.ref C) cv = some b ∧ Q (.bl b) H
theorem call_isXP {X : Cx} {p : Addr × Obj} {S : Addr → Prop} (hm : p ∈ X.pn) (h1 : L2H.Hot1 X.A p) (T : ∀ c, S c → ∃ fI x, ExT X.K X.mg c fI x) : CallR X (.builtin "isinstance") (rIsXP X.K p S) := by
  intro pins s σ H xs us Q I r h
  obtain ⟨C, v, c, cv, b, rfl, sc, ea, hcv, e, q⟩ := h
  obtain ⟨u1, u2, rfl, r1, r2⟩ := vals2 r
  cases (show u1 = Value.ref p.1 from r1)
  have ec := hcv _ r2
  subst ec
  obtain ⟨fI, y, T⟩ := T C sc
  obtain ⟨od, w, J, _⟩ := errP_inst I hm h1 ea
  exact PySem.W.kia_one (err_kit T) I.kIn ⟨_, _, J⟩ e (fun z => nomatch z) fun tk => ⟨.bl b, H, I.tok tk, rfl, q⟩
end Gd

set_option Elab.async false
set_option linter.all false
set_option maxRecDepth 100000
set_option maxHeartbeats 4000000
set_option autoImplicit false
namespace Gd
open PySem PySem.Spec PyProof.Rows L2

/-! ### an object of an own class made by an __init__ that may raise -/
structure MtN (P : Program) (w : World) (K : PySem.W.Frag) (mg : Str → Option Value) (base : Heap)
    (k : Nat) (C : Addr) (m qual : Str) (st : Stmt) (ps : List Str) (sp : Sp) : Prop where
  ex : ∃ f fd, PySem.W.findIn K (.ref C) m = some (some (.ref f)) ∧ PySem.W.isFn K (.ref f) = true ∧ Fun K m qual st f fd ∧ Binds K fd ps [] ∧ FnOk P w K mg base (L2N.CX P w) k f fd ps sp
theorem MtN.mk' {P : Program} {w : World} {K : PySem.W.Frag} {mg : Str → Option Value} {base : Heap} {C : Addr} {m qual : Str} {st : Stmt} {ps : List Str} {k : Nat} {sp : Sp} (h : AtM K C m qual st ps)
    (ok : ∀ f fd, Fun K m qual st f fd → FnOk P w K mg base (L2N.CX P w) k f fd ps sp) : MtN P w K mg base k C m qual st ps sp := by
  obtain ⟨f, fd, a, i, F, b⟩ := h
  exact ⟨f, fd, a, i, F, b, ok f fd F⟩
theorem run_makeS {X : Cx} {CX : CXT} {k : Nat} {f C : Addr} {fd : FuncData} {ps : List Str} {sp : Sp} {E : XK} {pins : List (Addr × Obj)} {σ : L2.St} {H : Hp} {s : Shared} {Q : VK} {us : List Value} {vs : List V}
    (M : Mk X.K C f) (F : FnOk X.prog X.w X.K X.mg X.base CX k f fd ps sp) (hr : Room (k + 1) X.A) (hb : Binds X.K fd ps []) (hx : PassesAt CX X σ E) (I : Inv X pins σ H s) (r : Vals vs us)
    (h : ∀ x dx, H x = none → H dx = none → dx ≠ x → sp (.ref x :: (vs ++ [])) (upd (upd H dx (.own x)) x (.ins C dx [])) (fun v H2 => v = .non ∧ Q (.ref x) H2) E) :
    wpAny (model X.prog X.w) X.A (call (.ref C) us) (EP X pins σ Q) X.xe s := by
  have hq := h (s.heap.objs.size + 1) s.heap.objs.size (I.hok.fresh (Nat.le_succ _)) (I.hok.fresh (Nat.le_refl _)) (Nat.ne_of_lt (Nat.lt_succ_self _))
  have I2 := Inv.made (C := C) I
  have r2 : Vals (V.ref (s.heap.objs.size + 1) :: (vs ++ [])) (Value.ref (s.heap.objs.size + 1) :: (us ++ [])) := .cons rfl (Vals.append r .nil)
  have hl : (Value.ref (s.heap.objs.size + 1) :: (us ++ [])).length = ps.length := by
    rw [← r2.length]
    exact F.len _ _ _ _ hq
  refine wpAny_call (make_map I.kIn M.makes M.init (beq_iff_eq.mp M.fn) (codeAny_mono (F.run (X.A.under (.builtin "type.__call__" ⟨.ref C :: us, []⟩)) X.stack _ _ ⟨.ref (s.heap.objs.size + 1) :: us, []⟩ _ _ _ E
    (hr.make C us []) (I2.env0.make C us []) (hb _ (.ref (s.heap.objs.size + 1) :: us) I2.kIn hl) r2 hq) fun r' s' hq' => ?_))
  cases r' with
  | error e => exact hx pins _ _ e s' I2 hq'
  | ok fl =>
    cases fl with
    | ret u =>
      obtain ⟨v, H', I3, rv, ev, q3⟩ := I2.after hq'
      subst ev
      exact ⟨rv, .ref (s.heap.objs.size + 1), H', I3, rfl, q3⟩
    | next => exact (hq' : False).elim
    | brk => exact (hq' : False).elim
    | cont => exact (hq' : False).elim
def tMakeS (C : Addr) (sp : Sp) (E : L2.St → XK) (t : TA) : TE := fun σ H Q => t σ H fun vs H1 => ∀ x dx, H1 x = none → H1 dx = none → dx ≠ x → sp (.ref x :: (vs ++ [])) (upd (upd H1 dx (.own x)) x (.ins C dx [])) (fun v H2 => v = .non ∧ Q (.ref x) H2) (E σ)
section
variable {X : Cx} {x m qual : Str} {st : Stmt} {ps : List Str} {sp : Sp} {k j : Nat} {e : Expr} {es : List Expr} {t : TA} {p pos : Pos} {C : Addr} {W : WX}
/-- C(e, ..) in a try, or where its errors go on -/
theorem pe_newN (tk : L2N.Takes X W) (T : Ck X.K X.mg C x) (D : MtN X.prog X.w X.K X.mg X.base k C "__init__" qual st ps sp) (hr : Room j X.A) (hg : Gl X x) (ha : PA X (e :: es) t) (hk : k + 1 ≤ j := by decide)
    (hdb : (x == ("__debug__" : Str)) = false := by decide) (he : starEach (e :: es) X.env = (false, eval e X.env) :: starEach es X.env := by rfl)
    (hpl : (backTo pos (starEach es X.env)).any (·.1) = false := by rfl) :
    PE X (.Call (.Name x p) (e :: es) [] pos) (tMakeS C sp (WE W) t) := by
  obtain ⟨f, fd, a, i, F, b, ok⟩ := D.ex
  have M : Mk X.K C f := ⟨T.mks, a, i, T.kp⟩
  refine ⟨fun pins s σ H Q I h => ?_⟩
  refine wpAny_Call_Name_kw (ld_glob I hg T.mg_ ?_ hdb)
  refine PySem.W.callWith_K (h₀ := X.base) I.ok.mod.kin M.kp (thn (ha.run pos pins s σ H _ I h) fun us s1 got => ?_) he hpl
  obtain ⟨vs, H1, I1, r, q⟩ := got
  exact ⟨I1.kIn, run_makeS M ok (hr.mono hk) b (L2N.passAt tk σ) I1 r q⟩
/-- o.m(e, ..) where its errors go on -/
def tMethS (C : Addr) (m : Str) (sp : Sp) (E : L2.St → XK) (ta : TE) (t : TA) : TE := fun σ H Q => ta σ H fun x H1 => ∃ a dx fs, x = .ref a ∧ H1 a = some (.ins C dx fs) ∧ List.lookup m fs = none ∧ t σ H1 fun vs H2 => sp (x :: vs) H2 Q (E σ)
theorem pe_mN {o : Expr} {apos : Pos} {ta : TE} {pl : Sem Bool} (tk : L2N.Takes X W) (T : Ck X.K X.mg C x) (D : MtN X.prog X.w X.K X.mg X.base k C m qual st ps sp) (hr : Room j X.A) (he : PE X o ta) (ha : PA X (e :: es) t) (hk : k ≤ j := by decide)
    (hst : starEach (e :: es) X.env = (false, eval e X.env) :: starEach es X.env := by rfl) (hpl : (backTo pos (starEach es X.env)).any (·.1) = false := by rfl)
    (ht : eval (.Call (.Attribute o m apos) (e :: es) [] pos) X.env = (do
      let ov ← eval o X.env
      standAt apos.atName
      let (f, first) ← holding [ov] (getMethod ov m pl)
      callWith pos f first (backTo pos (starEach (e :: es) X.env)) (backToKw pos (keywordEach [] X.env))) := by rfl) :
    PE X (.Call (.Attribute o m apos) (e :: es) [] pos) (tMethS C m sp (WE W) ta t) := by
  obtain ⟨f, fd, at_, i, F, b, ok⟩ := D.ex
  have hm : Meth X.K C m f := ⟨at_, i, F.kp⟩
  refine ⟨fun pins s σ H Q I h => ?_⟩
  refine PySem.W.methodCall_KW (thn (he.run pins s σ H _ I h) fun u s1 got => ?_) ht
  obtain ⟨x1, H1, I1, rx, a, dx, fs, ex, ea, l, q⟩ := got
  subst ex
  cases (show u = Value.ref a from rx)
  refine getmeth_ok I1 ea T.cl hm l (PySem.W.callWith_K I1.ok.mod.kin hm.kp (thn (ha.run pos pins s1 σ H1 _ I1 q) fun us s2 got2 => ?_) hst hpl)
  obtain ⟨vs, H2, I2, r, q2⟩ := got2
  exact ⟨I2.kIn, run_fnS (vs := V.ref a :: vs) ok (hr.mono hk) b (L2N.passAt tk σ) I2 (.cons rfl r) q2⟩
end
end Gd

set_option Elab.async false
set_option linter.all false
set_option maxRecDepth 100000
set_option autoImplicit false
namespace Gd
open PySem PySem.Spec PyProof.Rows L2

/-! ### slices and sums whose place and heap are not told -/
theorem sIx_hi (n i : Nat) : HT.sIx n n (some (i : Int)) = min i n := by
  unfold HT.sIx
  simp only
  rw [if_neg (by omega)]
  rfl
theorem sIx_lo (n i : Nat) : HT.sIx n 0 (some (i : Int)) = min i n := by
  unfold HT.sIx
  simp only
  rw [if_neg (by omega)]
  rfl
theorem cutV_take (xs : List V) (i : Nat) : cutV xs none (some (i : Int)) = xs.take i := by
  unfold cutV
  rw [sIx_hi, show HT.sIx xs.length 0 none = 0 from rfl, List.drop_zero, Nat.sub_zero]
  by_cases h : i ≤ xs.length
  · rw [Nat.min_eq_left h]
  · rw [Nat.min_eq_right (by omega), List.take_length, List.take_of_length_le (by omega)]
theorem cutV_drop (xs : List V) (i : Nat) : cutV xs (some (i : Int)) none = xs.drop i := by
  unfold cutV
  rw [sIx_lo, show HT.sIx xs.length xs.length none = xs.length from rfl]
  by_cases h : i ≤ xs.length
  · rw [Nat.min_eq_left h]
    exact List.take_of_length_le (by rw [List.length_drop]; omega)
  · rw [Nat.min_eq_right (by omega), List.drop_length, List.drop_of_length_le (by omega)]
    simp
theorem cutV_whole {xs : List V} {lo hi : Option Int} (w : HT.sIx xs.length 0 lo = 0 ∧ HT.sIx xs.length xs.length hi = xs.length) : cutV xs lo hi = xs := by
  unfold cutV
  rw [w.1, w.2, List.drop_zero, Nat.sub_zero, List.take_length]
theorem slA {K : PySem.W.Frag} {H : Hp} {a : Addr} {xs : List V} {lo hi : Option Int} {Q : VK} (h : SqT K H a xs) (q : ∀ p H', Same H H' → SqT K H' p (cutV xs lo hi) → Q (.ref p) H') : rSlA K (.ref a) lo hi H Q :=
  ⟨a, xs, rfl, h, fun w => q a H (Same.refl _) (by rw [cutV_whole w]; exact h), fun _ p np => q p _ (Same.new np) (.inl (.inl upd_same))⟩
/-- a slice without an end -/
theorem slAn {K : PySem.W.Frag} {σ : L2.St} {H : Hp} {a : Addr} {xs : List V} {lo : Option Int} {Q : VK} (h : SqT K H a xs) (q : ∀ p H', Same H H' → SqT K H' p (cutV xs lo none) → Q (.ref p) H') : tNoPart σ H fun u H3 => rSlA K (.ref a) lo u H3 Q := slA h q
theorem slLn {K : PySem.W.Frag} {σ : L2.St} {H : Hp} {a : Addr} {xs : List V} {lo : Option Int} {Q : VK} (h : SqL K H a xs) (q : ∀ p H', Same H H' → H p = none → H' p = some (.lst (cutV xs lo none)) → Q (.ref p) H') : tNoPart σ H fun u H3 => rSlL K (.ref a) lo u H3 Q := ⟨a, xs, rfl, h, fun p np => q p _ (Same.new np) np upd_same⟩
theorem catA {K : PySem.W.Frag} {H : Hp} {a b : Addr} {xs ys : List V} {Q : VK} (ha : SqT K H a xs) (hb : SqT K H b ys) (l : xs.length + ys.length ≤ 1000) (q : ∀ p H', Same H H' → SqT K H' p (xs ++ ys) → Q (.ref p) H') : rCatA K (.ref a) (.ref b) H Q :=
  ⟨a, b, xs, ys, rfl, rfl, ha, hb, Nat.le_trans l (by decide), fun e => q b H (Same.refl _) (by rw [e]; exact hb), fun _ e => q a H (Same.refl _) (by rw [e, List.append_nil]; exact ha), fun _ _ p np => q p _ (Same.new np) (.inl (.inl upd_same))⟩
theorem slL {K : PySem.W.Frag} {H : Hp} {a : Addr} {xs : List V} {lo hi : Option Int} {Q : VK} (h : SqL K H a xs) (q : ∀ p H', Same H H' → H p = none → H' p = some (.lst (cutV xs lo hi)) → Q (.ref p) H') : rSlL K (.ref a) lo hi H Q :=
  ⟨a, xs, rfl, h, fun p np => q p _ (Same.new np) np upd_same⟩
theorem catL {H : Hp} {a b : Addr} {xs ys : List V} {Q : VK} (ha : H a = some (.lst xs)) (hb : H b = some (.lst ys)) (l : xs.length + ys.length ≤ 100000) (q : ∀ p H', Same H H' → H p = none → H' p = some (.lst (xs ++ ys)) → Q (.ref p) H') : rCat (.ref a) (.ref b) H Q :=
  ⟨a, b, xs, ys, rfl, rfl, ha, hb, Nat.le_trans l (by decide), fun p np => q p _ (Same.new np) np upd_same⟩
end Gd

set_option Elab.async false
set_option linter.all false
set_option maxRecDepth 100000
set_option autoImplicit false
set_option maxHeartbeats 4000000
namespace Gd
open PySem PySem.Spec PyProof.Rows L2
section
variable {X : Cx}
/-- name = {k: v for ..} on one line, the name a local -/
theorem ps_setDc {i : Nat} {y : Str} {py : Pos} {kx vx tg iter : Expr} {ifs : List Expr} {scope : Scope} {own : List (Str × Nat)} {pos spos : Pos} {wi : TI} {g : TG} {tt : TT} {tk tv : TE} (hc : X.calm = true) (hN : X.N.Nodup) (hy : X.N[i]? = some y) (hyl : X.env.scope.names.lookup y = some .local)
    (hsw : swapsWith (.DictComp kx vx [⟨tg, iter, ifs, 0⟩] scope pos) (some (.Name y py)) spos.line X.env = pure true) (hi : PI X tg iter wi) (ok : BlkOk X.N X.env.scope scope own)
    (hg : ∀ (s : Shared) (H : Hp) (C : Addr) (cl : List (Str × Addr)) (fp : List Addr), PG (X.blk s H scope (compEnvC scope cl C X.env) fp) tg g) (ht : ∀ (s : Shared) (H : Hp) (C : Addr) (cl : List (Str × Addr)) (fp : List Addr), PTs (X.blk s H scope (compEnvC scope cl C X.env) fp) ifs tt)
    (hk : ∀ (s : Shared) (H : Hp) (C : Addr) (cl : List (Str × Addr)) (fp : List Addr), PE (X.blk s H scope (compEnvC scope cl C X.env) fp) kx tk)
    (he : ∀ (s : Shared) (H : Hp) (C : Addr) (cl : List (Str × Addr)) (fp : List Addr), PE (X.blk s H scope (compEnvC scope cl C X.env) fp) vx tv) (hs : ∀ x, foldedSetIterable iter X.env x = pure x := by intro _; rfl) :
    PS X (.Assign [.Name y py] (.DictComp kx vx [⟨tg, iter, ifs, 0⟩] scope pos) spos) (tAsg (tDc wi g tt tk tv (own.map (·.2))) (gName i)) := by
  refine ⟨fun pins s σ H D I h => ?_⟩
  rw [exec_Assign_Name_used _ _ _ _ hsw]
  refine wpAny_bind (wpAny_standAt (wpAny_bind ?_))
  show wpAny _ X.A (do let _ ← comprehension (.DictComp kx vx [⟨tg, iter, ifs, 0⟩] scope pos) scope X.env (firstIterPos [⟨tg, iter, ifs, 0⟩] pos) newDict false (eval iter X.env) (some (assign (.Name y py) X.env))) _ _ s
  have h : tDc wi g tt tk tv (own.map (·.2)) σ H (fun x H1 => gName i x σ H1 D.nx) := h
  refine wpAny_bind (thn (dc_core (Qf := fun _ s' => SP X pins D .next s') hc hN I hi ok hg ht hk he hs h fun L C s' m H' I' q hn f => ?_) fun _ s' hq => wpAny_pure (wpAny_pure hq))
  show wpAny _ _ (assign (.Name y py) X.env (.ref L)) _ _ _
  refine wpAny_assign_Name (store_ok2 (v := V.ref L) I' hN hy (.inl hyl) rfl (fun s2 I2 ⟨a, sb, ha⟩ => ?_) (.inr hyl))
  obtain ⟨f0, f1, f2, f3, f4, f5⟩ := f
  have haC : C ≠ a := by
    rcases ha with z | z
    · rw [z]; exact f1
    · exact fun e => f4 y a z e.symm
  refine ⟨m, hn.sameBut sb haC, fun h3 sb3 => ?_⟩
  exact ⟨_, H', I2.turned (t' := s2.toks) (fun b o hb e => (sb3.2 b hb).trans e) f0 f1 f3 f4 f5, q⟩
theorem sw_trueD {kx vx : Expr} {gs : List Comprehension} {scope : Scope} {pos py : Pos} {y : Str} {l : Nat} {env : Env} (hk : env.scope.kind = .function) (hy : env.scope.names.lookup y = some .local) (hl : (py.line == pos.line) = true)
    (ha : (scope.names.any fun (n, k) => n == y && (k == .local || k == .cell)) = false) : swapsWith (.DictComp kx vx gs scope pos) (some (.Name y py)) l env = pure true := by
  have ky : env.kindOf y = some .local := hy
  have hb : env.blockKind = .function := by unfold Env.blockKind; rw [hk]; rfl
  unfold swapsWith
  simp only [hb, ky, ha, Expr.pos, hl]
  rfl
end
/-- over a list that stays -/
theorem dc_list {K : PySem.W.Frag} {a : Addr} {xs : List V} {g : TG} {tt : TT} {tk tv : TE} {vs : List Nat} {σ : L2.St} {H1 : Hp} {D : Addr} {Qd : Hp → Prop} (Pv : Nat → Hp → Prop) (h0 : Pv 0 (upd H1 D (.dK []))) (hl : ∀ i H, i ≤ xs.length → Pv i H → SqL K H a xs)
    (hs : ∀ i x H, xs[i]? = some x → Pv i H → g x (wipe σ vs) H fun σ2 H2 => wipe σ2 vs = wipe σ vs ∧ tt σ2 H2 fun b H3 =>
      if b = true then tk σ2 H3 fun y H4 => tv σ2 H4 fun z H5 => ∃ kvs k, y = kV k ∧ H5 D = some (.dK kvs) ∧ kvs.length < sizeLine ∧ Pv (i + 1) (upd H5 D (.dK (putK kvs k z))) else Pv (i + 1) H3) (hd : ∀ H, Pv xs.length H → Qd H) :
    ∃ W : Nat → Nat → Hp → Prop, (∃ m, W 0 m (upd H1 D (.dK []))) ∧ ∀ i m H, W i m H →
      ((Itl K a).stop i H ∧ Qd H) ∨ ((Itl K a).go i H ∧ ∃ Nx : Hp → Prop, (∀ H', Nx H' → ∃ m', m' < m ∧ W (i + 1) m' H') ∧ ∀ x H', (Itl K a).yld i H x H' → g x (wipe σ vs) H' fun σ2 H2 => wipe σ2 vs = wipe σ vs ∧ tt σ2 H2 fun b H3 =>
        if b = true then tk σ2 H3 fun y H4 => tv σ2 H4 fun z H5 => ∃ kvs k, y = kV k ∧ H5 D = some (.dK kvs) ∧ kvs.length < sizeLine ∧ Nx (upd H5 D (.dK (putK kvs k z))) else Nx H3) := by
  refine ⟨fun i m H => m = xs.length - i ∧ i ≤ xs.length ∧ Pv i H, ⟨xs.length, by simp, Nat.zero_le _, h0⟩, ?_⟩
  rintro i m H ⟨rfl, hi, p⟩
  have q := hl i H hi p
  by_cases hlt : i < xs.length
  · refine .inr ⟨⟨xs, xs[i], q, by simp [hlt]⟩, Pv (i + 1), fun H' p' => ⟨xs.length - (i + 1), by omega, rfl, hlt, p'⟩, fun x H' y => ?_⟩
    obtain ⟨e, y⟩ := y
    subst e
    exact hs i x _ (y xs q) p
  · have e : i = xs.length := by omega
    subst e
    exact .inl ⟨⟨xs, q, Nat.le_refl _⟩, hd H p⟩

/-! ### data where one object that is no tuple changes -/
mutual
theorem dp_kx {K : PySem.W.Frag} {H H' : Hp} (k : ∀ b xs, SqT K H b xs → SqT K H' b xs) : ∀ {v : V} {d : PyData}, Dp K H v d → NoL d → Dp K H' v d
  | _, _, .non, _ => .non
  | _, _, .bl b, _ => .bl b
  | _, _, .int i, _ => .int i
  | _, _, .str x, _ => .str x
  | _, _, .tup s x, n => .tup (k _ _ s) (dpa_kx k x (match n with | .tup h => h))
  | _, _, .lst s x, n => nomatch n
theorem dpa_kx {K : PySem.W.Frag} {H H' : Hp} (k : ∀ b xs, SqT K H b xs → SqT K H' b xs) : ∀ {v : List V} {d : List PyData}, DpAll K H v d → (∀ x ∈ d, NoL x) → DpAll K H' v d
  | _, _, .nil, _ => .nil
  | _, _, .cons x y, n => .cons (dp_kx k x (n _ (by simp))) (dpa_kx k y fun z m => n z (by simp [m]))
end
theorem sqT_kd {K : PySem.W.Frag} {H H' : Hp} {a b : Addr} {kv : List (Key × V)} {xs : List V} (k : Kp a H H') (e : H a = some (.dK kv)) (h : SqT K H b xs) : SqT K H' b xs := by
  rcases h with (h | ⟨o, h⟩) | h
  · exact .inl (.inl (k _ _ (ne_of h e (fun z => by cases z)) h))
  · exact .inl (.inr ⟨o, k _ _ (ne_of h e (fun z => by cases z)) h⟩)
  · exact .inr h
theorem dp_kd {K : PySem.W.Frag} {H H' : Hp} {a : Addr} {kv : List (Key × V)} (k : Kp a H H') (e : H a = some (.dK kv)) {v : V} {d : PyData} (h : Dp K H v d) (n : NoL d) : Dp K H' v d := dp_kx (fun _ _ s => sqT_kd k e s) h n
theorem dpa_kd {K : PySem.W.Frag} {H H' : Hp} {a : Addr} {kv : List (Key × V)} (k : Kp a H H') (e : H a = some (.dK kv)) {v : List V} {d : List PyData} (h : DpAll K H v d) (n : ∀ x ∈ d, NoL x) : DpAll K H' v d := dpa_kx (fun _ _ s => sqT_kd k e s) h n
theorem nodup_take {α : Type} {ns : List α} {i : Nat} {x : α} (nd : ns.Nodup) (e : ns[i]? = some x) : x ∉ ns.take i := fun m => by
  obtain ⟨lt, ex⟩ := List.getElem?_eq_some_iff.mp e
  have z : ns.drop i = ns[i] :: ns.drop (i + 1) := List.drop_eq_getElem_cons lt
  have nd2 : (ns.take i ++ ns.drop i).Nodup := by rw [List.take_append_drop]; exact nd
  exact (List.nodup_append.mp nd2).2.2 x m x (by rw [z, ex]; exact List.mem_cons_self) rfl
/-! ### dicts with text keys, by a function -/
def fK (ks : List Str) (f : Str → V) : List (Key × V) := ks.map fun x => (Sum.inr x, f x)
theorem fK_len {ks : List Str} {f : Str → V} : (fK ks f).length = ks.length := List.length_map _
theorem fK_get {f : Str → V} {x : Str} : ∀ {ks : List Str}, x ∈ ks → valV (fK ks f) (.inr x) = some (f x)
  | k :: ks, m => by
    show valV ((Sum.inr k, f k) :: fK ks f) (.inr x) = _
    by_cases e : k = x
    · subst e
      exact valV_pos rfl
    · rw [valV_neg (fun z => e (by injection z))]
      exact fK_get ((List.mem_cons.mp m).resolve_left (fun z => e z.symm))
theorem fK_no {f : Str → V} {x : Str} : ∀ {ks : List Str}, x ∉ ks → valV (fK ks f) (.inr x) = none
  | [], _ => rfl
  | k :: ks, m => by
    show valV ((Sum.inr k, f k) :: fK ks f) (.inr x) = _
    rw [valV_neg (fun z => by cases z; exact m (by simp))]
    exact fK_no (fun z => m (by simp [z]))
/-- one value changed -/
def put1 {α : Type} (f : Str → α) (x : Str) (v : α) : Str → α := fun y => if y = x then v else f y
theorem put1_same {α : Type} {f : Str → α} {x : Str} {v : α} : put1 f x v x = v := by unfold put1; rw [if_pos rfl]
theorem put1_ne {α : Type} {f : Str → α} {x y : Str} {v : α} (n : y ≠ x) : put1 f x v y = f y := by unfold put1; rw [if_neg n]
theorem fK_congr {ks : List Str} {f g : Str → V} (h : ∀ x ∈ ks, f x = g x) : fK ks f = fK ks g := by
  unfold fK
  exact List.map_congr_left fun x m => by rw [h x m]
theorem fK_put {x : Str} {v : V} {ks : List Str} {f : Str → V} (m : x ∈ ks) : putK (fK ks f) (.inr x) v = fK ks (put1 f x v) := by
  unfold putK
  rw [valV_any, fK_get m, Option.isSome_some, if_pos rfl]
  unfold fK
  rw [List.map_map]
  refine List.map_congr_left fun y my => ?_
  show (if (Sum.inr y : Key) = Sum.inr x then ((Sum.inr y : Key), v) else (Sum.inr y, f y)) = (Sum.inr y, put1 f x v y)
  unfold put1
  by_cases e : y = x
  · rw [if_pos e, if_pos (by rw [e])]
  · rw [if_neg e, if_neg (fun z => e (by injection z))]
theorem fK_new {f : Str → V} {x : Str} {v : V} {ks : List Str} (m : x ∉ ks) : putK (fK ks f) (.inr x) v = fK ks f ++ [(Sum.inr x, v)] := putK_new _ (fK_no m)
theorem fK_snoc {ks : List Str} {f : Str → V} {x : Str} : fK (ks ++ [x]) f = fK ks f ++ [(Sum.inr x, f x)] := by
  unfold fK
  rw [List.map_append]
  rfl
theorem mergeK_fK {f : Str → V} : ∀ {k2 ks : List Str}, (ks ++ k2).Nodup → mergeK (fK ks f) (fK k2 f) = fK (ks ++ k2) f
  | [], ks, _ => by
    rw [List.append_nil]
    rfl
  | k :: k2, ks, nd => by
    have nin : k ∉ ks := fun m => (List.nodup_append.mp nd).2.2 k m k (by simp) rfl
    show mergeK (putK (fK ks f) (.inr k) (f k)) (fK k2 f) = _
    rw [fK_new nin, ← fK_snoc]
    have nd' : ((ks ++ [k]) ++ k2).Nodup := by rw [List.append_assoc]; exact nd
    rw [mergeK_fK nd', List.append_assoc]
    rfl
/-- the dict at a has the value f x at each name x -/
def DF (H : Hp) (a : Addr) (ks : List Str) (f : Str → V) : Prop := H a = some (.dK (fK ks f))
theorem DF.same {H H' : Hp} {a : Addr} {ks : List Str} {f : Str → V} (k : Same H H') (h : DF H a ks f) : DF H' a ks f := k _ _ h
theorem DF.kl {H H' : Hp} {a b : Addr} {ks : List Str} {f : Str → V} (k : Kl b H H') (h : DF H a ks f) : DF H' a ks f := by
  obtain ⟨⟨ys, e⟩, kp⟩ := k
  exact kp _ _ (ne_of h e (fun z => by cases z)) h
theorem DF.get {H : Hp} {a : Addr} {ks : List Str} {f : Str → V} {x : Str} (h : DF H a ks f) (m : x ∈ ks) : DGet H a (.str x) (some (f x)) := by
  have z := DGet.k (k := Sum.inr x) h
  rw [fK_get m] at z
  exact z
theorem DF.put {H : Hp} {a : Addr} {ks : List Str} {f : Str → V} {x : Str} {v : V} (h : DF H a ks f) (m : x ∈ ks) (l : ks.length ≤ 1000) : DPut H a (.str x) v (upd H a (.dK (fK ks (put1 f x v)))) := by
  have z := DPut.k (k := Sum.inr x) (v := v) h (by rw [fK_len]; exact Nat.lt_of_le_of_lt l (by decide))
  rw [fK_put m] at z
  exact z
end Gd

set_option Elab.async false
set_option linter.all false
set_option maxRecDepth 100000
set_option autoImplicit false
set_option maxHeartbeats 4000000
namespace Gp
open PySem PySem.Spec PyProof.Rows L2 L2.DX
section
variable {X : Cx}
/-- d.pop(k) of a dict of tuple keys, the key in it -/
def rPopT1 : V → List V → Hp → VK → Prop := fun x xs H Q => ∃ (a : Addr) (kvs : List (List L2.Key × V)) (k : List L2.Key) (b : Addr) (v : V), x = .ref a ∧ xs = [.ref b] ∧ H a = some (.dT kvs) ∧ H b = some (.tup (k.map kV)) ∧
  valV kvs k = some v ∧ Q v (upd H a (.dT (dropK kvs k)))
theorem mt_popT1 (hu : X.A.units + 1 < cLine) : MtR X "dict.pop" rPopT1 := by
  intro pins s σ H x xs v us Q I rx rxs h
  obtain ⟨a, kvs, k, b, v0, rfl, rfl, ha, hb, ev, q1⟩ := h
  cases rx
  obtain rfl := Vals.ref1 rxs
  obtain ⟨z, hd, xs', rel, dd⟩ := dt_of I.hok ha
  have hz : xs'.length ≤ sizeLine := by rw [← Paired.length rel]; exact z
  have r := rel.val k
  rw [ev] at r
  cases hp : atKey xs' k with
  | none =>
    rw [hp] at r
    exact (show False from r).elim
  | some p =>
    rw [hp] at r
    have rv : RelV v0 p.2 := r
    refine PySem.call_pop_heap (knd := tupleKind (mixKind X.prog X.w)) (k := k) (more := []) (.inl rfl) (PySem.F.args_dict_pop_2 _ _) (tupleKind_room_in1 hu) (key_of I.hok hb) hd dd hp (fun h' dd' hs => ?_) hz
    obtain ⟨o, es, ep, hq, h2, h3, h4, _, h5⟩ := dd'
    generalize s.toks + (tupleKind (mixKind X.prog X.w)).draws k = tk
    have I2 : Inv X pins σ (upd H a (.dT (dropK kvs k))) { s with heap := h', toks := tk } :=
      d_write I (by rw [ha]; exact True.intro) hs ⟨o, hq⟩ ⟨Nat.le_trans (dropK_le kvs k) z, hd, _, (KT_drop k rel).keeps (fun c ys ec => (by rw [upd_ne (ne_of ec ha (fun z => nomatch z))]; exact ec)), o, es, ep, hq, h2, h3, h4, h5⟩
    show EP X pins σ Q p.2 _
    exact ⟨v0, _, I2, rv, q1⟩
end
end Gp

set_option Elab.async false
set_option linter.all false
set_option maxRecDepth 100000
set_option autoImplicit false
set_option maxHeartbeats 4000000
namespace Gd
open PySem PySem.Spec PyProof.Rows L2
theorem hu65 {A : Around} {k : Nat} (hr : Room k A) : A.units + 65 < cLine := by have := hr.un; omega
/-! ### dicts of data compared -/
section
variable {X : Cx} {pins : List (Addr × Obj)} {σ : L2.St} {H : Hp} {s : Shared}
theorem hits_dd (I : L2.Inv X pins σ H s) (hu : X.A.units + 65 < cLine) {ls : List (Key × V)} {vb : List (Key × Value)} (rb : KV ls vb) {e e' : Key → PyData} {ks : List (Key × V)} {va : List (Key × Value)} (ra : KV ks va) :
    (∀ p ∈ ks, ∃ u, valV ls p.1 = some u ∧ Dp X.K H p.2 (e p.1) ∧ Dp X.K H u (e' p.1) ∧ SeqAt.shaped (e p.1) = true ∧ SeqAt.shaped (e' p.1) = true) → PySem.W.KeqHits X.A.in1 s vb va (ks.all fun p => PyData.eqv (e p.1) (e' p.1)) := by
  unfold KV at ra
  induction ra with
  | nil => intro _; exact .nil
  | @cons p q ps qs h t k =>
    intro hp
    obtain ⟨h1, h2⟩ := h
    obtain ⟨u, eu, dp, du, s1, s2⟩ := hp p List.mem_cons_self
    have rr : RelO (some u) (valueAt vb p.1) := by rw [← eu]; exact rb.val p.1
    obtain ⟨y, hy, ry⟩ := rr.some_of
    obtain ⟨key, v⟩ := q
    have h1' : p.1 = key := h1
    obtain ⟨as, r1⟩ := Dp.reads I _ _ _ dp h2
    obtain ⟨bs, r2⟩ := Dp.reads I _ _ _ du ry
    rw [List.all_cons]
    rw [h1'] at hy
    exact .hit hy (PySem.W.keq_at (A := X.A) r1 r2 s1 s2 (by show X.A.units + 1 + 64 < cLine; omega)) (k fun p' hm => hp p' (List.mem_cons_of_mem _ hm))
end
section
variable {X : Cx}
def DDs (K : PySem.W.Frag) (H : Hp) (x y : V) (r : Bool) : Prop := ∃ a b ks ls, ∃ e e' : Key → PyData, x = .ref a ∧ y = .ref b ∧ H a = some (.dK ks) ∧ H b = some (.dK ls) ∧ ks.length = ls.length ∧
  (∀ p ∈ ks, ∃ u, valV ls p.1 = some u ∧ Dp K H p.2 (e p.1) ∧ Dp K H u (e' p.1) ∧ SeqAt.shaped (e p.1) = true ∧ SeqAt.shaped (e' p.1) = true) ∧ (ks.all fun p => PyData.eqv (e p.1) (e' p.1)) = r
/-- two dicts of data, of the same keys -/
def rEqDD (K : PySem.W.Frag) : R2 := fun x y H Q => ∃ r, DDs K H x y r ∧ Q (.bl r) H
def rNeDD (K : PySem.W.Frag) : R2 := fun x y H Q => ∃ r, DDs K H x y r ∧ Q (.bl (!r)) H
theorem op_eqDD (hu : X.A.units + 65 < cLine) : OpR X (compareOp .Eq) (rEqDD X.K) := by
  intro pins s σ H x y v u Q I rx ry h
  obtain ⟨r, ⟨a, b, ks, ls, e, e', rfl, rfl, ea, eb, hlen, hp, rfl⟩, q⟩ := h
  obtain rfl : v = Value.ref a := rx
  obtain rfl : u = Value.ref b := ry
  obtain ⟨_, ya, va, ra, da⟩ := (show ObjOk X.prog X.w H s.heap a (.dK ks) from I.hok a _ ea)
  obtain ⟨_, yb, vb, rb, db⟩ := (show ObjOk X.prog X.w H s.heap b (.dK ls) from I.hok b _ eb)
  have hl : va.length = vb.length := by rw [← ra.length, ← rb.length]; exact hlen
  exact PySem.W.keq_eq (knd := mixKind X.prog X.w) (r := ks.all fun p => PyData.eqv (e p.1) (e' p.1)) ya yb da db (by omega) (fun _ => hits_dd I hu rb ra hp) (fin_bl I q (by rw [hl]; simp))
theorem op_neDD (hu : X.A.units + 65 < cLine) : OpR X (compareOp .NotEq) (rNeDD X.K) := by
  intro pins s σ H x y v u Q I rx ry h
  obtain ⟨r, ⟨a, b, ks, ls, e, e', rfl, rfl, ea, eb, hlen, hp, rfl⟩, q⟩ := h
  obtain rfl : v = Value.ref a := rx
  obtain rfl : u = Value.ref b := ry
  obtain ⟨_, ya, va, ra, da⟩ := (show ObjOk X.prog X.w H s.heap a (.dK ks) from I.hok a _ ea)
  obtain ⟨_, yb, vb, rb, db⟩ := (show ObjOk X.prog X.w H s.heap b (.dK ls) from I.hok b _ eb)
  have hl : va.length = vb.length := by rw [← ra.length, ← rb.length]; exact hlen
  exact PySem.W.keq_ne (knd := mixKind X.prog X.w) (r := ks.all fun p => PyData.eqv (e p.1) (e' p.1)) ya yb da db (by omega) (fun _ => hits_dd I hu rb ra hp) (fin_bl I q (by rw [hl]; simp))
end
end Gd
namespace Gd
open PySem PySem.Spec PyProof.Rows L2
def rLenS (K : PySem.W.Frag) : List V → Hp → VK → Prop := fun xs H Q => ∃ p ys, xs = [V.ref p] ∧ (SqL K H p ys ∨ SqT K H p ys) ∧ Q (V.int (ys.length : Nat)) H
end Gd

set_option Elab.async false
set_option linter.all false
set_option maxRecDepth 100000
set_option autoImplicit false
set_option maxHeartbeats 4000000
namespace Gd
open PySem PySem.Spec PyProof.Rows L2
/-! ### None compared with a dict -/
theorem dctEq_none (l : Addr) (es : Array DictEntry) (ep : Nat) :
    Meets (Builtin.«dict.__eq__» ⟨[.ref l, .none], []⟩) (fun _ R s => s.heap.get? l = some { cls := .type "dict", dict := none, data := .dict es ep, slots := #[] } ∧ R (.ok (.ret .notImplemented)) s) :=
  .of_wp fun prog w A R s h => by
    obtain ⟨hp, g, d, tk, os⟩ := s
    obtain ⟨hl, h⟩ := h
    have f1 := PySem.F.sub_NoneType_dict
    wp_walk using wpAny_loadPart' hl
    exact ⟨_, rfl, h⟩
section
variable {X : Cx}
def rEqDDn (K : PySem.W.Frag) : R2 := fun x y H Q => rEqDD K x y H Q ∨ (x = .non ∧ (∃ b ls, y = .ref b ∧ H b = some (.dK ls)) ∧ Q (.bl false) H)
theorem op_eqDDn (hu : X.A.units + 65 < cLine) : OpR X (compareOp .Eq) (rEqDDn X.K) := by
  intro pins s σ H x y v u Q I rx ry h
  rcases h with h | ⟨rfl, ⟨b, ls, rfl, eb⟩, q⟩
  · exact op_eqDD hu pins s σ H x y v u Q I rx ry h
  · cases rx
    obtain rfl : u = Value.ref b := ry
    obtain ⟨_, yb, vb, rb, db⟩ := (show ObjOk X.prog X.w H s.heap b (.dK ls) from I.hok b _ eb)
    obtain ⟨o, es, ep, ho, ⟨hc, hd, hs⟩, hdat, _⟩ := db
    obtain ⟨cls, dd, data, sl⟩ := o
    simp only at hc hd hs hdat
    subst hc hd hs hdat
    show wpAny _ X.A (richCompare .Eq _ _) _ _ s
    exact PySem.SeqAt.rc_eq_decline_or (k := false) rfl ⟨_, ho, rfl⟩ (by decide) PySem.F.sub_dict_NoneType PySem.F.slot_NoneType_eq PySem.F.slot_dict_eq_refl
      (fun _ hq => call_gives PySem.F.slot_NoneType_eq rfl PySem.F.entry_NoneType_eq (PySem.F.args_NoneType_eq_2 _ _) (PySem.SeqAt.NoneType___eq___none_ref_0 b) hq)
      (fun _ hq => call_meets PySem.F.slot_dict_eq_refl ⟨_, ho, rfl⟩ PySem.F.entry_dict_eq (PySem.F.args_dict_eq_2 _ _) (dctEq_none b es ep) ⟨ho, hq⟩)
      (fun _ hq => wpAny_of_eq (rfl : isSame .none (.ref b) = pure false) hq) (.inr (by omega)) (fin_bl I q (by simp))
end
end Gd

set_option Elab.async false
set_option linter.all false
set_option maxRecDepth 100000
set_option autoImplicit false
set_option maxHeartbeats 4000000
namespace Gd
open PySem PySem.Spec PyProof.Rows L2
/-! ### dict(zip(a, b)) of two lists -/
def tDictZip (K : PySem.W.Frag) (ta : TA) : TE := fun σ H Q => ta σ H fun vs H1 => ∃ (a b : Addr) (ks : List Key) (ys : List V), vs = [.ref a, .ref b] ∧ SqL K H1 a (ks.map kV) ∧ SqL K H1 b ys ∧ ks.length = ys.length ∧ ks.length ≤ 1000 ∧
  ∀ p, H1 p = none → Q (.ref p) (upd H1 p (.dK (mergeK [] (ks.zip ys))))
theorem vals_at {xs : List V} {us : List Value} (h : Vals xs us) : ∀ {i : Nat} {u : Value}, us[i]? = some u → ∃ x, xs[i]? = some x ∧ RelV x u := by
  induction h with
  | nil => intro i u e; cases e
  | cons a b ih =>
    intro i u e
    cases i with
    | zero => cases e; exact ⟨_, rfl, a⟩
    | succ i => exact ih e
/-- what a zip of keys and values makes -/
theorem kv_zip : ∀ {ks : List Key} {us : List Value} {ys : List V} {ws : List Value}, Vals (ks.map kV) us → Vals ys ws → ks.length = ys.length → KV (ks.zip ys) (ks.zip ws)
  | [], _, [], _, _, _, _ => .nil
  | k :: ks, _, y :: ys, _, .cons a r1, .cons b r2, e => .cons ⟨rfl, b⟩ (kv_zip r1 r2 (Nat.succ.inj e))
section
variable {X : Cx}
theorem pe_dictZip {e e2 : Expr} {ta : TA} {p p2 pos cpos : Pos} (hc : X.calm = true) (hgd : Gl X "dict") (hmd : X.mg "dict" = none) (hg : Gl X "zip") (hm : X.mg "zip" = none) (ha : PA X [e, e2] ta)
    (hs1 : starEach [.Call (.Name "zip" p2) [e, e2] [] cpos] X.env = (false, eval (.Call (.Name "zip" p2) [e, e2] [] cpos) X.env) :: starEach [] X.env := by rfl)
    (hs : starEach [e, e2] X.env = (false, eval e X.env) :: starEach [e2] X.env := by rfl) (hpl : (backTo cpos (starEach [e2] X.env)).any (·.1) = false := by rfl) :
    PE X (.Call (.Name "dict" p) [.Call (.Name "zip" p2) [e, e2] [] cpos] [] pos) (tDictZip X.K ta) := by
  refine ⟨fun pins s σ H Q I h => ?_⟩
  refine wpAny_Call_Name_kw (ld_blt I hgd hmd (by decide +kernel : bootBuiltins "dict" = some (.type "dict")) ?_)
  refine PyProof.Rows.callWith_type1 ?_ hs1 rfl
  rw [hs1]
  show wpAny _ _ (spliced ((false, eval (.Call (.Name "zip" p2) [e, e2] [] cpos) X.env) :: backTo pos (starEach [] X.env))) _ _ s
  refine Calls.spliced_cons ?_
  refine Call_ (ld_blt I hg hm PyProof.Rows.boot_zip (PyProof.Rows.callWith_type1 (thn (ha.run cpos pins s σ H _ I h) fun us s1 ⟨vs, H1, I1, r1, q1⟩ => ?_) hs hpl))
  obtain ⟨a, b, ks, ys, ex, hqx, hqy, hl, hz, q⟩ := q1
  subst ex
  cases r1 with
  | cons r rr =>
    cases rr with
    | cons r' rr =>
      cases rr
      cases r
      cases r'
      obtain ⟨its, rv, pl1, _⟩ := I1.list hqx
      obtain ⟨its2, rv2, pl2, _⟩ := I1.list hqy
      have la : a < s1.heap.objs.size := pl1.lt
      have lb : b < s1.heap.objs.size := pl2.lt
      have D := PySem.W.ktu_apart s1.heap.objs.size a b la lb
      refine call_zip_2 pl1.isList pl2.isList fun h' hz' hTI hTO h1 h2 hsz hk => ?_
      refine Calls.spliced_nil ?_
      have I2 : Inv X pins σ H1 { s1 with heap := h' } := I1.kept (t' := s1.toks) hk
      have l1 := rv.length
      have l2 := rv2.length
      rw [List.length_map] at l1
      have lz : (ks.zip its2).length = min its.toArray.size its2.toArray.size := by
        rw [List.length_zip, List.size_toArray, List.size_toArray]
        omega
      have fresh : ∀ c, s1.heap.objs.size ≤ c → FpOk X pins H1 c := fun c hle => I1.fpOk hle (I1.hok.fresh hle)
      have kl1 : h'.IsList a its.toArray := pl1.isList.at fun o z => hk _ _ z
      have kl2 : h'.IsList b its2.toArray := pl2.isList.at fun o z => hk _ _ z
      refine PySem.call_dict_pairs (A := X.A) (knd := mixKind X.prog X.w) (kvs := ks.zip its2) (PySem.PairArg.zip _ _ _ _ _ _ _ D its.toArray its2.toArray) (I2.ok.hd hc) ⟨hz', hTI, ⟨_, _, hTO⟩, h1, h2, kl1, kl2⟩ ⟨lz, fun i key v hr => ?_⟩ ?_ fun h'' tk hd'' hk2 => ?_
      · obtain ⟨e1, e2⟩ := hr
        have e1' : its[i]? = some key := by simpa using e1
        have e2' : its2[i]? = some v := by simpa using e2
        obtain ⟨x, ex, rx⟩ := vals_at rv e1'
        rw [List.getElem?_map] at ex
        obtain ⟨k, ek, rfl⟩ := Option.map_eq_some_iff.mp ex
        exact ⟨k, by rw [List.getElem?_zip_eq_some]; exact ⟨ek, e2'⟩, kV_is rx⟩
      · rw [← lz, List.length_zip]
        exact Nat.le_trans (by omega : _ ≤ 1000) (by decide)
      · have hn : (h'.objs.size == sysModules) = false := beq_eq_false_iff_ne.mpr (Nat.ne_of_gt I2.big)
        have kvz := kv_zip rv rv2 hl
        have hlen : (mergeK [] (ks.zip ys)).length ≤ sizeLine := by
          refine Nat.le_trans (length_mergeK (ks.zip ys) []) ?_
          rw [List.length_nil, Nat.zero_add, List.length_zip]
          exact Nat.le_trans (by omega : _ ≤ 1000) (by decide)
        refine ⟨.ref h'.objs.size, upd H1 h'.objs.size (.dK (mergeK [] (ks.zip ys))), ?_, rfl, q _ (I2.hok.fresh (Nat.le_refl _))⟩
        refine I2.turnedNew (t' := tk) (ch := [s1.heap.objs.size + 4, s1.heap.objs.size + 3, s1.heap.objs.size, s1.heap.objs.size + 1]) hk2 (fun c hcm => fresh c ?_) (Nat.le_refl _) (show ObjOk X.prog X.w _ _ _ (.dK (mergeK [] (ks.zip ys))) from ⟨hlen, hn, merged [] (ks.zip its2), KV.merge kvz .nil, hd''⟩)
        simp only [List.mem_cons, List.not_mem_nil, or_false] at hcm
        rcases hcm with z | z | z | z
        · rw [z]; exact Nat.le_add_right _ _
        · rw [z]; exact Nat.le_add_right _ _
        · rw [z]; exact Nat.le_refl _
        · rw [z]; exact Nat.le_add_right _ _
end
/-! ### lists of dicts and data compared, where they are equal -/
section
variable {X : Cx} {pins : List (Addr × Obj)} {σ : L2.St} {H : Hp} {s : Shared}
theorem hu66 {A : Around} {k : Nat} (hr : Room k A) : A.units + 66 < cLine := by have := hr.un; omega
def ItE (K : PySem.W.Frag) (H : Hp) (x y : V) : Prop := (∃ d e, Dp K H x d ∧ Dp K H y e ∧ SeqAt.shaped d = true ∧ SeqAt.shaped e = true ∧ PyData.eqv d e = true) ∨ (x ≠ y ∧ DDs K H x y true)
theorem hits_ddP (I : L2.Inv X pins σ H s) {A : Around} (hu : A.in1.units + 64 < cLine) {ls : List (Key × V)} {vb : List (Key × Value)} (rb : KV ls vb) {e e' : Key → PyData} {ks : List (Key × V)} {va : List (Key × Value)} (ra : KV ks va) :
    (∀ p ∈ ks, ∃ u, valV ls p.1 = some u ∧ Dp X.K H p.2 (e p.1) ∧ Dp X.K H u (e' p.1) ∧ SeqAt.shaped (e p.1) = true ∧ SeqAt.shaped (e' p.1) = true) → PySem.W.KeqHitsP X.prog X.w A.in1 s vb va (ks.all fun p => PyData.eqv (e p.1) (e' p.1)) := by
  unfold KV at ra
  induction ra with
  | nil => intro _; exact .nil
  | @cons p q ps qs h t k =>
    intro hp
    obtain ⟨h1, h2⟩ := h
    obtain ⟨u, eu, dp, du, s1, s2⟩ := hp p List.mem_cons_self
    have rr : RelO (some u) (valueAt vb p.1) := by rw [← eu]; exact rb.val p.1
    obtain ⟨y, hy, ry⟩ := rr.some_of
    obtain ⟨key, v⟩ := q
    have h1' : p.1 = key := h1
    obtain ⟨as, r1⟩ := Dp.reads I _ _ _ dp h2
    obtain ⟨bs, r2⟩ := Dp.reads I _ _ _ du ry
    rw [List.all_cons]
    rw [h1'] at hy
    exact .hit hy (SeqAt.EqAt.eqP (PySem.W.keq_at (A := A) r1 r2 s1 s2 hu)) (k fun p' hm => hp p' (List.mem_cons_of_mem _ hm))
theorem itE_run (I : L2.Inv X pins σ H s) {A : Around} (hu : A.units + 66 < cLine) {x y : V} {v u : Value} (h : ItE X.K H x y) (rx : RelV x v) (ry : RelV y u) : SeqAt.EqP X.prog X.w A.in1 s v u true := by
  rcases h with ⟨d, e, dx, dy, sx, sy, eq⟩ | ⟨ne, a, b, ks, ls, e, e', rfl, rfl, ea, eb, hlen, hp, hr⟩
  · obtain ⟨as, r1⟩ := Dp.reads I _ _ _ dx rx
    obtain ⟨bs, r2⟩ := Dp.reads I _ _ _ dy ry
    rw [← eq]
    exact SeqAt.EqAt.eqP (PySem.W.keq_at (A := A) r1 r2 sx sy (by show A.units + 1 + 64 < cLine; omega))
  · obtain rfl : v = Value.ref a := rx
    obtain rfl : u = Value.ref b := ry
    obtain ⟨_, ya, va, ra, da⟩ := (show ObjOk X.prog X.w H s.heap a (.dK ks) from I.hok a _ ea)
    obtain ⟨_, yb, vb, rb, db⟩ := (show ObjOk X.prog X.w H s.heap b (.dK ls) from I.hok b _ eb)
    have hl : va.length = vb.length := by rw [← ra.length, ← rb.length]; exact hlen
    refine SeqAt.eqP_refs (fun z => ne (by rw [z])) fun E Q hq => ?_
    have hh := hits_ddP (A := A.in1) I (by show A.units + 1 + 1 + 64 < cLine; omega) rb ra hp
    rw [hr] at hh
    refine PySem.W.rcP_dicts (knd := mixKind X.prog X.w) (r := true) ya yb da db (by show A.units + 1 < cLine; omega) (fun _ => hh) E Q ?_
    rw [hl]
    simpa using hq
end
section
variable {X : Cx}
/-- two lists, item by item equal -/
def rEqLs (K : PySem.W.Frag) : R2 := fun x y H Q => ∃ a b xs ys, x = .ref a ∧ y = .ref b ∧ H a = some (.lst xs) ∧ H b = some (.lst ys) ∧ Paired (ItE K H) xs ys ∧ Q (.bl true) H
theorem op_eqLs (hu : X.A.units + 66 < cLine) : OpR X (compareOp .Eq) (rEqLs X.K) := by
  intro pins s σ H x y v u Q I rx ry h
  obtain ⟨a, b, xs, ys, rfl, rfl, ha, hb, hp, q⟩ := h
  obtain rfl : v = Value.ref a := rx
  obtain rfl : u = Value.ref b := ry
  obtain ⟨us, r1, p1, _⟩ := I.list (show SqL X.K H a xs from .inl (.inl ha))
  obtain ⟨ws, r2, p2, _⟩ := I.list (show SqL X.K H b ys from .inl (.inl hb))
  have hsz : us.toArray.size = ws.toArray.size := by
    rw [List.size_toArray, List.size_toArray, ← r1.length, ← r2.length]
    exact Paired.length hp
  show wpAny _ X.A (richCompare .Eq _ _) _ _ s
  refine SeqAt.rcP_lists (e := fun _ => true) p1.isList p2.isList hsz (by omega) (fun j h1 h2 => ?_) _ _ ?_
  · have k := L2.items_run (fun x y v u f rx ry => itE_run I (A := X.A) (by omega) f rx ry) hp r1 r2 j (by simpa using h1) (by simpa using h2)
    simpa using k
  · rw [show ((List.range us.toArray.size).all fun _ => true) = true from List.all_eq_true.mpr fun _ _ => rfl]
    exact ⟨.bl true, H, I, rfl, q⟩
end
end Gd

set_option Elab.async false
set_option linter.all false
set_option maxRecDepth 100000
set_option autoImplicit false
set_option maxHeartbeats 4000000
namespace Gd
open PySem PySem.Spec PyProof.Rows L2
/-! ### list(d.values()) -/
def tListVals (te : TE) : TE := fun σ H Q => te σ H fun x H1 => ∃ (d : Addr) (kvs : List (Key × V)), x = .ref d ∧ H1 d = some (.dK kvs) ∧ ∀ p, H1 p = none → Q (.ref p) (upd H1 p (.lst (kvs.map (·.2))))
theorem vals_pt : ∀ {xs : List V} {us : List Value}, xs.length = us.length → (∀ (i : Nat) (x : V) (u : Value), xs[i]? = some x → us[i]? = some u → RelV x u) → Vals xs us
  | [], [], _, _ => .nil
  | _ :: _, _ :: _, e, h => .cons (h 0 _ _ rfl rfl) (vals_pt (Nat.succ.inj e) fun i x u h1 h2 => h (i + 1) x u h1 h2)
section
variable {X : Cx} {e : Expr} {te : TE} {p apos cpos pos : Pos}
theorem pe_listVals (hc : X.calm = true) (he : PE X e te) (hg : Gl X "list") (hm : X.mg "list" = none) (hv : bootBuiltins "list" = some (.type "list")) (hbase : attributeBase e "values" X.env (eval e X.env) = eval e X.env := by rfl) (hline : (apos.endLine == cpos.line) = true := by rfl)
    (hs : starEach [.Call (.Attribute e "values" apos) [] [] cpos] X.env = (false, eval (.Call (.Attribute e "values" apos) [] [] cpos) X.env) :: starEach [] X.env := by rfl) :
    PE X (.Call (.Name "list" p) [.Call (.Attribute e "values" apos) [] [] cpos] [] pos) (tListVals te) := by
  refine ⟨fun pins s σ H Q I hq => wpAny_Call_Name_kw (ld_blt I hg hm hv (PyProof.Rows.callWith_type1 ?_ hs rfl))⟩
  rw [hs]
  show wpAny _ _ (spliced ((false, eval (.Call (.Attribute e "values" apos) [] [] cpos) X.env) :: backTo pos (starEach [] X.env))) _ _ s
  refine Calls.spliced_cons (wpAny_Call_method (T := "dict") (id := "dict.values") hbase rfl hline PySem.F.plainAttrs_dict PySem.F.slot_dict_values PySem.F.type_dict_values (thn (he.run pins s σ H _ I hq) fun u s1 ⟨x, H1, I1, rx, d, kvs, ex, hd, q⟩ => ?_))
  subst ex
  obtain rfl : u = Value.ref d := rx
  obtain ⟨hz, hs0, vs, kv, hdo⟩ := I1.hok d _ hd
  obtain ⟨ep, hat⟩ := hdo.dictAt
  have lk : kvs.length = vs.length := Paired.length kv
  have I2 : Inv X pins σ H1 { s1 with heap := s1.heap.push { cls := .type "dict_values", data := .fields #[.ref d] } } := I1.kept (t' := s1.toks) fun b ob q => Heap.get?_push_of_some _ q
  refine ⟨hdo.typeIs, hdo.mapOf.noDict, ?_⟩
  show wpAny _ _ (callWith cpos (.builtin "dict.values") [.ref d] [] []) _ X.xe s1
  refine method_meetsIn PySem.F.slot_dict_values PySem.F.entry_dict_values rfl (PySem.evalArgs_none ⟨rfl, hdo.typeIs, PySem.F.args_dict_values_1 _, _, meets_dict_values (mixKind X.prog X.w) d hs0, ⟨vs, hdo⟩, Calls.spliced_nil ?_⟩)
  refine PySem.W.kdl_call (PySem.W.kdl_values (knd := mixKind X.prog X.w) (kvs := vs) (ep := ep)) (I1.ok.hd hc) ⟨⟨_, Heap.get?_push_size _ rfl, rfl, rfl⟩, hat.push _⟩ (by omega) fun h' tk acc c hk hS hacc => ?_
  have hlen : (kvs.map (·.2)).length = acc.toList.length := by
    have z : acc.toList.length = vs.length := by rw [Array.length_toList]; exact hacc.1
    rw [List.length_map, z, lk]
  refine ⟨.ref _, upd H1 _ (.lst (kvs.map (·.2))), I2.laid (t' := tk) hk (Nat.le_refl _) (show ObjOk X.prog X.w _ _ _ (.lst (kvs.map (·.2))) from ⟨by rw [List.length_map]; exact hz, acc.toList, c, vals_pt hlen fun i x u ex eu => ?_, by rw [Array.toArray_toList]; exact hS⟩), rfl, q _ (I2.hok.fresh (Nat.le_refl _))⟩
  rw [List.getElem?_map] at ex
  obtain ⟨kx, ek, rfl⟩ := Option.map_eq_some_iff.mp ex
  obtain ⟨k, evs⟩ := hacc.2 i u (by rw [← Array.getElem?_toList]; exact eu)
  have pg : ∀ {xs : List (Key × V)} {ys : List (Key × Value)}, KV xs ys → ∀ {i : Nat} {a : Key × V} {b : Key × Value}, xs[i]? = some a → ys[i]? = some b → RelV a.2 b.2 := fun {xs ys} h => by
    unfold KV at h
    induction h with
    | nil => intro i a b e1 e2; cases e1
    | cons h t ih =>
      intro i a b e1 e2
      cases i with
      | zero => cases e1; cases e2; exact h.2
      | succ i => exact ih e1 e2
  exact pg kv ek evs
end
end Gd

set_option Elab.async false
set_option linter.all false
set_option maxRecDepth 100000
set_option autoImplicit false
set_option maxHeartbeats 4000000
namespace Gd
open PySem PySem.Spec PyProof.Rows L2
/-! ### list.count of texts -/
def eqs (k : Str) (v : Value) : Bool := match v with
  | .str n _ => n.cps.toList == k.cps.toList
  | _ => false
theorem eqs_gives {k : Str} {t : Tok} : ∀ {us : List Value} {ns : List Str}, StrsAre us ns → ∀ y ∈ us, MeetsSeq.EqGives y (.str k t) (eqs k y)
  | _, _, .nil => fun y hy => by cases hy
  | _, _, .cons n t' h => fun y hy => by
    rcases List.mem_cons.mp hy with e | e
    · rw [e]
      exact PySem.SeqRoads2.EqGives.str n k t' t
    · exact eqs_gives h y e
theorem str_ext {a b : Str} (h : a.cps.toList = b.cps.toList) : a = b := by
  cases a with
  | mk xs => cases b with
    | mk ys =>
      have e' : xs.toList = ys.toList := h
      rw [Array.toList_inj.mp e']
theorem eqs_count {k : Str} : ∀ {us : List Value} {ns : List Str}, StrsAre us ns → us.countP (eqs k) = ns.count k
  | _, _, .nil => rfl
  | _, _, .cons n t h => by
    have ih := eqs_count (k := k) h
    rw [List.countP_cons, List.count_cons, ih]
    have e : eqs k (.str n t) = (n == k) := by
      show (n.cps.toList == k.cps.toList) = (n == k)
      rw [Bool.eq_iff_iff, beq_iff_eq, beq_iff_eq]
      exact ⟨str_ext, fun e => by rw [e]⟩
    rw [e]
section
variable {X : Cx}
def rCntS (K : PySem.W.Frag) : V → List V → Hp → VK → Prop := fun x xs H Q => ∃ (p : Addr) (ns : List Str) (k : Str), x = .ref p ∧ xs = [.str k] ∧ SqL K H p (ns.map V.str) ∧ Q (.int (ns.count k : Nat)) H
theorem mt_lcountS : MtR X "list.count" (rCntS X.K) := by
  intro pins s σ H x xs v us Q I rx rxs h
  obtain ⟨p, ns, k, rfl, rfl, hs, q⟩ := h
  cases rx
  obtain ⟨u, rfl, ru⟩ := rxs.one
  obtain ⟨t, rfl⟩ := ru
  obtain ⟨its, rv, ⟨⟨cls, dd, data, sl⟩, n, ho, hc, hdn, hd⟩, hlen⟩ := I.list hs
  simp only at hc hd
  subst hc hd
  have hi := strs_of_vals rv
  refine call_meets PySem.F.slot_list_count ⟨_, ho, rfl⟩ PySem.F.entry_list_count (PySem.F.args_list_count_2 _ _)
    (SeqAt.list_countAt p its.toArray n dd sl (.str k t) (eqs k)) ⟨ho, fun y hy => (eqs_gives hi y (by simpa using hy)).at _ _, ?_⟩
  have ec : its.toArray.toList.countP (eqs k) = ns.count k := eqs_count hi
  refine ⟨.int (ns.count k : Nat), H, I.tok _, ⟨s.toks, ?_⟩, q⟩
  show Value.int ((its.toArray.toList.countP (eqs k) : Nat) : Int) s.toks = Value.int ((ns.count k : Nat) : Int) s.toks
  rw [ec]
end
end Gd

namespace Pk09
open PySem PySem.Spec PyProof.Rows L2 Gd
def topS (i : Nat) : Stmt := PySem.Challenge.pw_tightranges_k09_errors_of_systems.main.body.getD i (.Pass ⟨0, 0, 0, 0⟩)
abbrev s_is_upside_down : Stmt := topS 13
theorem sc_is_upside_down : FnScope ["one", "low", "high"] ["one"] (defScope s_is_upside_down) := ⟨rfl, rfl, rfl, by decide +kernel, rfl, by decide +kernel, by decide +kernel⟩
abbrev s_check_range : Stmt := topS 14
theorem sc_check_range : FnScope ["one"] ["one"] (defScope s_check_range) := ⟨rfl, rfl, rfl, by decide +kernel, rfl, by decide +kernel, by decide +kernel⟩
abbrev s__taken : Stmt := topS 16
theorem sc__taken : FnScope ["bound", "factor", "add"] ["bound", "factor", "add"] (defScope s__taken) := ⟨rfl, rfl, rfl, by decide +kernel, rfl, by decide +kernel, by decide +kernel⟩
abbrev s_stepped : Stmt := topS 15
theorem sc_stepped : FnScope ["one", "factor", "add", "ends"] ["one", "factor", "add"] (defScope s_stepped) := ⟨rfl, rfl, rfl, by decide +kernel, rfl, by decide +kernel, by decide +kernel⟩
abbrev s__law_draw : Stmt := topS 32
theorem sc__law_draw : FnScope ["rng", "limit", "digit", "blend"] ["rng", "limit"] (defScope s__law_draw) := ⟨rfl, rfl, rfl, by decide +kernel, rfl, by decide +kernel, by decide +kernel⟩
abbrev s__law_rng : Stmt := topS 31
theorem sc__law_rng : FnScope ["script", "digits", "seed", "number", "far"] ["script"] (defScope s__law_rng) := ⟨rfl, rfl, rfl, by decide +kernel, rfl, by decide +kernel, by decide +kernel⟩
abbrev s__names_of : Stmt := topS 22
theorem sc__names_of : FnScope ["rule", "named", "condition"] ["rule"] (defScope s__names_of) := ⟨rfl, rfl, rfl, by decide +kernel, rfl, by decide +kernel, by decide +kernel⟩
abbrev s__ranges_of : Stmt := topS 23
theorem sc__ranges_of : FnScope ["rule", "condition"] ["rule"] (defScope s__ranges_of) := ⟨rfl, rfl, rfl, by decide +kernel, rfl, by decide +kernel, by decide +kernel⟩
abbrev s_is_faulty : Stmt := topS 18
theorem sc_is_faulty : FnScope ["rule", "names", "name", "one"] ["rule", "names"] (defScope s_is_faulty) := ⟨rfl, rfl, rfl, by decide +kernel, rfl, by decide +kernel, by decide +kernel⟩
abbrev s_is_name : Stmt := topS 25
theorem sc_is_name : FnScope ["text", "sign"] ["text"] (defScope s_is_name) := ⟨rfl, rfl, rfl, by decide +kernel, rfl, by decide +kernel, by decide +kernel⟩
abbrev s__check_system : Stmt := topS 28
theorem sc__check_system : FnScope ["names", "rules", "earlier", "name", "number", "rule"] ["names", "rules"] (defScope s__check_system) := ⟨rfl, rfl, rfl, by decide +kernel, rfl, by decide +kernel, by decide +kernel⟩
abbrev s_System___init__ : Stmt := inClass (topS 29) 0
theorem sc_System___init__ : FnScope ["self", "names", "rules"] ["self", "names", "rules"] (defScope s_System___init__) := ⟨rfl, rfl, rfl, by decide +kernel, rfl, by decide +kernel, by decide +kernel⟩
abbrev s_System___len__ : Stmt := inClass (topS 29) 1
theorem sc_System___len__ : FnScope ["self"] ["self"] (defScope s_System___len__) := ⟨rfl, rfl, rfl, by decide +kernel, rfl, by decide +kernel, by decide +kernel⟩
abbrev s_System_names : Stmt := inClass (topS 29) 3
theorem sc_System_names : FnScope ["self"] ["self"] (defScope s_System_names) := ⟨rfl, rfl, rfl, by decide +kernel, rfl, by decide +kernel, by decide +kernel⟩
abbrev s_System_rules : Stmt := inClass (topS 29) 4
theorem sc_System_rules : FnScope ["self"] ["self"] (defScope s_System_rules) := ⟨rfl, rfl, rfl, by decide +kernel, rfl, by decide +kernel, by decide +kernel⟩
abbrev s_System___eq__ : Stmt := inClass (topS 29) 2
theorem sc_System___eq__ : FnScope ["self", "other"] ["self", "other"] (defScope s_System___eq__) := ⟨rfl, rfl, rfl, by decide +kernel, rfl, by decide +kernel, by decide +kernel⟩
abbrev s__law_words : Stmt := topS 33
theorem sc__law_words : FnScope ["rng", "many", "left", "some", "turn", "word"] ["rng", "many"] (defScope s__law_words) := ⟨rfl, rfl, rfl, by decide +kernel, rfl, by decide +kernel, by decide +kernel⟩
abbrev s__law_end : Stmt := topS 34
theorem sc__law_end : FnScope ["rng", "far"] ["rng", "far"] (defScope s__law_end) := ⟨rfl, rfl, rfl, by decide +kernel, rfl, by decide +kernel, by decide +kernel⟩
abbrev s__law_within : Stmt := topS 35
theorem sc__law_within : FnScope ["rng", "far", "low", "high"] ["rng", "far"] (defScope s__law_within) := ⟨rfl, rfl, rfl, by decide +kernel, rfl, by decide +kernel, by decide +kernel⟩
abbrev s__law_rule : Stmt := topS 36
theorem sc__law_rule : FnScope ["rng", "words", "far", "conditions", "turn", "first", "last", "size", "plus"] ["rng", "words", "far"] (defScope s__law_rule) := ⟨rfl, rfl, rfl, by decide +kernel, rfl, by decide +kernel, by decide +kernel⟩
abbrev s__law_rows : Stmt := topS 37
theorem sc__law_rows : FnScope ["rng", "words", "most", "far", "rows", "low", "turn"] ["rng", "words", "most"] (defScope s__law_rows) := ⟨rfl, rfl, rfl, by decide +kernel, rfl, by decide +kernel, by decide +kernel⟩
abbrev s__law_shown : Stmt := topS 39
theorem sc__law_shown : FnScope ["made"] ["made"] (defScope s__law_shown) := ⟨rfl, rfl, rfl, by decide +kernel, rfl, by decide +kernel, by decide +kernel⟩
abbrev s_check_number : Stmt := topS 26
theorem sc_check_number : FnScope ["system", "number"] ["system", "number"] (defScope s_check_number) := ⟨rfl, rfl, rfl, by decide +kernel, rfl, by decide +kernel, by decide +kernel⟩
abbrev s_check_name : Stmt := topS 27
theorem sc_check_name : FnScope ["system", "name"] ["system", "name"] (defScope s_check_name) := ⟨rfl, rfl, rfl, by decide +kernel, rfl, by decide +kernel, by decide +kernel⟩
abbrev s__changed_range : Stmt := topS 21
theorem sc__changed_range : FnScope ["name", "one", "times", "shifts"] ["name", "one", "times", "shifts"] (defScope s__changed_range) := ⟨rfl, rfl, rfl, by decide +kernel, rfl, by decide +kernel, by decide +kernel⟩
abbrev s_changed_rule : Stmt := topS 20
theorem sc_changed_rule : FnScope ["rule", "times", "shifts", "conditions", "x", "y", "factor", "add", "within", "changed_add", "name", "one"] ["rule", "times", "shifts"] (defScope s_changed_rule) := ⟨rfl, rfl, rfl, by decide +kernel, rfl, by decide +kernel, by decide +kernel⟩
abbrev s_System__changed : Stmt := inClass (topS 29) 12
theorem sc_System__changed : FnScope ["self", "times", "shifts", "rule"] ["self", "times", "shifts"] (defScope s_System__changed) := ⟨rfl, rfl, rfl, by decide +kernel, rfl, by decide +kernel, by decide +kernel⟩
abbrev s_renamed_rule : Stmt := topS 19
theorem sc_renamed_rule : FnScope ["rule", "names", "conditions", "x", "y", "factor", "add", "within", "name", "one"] ["rule", "names"] (defScope s_renamed_rule) := ⟨rfl, rfl, rfl, by decide +kernel, rfl, by decide +kernel, by decide +kernel⟩
abbrev s_RangeError___init__ : Stmt := inClass (topS 2) 0
theorem sc_RangeError___init__ : FnScope ["self", "value"] ["self", "value"] (defScope s_RangeError___init__) := ⟨rfl, rfl, rfl, by decide +kernel, rfl, by decide +kernel, by decide +kernel⟩
abbrev s__law_caught : Stmt := topS 38
theorem sc__law_caught : FnScope ["e", "some", "words", "word", "so"] ["e"] (defScope s__law_caught) := ⟨rfl, rfl, rfl, by decide +kernel, rfl, by decide +kernel, by decide +kernel⟩
abbrev s__check_systemE : Stmt := topS 28
theorem sc__check_systemE : FnScope ["names", "rules", "earlier", "name", "number", "rule"] ["names", "rules"] (defScope s__check_systemE) := ⟨rfl, rfl, rfl, by decide +kernel, rfl, by decide +kernel, by decide +kernel⟩
abbrev s_System___initE__ : Stmt := inClass (topS 29) 0
theorem sc_System___initE__ : FnScope ["self", "names", "rules"] ["self", "names", "rules"] (defScope s_System___initE__) := ⟨rfl, rfl, rfl, by decide +kernel, rfl, by decide +kernel, by decide +kernel⟩
abbrev s_System_without : Stmt := inClass (topS 29) 5
theorem sc_System_without : FnScope ["self", "numbers", "number", "at", "rule"] ["self", "numbers"] (defScope s_System_without) := ⟨rfl, rfl, rfl, by decide +kernel, rfl, by decide +kernel, by decide +kernel⟩
abbrev s_System_with_rule : Stmt := inClass (topS 29) 6
theorem sc_System_with_rule : FnScope ["self", "rule"] ["self", "rule"] (defScope s_System_with_rule) := ⟨rfl, rfl, rfl, by decide +kernel, rfl, by decide +kernel, by decide +kernel⟩
abbrev s_System_beside : Stmt := inClass (topS 29) 7
theorem sc_System_beside : FnScope ["self", "other"] ["self", "other"] (defScope s_System_beside) := ⟨rfl, rfl, rfl, by decide +kernel, rfl, by decide +kernel, by decide +kernel⟩
abbrev s_System_moved : Stmt := inClass (topS 29) 10
theorem sc_System_moved : FnScope ["self", "shifts", "name"] ["self", "shifts"] (defScope s_System_moved) := ⟨rfl, rfl, rfl, by decide +kernel, rfl, by decide +kernel, by decide +kernel⟩
abbrev s_System_stretched : Stmt := inClass (topS 29) 11
theorem sc_System_stretched : FnScope ["self", "times"] ["self", "times"] (defScope s_System_stretched) := ⟨rfl, rfl, rfl, by decide +kernel, rfl, by decide +kernel, by decide +kernel⟩
abbrev s_System_renamed : Stmt := inClass (topS 29) 8
theorem sc_System_renamed : FnScope ["self", "names", "old", "full", "told", "name", "rule"] ["self", "names"] (defScope s_System_renamed) := ⟨rfl, rfl, rfl, by decide +kernel, rfl, by decide +kernel, by decide +kernel⟩
abbrev s__law_raised : Stmt := topS 40
theorem sc__law_raised : FnScope ["door", "made", "given", "e"] ["door", "made", "given"] (defScope s__law_raised) := ⟨rfl, rfl, rfl, by decide +kernel, rfl, by decide +kernel, by decide +kernel⟩
abbrev s__law_renamed_due : Stmt := topS 41
theorem sc__law_renamed_due : FnScope ["words", "turned", "old", "later", "new", "odd", "word", "sign"] ["words", "turned"] (defScope s__law_renamed_due) := ⟨rfl, rfl, rfl, by decide +kernel, rfl, by decide +kernel, by decide +kernel⟩
abbrev s__law_beside_right : Stmt := topS 43
theorem sc__law_beside_right : FnScope ["rng", "made", "words", "free", "shared", "word"] ["rng", "made", "words"] (defScope s__law_beside_right) := ⟨rfl, rfl, rfl, by decide +kernel, rfl, by decide +kernel, by decide +kernel⟩
abbrev s__law_rules_right : Stmt := topS 42
theorem sc__law_rules_right : FnScope ["rng", "made", "words", "rows", "far", "gone", "wrong", "word", "most", "odd", "told", "spot", "row"] ["rng", "made", "words", "rows"] (defScope s__law_rules_right) := ⟨rfl, rfl, rfl, by decide +kernel, rfl, by decide +kernel, by decide +kernel⟩
abbrev s_law : Stmt := topS 44
theorem sc_law : FnScope ["script", "rng", "lap", "words", "rows", "made", "kept", "turn", "turned", "more", "old", "odd", "steps", "size"] ["script"] (defScope s_law) := ⟨rfl, rfl, rfl, by decide +kernel, rfl, by decide +kernel, by decide +kernel⟩
/-- low above high -/
def up : Rg → Bool
  | some (some l, some h) => decide (l > h)
  | _ => false
theorem up_ok {r : Rg} (h : RgFit r) : up r = false := by
  match r, h with
  | none, _ => rfl
  | some (none, _), _ => rfl
  | some (some _, none), _ => rfl
  | some (some l, some h), q =>
    have q' : l ≤ h := q
    exact decide_eq_false (by omega)
def gr : Option Int → Option Int → Option Int
  | none, b => b
  | some a, none => some a
  | some a, some b => some (if b > a then b else a)
def le2 : Option Int → Option Int → Option Int
  | none, b => b
  | some a, none => some a
  | some a, some b => some (if b < a then b else a)
def comR : Rg → Rg → Rg
  | some (l1, h1), some (l2, h2) => if up (some (gr l1 l2, le2 h1 h2)) = true then none else some (gr l1 l2, le2 h1 h2)
  | _, _ => none
def oD : Option Int → PyData
  | none => .none
  | some i => .int i
def rgD : Rg → PyData
  | none => .none
  | some (l, h) => .tuple [oD l, oD h]
theorem dp_ov {K : PySem.W.Frag} {H : Hp} (o : Option Int) : Dp K H (ov o) (oD o) := by
  cases o with
  | none => exact .non
  | some i => exact .int i
theorem dp_rg {K : PySem.W.Frag} {H : Hp} {v : V} {r : Rg} (h : RgV K H v r) : Dp K H v (rgD r) := by
  match r, h with
  | none, h =>
    have h' : v = .non := h
    subst h'
    exact .non
  | some (l, u), h =>
    obtain ⟨p, rfl, s⟩ := h
    exact .tup s (.cons (dp_ov l) (.cons (dp_ov u) .nil))


def sp_is_upside_down (K : PySem.W.Frag) : Sp := fun vs H Q _ => ∃ v r, vs = [v] ∧ RgV K H v r ∧ Q (.bl (up r)) H

def sp_check_range (K : PySem.W.Frag) : Sp := fun vs H Q _ => ∃ v r, vs = [v] ∧ RgV K H v r ∧ RgFit r ∧ Q .non H





theorem eqv_oD (a b : Option Int) : PyData.eqv (oD a) (oD b) = decide (a = b) := by
  cases a with
  | none => cases b <;> simp [oD, PyData.eqv]
  | some x =>
    cases b with
    | none => simp [oD, PyData.eqv]
    | some y => by_cases h : x = y <;> simp [oD, PyData.eqv, h]
theorem eqv_rgD (a b : Rg) : PyData.eqv (rgD a) (rgD b) = decide (a = b) := by
  match a, b with
  | none, none => simp [rgD, PyData.eqv]
  | none, some (l, h) => simp [rgD, PyData.eqv]
  | some (l, h), none => simp [rgD, PyData.eqv]
  | some (l, h), some (l2, h2) =>
    simp only [rgD, PyData.eqv, PyData.eqvAll, eqv_oD]
    by_cases c1 : l = l2 <;> by_cases c2 : h = h2 <;> simp [c1, c2]
theorem shaped_oD (a : Option Int) : SeqAt.shaped (oD a) = true := by cases a <;> rfl
theorem shaped_rgD (a : Rg) : SeqAt.shaped (rgD a) = true := by
  match a with
  | none => rfl
  | some (some l, some h) => rfl
  | some (none, some h) => rfl
  | some (some l, none) => rfl
  | some (none, none) => rfl

def lon : Option Int → Option Int → Option Int
  | some a, some b => some (if b < a then b else a)
  | _, _ => none
def gon : Option Int → Option Int → Option Int
  | some a, some b => some (if b > a then b else a)
  | _, _ => none
def joinR : Rg → Rg → Rg
  | none, r => r
  | r, none => r
  | some (l1, h1), some (l2, h2) => some (lon l1 l2, gon h1 h2)



def tk (f a : Int) (o : Option Int) : Option Int := o.map fun x => f * x + a
def stepR (f a : Int) : Rg → Rg
  | none => none
  | some (l, h) => if f > 0 then some (tk f a l, tk f a h) else some (tk f a h, tk f a l)
def SzO (o : Option Int) : Prop := ∀ i, o = some i → i.natAbs < 2 ^ 30000
def SzR : Rg → Prop
  | none => True
  | some (l, h) => SzO l ∧ SzO h
def sp__taken (_ : PySem.W.Frag) : Sp := fun vs H Q _ => ∃ o f a, vs = [ov o, .int f, .int a] ∧ SzO o ∧ f.natAbs < 2 ^ 400 ∧ Q (ov (tk f a o)) H

def sp_stepped (K : PySem.W.Frag) : Sp := fun vs H Q _ => ∃ v r f a, vs = [v, .int f, .int a] ∧ RgV K H v r ∧ RgFit r ∧ SzR r ∧ f.natAbs < 2 ^ 400 ∧
  ∀ v' H', Same H H' → RgV K H' v' (stepR f a r) → Q v' H'

theorem powW_ok {x : Int} {a : Nat} (h : x.natAbs < 2 ^ a) (h0 : 0 < a) (h2 : a ≤ 1000000) : CPowW x 3 := by
  have l := PySem.Flt.log2_lt_of h0 h
  have b : Builtin.Int.intBits x ≤ x.natAbs.log2 + 1 := by
    unfold Builtin.Int.intBits
    split <;> omega
  refine ⟨by decide, ?_⟩
  have e : (2 : Int) ^ 27 = 134217728 := by decide
  rw [e]
  omega
theorem ten60 : CPowW 10 60 := ⟨by decide, by decide⟩
theorem ten18 : CPowW 10 18 := ⟨by decide, by decide⟩
theorem ten31 : CPowW 10 31 := ⟨by decide, by decide⟩


def sp__law_draw (_ : PySem.W.Frag) : Sp := fun vs H Q _ => ∃ a lim n, vs = [.ref a, .int lim] ∧ RS n H a ∧ n ≤ 1000000 ∧ 0 < lim ∧ lim.natAbs < 2 ^ 200 ∧
  ∀ r H', 0 ≤ r → r < lim → Kp a H H' → RS (n + 1) H' a → Q (.int r) H'

theorem cut_ints {ns : List Int} {lo hi : Option Int} {i : Nat} {x : V} (h : (cutV (ns.map V.int) lo hi)[i]? = some x) : ∃ z : Int, x = .int z := by
  have m : x ∈ cutV (ns.map V.int) lo hi := List.mem_of_getElem? h
  unfold cutV at m
  have m2 := List.mem_of_mem_drop (List.mem_of_mem_take m)
  obtain ⟨z, _, e⟩ := List.mem_map.mp m2
  exact ⟨z, e.symm⟩
theorem big_step {dg f : Int} {i : Nat} (h0 : 0 ≤ dg) (h : dg.natAbs < 2 ^ (200 * i + 1)) :
    0 ≤ dg * (10 : Int) ^ (60 : Int).toNat + f % (10 : Int) ^ (60 : Int).toNat ∧
    (dg * (10 : Int) ^ (60 : Int).toNat + f % (10 : Int) ^ (60 : Int).toNat).natAbs < 2 ^ (200 * (i + 1) + 1) := by
  have T : (10 : Int) ^ (60 : Int).toNat = 1000000000000000000000000000000000000000000000000000000000000 := by decide
  rw [T]
  have m0 : 0 ≤ f % 1000000000000000000000000000000000000000000000000000000000000 := Int.emod_nonneg _ (by decide)
  have m1 : f % 1000000000000000000000000000000000000000000000000000000000000 < 1000000000000000000000000000000000000000000000000000000000000 := Int.emod_lt_of_pos _ (by decide)
  generalize f % 1000000000000000000000000000000000000000000000000000000000000 = g at m0 m1
  have e : 2 ^ (200 * (i + 1) + 1) = 2 ^ (200 * i + 1) * 2 ^ 200 := by rw [← Nat.pow_add]; congr 1
  have T2 : (2 : Nat) ^ 200 = 1606938044258990275541962092341162602522202993782792835301376 := by decide
  rw [e, T2]
  generalize 2 ^ (200 * i + 1) = B at h
  omega
theorem keep_step {dg : Int} {i : Nat} (h : dg.natAbs < 2 ^ (200 * i + 1)) : dg.natAbs < 2 ^ (200 * (i + 1) + 1) :=
  Nat.lt_of_lt_of_le h (Nat.pow_le_pow_right (by decide) (by omega))
theorem end_step {dg : Int} {i : Nat} (hi : i ≤ 63) (h : dg.natAbs < 2 ^ (200 * i + 1)) : dg.natAbs < 2 ^ 13000 :=
  Nat.lt_of_lt_of_le h (Nat.pow_le_pow_right (by decide) (by omega))
def sp__law_rng (K : PySem.W.Frag) : Sp := fun vs H Q _ => ∃ (a : Addr) (ns : List Int), vs = [.ref a] ∧ SqL K H a (ns.map V.int) ∧ ns.length ≤ 63 ∧
  ∀ p H', Same H H' → H p = none → RS 0 H' p → Q (.ref p) H'

/-- a drawn bound -/
def BdOk (m : Int) : Option Int → Prop
  | none => True
  | some i => -m ≤ i ∧ i ≤ m

def RgIn (m : Int) : Rg → Prop
  | none => True
  | some (l, h) => BdOk m l ∧ BdOk m h

def loR : Option Int → Int
  | none => -40
  | some x => x
def hiR : Option Int → Int
  | none => 41
  | some x => x + 1
def rgI (a b : Int) : List Int := (List.range (b - a).toNat).map fun i => a + (i : Nat)
theorem rgV_rgI (a b : Int) : rgV a b = (rgI a b).map V.int := by
  unfold rgV rgI
  rw [List.map_map]
  rfl
def listR : Rg → List Int
  | none => []
  | some (l, h) => rgI (loR l) (hiR h)

def farO (k : Int) (o : Option Int) : Option Int := o.map (· + k)
def farR (k : Int) (r : Rg) : Rg := r.map fun q => (farO k q.1, farO k q.2)

abbrev Cd := Str × Rg
def cdD (c : Cd) : PyData := .tuple [.str c.1, rgD c.2]
/-- a rule -/
inductive Rl where
  | set (x : Str) (r : Rg) (cs : List Cd)
  | stp (x y : Str) (f a : Int) (r : Rg) (cs : List Cd)
def Rl.d : Rl → PyData
  | .set x r cs => .tuple [.str "set", .str x, rgD r, .tuple (cs.map cdD)]
  | .stp x y f a r cs => .tuple [.str "step", .str x, .str y, .int f, .int a, rgD r, .tuple (cs.map cdD)]
def Rl.cs : Rl → List Cd
  | .set _ _ cs => cs
  | .stp _ _ _ _ _ cs => cs
def Rl.names : Rl → List Str
  | .set x _ cs => x :: cs.map (·.1)
  | .stp x y _ _ _ cs => x :: y :: cs.map (·.1)
def Rl.rgs : Rl → List Rg
  | .set _ r cs => r :: cs.map (·.2)
  | .stp _ _ _ _ r cs => r :: cs.map (·.2)
def badR (r : Rg) : Bool := r.isNone || up r
def Rl.zero : Rl → Bool
  | .set _ _ _ => false
  | .stp _ _ f _ _ _ => decide (f = 0)
def Rl.faulty (r : Rl) (ns : List Str) : Bool := r.zero || ((r.names.any fun x => !decide (x ∈ ns)) || r.rgs.any badR)
theorem dp_str_inv {K : PySem.W.Frag} {H : Hp} {v : V} {x : Str} (h : Dp K H v (.str x)) : v = .str x := by cases h; rfl
theorem dp_int_inv {K : PySem.W.Frag} {H : Hp} {v : V} {x : Int} (h : Dp K H v (.int x)) : v = .int x := by cases h; rfl
theorem dp_non_inv {K : PySem.W.Frag} {H : Hp} {v : V} (h : Dp K H v .none) : v = .non := by cases h; rfl
theorem dp_tup_inv {K : PySem.W.Frag} {H : Hp} {v : V} {ds : List PyData} (h : Dp K H v (.tuple ds)) : ∃ p xs, v = .ref p ∧ SqT K H p xs ∧ DpAll K H xs ds := by
  cases h with
  | tup s a => exact ⟨_, _, rfl, s, a⟩
theorem dpa_cons_inv {K : PySem.W.Frag} {H : Hp} {vs : List V} {d : PyData} {ds : List PyData} (h : DpAll K H vs (d :: ds)) : ∃ v ws, vs = v :: ws ∧ Dp K H v d ∧ DpAll K H ws ds := by
  cases h with
  | cons a b => exact ⟨_, _, rfl, a, b⟩
theorem dpa_nil_inv {K : PySem.W.Frag} {H : Hp} {vs : List V} (h : DpAll K H vs []) : vs = [] := by cases h; rfl
theorem dp_oD_inv {K : PySem.W.Frag} {H : Hp} {v : V} {o : Option Int} (h : Dp K H v (oD o)) : v = ov o := by
  cases o with
  | none => exact dp_non_inv h
  | some i => exact dp_int_inv h
theorem dp_rg_inv {K : PySem.W.Frag} {H : Hp} {v : V} {r : Rg} (h : Dp K H v (rgD r)) : RgV K H v r := by
  match r, h with
  | none, h => exact dp_non_inv h
  | some (l, u), h =>
    obtain ⟨p, xs, rfl, s, a⟩ := dp_tup_inv h
    obtain ⟨v1, w1, rfl, h1, a⟩ := dpa_cons_inv a
    obtain ⟨v2, w2, rfl, h2, a⟩ := dpa_cons_inv a
    obtain rfl := dpa_nil_inv a
    obtain rfl := dp_oD_inv h1
    obtain rfl := dp_oD_inv h2
    exact ⟨p, rfl, s⟩
theorem cd_inv {K : PySem.W.Frag} {H : Hp} {v : V} {c : Cd} (h : Dp K H v (cdD c)) : ∃ p vr, v = .ref p ∧ SqT K H p [.str c.1, vr] ∧ RgV K H vr c.2 := by
  obtain ⟨p, xs, rfl, s, a⟩ := dp_tup_inv h
  obtain ⟨v1, w1, rfl, h1, a⟩ := dpa_cons_inv a
  obtain ⟨v2, w2, rfl, h2, a⟩ := dpa_cons_inv a
  obtain rfl := dpa_nil_inv a
  obtain rfl := dp_str_inv h1
  exact ⟨p, v2, rfl, s, dp_rg_inv h2⟩
theorem set_inv {K : PySem.W.Frag} {H : Hp} {v : V} {x : Str} {r : Rg} {cs : List Cd} (h : Dp K H v (Rl.set x r cs).d) :
    ∃ p vr q ys, v = .ref p ∧ SqT K H p [.str "set", .str x, vr, .ref q] ∧ RgV K H vr r ∧ SqT K H q ys ∧ DpAll K H ys (cs.map cdD) := by
  obtain ⟨p, xs, rfl, s, a⟩ := dp_tup_inv h
  obtain ⟨v1, w1, rfl, h1, a⟩ := dpa_cons_inv a
  obtain ⟨v2, w2, rfl, h2, a⟩ := dpa_cons_inv a
  obtain ⟨v3, w3, rfl, h3, a⟩ := dpa_cons_inv a
  obtain ⟨v4, w4, rfl, h4, a⟩ := dpa_cons_inv a
  obtain rfl := dpa_nil_inv a
  obtain rfl := dp_str_inv h1
  obtain rfl := dp_str_inv h2
  obtain ⟨q, ys, rfl, s2, a2⟩ := dp_tup_inv h4
  exact ⟨p, v3, q, ys, rfl, s, dp_rg_inv h3, s2, a2⟩
theorem stp_inv {K : PySem.W.Frag} {H : Hp} {v : V} {x y : Str} {f a : Int} {r : Rg} {cs : List Cd} (h : Dp K H v (Rl.stp x y f a r cs).d) :
    ∃ p vr q ys, v = .ref p ∧ SqT K H p [.str "step", .str x, .str y, .int f, .int a, vr, .ref q] ∧ RgV K H vr r ∧ SqT K H q ys ∧ DpAll K H ys (cs.map cdD) := by
  obtain ⟨p, xs, rfl, s, z⟩ := dp_tup_inv h
  obtain ⟨v1, w1, rfl, h1, z⟩ := dpa_cons_inv z
  obtain ⟨v2, w2, rfl, h2, z⟩ := dpa_cons_inv z
  obtain ⟨v3, w3, rfl, h3, z⟩ := dpa_cons_inv z
  obtain ⟨v4, w4, rfl, h4, z⟩ := dpa_cons_inv z
  obtain ⟨v5, w5, rfl, h5, z⟩ := dpa_cons_inv z
  obtain ⟨v6, w6, rfl, h6, z⟩ := dpa_cons_inv z
  obtain ⟨v7, w7, rfl, h7, z⟩ := dpa_cons_inv z
  obtain rfl := dpa_nil_inv z
  obtain rfl := dp_str_inv h1
  obtain rfl := dp_str_inv h2
  obtain rfl := dp_str_inv h3
  obtain rfl := dp_int_inv h4
  obtain rfl := dp_int_inv h5
  obtain ⟨q, ys, rfl, s2, a2⟩ := dp_tup_inv h7
  exact ⟨p, v6, q, ys, rfl, s, dp_rg_inv h6, s2, a2⟩
theorem dpa_map_get {K : PySem.W.Frag} {H : Hp} {α : Type} {f : α → PyData} {ys : List V} {cs : List α} {i : Nat} {v : V} (h : DpAll K H ys (cs.map f)) (e : ys[i]? = some v) : ∃ c, cs[i]? = some c ∧ Dp K H v (f c) := by
  obtain ⟨d, e2, hd⟩ := dpa_get h e
  rw [List.getElem?_map] at e2
  cases e3 : cs[i]? with
  | none => rw [e3] at e2; cases e2
  | some c =>
    rw [e3] at e2
    have := Option.some.inj e2
    subst this
    exact ⟨c, rfl, hd⟩
theorem list_eq_of {α : Type} {xs ys : List α} (l : xs.length = ys.length) (h : ∀ (i : Nat) (x : α), xs[i]? = some x → ys[i]? = some x) : xs = ys := by
  apply List.ext_getElem?
  intro i
  by_cases c : i < xs.length
  · have e := List.getElem?_eq_getElem c
    rw [e]
    exact (h i _ e).symm
  · rw [List.getElem?_eq_none (by omega), List.getElem?_eq_none (by omega)]


theorem sEqT {x : Str} : V.bl (decide (V.str x = V.str x)) = V.bl true := congrArg V.bl (decide_eq_true rfl)
/-- a list of strings, by place -/
theorem strs_of {cs : List Cd} {ys : List V} (l : ys.length = cs.length) (h : ∀ (i : Nat) y, ys[i]? = some y → ∃ c : Cd, cs[i]? = some c ∧ y = .str c.1) : ys = (cs.map (·.1)).map V.str := by
  refine list_eq_of (by rw [List.length_map, List.length_map, l]) fun i x e => ?_
  obtain ⟨c, ec, rfl⟩ := h i x e
  rw [List.getElem?_map, List.getElem?_map, ec]
  rfl
def sp__names_of (K : PySem.W.Frag) : Sp := fun vs H Q _ => ∃ v r, vs = [v] ∧ Dp K H v (Rl.d r) ∧ r.cs.length ≤ 1000 ∧
  ∀ p H', Same H H' → H p = none → H' p = some (.lst (r.names.map V.str)) → Q (.ref p) H'

theorem noL_rg (r : Rg) : NoL (rgD r) := by
  match r with
  | none => exact .non
  | some (l, u) =>
    refine .tup fun d m => ?_
    rcases List.mem_cons.mp m with rfl | m
    · cases l
      · exact .non
      · exact .int _
    rcases List.mem_cons.mp m with rfl | m
    · cases u
      · exact .non
      · exact .int _
    · exact absurd m (by simp)
theorem noL_cd (c : Cd) : NoL (cdD c) := by
  refine .tup fun d m => ?_
  rcases List.mem_cons.mp m with rfl | m
  · exact .str _
  rcases List.mem_cons.mp m with rfl | m
  · exact noL_rg _
  · exact absurd m (by simp)
theorem noL_cds (cs : List Cd) : NoL (.tuple (cs.map cdD)) := .tup fun d m => by
  obtain ⟨c, _, rfl⟩ := List.mem_map.mp m
  exact noL_cd c
theorem noL_rl (r : Rl) : NoL r.d := by
  match r with
  | .set x rr cs =>
    refine .tup fun d m => ?_
    simp only [List.mem_cons, List.not_mem_nil, or_false] at m
    rcases m with rfl | rfl | rfl | rfl
    · exact .str _
    · exact .str _
    · exact noL_rg _
    · exact noL_cds _
  | .stp x y f a rr cs =>
    refine .tup fun d m => ?_
    simp only [List.mem_cons, List.not_mem_nil, or_false] at m
    rcases m with rfl | rfl | rfl | rfl | rfl | rfl | rfl
    · exact .str _
    · exact .str _
    · exact .str _
    · exact .int _
    · exact .int _
    · exact noL_rg _
    · exact noL_cds _
theorem rl_last {K : PySem.W.Frag} {H : Hp} {v : V} {r : Rl} (h : Dp K H v r.d) : ∃ p xs vr c ys rr, v = .ref p ∧ SqT K H p xs ∧ atI xs (-2) = some vr ∧ atI xs (-1) = some (.ref c) ∧ RgV K H vr rr ∧
    SqT K H c ys ∧ DpAll K H ys (r.cs.map cdD) ∧ r.rgs = rr :: r.cs.map (·.2) := by
  match r, h with
  | .set x r cs, h =>
    obtain ⟨p, vr, c, ys, rfl, s, hr2, s2, a2⟩ := set_inv h
    exact ⟨p, _, vr, c, ys, r, rfl, s, rfl, rfl, hr2, s2, a2, rfl⟩
  | .stp x y f a r cs, h =>
    obtain ⟨p, vr, c, ys, rfl, s, hr2, s2, a2⟩ := stp_inv h
    exact ⟨p, _, vr, c, ys, r, rfl, s, rfl, rfl, hr2, s2, a2, rfl⟩
theorem dpa_of {K : PySem.W.Frag} {H : Hp} {α : Type} {f : α → PyData} : ∀ {cs : List α} {ys : List V}, ys.length = cs.length → (∀ (i : Nat) y, ys[i]? = some y → ∃ c : α, cs[i]? = some c ∧ Dp K H y (f c)) → DpAll K H ys (cs.map f)
  | [], [], _, _ => .nil
  | c :: cs, y :: ys, l, h => by
    obtain ⟨c', e, d⟩ := h 0 y rfl
    have e' : c = c' := Option.some.inj e
    subst e'
    exact .cons d (dpa_of (by simpa using l) fun i z e => by simpa using h (i + 1) z (by simpa using e))
def sp__ranges_of (K : PySem.W.Frag) : Sp := fun vs H Q _ => ∃ v r, vs = [v] ∧ Dp K H v (Rl.d r) ∧ r.cs.length ≤ 1000 ∧
  ∀ p H' xs, Same H H' → H p = none → H' p = some (.lst xs) → DpAll K H' xs (r.rgs.map rgD) → Q (.ref p) H'

theorem inV_strs (x : Str) : ∀ ns : List Str, inV (.str x) (ns.map V.str) = decide (x ∈ ns)
  | [] => rfl
  | n :: ns => by
    have ih := inV_strs x ns
    unfold inV at ih ⊢
    rw [List.map_cons, List.any_cons, ih]
    show ((n == x) || decide (x ∈ ns)) = decide (x ∈ n :: ns)
    rw [Bool.eq_iff_iff, Bool.or_eq_true, beq_iff_eq, decide_eq_true_iff, decide_eq_true_iff, List.mem_cons]
    constructor
    · rintro (h | h)
      · exact .inl h.symm
      · exact .inr h
    · rintro (h | h)
      · exact .inl h.symm
      · exact .inr h
theorem flat_strs : ∀ ns : List Str, (ns.map V.str).all flatV = true
  | [] => rfl
  | n :: ns => by rw [List.map_cons, List.all_cons, flat_strs ns]; rfl
/-- a list of booleans, by place -/
theorem bls_of {α : Type} {f : α → Bool} {cs : List α} {ys : List V} (l : ys.length = cs.length) (h : ∀ (i : Nat) y, ys[i]? = some y → ∃ c : α, cs[i]? = some c ∧ y = .bl (f c)) : ys = (cs.map f).map V.bl := by
  refine list_eq_of (by rw [List.length_map, List.length_map, l]) fun i x e => ?_
  obtain ⟨c, ec, rfl⟩ := h i x e
  rw [List.getElem?_map, List.getElem?_map, ec]
  rfl
theorem any_id {α : Type} (f : α → Bool) (cs : List α) : (cs.map f).any id = cs.any f := by
  rw [List.any_map]
  rfl
theorem map_get {α β : Type} {f : α → β} {cs : List α} {i : Nat} {y : β} (h : (cs.map f)[i]? = some y) : ∃ c, cs[i]? = some c ∧ y = f c := by
  rw [List.getElem?_map] at h
  cases e : cs[i]? with
  | none => rw [e] at h; cases h
  | some c =>
    rw [e] at h
    exact ⟨c, rfl, (Option.some.inj h).symm⟩
theorem names_le {r : Rl} : r.names.length ≤ 2 + r.cs.length := by
  match r with
  | .set x r cs => show (x :: cs.map (·.1)).length ≤ _; rw [List.length_cons, List.length_map]; show _ ≤ 2 + cs.length; omega
  | .stp x y f a r cs => show (x :: y :: cs.map (·.1)).length ≤ _; rw [List.length_cons, List.length_cons, List.length_map]; show _ ≤ 2 + cs.length; omega
theorem rgs_le {r : Rl} : r.rgs.length ≤ 2 + r.cs.length := by
  match r with
  | .set x r cs => show (r :: cs.map (·.2)).length ≤ _; rw [List.length_cons, List.length_map]; show _ ≤ 2 + cs.length; omega
  | .stp x y f a r cs => show (r :: cs.map (·.2)).length ≤ _; rw [List.length_cons, List.length_map]; show _ ≤ 2 + cs.length; omega
def sp_is_faulty (K : PySem.W.Frag) : Sp := fun vs H Q _ => ∃ v r a ns, vs = [v, .ref a] ∧ Dp K H v (Rl.d r) ∧ r.cs.length ≤ 1000 ∧ SqL K H a (ns.map V.str) ∧
  ∀ H', Same H H' → Q (.bl (r.faulty ns)) H'

def nameOk (x : Str) : Bool := (decide (1 ≤ x.cps.size) && decide (x.cps.size ≤ 8)) && x.cps.toList.all fun c => decide (97 ≤ c) && decide (c ≤ 122)
theorem lt_one (c d : Nat) : (!decide (([c] : List Nat) < [d])) = decide (d ≤ c) := by
  rw [Bool.eq_iff_iff, Bool.not_eq_true', decide_eq_false_iff_not, decide_eq_true_iff, List.cons_lt_cons_iff]
  constructor
  · intro h
    have := fun z => h (.inl z)
    omega
  · rintro h (z | ⟨_, z⟩)
    · omega
    · exact absurd z (List.lt_irrefl [])
/-- [e for c in x] over a string, each e a boolean -/
theorem lc_strB {j : Nat} {te : TE} {σ : L2.St} {H : Hp} {Qd : Hp → Prop} {D : Addr} (x : Str) (f : Nat → Bool)
    (hz : x.cps.size ≤ 1000) (nD : H D = none)
    (hw : ∀ z : V, wipe ((wipe σ [j]).set j (some z)) [j] = wipe σ [j])
    (he : ∀ (c : Nat) (H' : Hp) (R : VK), R (.bl (f c)) H' → te ((wipe σ [j]).set j (some (.str ⟨#[c]⟩))) H' R)
    (q : Qd (upd H D (.lst ((x.cps.toList.map f).map V.bl)))) :
    ∃ Z : Nat → Nat → Hp → Prop, (∃ m, Z 0 m (upd H D (.lst []))) ∧
      ∀ i m G, Z i m G →
        ((Its x).stop i G ∧ Qd G) ∨
        ((Its x).go i G ∧ ∃ N : Hp → Prop, (∀ G', N G' → ∃ m', m' < m ∧ Z (i + 1) m' G') ∧
          ∀ z G', (Its x).yld i G z G' →
            gName j z (wipe σ [j]) G' fun σ2 G2 =>
              wipe σ2 [j] = wipe σ [j] ∧
              tYes σ2 G2 fun b G3 =>
                if b = true then
                  te σ2 G3 fun y G4 =>
                    ∃ acc, G4 D = some (.lst acc) ∧ acc.length < sizeLine ∧
                      N (upd G4 D (.lst (acc ++ [y])))
                else N G3) := by
  refine lc_it (walk_str (z := x)) (fun i G => G = upd H D (.lst (((x.cps.toList.take i).map f).map V.bl))) rfl (fun _ _ _ _ => trivial) ?_ ?_
  · rintro i z G G' hi rfl ⟨rfl, c, ec, rfl⟩
    have ec' : x.cps.toList[i]? = some c := by rw [Array.getElem?_toList]; exact ec
    have tk : ((x.cps.toList.take (i + 1)).map f).map V.bl = ((x.cps.toList.take i).map f).map V.bl ++ [V.bl (f c)] := by
      rw [List.take_add_one, ec', List.map_append, List.map_append]
      rfl
    refine ⟨hw _, he c _ _ ⟨_, upd_same, ?_, ?_⟩⟩
    · rw [List.length_map, List.length_map, List.length_take]
      exact Nat.lt_of_le_of_lt (Nat.le_trans (Nat.min_le_left _ _) (by omega : i ≤ 100000)) (by decide)
    · rw [upd_upd, tk]
  · rintro G rfl
    have e : x.cps.toList.take x.cps.size = x.cps.toList := by
      rw [← Array.length_toList, List.take_length]
    rw [e]
    exact q
def sp_is_name (K : PySem.W.Frag) : Sp := fun vs H Q _ => ∃ x : Str, vs = [.str x] ∧ x.cps.size ≤ 1000 ∧ ∀ H', Same H H' → Q (.bl (nameOk x)) H'

/-- what System check asks -/
structure SysOk (ns : List Str) (rs : List Rl) : Prop where
  nd : ns.Nodup
  ok : ∀ x ∈ ns, nameOk x = true
  nf : ∀ r ∈ rs, r.faulty ns = false
  cs : ∀ r ∈ rs, r.cs.length ≤ 1000
  ln : ns.length < 64
  lr : rs.length ≤ 1000
theorem nameOk_size {x : Str} (h : nameOk x = true) : x.cps.size ≤ 8 := by
  unfold nameOk at h
  rw [Bool.and_eq_true, Bool.and_eq_true] at h
  exact of_decide_eq_true h.1.2
def keyT (l : List Str) : List (Key × V) := l.map fun n => (Sum.inr n, V.bl true)
theorem valV_keyT {x : Str} : ∀ {l : List Str}, x ∉ l → valV (keyT l) (Sum.inr x) = none
  | [], _ => rfl
  | n :: l, h => by
    rw [List.mem_cons] at h
    have e : ¬ (Sum.inr n : Key) = Sum.inr x := fun z => h (.inl (Sum.inr.inj z).symm)
    show valV ((Sum.inr n, V.bl true) :: keyT l) (Sum.inr x) = none
    rw [valV_neg e]
    exact valV_keyT fun z => h (.inr z)
theorem nodup_take {l : List Str} {i : Nat} {x : Str} (nd : l.Nodup) (h : l[i]? = some x) : x ∉ l.take i := by
  intro m
  obtain ⟨j, hj⟩ := List.mem_iff_getElem?.mp m
  have lj : j < (l.take i).length := (List.getElem?_eq_some_iff.mp hj).1
  rw [List.length_take] at lj
  rw [List.getElem?_take_of_lt (by omega)] at hj
  have li : i < l.length := (List.getElem?_eq_some_iff.mp h).1
  have e := (List.getElem?_inj (i := j) (j := i) (by omega) nd).mp (hj.trans h.symm)
  omega
def sp__check_system (K : PySem.W.Frag) : Sp := fun vs H Q _ => ∃ a b ns xs rs, vs = [.ref a, .ref b] ∧ SqL K H a (ns.map V.str) ∧ SqL K H b xs ∧ DpAll K H xs (rs.map Rl.d) ∧ SysOk ns rs ∧
  ∀ H', Same H H' → Q .non H'

/-- what the top has written of the class System -/
structure SysT (K : PySem.W.Frag) (mg : Str → Option Value) (C : Addr) : Prop where
  ck : Ck K mg C "System"
  nN : NoAttr K C "_names"
  nR : NoAttr K C "_rules"
  ha : PySem.W.findIn K (.ref C) "__class__" = some (some (.builtin "object.__class__"))
  hn : PySem.W.specialIn K (.builtin "object.__class__") "__get__" = some (some (.builtin "getset_descriptor.__get__"))
  ht : PySem.W.takesIn K (.builtin "object.__class__") = some true
  hm : PySem.W.mroIn K C (.type "object") = some true
  ki : PySem.W.isClsIn K C = true
  ty : PySem.W.typeIn K (.ref C) = some (.type "type")
theorem subL {K : PySem.W.Frag} {C : Addr} : PySem.W.subIn K (.type "list") (.ref C) = some false := by with_unfolding_all rfl
theorem subS {K : PySem.W.Frag} {C : Addr} : PySem.W.subIn K (.type "str") (.ref C) = some false := by with_unfolding_all rfl
theorem subI {K : PySem.W.Frag} {C : Addr} : PySem.W.subIn K (.type "int") (.ref C) = some false := by with_unfolding_all rfl
theorem nf_of {K : PySem.W.Frag} {C : Addr} {t : Value} (h : PySem.W.subIn K t (.ref C) = some false) : PySem.W.notFirst K C t = true := by
  unfold PySem.W.notFirst
  rw [h]
  exact Bool.or_true _
theorem nfC {K : PySem.W.Frag} {C : Addr} : PySem.W.notFirst K C (.ref C) = true := by
  unfold PySem.W.notFirst
  rw [beq_self_eq_true, Bool.true_or]
theorem kit_of_no {K : PySem.W.Frag} {mg : Str → Option Value} {C : Addr} (T : SysT K mg C) {n : String} (h : PySem.W.subIn K (.type n) (.ref C) = some false) : PySem.W.kitOne K (.type n) (.ref C) = some false := by
  have e : PySem.W.kitOne K (.type n) (.ref C) = if ((PySem.W.clsIn K C).isSome && PySem.W.typeIn K (.ref C) == some (.type "type")) = true then PySem.W.subIn K (.type n) (.ref C) else none := rfl
  have h1 : (PySem.W.clsIn K C).isSome = true := T.ki
  rw [e, h1, T.ty, h]
  rfl
/-- a system: its object at a, its names at p, its rules at q -/
def SysAt (K : PySem.W.Frag) (C : Addr) (H : Hp) (a p q : Addr) (ns : List Str) (rs : List Rl) : Prop :=
  ∃ dx fs xs, H a = some (.ins C dx fs) ∧ fs.lookup ("_names" : Str) = some (V.ref p) ∧ fs.lookup ("_rules" : Str) = some (V.ref q) ∧ H p = some (.lst (ns.map V.str)) ∧ H q = some (.lst xs) ∧ DpAll K H xs (rs.map Rl.d) ∧ ∀ m : Str, m ≠ "_names" → m ≠ "_rules" → fs.lookup m = none
theorem SysAt.same {K : PySem.W.Frag} {C : Addr} {H H' : Hp} {a p q : Addr} {ns : List Str} {rs : List Rl} (k : Same H H') (h : SysAt K C H a p q ns rs) : SysAt K C H' a p q ns rs := by
  obtain ⟨dx, fs, xs, h1, h2, h3, h4, h5, h6, h7⟩ := h
  exact ⟨dx, fs, xs, k _ _ h1, h2, h3, k _ _ h4, k _ _ h5, dpa_same k h6, h7⟩
/-- the object at o is what may change -/
def Ki (o : Addr) (H H' : Hp) : Prop := (∃ C dx fs, H o = some (.ins C dx fs)) ∧ Kp o H H'
theorem SqL.ki {K : PySem.W.Frag} {H H' : Hp} {o b : Addr} {xs : List V} (k : Ki o H H') (h : SqL K H b xs) : SqL K H' b xs := by
  obtain ⟨⟨C, dx, fs, e⟩, kp⟩ := k
  rcases h with (h | ⟨u, h⟩) | h
  · exact .inl (.inl (kp _ _ (ne_of h e (fun z => by cases z)) h))
  · exact .inl (.inr ⟨u, kp _ _ (ne_of h e (fun z => by cases z)) h⟩)
  · exact .inr h
theorem SqT.ki {K : PySem.W.Frag} {H H' : Hp} {o b : Addr} {xs : List V} (k : Ki o H H') (h : SqT K H b xs) : SqT K H' b xs := by
  obtain ⟨⟨C, dx, fs, e⟩, kp⟩ := k
  rcases h with (h | ⟨u, h⟩) | h
  · exact .inl (.inl (kp _ _ (ne_of h e (fun z => by cases z)) h))
  · exact .inl (.inr ⟨u, kp _ _ (ne_of h e (fun z => by cases z)) h⟩)
  · exact .inr h
mutual
theorem dp_ki {K : PySem.W.Frag} {H H' : Hp} {o : Addr} (k : Ki o H H') : ∀ {v : V} {d : PyData}, Dp K H v d → Dp K H' v d
  | _, _, .non => .non
  | _, _, .bl b => .bl b
  | _, _, .int i => .int i
  | _, _, .str x => .str x
  | _, _, .lst s a => .lst (SqL.ki k s) (dpa_ki k a)
  | _, _, .tup s a => .tup (SqT.ki k s) (dpa_ki k a)
theorem dpa_ki {K : PySem.W.Frag} {H H' : Hp} {o : Addr} (k : Ki o H H') : ∀ {v : List V} {d : List PyData}, DpAll K H v d → DpAll K H' v d
  | _, _, .nil => .nil
  | _, _, .cons a b => .cons (dp_ki k a) (dpa_ki k b)
end


def sp_System___init__ (K : PySem.W.Frag) (C : Addr) : Sp := fun vs H Q _ => ∃ o dx a b ns xs rs, vs = [.ref o, .ref a, .ref b] ∧ H o = some (.ins C dx []) ∧ SqL K H a (ns.map V.str) ∧ SqL K H b xs ∧ DpAll K H xs (rs.map Rl.d) ∧ SysOk ns rs ∧
  ∀ H' p q ss, ss.Perm ns → sortedS ss = true → Kp o H H' → H p = none → H q = none → SysAt K C H' o p q ss rs → Q .non H'

def sp_System___len__ (K : PySem.W.Frag) (C : Addr) : Sp := fun vs H Q _ => ∃ a p q ns rs, vs = [.ref a] ∧ SysAt K C H a p q ns rs ∧ Q (.int rs.length) H

def sp_System_names (K : PySem.W.Frag) (C : Addr) : Sp := fun vs H Q _ => ∃ a p q ns rs, vs = [.ref a] ∧ SysAt K C H a p q ns rs ∧ ∀ l, H l = none → Q (.ref l) (upd H l (.lst (ns.map V.str)))

def sp_System_rules (K : PySem.W.Frag) (C : Addr) : Sp := fun vs H Q _ => ∃ a p q ns rs, vs = [.ref a] ∧ SysAt K C H a p q ns rs ∧ ∀ l xs, H l = none → DpAll K H xs (rs.map Rl.d) → Q (.ref l) (upd H l (.lst xs))

theorem strOk_of {x : Str} (h : nameOk x = true) : PyData.strOk x = true := by
  unfold nameOk at h
  rw [Bool.and_eq_true] at h
  unfold PyData.strOk
  rw [← Array.all_toList, List.all_eq_true]
  intro c m
  have := List.all_eq_true.mp h.2 c m
  rw [Bool.and_eq_true] at this
  have := of_decide_eq_true this.2
  exact decide_eq_true (by omega)
theorem lyA_of : ∀ {k : Nat} {ds : List PyData}, (∀ d ∈ ds, Ly k d) → LyAll k ds
  | k, [], _ => LyAll.nil.mono (Nat.zero_le _)
  | k, d :: ds, h => by
    have z := LyAll.cons (h d (by simp)) (lyA_of (k := k) (ds := ds) fun x m => h x (by simp [m]))
    rw [Nat.max_self] at z
    exact z
theorem ly_str {x : Str} (h : PyData.strOk x = true) : Ly 1 (.str x) := ⟨h, by simp [PyData.depth]⟩
theorem ly_oD (o : Option Int) : Ly 1 (oD o) := by
  cases o with
  | none => exact .none
  | some i => exact .int i
theorem ly_rg (r : Rg) : Ly 2 (rgD r) := by
  match r with
  | none => exact Ly.none.mono (by decide)
  | some (l, u) =>
    refine Ly.tuple (k := 1) (lyA_of fun d m => ?_)
    simp only [List.mem_cons, List.not_mem_nil, or_false] at m
    rcases m with rfl | rfl
    · exact ly_oD l
    · exact ly_oD u
theorem ly_cd {c : Cd} (h : PyData.strOk c.1 = true) : Ly 3 (cdD c) := by
  refine Ly.tuple (k := 2) (lyA_of fun d m => ?_)
  simp only [List.mem_cons, List.not_mem_nil, or_false] at m
  rcases m with rfl | rfl
  · exact (ly_str h).mono (by decide)
  · exact ly_rg _
theorem ly_cds {cs : List Cd} (h : ∀ c ∈ cs, PyData.strOk c.1 = true) : Ly 4 (.tuple (cs.map cdD)) := by
  refine Ly.tuple (k := 3) (lyA_of fun d m => ?_)
  obtain ⟨c, mc, rfl⟩ := List.mem_map.mp m
  exact ly_cd (h c mc)
theorem ly_rl {r : Rl} (h : ∀ x ∈ r.names, PyData.strOk x = true) : Ly 5 r.d := by
  match r, h with
  | .set x rr cs, h =>
    have hc : ∀ c ∈ cs, PyData.strOk c.1 = true := fun c m => h c.1 (List.mem_cons_of_mem _ (List.mem_map.mpr ⟨c, m, rfl⟩))
    have hx : PyData.strOk x = true := h x List.mem_cons_self
    refine Ly.tuple (k := 4) (lyA_of fun d m => ?_)
    simp only [List.mem_cons, List.not_mem_nil, or_false] at m
    rcases m with rfl | rfl | rfl | rfl
    · exact (ly_str (by decide +kernel)).mono (by decide)
    · exact (ly_str hx).mono (by decide)
    · exact (ly_rg _).mono (by decide)
    · exact ly_cds hc
  | .stp x y f a rr cs, h =>
    have hc : ∀ c ∈ cs, PyData.strOk c.1 = true := fun c m => h c.1 (List.mem_cons_of_mem _ (List.mem_cons_of_mem _ (List.mem_map.mpr ⟨c, m, rfl⟩)))
    have hx : PyData.strOk x = true := h x List.mem_cons_self
    have hy : PyData.strOk y = true := h y (List.mem_cons_of_mem _ List.mem_cons_self)
    refine Ly.tuple (k := 4) (lyA_of fun d m => ?_)
    simp only [List.mem_cons, List.not_mem_nil, or_false] at m
    rcases m with rfl | rfl | rfl | rfl | rfl | rfl | rfl
    · exact (ly_str (by decide +kernel)).mono (by decide)
    · exact (ly_str hx).mono (by decide)
    · exact (ly_str hy).mono (by decide)
    · exact (Ly.int _).mono (by decide)
    · exact (Ly.int _).mono (by decide)
    · exact (ly_rg _).mono (by decide)
    · exact ly_cds hc
/-- all texts of a system are such that can be laid -/
def Laid (ns : List Str) (rs : List Rl) : Prop := (∀ x ∈ ns, PyData.strOk x = true) ∧ ∀ r ∈ rs, ∀ x ∈ r.names, PyData.strOk x = true
theorem Laid.ns {ns : List Str} {rs : List Rl} (h : Laid ns rs) : Ly 2 (.list (ns.map PyData.str)) := Ly.list (lyA_of fun d m => by
  obtain ⟨x, mx, rfl⟩ := List.mem_map.mp m
  exact ly_str (h.1 x mx))
theorem Laid.rs {ns : List Str} {rs : List Rl} (h : Laid ns rs) : Ly 6 (.list (rs.map Rl.d)) := Ly.list (lyA_of fun d m => by
  obtain ⟨r, mr, rfl⟩ := List.mem_map.mp m
  exact ly_rl (h.2 r mr))
/-- what == tells of two systems -/
def eqS (ns ns' : List Str) (rs rs' : List Rl) : Bool := PyData.eqv (.list (ns.map PyData.str)) (.list (ns'.map PyData.str)) && PyData.eqv (.list (rs.map Rl.d)) (.list (rs'.map Rl.d))
def sp_System___eq__ (K : PySem.W.Frag) (C : Addr) : Sp := fun vs H Q _ => ∃ a p q ns rs y, vs = [.ref a, y] ∧ SysAt K C H a p q ns rs ∧
  ((∃ t, TyX K H y t ∧ PySem.W.kitOne K t (.ref C) = some false ∧ Q (.bl false) H) ∨
   (∃ b p' q' ns' rs', y = .ref b ∧ SysAt K C H b p' q' ns' rs' ∧ Laid ns rs ∧ Laid ns' rs' ∧ Q (.bl (eqS ns ns' rs rs')) H))

def base6 : List Str := ["x", "y", "ab", "jkv", "q", "lowhere"]
def rowS (x : Str) : Str := ("row" : Str) ++ cutS x none (some 5)
def pool : List Str := base6 ++ base6.map rowS
/-- drawn names -/
structure WordsOk (ws : List Str) : Prop where
  nd : ws.Nodup
  pl : ∀ x ∈ ws, x ∈ pool
theorem pool_ok : ∀ x ∈ pool, nameOk x = true := by decide +kernel
theorem base_nd : base6.Nodup := by decide +kernel
theorem row_nd : (base6.map rowS).Nodup := by decide +kernel
theorem base_short : ∀ x ∈ base6, x.length ≤ 7 := by decide +kernel
theorem words_base {ws left : List Str} (h : (ws ++ left).Perm base6) : WordsOk ws := by
  have nd : (ws ++ left).Nodup := h.nodup_iff.mpr base_nd
  exact ⟨(List.nodup_append.mp nd).1, fun x m => List.mem_append_left _ (h.mem_iff.mp (List.mem_append_left _ m))⟩
theorem words_row {ws left : List Str} (h : (ws ++ left).Perm base6) : WordsOk (ws.map rowS) := by
  have h2 : ((ws ++ left).map rowS).Perm (base6.map rowS) := h.map _
  have nd : ((ws ++ left).map rowS).Nodup := h2.nodup_iff.mpr row_nd
  rw [List.map_append] at nd
  refine ⟨(List.nodup_append.mp nd).1, fun x m => List.mem_append_right _ ?_⟩
  obtain ⟨y, my, rfl⟩ := List.mem_map.mp m
  exact List.mem_map.mpr ⟨y, h.mem_iff.mp (List.mem_append_left _ my), rfl⟩
theorem eraseIdx_map {α β : Type} (f : α → β) : ∀ (l : List α) (k : Nat), (l.map f).eraseIdx k = (l.eraseIdx k).map f
  | [], _ => rfl
  | _ :: _, 0 => rfl
  | a :: l, k + 1 => by
    show f a :: (l.map f).eraseIdx k = f a :: (l.eraseIdx k).map f
    rw [eraseIdx_map f l k]
theorem erase_perm {α : Type} {x : α} : ∀ {l : List α} {k : Nat}, l[k]? = some x → (x :: l.eraseIdx k).Perm l
  | [], _, h => by simp at h
  | a :: l, 0, h => by
    have e : a = x := Option.some.inj h
    subst e
    exact .refl _
  | a :: l, k + 1, h => by
    have ih := erase_perm (l := l) (k := k) (by simpa using h)
    show (x :: a :: l.eraseIdx k).Perm (a :: l)
    exact (List.Perm.swap a x _).trans (ih.cons a)
theorem seqIx {n : Nat} {d : Int} (h0 : 0 ≤ d) (h1 : d < (n : Int)) : seqIndex? d n = some d.toNat := by
  refine (ixN_seq (i := d) ?_).1
  unfold ixN
  rw [if_pos h0, if_pos h1]
theorem ty_lst {K : PySem.W.Frag} {H : Hp} {p : Addr} {xs : List V} (e : H p = some (.lst xs)) : tyV K "list" (.ref p) H := .inl ⟨rfl, xs, .inl (.inl e)⟩
theorem Kp.none_of {g D : Addr} {n : Nat} {H H' : Hp} (k : Kp g H H') (r : RS n H' g) (nD : H' D = none) : H D = none := by
  cases e : H D with
  | none => rfl
  | some o =>
    rw [k _ _ (r.fresh nD) e] at nD
    cases nD
theorem cut_short : ∀ x ∈ base6, (cutS x none (some 5)).length ≤ 7 := by decide +kernel
def sp__law_words (K : PySem.W.Frag) : Sp := fun vs H Q _ => ∃ g m n, vs = [.ref g, .int m] ∧ RS n H g ∧ n ≤ 900000 ∧ 0 ≤ m ∧ m ≤ 6 ∧
  ∀ p H' ws, Kp g H H' → RS (n + 7) H' g → H p = none → H' p = some (.lst (ws.map V.str)) → WordsOk ws → (ws.length : Int) = m → Q (.ref p) H'

def sp__law_end (_ : PySem.W.Frag) : Sp := fun vs H Q _ => ∃ g far n, vs = [.ref g, .int far] ∧ RS n H g ∧ n ≤ 900000 ∧ -(10 ^ 31) ≤ far ∧ far ≤ 10 ^ 31 ∧
  ∀ b H', BdOk (10 ^ 31) b → Kp g H H' → RS (n + 3) H' g → Q (ov b) H'

/-- a drawn range that is not empty -/
def RgGd (r : Rg) : Prop := badR r = false ∧ RgIn (10 ^ 31) r
def sp__law_within (K : PySem.W.Frag) : Sp := fun vs H Q _ => ∃ g far n, vs = [.ref g, .int far] ∧ RS n H g ∧ n ≤ 800000 ∧ -(10 ^ 31) ≤ far ∧ far ≤ 10 ^ 31 ∧
  ∀ v r H', RgGd r → Kp g H H' → RS (n + 6) H' g → RgV K H' v r → Q v H'

@[reducible] def nbOk : Rl → Prop
  | .set _ _ _ => True
  | .stp _ _ f a _ _ => f.natAbs ≤ 10 ∧ a.natAbs ≤ 10 ^ 32
/-- a rule drawn for the names ws -/
structure RlGd (ws : List Str) (r : Rl) : Prop where
  nm : ∀ x ∈ r.names, x ∈ ws
  rg : ∀ x ∈ r.rgs, RgGd x
  nz : r.zero = false
  cs : r.cs.length ≤ 2
  nb : nbOk r
theorem RlGd.mono {ws ws' : List Str} {r : Rl} (h : RlGd ws r) (k : ∀ x ∈ ws, x ∈ ws') : RlGd ws' r := ⟨fun x m => k x (h.nm x m), h.rg, h.nz, h.cs, h.nb⟩
theorem str_at {ws : List Str} {d : Int} (h0 : 0 ≤ d) (h1 : d < (ws.length : Int)) : ∃ x ∈ ws, atI (ws.map V.str) d = some (.str x) := by
  obtain ⟨v, e, m⟩ := pick_mem (xs := ws.map V.str) h0 (by rw [List.length_map]; exact h1)
  obtain ⟨x, mx, rfl⟩ := List.mem_map.mp m
  exact ⟨x, mx, e⟩
theorem pick_size {a b d : Int} (a0 : 0 ≤ a) (a1 : a < 9) (b0 : 0 ≤ b) (b1 : b < 9) (h0 : 0 ≤ d) (h1 : d < 8) :
    ∃ z : Int, atI [V.int 1, .int 1, .int 1, .int (-1), .int 2, .int (-2), .int (1 + a), .int (0 - 1 - b)] d = some (.int z) ∧ z ≠ 0 ∧ z.natAbs ≤ 10 := by
  obtain ⟨v, e, m⟩ := pick_mem (xs := [V.int 1, .int 1, .int 1, .int (-1), .int 2, .int (-2), .int (1 + a), .int (0 - 1 - b)]) h0 h1
  simp only [List.mem_cons, List.not_mem_nil, or_false] at m
  rcases m with rfl | rfl | rfl | rfl | rfl | rfl | rfl | rfl <;> exact ⟨_, e, by omega, by omega⟩
theorem pick_plus {a b far d : Int} (a0 : 0 ≤ a) (a1 : a < 19) (b0 : 0 ≤ b) (b1 : b < 199) (f0 : -(10 ^ 31) ≤ far) (f1 : far ≤ 10 ^ 31) (h0 : 0 ≤ d) (h1 : d < 7) :
    ∃ z : Int, atI [V.int 0, .int 1, .int (-1), .int (a - 9), .int (b - 99), .int far, .int (0 - far)] d = some (.int z) ∧ z.natAbs ≤ 10 ^ 32 := by
  have t : (10 : Nat) ^ 32 = 100000000000000000000000000000000 := by decide
  have big : (10 : Int) ^ 31 = 10000000000000000000000000000000 := by decide
  rw [big] at f0 f1
  obtain ⟨v, e, m⟩ := pick_mem (xs := [V.int 0, .int 1, .int (-1), .int (a - 9), .int (b - 99), .int far, .int (0 - far)]) h0 h1
  simp only [List.mem_cons, List.not_mem_nil, or_false] at m
  rw [t]
  rcases m with rfl | rfl | rfl | rfl | rfl | rfl | rfl <;> exact ⟨_, e, by omega⟩
theorem dpa_snoc {K : PySem.W.Frag} {H : Hp} {ys : List V} {y : V} {cs : List Cd} {c : Cd} (h : DpAll K H ys (cs.map cdD)) (d : Dp K H y (cdD c)) : DpAll K H (ys ++ [y]) ((cs ++ [c]).map cdD) := by
  rw [List.map_append]
  exact dpa_app h (dpa_one d)
theorem noL_map (cs : List Cd) : ∀ d ∈ cs.map cdD, NoL d := fun d m => by
  obtain ⟨c, _, rfl⟩ := List.mem_map.mp m
  exact noL_cd c
theorem RgV.kl {K : PySem.W.Frag} {H H' : Hp} {a : Addr} {v : V} {r : Rg} (k : Kl a H H') (h : RgV K H v r) : RgV K H' v r := by
  obtain ⟨⟨ys, e⟩, kp⟩ := k
  exact RgV.kpl kp e h
def sp__law_rule (K : PySem.W.Frag) : Sp := fun vs H Q _ => ∃ g w far n ws, vs = [.ref g, .ref w, .int far] ∧ RS n H g ∧ n ≤ 700000 ∧ -(10 ^ 31) ≤ far ∧ far ≤ 10 ^ 31 ∧ w ≠ g ∧ SqL K H w (ws.map V.str) ∧ ws ≠ [] ∧ ws.length ≤ 1000 ∧
  ∀ v r H', RlGd ws r → Kp g H H' → RS (n + 50) H' g → Dp K H' v (Rl.d r) → Q v H'

/-- rules drawn for the names ws -/
def RowsGd (ws : List Str) (rs : List Rl) : Prop := ∀ r ∈ rs, RlGd ws r
theorem noL_rls (rs : List Rl) : ∀ d ∈ rs.map Rl.d, NoL d := fun d m => by
  obtain ⟨r, _, rfl⟩ := List.mem_map.mp m
  exact noL_rl r
theorem ten9 : CPowW 10 9 := ⟨by decide, by decide⟩
theorem pick_far {d : Int} (h0 : 0 ≤ d) (h1 : d < 3) :
    ∃ z : Int, atI [V.int 99, .int ((10 : Int) ^ (9 : Int).toNat), .int ((10 : Int) ^ (31 : Int).toNat)] d = some (.int z) ∧ -(10 ^ 31) ≤ z ∧ z ≤ 10 ^ 31 := by
  obtain ⟨v, e, m⟩ := pick_mem (xs := [V.int 99, .int ((10 : Int) ^ (9 : Int).toNat), .int ((10 : Int) ^ (31 : Int).toNat)]) h0 h1
  simp only [List.mem_cons, List.not_mem_nil, or_false] at m
  rcases m with rfl | rfl | rfl
  · exact ⟨_, e, by decide, by decide⟩
  · exact ⟨_, e, by decide, by decide⟩
  · exact ⟨_, e, by decide, by decide⟩
def sp__law_rows (K : PySem.W.Frag) : Sp := fun vs H Q _ => ∃ g w m n ws, vs = [.ref g, .ref w, .int m] ∧ RS n H g ∧ n ≤ 600000 ∧ 0 ≤ m ∧ m ≤ 20 ∧ w ≠ g ∧ SqL K H w (ws.map V.str) ∧ ws ≠ [] ∧ ws.length ≤ 1000 ∧
  ∀ p H' xs rs, RowsGd ws rs → (rs.length : Int) ≤ m → Kp g H H' → RS (n + 1500) H' g → H p = none → H' p = some (.lst xs) → DpAll K H' xs (rs.map Rl.d) → Q (.ref p) H'

theorem rising_pw : ∀ (l : List Str) (p : Str), risingS p l = true → (p :: l).Pairwise (fun a b => ¬ b.cps.toList < a.cps.toList)
  | [], p, _ => List.pairwise_singleton _ _
  | x :: r, p, h => by
    have h' : (!ltCps x.cps.toList p.cps.toList && risingS x r) = true := h
    rw [Bool.and_eq_true, ltCps_eq, Bool.not_eq_true', decide_eq_false_iff_not] at h'
    have ih := rising_pw r x h'.2
    refine List.pairwise_cons.mpr ⟨fun y my => ?_, ih⟩
    rcases List.mem_cons.mp my with rfl | my
    · exact h'.1
    · have hxy := (List.pairwise_cons.mp ih).1 y my
      have a1 : p.cps.toList ≤ x.cps.toList := h'.1
      have a2 : x.cps.toList ≤ y.cps.toList := hxy
      exact List.le_trans a1 a2
theorem sorted_pw {l : List Str} (h : sortedS l = true) : l.Pairwise (fun a b => ¬ b.cps.toList < a.cps.toList) := by
  cases l with
  | nil => exact .nil
  | cons x r => exact rising_pw r x h
/-- the ascending arrangement is one -/
theorem sorted_unique {a b : List Str} (p : a.Perm b) (ha : sortedS a = true) (hb : sortedS b = true) : a = b := by
  refine List.Perm.eq_of_pairwise (fun x y _ _ h1 h2 => ?_) (sorted_pw ha) (sorted_pw hb) p
  have a1 : x.cps.toList ≤ y.cps.toList := h1
  have a2 : y.cps.toList ≤ x.cps.toList := h2
  have e := List.le_antisymm a1 a2
  cases x with
  | mk xs => cases y with
    | mk ys =>
      have e' : xs.toList = ys.toList := e
      rw [Array.toList_inj.mp e']
/-! ### what repr and == ask -/
theorem dall_of {n k : Nat} : ∀ {ds : List PyData}, (∀ d ∈ ds, DOk n k d) → DAll (ds.length * (n + 1)) k ds
  | [], _ => DAll.nil.mono (Nat.zero_le _) (Nat.zero_le _)
  | d :: ds, h => by
    have z := DAll.cons (h d (by simp)) (dall_of (ds := ds) fun x m => h x (by simp [m]))
    rw [Nat.max_self] at z
    refine z.mono ?_ (Nat.le_refl _)
    rw [List.length_cons, Nat.succ_mul]
    omega
theorem dok_name {x : Str} (h : nameOk x = true) : DOk 20 1 (.str x) := by
  have so := strOk_of h
  refine DOk.str ?_ (by have := nameOk_size h; omega) so
  unfold nameOk at h
  rw [Bool.and_eq_true] at h
  rw [List.all_eq_true]
  intro c m
  have := List.all_eq_true.mp h.2 c m
  rw [Bool.and_eq_true] at this
  have := of_decide_eq_true this.2
  exact decide_eq_true (Nat.lt_of_le_of_lt this (by decide))
theorem dok_oD {m : Int} (hm : m ≤ 10 ^ 40) {o : Option Int} (h : BdOk m o) : DOk 0 1 (oD o) := by
  cases o with
  | none => exact .none
  | some i =>
    refine .int ?_
    obtain ⟨h1, h2⟩ := (show -m ≤ i ∧ i ≤ m from h)
    have t40 : (10 : Int) ^ 40 = 10000000000000000000000000000000000000000 := by decide
    have t60 : (10 : Nat) ^ 60 = 1000000000000000000000000000000000000000000000000000000000000 := by decide
    rw [t40] at hm
    rw [t60]
    omega
theorem dok_rg {m : Int} (hm : m ≤ 10 ^ 40) {r : Rg} (h : RgIn m r) : DOk 2 2 (rgD r) := by
  match r, h with
  | none, _ => exact DOk.none.mono (by decide) (by decide)
  | some (l, u), h => exact (DOk.tuple (.cons (dok_oD hm h.1) (.cons (dok_oD hm h.2) .nil))).mono (by decide) (by decide)
theorem m31 : (10 : Int) ^ 31 ≤ 10 ^ 40 := by decide
theorem dok_cd {ws : List Str} {c : Cd} (hn : nameOk c.1 = true) (hr : RgGd c.2) : DOk 30 3 (cdD c) :=
  (DOk.tuple (.cons (dok_name hn) (.cons (dok_rg m31 hr.2) .nil))).mono (by decide) (by decide)
theorem dok_cds {cs : List Cd} (h : ∀ c ∈ cs, nameOk c.1 = true ∧ RgGd c.2) (l : cs.length ≤ 2) : DOk 62 4 (.tuple (cs.map cdD)) := by
  refine (DOk.tuple (dall_of (n := 30) (k := 3) fun d m => ?_)).mono ?_ (by decide)
  · obtain ⟨c, mc, rfl⟩ := List.mem_map.mp m
    exact dok_cd (ws := []) (h c mc).1 (h c mc).2
  · rw [List.length_map]
    have := Nat.mul_le_mul_right (30 + 1) l
    omega
theorem dok_rl {ws : List Str} (hw : ∀ x ∈ ws, nameOk x = true) {r : Rl} (h : RlGd ws r) : DOk 150 5 r.d := by
  have t32 : (10 : Nat) ^ 32 < 10 ^ 60 := by decide
  match r, h with
  | .set x rr cs, h =>
    have hx := hw x (h.nm x List.mem_cons_self)
    have hc : ∀ c ∈ cs, nameOk c.1 = true ∧ RgGd c.2 := fun c m => ⟨hw _ (h.nm c.1 (List.mem_cons_of_mem _ (List.mem_map.mpr ⟨c, m, rfl⟩))), h.rg c.2 (List.mem_cons_of_mem _ (List.mem_map.mpr ⟨c, m, rfl⟩))⟩
    exact (DOk.tuple (.cons (.str (by decide +kernel) (by decide +kernel) (by decide +kernel)) (.cons (dok_name hx) (.cons (dok_rg m31 (h.rg rr List.mem_cons_self).2) (.cons (dok_cds hc h.cs) .nil))))).mono (by decide) (by decide)
  | .stp x y f a rr cs, h =>
    have hx := hw x (h.nm x List.mem_cons_self)
    have hy := hw y (h.nm y (List.mem_cons_of_mem _ List.mem_cons_self))
    have hc : ∀ c ∈ cs, nameOk c.1 = true ∧ RgGd c.2 := fun c m => ⟨hw _ (h.nm c.1 (List.mem_cons_of_mem _ (List.mem_cons_of_mem _ (List.mem_map.mpr ⟨c, m, rfl⟩)))), h.rg c.2 (List.mem_cons_of_mem _ (List.mem_map.mpr ⟨c, m, rfl⟩))⟩
    have nb : f.natAbs ≤ 10 ^ 32 ∧ a.natAbs ≤ 10 ^ 32 := ⟨Nat.le_trans h.nb.1 (by decide), h.nb.2⟩
    exact (DOk.tuple (.cons (.str (by decide +kernel) (by decide +kernel) (by decide +kernel)) (.cons (dok_name hx) (.cons (dok_name hy) (.cons (.int (Nat.lt_of_le_of_lt nb.1 t32)) (.cons (.int (Nat.lt_of_le_of_lt nb.2 t32))
      (.cons (dok_rg m31 (h.rg rr List.mem_cons_self).2) (.cons (dok_cds hc h.cs) .nil)))))))).mono (by decide) (by decide)
theorem WordsOk.ok {ws : List Str} (h : WordsOk ws) : ∀ x ∈ ws, nameOk x = true := fun x m => pool_ok x (h.pl x m)
theorem dok_rows {ws : List Str} (hw : ∀ x ∈ ws, nameOk x = true) {rs : List Rl} (h : RowsGd ws rs) (l : rs.length ≤ 20) : DOk 3020 6 (.list (rs.map Rl.d)) := by
  refine (DOk.list (dall_of (n := 150) (k := 5) fun d m => ?_)).mono ?_ (by decide)
  · obtain ⟨c, mc, rfl⟩ := List.mem_map.mp m
    exact dok_rl hw (h c mc)
  · rw [List.length_map]
    have := Nat.mul_le_mul_right (150 + 1) l
    omega
theorem dok_names {ws : List Str} (hw : ∀ x ∈ ws, nameOk x = true) (l : ws.length ≤ 20) : DOk 420 2 (.list (ws.map PyData.str)) := by
  refine (DOk.list (dall_of (n := 20) (k := 1) fun d m => ?_)).mono ?_ (by decide)
  · obtain ⟨c, mc, rfl⟩ := List.mem_map.mp m
    exact dok_name (hw c mc)
  · rw [List.length_map]
    have := Nat.mul_le_mul_right (20 + 1) l
    omega
theorem eqv_nil : ∀ ds : List PyData, PyData.eqv (.list ds) (.list []) = decide (ds = [])
  | [] => by simp [PyData.eqv, PyData.eqvAll]
  | d :: ds => by simp [PyData.eqv, PyData.eqvAll]
theorem eqv_strs : ∀ {a b : List Str}, PyData.eqvAll (a.map PyData.str) (b.map PyData.str) = true → a = b
  | [], [], _ => rfl
  | [], _ :: _, h => by simp [PyData.eqvAll] at h
  | _ :: _, [], h => by simp [PyData.eqvAll] at h
  | x :: a, y :: b, h => by
    simp only [List.map_cons, PyData.eqvAll, PyData.eqv, Bool.and_eq_true, beq_iff_eq] at h
    rw [h.1, eqv_strs h.2]
theorem eqS_names {a b : List Str} {rs rs' : List Rl} (h : a ≠ b) : eqS a b rs rs' = false := by
  cases c : eqS a b rs rs' with
  | false => rfl
  | true =>
    unfold eqS at c
    rw [Bool.and_eq_true] at c
    have z := c.1
    simp only [PyData.eqv] at z
    exact absurd (eqv_strs z) h
theorem eqS_self {ns : List Str} {rs rs' : List Rl} (h : Laid ns rs) : eqS ns ns rs rs' = PyData.eqv (.list (rs.map Rl.d)) (.list (rs'.map Rl.d)) := by
  unfold eqS
  rw [h.ns.eqv, Bool.true_and]
/-! ### systems of drawn words and rules -/
theorem rlGd_faulty {ws : List Str} {r : Rl} (h : RlGd ws r) : r.faulty ws = false := by
  unfold Rl.faulty
  rw [h.nz, Bool.false_or, Bool.or_eq_false_iff]
  constructor
  · rw [List.any_eq_false]
    intro x m
    rw [decide_eq_true (h.nm x m)]
    decide
  · rw [List.any_eq_false]
    intro x m
    rw [(h.rg x m).1]
    decide
theorem sysOk_of {ws : List Str} {rs : List Rl} (hw : WordsOk ws) (hr : RowsGd ws rs) (l : ws.length ≤ 20) (l2 : rs.length ≤ 1000) : SysOk ws rs :=
  ⟨hw.nd, hw.ok, fun r m => rlGd_faulty (hr r m), fun r m => Nat.le_trans (hr r m).cs (by decide), by omega, l2⟩
theorem laid_of {ws ss : List Str} {rs : List Rl} (hw : WordsOk ws) (hr : RowsGd ws rs) (p : ss.Perm ws) : Laid ss rs :=
  ⟨fun x m => strOk_of (hw.ok x (p.mem_iff.mp m)), fun r m x mx => strOk_of (hw.ok x ((hr r m).nm x mx))⟩
theorem RowsGd.app {ws : List Str} {a b : List Rl} (ha : RowsGd ws a) (hb : RowsGd ws b) : RowsGd ws (a ++ b) := fun r m => (List.mem_append.mp m).elim (ha r) (hb r)
theorem RowsGd.sub {ws : List Str} {a b : List Rl} (ha : RowsGd ws a) (h : ∀ r ∈ b, r ∈ a) : RowsGd ws b := fun r m => ha r (h r m)
theorem WordsOk.rev {ws : List Str} (h : WordsOk ws) : WordsOk ws.reverse := ⟨(List.reverse_perm ws).nodup_iff.mpr h.nd, fun x m => h.pl x (List.mem_reverse.mp m)⟩
theorem SysAt.ty {K : PySem.W.Frag} {mg : Str → Option Value} {C : Addr} (T : SysT K mg C) {H : Hp} {a p q : Addr} {ns : List Str} {rs : List Rl} (h : SysAt K C H a p q ns rs) : TyX K H (.ref a) (.ref C) := by
  obtain ⟨dx, fs, xs, h1, _⟩ := h
  exact .base (.ins h1 T.ck.cl T.ha T.hn T.ht T.hm)
theorem SysAt.ins {K : PySem.W.Frag} {C : Addr} {H : Hp} {a p q : Addr} {ns : List Str} {rs : List Rl} (h : SysAt K C H a p q ns rs) : ∃ dx fs, H a = some (.ins C dx fs) := by
  obtain ⟨dx, fs, xs, h1, _⟩ := h
  exact ⟨dx, fs, h1⟩
theorem SysAt.insM {K : PySem.W.Frag} {C : Addr} {H : Hp} {a p q : Addr} {ns : List Str} {rs : List Rl} (h : SysAt K C H a p q ns rs) : ∃ dx fs, H a = some (.ins C dx fs) ∧ ∀ m : Str, m ≠ "_names" → m ≠ "_rules" → fs.lookup m = none := by
  obtain ⟨dx, fs, xs, h1, h2, h3, h4, h5, h6, h7⟩ := h
  exact ⟨dx, fs, h1, h7⟩
/-- a system is made -/
theorem mk_sys {K : PySem.W.Frag} {C : Addr} {H1 : Hp} {a b : Addr} {ns : List Str} {xs : List V} {rs : List Rl} {Q : Addr → Hp → Prop} {E : XK} (ha : SqL K H1 a (ns.map V.str)) (hb : SqL K H1 b xs) (dr : DpAll K H1 xs (rs.map Rl.d)) (ok : SysOk ns rs)
    (q : ∀ x H' p r ss, ss.Perm ns → sortedS ss = true → Same H1 H' → H1 x = none → H1 p = none → H1 r = none → SysAt K C H' x p r ss rs → Q x H') :
    ∀ x dx, H1 x = none → H1 dx = none → dx ≠ x → sp_System___init__ K C (.ref x :: ([.ref a, .ref b] ++ [])) (upd (upd H1 dx (.own x)) x (.ins C dx [])) (fun v H2 => v = .non ∧ Q x H2) E := by
  intro x dx nx nd ne
  have s1 : Same H1 (upd H1 dx (.own x)) := Same.new nd
  have nx1 : upd H1 dx (.own x) x = none := by rw [upd_ne (Ne.symm ne)]; exact nx
  have s2 := s1.trans (Same.new (o := .ins C dx []) nx1)
  have old : ∀ {b : Addr}, upd (upd H1 dx (.own x)) x (.ins C dx []) b = none → H1 b = none := fun {b} e => by
    cases z : H1 b with
    | none => rfl
    | some u => rw [s2 _ _ z] at e; cases e
  refine ⟨x, dx, a, b, ns, xs, rs, rfl, upd_same, s2.seq ha, s2.seq hb, dpa_same s2 dr, ok, fun H' p r ss pm so kp np nr sa => ⟨rfl, ?_⟩⟩
  exact q x H' p r ss pm so (fun c u e => kp _ _ (ne_of_none e nx) (s2 _ _ e)) nx (old np) (old nr) sa
theorem SysAt.kl {K : PySem.W.Frag} {C b : Addr} {H H' : Hp} {a p q : Addr} {ns : List Str} {rs : List Rl} (k : Kl b H H') (hp : p ≠ b) (hq : q ≠ b) (h : SysAt K C H a p q ns rs) : SysAt K C H' a p q ns rs := by
  obtain ⟨dx, fs, xs, h1, h2, h3, h4, h5, h6, h7⟩ := h
  obtain ⟨ys, e⟩ := k.1
  exact ⟨dx, fs, xs, k.2 _ _ (ne_of h1 e (fun z => by cases z)) h1, h2, h3, k.2 _ _ hp h4, k.2 _ _ hq h5, dpa_kl k h6 (noL_rls rs), h7⟩

/-- a range for each name -/
abbrev Hd := Str → Rg
structure Held (K : PySem.W.Frag) (H : Hp) (a : Addr) (ws : List Str) (f : Hd) : Prop where
  dc : ∃ u : Str → V, DF H a ws u ∧ ∀ x ∈ ws, RgV K H (u x) (f x)
  nd : ws.Nodup
  gd : ∀ x ∈ ws, RgFit (f x) ∧ SzR (f x)
theorem Held.same {K : PySem.W.Frag} {H H' : Hp} {a : Addr} {ws : List Str} {f : Hd} (k : Same H H') (h : Held K H a ws f) : Held K H' a ws f := by
  obtain ⟨u, d, r⟩ := h.dc
  exact ⟨⟨u, d.same k, fun x m => (r x m).same k⟩, h.nd, h.gd⟩
theorem Held.get {K : PySem.W.Frag} {H : Hp} {a : Addr} {ws : List Str} {f : Hd} (h : Held K H a ws f) {x : Str} (m : x ∈ ws) : ∃ v, DGet H a (.str x) (some v) ∧ RgV K H v (f x) := by
  obtain ⟨u, d, r⟩ := h.dc
  exact ⟨u x, d.get m, r x m⟩
theorem fit_of_bad {r : Rg} (h : badR r = false) : RgFit r := by
  match r, h with
  | none, _ => trivial
  | some (none, _), _ => trivial
  | some (some _, none), _ => trivial
  | some (some l, some u), h =>
    have h' : (false || decide (l > u)) = false := h
    rw [Bool.false_or] at h'
    have := of_decide_eq_false h'
    show l ≤ u
    omega
theorem gr_sz {a b : Option Int} (ha : SzO a) (hb : SzO b) : SzO (gr a b) := by
  cases a with
  | none => exact hb
  | some x =>
    cases b with
    | none => exact ha
    | some y =>
      show SzO (some (if y > x then y else x))
      split
      · exact hb
      · exact ha
theorem le2_sz {a b : Option Int} (ha : SzO a) (hb : SzO b) : SzO (le2 a b) := by
  cases a with
  | none => exact hb
  | some x =>
    cases b with
    | none => exact ha
    | some y =>
      show SzO (some (if y < x then y else x))
      split
      · exact hb
      · exact ha
theorem comR_sz {r1 r2 : Rg} (h1 : SzR r1) (h2 : SzR r2) : SzR (comR r1 r2) := by
  match r1, r2, h1, h2 with
  | none, none, _, _ => trivial
  | none, some _, _, _ => trivial
  | some _, none, _, _ => trivial
  | some (l1, u1), some (l2, u2), h1, h2 =>
    show SzR (if up (some (gr l1 l2, le2 u1 u2)) = true then none else some (gr l1 l2, le2 u1 u2))
    split
    · trivial
    · exact ⟨gr_sz h1.1 h2.1, le2_sz h1.2 h2.2⟩
theorem comR_fit {r1 r2 : Rg} : RgFit (comR r1 r2) := by
  match r1, r2 with
  | none, none => trivial
  | none, some _ => trivial
  | some _, none => trivial
  | some (l1, u1), some (l2, u2) =>
    show RgFit (if up (some (gr l1 l2, le2 u1 u2)) = true then none else some (gr l1 l2, le2 u1 u2))
    split
    · trivial
    · rename_i h
      generalize gr l1 l2 = a at h
      generalize le2 u1 u2 = b at h
      match a, b, h with
      | none, _, _ => trivial
      | some _, none, _ => trivial
      | some x, some y, h =>
        show x ≤ y
        have h3 : ¬ x > y := fun z => h (show decide (x > y) = true from decide_eq_true z)
        omega
/-- a bound of a rule -/
def SzB (o : Option Int) : Prop := ∀ i, o = some i → i.natAbs < 2 ^ 300
theorem SzB.o {o : Option Int} (h : SzB o) : SzO o := fun i e => Nat.lt_of_lt_of_le (h i e) (Nat.pow_le_pow_right (by decide) (by decide))
/-- a range in a rule -/
def RgB (r : Rg) : Prop := RgFit r ∧ ∃ l u, r = some (l, u) ∧ SzB l ∧ SzB u
theorem RgB.sz {r : Rg} (h : RgB r) : SzR r := by
  obtain ⟨_, l, u, rfl, a, b⟩ := h
  exact ⟨a.o, b.o⟩
/-- a rule of moderate numbers -/
structure RlB (ws : List Str) (r : Rl) : Prop where
  nm : ∀ x ∈ r.names, x ∈ ws
  rg : ∀ x ∈ r.rgs, RgB x
  nz : r.zero = false
  cs : r.cs.length ≤ 1000
  sb : ∀ x y f a g cs, r = .stp x y f a g cs → f.natAbs ≤ 100 ∧ a.natAbs < 2 ^ 300
/-- whether a rule counts -/
def onC (f : Hd) (c : Cd) : Bool := (comR (f c.1) c.2).isSome
def onR (f : Hd) : Rl → Bool
  | .set _ _ cs => cs.all (onC f)
  | .stp _ y _ _ r cs => cs.all (onC f) && (comR (f y) r).isSome
/-- what it gives -/
def giftR (f : Hd) (r : Rl) : Rg := if onR f r = true then (match r with | .set _ rr _ => rr | .stp _ y fa a rr _ => stepR fa a (comR (f y) rr)) else none
theorem RlB.cdn {ws : List Str} {r : Rl} (h : RlB ws r) : ∀ c ∈ r.cs, c.1 ∈ ws ∧ RgFit c.2 := by
  match r, h with
  | .set x rr cs, h => exact fun c m => ⟨h.nm _ (List.mem_cons_of_mem _ (List.mem_map.mpr ⟨c, m, rfl⟩)), (h.rg _ (List.mem_cons_of_mem _ (List.mem_map.mpr ⟨c, m, rfl⟩))).1⟩
  | .stp x y f a rr cs, h => exact fun c m => ⟨h.nm _ (List.mem_cons_of_mem _ (List.mem_cons_of_mem _ (List.mem_map.mpr ⟨c, m, rfl⟩))), (h.rg _ (List.mem_cons_of_mem _ (List.mem_map.mpr ⟨c, m, rfl⟩))).1⟩
theorem take_succ {α : Type} {l : List α} {i : Nat} {x : α} (h : l[i]? = some x) : l.take (i + 1) = l.take i ++ [x] := by
  rw [List.take_add_one, h]
  rfl




/-! ### ends of ranges, outward: none is no bound; true is the high side -/
abbrev En := Option Int
abbrev Pr := Option Int × Option Int
def enLe : En → En → Prop
  | _, none => True
  | none, some _ => False
  | some a, some b => a ≤ b
theorem enLe.refl : ∀ a : En, enLe a a
  | none => trivial
  | some a => Int.le_refl a
theorem enLe.trans : ∀ {a b c : En}, enLe a b → enLe b c → enLe a c
  | _, _, none, _, _ => trivial
  | some a, some b, some c, h, k => Int.le_trans h k
  | none, some b, some c, h, _ => h.elim
  | _, none, some c, _, k => k.elim
theorem enLe.antisymm : ∀ {a b : En}, enLe a b → enLe b a → a = b
  | none, none, _, _ => rfl
  | some a, some b, h, k => congrArg some (Int.le_antisymm h k)
  | none, some b, h, _ => h.elim
  | some a, none, _, k => k.elim
def enMin : En → En → En
  | none, b => b
  | some a, none => some a
  | some a, some b => some (if b < a then b else a)
def enMax : En → En → En
  | some a, some b => some (if b > a then b else a)
  | _, _ => none
def neg : En → En := fun o => o.map fun x => -x
def endP (p : Pr) (s : Bool) : En := if s = true then p.2 else neg p.1
def sideX (s : Bool) (f : Int) : Bool := if f > 0 then s else !s
/-- an end through a step -/
def stepE (f a : Int) (s : Bool) (stop e : En) : En := (enMin stop e).map fun v => (f.natAbs : Int) * v + (if sideX s f = true then a else -a)
theorem enMin_le {a b : En} : enLe (enMin a b) a ∧ enLe (enMin a b) b := by
  cases a with
  | none => cases b <;> simp [enMin, enLe]
  | some a =>
    cases b with
    | none => simp [enMin, enLe]
    | some b =>
      simp only [enMin, enLe]
      split <;> omega
theorem enMin_mono {a b c : En} (h : enLe b c) : enLe (enMin a b) (enMin a c) := by
  cases a with
  | none => exact h
  | some a =>
    cases b with
    | none =>
      cases c with
      | none => exact enLe.refl _
      | some c => exact h.elim
    | some b =>
      cases c with
      | none => exact enMin_le.1
      | some c =>
        have h' : b ≤ c := h
        simp only [enMin, enLe]
        split <;> split <;> omega
theorem stepE_mono {f a : Int} {s : Bool} {stop b c : En} (h : enLe b c) : enLe (stepE f a s stop b) (stepE f a s stop c) := by
  unfold stepE
  have z := enMin_mono (a := stop) h
  generalize enMin stop b = x at z
  generalize enMin stop c = y at z
  cases y with
  | none => trivial
  | some y =>
    cases x with
    | none => exact z.elim
    | some x =>
      have z' : x ≤ y := z
      show (f.natAbs : Int) * x + _ ≤ (f.natAbs : Int) * y + _
      have := Int.mul_le_mul_of_nonneg_left z' (Int.natCast_nonneg f.natAbs)
      omega
/-- a range within another one -/
def Sub : Rg → Rg → Prop
  | none, _ => True
  | some _, none => False
  | some p, some q => ∀ s, enLe (endP p s) (endP q s)
theorem Sub.refl : ∀ r : Rg, Sub r r
  | none => trivial
  | some p => fun s => enLe.refl _
theorem Sub.trans : ∀ {a b c : Rg}, Sub a b → Sub b c → Sub a c
  | none, _, _, _, _ => trivial
  | some _, none, _, h, _ => h.elim
  | some _, some _, none, _, k => k.elim
  | some _, some _, some _, h, k => fun s => (h s).trans (k s)
theorem endP_ext {p q : Pr} (h : ∀ s, endP p s = endP q s) : p = q := by
  have h1 := h true
  have h2 := h false
  obtain ⟨l, u⟩ := p
  obtain ⟨l', u'⟩ := q
  simp only [endP, if_true] at h1
  simp only [endP, neg, Bool.false_eq_true, if_false] at h2
  have : l = l' := by
    cases l <;> cases l' <;> simp at h2 ⊢
    omega
  rw [h1, this]
theorem Sub.antisymm {a b : Rg} (h : Sub a b) (k : Sub b a) : a = b := by
  match a, b, h, k with
  | none, none, _, _ => rfl
  | none, some _, _, k => exact k.elim
  | some _, none, h, _ => exact h.elim
  | some p, some q, h, k => exact congrArg some (endP_ext fun s => (h s).antisymm (k s))
/-- the common range of two -/
def com2 (p w : Pr) : Pr := (gr p.1 w.1, le2 p.2 w.2)
theorem comR_some {p w : Pr} : comR (some p) (some w) = if up (some (com2 p w)) = true then none else some (com2 p w) := rfl
theorem end_com2 {p w : Pr} (s : Bool) : endP (com2 p w) s = enMin (endP w s) (endP p s) := by
  obtain ⟨l, u⟩ := p
  obtain ⟨l', u'⟩ := w
  cases s with
  | true =>
    show le2 u u' = enMin u' u
    cases u <;> cases u' <;> simp only [le2, enMin]
    split <;> split <;> first | rfl | (congr 1; omega)
  | false =>
    show neg (gr l l') = enMin (neg l') (neg l)
    cases l <;> cases l' <;> simp only [gr, enMin, neg, Option.map]
    congr 1
    split <;> split <;> omega
/-- no value is in it -/
theorem up_iff {p : Pr} : up (some p) = true ↔ ∃ a b, endP p false = some a ∧ endP p true = some b ∧ a + b < 0 := by
  obtain ⟨l, u⟩ := p
  cases l with
  | none => simp [up, endP, neg]
  | some l =>
    cases u with
    | none => simp [up, endP, neg]
    | some u =>
      simp [up, endP, neg]
      omega
theorem up_mono {p q : Pr} (h : ∀ s, enLe (endP p s) (endP q s)) (k : up (some q) = true) : up (some p) = true := by
  obtain ⟨a, b, e1, e2, l⟩ := up_iff.mp k
  have h1 := h false
  have h2 := h true
  rw [e1] at h1
  rw [e2] at h2
  cases e3 : endP p false with
  | none => rw [e3] at h1; exact h1.elim
  | some c =>
    cases e4 : endP p true with
    | none => rw [e4] at h2; exact h2.elim
    | some d =>
      rw [e3] at h1
      rw [e4] at h2
      have h1' : c ≤ a := h1
      have h2' : d ≤ b := h2
      exact up_iff.mpr ⟨c, d, e3, e4, by omega⟩
theorem com_mono {r r' : Rg} {w : Rg} (h : Sub r r') : Sub (comR r w) (comR r' w) := by
  match r, r', w, h with
  | none, _, none, _ => trivial
  | none, _, some _, _ => trivial
  | some _, none, _, h => exact h.elim
  | some p, some q, none, _ => trivial
  | some p, some q, some w, h =>
    rw [comR_some, comR_some]
    have e : ∀ s, enLe (endP (com2 p w) s) (endP (com2 q w) s) := fun s => by
      rw [end_com2, end_com2]
      exact enMin_mono (h s)
    by_cases c : up (some (com2 p w)) = true
    · rw [if_pos c]
      trivial
    · rw [if_neg c, if_neg (fun z => c (up_mono e z))]
      exact e
theorem com_some_mono {r r' w : Rg} (h : Sub r r') (k : (comR r w).isSome = true) : (comR r' w).isSome = true := by
  have z := com_mono (w := w) h
  cases e : comR r w with
  | none => rw [e] at k; cases k
  | some a =>
    rw [e] at z
    cases e2 : comR r' w with
    | none => rw [e2] at z; exact z.elim
    | some b => rfl
/-- all ranges within those of another -/
def SubF (f g : Hd) : Prop := ∀ x, Sub (f x) (g x)
theorem SubF.refl (f : Hd) : SubF f f := fun x => Sub.refl _
theorem SubF.trans {f g h : Hd} (a : SubF f g) (b : SubF g h) : SubF f h := fun x => (a x).trans (b x)
theorem onR_mono {f g : Hd} {r : Rl} (h : SubF f g) (k : onR f r = true) : onR g r = true := by
  have cs : ∀ cs : List Cd, cs.all (onC f) = true → cs.all (onC g) = true := fun cs e => by
    rw [List.all_eq_true] at e ⊢
    exact fun c m => com_some_mono (h c.1) (e c m)
  match r, k with
  | .set x rr c, k => exact cs c k
  | .stp x y fa a rr c, k =>
    have k' : (c.all (onC f) && (comR (f y) rr).isSome) = true := k
    rw [Bool.and_eq_true] at k'
    show (c.all (onC g) && (comR (g y) rr).isSome) = true
    rw [cs c k'.1, com_some_mono (h y) k'.2]
    rfl
theorem end_stepR {f a : Int} (hf : f ≠ 0) {p : Pr} : ∃ q, stepR f a (some p) = some q ∧ ∀ s, endP q (sideX s f) = (endP p s).map fun v => (f.natAbs : Int) * v + (if sideX s f = true then a else -a) := by
  obtain ⟨l, u⟩ := p
  by_cases c : f > 0
  · refine ⟨(tk f a l, tk f a u), by show (if f > 0 then _ else _) = _; rw [if_pos c], fun s => ?_⟩
    have e : (f.natAbs : Int) = f := by omega
    unfold sideX
    rw [if_pos c, e]
    cases s with
    | true => cases u <;> simp [endP, tk]
    | false =>
      cases l with
      | none => simp [endP, tk, neg]
      | some l =>
        simp only [endP, tk, neg, Option.map, Bool.false_eq_true, if_false]
        rw [Int.mul_neg, Int.neg_add]
  · refine ⟨(tk f a u, tk f a l), by show (if f > 0 then _ else _) = _; rw [if_neg c], fun s => ?_⟩
    have e : (f.natAbs : Int) = -f := by omega
    unfold sideX
    rw [if_neg c, e]
    cases s with
    | true =>
      cases u with
      | none => simp [endP, tk, neg]
      | some u =>
        simp only [endP, tk, neg, Option.map, Bool.not_true, Bool.false_eq_true, if_false, if_true]
        rw [Int.neg_mul, Int.neg_add]
    | false =>
      cases l with
      | none => simp [endP, tk, neg]
      | some l =>
        simp only [endP, tk, neg, Option.map, Bool.not_false, Bool.false_eq_true, if_false, if_true]
        rw [Int.neg_mul_neg]
theorem step_mono {f a : Int} (hf : f ≠ 0) {r r' : Rg} (h : Sub r r') : Sub (stepR f a r) (stepR f a r') := by
  match r, r', h with
  | none, _, _ => trivial
  | some _, none, h => exact h.elim
  | some p, some q, h =>
    obtain ⟨p', e1, h1⟩ := end_stepR (a := a) hf (p := p)
    obtain ⟨q', e2, h2⟩ := end_stepR (a := a) hf (p := q)
    rw [e1, e2]
    intro s
    have es : ∃ t, sideX t f = s := by
      unfold sideX
      by_cases c : f > 0
      · exact ⟨s, by rw [if_pos c]⟩
      · exact ⟨!s, by rw [if_neg c, Bool.not_not]⟩
    obtain ⟨t, rfl⟩ := es
    rw [h1, h2]
    have z := h t
    cases ea : endP p t with
    | none =>
      cases eb : endP q t with
      | none => trivial
      | some b => rw [ea, eb] at z; exact z.elim
    | some a' =>
      cases eb : endP q t with
      | none => trivial
      | some b =>
        rw [ea, eb] at z
        have z' : a' ≤ b := z
        show (f.natAbs : Int) * a' + _ ≤ (f.natAbs : Int) * b + _
        have := Int.mul_le_mul_of_nonneg_left z' (Int.natCast_nonneg f.natAbs)
        omega
theorem gift_mono {f g : Hd} {r : Rl} (nz : r.zero = false) (h : SubF f g) : Sub (giftR f r) (giftR g r) := by
  cases k : onR f r with
  | false =>
    have : giftR f r = none := by unfold giftR; rw [k]; rfl
    rw [this]
    trivial
  | true =>
    have k2 := onR_mono h k
    unfold giftR
    rw [if_pos k, if_pos k2]
    match r, nz with
    | .set x rr cs, _ => exact Sub.refl _
    | .stp x y fa a rr cs, nz =>
      have hf : fa ≠ 0 := of_decide_eq_false nz
      exact step_mono hf (com_mono (h y))
/-- the ends that a step gives -/
theorem gift_end {f : Hd} {x y : Str} {fa a : Int} {w : Pr} {cs : List Cd} (hf : fa ≠ 0) (k : onR f (.stp x y fa a (some w) cs) = true) : ∃ p q, f y = some p ∧ giftR f (.stp x y fa a (some w) cs) = some q ∧
    ∀ s, endP q (sideX s fa) = stepE fa a s (endP w s) (endP p s) := by
  have k' : (cs.all (onC f) && (comR (f y) (some w)).isSome) = true := k
  rw [Bool.and_eq_true] at k'
  cases ey : f y with
  | none => rw [ey] at k'; exact Bool.noConfusion (show false = true from k'.2)
  | some p =>
    have k2 := k'.2
    rw [ey, comR_some] at k2
    by_cases c : up (some (com2 p w)) = true
    · rw [if_pos c] at k2
      cases k2
    · obtain ⟨q, e1, e2⟩ := end_stepR (a := a) hf (p := com2 p w)
      refine ⟨p, q, rfl, ?_, fun s => ?_⟩
      · unfold giftR
        rw [if_pos k]
        show stepR fa a (comR (f y) (some w)) = _
        rw [ey, comR_some, if_neg c, e1]
      · rw [e2, end_com2]
        rfl
theorem end_join {p q : Pr} : ∃ t, joinR (some p) (some q) = some t ∧ ∀ s, endP t s = enMax (endP p s) (endP q s) := by
  obtain ⟨l, u⟩ := p
  obtain ⟨l', u'⟩ := q
  refine ⟨(lon l l', gon u u'), rfl, fun s => ?_⟩
  cases s with
  | true => cases u <;> cases u' <;> simp [endP, gon, enMax]
  | false =>
    cases l <;> cases l' <;> simp only [endP, lon, neg, enMax, Option.map, Bool.false_eq_true, if_false]
    congr 1
    split <;> split <;> omega
theorem enMax_l {a b : En} : enLe a (enMax a b) := by
  cases a <;> cases b <;> simp only [enMax, enLe]
  split <;> omega
theorem enMax_r {a b : En} : enLe b (enMax a b) := by
  cases a <;> cases b <;> simp only [enMax, enLe]
  split <;> omega
theorem enMax_ne {a b : En} (h : enMax a b ≠ a) : enMax a b = b ∧ ¬ enLe b a := by
  cases a with
  | none => exact absurd (by cases b <;> rfl) h
  | some a =>
    cases b with
    | none => exact ⟨rfl, fun z => z⟩
    | some b =>
      have h' : (if b > a then b else a) ≠ a := fun z => h (congrArg some z)
      split at h'
      · rename_i c
        exact ⟨congrArg some (if_pos c), fun z => by have z' : b ≤ a := z; omega⟩
      · exact absurd rfl h'
theorem enMax_le {a b c : En} (h : enLe a c) (k : enLe b c) : enLe (enMax a b) c := by
  cases c with
  | none => cases a <;> cases b <;> trivial
  | some c =>
    cases a with
    | none => exact h.elim
    | some a =>
      cases b with
      | none => exact k.elim
      | some b =>
        have h' : a ≤ c := h
        have k' : b ≤ c := k
        simp only [enMax, enLe]
        split <;> omega
theorem sub_join_l {a b : Rg} : Sub a (joinR a b) := by
  match a, b with
  | none, _ => trivial
  | some p, none => exact Sub.refl _
  | some p, some q =>
    obtain ⟨t, e, h⟩ := end_join (p := p) (q := q)
    rw [e]
    exact fun s => by rw [h]; exact enMax_l
theorem sub_join_r {a b : Rg} : Sub b (joinR a b) := by
  match a, b with
  | none, none => trivial
  | none, some q => exact Sub.refl _
  | some p, none => trivial
  | some p, some q =>
    obtain ⟨t, e, h⟩ := end_join (p := p) (q := q)
    rw [e]
    exact fun s => by rw [h]; exact enMax_r
theorem join_sub {a b c : Rg} (h : Sub a c) (k : Sub b c) : Sub (joinR a b) c := by
  match a, b, c, h, k with
  | none, none, _, _, _ => trivial
  | none, some q, _, _, k => exact k
  | some p, none, _, h, _ => exact h
  | some p, some q, none, h, _ => exact h.elim
  | some p, some q, some c, h, k =>
    obtain ⟨t, e, z⟩ := end_join (p := p) (q := q)
    rw [e]
    exact fun s => by rw [z]; exact enMax_le (h s) (k s)

def xOfR : Rl → Str
  | .set x _ _ => x
  | .stp x _ _ _ _ _ => x
/-! ### how ranges grow: ends, and where they have come from -/
abbrev E2 := Str × Bool
abbrev Src := E2 → Option (Nat × E2)
/-- the value of an end, none where the range is empty -/
def evl (g : Hd) (e : E2) : Option En := (g e.1).map fun p => endP p e.2
/-- a step of the system with a range within -/
structure StepAt (rs : List Rl) (n : Nat) (x y : Str) (f a : Int) (w : Pr) (cs : List Cd) : Prop where
  at_ : rs[n]? = some (.stp x y f a (some w) cs)
  nz : f ≠ 0
/-- the end e has come from the end e' by the step n -/
def Edge (rs : List Rl) (g : Hd) (e : E2) (n : Nat) (e' : E2) : Prop := ∃ f a w cs u v, StepAt rs n e.1 e'.1 f a w cs ∧ e.2 = sideX e'.2 f ∧ onR g (.stp e.1 e'.1 f a (some w) cs) = true ∧
  evl g e = some u ∧ evl g e' = some v ∧ enLe u (stepE f a e'.2 (endP w e'.2) v)
/-- a way along the sources -/
inductive Way (src : Src) : E2 → List (Nat × E2) → E2 → Prop
  | nil (e : E2) : Way src e [] e
  | cons {e e' t : E2} {n : Nat} {l : List (Nat × E2)} (h : src e = some (n, e')) (r : Way src e' l t) : Way src e ((n, e') :: l) t
def Rank (src : Src) (r : E2 → Nat) : Prop := ∀ e n e', src e = some (n, e') → r e' < r e
theorem Way.rank {src : Src} {r : E2 → Nat} (h : Rank src r) : ∀ {e t : E2} {l : List (Nat × E2)}, Way src e l t → ∀ p ∈ l, r p.2 < r e
  | _, _, _, .nil _, p, m => absurd m (by simp)
  | e, _, _, .cons s w, p, m => by
    have z := h _ _ _ s
    rcases List.mem_cons.mp m with rfl | m
    · exact z
    · exact Nat.lt_trans (w.rank h p m) z
theorem Way.nodup {src : Src} {r : E2 → Nat} (h : Rank src r) : ∀ {e t : E2} {l : List (Nat × E2)}, Way src e l t → (l.map (·.2)).Nodup
  | _, _, _, .nil _ => .nil
  | e, _, _, .cons s w => by
    rw [List.map_cons, List.nodup_cons]
    refine ⟨fun m => ?_, w.nodup h⟩
    obtain ⟨p, mp, e⟩ := List.mem_map.mp m
    have := w.rank h p mp
    rw [e] at this
    exact Nat.lt_irrefl _ this
/-- a way to an end without a source -/
theorem way_root {src : Src} {r : E2 → Nat} (h : Rank src r) : ∀ (k : Nat) (e : E2), r e ≤ k → ∃ l t, Way src e l t ∧ src t = none
  | 0, e, hk => by
    cases s : src e with
    | none => exact ⟨[], e, .nil e, s⟩
    | some p =>
      have := h e p.1 p.2 s
      omega
  | k + 1, e, hk => by
    cases s : src e with
    | none => exact ⟨[], e, .nil e, s⟩
    | some p =>
      have z := h e p.1 p.2 s
      obtain ⟨l, t, w, q⟩ := way_root h k p.2 (by omega)
      exact ⟨(p.1, p.2) :: l, t, .cons s w, q⟩
theorem nodup_le {α : Type} [DecidableEq α] : ∀ {l m : List α}, l.Nodup → (∀ x ∈ l, x ∈ m) → l.length ≤ m.length
  | [], _, _, _ => Nat.zero_le _
  | x :: l, m, nd, h => by
    have nd' := List.nodup_cons.mp nd
    have mx := h x List.mem_cons_self
    have z := nodup_le (l := l) (m := m.erase x) nd'.2 fun y my => (List.mem_erase_of_ne (fun e => nd'.1 (by rw [← e]; exact my))).mpr (h y (List.mem_cons_of_mem _ my))
    rw [List.length_erase_of_mem mx] at z
    have : 0 < m.length := List.length_pos_of_mem mx
    show l.length + 1 ≤ m.length
    omega
/-! ### the whole round -/
structure Crs where
  f : Int
  a : Int
  m : En
def Crs.go (c : Crs) (e : En) : En := enMin c.m (e.map fun v => c.f * v + c.a)
/-- a step more -/
def Crs.step (c : Crs) (f a : Int) (s : Bool) (stop : En) : Crs :=
  ⟨(f.natAbs : Int) * c.f, (f.natAbs : Int) * c.a + (if sideX s f = true then a else -a), (enMin stop c.m).map fun v => (f.natAbs : Int) * v + (if sideX s f = true then a else -a)⟩
theorem map_min {k d : Int} (hk : 0 ≤ k) (a b : En) : (enMin a b).map (fun v => k * v + d) = enMin (a.map fun v => k * v + d) (b.map fun v => k * v + d) := by
  cases a with
  | none => cases b <;> rfl
  | some a =>
    cases b with
    | none => rfl
    | some b =>
      show some (k * (if b < a then b else a) + d) = some (if k * b + d < k * a + d then k * b + d else k * a + d)
      congr 1
      by_cases c : b < a
      · rw [if_pos c]
        have := Int.mul_le_mul_of_nonneg_left (Int.le_of_lt c) hk
        split <;> omega
      · rw [if_neg c]
        have := Int.mul_le_mul_of_nonneg_left (show a ≤ b by omega) hk
        rw [if_neg (by omega)]
theorem enMin_assoc (a b c : En) : enMin a (enMin b c) = enMin (enMin a b) c := by
  cases a with
  | none => cases b <;> rfl
  | some a =>
    cases b with
    | none => cases c <;> rfl
    | some b =>
      cases c with
      | none => rfl
      | some c =>
        simp only [enMin]
        congr 1
        by_cases h1 : c < b <;> by_cases h2 : b < a <;> by_cases h3 : c < a <;> simp [h1, h2, h3] <;> omega
theorem Crs.step_go (c : Crs) (f a : Int) (s : Bool) (stop e : En) : (c.step f a s stop).go e = stepE f a s stop (c.go e) := by
  unfold Crs.go stepE
  rw [enMin_assoc, map_min (Int.natCast_nonneg _)]
  show enMin ((enMin stop c.m).map _) _ = enMin ((enMin stop c.m).map _) _
  congr 1
  cases e with
  | none => rfl
  | some v =>
    show some _ = some _
    congr 1
    show (f.natAbs : Int) * c.f * v + ((f.natAbs : Int) * c.a + _) = (f.natAbs : Int) * (c.f * v + c.a) + _
    rw [Int.mul_add, Int.mul_assoc, Int.add_assoc]
def Crs.one : Crs := ⟨1, 0, none⟩
theorem Crs.one_go (e : En) : Crs.one.go e = e := by
  cases e with
  | none => rfl
  | some v =>
    show some (1 * v + 0) = some v
    congr 1
    omega
/-- the round along a way: from its end to its beginning -/
def wayC (rs : List Rl) : List (Nat × E2) → Crs
  | [] => Crs.one
  | (n, e') :: l => match rs[n]? with
    | some (.stp _ _ f a (some w) _) => (wayC rs l).step f a e'.2 (endP w e'.2)
    | _ => wayC rs l
theorem wayC_cons {rs : List Rl} {n : Nat} {e' : E2} {l : List (Nat × E2)} {x y : Str} {f a : Int} {w : Pr} {cs : List Cd} (h : StepAt rs n x y f a w cs) : wayC rs ((n, e') :: l) = (wayC rs l).step f a e'.2 (endP w e'.2) := by
  show (match rs[n]? with
    | some (.stp _ _ f a (some w) _) => (wayC rs l).step f a e'.2 (endP w e'.2)
    | _ => wayC rs l) = _
  rw [h.at_]
theorem wayC_pos {rs : List Rl} {src : Src} {g : Hd} (he : ∀ e n e', src e = some (n, e') → Edge rs g e n e') : ∀ {e t : E2} {l : List (Nat × E2)}, Way src e l t → 1 ≤ (wayC rs l).f
  | _, _, _, .nil _ => by show (1 : Int) ≤ 1; decide
  | _, _, _, .cons s w => by
    obtain ⟨f, a, w_, cs, u, v, st, _⟩ := he _ _ _ s
    rw [wayC_cons st]
    show 1 ≤ (f.natAbs : Int) * _
    have z := wayC_pos he w
    have nz := st.nz
    have : (1 : Int) ≤ (f.natAbs : Int) := by omega
    have := Int.mul_le_mul this z (by decide) (by omega)
    omega
/-- no end on a way lies beyond what the way makes of its last one -/
theorem way_le {rs : List Rl} {src : Src} {g : Hd} (he : ∀ e n e', src e = some (n, e') → Edge rs g e n e') : ∀ {e t : E2} {l : List (Nat × E2)}, Way src e l t → ∀ {u v : En}, evl g e = some u → evl g t = some v → enLe u ((wayC rs l).go v)
  | _, _, _, .nil _, u, v, h1, h2 => by
    rw [h1] at h2
    cases h2
    rw [show wayC rs [] = Crs.one from rfl, Crs.one_go]
    exact enLe.refl _
  | _, _, _, .cons s w, u, v, h1, h2 => by
    obtain ⟨f, a, w_, cs, u', v', st, _, _, e1, e2, le⟩ := he _ _ _ s
    rw [h1] at e1
    cases e1
    rw [wayC_cons st, Crs.step_go]
    exact le.trans (stepE_mono (way_le he w e2 h2))
/-- a holding: what each rule gives lies within -/
def Hold (rs : List Rl) (h : Hd) : Prop := ∀ r ∈ rs, Sub (giftR h r) (h (xOfR r))
/-- a holding has what the way makes of its last end -/
theorem way_hold {rs : List Rl} {src : Src} {g h : Hd} (hh : Hold rs h) (gh : SubF g h) (he : ∀ e n e', src e = some (n, e') → Edge rs g e n e') : ∀ {e t : E2} {l : List (Nat × E2)}, Way src e l t → ∀ {v : En}, evl h t = some v → ∃ u, evl h e = some u ∧ enLe ((wayC rs l).go v) u
  | _, _, _, .nil _, v, h2 => ⟨v, h2, by rw [show wayC rs [] = Crs.one from rfl, Crs.one_go]; exact enLe.refl _⟩
  | e, _, _, .cons (e' := e') s w, v, h2 => by
    obtain ⟨u1, hu1, le1⟩ := way_hold hh gh he w h2
    obtain ⟨f, a, w_, cs, u', v', st, es, on, e1, e2, le⟩ := he _ _ _ s
    rw [wayC_cons st, Crs.step_go]
    have on' := onR_mono gh on
    obtain ⟨p, q, ey, eg, en⟩ := gift_end st.nz on'
    have z := hh _ (List.mem_of_getElem? st.at_)
    rw [eg] at z
    have z' : Sub (some q) (h e.1) := z
    cases ex : h e.1 with
    | none => rw [ex] at z'; exact z'.elim
    | some t =>
      rw [ex] at z'
      have hu2 : u1 = endP p e'.2 := by
        have : evl h e' = some (endP p e'.2) := by unfold evl; rw [ey]; rfl
        rw [this] at hu1
        exact (Option.some.inj hu1).symm
      refine ⟨endP t e.2, by unfold evl; rw [ex]; rfl, ?_⟩
      have q1 := z' e.2
      rw [es, en] at q1
      rw [es]
      refine enLe.trans (stepE_mono ?_) q1
      rw [← hu2]
      exact le1
/-! ### how far ends can come -/
structure SysB (ns : List Str) (rs : List Rl) (F A B : Int) : Prop where
  f1 : 1 ≤ F
  a0 : 0 ≤ A
  b0 : 0 ≤ B
  nm : ∀ r ∈ rs, ∀ x ∈ r.names, x ∈ ns
  nz : ∀ r ∈ rs, r.zero = false
  rg : ∀ r ∈ rs, ∀ g ∈ r.rgs, ∃ p, g = some p ∧ ∀ s i, endP p s = some i → -B ≤ i ∧ i ≤ B
  sb : ∀ x y f a g cs, Rl.stp x y f a g cs ∈ rs → (f.natAbs : Int) ≤ F ∧ -A ≤ a ∧ a ≤ A
def bI (F A B : Int) : Nat → Int
  | 0 => B
  | k + 1 => F * bI F A B k + A
section
variable {ns : List Str} {rs : List Rl} {F A B : Int}
theorem SysB.pos (S : SysB ns rs F A B) : ∀ k, 0 ≤ bI F A B k
  | 0 => S.b0
  | k + 1 => by
    have := Int.mul_nonneg (by have := S.f1; omega : 0 ≤ F) (S.pos k)
    have := S.a0
    show 0 ≤ F * bI F A B k + A
    omega
theorem SysB.le1 (S : SysB ns rs F A B) (k : Nat) : bI F A B k ≤ bI F A B (k + 1) := by
  have h := Int.mul_le_mul_of_nonneg_right S.f1 (S.pos k)
  have := S.a0
  show _ ≤ F * bI F A B k + A
  omega
theorem SysB.mono (S : SysB ns rs F A B) {j k : Nat} (h : j ≤ k) : bI F A B j ≤ bI F A B k := by
  induction k with
  | zero =>
    have e : j = 0 := by omega
    rw [e]
    exact Int.le_refl _
  | succ k ih =>
    by_cases c : j = k + 1
    · rw [c]
      exact Int.le_refl _
    · exact Int.le_trans (ih (by omega)) (S.le1 k)
/-- a step of the system, with its bounds -/
theorem SysB.step (S : SysB ns rs F A B) {n : Nat} {x y : Str} {f a : Int} {w : Pr} {cs : List Cd} (h : StepAt rs n x y f a w cs) : (f.natAbs : Int) ≤ F ∧ -A ≤ a ∧ a ≤ A ∧ (∀ s i, endP w s = some i → -B ≤ i ∧ i ≤ B) ∧ x ∈ ns ∧ y ∈ ns := by
  have m := List.mem_of_getElem? h.at_
  obtain ⟨z1, z2, z3⟩ := S.sb _ _ _ _ _ _ m
  obtain ⟨p, e, hp⟩ := S.rg _ m (some w) List.mem_cons_self
  cases e
  exact ⟨z1, z2, z3, hp, S.nm _ m x List.mem_cons_self, S.nm _ m y (List.mem_cons_of_mem _ List.mem_cons_self)⟩
theorem mul_up {f v b F : Int} (f0 : 0 ≤ f) (fF : f ≤ F) (vb : v ≤ b) (b0 : 0 ≤ b) : f * v ≤ F * b := by
  have h1 := Int.mul_le_mul_of_nonneg_left vb f0
  have h2 := Int.mul_le_mul_of_nonneg_right fF b0
  omega
/-- what a step makes of an end that is not far out -/
theorem SysB.step_up (S : SysB ns rs F A B) {n : Nat} {x y : Str} {f a : Int} {w : Pr} {cs : List Cd} (h : StepAt rs n x y f a w cs) {s : Bool} {e : En} {k : Nat} (he : ∀ i, e = some i → i ≤ bI F A B k) {i : Int} (hi : stepE f a s (endP w s) e = some i) : i ≤ bI F A B (k + 1) := by
  obtain ⟨z1, z2, z3, zw, _⟩ := S.step h
  unfold stepE at hi
  cases em : enMin (endP w s) e with
  | none => rw [em] at hi; cases hi
  | some v =>
    rw [em] at hi
    have hi' : (f.natAbs : Int) * v + (if sideX s f = true then a else -a) = i := Option.some.inj hi
    have vb : v ≤ bI F A B k := by
      cases e with
      | some j =>
        have z := (enMin_le (a := endP w s) (b := some j)).2
        rw [em] at z
        exact Int.le_trans z (he j rfl)
      | none =>
        have z := (enMin_le (a := endP w s) (b := none)).1
        rw [em] at z
        cases ew : endP w s with
        | none => rw [ew] at em; cases em
        | some t =>
          rw [ew] at z
          have z' : v ≤ t := z
          have := (zw s t ew).2
          exact Int.le_trans z' (Int.le_trans this (S.mono (Nat.zero_le k)))
    have m := mul_up (Int.natCast_nonneg f.natAbs) z1 vb (S.pos k)
    show i ≤ F * bI F A B k + A
    split at hi' <;> omega
theorem SysB.step_low (S : SysB ns rs F A B) {n : Nat} {x y : Str} {f a : Int} {w : Pr} {cs : List Cd} (h : StepAt rs n x y f a w cs) {s : Bool} {e : En} {k : Nat} (he : ∀ i, e = some i → -(bI F A B k) ≤ i) {i : Int} (hi : stepE f a s (endP w s) e = some i) : -(bI F A B (k + 1)) ≤ i := by
  obtain ⟨z1, z2, z3, zw, _⟩ := S.step h
  unfold stepE at hi
  have lw : ∀ t, endP w s = some t → -(bI F A B k) ≤ t := fun t ew => by
    have := (zw s t ew).1
    have := S.mono (Nat.zero_le k)
    have : bI F A B 0 = B := rfl
    omega
  cases em : enMin (endP w s) e with
  | none => rw [em] at hi; cases hi
  | some v =>
    rw [em] at hi
    have hi' : (f.natAbs : Int) * v + (if sideX s f = true then a else -a) = i := Option.some.inj hi
    have vb : -(bI F A B k) ≤ v := by
      cases ew : endP w s with
      | none =>
        rw [ew] at em
        exact he v em
      | some t =>
        cases e with
        | none =>
          rw [ew] at em
          cases em
          exact lw v ew
        | some j =>
          rw [ew] at em
          have em' : (if j < t then j else t) = v := Option.some.inj em
          have := lw t ew
          have := he j rfl
          split at em' <;> omega
    have m := mul_up (v := -v) (b := bI F A B k) (Int.natCast_nonneg f.natAbs) z1 (by omega) (S.pos k)
    rw [Int.mul_neg] at m
    show -(F * bI F A B k + A) ≤ i
    split at hi' <;> omega
/-- the round along a way is not stopped far out -/
theorem SysB.way_m (S : SysB ns rs F A B) {src : Src} {g : Hd} (he : ∀ e n e', src e = some (n, e') → Edge rs g e n e') : ∀ {e t : E2} {l : List (Nat × E2)}, Way src e l t → ∀ i, (wayC rs l).m = some i → i ≤ bI F A B l.length
  | _, _, _, .nil _, i, e => by cases e
  | _, _, (_ :: l), .cons s w, i, e => by
    obtain ⟨f, a, w_, cs, u, v, st, _⟩ := he _ _ _ s
    rw [wayC_cons st] at e
    exact S.step_up st (e := (wayC rs l).m) (k := l.length) (fun j ej => S.way_m he w j ej) e
end
/-! ### counting -/
def univ (ns : List Str) : List E2 := ns.flatMap fun x => [(x, false), (x, true)]
theorem mem_univ {ns : List Str} {e : E2} : e ∈ univ ns ↔ e.1 ∈ ns := by
  unfold univ
  rw [List.mem_flatMap]
  constructor
  · rintro ⟨x, mx, m⟩
    simp only [List.mem_cons, List.not_mem_nil, or_false] at m
    rcases m with rfl | rfl <;> exact mx
  · intro m
    obtain ⟨x, s⟩ := e
    exact ⟨x, m, by cases s <;> simp⟩
theorem len_univ {ns : List Str} : (univ ns).length = 2 * ns.length := by
  unfold univ
  induction ns with
  | nil => rfl
  | cons x ns ih =>
    rw [List.flatMap_cons, List.length_append, ih]
    show 2 + 2 * ns.length = 2 * (ns.length + 1)
    omega
def infB (g : Hd) (e : E2) : Bool := match evl g e with
  | some none => true
  | _ => false
def cI (ns : List Str) (g : Hd) : Nat := (univ ns).countP (infB g)
def cN (ns : List Str) (g : Hd) : Nat := ns.countP fun x => (g x).isSome
theorem evl_sub {f g : Hd} (h : SubF f g) {e : E2} {u : En} (k : evl f e = some u) : ∃ v, evl g e = some v ∧ enLe u v := by
  have z := h e.1
  unfold evl at k ⊢
  cases e1 : f e.1 with
  | none => rw [e1] at k; cases k
  | some p =>
    rw [e1] at k z
    cases e2 : g e.1 with
    | none => rw [e2] at z; exact z.elim
    | some q =>
      rw [e2] at z
      have k' : endP p e.2 = u := Option.some.inj k
      exact ⟨endP q e.2, rfl, by rw [← k']; exact z e.2⟩
theorem infB_iff {g : Hd} {e : E2} : infB g e = true ↔ evl g e = some none := by
  unfold infB
  cases evl g e with
  | none => simp
  | some o => cases o <;> simp
theorem countP_le {α : Type} {p q : α → Bool} : ∀ {l : List α}, (∀ x ∈ l, p x = true → q x = true) → l.countP p ≤ l.countP q
  | [], _ => Nat.le_refl _
  | x :: l, h => by
    have ih := countP_le (l := l) fun y m => h y (List.mem_cons_of_mem _ m)
    rw [List.countP_cons, List.countP_cons]
    cases hp : p x with
    | false => exact Nat.le_trans (by simp; exact ih) (Nat.le_add_right _ _)
    | true =>
      rw [h x List.mem_cons_self hp]
      simp
      omega
theorem countP_lt {α : Type} {p q : α → Bool} {y : α} : ∀ {l : List α}, (∀ x ∈ l, p x = true → q x = true) → y ∈ l → p y = false → q y = true → l.countP p + 1 ≤ l.countP q
  | x :: l, h, m, h1, h2 => by
    rw [List.countP_cons, List.countP_cons]
    rcases List.mem_cons.mp m with e | m
    · subst e
      have := countP_le (l := l) fun z mz => h z (List.mem_cons_of_mem _ mz)
      rw [h1, h2]
      simp
      omega
    · have ih := countP_lt (l := l) (fun z mz => h z (List.mem_cons_of_mem _ mz)) m h1 h2
      cases hp : p x with
      | false => exact Nat.le_trans (by simp; exact ih) (Nat.le_add_right _ _)
      | true =>
        rw [h x List.mem_cons_self hp]
        simp
        omega
theorem cI_mono {ns : List Str} {f g : Hd} (h : SubF f g) : cI ns f ≤ cI ns g := countP_le fun e _ k => by
  obtain ⟨v, ev, le⟩ := evl_sub h (infB_iff.mp k)
  cases v with
  | none => exact infB_iff.mpr ev
  | some v => exact le.elim
theorem cI_lt {ns : List Str} {f g : Hd} (h : SubF f g) {e : E2} (m : e.1 ∈ ns) (h1 : evl f e ≠ some none) (h2 : evl g e = some none) : cI ns f + 1 ≤ cI ns g :=
  countP_lt (y := e) (fun e _ k => by
    obtain ⟨v, ev, le⟩ := evl_sub h (infB_iff.mp k)
    cases v with
    | none => exact infB_iff.mpr ev
    | some v => exact le.elim) (mem_univ.mpr m) (by
      cases c : infB f e with
      | false => rfl
      | true => exact absurd (infB_iff.mp c) h1) (infB_iff.mpr h2)
theorem cN_mono {ns : List Str} {f g : Hd} (h : SubF f g) : cN ns f ≤ cN ns g := countP_le fun x _ k => by
  have z := h x
  cases e1 : f x with
  | none => rw [e1] at k; cases k
  | some p =>
    cases e2 : g x with
    | none => rw [e1, e2] at z; exact z.elim
    | some q => rfl
theorem cN_lt {ns : List Str} {f g : Hd} (h : SubF f g) {x : Str} (m : x ∈ ns) (h1 : f x = none) (h2 : (g x).isSome = true) : cN ns f + 1 ≤ cN ns g :=
  countP_lt (y := x) (fun x _ k => by
    have z := h x
    cases e1 : f x with
    | none => rw [e1] at k; cases k
    | some p =>
      cases e2 : g x with
      | none => rw [e1, e2] at z; exact z.elim
      | some q => rfl) m (by rw [h1]; rfl) h2
theorem cI_le {ns : List Str} {g : Hd} : cI ns g ≤ 2 * ns.length := by
  have := List.countP_le_length (p := infB g) (l := univ ns)
  rw [len_univ] at this
  exact this
theorem cN_le {ns : List Str} {g : Hd} : cN ns g ≤ ns.length := List.countP_le_length
/-! ### an end put -/
theorem neg_neg_ (o : En) : neg (neg o) = o := by
  cases o with
  | none => rfl
  | some x =>
    show some (- -x) = some x
    rw [Int.neg_neg]
def setP (p : Pr) (s : Bool) (v : En) : Pr := if s = true then (p.1, v) else (neg v, p.2)
theorem endP_setP {p : Pr} {s t : Bool} {v : En} : endP (setP p s v) t = if t = s then v else endP p t := by
  cases s <;> cases t <;> simp [setP, endP, neg_neg_]
def setE (g : Hd) (e : E2) (v : En) : Hd := fun x => if x = e.1 then (g x).map fun p => setP p e.2 v else g x
theorem evl_set_same {g : Hd} {e : E2} {v o : En} (h : evl g e = some o) : evl (setE g e v) e = some v := by
  unfold evl setE at *
  rw [if_pos rfl]
  cases eg : g e.1 with
  | none => rw [eg] at h; cases h
  | some p =>
    show some (endP (setP p e.2 v) e.2) = some v
    rw [endP_setP, if_pos rfl]
theorem evl_set_ne {g : Hd} {e e' : E2} {v : En} (n : e' ≠ e) : evl (setE g e v) e' = evl g e' := by
  unfold evl setE
  by_cases c : e'.1 = e.1
  · rw [if_pos c]
    cases eg : g e'.1 with
    | none => rfl
    | some p =>
      show some (endP (setP p e.2 v) e'.2) = some (endP p e'.2)
      rw [endP_setP, if_neg (fun z => n (Prod.ext c z))]
  · rw [if_neg c]
theorem set_none {g : Hd} {e : E2} {v : En} {x : Str} (h : g x = none) : setE g e v x = none := by
  unfold setE
  split
  · rw [h]; rfl
  · exact h
theorem set_some {g : Hd} {e : E2} {v : En} {x : Str} : (setE g e v x).isSome = (g x).isSome := by
  unfold setE
  split
  · cases g x <;> rfl
  · rfl
theorem sub_of_ends {f g : Hd} (h : ∀ e u, evl f e = some u → ∃ v, evl g e = some v ∧ enLe u v) : SubF f g := fun x => by
  cases e1 : f x with
  | none => trivial
  | some p =>
    cases e2 : g x with
    | none =>
      obtain ⟨v, ev, _⟩ := h (x, true) (endP p true) (by unfold evl; rw [e1]; rfl)
      unfold evl at ev
      rw [e2] at ev
      cases ev
    | some q =>
      intro s
      obtain ⟨v, ev, le⟩ := h (x, s) (endP p s) (by unfold evl; rw [e1]; rfl)
      unfold evl at ev
      rw [e2] at ev
      have ev' : endP q s = v := Option.some.inj ev
      rw [ev']
      exact le
theorem sub_set {g : Hd} {e : E2} {o v : En} (h : evl g e = some o) (le : enLe o v) : SubF g (setE g e v) := sub_of_ends fun e' u hu => by
  by_cases c : e' = e
  · subst c
    rw [h] at hu
    cases hu
    exact ⟨v, evl_set_same h, le⟩
  · exact ⟨u, by rw [evl_set_ne c]; exact hu, enLe.refl _⟩
theorem set_sub {g h : Hd} {e : E2} {o v t : En} (ge : evl g e = some o) (gh : SubF g h) (he : evl h e = some t) (le : enLe v t) : SubF (setE g e v) h := sub_of_ends fun e' u hu => by
  by_cases c : e' = e
  · subst c
    rw [evl_set_same ge] at hu
    cases hu
    exact ⟨t, he, le⟩
  · rw [evl_set_ne c] at hu
    exact evl_sub gh hu
def putS (src : Src) (e : E2) (v : Option (Nat × E2)) : Src := fun e' => if e' = e then v else src e'
theorem putS_same {src : Src} {e : E2} {v : Option (Nat × E2)} : putS src e v e = v := if_pos rfl
theorem putS_ne {src : Src} {e e' : E2} {v : Option (Nat × E2)} (n : e' ≠ e) : putS src e v e' = src e' := if_neg n
/-! ### what always holds -/
def TI (ns : List Str) (c : Nat) : Nat := (c + 1) * (4 * ns.length + 2)
theorem TI_mono {ns : List Str} {c d : Nat} (h : c ≤ d) : TI ns c ≤ TI ns d := Nat.mul_le_mul_right _ (by omega)
theorem TI_succ {ns : List Str} {c : Nat} : TI ns (c + 1) = TI ns c + (4 * ns.length + 2) := by
  unfold TI
  rw [Nat.add_mul (c + 1) 1, Nat.one_mul]
structure Inv (ns : List Str) (rs : List Rl) (F A B : Int) (D : List E2) (g : Hd) (src : Src) : Prop where
  dom : ∀ x, x ∉ ns → g x = none
  edge : ∀ e n e', src e = some (n, e') → Edge rs g e n e'
  rk : ∃ r, Rank src r
  dirty : ∀ e ∈ D, src e = none
  root : ∀ e i, src e = none → evl g e = some (some i) → i ≤ bI F A B (TI ns (cI ns g) + (if e ∈ D then 2 * ns.length + 1 else 0))
  anch : ∀ e n e' i, src e = some (n, e') → evl g e' = some none → evl g e = some (some i) → i ≤ bI F A B (TI ns (cI ns g))
  least : ∀ h, Hold rs h → SubF g h
  low : ∀ e i, evl g e = some (some i) → -(bI F A B (cN ns g)) ≤ i
section
variable {ns : List Str} {rs : List Rl} {F A B : Int} {D : List E2} {g : Hd} {src : Src}
theorem in_ns (I : Inv ns rs F A B D g src) {e : E2} {u : En} (h : evl g e = some u) : e.1 ∈ ns := Classical.byContradiction fun c => by
  unfold evl at h
  rw [I.dom _ c] at h
  cases h
theorem way_len (I : Inv ns rs F A B D g src) {e t : E2} {l : List (Nat × E2)} (w : Way src e l t) : l.length ≤ 2 * ns.length := by
  obtain ⟨r, hr⟩ := I.rk
  have z := nodup_le (m := univ ns) (w.nodup hr) fun x m => ?_
  · rw [List.length_map, len_univ] at z
    exact z
  · have key : ∀ {e t : E2} {l : List (Nat × E2)}, Way src e l t → ∀ p ∈ l, p.2 ∈ univ ns := fun {e t l} w => by
      induction w with
      | nil => exact fun p m => absurd m (by simp)
      | cons s w ih =>
        intro p m
        rcases List.mem_cons.mp m with rfl | m
        · obtain ⟨f, a, w_, cs, u, v, st, es, on, e1, e2, le⟩ := I.edge _ _ _ s
          exact mem_univ.mpr (in_ns I e2)
        · exact ih p m
    obtain ⟨p, mp, rfl⟩ := List.mem_map.mp m
    exact key w p mp
theorem way_up (S : SysB ns rs F A B) (I : Inv ns rs F A B D g src) {K : Nat} (hK : ∀ e ∈ D, 2 * ns.length + 1 ≤ K) : ∀ {e t : E2} {l : List (Nat × E2)}, Way src e l t → src t = none → ∀ i, evl g e = some (some i) → i ≤ bI F A B (TI ns (cI ns g) + K + l.length)
  | _, _, _, .nil e, ht, i, hi => by
    refine Int.le_trans (I.root e i ht hi) (S.mono ?_)
    by_cases c : e ∈ D
    · rw [if_pos c]
      have := hK e c
      omega
    · rw [if_neg c]
      omega
  | e, _, (_ :: l), .cons (e' := e') s w, ht, i, hi => by
    obtain ⟨f, a, w_, cs, u, v, st, es, on, e1, e2, le⟩ := I.edge _ _ _ s
    rw [hi] at e1
    cases e1
    cases v with
    | none => exact Int.le_trans (I.anch e _ e' i s e2 hi) (S.mono (by omega))
    | some j =>
      have ih := way_up S I hK w ht j e2
      cases es : stepE f a e'.2 (endP w_ e'.2) (some j) with
      | none =>
        unfold stepE at es
        cases ew : endP w_ e'.2 <;> rw [ew] at es <;> cases es
      | some k =>
        rw [es] at le
        have := S.step_up st (k := TI ns (cI ns g) + K + l.length) (fun i ei => by cases ei; exact ih) es
        exact Int.le_trans le this
theorem Inv.up (S : SysB ns rs F A B) (I : Inv ns rs F A B D g src) {K : Nat} (hK : ∀ e ∈ D, 2 * ns.length + 1 ≤ K) {e : E2} {i : Int} (hi : evl g e = some (some i)) : i ≤ bI F A B (TI ns (cI ns g) + K + 2 * ns.length) := by
  obtain ⟨r, hr⟩ := I.rk
  obtain ⟨l, t, w, ht⟩ := way_root hr (r e) e (Nat.le_refl _)
  have := way_up S I hK w ht i hi
  have := way_len I w
  exact Int.le_trans ‹_› (S.mono (by omega))
theorem edge_mono {g g' : Hd} (h : SubF g g') {e e' : E2} {n : Nat} (same : evl g' e = evl g e) (k : Edge rs g e n e') : Edge rs g' e n e' := by
  obtain ⟨f, a, w, cs, u, v, st, es, on, e1, e2, le⟩ := k
  obtain ⟨v', ev', le'⟩ := evl_sub h e2
  exact ⟨f, a, w, cs, u, v', st, es, onR_mono h on, by rw [same]; exact e1, ev', le.trans (stepE_mono le')⟩
/-- an end is put, with or without a source -/
theorem Inv.put (S : SysB ns rs F A B) {e : E2} (I : Inv ns rs F A B (e :: D) g src) (eD : e ∉ D) {o v : En} (ev : evl g e = some o) (le : enLe o v) {new : Option (Nat × E2)}
    (hedge : ∀ n e', new = some (n, e') → Edge rs (setE g e v) e n e') (hrk : ∃ r, Rank (putS src e new) r)
    (hroot : new = none → ∀ i, v = some i → i ≤ bI F A B (TI ns (cI ns (setE g e v))))
    (hanch : ∀ n e' i, new = some (n, e') → evl (setE g e v) e' = some none → v = some i → i ≤ bI F A B (TI ns (cI ns (setE g e v))))
    (hleast : ∀ h, Hold rs h → ∃ t, evl h e = some t ∧ enLe v t) : Inv ns rs F A B D (setE g e v) (putS src e new) := by
  have sub := sub_set ev le
  have cm : cI ns g ≤ cI ns (setE g e v) := cI_mono sub
  refine ⟨fun x hx => set_none (I.dom x hx), fun e2 n e' h => ?_, hrk, fun e2 m => ?_, fun e2 i h hi => ?_, fun e2 n e' i h hi hi2 => ?_, fun h hh => ?_, fun e2 i hi => ?_⟩
  · by_cases c : e2 = e
    · subst c
      rw [putS_same] at h
      exact hedge n e' h
    · rw [putS_ne c] at h
      exact edge_mono sub (evl_set_ne c) (I.edge _ _ _ h)
  · have c : e2 ≠ e := fun z => eD (z ▸ m)
    rw [putS_ne c]
    exact I.dirty e2 (List.mem_cons_of_mem _ m)
  · by_cases c : e2 = e
    · subst c
      rw [putS_same] at h
      rw [evl_set_same ev] at hi
      exact Int.le_trans (hroot h i (Option.some.inj hi)) (S.mono (by omega))
    · rw [putS_ne c] at h
      rw [evl_set_ne c] at hi
      refine Int.le_trans (I.root e2 i h hi) (S.mono ?_)
      have := TI_mono (ns := ns) cm
      by_cases m : e2 ∈ D
      · rw [if_pos m, if_pos (List.mem_cons_of_mem _ m)]
        omega
      · rw [if_neg m, if_neg (fun z => (List.mem_cons.mp z).elim c m)]
        omega
  · by_cases c : e2 = e
    · subst c
      rw [putS_same] at h
      rw [evl_set_same ev] at hi2
      exact hanch n e' i h hi (Option.some.inj hi2)
    · rw [putS_ne c] at h
      rw [evl_set_ne c] at hi2
      by_cases was : evl g e' = some none
      · exact Int.le_trans (I.anch e2 n e' i h was hi2) (S.mono (TI_mono cm))
      · obtain ⟨f, a, w, cs, u, v', st, es, on, e1, e2', le'⟩ := I.edge _ _ _ h
        have lt := cI_lt sub (in_ns I e2') was hi
        have up := I.up S (K := 2 * ns.length + 1) (fun _ _ => Nat.le_refl _) hi2
        refine Int.le_trans up (S.mono ?_)
        have := TI_mono (ns := ns) lt
        rw [TI_succ] at this
        omega
  · obtain ⟨t, et, lt⟩ := hleast h hh
    exact set_sub ev (I.least h hh) et lt
  · have cn : cN ns g ≤ cN ns (setE g e v) := cN_mono sub
    have mono := S.mono cn
    by_cases c : e2 = e
    · subst c
      rw [evl_set_same ev] at hi
      have hv : v = some i := Option.some.inj hi
      rw [hv] at le
      cases o with
      | none => exact le.elim
      | some j =>
        have le' : j ≤ i := le
        have := I.low _ j ev
        omega
    · rw [evl_set_ne c] at hi
      have := I.low _ i hi
      omega
/-- no round is closed by a new source -/
theorem rank_add {src : Src} {e e' : E2} {n : Nat} (h : ∃ r, Rank src r) (sn : src e = none) (no : ∀ l, ¬ Way src e' l e) : ∃ r, Rank (putS src e (some (n, e'))) r := by
  obtain ⟨r, hr⟩ := h
  classical
  refine ⟨fun z => if ∃ l, Way src z l e then r z + (r e' + 1) else r z, fun z m z' hz => ?_⟩
  show (if ∃ l, Way src z' l e then r z' + (r e' + 1) else r z') < (if ∃ l, Way src z l e then r z + (r e' + 1) else r z)
  by_cases c : z = e
  · subst c
    rw [putS_same] at hz
    cases hz
    rw [if_neg (fun ⟨l, w⟩ => no l w), if_pos ⟨[], .nil _⟩]
    omega
  · rw [putS_ne c] at hz
    have lt := hr _ _ _ hz
    by_cases d : ∃ l, Way src z' l e
    · obtain ⟨l, w⟩ := d
      rw [if_pos ⟨l, w⟩, if_pos ⟨_, .cons hz w⟩]
      omega
    · rw [if_neg d]
      split <;> omega
theorem putS_id {src : Src} {e : E2} (h : src e = none) : putS src e none = src := by
  funext e'
  unfold putS
  split
  · rename_i c
    rw [c, h]
  · rfl
/-- a round is closed: the end goes it as far as it can -/
theorem Inv.close (S : SysB ns rs F A B) {e e' : E2} {n : Nat} (I : Inv ns rs F A B (e :: D) g src) (eD : e ∉ D) {o v z : En} (ev : evl g e = some o) (gr : ¬ enLe v o)
    {f a : Int} {w : Pr} {cs : List Cd} (st : StepAt rs n e.1 e'.1 f a w cs) (es : e.2 = sideX e'.2 f) (on : onR g (.stp e.1 e'.1 f a (some w) cs) = true) (ez : evl g e' = some z) (vz : enLe v (stepE f a e'.2 (endP w e'.2) z))
    {l : List (Nat × E2)} (way : Way src e' l e) (hleast : ∀ h, Hold rs h → ∃ t, evl h e = some t ∧ enLe v t) :
    ∃ o' v', o = some o' ∧ v = some v' ∧ o' < v' ∧ 1 ≤ (wayC rs ((n, e') :: l)).f ∧ v' < (wayC rs ((n, e') :: l)).f * v' + (wayC rs ((n, e') :: l)).a ∧ (∀ m, (wayC rs ((n, e') :: l)).m = some m → v' ≤ m ∧ m ≤ bI F A B (2 * ns.length + 1)) ∧
    Inv ns rs F A B D (setE g e (wayC rs ((n, e') :: l)).m) src := by
  have ec := wayC_cons (l := l) (e' := e') st
  have w1 := way_le I.edge way ez ev
  have v1 : enLe v ((wayC rs ((n, e') :: l)).go o) := by
    rw [ec, Crs.step_go]
    exact vz.trans (stepE_mono w1)
  have pos : 1 ≤ (wayC rs ((n, e') :: l)).f := by
    rw [ec]
    show 1 ≤ (f.natAbs : Int) * _
    have z1 := wayC_pos I.edge way
    have nz := st.nz
    have := Int.mul_le_mul (show (1 : Int) ≤ (f.natAbs : Int) by omega) z1 (by decide) (by omega)
    omega
  have far : ∀ m, (wayC rs ((n, e') :: l)).m = some m → m ≤ bI F A B (2 * ns.length + 1) := fun m hm => by
    rw [ec] at hm
    have := S.step_up st (e := (wayC rs l).m) (k := l.length) (fun j ej => S.way_m I.edge way j ej) hm
    have := way_len I way
    exact Int.le_trans ‹_› (S.mono (by omega))
  have hold : ∀ h, Hold rs h → ∀ t, evl h e = some t → enLe ((wayC rs ((n, e') :: l)).go t) t := fun h hh t ht => by
    have gh := I.least h hh
    obtain ⟨u1, hu1, le1⟩ := way_hold hh gh I.edge way ht
    have on' := onR_mono gh on
    obtain ⟨p, q, ey, eg, en⟩ := gift_end st.nz on'
    have zz := hh _ (List.mem_of_getElem? st.at_)
    rw [eg] at zz
    have zz' : Sub (some q) (h e.1) := zz
    rw [ec, Crs.step_go]
    unfold evl at ht
    cases ex : h e.1 with
    | none => rw [ex] at ht; cases ht
    | some t0 =>
      rw [ex] at zz' ht
      have ht' : endP t0 e.2 = t := Option.some.inj ht
      have hu2 : u1 = endP p e'.2 := by
        have : evl h e' = some (endP p e'.2) := by unfold evl; rw [ey]; rfl
        rw [this] at hu1
        exact (Option.some.inj hu1).symm
      have q1 := zz' e.2
      rw [es, en] at q1
      have q2 : enLe (stepE f a e'.2 (endP w e'.2) (endP p e'.2)) t := by
        rw [← ht', es]
        exact q1
      refine enLe.trans (stepE_mono ?_) q2
      rw [← hu2]
      exact le1
  generalize wayC rs ((n, e') :: l) = c at *
  cases o with
  | none => exact absurd (by cases v <;> trivial) gr
  | some o' =>
    have v2 : enLe v (enMin c.m (some (c.f * o' + c.a))) := v1
    cases v with
    | none =>
      cases em : c.m with
      | none => rw [em] at v2; exact v2.elim
      | some m => rw [em] at v2; exact v2.elim
    | some v' =>
      have lt : o' < v' := by
        have : ¬ v' ≤ o' := gr
        omega
      have v3 : v' ≤ c.f * o' + c.a := v2.trans enMin_le.2
      have v4 : ∀ m, c.m = some m → v' ≤ m := fun m em => by
        have := v2.trans enMin_le.1
        rw [em] at this
        exact this
      have mono : ∀ t : Int, o' ≤ t → t < c.f * t + c.a := fun t ht => by
        have h1 := Int.mul_le_mul_of_nonneg_left ht (show (0 : Int) ≤ c.f - 1 by omega)
        rw [Int.sub_mul, Int.sub_mul, Int.one_mul, Int.one_mul] at h1
        omega
      have lem : enLe (some o') c.m := by
        cases em : c.m with
        | none => trivial
        | some m =>
          have := v4 m em
          show o' ≤ m
          omega
      refine ⟨o', v', rfl, rfl, lt, pos, mono v' (by omega), fun m em => ⟨v4 m em, far m em⟩, ?_⟩
      have sn : src e = none := I.dirty e List.mem_cons_self
      have z := I.put S eD ev lem (new := none) (fun n e' h => by cases h) (by rw [putS_id sn]; exact I.rk) (fun _ i ei => ?_) (fun n e' i h => by cases h) (fun h hh => ?_)
      · rw [putS_id sn] at z
        exact z
      · refine Int.le_trans (far i ei) (S.mono ?_)
        have := TI_mono (ns := ns) (Nat.zero_le (cI ns (setE g e c.m)))
        unfold TI at this ⊢
        omega
      · obtain ⟨t, et, le⟩ := hleast h hh
        refine ⟨t, et, ?_⟩
        have hg := hold h hh t et
        cases t with
        | none => trivial
        | some t' =>
          have le' : v' ≤ t' := le
          have hg' : enLe (enMin c.m (some (c.f * t' + c.a))) (some t') := hg
          have gt := mono t' (by omega)
          cases em : c.m with
          | none =>
            rw [em] at hg'
            have : c.f * t' + c.a ≤ t' := hg'
            omega
          | some m =>
            rw [em] at hg'
            have h2 : (if c.f * t' + c.a < m then c.f * t' + c.a else m) ≤ t' := hg'
            show m ≤ t'
            split at h2 <;> omega
end
section
variable {ns : List Str} {rs : List Rl} {F A B : Int} {D : List E2} {g : Hd} {src : Src}
theorem Inv.start : Inv ns rs F A B [] (fun _ => none) (fun _ => none) := by
  refine ⟨fun _ _ => rfl, ?_, ⟨fun _ => 0, ?_⟩, ?_, ?_, ?_, fun h _ x => trivial, ?_⟩
  · intro e n e' h
    cases h
  · intro e n e' h
    cases h
  · intro e m
    cases m
  · intro e i _ h
    cases h
  · intro e n e' i h
    cases h
  · intro e i h
    cases h
def popS (src : Src) (D : List E2) : Src := fun e => if e ∈ D then none else src e
theorem popS_in {src : Src} {D : List E2} {e : E2} (m : e ∈ D) : popS src D e = none := if_pos m
theorem popS_out {src : Src} {D : List E2} {e : E2} (m : e ∉ D) : popS src D e = src e := if_neg m
theorem popS_some {src : Src} {D : List E2} {e : E2} {p : Nat × E2} (h : popS src D e = some p) : src e = some p ∧ e ∉ D := by
  unfold popS at h
  split at h
  · cases h
  · rename_i c
    exact ⟨h, c⟩
theorem rank_pop (h : ∃ r, Rank src r) : ∃ r, Rank (popS src D) r := by
  obtain ⟨r, hr⟩ := h
  exact ⟨r, fun e n e' k => hr _ _ _ (popS_some k).1⟩
/-- sources are forgotten -/
theorem Inv.pop (S : SysB ns rs F A B) (I : Inv ns rs F A B [] g src) : Inv ns rs F A B D g (popS src D) := by
  refine ⟨I.dom, fun e n e' h => I.edge _ _ _ (popS_some h).1, rank_pop I.rk, fun e m => popS_in m, fun e i h hi => ?_, fun e n e' i h => I.anch e n e' i (popS_some h).1, I.least, I.low⟩
  by_cases m : e ∈ D
  · rw [if_pos m]
    exact Int.le_trans (I.up S (K := 0) (fun _ z => absurd z (by simp)) hi) (S.mono (by omega))
  · rw [popS_out m] at h
    have := I.root e i h hi
    rw [if_neg (by simp)] at this
    rw [if_neg m]
    exact this
def putX (g : Hd) (x : Str) (q : Pr) : Hd := fun y => if y = x then some q else g y
theorem evl_putX {g : Hd} {x : Str} {q : Pr} {s : Bool} : evl (putX g x q) (x, s) = some (endP q s) := by
  unfold evl putX
  rw [if_pos rfl]
  rfl
theorem evl_putX_ne {g : Hd} {x : Str} {q : Pr} {e : E2} (n : e.1 ≠ x) : evl (putX g x q) e = evl g e := by
  unfold evl putX
  rw [if_neg n]
theorem sub_putX {g : Hd} {x : Str} {q : Pr} (h : Sub (g x) (some q)) : SubF g (putX g x q) := fun y => by
  unfold putX
  by_cases c : y = x
  · rw [if_pos c, c]
    exact h
  · rw [if_neg c]
    exact Sub.refl _
/-- a range that was empty -/
theorem Inv.birth (S : SysB ns rs F A B) (I : Inv ns rs F A B [] g src) {x : Str} {q : Pr} {K : Nat} (hx : x ∈ ns) (h0 : g x = none) (hD : (K = 0 ∧ D = []) ∨ (K = 2 * ns.length + 1 ∧ ∀ e : E2, e ∈ D ↔ e.1 = x))
    (hq : ∀ s i, endP q s = some i → i ≤ bI F A B (TI ns (cI ns (putX g x q)) + K) ∧ -(bI F A B (cN ns (putX g x q))) ≤ i) (hl : ∀ h, Hold rs h → Sub (some q) (h x)) : Inv ns rs F A B D (putX g x q) src ∧ ∀ s, src (x, s) = none := by
  have sub : SubF g (putX g x q) := sub_putX (by rw [h0]; trivial)
  have nos : ∀ s, src (x, s) = none := fun s => by
    cases e : src (x, s) with
    | none => rfl
    | some p =>
      obtain ⟨f, a, w, cs, u, v, st, es, on, e1, e2, le⟩ := I.edge (x, s) p.1 p.2 e
      unfold evl at e1
      rw [show g (x, s).1 = none from h0] at e1
      cases e1
  have cm : cI ns g ≤ cI ns (putX g x q) := cI_mono sub
  have nsrc : ∀ e n e', src e = some (n, e') → e.1 ≠ x ∧ e'.1 ≠ x := fun e n e' h => by
    obtain ⟨f, a, w, cs, u, v, st, es, on, e1, e2, le⟩ := I.edge _ _ _ h
    constructor
    · intro z
      unfold evl at e1
      rw [z, h0] at e1
      cases e1
    · intro z
      unfold evl at e2
      rw [z, h0] at e2
      cases e2
  refine ⟨⟨fun y hy => ?_, fun e n e' h => edge_mono sub (evl_putX_ne (nsrc _ _ _ h).1) (I.edge _ _ _ h), I.rk, fun e m => ?_, fun e i h hi => ?_, fun e n e' i h h1 h2 => ?_, fun h hh y => ?_, fun e i hi => ?_⟩, nos⟩
  · unfold putX
    rw [if_neg (fun z => hy (by rw [z]; exact hx))]
    exact I.dom y hy
  · rcases hD with ⟨_, d⟩ | ⟨_, d⟩
    · rw [d] at m
      exact absurd m (by simp)
    · have := (d e).mp m
      obtain ⟨y, s⟩ := e
      have y' : y = x := this
      rw [y']
      exact nos s
  · by_cases c : e.1 = x
    · obtain ⟨y, s⟩ := e
      have c' : y = x := c
      subst c'
      rw [evl_putX] at hi
      have := (hq s i (Option.some.inj hi)).1
      rcases hD with ⟨k, d⟩ | ⟨k, d⟩
      · rw [k] at this
        rw [d, if_neg (by simp)]
        exact this
      · rw [if_pos ((d _).mpr rfl), ← k]
        exact this
    · rw [evl_putX_ne c] at hi
      have := I.root e i h hi
      rw [if_neg (by simp)] at this
      exact Int.le_trans this (S.mono (by have := TI_mono (ns := ns) cm; omega))
  · have c := nsrc _ _ _ h
    rw [evl_putX_ne c.2] at h1
    rw [evl_putX_ne c.1] at h2
    exact Int.le_trans (I.anch e n e' i h h1 h2) (S.mono (TI_mono cm))
  · unfold putX
    by_cases c : y = x
    · rw [if_pos c, c]
      exact hl h hh
    · rw [if_neg c]
      exact I.least h hh y
  · by_cases c : e.1 = x
    · obtain ⟨y, s⟩ := e
      have c' : y = x := c
      subst c'
      rw [evl_putX] at hi
      exact (hq s i (Option.some.inj hi)).2
    · rw [evl_putX_ne c] at hi
      have := I.low e i hi
      have := S.mono (cN_mono (ns := ns) sub)
      omega
/-- nothing grows any more: the least holding -/
theorem Inv.done (I : Inv ns rs F A B D g src) (h : ∀ r ∈ rs, onR g r = true → joinR (g (xOfR r)) (giftR g r) = g (xOfR r)) : Hold rs g := fun r m => by
  cases k : onR g r with
  | false =>
    have : giftR g r = none := by unfold giftR; rw [k]; rfl
    rw [this]
    trivial
  | true =>
    have z := sub_join_r (a := g (xOfR r)) (b := giftR g r)
    rw [h r m k] at z
    exact z
end
/-! ### the potential -/
def potE (L U : Nat) : Option En → Nat
  | none => 0
  | some (some i) => (i + L + 1).toNat
  | some none => L + U + 2
def pot (L U : Nat) (ns : List Str) (g : Hd) : Nat := ((univ ns).map fun e => potE L U (evl g e)).sum
theorem sum_le {α : Type} {p q : α → Nat} : ∀ {l : List α}, (∀ x ∈ l, p x ≤ q x) → (l.map p).sum ≤ (l.map q).sum
  | [], _ => Nat.le_refl _
  | x :: l, h => by
    have ih := sum_le (l := l) fun y m => h y (List.mem_cons_of_mem _ m)
    have := h x List.mem_cons_self
    rw [List.map_cons, List.map_cons, List.sum_cons, List.sum_cons]
    omega
theorem sum_lt {α : Type} {p q : α → Nat} {y : α} : ∀ {l : List α}, (∀ x ∈ l, p x ≤ q x) → y ∈ l → p y < q y → (l.map p).sum < (l.map q).sum
  | x :: l, h, m, lt => by
    rw [List.map_cons, List.map_cons, List.sum_cons, List.sum_cons]
    rcases List.mem_cons.mp m with e | m
    · subst e
      have := sum_le (l := l) fun z mz => h z (List.mem_cons_of_mem _ mz)
      omega
    · have ih := sum_lt (l := l) (fun z mz => h z (List.mem_cons_of_mem _ mz)) m lt
      have := h x List.mem_cons_self
      omega
def Within (L U : Nat) (g : Hd) : Prop := ∀ e i, evl g e = some (some i) → -(L : Int) ≤ i ∧ i ≤ U
theorem potE_mono {L U : Nat} {f g : Hd} (hf : Within L U f) (hg : Within L U g) (h : SubF f g) (e : E2) : potE L U (evl f e) ≤ potE L U (evl g e) := by
  cases e1 : evl f e with
  | none => exact Nat.zero_le _
  | some u =>
    obtain ⟨v, ev, le⟩ := evl_sub h e1
    rw [ev]
    cases u with
    | none =>
      cases v with
      | none => exact Nat.le_refl _
      | some v => exact le.elim
    | some i =>
      have := hf e i e1
      cases v with
      | none =>
        show (i + L + 1).toNat ≤ L + U + 2
        omega
      | some j =>
        have le' : i ≤ j := le
        show (i + L + 1).toNat ≤ (j + L + 1).toNat
        omega
theorem pot_mono {L U : Nat} {ns : List Str} {f g : Hd} (hf : Within L U f) (hg : Within L U g) (h : SubF f g) : pot L U ns f ≤ pot L U ns g := sum_le fun e _ => potE_mono hf hg h e
theorem pot_lt {L U : Nat} {ns : List Str} {f g : Hd} (hf : Within L U f) (hg : Within L U g) (h : SubF f g) {x : Str} (hx : x ∈ ns) (n : f x ≠ g x) : pot L U ns f < pot L U ns g := by
  have key : ∃ s, potE L U (evl f (x, s)) < potE L U (evl g (x, s)) := by
    cases e1 : f x with
    | none =>
      cases e2 : g x with
      | none => exact absurd (e1.trans e2.symm) n
      | some q =>
        refine ⟨true, ?_⟩
        have a : evl f (x, true) = none := by unfold evl; rw [show f (x, true).1 = none from e1]; rfl
        have b : evl g (x, true) = some (endP q true) := by unfold evl; rw [show g (x, true).1 = some q from e2]; rfl
        rw [a, b]
        show 0 < potE L U (some (endP q true))
        cases eq : endP q true with
        | none => show 0 < L + U + 2; omega
        | some i =>
          rw [eq] at b
          have := hg _ _ b
          show 0 < (i + L + 1).toNat
          omega
    | some p =>
      have z := h x
      rw [e1] at z
      cases e2 : g x with
      | none => rw [e2] at z; exact z.elim
      | some q =>
        rw [e2] at z
        have : ∃ s, endP p s ≠ endP q s := Classical.byContradiction fun c => n (by
          rw [e1, e2]
          exact congrArg some (endP_ext fun s => Classical.byContradiction fun d => c ⟨s, d⟩))
        obtain ⟨s, ne⟩ := this
        refine ⟨s, ?_⟩
        have a : evl f (x, s) = some (endP p s) := by unfold evl; rw [show f (x, s).1 = some p from e1]; rfl
        have b : evl g (x, s) = some (endP q s) := by unfold evl; rw [show g (x, s).1 = some q from e2]; rfl
        have le := z s
        rw [a, b]
        cases ep : endP p s with
        | none =>
          cases eq : endP q s with
          | none => exact absurd (ep.trans eq.symm) ne
          | some j => rw [ep, eq] at le; exact le.elim
        | some i =>
          rw [ep] at a
          have wi := hf _ _ a
          cases eq : endP q s with
          | none =>
            show (i + L + 1).toNat < L + U + 2
            omega
          | some j =>
            rw [ep, eq] at le ne
            have le' : i ≤ j := le
            have ne' : i ≠ j := fun z => ne (congrArg some z)
            show (i + L + 1).toNat < (j + L + 1).toNat
            omega
  obtain ⟨s, lt⟩ := key
  exact sum_lt (fun e _ => potE_mono hf hg h e) (mem_univ.mpr (show (x, s).1 ∈ ns from hx)) lt
theorem pot_le {L U : Nat} {ns : List Str} {g : Hd} (hg : Within L U g) : pot L U ns g ≤ 2 * ns.length * (L + U + 2) := by
  have key : ∀ l : List E2, (l.map fun e => potE L U (evl g e)).sum ≤ l.length * (L + U + 2) := fun l => by
    induction l with
    | nil => exact Nat.zero_le _
    | cons e l ih =>
      rw [List.map_cons, List.sum_cons, List.length_cons, Nat.add_mul, Nat.one_mul]
      have : potE L U (evl g e) ≤ L + U + 2 := by
        cases e1 : evl g e with
        | none => exact Nat.zero_le _
        | some u =>
          cases u with
          | none => exact Nat.le_refl _
          | some i =>
            have := hg e i e1
            show (i + L + 1).toNat ≤ _
            omega
      omega
  have := key (univ ns)
  rw [len_univ] at this
  exact this
/-- one bound for all ends -/
def UI (ns : List Str) : Nat := TI ns (2 * ns.length) + (4 * ns.length + 1)
theorem Inv.within {ns : List Str} {rs : List Rl} {F A B : Int} {D : List E2} {g : Hd} {src : Src} (S : SysB ns rs F A B) (I : Inv ns rs F A B D g src) : Within (bI F A B (UI ns)).toNat (bI F A B (UI ns)).toNat g := fun e i hi => by
  have p := S.pos (UI ns)
  have h1 := I.low e i hi
  have h2 := I.up S (K := 2 * ns.length + 1) (fun _ _ => Nat.le_refl _) hi
  have c1 := cN_le (ns := ns) (g := g)
  have c2 := TI_mono (ns := ns) (cI_le (ns := ns) (g := g))
  have m1 := S.mono (show cN ns g ≤ UI ns by unfold UI; unfold TI; have : ns.length ≤ (2 * ns.length + 1) * (4 * ns.length + 2) := Nat.le_trans (by omega : ns.length ≤ 1 * (4 * ns.length + 2)) (Nat.mul_le_mul_right _ (by omega)); omega)
  have m2 := S.mono (show TI ns (cI ns g) + (2 * ns.length + 1) + 2 * ns.length ≤ UI ns by unfold UI; omega)
  omega

/-! ### how long it takes -/
/-- a walk along steps that count -/
inductive Walk (rs : List Rl) (h : Hd) : E2 → List (Nat × E2) → E2 → Prop
  | nil (e : E2) : Walk rs h e [] e
  | cons {e e' t : E2} {n : Nat} {l : List (Nat × E2)} {f a : Int} {w : Pr} {cs : List Cd} (st : StepAt rs n e.1 e'.1 f a w cs) (es : e.2 = sideX e'.2 f) (on : onR h (.stp e.1 e'.1 f a (some w) cs) = true) (r : Walk rs h e' l t) : Walk rs h e ((n, e') :: l) t
theorem Way.walk {rs : List Rl} {src : Src} {g : Hd} (he : ∀ e n e', src e = some (n, e') → Edge rs g e n e') : ∀ {e t : E2} {l : List (Nat × E2)}, Way src e l t → Walk rs g e l t
  | _, _, _, .nil e => .nil e
  | _, _, _, .cons s w => by
    obtain ⟨f, a, w_, cs, u, v, st, es, on, _⟩ := he _ _ _ s
    exact .cons st es on (w.walk he)
theorem Walk.onto {rs : List Rl} {g h : Hd} (k : ∀ (n : Nat) (r : Rl), rs[n]? = some r → onR g r = true → onR h r = true) : ∀ {e t : E2} {l : List (Nat × E2)}, Walk rs g e l t → Walk rs h e l t
  | _, _, _, .nil e => .nil e
  | _, _, _, .cons st es on w => .cons st es (k _ _ st.at_ on) (w.onto k)
theorem Walk.mono {rs : List Rl} {g h : Hd} (k : SubF g h) {e t : E2} {l : List (Nat × E2)} (w : Walk rs g e l t) : Walk rs h e l t := w.onto fun _ _ _ on => onR_mono k on
/-- one application of rule number n -/
structure Tr (rs : List Rl) (L n : Nat) (r : Rl) (g : Hd) (src : Src) (g' : Hd) (src' : Src) : Prop where
  sub : SubF g g'
  gift : Sub (giftR g r) (g' (xOfR r))
  keep : ∀ e, evl g' e = evl g e → src' e = src e
  chg : ∀ e, evl g' e ≠ evl g e → evl g' e = some none ∨
    (∃ l m, Walk rs g' e l e ∧ l.length ≤ L ∧ (wayC rs l).m = some m ∧ m < (wayC rs l).f * m + (wayC rs l).a ∧ evl g' e = some (some m) ∧ ∀ u, evl g e = some u → ¬ enLe (some m) u) ∨
    (e.1 = xOfR r ∧ ∃ q, giftR g r = some q ∧ evl g' e = some (endP q e.2) ∧ ∀ x y f a rr cs, r = .stp x y f a rr cs → ∃ s, e.2 = sideX s f ∧ src' e = some (n, (y, s)))
def Trc (rs : List Rl) (L T : Nat) (g : Nat → Hd) (src : Nat → Src) : Prop := ∀ k, k < T → ∃ r, rs[k % rs.length]? = some r ∧ Tr rs L (k % rs.length) r (g k) (src k) (g (k + 1)) (src (k + 1))
section
variable {rs : List Rl} {L T : Nat} {g : Nat → Hd} {src : Nat → Src}
theorem Trc.mono (t : Trc rs L T g src) {i j : Nat} (h : i ≤ j) (hj : j ≤ T) : SubF (g i) (g j) := by
  induction j with
  | zero =>
    have e : i = 0 := by omega
    rw [e]
    exact SubF.refl _
  | succ j ih =>
    by_cases c : i = j + 1
    · rw [c]
      exact SubF.refl _
    · obtain ⟨r, _, z⟩ := t j (by omega)
      exact (ih (by omega) (by omega)).trans z.sub
/-- each rule is applied within each sweep -/
theorem Trc.app (t : Trc rs L T g src) {n : Nat} {r : Rl} (hr : rs[n]? = some r) {k : Nat} (hk : k + rs.length ≤ T) : ∃ k', k ≤ k' ∧ k' < k + rs.length ∧ k' % rs.length = n ∧ Tr rs L n r (g k') (src k') (g (k' + 1)) (src (k' + 1)) := by
  have ln : n < rs.length := (List.getElem?_eq_some_iff.mp hr).1
  have R0 : 0 < rs.length := by omega
  have h1 := Nat.div_add_mod k rs.length
  have h2 := Nat.mod_lt k R0
  have key : ∃ k', k ≤ k' ∧ k' < k + rs.length ∧ k' % rs.length = n := by
    by_cases c : k % rs.length ≤ n
    · refine ⟨rs.length * (k / rs.length) + n, by omega, by omega, ?_⟩
      rw [Nat.mul_add_mod, Nat.mod_eq_of_lt ln]
    · refine ⟨rs.length * (k / rs.length + 1) + n, by rw [Nat.mul_add, Nat.mul_one]; omega, by rw [Nat.mul_add, Nat.mul_one]; omega, ?_⟩
      rw [Nat.mul_add_mod, Nat.mod_eq_of_lt ln]
  obtain ⟨k', a, b, c⟩ := key
  obtain ⟨r', hr', z⟩ := t k' (by omega)
  rw [c] at hr' z
  rw [hr] at hr'
  cases hr'
  exact ⟨k', a, b, c, z⟩
theorem Trc.push1 (t : Trc rs L T g src) {n : Nat} {e e' : E2} {f a : Int} {w : Pr} {cs : List Cd} (st : StepAt rs n e.1 e'.1 f a w cs) (es : e.2 = sideX e'.2 f) {k : Nat} (on : onR (g k) (.stp e.1 e'.1 f a (some w) cs) = true)
    (hk : k + rs.length ≤ T) {v : En} (hv : evl (g k) e' = some v) : ∃ u, evl (g (k + rs.length)) e = some u ∧ enLe (stepE f a e'.2 (endP w e'.2) v) u := by
  obtain ⟨k', a1, a2, _, z⟩ := t.app st.at_ hk
  obtain ⟨v', ev', le'⟩ := evl_sub (t.mono a1 (by omega)) hv
  have on' := onR_mono (t.mono a1 (by omega)) on
  obtain ⟨p, q, ey, eg, en⟩ := gift_end st.nz on'
  have zg := z.gift
  rw [eg] at zg
  have zg' : Sub (some q) (g (k' + 1) e.1) := zg
  cases ex : g (k' + 1) e.1 with
  | none => rw [ex] at zg'; exact zg'.elim
  | some o =>
    rw [ex] at zg'
    have hp : v' = endP p e'.2 := by
      have : evl (g k') e' = some (endP p e'.2) := by unfold evl; rw [ey]; rfl
      rw [this] at ev'
      exact (Option.some.inj ev').symm
    have q1 := zg' e.2
    rw [es, en] at q1
    have hu : evl (g (k' + 1)) e = some (endP o (sideX e'.2 f)) := by unfold evl; rw [ex, ← es]; rfl
    obtain ⟨u, eu, le⟩ := evl_sub (t.mono (show k' + 1 ≤ k + rs.length by omega) hk) hu
    refine ⟨u, eu, enLe.trans (stepE_mono ?_) (q1.trans le)⟩
    rw [← hp]
    exact le'
theorem wayC_go {n : Nat} {e' : E2} {l : List (Nat × E2)} {x y : Str} {f a : Int} {w : Pr} {cs : List Cd} (st : StepAt rs n x y f a w cs) (v : En) : (wayC rs ((n, e') :: l)).go v = stepE f a e'.2 (endP w e'.2) ((wayC rs l).go v) := by
  rw [wayC_cons st, Crs.step_go]
theorem Trc.pushW (t : Trc rs L T g src) {k : Nat} : ∀ {e s : E2} {l : List (Nat × E2)}, Walk rs (g k) e l s → k + l.length * rs.length ≤ T → ∀ {v : En}, evl (g k) s = some v → ∃ u, evl (g (k + l.length * rs.length)) e = some u ∧ enLe ((wayC rs l).go v) u
  | _, _, _, .nil _, _, v, hv => ⟨v, by
      show evl (g (k + 0 * rs.length)) _ = _
      rw [Nat.zero_mul]
      exact hv, by rw [show wayC rs [] = Crs.one from rfl, Crs.one_go]; exact enLe.refl _⟩
  | _, _, (_ :: l), .cons st es on w, hk, v, hv => by
    rw [List.length_cons, Nat.succ_mul] at hk ⊢
    obtain ⟨u', eu', le'⟩ := t.pushW w (by omega) hv
    obtain ⟨u, eu, le⟩ := t.push1 st es (onR_mono (t.mono (Nat.le_add_right _ _) (by omega)) on) (by omega) eu'
    rw [← Nat.add_assoc]
    refine ⟨u, eu, ?_⟩
    rw [wayC_go st]
    exact (stepE_mono le').trans le
end
/-- a walk that is gone by a number: nothing cuts it, or some bound of within does -/
theorem walk_cut {rs : List Rl} {h : Hd} {i : Int} : ∀ {e t : E2} {l : List (Nat × E2)}, Walk rs h e l t → (wayC rs l).go (some i) = some ((wayC rs l).f * i + (wayC rs l).a) ∨
    ∃ l1 n e1 l2 e0 f a w cs b, l = l1 ++ (n, e1) :: l2 ∧ Walk rs h e l1 e0 ∧ StepAt rs n e0.1 e1.1 f a w cs ∧ e0.2 = sideX e1.2 f ∧ onR h (.stp e0.1 e1.1 f a (some w) cs) = true ∧ Walk rs h e1 l2 t ∧
      endP w e1.2 = some b ∧ enLe (some b) ((wayC rs l2).go (some i)) ∧ (wayC rs l).go (some i) = (wayC rs l1).go (stepE f a e1.2 (some b) (some b))
  | _, _, _, .nil e => .inl (by
      show Crs.one.go _ = some (1 * i + 0)
      rw [Crs.one_go]
      congr 1
      omega)
  | e, t, (_ :: l), .cons (e' := e') (n := n) (f := f) (a := a) (w := w) (cs := cs) st es on wk => by
    rw [wayC_go st]
    by_cases c : ∃ b, endP w e'.2 = some b ∧ enLe (some b) ((wayC rs l).go (some i))
    · obtain ⟨b, eb, le⟩ := c
      refine .inr ⟨[], n, e', l, e, f, a, w, cs, b, rfl, .nil e, st, es, on, wk, eb, le, ?_⟩
      rw [show wayC rs [] = Crs.one from rfl, Crs.one_go, eb]
      unfold stepE
      congr 1
      cases x : (wayC rs l).go (some i) with
      | none => simp [enMin]
      | some j =>
        rw [x] at le
        have le' : b ≤ j := le
        simp only [enMin]
        congr 1
        split <;> split <;> omega
    · have ex : enMin (endP w e'.2) ((wayC rs l).go (some i)) = (wayC rs l).go (some i) := by
        cases eb : endP w e'.2 with
        | none => rfl
        | some b =>
          cases x : (wayC rs l).go (some i) with
          | none => exact absurd ⟨b, eb, by rw [x]; trivial⟩ c
          | some j =>
            have : ¬ b ≤ j := fun z => c ⟨b, eb, by rw [x]; exact z⟩
            simp only [enMin]
            congr 1
            rw [if_pos (by omega)]
      rcases walk_cut wk with ih | ⟨l1, n1, e1, l2, e0, f1, a1, w1, cs1, b, el, wk1, st1, es1, on1, wk2, eb, le, eq⟩
      · refine .inl ?_
        unfold stepE
        rw [ex, ih, wayC_cons st]
        show some _ = some _
        congr 1
        show (f.natAbs : Int) * ((wayC rs l).f * i + (wayC rs l).a) + _ = (f.natAbs : Int) * (wayC rs l).f * i + ((f.natAbs : Int) * (wayC rs l).a + _)
        rw [Int.mul_add, Int.mul_assoc, Int.add_assoc]
      · refine .inr ⟨(n, e') :: l1, n1, e1, l2, e0, f1, a1, w1, cs1, b, by rw [el]; rfl, .cons st es on wk1, st1, es1, on1, wk2, eb, le, ?_⟩
        rw [wayC_go st, eq]

/-! ### facts that only become true -/
abbrev Fact := Nat ⊕ E2 ⊕ (Nat × Bool)
def satB : En → Option En → Bool
  | some _, some none => true
  | some t, some (some v) => decide (t ≤ v)
  | _, _ => false
def factB (rs : List Rl) (g : Hd) : Fact → Bool
  | .inl n => match rs[n]? with
    | some r => onR g r
    | none => false
  | .inr (.inl e) => infB g e
  | .inr (.inr (n, s)) => match rs[n]? with
    | some (.stp _ y _ _ (some w) _) => satB (endP w s) (evl g (y, s))
    | _ => false
theorem satB_iff {b : Int} {o : Option En} : satB (some b) o = true ↔ ∃ v, o = some v ∧ enLe (some b) v := by
  cases o with
  | none => simp [satB]
  | some v =>
    cases v with
    | none => simp [satB, enLe]
    | some v => simp [satB, enLe]
theorem factB_mono {rs : List Rl} {f g : Hd} (h : SubF f g) {x : Fact} (k : factB rs f x = true) : factB rs g x = true := by
  match x, k with
  | .inl n, k =>
    show (match rs[n]? with
      | some r => onR g r
      | none => false) = true
    have k' : (match rs[n]? with
      | some r => onR f r
      | none => false) = true := k
    cases e : rs[n]? with
    | none => rw [e] at k'; cases k'
    | some r => rw [e] at k'; exact onR_mono h k'
  | .inr (.inl e), k =>
    obtain ⟨v, ev, le⟩ := evl_sub h (infB_iff.mp k)
    cases v with
    | none => exact infB_iff.mpr ev
    | some v => exact le.elim
  | .inr (.inr (n, s)), k =>
    show (match rs[n]? with
      | some (.stp _ y _ _ (some w) _) => satB (endP w s) (evl g (y, s))
      | _ => false) = true
    have k' : (match rs[n]? with
      | some (.stp _ y _ _ (some w) _) => satB (endP w s) (evl f (y, s))
      | _ => false) = true := k
    match e : rs[n]? with
    | none => rw [e] at k'; cases k'
    | some (.set _ _ _) => rw [e] at k'; cases k'
    | some (.stp _ _ _ _ none _) => rw [e] at k'; cases k'
    | some (.stp _ y _ _ (some w) _) =>
      rw [e] at k'
      have k2 : satB (endP w s) (evl f (y, s)) = true := k'
      show satB (endP w s) (evl g (y, s)) = true
      cases ew : endP w s with
      | none => rw [ew] at k2; exact Bool.noConfusion (show false = true from k2)
      | some b =>
        rw [ew] at k2
        obtain ⟨v, ev, le⟩ := satB_iff.mp k2
        obtain ⟨v', ev', le'⟩ := evl_sub h ev
        exact satB_iff.mpr ⟨v', ev', le.trans le'⟩
def factU (ns : List Str) (R : Nat) : List Fact := (List.range R).map .inl ++ ((univ ns).map (fun e => .inr (.inl e)) ++ (List.range R).flatMap fun n => [.inr (.inr (n, false)), .inr (.inr (n, true))])
theorem factU_len {ns : List Str} {R : Nat} : (factU ns R).length = 3 * R + 2 * ns.length := by
  unfold factU
  rw [List.length_append, List.length_append, List.length_map, List.length_map, len_univ, List.length_range, List.length_flatMap]
  have : ((List.range R).map fun n => ([.inr (.inr (n, false)), .inr (.inr (n, true))] : List Fact).length).sum = 2 * R := by
    induction R with
    | zero => rfl
    | succ R ih =>
      rw [List.range_succ, List.map_append, List.sum_append, ih]
      show 2 * R + 2 = _
      omega
  rw [this]
  omega
theorem factU_rule {ns : List Str} {R n : Nat} (h : n < R) : (.inl n : Fact) ∈ factU ns R := List.mem_append_left _ (List.mem_map.mpr ⟨n, List.mem_range.mpr h, rfl⟩)
theorem factU_inf {ns : List Str} {R : Nat} {e : E2} (h : e.1 ∈ ns) : (.inr (.inl e) : Fact) ∈ factU ns R := List.mem_append_right _ (List.mem_append_left _ (List.mem_map.mpr ⟨e, mem_univ.mpr h, rfl⟩))
theorem factU_sat {ns : List Str} {R n : Nat} {s : Bool} (h : n < R) : (.inr (.inr (n, s)) : Fact) ∈ factU ns R := List.mem_append_right _ (List.mem_append_right _ (List.mem_flatMap.mpr ⟨n, List.mem_range.mpr h, by cases s <;> simp⟩))
def nF (ns : List Str) (rs : List Rl) (g : Hd) : Nat := (factU ns rs.length).countP (factB rs g)
section
variable {ns : List Str} {rs : List Rl} {L T : Nat} {g : Nat → Hd} {src : Nat → Src}
/-- no fact has become true -/
theorem nF_same {f h : Hd} (s : SubF f h) (e : nF ns rs h ≤ nF ns rs f) {x : Fact} (m : x ∈ factU ns rs.length) (k : factB rs h x = true) : factB rs f x = true := by
  cases c : factB rs f x with
  | true => rfl
  | false =>
    have := countP_lt (p := factB rs f) (q := factB rs h) (y := x) (fun y _ z => factB_mono s z) m c k
    unfold nF at e
    omega
/-- a chain of changes is a chain of sources -/
theorem Trc.chain (t : Trc rs L T g src) {T0 : Nat} (pl : ∀ k, T0 ≤ k → k < T → ∀ r e, rs[k % rs.length]? = some r → evl (g (k + 1)) e ≠ evl (g k) e → e.1 = xOfR r ∧ ∃ q, giftR (g k) r = some q ∧ evl (g (k + 1)) e = some (endP q e.2) ∧ ∀ x y f a rr cs, r = .stp x y f a rr cs → ∃ s, e.2 = sideX s f ∧ src (k + 1) e = some (k % rs.length, (y, s)))
    (on0 : ∀ k, T0 ≤ k → k < T → ∀ (n : Nat) r, rs[n]? = some r → onR (g k) r = true → onR (g T0) r = true) (nzw : ∀ (n : Nat) r, rs[n]? = some r → r.zero = false ∧ ∀ x y f a rr cs, r = .stp x y f a rr cs → rr.isSome = true) :
    ∀ (j k : Nat) (e : E2), T0 + j * rs.length ≤ k → k < T → evl (g (k + 1)) e ≠ evl (g k) e → ∃ l s, Way (src T) e l s ∧ j ≤ l.length
  | 0, k, e, _, _, _ => ⟨[], e, .nil e, Nat.le_refl _⟩
  | j + 1, k, e, hk, hT, ch => by
    rw [Nat.succ_mul] at hk
    -- the last change of e
    have last : ∃ k', k ≤ k' ∧ k' < T ∧ evl (g (k' + 1)) e ≠ evl (g k') e ∧ ∀ i, k' < i → i < T → evl (g (i + 1)) e = evl (g i) e := by
      have key : ∀ d k, T - k ≤ d → k < T → evl (g (k + 1)) e ≠ evl (g k) e → ∃ k', k ≤ k' ∧ k' < T ∧ evl (g (k' + 1)) e ≠ evl (g k') e ∧ ∀ i, k' < i → i < T → evl (g (i + 1)) e = evl (g i) e := fun d => by
        induction d with
        | zero => intro k a b; omega
        | succ d ih =>
          intro k a b c
          by_cases q : ∃ i, k < i ∧ i < T ∧ evl (g (i + 1)) e ≠ evl (g i) e
          · obtain ⟨i, i1, i2, i3⟩ := q
            obtain ⟨k', p1, p2⟩ := ih i (by omega) i2 i3
            exact ⟨k', by omega, p2⟩
          · exact ⟨k, Nat.le_refl _, b, c, fun i i1 i2 => Classical.byContradiction fun z => q ⟨i, i1, i2, z⟩⟩
      exact key (T - k) k (Nat.le_refl _) hT ch
    obtain ⟨k', k1, k2, ch', no⟩ := last
    have stay : ∀ i, k' < i → i ≤ T → src i e = src (k' + 1) e := fun i => by
      induction i with
      | zero => intro a; omega
      | succ i ih =>
        intro a b
        by_cases c : i = k'
        · rw [c]
        · obtain ⟨r, _, z⟩ := t i (by omega)
          rw [z.keep e (no i (by omega) (by omega))]
          exact ih (by omega) (by omega)
    obtain ⟨r, hr, z⟩ := t k' k2
    obtain ⟨ex, q, gq, eq, sr⟩ := pl k' (by omega) k2 r e hr ch'
    -- the same rule, a sweep before
    have R0 : 0 < rs.length := by
      have := (List.getElem?_eq_some_iff.mp hr).1
      omega
    have kR : rs.length ≤ k' := by omega
    have md : (k' - rs.length) % rs.length = k' % rs.length := by
      have : k' = (k' - rs.length) + rs.length := by omega
      rw [this, Nat.add_mod_right, ← this]
    obtain ⟨r', hr', z'⟩ := t (k' - rs.length) (by omega)
    rw [md, hr] at hr'
    cases hr'
    rw [md] at z'
    have onk : onR (g k') r = true := by
      cases c : onR (g k') r with
      | true => rfl
      | false =>
        have : giftR (g k') r = none := by unfold giftR; rw [c]; rfl
        rw [this] at gq
        cases gq
    have on1 : onR (g (k' - rs.length)) r = true := onR_mono (t.mono (show T0 ≤ k' - rs.length by omega) (by omega)) (on0 k' (by omega) k2 _ r hr onk)
    have below : ∀ q0, giftR (g (k' - rs.length)) r = some q0 → endP q0 e.2 = endP q e.2 → False := fun q0 g0 e0 => by
      have zz := z'.gift
      rw [g0] at zz
      cases eg : g (k' - rs.length + 1) (xOfR r) with
      | none => rw [eg] at zz; exact zz.elim
      | some o =>
        rw [eg] at zz
        have h1 := zz e.2
        have h2 : evl (g (k' - rs.length + 1)) e = some (endP o e.2) := by unfold evl; rw [ex, eg]; rfl
        obtain ⟨u, eu, le⟩ := evl_sub (t.mono (show k' - rs.length + 1 ≤ k' by omega) (by omega)) h2
        obtain ⟨u', eu', le'⟩ := evl_sub z.sub eu
        rw [eq] at eu'
        cases eu'
        have : enLe (endP q e.2) u := by
          rw [← e0]
          exact h1.trans le
        exact ch' (by rw [eq, eu, this.antisymm le'])
    match r, hr, ex, gq, sr, onk, on1, below with
    | .set x rr cs, hr, ex, gq, sr, onk, on1, below =>
      refine (below q ?_ rfl).elim
      unfold giftR at gq ⊢
      rw [if_pos onk] at gq
      rw [if_pos on1]
      exact gq
    | .stp x y f a none cs, hr, ex, gq, sr, onk, on1, below =>
      have := (nzw _ _ hr).2 _ _ _ _ _ _ rfl
      cases this
    | .stp x y f a (some w) cs, hr, ex, gq, sr, onk, on1, below =>
      have hf : f ≠ 0 := of_decide_eq_false (nzw _ _ hr).1
      obtain ⟨s, es, so⟩ := sr _ _ _ _ _ _ rfl
      obtain ⟨p1, q1, ey1, eg1, en1⟩ := gift_end hf on1
      obtain ⟨p2, q2, ey2, eg2, en2⟩ := gift_end hf onk
      rw [gq] at eg2
      cases eg2
      have ch2 : ∃ i, k' - rs.length ≤ i ∧ i < k' ∧ evl (g (i + 1)) (y, s) ≠ evl (g i) (y, s) := Classical.byContradiction fun c => by
        have same : ∀ i, k' - rs.length ≤ i → i ≤ k' → evl (g i) (y, s) = evl (g (k' - rs.length)) (y, s) := fun i => by
          induction i with
          | zero => intro a b; rw [show k' - rs.length = 0 by omega]
          | succ i ih =>
            intro a b
            by_cases d : i + 1 = k' - rs.length
            · rw [d]
            · rw [← ih (by omega) (by omega)]
              exact Classical.byContradiction fun z => c ⟨i, by omega, by omega, z⟩
        have e0 := same k' (by omega) (Nat.le_refl _)
        have h1 : evl (g (k' - rs.length)) (y, s) = some (endP p1 s) := by unfold evl; rw [ey1]; rfl
        have h2 : evl (g k') (y, s) = some (endP p2 s) := by unfold evl; rw [ey2]; rfl
        rw [h1, h2] at e0
        refine below q1 eg1 ?_
        rw [es, en1, en2, Option.some.inj e0]
      obtain ⟨i, i1, i2, i3⟩ := ch2
      obtain ⟨l, t0, wy, ll⟩ := t.chain pl on0 nzw j i (y, s) (by omega) (by omega) i3
      refine ⟨(k' % rs.length, (y, s)) :: l, t0, .cons ?_ wy, by rw [List.length_cons]; omega⟩
      rw [stay T k2 (Nat.le_refl _)]
      exact so
theorem walk_go_mono {h : Hd} {u v : En} (k : enLe u v) : ∀ {e t : E2} {l : List (Nat × E2)}, Walk rs h e l t → enLe ((wayC rs l).go u) ((wayC rs l).go v)
  | _, _, _, .nil _ => by
    rw [show wayC rs [] = Crs.one from rfl, Crs.one_go, Crs.one_go]
    exact k
  | _, _, _, .cons st es on w => by
    rw [wayC_go st, wayC_go st]
    exact stepE_mono (walk_go_mono k w)
theorem Trc.cut (t : Trc rs L T g src) {U : Nat} (h : U ≤ T) : Trc rs L U g src := fun k hk => t k (by omega)
/-- if no fact becomes true for so long, it has come to rest before -/
theorem Trc.window (t : Trc rs L T g src) (ways : ∀ k, k ≤ T → ∀ e l s, Way (src k) e l s → l.length ≤ L) (dom : ∀ k, k ≤ T → ∀ e u, evl (g k) e = some u → e.1 ∈ ns) (nzw : ∀ (n : Nat) r, rs[n]? = some r → r.zero = false ∧ ∀ x y f a rr cs, r = .stp x y f a rr cs → rr.isSome = true)
    {A B : Nat} (eB : B = A + (3 * L + 2) * rs.length) (hB : B ≤ T) (nf : nF ns rs (g B) ≤ nF ns rs (g A)) {k : Nat} (k1 : A + (2 * L + 1) * rs.length ≤ k) (k2 : k < A + (2 * L + 2) * rs.length) (e : E2) : evl (g (k + 1)) e = evl (g k) e := Classical.byContradiction fun ch => by
  generalize hR : rs.length = R at *
  have x1 : (3 * L + 2) * R = (L * R + L * R + L * R) + 2 * R := by rw [Nat.add_mul, Nat.mul_assoc]; omega
  have x2 : (2 * L + 1) * R = (L * R + L * R) + R := by rw [Nat.add_mul, Nat.mul_assoc]; omega
  have x3 : (2 * L + 2) * R = (L * R + L * R) + 2 * R := by rw [Nat.add_mul, Nat.mul_assoc]; omega
  have x4 : (L + 1) * R = L * R + R := by rw [Nat.add_mul, Nat.one_mul]
  rw [x1] at eB
  rw [x2] at k1
  rw [x3] at k2
  have back : ∀ {i : Nat}, i ≤ B → ∀ {x : Fact}, x ∈ factU ns rs.length → factB rs (g i) x = true → factB rs (g A) x = true := fun {i} hi {x} m z => nF_same (t.mono (by omega) hB) nf m (factB_mono (t.mono hi hB) z)
  have ruleA : ∀ {i : Nat}, i ≤ B → ∀ (n : Nat) r, rs[n]? = some r → onR (g i) r = true → onR (g A) r = true := fun {i} hi n r hr on => by
    have z := back hi (factU_rule (List.getElem?_eq_some_iff.mp hr).1) (x := .inl n) (by
      show (match rs[n]? with
        | some r => onR (g i) r
        | none => false) = true
      rw [hr]
      exact on)
    have z' : (match rs[n]? with
      | some r => onR (g A) r
      | none => false) = true := z
    rw [hr] at z'
    exact z'
  have pl : ∀ i, A + L * R ≤ i → i < k + 1 → ∀ r e, rs[i % rs.length]? = some r → evl (g (i + 1)) e ≠ evl (g i) e → e.1 = xOfR r ∧ ∃ q, giftR (g i) r = some q ∧ evl (g (i + 1)) e = some (endP q e.2) ∧ ∀ x y f a rr cs, r = .stp x y f a rr cs → ∃ s, e.2 = sideX s f ∧ src (i + 1) e = some (i % rs.length, (y, s)) := fun i i1 i2 r e hr c => by
    obtain ⟨r', hr', z⟩ := t i (by omega)
    rw [hr] at hr'
    cases hr'
    rcases z.chg e c with inf | ⟨l, m, wk, ll, em, gr, ev, no⟩ | pl
    · exfalso
      have mem := dom (i + 1) (by omega) e _ inf
      have zA := infB_iff.mp (back (x := .inr (.inl e)) (show i + 1 ≤ B by omega) (factU_inf mem) (infB_iff.mpr inf))
      obtain ⟨v, hv, le⟩ := evl_sub (t.mono (show A ≤ i by omega) (by omega)) zA
      cases v with
      | none => exact c (by rw [inf, hv])
      | some v => exact le.elim
    · exfalso
      have go : (wayC rs l).go (some m) = some m := by
        show enMin (wayC rs l).m (some ((wayC rs l).f * m + (wayC rs l).a)) = some m
        rw [em]
        show some (if (wayC rs l).f * m + (wayC rs l).a < m then _ else m) = some m
        rw [if_neg (by omega)]
      have lL : l.length * R ≤ L * R := Nat.mul_le_mul_right _ ll
      rcases walk_cut (i := m) wk with un | ⟨l1, n, e1, l2, e0, f, a, w, cs, b, el, wk1, st, es, on, wk2, eb, le, eq⟩
      · rw [go] at un
        have := Option.some.inj un
        omega
      · have len : l.length = l1.length + (l2.length + 1) := by rw [el, List.length_append, List.length_cons]
        have m1 : (l1.length + 1) * R ≤ L * R := Nat.mul_le_mul_right _ (by omega)
        have m2 : l2.length * R ≤ L * R := Nat.mul_le_mul_right _ (by omega)
        rw [Nat.add_mul, Nat.one_mul] at m1
        obtain ⟨u, eu, lu⟩ := t.pushW wk2 (by rw [hR]; omega) ev
        rw [hR] at eu
        have sat := back (x := .inr (.inr (n, e1.2))) (show i + 1 + l2.length * R ≤ B by omega) (factU_sat (List.getElem?_eq_some_iff.mp st.at_).1) (by
          show (match rs[n]? with
            | some (.stp _ y _ _ (some w) _) => satB (endP w e1.2) (evl (g (i + 1 + l2.length * R)) (y, e1.2))
            | _ => false) = true
          rw [st.at_]
          show satB (endP w e1.2) (evl (g (i + 1 + l2.length * R)) e1) = true
          rw [eb]
          exact satB_iff.mpr ⟨u, eu, le.trans lu⟩)
        have sat' : (match rs[n]? with
          | some (.stp _ y _ _ (some w) _) => satB (endP w e1.2) (evl (g A) (y, e1.2))
          | _ => false) = true := sat
        rw [st.at_] at sat'
        have sat2 : satB (endP w e1.2) (evl (g A) e1) = true := sat'
        rw [eb] at sat2
        obtain ⟨v, ev1, lv⟩ := satB_iff.mp sat2
        have onA := ruleA (show i + 1 ≤ B by omega) n _ st.at_ on
        obtain ⟨u1, eu1, le1⟩ := t.push1 st es onA (by rw [hR]; omega) ev1
        rw [hR] at eu1
        have wkA : Walk rs (g (A + R)) e l1 e0 := (wk1.onto (fun n r => ruleA (show i + 1 ≤ B by omega) n r)).mono (t.mono (by omega) (by omega))
        obtain ⟨u2, eu2, le2⟩ := t.pushW wkA (by rw [hR]; omega) eu1
        rw [hR] at eu2
        obtain ⟨u3, eu3, le3⟩ := evl_sub (t.mono (show A + R + l1.length * R ≤ i by omega) (by omega)) eu2
        refine no u3 eu3 (enLe.trans ?_ (le2.trans le3))
        rw [← go, eq]
        refine walk_go_mono (enLe.trans ?_ le1) wk1
        rw [eb]
        exact stepE_mono lv
    · exact pl
  obtain ⟨l, s, wy, ll⟩ := (t.cut (show k + 1 ≤ T by omega)).chain (T0 := A + L * R) pl (fun i i1 i2 n r hr on => onR_mono (t.mono (by omega) (by omega)) (ruleA (by omega) n r hr on)) nzw (L + 1) k e (by rw [hR, x4]; omega) (by omega) ch
  have := ways (k + 1) (by omega) _ _ _ wy
  omega
/-- so many sweeps at most -/
theorem Trc.sweeps {S : Nat} (t : Trc rs L (S * rs.length) g src) (ways : ∀ k, k ≤ S * rs.length → ∀ e l s, Way (src k) e l s → l.length ≤ L) (dom : ∀ k, k ≤ S * rs.length → ∀ e u, evl (g k) e = some u → e.1 ∈ ns) (nzw : ∀ (n : Nat) r, rs[n]? = some r → r.zero = false ∧ ∀ x y f a rr cs, r = .stp x y f a rr cs → rr.isSome = true)
    (ch : ∀ s, s < S → ∃ k e, s * rs.length ≤ k ∧ k < (s + 1) * rs.length ∧ evl (g (k + 1)) e ≠ evl (g k) e) : S < (3 * L + 2) * (3 * rs.length + 2 * ns.length + 1) := by
  have key : ∀ j, (3 * L + 2) * j ≤ S → j ≤ nF ns rs (g ((3 * L + 2) * j * rs.length)) := fun j => by
    induction j with
    | zero => intro _; exact Nat.zero_le _
    | succ j ih =>
      intro hj
      rw [Nat.mul_succ] at hj
      have ihj := ih (by omega)
      have eB : (3 * L + 2) * (j + 1) * rs.length = (3 * L + 2) * j * rs.length + (3 * L + 2) * rs.length := by rw [Nat.mul_succ, Nat.add_mul]
      have hB : (3 * L + 2) * (j + 1) * rs.length ≤ S * rs.length := Nat.mul_le_mul_right _ (by rw [Nat.mul_succ]; exact hj)
      refine Classical.byContradiction fun c => ?_
      obtain ⟨k, e, k1, k2, k3⟩ := ch ((3 * L + 2) * j + (2 * L + 1)) (by omega)
      rw [Nat.add_mul] at k1
      rw [Nat.add_mul, Nat.add_mul] at k2
      refine k3 (t.window ways dom nzw eB hB (by omega) k1 ?_ e)
      have : (2 * L + 2) * rs.length = (2 * L + 1) * rs.length + 1 * rs.length := by rw [← Nat.add_mul]
      omega
  refine Classical.byContradiction fun c => ?_
  have z := key (3 * rs.length + 2 * ns.length + 1) (by omega)
  have := List.countP_le_length (p := factB rs (g ((3 * L + 2) * (3 * rs.length + 2 * ns.length + 1) * rs.length))) (l := factU ns rs.length)
  rw [factU_len] at this
  unfold nF at z
  omega
end

/-! ### one application, side by side -/
theorem sideX_inv {s : Bool} {f : Int} : sideX (sideX s f) f = s := by
  unfold sideX
  by_cases c : f > 0
  · rw [if_pos c, if_pos c]
  · rw [if_neg c, if_neg c, Bool.not_not]
theorem evl_ext {g h : Hd} (k : ∀ e, evl g e = evl h e) : g = h := by
  funext x
  have k1 := k (x, true)
  have k2 := k (x, false)
  unfold evl at k1 k2
  cases eg : g x with
  | none =>
    cases eh : h x with
    | none => rfl
    | some q => rw [show g (x, true).1 = none from eg, show h (x, true).1 = some q from eh] at k1; cases k1
  | some p =>
    cases eh : h x with
    | none => rw [show g (x, true).1 = some p from eg, show h (x, true).1 = none from eh] at k1; cases k1
    | some q =>
      rw [show g (x, true).1 = some p from eg, show h (x, true).1 = some q from eh] at k1
      rw [show g (x, false).1 = some p from eg, show h (x, false).1 = some q from eh] at k2
      exact congrArg some (endP_ext fun s => by
        cases s with
        | true => exact Option.some.inj k1
        | false => exact Option.some.inj k2)
theorem way_end {src : Src} : ∀ {a t : E2} {l : List (Nat × E2)}, Way src a l t → t = a ∨ ∃ b n, src b = some (n, t)
  | _, _, _, .nil _ => .inl rfl
  | _, _, _, .cons s w => by
    rcases way_end w with e | h
    · rw [e]
      exact .inr ⟨_, _, s⟩
    · exact .inr h
theorem grow_mono0 {c : Crs} {v x : Int} (f1 : 1 ≤ c.f) (g : v < c.f * v + c.a) (h : v ≤ x) : x < c.f * x + c.a := by
  have h1 := Int.mul_le_mul_of_nonneg_left h (show (0 : Int) ≤ c.f - 1 by omega)
  rw [Int.sub_mul, Int.sub_mul, Int.one_mul, Int.one_mul] at h1
  omega
/-- how an end has changed -/
def Chg (rs : List Rl) (L n : Nat) (y : Str) (f : Int) (q0 : Pr) (g gb : Hd) (src : Src) (e : E2) : Prop := evl gb e = some none ∨
  (∃ l m, Walk rs gb e l e ∧ l.length ≤ L ∧ (wayC rs l).m = some m ∧ m < (wayC rs l).f * m + (wayC rs l).a ∧ evl gb e = some (some m) ∧ ∀ u, evl g e = some u → ¬ enLe (some m) u) ∨
  (evl gb e = some (endP q0 e.2) ∧ ∃ s, e.2 = sideX s f ∧ src e = some (n, (y, s)))
theorem Chg.up {rs : List Rl} {L n : Nat} {y : Str} {f : Int} {q0 : Pr} {g gb gb' : Hd} {src src' : Src} {e : E2} (h : Chg rs L n y f q0 g gb src e) (k : SubF gb gb') (ev : evl gb' e = evl gb e) (es : src' e = src e) : Chg rs L n y f q0 g gb' src' e := by
  rcases h with h | ⟨l, m, w, a, b, c, d, no⟩ | ⟨a, s, b, c⟩
  · exact .inl (by rw [ev]; exact h)
  · exact .inr (.inl ⟨l, m, w.mono k, a, b, c, by rw [ev]; exact d, no⟩)
  · exact .inr (.inr ⟨by rw [ev]; exact a, s, b, by rw [es]; exact c⟩)
/-- a step and what it gives -/
structure Gv (ns : List Str) (rs : List Rl) (F A B : Int) (n : Nat) (x y : Str) (f a : Int) (w : Pr) (cs : List Cd) (g : Hd) (src0 : Src) (q0 : Pr) : Prop where
  S : SysB ns rs F A B
  I0 : Inv ns rs F A B [] g src0
  st : StepAt rs n x y f a w cs
  on : onR g (.stp x y f a (some w) cs) = true
  gv : giftR g (.stp x y f a (some w) cs) = some q0
  mx : x ∈ ns
  my : y ∈ ns
section
variable {ns : List Str} {rs : List Rl} {F A B : Int} {n : Nat} {x y : Str} {f a : Int} {w : Pr} {cs : List Cd} {g : Hd} {src0 : Src} {q0 q : Pr}
/-- the end that it reads -/
theorem Gv.rd (G : Gv ns rs F A B n x y f a w cs g src0 q0) (s : Bool) : ∃ z, evl g (y, sideX s f) = some z ∧ endP q0 s = stepE f a (sideX s f) (endP w (sideX s f)) z := by
  obtain ⟨p, q', ey, eg, en⟩ := gift_end G.st.nz G.on
  rw [G.gv] at eg
  cases eg
  refine ⟨endP p (sideX s f), by unfold evl; rw [ey]; rfl, ?_⟩
  have := en (sideX s f)
  rw [sideX_inv] at this
  exact this
theorem Gv.hold (G : Gv ns rs F A B n x y f a w cs g src0 q0) {h : Hd} (hh : Hold rs h) : Sub (some q0) (h x) := by
  have z := gift_mono (r := .stp x y f a (some w) cs) (decide_eq_false G.st.nz) (G.I0.least h hh)
  rw [G.gv] at z
  exact z.trans (hh _ (List.mem_of_getElem? G.st.at_))
theorem Gv.holdE (G : Gv ns rs F A B n x y f a w cs g src0 q0) {h : Hd} (hh : Hold rs h) {e : E2} (ex : e.1 = x) : ∃ t, evl h e = some t ∧ enLe (endP q0 e.2) t := by
  have z := G.hold hh
  cases eh : h x with
  | none => rw [eh] at z; exact z.elim
  | some t =>
    rw [eh] at z
    exact ⟨endP t e.2, by unfold evl; rw [ex, eh]; rfl, z e.2⟩
/-- between the sides -/
structure Mid (ns : List Str) (rs : List Rl) (F A B : Int) (n : Nat) (x y : Str) (f a : Int) (w : Pr) (cs : List Cd) (g : Hd) (src0 : Src) (q0 q : Pr) (rem : List E2) (gb ga : Hd) (src : Src) : Prop where
  G : Gv ns rs F A B n x y f a w cs g src0 q0
  q0q : ∀ s, enLe (endP q0 s) (endP q s)
  inv : Inv ns rs F A B rem gb src
  nd : rem.Nodup
  remx : ∀ e ∈ rem, e.1 = x
  remq : ∀ e ∈ rem, endP q e.2 = endP q0 e.2
  act : ∀ e, evl ga e = if e ∈ rem then some (endP q e.2) else evl gb e
  sub : SubF g gb
  oth : ∀ e, e.1 ≠ x → evl gb e = evl g e ∧ src e = src0 e
  old : ∀ e ∈ rem, ∃ o, evl gb e = some o ∧ enLe o (endP q e.2) ∧ ((evl g e = some o ∧ ¬ enLe (endP q e.2) o) ∨ g x = none)
  born : g x = none → (∀ e n' e2, src e = some (n', e2) → e2.1 ≠ x) ∧ y ≠ x
  done : ∀ e, e.1 = x → e ∉ rem → (evl gb e = evl g e ∧ src e = src0 e) ∨ (evl gb e ≠ evl g e ∧ Chg rs (2 * ns.length + 1) n y f q0 g gb src e)
  qle : ∀ e, e.1 = x → e ∉ rem → ∃ u, evl gb e = some u ∧ enLe (endP q e.2) u
variable {rem : List E2} {gb ga : Hd} {src : Src} {e : E2}
theorem Mid.noway (M : Mid ns rs F A B n x y f a w cs g src0 q0 q (e :: rem) gb ga src) (h0 : g x = none) {l : List (Nat × E2)} (wy : Way src (y, sideX e.2 f) l e) : False := by
  obtain ⟨b1, b2⟩ := M.born h0
  have ex := M.remx e List.mem_cons_self
  rcases way_end wy with z | ⟨b, n', z⟩
  · rw [z] at ex
    exact b2 ex
  · exact b1 _ _ _ z ex
/-- what is known of the first side -/
theorem Mid.first (M : Mid ns rs F A B n x y f a w cs g src0 q0 q (e :: rem) gb ga src) : e.1 = x ∧ e ∉ rem ∧ onR gb (.stp e.1 (y, sideX e.2 f).1 f a (some w) cs) = true ∧ StepAt rs n e.1 (y, sideX e.2 f).1 f a w cs ∧ e.2 = sideX (y, sideX e.2 f).2 f ∧
    ∃ z0 z, evl g (y, sideX e.2 f) = some z0 ∧ evl gb (y, sideX e.2 f) = some z ∧ endP q e.2 = stepE f a (sideX e.2 f) (endP w (sideX e.2 f)) z0 ∧ enLe (endP q e.2) (stepE f a (sideX e.2 f) (endP w (sideX e.2 f)) z) := by
  have ex := M.remx e List.mem_cons_self
  obtain ⟨z0, e0, eq⟩ := M.G.rd e.2
  obtain ⟨z, ez, le⟩ := evl_sub M.sub e0
  have eqq := M.remq e List.mem_cons_self
  refine ⟨ex, (List.nodup_cons.mp M.nd).1, ?_, ?_, sideX_inv.symm, z0, z, e0, ez, by rw [eqq, eq], ?_⟩
  · rw [ex]
    exact onR_mono M.sub M.G.on
  · rw [ex]
    exact M.G.st
  · rw [eqq, eq]
    exact stepE_mono le
theorem Mid.ne (M : Mid ns rs F A B n x y f a w cs g src0 q0 q (e :: rem) gb ga src) {v : En} (le : enLe (endP q e.2) v) : some v ≠ evl g e := fun z => by
  have ex := M.remx e List.mem_cons_self
  obtain ⟨o, eo, le2, gr⟩ := M.old e List.mem_cons_self
  rcases gr with ⟨e1, e2⟩ | h0
  · rw [e1] at z
    cases z
    exact e2 le
  · unfold evl at z
    rw [ex, h0] at z
    cases z
/-- no round is closed: the source is kept -/
theorem Mid.plain (M : Mid ns rs F A B n x y f a w cs g src0 q0 q (e :: rem) gb ga src) (no : ∀ l, ¬ Way src (y, sideX e.2 f) l e) :
    Mid ns rs F A B n x y f a w cs g src0 q0 q rem (setE gb e (endP q e.2)) ga (putS src e (some (n, (y, sideX e.2 f)))) := by
  obtain ⟨ex, eD, on, st, es, z0, z, e0, ez, eq, vz⟩ := M.first
  obtain ⟨o, eo, le, gr⟩ := M.old e List.mem_cons_self
  have sub' := sub_set eo le
  have rem_ne : ∀ e2 ∈ rem, e2 ≠ e := fun e2 m z => eD (z ▸ m)
  have inv' := M.inv.put M.G.S eD eo le (new := some (n, (y, sideX e.2 f))) (fun n2 e2 h => ?_) (rank_add M.inv.rk (M.inv.dirty e List.mem_cons_self) no) (fun h => by cases h) (fun n2 e2 i h hi hv => ?_) (fun h hh => ?_)
  · refine ⟨M.G, M.q0q, inv', (List.nodup_cons.mp M.nd).2, fun e2 m => M.remx e2 (List.mem_cons_of_mem _ m), fun e2 m => M.remq e2 (List.mem_cons_of_mem _ m), fun e2 => ?_, M.sub.trans sub', fun e2 ne => ?_, fun e2 m => ?_, fun h0 => ⟨fun a2 n2 e2 h => ?_, (M.born h0).2⟩, fun e2 x2 m => ?_, fun e2 x2 m => ?_⟩
    · rw [M.act e2]
      by_cases c : e2 = e
      · subst c
        rw [if_pos List.mem_cons_self, if_neg eD, evl_set_same eo]
      · rw [evl_set_ne c]
        by_cases d : e2 ∈ rem
        · rw [if_pos d, if_pos (List.mem_cons_of_mem _ d)]
        · rw [if_neg d, if_neg (fun w => (List.mem_cons.mp w).elim c d)]
    · have c : e2 ≠ e := fun w => ne (by rw [w]; exact ex)
      rw [evl_set_ne c, putS_ne c]
      exact M.oth e2 ne
    · rw [evl_set_ne (rem_ne e2 m)]
      exact M.old e2 (List.mem_cons_of_mem _ m)
    · by_cases c : a2 = e
      · rw [c, putS_same] at h
        cases h
        exact (M.born h0).2
      · rw [putS_ne c] at h
        exact (M.born h0).1 _ _ _ h
    · by_cases c : e2 = e
      · subst c
        refine .inr ⟨?_, .inr (.inr ⟨?_, sideX e2.2 f, sideX_inv.symm, putS_same⟩)⟩
        · rw [evl_set_same eo]
          exact M.ne (enLe.refl _)
        · rw [evl_set_same eo, M.remq e2 List.mem_cons_self]
      · rcases M.done e2 x2 (fun w => (List.mem_cons.mp w).elim c m) with ⟨h1, h2⟩ | ⟨h1, h2⟩
        · exact .inl ⟨by rw [evl_set_ne c]; exact h1, by rw [putS_ne c]; exact h2⟩
        · exact .inr ⟨by rw [evl_set_ne c]; exact h1, h2.up sub' (evl_set_ne c) (putS_ne c)⟩
    · by_cases c : e2 = e
      · subst c
        exact ⟨_, evl_set_same eo, enLe.refl _⟩
      · rw [evl_set_ne c]
        exact M.qle e2 x2 (fun w => (List.mem_cons.mp w).elim c m)
  · cases h
    obtain ⟨z', ez', le'⟩ := evl_sub sub' ez
    exact ⟨f, a, w, cs, _, z', st, es, onR_mono sub' on, evl_set_same eo, ez', vz.trans (stepE_mono le')⟩
  · cases h
    rw [eq] at hv
    have S := M.G.S
    cases z0 with
    | none =>
      have := S.step_up M.G.st (e := none) (k := 0) (fun i h => by cases h) hv
      refine Int.le_trans this (S.mono ?_)
      have := TI_mono (ns := ns) (Nat.zero_le (cI ns (setE gb e (endP q e.2))))
      unfold TI at this ⊢
      omega
    | some i0 =>
      have u0 := M.G.I0.up S (K := 0) (fun _ z => absurd z (by simp)) e0
      have u1 := S.step_up M.G.st (e := some i0) (fun i h => by cases h; exact u0) hv
      refine Int.le_trans u1 (S.mono ?_)
      have lt := cI_lt (ns := ns) (M.sub.trans sub') (e := (y, sideX e.2 f)) M.G.my (by rw [e0]; exact fun w => by cases w) hi
      have := TI_mono (ns := ns) lt
      rw [TI_succ] at this
      omega
  · obtain ⟨t, et, lt⟩ := M.G.holdE hh ex
    exact ⟨t, et, by rw [M.remq e List.mem_cons_self]; exact lt⟩
/-- a round is closed -/
theorem Mid.close (M : Mid ns rs F A B n x y f a w cs g src0 q0 q (e :: rem) gb ga src) {l : List (Nat × E2)} (way : Way src (y, sideX e.2 f) l e) :
    ∃ v, evl ga e = some (some v) ∧ 1 ≤ (wayC rs ((n, (y, sideX e.2 f)) :: l)).f ∧ v < (wayC rs ((n, (y, sideX e.2 f)) :: l)).f * v + (wayC rs ((n, (y, sideX e.2 f)) :: l)).a ∧ (∀ m, (wayC rs ((n, (y, sideX e.2 f)) :: l)).m = some m → v ≤ m) ∧
      Walk rs gb e ((n, (y, sideX e.2 f)) :: l) e ∧
      Mid ns rs F A B n x y f a w cs g src0 q0 q rem (setE gb e (wayC rs ((n, (y, sideX e.2 f)) :: l)).m) (setE ga e (wayC rs ((n, (y, sideX e.2 f)) :: l)).m) src := by
  obtain ⟨ex, eD, on, st, es, z0, z, e0, ez, eq, vz⟩ := M.first
  obtain ⟨o, eo, le, gr⟩ := M.old e List.mem_cons_self
  have rem_ne : ∀ e2 ∈ rem, e2 ≠ e := fun e2 m z => eD (z ▸ m)
  have gr' : evl g e = some o ∧ ¬ enLe (endP q e.2) o := gr.elim id fun h0 => (M.noway h0 way).elim
  obtain ⟨o', v', h1, h2, h3, h4, h5, h6, inv'⟩ := M.inv.close M.G.S eD eo gr'.2 st es on ez vz way (fun h hh => by
    obtain ⟨t, et, lt⟩ := M.G.holdE hh ex
    exact ⟨t, et, by rw [M.remq e List.mem_cons_self]; exact lt⟩)
  have wk0 : Walk rs gb e ((n, (y, sideX e.2 f)) :: l) e := .cons st es on (way.walk M.inv.edge)
  have len := way_len M.inv way
  generalize hc : wayC rs ((n, (y, sideX e.2 f)) :: l) = c at *
  have lev : enLe (endP q e.2) c.m := by
    rw [h2]
    cases em : c.m with
    | none => trivial
    | some m => exact (h6 m em).1
  have sub' : SubF gb (setE gb e c.m) := sub_set eo (le.trans lev)
  have ega : evl ga e = some (endP q e.2) := by
    rw [M.act e, if_pos List.mem_cons_self]
  refine ⟨v', by rw [ega, h2], h4, h5, fun m em => (h6 m em).1, wk0, M.G, M.q0q, inv', (List.nodup_cons.mp M.nd).2, fun e2 m => M.remx e2 (List.mem_cons_of_mem _ m), fun e2 m => M.remq e2 (List.mem_cons_of_mem _ m), fun e2 => ?_, M.sub.trans sub', fun e2 ne => ?_, fun e2 m => ?_, M.born, fun e2 x2 m => ?_, fun e2 x2 m => ?_⟩
  · by_cases c2 : e2 = e
    · subst c2
      rw [evl_set_same ega, evl_set_same eo, if_neg eD]
    · rw [evl_set_ne c2, evl_set_ne c2, M.act e2]
      by_cases d : e2 ∈ rem
      · rw [if_pos d, if_pos (List.mem_cons_of_mem _ d)]
      · rw [if_neg d, if_neg (fun w => (List.mem_cons.mp w).elim c2 d)]
  · have c2 : e2 ≠ e := fun w => ne (by rw [w]; exact ex)
    rw [evl_set_ne c2]
    exact M.oth e2 ne
  · rw [evl_set_ne (rem_ne e2 m)]
    exact M.old e2 (List.mem_cons_of_mem _ m)
  · by_cases c2 : e2 = e
    · subst c2
      refine .inr ⟨?_, ?_⟩
      · rw [evl_set_same eo]
        exact M.ne lev
      · cases em : c.m with
        | none => exact .inl (evl_set_same eo)
        | some m =>
          refine .inr (.inl ⟨_, m, ?_, ?_, by rw [hc]; exact em, ?_, evl_set_same eo, fun u hu => ?_⟩)
          · rw [em] at sub'
            exact wk0.mono sub'
          · rw [List.length_cons]
            omega
          · rw [hc]
            exact grow_mono0 h4 h5 (h6 m em).1
          · rw [gr'.1, h1] at hu
            cases hu
            have := (h6 m em).1
            intro w
            have w' : m ≤ o' := w
            omega
    · rcases M.done e2 x2 (fun w => (List.mem_cons.mp w).elim c2 m) with ⟨k1, k2⟩ | ⟨k1, k2⟩
      · exact .inl ⟨by rw [evl_set_ne c2]; exact k1, k2⟩
      · exact .inr ⟨by rw [evl_set_ne c2]; exact k1, k2.up sub' (evl_set_ne c2) rfl⟩
  · by_cases c2 : e2 = e
    · subst c2
      exact ⟨_, evl_set_same eo, lev⟩
    · rw [evl_set_ne c2]
      exact M.qle e2 x2 (fun w => (List.mem_cons.mp w).elim c2 m)
theorem sub_join {p0 : Pr} (h : joinR (some p0) (some q0) = some q) : ∀ s, endP q s = enMax (endP p0 s) (endP q0 s) := by
  obtain ⟨t, e1, e2⟩ := end_join (p := p0) (q := q0)
  rw [h] at e1
  cases e1
  exact e2
/-- the beginning, x not empty before -/
theorem Mid.old_ (G : Gv ns rs F A B n x y f a w cs g src0 q0) {p0 : Pr} (h0 : g x = some p0) (hj : joinR (some p0) (some q0) = some q) {rem : List E2} (nd : rem.Nodup) (hr : ∀ e : E2, e ∈ rem ↔ e.1 = x ∧ endP p0 e.2 ≠ endP q e.2) :
    Mid ns rs F A B n x y f a w cs g src0 q0 q rem g (putX g x q) (popS src0 rem) := by
  have ends := sub_join hj
  have ev : ∀ e : E2, e.1 = x → evl g e = some (endP p0 e.2) := fun e ex => by unfold evl; rw [ex, h0]; rfl
  refine ⟨G, fun s => by rw [ends]; exact enMax_r, G.I0.pop G.S, nd, fun e m => ((hr e).mp m).1, fun e m => ?_, fun e => ?_, SubF.refl _, fun e ne => ⟨rfl, popS_out fun m => ne ((hr e).mp m).1⟩, fun e m => ?_, fun z => (by rw [h0] at z; cases z), fun e ex m => .inl ⟨rfl, popS_out m⟩, fun e ex m => ?_⟩
  · have := (enMax_ne (a := endP p0 e.2) (b := endP q0 e.2) (fun z => ((hr e).mp m).2 (by rw [ends, z]))).1
    rw [ends, this]
  · by_cases c : e.1 = x
    · obtain ⟨x', s⟩ := e
      have c' : x' = x := c
      subst c'
      rw [evl_putX]
      by_cases d : (x', s) ∈ rem
      · rw [if_pos d]
      · rw [if_neg d, ev _ rfl]
        exact congrArg some (Classical.byContradiction fun z => d ((hr _).mpr ⟨rfl, fun w => z w.symm⟩))
    · rw [evl_putX_ne c, if_neg (fun m => c ((hr e).mp m).1)]
  · obtain ⟨ex, ne⟩ := (hr e).mp m
    have z := enMax_ne (a := endP p0 e.2) (b := endP q0 e.2) (fun z => ne (by rw [ends, z]))
    refine ⟨_, ev e ex, by rw [ends]; exact enMax_l, .inl ⟨ev e ex, ?_⟩⟩
    rw [ends, z.1]
    exact z.2
  · refine ⟨_, ev e ex, ?_⟩
    have : endP p0 e.2 = endP q e.2 := Classical.byContradiction fun z => m ((hr e).mpr ⟨ex, z⟩)
    rw [this]
    exact enLe.refl _
theorem pop_none {src : Src} {rem : List E2} (h : ∀ e ∈ rem, src e = none) : popS src rem = src := by
  funext e
  by_cases m : e ∈ rem
  · rw [popS_in m, h e m]
  · rw [popS_out m]
/-- the beginning, x empty before -/
theorem Mid.new_ (G : Gv ns rs F A B n x y f a w cs g src0 q0) (h0 : g x = none) {rem : List E2} (nd : rem.Nodup) (hr : ∀ e : E2, e ∈ rem ↔ e.1 = x) :
    Mid ns rs F A B n x y f a w cs g src0 q0 q0 rem (putX g x q0) (putX g x q0) (popS src0 rem) := by
  have sub : SubF g (putX g x q0) := sub_putX (by rw [h0]; trivial)
  have hq : ∀ s i, endP q0 s = some i → i ≤ bI F A B (TI ns (cI ns (putX g x q0)) + (2 * ns.length + 1)) ∧ -(bI F A B (cN ns (putX g x q0))) ≤ i := fun s i hi => by
    obtain ⟨z0, e0, eq⟩ := G.rd s
    rw [eq] at hi
    have S := G.S
    constructor
    · have cm := TI_mono (ns := ns) (cI_mono (ns := ns) sub)
      cases z0 with
      | none =>
        have := S.step_up G.st (e := none) (k := 0) (fun i h => by cases h) hi
        exact Int.le_trans this (S.mono (by omega))
      | some i0 =>
        have u0 := G.I0.up S (K := 0) (fun _ z => absurd z (by simp)) e0
        have u1 := S.step_up G.st (e := some i0) (fun i h => by cases h; exact u0) hi
        exact Int.le_trans u1 (S.mono (by omega))
    · have lo := S.step_low G.st (e := z0) (k := cN ns g) (fun i h => by rw [h] at e0; exact G.I0.low _ i e0) hi
      have lt := cN_lt (ns := ns) sub G.mx h0 (by unfold putX; rw [if_pos rfl]; rfl)
      have := S.mono lt
      omega
  obtain ⟨inv, nos⟩ := G.I0.birth G.S (q := q0) (K := 2 * ns.length + 1) (D := rem) G.mx h0 (.inr ⟨rfl, hr⟩) hq (fun h hh => G.hold hh)
  · have ps : popS src0 rem = src0 := pop_none fun e m => by
      obtain ⟨x', s⟩ := e
      have c' : x' = x := (hr _).mp m
      rw [c']
      exact nos s
    have yx : y ≠ x := fun z => by
      obtain ⟨z0, e0, _⟩ := G.rd true
      unfold evl at e0
      rw [show ((y, sideX true f) : E2).1 = x from z, h0] at e0
      cases e0
    rw [ps]
    refine ⟨G, fun s => enLe.refl _, inv, nd, fun e m => (hr e).mp m, fun e m => rfl, fun e => ?_, sub, fun e ne => ⟨evl_putX_ne ne, rfl⟩, fun e m => ?_, fun _ => ⟨fun e n' e2 h => ?_, yx⟩, fun e ex m => absurd ((hr e).mpr ex) m, fun e ex m => absurd ((hr e).mpr ex) m⟩
    · by_cases m : e ∈ rem
      · rw [if_pos m]
        obtain ⟨x', s⟩ := e
        have c' : x' = x := (hr _).mp m
        subst c'
        exact evl_putX
      · rw [if_neg m]
    · obtain ⟨x', s⟩ := e
      have c' : x' = x := (hr _).mp m
      subst c'
      exact ⟨_, evl_putX, enLe.refl _, .inr h0⟩
    · obtain ⟨f', a', w', cs', u, v, st, es, on, e1, e2', le⟩ := G.I0.edge _ _ _ h
      intro z
      unfold evl at e2'
      rw [z, h0] at e2'
      cases e2'
/-- the end -/
theorem Mid.fin (M : Mid ns rs F A B n x y f a w cs g src0 q0 q [] gb ga src) : ga = gb ∧ Inv ns rs F A B [] gb src ∧ Tr rs (2 * ns.length + 1) n (.stp x y f a (some w) cs) g src0 gb src := by
  refine ⟨evl_ext fun e => by rw [M.act e, if_neg (by simp)], M.inv, M.sub, ?_, fun e h => ?_, fun e h => ?_⟩
  · rw [M.G.gv]
    show Sub (some q0) (gb x)
    cases eb : gb x with
    | none =>
      obtain ⟨u, eu, _⟩ := M.qle (x, true) rfl (by simp)
      unfold evl at eu
      rw [show gb (x, true).1 = none from eb] at eu
      cases eu
    | some t =>
      intro s
      obtain ⟨u, eu, le⟩ := M.qle (x, s) rfl (by simp)
      unfold evl at eu
      rw [show gb (x, s).1 = some t from eb] at eu
      have eu' : endP t s = u := Option.some.inj eu
      rw [eu']
      exact (M.q0q s).trans le
  · by_cases c : e.1 = x
    · rcases M.done e c (by simp) with z | z
      · exact z.2
      · exact absurd h z.1
    · exact (M.oth e c).2
  · by_cases c : e.1 = x
    · rcases M.done e c (by simp) with z | ⟨_, z⟩
      · exact absurd z.1 h
      · rcases z with z | z | ⟨z1, s, z2, z3⟩
        · exact .inl z
        · exact .inr (.inl z)
        · refine .inr (.inr ⟨c, q0, M.G.gv, z1, fun x' y' f' a' rr cs' er => ?_⟩)
          injection er with e1 e2 e3 e4 e5 e6
          subst e2
          subst e3
          exact ⟨s, z2, z3⟩
    · exact absurd (M.oth e c).1 h
end
/-- a set: the ends are put, without sources -/
theorem set_inv_ {ns : List Str} {rs : List Rl} {F A B : Int} {src0 : Src} {q : Pr} (S : SysB ns rs F A B) (hb : ∀ s i, endP q s = some i → i ≤ B) : ∀ (rem : List E2) {gb ga : Hd}, Inv ns rs F A B rem gb src0 → rem.Nodup →
    (∀ e ∈ rem, ∃ o, evl gb e = some o ∧ enLe o (endP q e.2) ∧ ∀ h, Hold rs h → ∃ t, evl h e = some t ∧ enLe (endP q e.2) t) → (∀ e, evl ga e = if e ∈ rem then some (endP q e.2) else evl gb e) → Inv ns rs F A B [] ga src0
  | [], gb, ga, inv, _, _, act => by
    have : ga = gb := evl_ext fun e => by rw [act e, if_neg (by simp)]
    rw [this]
    exact inv
  | e :: rem, gb, ga, inv, nd, old, act => by
    obtain ⟨eD, nd'⟩ := List.nodup_cons.mp nd
    obtain ⟨o, eo, le, hl⟩ := old e List.mem_cons_self
    have sn := inv.dirty e List.mem_cons_self
    have z := inv.put S eD eo le (new := none) (fun n e' h => by cases h) (by rw [putS_id sn]; exact inv.rk) (fun _ i ei => ?_) (fun n e' i h => by cases h) hl
    · rw [putS_id sn] at z
      refine set_inv_ S hb rem z nd' (fun e2 m => ?_) fun e2 => ?_
      · rw [evl_set_ne (fun w => eD (by rw [← w]; exact m))]
        exact old e2 (List.mem_cons_of_mem _ m)
      · rw [act e2]
        by_cases c : e2 = e
        · subst c
          rw [if_pos List.mem_cons_self, if_neg eD, evl_set_same eo]
        · rw [evl_set_ne c]
          by_cases d : e2 ∈ rem
          · rw [if_pos d, if_pos (List.mem_cons_of_mem _ d)]
          · rw [if_neg d, if_neg (fun w => (List.mem_cons.mp w).elim c d)]
    · exact Int.le_trans (hb _ i ei) (S.mono (Nat.zero_le _))
theorem set_fin {ns : List Str} {rs : List Rl} {F A B : Int} {n : Nat} {x : Str} {rr : Rg} {cs : List Cd} {g : Hd} {src0 : Src} {q : Pr} (S : SysB ns rs F A B) (I0 : Inv ns rs F A B [] g src0) (at_ : rs[n]? = some (.set x rr cs)) (on : onR g (.set x rr cs) = true)
    (hj : joinR (g x) rr = some q) {rem : List E2} (nd : rem.Nodup) (hr : ∀ e : E2, e ∈ rem ↔ e.1 = x ∧ evl g e ≠ some (endP q e.2)) :
    Inv ns rs F A B [] (putX g x q) (popS src0 rem) ∧ Tr rs (2 * ns.length + 1) n (.set x rr cs) g src0 (putX g x q) (popS src0 rem) := by
  have mem := List.mem_of_getElem? at_
  obtain ⟨q0, erq, hb⟩ := S.rg _ mem rr List.mem_cons_self
  subst erq
  have mx := S.nm _ mem x List.mem_cons_self
  have gv : giftR g (.set x (some q0) cs) = some q0 := by
    unfold giftR
    rw [if_pos on]
  have sl : Sub (g x) (some q) := by rw [← hj]; exact sub_join_l
  have sr : Sub (some q0) (some q) := by rw [← hj]; exact sub_join_r
  have hold : ∀ h, Hold rs h → Sub (some q0) (h x) := fun h hh => by
    have z := gift_mono (r := .set x (some q0) cs) rfl (I0.least h hh)
    rw [gv] at z
    exact z.trans (hh _ mem)
  have ch : ∀ e : E2, e ∈ rem → endP q e.2 = endP q0 e.2 := fun e m => by
    obtain ⟨ex, ne⟩ := (hr e).mp m
    cases eg : g x with
    | none =>
      rw [eg] at hj
      have : some q0 = some q := hj
      cases this
      rfl
    | some p0 =>
      rw [eg] at hj
      have ends := sub_join hj
      have : evl g e = some (endP p0 e.2) := by unfold evl; rw [ex, eg]; rfl
      have z := (enMax_ne (a := endP p0 e.2) (b := endP q0 e.2) (fun z => ne (by rw [this, ends, z]))).1
      rw [ends, z]
  refine ⟨?_, sub_putX sl, ?_, fun e h => ?_, fun e h => ?_⟩
  · cases eg : g x with
    | none =>
      rw [eg] at hj
      have hq : some q0 = some q := hj
      cases hq
      have hq : ∀ s i, endP q s = some i → i ≤ bI F A B (TI ns (cI ns (putX g x q)) + 0) ∧ -(bI F A B (cN ns (putX g x q))) ≤ i := fun s i hi => by
        have b := hb s i hi
        have p1 := S.mono (Nat.zero_le (TI ns (cI ns (putX g x q)) + 0))
        have p2 := S.mono (Nat.zero_le (cN ns (putX g x q)))
        have e0 : bI F A B 0 = B := rfl
        rw [e0] at p1 p2
        omega
      obtain ⟨inv, nos⟩ := I0.birth S (q := q) (K := 0) (D := []) mx eg (.inl ⟨rfl, rfl⟩) hq hold
      · have ps : popS src0 rem = src0 := pop_none fun e m => by
          obtain ⟨x', s⟩ := e
          have c' : x' = x := ((hr _).mp m).1
          rw [c']
          exact nos s
        rw [ps]
        exact inv
    | some p0 =>
      have ev : ∀ e : E2, e.1 = x → evl g e = some (endP p0 e.2) := fun e ex => by unfold evl; rw [ex, eg]; rfl
      rw [eg] at hj sl
      have ends := sub_join hj
      refine set_inv_ S (q := q0) (fun s i hi => (hb s i hi).2) rem (ga := putX g x q) (I0.pop S (D := rem)) nd (fun e m => ?_) fun e => ?_
      · obtain ⟨ex, ne⟩ := (hr e).mp m
        refine ⟨_, ev e ex, ?_, fun h hh => ?_⟩
        · rw [← ch e m]
          exact sl e.2
        · have z := hold h hh
          cases eh : h x with
          | none => rw [eh] at z; exact z.elim
          | some t =>
            rw [eh] at z
            exact ⟨endP t e.2, by unfold evl; rw [ex, eh]; rfl, z e.2⟩
      · by_cases c : e.1 = x
        · by_cases m : e ∈ rem
          · rw [if_pos m, ← ch e m]
            obtain ⟨x', s⟩ := e
            have c' : x' = x := c
            subst c'
            exact evl_putX
          · rw [if_neg m]
            have : evl g e = some (endP q e.2) := Classical.byContradiction fun z => m ((hr e).mpr ⟨c, z⟩)
            rw [this]
            obtain ⟨x', s⟩ := e
            have c' : x' = x := c
            subst c'
            exact evl_putX
        · rw [evl_putX_ne c, if_neg (fun m => c ((hr e).mp m).1)]
  · rw [gv]
    show Sub (some q0) (putX g x q x)
    unfold putX
    rw [if_pos rfl]
    exact sr
  · refine popS_out fun m => ?_
    obtain ⟨ex, ne⟩ := (hr e).mp m
    obtain ⟨x', s⟩ := e
    have c' : x' = x := ex
    subst c'
    rw [evl_putX] at h
    exact ne h.symm
  · have c : e.1 = x := Classical.byContradiction fun c => h (evl_putX_ne c)
    have ega : evl (putX g x q) e = some (endP q e.2) := by
      obtain ⟨x', s⟩ := e
      have c' : x' = x := c
      subst c'
      exact evl_putX
    have m : e ∈ rem := (hr e).mpr ⟨c, fun z => h (by rw [ega, z])⟩
    exact .inr (.inr ⟨c, q0, gv, by rw [ega, ch e m], fun x' y' f' a' rr' cs' er => by cases er⟩)

/-- the side's name -/
def sN (s : Bool) : Str := if s = true then "high" else "low"
def outw (s : Bool) (o : En) : En := if s = true then o else neg o




/-- a step with a range within, of moderate numbers -/
def StpOk : Rl → Prop
  | .stp _ _ f a (some w) _ => f.natAbs ≤ 100 ∧ a.natAbs < 2 ^ 300 ∧ ∀ s i, endP w s = some i → i.natAbs < 2 ^ 300
  | _ => False
def crsL : Bool → Crs → List Rl → Crs
  | s, c, .stp _ _ f a (some w) _ :: l => crsL (sideX s f) (c.step f a s (endP w s)) l
  | s, c, .stp _ _ _ _ none _ :: l => crsL s c l
  | s, c, .set _ _ _ :: l => crsL s c l
  | _, c, [] => c
def sideL : Bool → List Rl → Bool
  | s, .stp _ _ f _ (some _) _ :: l => sideL (sideX s f) l
  | s, .stp _ _ _ _ none _ :: l => sideL s l
  | s, .set _ _ _ :: l => sideL s l
  | s, [] => s
theorem crsL_snoc {x y : Str} {f a : Int} {w : Pr} {cs : List Cd} : ∀ (xs : List Rl) (s : Bool) (c : Crs), crsL s c (xs ++ [.stp x y f a (some w) cs]) = (crsL s c xs).step f a (sideL s xs) (endP w (sideL s xs)) ∧ sideL s (xs ++ [.stp x y f a (some w) cs]) = sideX (sideL s xs) f
  | [], s, c => ⟨rfl, rfl⟩
  | .stp _ _ f1 a1 (some w1) _ :: xs, s, c => crsL_snoc xs (sideX s f1) (c.step f1 a1 s (endP w1 s))
  | .stp _ _ _ _ none _ :: xs, s, c => crsL_snoc xs s c
  | .set _ _ _ :: xs, s, c => crsL_snoc xs s c
def rsAt (rs : List Rl) (ns : List Nat) : List Rl := ns.filterMap fun n => rs[n]?
/-- the round that is gone forward is the way back -/
theorem crs_way {rs : List Rl} {h : Hd} : ∀ {e t : E2} {l : List (Nat × E2)}, Walk rs h e l t → crsL t.2 Crs.one (rsAt rs (l.map (·.1)).reverse) = wayC rs l ∧ sideL t.2 (rsAt rs (l.map (·.1)).reverse) = e.2
  | _, _, _, .nil _ => ⟨rfl, rfl⟩
  | e, t, (_ :: l), .cons (e' := e') (n := n) (f := f) (a := a) (w := w) (cs := cs) st es on wk => by
    obtain ⟨h1, h2⟩ := crs_way wk
    have ap : rsAt rs (((n, e') :: l).map (·.1)).reverse = rsAt rs (l.map (·.1)).reverse ++ [.stp e.1 e'.1 f a (some w) cs] := by
      rw [List.map_cons, List.reverse_cons]
      unfold rsAt
      rw [List.filterMap_append]
      congr 1
      show List.filterMap (fun n => rs[n]?) [n] = _
      rw [List.filterMap_cons_some (f := fun n => rs[n]?) st.at_]
      rfl
    obtain ⟨k1, k2⟩ := crsL_snoc (x := e.1) (y := e'.1) (f := f) (a := a) (w := w) (cs := cs) (rsAt rs (l.map (·.1)).reverse) t.2 Crs.one
    rw [ap, k1, k2, h1, h2, wayC_cons st]
    exact ⟨rfl, es.symm⟩
structure CB (k : Nat) (c : Crs) : Prop where
  f : c.f.natAbs < 2 ^ (7 * k + 1)
  a : c.a.natAbs < 2 ^ (300 + 8 * k)
  m : ∀ i, c.m = some i → i.natAbs < 2 ^ (300 + 8 * k)
theorem mul_bits {x y : Int} {a b : Nat} (hx : x.natAbs ≤ 100) (hy : y.natAbs < 2 ^ b) : (x * y).natAbs < 2 ^ (b + 7) := by
  rw [Int.natAbs_mul, Nat.pow_add]
  have h1 : x.natAbs * y.natAbs ≤ 100 * y.natAbs := Nat.mul_le_mul_right _ hx
  have h2 : 0 < 2 ^ b := Nat.pow_pos (by decide)
  have h3 : (2 : Nat) ^ 7 = 128 := by decide
  rw [h3]
  omega
theorem add_bits {x y : Int} {b : Nat} (hx : x.natAbs < 2 ^ b) (hy : y.natAbs < 2 ^ b) : (x + y).natAbs < 2 ^ (b + 1) := by
  have := Int.natAbs_add_le x y
  rw [Nat.pow_succ]
  omega
theorem up_bits {x : Int} {a b : Nat} (hx : x.natAbs < 2 ^ a) (h : a ≤ b) : x.natAbs < 2 ^ b := Nat.lt_of_lt_of_le hx (Nat.pow_le_pow_right (by decide) h)
theorem CB.step {k : Nat} {c : Crs} {f a : Int} {s : Bool} {stop : En} (h : CB k c) (hf : f.natAbs ≤ 100) (ha : a.natAbs < 2 ^ 300) (hs : ∀ i, stop = some i → i.natAbs < 2 ^ 300) : CB (k + 1) (c.step f a s stop) := by
  have hf' : ((f.natAbs : Int)).natAbs ≤ 100 := by omega
  have ha' : (if sideX s f = true then a else -a).natAbs < 2 ^ 300 := by split <;> omega
  have one : ∀ x : Int, x.natAbs < 2 ^ (300 + 8 * k) → ((f.natAbs : Int) * x + (if sideX s f = true then a else -a)).natAbs < 2 ^ (300 + 8 * (k + 1)) := fun x hx =>
    up_bits (add_bits (mul_bits (a := 0) hf' hx) (up_bits ha' (by omega))) (by omega)
  refine ⟨up_bits (mul_bits (a := 0) hf' h.f) (by omega), one _ h.a, fun i hi => ?_⟩
  have hi' : (enMin stop c.m).map (fun v => (f.natAbs : Int) * v + (if sideX s f = true then a else -a)) = some i := hi
  cases em : enMin stop c.m with
  | none => rw [em] at hi'; cases hi'
  | some v =>
    rw [em] at hi'
    have e : (f.natAbs : Int) * v + (if sideX s f = true then a else -a) = i := Option.some.inj hi'
    rw [← e]
    refine one v ?_
    cases stop with
    | none => exact h.m v em
    | some t =>
      have ht := up_bits (hs t rfl) (show 300 ≤ 300 + 8 * k by omega)
      cases ec : c.m with
      | none =>
        rw [ec] at em
        cases em
        exact ht
      | some w =>
        rw [ec] at em
        have em' : (if w < t then w else t) = v := Option.some.inj em
        have hw := h.m w ec
        split at em' <;> (rw [← em']; assumption)

/-- a growing end, so many times -/
structure GOk (c : Crs) : Prop where
  f1 : 1 ≤ c.f
  f : c.f.natAbs < 2 ^ 400
  a8 : c.a.natAbs < 2 ^ 8000
  m : ∀ i, c.m = some i → i.natAbs < 2 ^ 30000
theorem GOk.a {c : Crs} (h : GOk c) : c.a.natAbs < 2 ^ 30000 := up_bits h.a8 (by decide)
theorem mulb {x y : Int} {a b : Nat} (hx : x.natAbs < 2 ^ a) (hy : y.natAbs < 2 ^ b) : (x * y).natAbs < 2 ^ (a + b) := by
  rw [Int.natAbs_mul, Nat.pow_add]
  exact Nat.mul_lt_mul'' hx hy
theorem addb {x y : Int} {a b c : Nat} (hx : x.natAbs < 2 ^ a) (hy : y.natAbs < 2 ^ b) (h1 : a + 1 ≤ c) (h2 : b + 1 ≤ c) : (x + y).natAbs < 2 ^ c := by
  have := add_bits (up_bits hx (show a ≤ c - 1 by omega)) (up_bits hy (show b ≤ c - 1 by omega))
  rw [show c - 1 + 1 = c by omega] at this
  exact this
/-- what is left of going on -/
def unst (c : Crs) (e : Int) : Nat → Int
  | 0 => e
  | k + 1 => c.f * unst c e k + c.a
theorem unst_one {c : Crs} {e : Int} (h : c.f = 1) : ∀ k : Nat, unst c e k = e + (k : Int) * c.a
  | 0 => by
    show e = _
    simp
  | k + 1 => by
    show c.f * unst c e k + c.a = _
    rw [unst_one h k, h, Int.one_mul]
    rw [show ((k + 1 : Nat) : Int) = (k : Int) + 1 from rfl, Int.add_mul, Int.one_mul]
    omega

theorem unst_add {c : Crs} {e : Int} {i : Nat} : ∀ j : Nat, unst c (unst c e i) j = unst c e (i + j)
  | 0 => rfl
  | j + 1 => by
    show c.f * unst c (unst c e i) j + c.a = c.f * unst c e (i + j) + c.a
    rw [unst_add j]
/-- what multiplies grows fast -/
theorem unst_fast {c : Crs} {e : Int} (f2 : 2 ≤ c.f) (g : e < c.f * e + c.a) : ∀ k : Nat, (2 : Int) ^ k ≤ unst c e (k + 1) - unst c e k ∧ (2 : Int) ^ k ≤ unst c e k - e + 1
  | 0 => by
    show (1 : Int) ≤ c.f * e + c.a - e ∧ (1 : Int) ≤ e - e + 1
    omega
  | k + 1 => by
    obtain ⟨h1, h2⟩ := unst_fast f2 g k
    have e2 : unst c e (k + 1 + 1) = c.f * unst c e (k + 1) + c.a := rfl
    have e1 : unst c e (k + 1) = c.f * unst c e k + c.a := rfl
    have p : (2 : Int) ^ (k + 1) = 2 * 2 ^ k := by rw [Int.pow_succ, Int.mul_comm]
    have pos : (0 : Int) < 2 ^ k := Int.pow_pos (by decide)
    have m := Int.mul_le_mul f2 h1 (by omega) (by omega)
    rw [Int.mul_sub] at m
    rw [p]
    constructor <;> omega
theorem unst_gt {c : Crs} {e : Int} (f1 : 1 ≤ c.f) (g : e < c.f * e + c.a) : ∀ k : Nat, e < unst c e (k + 1)
  | 0 => g
  | k + 1 => by
    have ih := unst_gt f1 g k
    show e < c.f * unst c e (k + 1) + c.a
    have h1 := Int.mul_le_mul_of_nonneg_left (Int.le_of_lt ih) (show (0 : Int) ≤ c.f by omega)
    omega


/-- bounds of at most m bits -/
def BdN (m : Nat) : Rg → Prop
  | none => True
  | some (l, u) => (∀ i, l = some i → i.natAbs < 2 ^ m) ∧ (∀ i, u = some i → i.natAbs < 2 ^ m)
theorem pow_up {i : Int} {m m' : Nat} (h : i.natAbs < 2 ^ m) (l : m ≤ m') : i.natAbs < 2 ^ m' := Nat.lt_of_lt_of_le h (Nat.pow_le_pow_right (by decide) l)
theorem BdN.mono {m m' : Nat} {r : Rg} (h : BdN m r) (l : m ≤ m') : BdN m' r := by
  match r, h with
  | none, _ => trivial
  | some (a, b), h => exact ⟨fun i e => pow_up (h.1 i e) l, fun i e => pow_up (h.2 i e) l⟩
theorem BdN.sz {m : Nat} {r : Rg} (h : BdN m r) (l : m ≤ 30000) : SzR r := by
  match r, h with
  | none, _ => trivial
  | some (a, b), h => exact ⟨fun i e => pow_up (h.1 i e) l, fun i e => pow_up (h.2 i e) l⟩
theorem RgB.bd {r : Rg} (h : RgB r) : BdN 300 r := by
  obtain ⟨_, l, u, rfl, a, b⟩ := h
  exact ⟨a, b⟩
theorem BdN.join {m : Nat} {a b : Rg} (sa : BdN m a) (sb : BdN m b) : BdN m (joinR a b) := by
  match a, b, sa, sb with
  | none, _, _, sb => exact sb
  | some (l, u), none, sa, _ => exact sa
  | some (l1, u1), some (l2, u2), sa, sb =>
    refine ⟨fun i e => ?_, fun i e => ?_⟩
    · cases l1 with
      | none => cases e
      | some a =>
        cases l2 with
        | none => cases e
        | some c =>
          have e' : (if c < a then c else a) = i := Option.some.inj e
          split at e'
          · exact e' ▸ sb.1 c rfl
          · exact e' ▸ sa.1 a rfl
    · cases u1 with
      | none => cases e
      | some a =>
        cases u2 with
        | none => cases e
        | some c =>
          have e' : (if c > a then c else a) = i := Option.some.inj e
          split at e'
          · exact e' ▸ sb.2 c rfl
          · exact e' ▸ sa.2 a rfl
theorem BdN.com {m : Nat} {a b : Rg} (sa : BdN m a) (sb : BdN m b) : BdN m (comR a b) := by
  match a, b, sa, sb with
  | none, _, _, _ => trivial
  | some _, none, _, _ => trivial
  | some (l1, u1), some (l2, u2), sa, sb =>
    show BdN m (if up (some (gr l1 l2, le2 u1 u2)) = true then none else some (gr l1 l2, le2 u1 u2))
    split
    · trivial
    · refine ⟨fun i e => ?_, fun i e => ?_⟩
      · cases l1 with
        | none => exact sb.1 i e
        | some a =>
          cases l2 with
          | none => exact sa.1 i e
          | some c =>
            have e' : (if c > a then c else a) = i := Option.some.inj e
            split at e'
            · exact e' ▸ sb.1 c rfl
            · exact e' ▸ sa.1 a rfl
      · cases u1 with
        | none => exact sb.2 i e
        | some a =>
          cases u2 with
          | none => exact sa.2 i e
          | some c =>
            have e' : (if c < a then c else a) = i := Option.some.inj e
            split at e'
            · exact e' ▸ sb.2 c rfl
            · exact e' ▸ sa.2 a rfl
theorem BdN.step {m : Nat} {fa ad : Int} {r : Rg} (hf : fa.natAbs ≤ 100) (ha : ad.natAbs < 2 ^ 300) (hm : 300 ≤ m) (h : BdN m r) : BdN (m + 8) (stepR fa ad r) := by
  have one : ∀ (o : Option Int), (∀ i, o = some i → i.natAbs < 2 ^ m) → ∀ i, tk fa ad o = some i → i.natAbs < 2 ^ (m + 8) := fun o ho i e => by
    cases o with
    | none => cases e
    | some x =>
      have e' : fa * x + ad = i := Option.some.inj e
      have hx := ho x rfl
      have ha' : ad.natAbs < 2 ^ m := pow_up ha hm
      have h1 : (fa * x).natAbs ≤ 100 * x.natAbs := by
        rw [Int.natAbs_mul]
        exact Nat.mul_le_mul_right _ hf
      have h2 : (2 : Nat) ^ (m + 8) = 2 ^ m * 256 := by rw [Nat.pow_add]
      rw [← e', h2]
      generalize (2 : Nat) ^ m = B at *
      generalize fa * x = y at *
      omega
  match r, h with
  | none, _ => trivial
  | some (l, u), h =>
    show BdN (m + 8) (if fa > 0 then some (tk fa ad l, tk fa ad u) else some (tk fa ad u, tk fa ad l))
    split
    · exact ⟨one l h.1, one u h.2⟩
    · exact ⟨one u h.2, one l h.1⟩
theorem BdN.gift {m : Nat} {ws : List Str} {f : Hd} {r : Rl} (hr : RlB ws r) (hm : 300 ≤ m) (h : ∀ x, BdN m (f x)) : BdN (m + 8) (giftR f r) := by
  unfold giftR
  split
  · cases r with
    | set x rr cs => exact (hr.rg rr List.mem_cons_self).bd.mono (by omega)
    | stp x y fa a rr cs =>
      have sb := hr.sb _ _ _ _ _ _ rfl
      exact BdN.step sb.1 sb.2 hm ((h y).com ((hr.rg rr List.mem_cons_self).bd.mono hm))
  · trivial

/-- what the top has written of the class Growth -/
structure GrT (K : PySem.W.Frag) (mg : Str → Option Value) (C : Addr) : Prop where
  ck : Ck K mg C "Growth"
  nA : NoAttr K C "ranges"
  nM : NoAttr K C "moves"
  nR : NoAttr K C "_rules"
  nS : NoAttr K C "_sources"
/-- a thing that may be changed stands at a, nothing else changes -/
def Mut : HO → Prop
  | .lst _ => True
  | .dK _ => True
  | .dT _ => True
  | _ => False
def Ch (a : Addr) (H H' : Hp) : Prop := (∃ o, H a = some o ∧ Mut o) ∧ Kp a H H'
theorem Ch.put {a : Addr} {H : Hp} {o o' : HO} (e : H a = some o) (m : Mut o) : Ch a H (upd H a o') := ⟨⟨o, e, m⟩, Kp.at⟩
theorem Ch.tup {a b : Addr} {H H' : Hp} {xs : List V} (k : Ch a H H') (h : H b = some (.tup xs)) : H' b = some (.tup xs) := by
  obtain ⟨⟨o, e, m⟩, kp⟩ := k
  exact kp _ _ (ne_of h e (fun z => by rw [← z] at m; exact m)) h
theorem Ch.ins {a b : Addr} {H H' : Hp} {C dx : Addr} {fs : List (Str × V)} (k : Ch a H H') (h : H b = some (.ins C dx fs)) : H' b = some (.ins C dx fs) := by
  obtain ⟨⟨o, e, m⟩, kp⟩ := k
  exact kp _ _ (ne_of h e (fun z => by rw [← z] at m; exact m)) h
theorem Ch.sqT {K : PySem.W.Frag} {a b : Addr} {H H' : Hp} {xs : List V} (k : Ch a H H') (h : SqT K H b xs) : SqT K H' b xs := by
  rcases h with (h | ⟨u, h⟩) | h
  · exact .inl (.inl (k.tup h))
  · obtain ⟨⟨o, e, m⟩, kp⟩ := k
    exact .inl (.inr ⟨u, kp _ _ (ne_of h e (fun z => by rw [← z] at m; exact m)) h⟩)
  · exact .inr h
theorem Ch.rg {K : PySem.W.Frag} {a : Addr} {H H' : Hp} {v : V} {r : Rg} (k : Ch a H H') (h : RgV K H v r) : RgV K H' v r := by
  match r, h with
  | none, h => exact h
  | some _, ⟨p, e, s⟩ => exact ⟨p, e, k.sqT s⟩
theorem nol_oD {o : Option Int} : NoL (oD o) := by cases o <;> constructor
theorem nol_rgD {r : Rg} : NoL (rgD r) := by
  match r with
  | none => exact .non
  | some (l, u) =>
    refine .tup fun x m => ?_
    simp only [List.mem_cons, List.not_mem_nil, or_false] at m
    rcases m with rfl | rfl <;> exact nol_oD
theorem nol_cs {cs : List Cd} : NoL (.tuple (cs.map cdD)) := .tup fun x m => by
  obtain ⟨c, _, rfl⟩ := List.mem_map.mp m
  exact .tup fun y my => by
    simp only [List.mem_cons, List.not_mem_nil, or_false] at my
    rcases my with rfl | rfl
    · exact .str _
    · exact nol_rgD
theorem nol_rl {r : Rl} : NoL r.d := by
  match r with
  | .set x rr cs =>
    refine .tup fun y m => ?_
    simp only [List.mem_cons, List.not_mem_nil, or_false] at m
    rcases m with rfl | rfl | rfl | rfl
    · exact .str _
    · exact .str _
    · exact nol_rgD
    · exact nol_cs
  | .stp x y f a rr cs =>
    refine .tup fun z m => ?_
    simp only [List.mem_cons, List.not_mem_nil, or_false] at m
    rcases m with rfl | rfl | rfl | rfl | rfl | rfl | rfl
    · exact .str _
    · exact .str _
    · exact .str _
    · exact .int _
    · exact .int _
    · exact nol_rgD
    · exact nol_cs
theorem Ch.rls {K : PySem.W.Frag} {a : Addr} {H H' : Hp} {xs : List V} {rs : List Rl} (k : Ch a H H') (h : DpAll K H xs (rs.map Rl.d)) : DpAll K H' xs (rs.map Rl.d) := dpa_kx (fun _ _ s => k.sqT s) h fun d m => by
  obtain ⟨r, _, rfl⟩ := List.mem_map.mp m
  exact nol_rl
/-! ### the dict of the sources -/
def keyE (e : E2) : List L2.Key := [.inr e.1, .inr (sN e.2)]
theorem sN_inj {a b : Bool} (h : sN a = sN b) : a = b := by
  cases a <;> cases b <;> first | rfl | exact absurd h (by decide +kernel)
theorem keyE_inj {a b : E2} (h : keyE a = keyE b) : a = b := by
  unfold keyE at h
  injection h with h1 h2
  injection h2 with h2 _
  injection h1 with h1
  injection h2 with h2
  exact Prod.ext h1 (sN_inj h2)
def SrcV (H : Hp) (kvs : List (List L2.Key × V)) (e : E2) : Option (Nat × E2) → Prop
  | none => valV kvs (keyE e) = none
  | some (n, e') => ∃ p q : Addr, valV kvs (keyE e) = some (V.ref p) ∧ H p = some (.tup [.int (n : Int), .ref q]) ∧ H q = some (.tup [.str e'.1, .str (sN e'.2)])
def SrcD (H : Hp) (so : Addr) (ns : List Str) (src : Src) : Prop := ∃ kvs : List (List L2.Key × V), H so = some (.dT kvs) ∧ (kvs.map (·.1)).Nodup ∧ (∀ k ∈ kvs.map (·.1), k ∈ (univ ns).map keyE) ∧ ∀ e, SrcV H kvs e (src e)
theorem SrcV.up {H H' : Hp} {kvs : List (List L2.Key × V)} {e : E2} {o : Option (Nat × E2)} (k : ∀ b xs, H b = some (.tup xs) → H' b = some (.tup xs)) (h : SrcV H kvs e o) : SrcV H' kvs e o := by
  match o, h with
  | none, h => exact h
  | some (n, e'), ⟨p, q, a, b, c⟩ => exact ⟨p, q, a, k _ _ b, k _ _ c⟩
theorem SrcD.same {H H' : Hp} {so : Addr} {ns : List Str} {src : Src} (k : Same H H') (h : SrcD H so ns src) : SrcD H' so ns src := by
  obtain ⟨kvs, a, b, c, d⟩ := h
  exact ⟨kvs, k _ _ a, b, c, fun e => (d e).up fun _ _ z => k _ _ z⟩
theorem SrcD.ch {H H' : Hp} {so a : Addr} {ns : List Str} {src : Src} (k : Ch a H H') (ne : so ≠ a) (h : SrcD H so ns src) : SrcD H' so ns src := by
  obtain ⟨kvs, x, b, c, d⟩ := h
  exact ⟨kvs, k.2 _ _ ne x, b, c, fun e => (d e).up fun _ _ z => k.tup z⟩
theorem SrcD.len {ns : List Str} {kvs : List (List L2.Key × V)} (b : (kvs.map (·.1)).Nodup) (c : ∀ k ∈ kvs.map (·.1), k ∈ (univ ns).map keyE) : kvs.length ≤ 2 * ns.length := by
  have z := nodup_le b c
  rw [List.length_map, List.length_map, len_univ] at z
  exact z
theorem SrcD.get {H : Hp} {so : Addr} {ns : List Str} {src : Src} (h : SrcD H so ns src) {b : Addr} {e : E2} (hb : H b = some (.tup [.str e.1, .str (sN e.2)])) : ∃ o, DGet H so (.ref b) o ∧ (match src e with
    | none => o = none
    | some (n, e') => ∃ p q : Addr, o = some (V.ref p) ∧ H p = some (.tup [.int (n : Int), .ref q]) ∧ H q = some (.tup [.str e'.1, .str (sN e'.2)])) := by
  obtain ⟨kvs, x, _, _, d⟩ := h
  have z := d e
  refine ⟨_, DGet.t (k := keyE e) x hb, ?_⟩
  cases es : src e with
  | none =>
    rw [es] at z
    exact z
  | some p =>
    obtain ⟨n, e'⟩ := p
    rw [es] at z
    exact z
theorem way_one {src : Src} : ∀ {e t t' : E2} {l l' : List (Nat × E2)}, Way src e l t → src t = none → Way src e l' t' → src t' = none → l = l' ∧ t = t'
  | _, _, _, _, _, .nil _, _, .nil _, _ => ⟨rfl, rfl⟩
  | _, _, _, _, _, .nil _, h, .cons s _, _ => by rw [h] at s; cases s
  | _, _, _, _, _, .cons s _, _, .nil _, h => by rw [h] at s; cases s
  | _, _, _, _, _, .cons s w, h, .cons s' w', h' => by
    rw [s] at s'
    cases s'
    obtain ⟨e1, e2⟩ := way_one w h w' h'
    exact ⟨by rw [e1], e2⟩
theorem Way.snoc {src : Src} {n : Nat} {u : E2} : ∀ {e t : E2} {l : List (Nat × E2)}, Way src e l t → src t = some (n, u) → Way src e (l ++ [(n, u)]) u
  | _, _, _, .nil _, h => .cons h (.nil _)
  | _, _, _, .cons s w, h => .cons s (w.snoc h)
theorem eqv_end {a b : E2} : PyData.eqv (.tuple [.str a.1, .str (sN a.2)]) (.tuple [.str b.1, .str (sN b.2)]) = decide (a = b) := by
  show ((a.1 == b.1) && ((sN a.2 == sN b.2) && true)) = decide (a = b)
  by_cases c : a = b
  · subst c
    simp
  · rw [decide_eq_false c]
    cases h1 : (a.1 == b.1) with
    | false => rfl
    | true =>
      cases h2 : (sN a.2 == sN b.2) with
      | false => rfl
      | true => exact absurd (Prod.ext (eq_of_beq h1) (sN_inj (eq_of_beq h2))) c
theorem ly_end {e : E2} (h : nameOk e.1 = true) : SeqAt.shaped (.tuple [.str e.1, .str (sN e.2)]) = true := (Ly.tuple (k := 1) (lyA_of fun d m => by
  simp only [List.mem_cons, List.not_mem_nil, or_false] at m
  rcases m with rfl | rfl
  · exact ly_str (strOk_of h)
  · exact ly_str (by cases e.2 <;> decide +kernel))).shaped
/-- the fields of a growth -/
structure GF (K : PySem.W.Frag) (CG : Addr) (H : Hp) (o ra ma ru so : Addr) : Prop where
  ne : ru ≠ ma
  ob : ∃ dx fs, H o = some (.ins CG dx fs) ∧ fs.lookup ("ranges" : Str) = some (V.ref ra) ∧ fs.lookup ("moves" : Str) = some (V.ref ma) ∧ fs.lookup ("_rules" : Str) = some (V.ref ru) ∧ fs.lookup ("_sources" : Str) = some (V.ref so) ∧ ∀ m : Str, m ≠ "ranges" → m ≠ "moves" → m ≠ "_rules" → m ≠ "_sources" → fs.lookup m = none
theorem GF.same {K : PySem.W.Frag} {CG : Addr} {H H' : Hp} {o ra ma ru so : Addr} (k : Same H H') (h : GF K CG H o ra ma ru so) : GF K CG H' o ra ma ru so := by
  obtain ⟨dx, fs, a, b⟩ := h.ob
  exact ⟨h.ne, dx, fs, k _ _ a, b⟩
theorem GF.ch {K : PySem.W.Frag} {CG a : Addr} {H H' : Hp} {o ra ma ru so : Addr} (k : Ch a H H') (h : GF K CG H o ra ma ru so) : GF K CG H' o ra ma ru so := by
  obtain ⟨dx, fs, x, b⟩ := h.ob
  exact ⟨h.ne, dx, fs, k.ins x, b⟩

theorem rsAt_get {rs : List Rl} : ∀ {ns : List Nat}, (∀ n ∈ ns, ∃ r, rs[n]? = some r ∧ StpOk r) → (rsAt rs ns).length = ns.length ∧ (∀ (i n : Nat), ns[i]? = some n → ∃ r, (rsAt rs ns)[i]? = some r ∧ rs[n]? = some r) ∧ ∀ r ∈ rsAt rs ns, StpOk r
  | [], _ => ⟨rfl, fun i n e => by simp at e, fun r m => by cases m⟩
  | n :: ns, h => by
    obtain ⟨r, e, ok⟩ := h n List.mem_cons_self
    obtain ⟨h1, h2, h3⟩ := rsAt_get (ns := ns) fun m mm => h m (List.mem_cons_of_mem _ mm)
    have ee : rsAt rs (n :: ns) = r :: rsAt rs ns := by
      show List.filterMap (fun n => rs[n]?) (n :: ns) = _
      rw [List.filterMap_cons_some (f := fun n => rs[n]?) e]
      rfl
    rw [ee]
    refine ⟨by rw [List.length_cons, h1, List.length_cons], fun i m em => ?_, fun r' m => ?_⟩
    · cases i with
      | zero =>
        have : n = m := by simpa using em
        subst this
        exact ⟨r, rfl, e⟩
      | succ i =>
        obtain ⟨r', a, b⟩ := h2 i m (by simpa using em)
        exact ⟨r', by simpa using a, b⟩
    · rcases List.mem_cons.mp m with rfl | m
      · exact ok
      · exact h3 r' m
theorem dpa_at {K : PySem.W.Frag} {H : Hp} {α : Type} {f : α → PyData} : ∀ {ys : List V} {cs : List α}, ys.length = cs.length → (∀ (i : Nat) y, ys[i]? = some y → ∃ c, cs[i]? = some c ∧ Dp K H y (f c)) → DpAll K H ys (cs.map f)
  | [], [], _, _ => .nil
  | [], _ :: _, l, _ => by cases l
  | _ :: _, [], l, _ => by cases l
  | y :: ys, c :: cs, l, h => by
    obtain ⟨c', e, d⟩ := h 0 y rfl
    have : c = c' := by simpa using e
    subst this
    exact .cons d (dpa_at (by simpa using l) fun i y ey => h (i + 1) y (by simpa using ey))

theorem set_putX {g : Hd} {e : E2} {p : Pr} {v : En} (h : g e.1 = some p) : setE g e v = putX g e.1 (setP p e.2 v) := by
  funext y
  unfold setE putX
  by_cases c : y = e.1
  · rw [if_pos c, if_pos c, c, h]
    rfl
  · rw [if_neg c, if_neg c]
theorem putX_same {g : Hd} {x : Str} {q : Pr} (h : g x = some q) : putX g x q = g := by
  funext y
  unfold putX
  by_cases c : y = x
  · rw [if_pos c, c, h]
  · rw [if_neg c]
theorem setE_same {g : Hd} {e : E2} {v : En} (h : evl g e = some v) : setE g e v = g := by
  unfold evl at h
  cases eg : g e.1 with
  | none => rw [eg] at h; cases h
  | some p =>
    rw [eg] at h
    have h' : endP p e.2 = v := Option.some.inj h
    rw [set_putX eg]
    refine putX_same ?_
    rw [eg]
    congr 1
    exact endP_ext fun s => by
      rw [endP_setP]
      by_cases c : s = e.2
      · rw [if_pos c, c, h']
      · rw [if_neg c]
theorem grow_mono {c : Crs} {v x : Int} (f1 : 1 ≤ c.f) (g : v < c.f * v + c.a) (h : v ≤ x) : x < c.f * x + c.a := by
  have h1 := Int.mul_le_mul_of_nonneg_left h (show (0 : Int) ≤ c.f - 1 by omega)
  rw [Int.sub_mul, Int.sub_mul, Int.one_mul, Int.one_mul] at h1
  omega
theorem unst_ge {c : Crs} {e : Int} (f1 : 1 ≤ c.f) (g : e < c.f * e + c.a) {t : Nat} (h : 1 ≤ t) : e < unst c e t := by
  obtain ⟨k, rfl⟩ : ∃ k, t = k + 1 := ⟨t - 1, by omega⟩
  exact unst_gt f1 g k
/-- how a growth stands -/
structure GAt (K : PySem.W.Frag) (CG : Addr) (H : Hp) (o ra ma ru so : Addr) (ns : List Str) (rs : List Rl) (g : Hd) (src : Src) (m : Nat) : Prop where
  gf : GF K CG H o ra ma ru so
  rg : ∃ u, DF H ra ns u ∧ ∀ x ∈ ns, RgV K H (u x) (g x)
  mv : ∃ ms, H ma = some (.lst ms) ∧ ms.length = m
  rl : ∃ xs, H ru = some (.lst xs) ∧ DpAll K H xs (rs.map Rl.d)
  sd : SrcD H so ns src
theorem GAt.same {K : PySem.W.Frag} {CG : Addr} {H H' : Hp} {o ra ma ru so : Addr} {ns : List Str} {rs : List Rl} {g : Hd} {src : Src} {m : Nat} (k : Same H H') (h : GAt K CG H o ra ma ru so ns rs g src m) : GAt K CG H' o ra ma ru so ns rs g src m := by
  obtain ⟨u, a, b⟩ := h.rg
  obtain ⟨ms, c, d⟩ := h.mv
  obtain ⟨xs, e, f⟩ := h.rl
  exact ⟨h.gf.same k, ⟨u, a.same k, fun x m => (b x m).same k⟩, ⟨ms, k _ _ c, d⟩, ⟨xs, k _ _ e, dpa_same k f⟩, h.sd.same k⟩
/-- all but the ranges, the moves and the sources stays -/
def Fr (ra ma so : Addr) (H H' : Hp) : Prop := ∀ b z, b ≠ ra → b ≠ ma → b ≠ so → H b = some z → H' b = some z
theorem Fr.of {ra ma so : Addr} {H H' : Hp} (k : Same H H') : Fr ra ma so H H' := fun b z _ _ _ h => k _ _ h
theorem Fr.trans {ra ma so : Addr} {H H1 H2 : Hp} (x : Fr ra ma so H H1) (y : Fr ra ma so H1 H2) : Fr ra ma so H H2 := fun b z n1 n2 n3 h => y b z n1 n2 n3 (x b z n1 n2 n3 h)
/-- the places of a growth stand apart -/
theorem GAt.ne {K : PySem.W.Frag} {CG : Addr} {H : Hp} {o ra ma ru so : Addr} {ns : List Str} {rs : List Rl} {g : Hd} {src : Src} {m : Nat} (h : GAt K CG H o ra ma ru so ns rs g src m) :
    ra ≠ ma ∧ so ≠ ra ∧ so ≠ ma ∧ o ≠ ra ∧ o ≠ ma ∧ o ≠ so ∧ ru ≠ ra ∧ ru ≠ so := by
  obtain ⟨u, a, b⟩ := h.rg
  obtain ⟨ms, c, d⟩ := h.mv
  obtain ⟨xs, e, f⟩ := h.rl
  obtain ⟨kvs, sk, _⟩ := h.sd
  obtain ⟨dx, fs, f1, _⟩ := h.gf.ob
  have a' : H ra = some (.dK (fK ns u)) := a
  refine ⟨ne_of a' c ?_, ne_of sk a' ?_, ne_of sk c ?_, ne_of f1 a' ?_, ne_of f1 c ?_, ne_of f1 sk ?_, ne_of e a' ?_, ne_of e sk ?_⟩ <;> exact fun z => by cases z
/-- the dict of the sources gets an entry -/
theorem SrcD.put {H : Hp} {so : Addr} {ns : List Str} {src : Src} (h : SrcD H so ns src) {b p q : Addr} {e e' : E2} {n : Nat} (se : src e = none) (me : e.1 ∈ ns) (ln : ns.length ≤ 1000) (hb : H b = some (.tup [.str e.1, .str (sN e.2)])) (hp : H p = some (.tup [.int (n : Int), .ref q])) (hq : H q = some (.tup [.str e'.1, .str (sN e'.2)])) :
    ∃ H', DPut H so (.ref b) (.ref p) H' ∧ Ch so H H' ∧ SrcD H' so ns (putS src e (some (n, e'))) := by
  obtain ⟨kvs, x, nd, un, d⟩ := h
  have no : valV kvs (keyE e) = none := by
    have := d e
    rw [se] at this
    exact this
  have len := SrcD.len nd un
  have ch : Ch so H (upd H so (.dT (putK kvs (keyE e) (V.ref p)))) := Ch.put x trivial
  refine ⟨_, DPut.t (k := keyE e) x hb (Nat.lt_of_le_of_lt (by omega : _ ≤ 2000) (by decide)), ch, putK kvs (keyE e) (V.ref p), upd_same, ?_, ?_, fun a => ?_⟩
  · rw [putK_new _ no, List.map_append, List.nodup_append]
    refine ⟨nd, by simp, fun k mk k2 mk2 e2 => ?_⟩
    have : k2 = keyE e := by simpa using mk2
    rw [this] at e2
    obtain ⟨kv, mkv, ekv⟩ := List.mem_map.mp mk
    have z := valV_any (keyE e) kvs
    rw [no] at z
    have z' := List.any_eq_false.mp (show kvs.any (fun kv => decide (kv.1 = keyE e)) = false from z) kv mkv
    exact z' (decide_eq_true (ekv.trans e2))
  · intro k mk
    rw [putK_new _ no, List.map_append] at mk
    rcases List.mem_append.mp mk with mk | mk
    · exact un k mk
    · have : k = keyE e := by simpa using mk
      rw [this]
      exact List.mem_map.mpr ⟨e, mem_univ.mpr me, rfl⟩
  · by_cases c : a = e
    · subst c
      rw [putS_same]
      refine ⟨p, q, ?_, ch.tup hp, ch.tup hq⟩
      rw [valV_put, if_pos rfl]
    · rw [putS_ne c]
      have z := (d a).up (fun b xs hx => ch.tup hx)
      have ne : keyE a ≠ keyE e := fun w => c (keyE_inj w)
      cases sa : src a with
      | none =>
        rw [sa] at z
        show valV _ _ = none
        rw [valV_put, if_neg ne]
        exact z
      | some v =>
        obtain ⟨m, w⟩ := v
        rw [sa] at z
        obtain ⟨p2, q2, z1, z2, z3⟩ := z
        refine ⟨p2, q2, ?_, z2, z3⟩
        rw [valV_put, if_neg ne]
        exact z1
/-- an entry is dropped -/
theorem valV_drop {κ : Type} [DecidableEq κ] {kvs : List (κ × V)} {k j : κ} : valV (dropK kvs k) j = if j = k then none else valV kvs j := by
  unfold dropK
  induction kvs with
  | nil => show none = _; split <;> rfl
  | cons x kvs ih =>
    by_cases c : x.1 = k
    · rw [List.filter_cons_of_neg (by rw [decide_eq_true_eq]; exact fun z => z c), ih]
      by_cases d : j = k
      · rw [if_pos d, if_pos d]
      · rw [if_neg d, if_neg d, valV_neg (fun z => d (z.symm.trans c))]
    · rw [List.filter_cons_of_pos (by rw [decide_eq_true_eq]; exact c)]
      by_cases d : x.1 = j
      · rw [valV_pos d, valV_pos d, if_neg (fun z => c (d.trans z))]
      · rw [valV_neg d, valV_neg d, ih]
theorem SrcD.drop {H : Hp} {so : Addr} {ns : List Str} {src : Src} (h : SrcD H so ns src) (e : E2) : ∃ kvs, H so = some (.dT kvs) ∧ (valV kvs (keyE e) = none ↔ src e = none) ∧ Ch so H (upd H so (.dT (dropK kvs (keyE e)))) ∧ SrcD (upd H so (.dT (dropK kvs (keyE e)))) so ns (putS src e none) := by
  obtain ⟨kvs, x, nd, un, d⟩ := h
  have ch : Ch so H (upd H so (.dT (dropK kvs (keyE e)))) := Ch.put x trivial
  refine ⟨kvs, x, ?_, ch, dropK kvs (keyE e), upd_same, ?_, fun k mk => ?_, fun a => ?_⟩
  · have z := d e
    cases se : src e with
    | none =>
      rw [se] at z
      exact ⟨fun _ => rfl, fun _ => z⟩
    | some v =>
      obtain ⟨m, w⟩ := v
      rw [se] at z
      obtain ⟨p2, q2, z1, _⟩ := z
      exact ⟨fun w => (by rw [z1] at w; cases w), fun w => (by cases w)⟩
  · unfold dropK
    exact nd.sublist (List.Sublist.map _ (List.filter_sublist))
  · refine un k ?_
    unfold dropK at mk
    obtain ⟨kv, m1, m2⟩ := List.mem_map.mp mk
    exact List.mem_map.mpr ⟨kv, (List.mem_filter.mp m1).1, m2⟩
  · by_cases c : a = e
    · subst c
      rw [putS_same]
      show valV _ _ = none
      rw [valV_drop, if_pos rfl]
    · rw [putS_ne c]
      have z := (d a).up (fun b xs hx => ch.tup hx)
      have ne : keyE a ≠ keyE e := fun w => c (keyE_inj w)
      cases sa : src a with
      | none =>
        rw [sa] at z
        show valV _ _ = none
        rw [valV_drop, if_neg ne]
        exact z
      | some v =>
        obtain ⟨m, w⟩ := v
        rw [sa] at z
        obtain ⟨p2, q2, z1, z2, z3⟩ := z
        refine ⟨p2, q2, ?_, z2, z3⟩
        rw [valV_drop, if_neg ne]
        exact z1
theorem GAt.src {K : PySem.W.Frag} {CG : Addr} {H H' : Hp} {o ra ma ru so : Addr} {ns : List Str} {rs : List Rl} {g : Hd} {src src' : Src} {m : Nat} (h : GAt K CG H o ra ma ru so ns rs g src m) (k : Ch so H H') (d : SrcD H' so ns src') : GAt K CG H' o ra ma ru so ns rs g src' m := by
  obtain ⟨n1, n2, n3, n4, n5, n6, n7, n8⟩ := h.ne
  obtain ⟨u, a, b⟩ := h.rg
  obtain ⟨ms, c, e⟩ := h.mv
  obtain ⟨xs, x, f⟩ := h.rl
  exact ⟨h.gf.ch k, ⟨u, k.2 _ _ n2.symm a, fun y m => k.rg (b y m)⟩, ⟨ms, k.2 _ _ n3.symm c, e⟩, ⟨xs, k.2 _ _ n8 x, k.rls f⟩, d⟩
theorem GAt.go {K : PySem.W.Frag} {CG : Addr} {H H' : Hp} {o ra ma ru so : Addr} {ns : List Str} {rs : List Rl} {g g' : Hd} {src : Src} {m : Nat} (h : GAt K CG H o ra ma ru so ns rs g src m) (fr : ∀ b z, b ≠ ra → b ≠ ma → H b = some z → H' b = some z)
    {u : Str → V} (df : DF H' ra ns u) (rg : ∀ x ∈ ns, RgV K H' (u x) (g' x)) {ms : List V} (hm : H' ma = some (.lst ms)) : GAt K CG H' o ra ma ru so ns rs g' src ms.length := by
  obtain ⟨n1, n2, n3, n4, n5, n6, n7, n8⟩ := h.ne
  obtain ⟨u0, a, b⟩ := h.rg
  obtain ⟨ms0, c, e⟩ := h.mv
  obtain ⟨xs, x, f⟩ := h.rl
  obtain ⟨dx, fs, f1, f2⟩ := h.gf.ob
  have a' : H ra = some (.dK (fK ns u0)) := a
  have tu : ∀ b xs, H b = some (.tup xs) → H' b = some (.tup xs) := fun b xs h => fr _ _ (ne_of h a' (fun z => by cases z)) (ne_of h c (fun z => by cases z)) h
  have tq : ∀ b xs, SqT K H b xs → SqT K H' b xs := fun b xs h => by
    rcases h with (h | ⟨w, h⟩) | h
    · exact .inl (.inl (tu _ _ h))
    · exact .inl (.inr ⟨w, fr _ _ (ne_of h a' (fun z => by cases z)) (ne_of h c (fun z => by cases z)) h⟩)
    · exact .inr h
  obtain ⟨kvs, s1, s2, s3, s4⟩ := h.sd
  exact ⟨⟨h.gf.ne, dx, fs, fr _ _ n4 n5 f1, f2⟩, ⟨u, df, rg⟩, ⟨ms, hm, rfl⟩, ⟨xs, fr _ _ n7 h.gf.ne x, dpa_kx tq f fun d md => by
    obtain ⟨r, _, rfl⟩ := List.mem_map.mp md
    exact nol_rl⟩, kvs, fr _ _ n2 n3 s1, s2, s3, fun e => (s4 e).up tu⟩
/-! ### systems of moderate size -/
def FitF (g : Hd) : Prop := ∀ x, RgFit (g x)
theorem fit_up {r : Rg} : RgFit r ↔ up r = false := by
  constructor
  · exact up_ok
  · intro h
    match r, h with
    | none, _ => trivial
    | some (none, _), _ => trivial
    | some (some _, none), _ => trivial
    | some (some l, some u), h =>
      have h' : decide (l > u) = false := h
      have := of_decide_eq_false h'
      show l ≤ u
      omega
theorem fit_sub {a b : Rg} (h : Sub a b) (fa : RgFit a) (na : a ≠ none) : RgFit b := by
  match a, b, h, fa, na with
  | none, _, _, _, na => exact absurd rfl na
  | some p, none, h, _, _ => exact h.elim
  | some p, some q, h, fa, _ =>
    rw [fit_up] at fa ⊢
    cases c : up (some q) with
    | false => rfl
    | true =>
      rw [up_mono h c] at fa
      cases fa
theorem step_fit {f a : Int} {r : Rg} (h : RgFit r) : RgFit (stepR f a r) := by
  match r, h with
  | none, _ => trivial
  | some (none, u), _ =>
    show RgFit (if f > 0 then some (none, tk f a u) else some (tk f a u, none))
    cases u <;> split <;> trivial
  | some (some l, none), _ =>
    show RgFit (if f > 0 then some (tk f a (some l), none) else some (none, tk f a (some l)))
    split <;> trivial
  | some (some l, some u), h =>
    have h' : l ≤ u := h
    show RgFit (if f > 0 then some (tk f a (some l), tk f a (some u)) else some (tk f a (some u), tk f a (some l)))
    by_cases c : f > 0
    · rw [if_pos c]
      show f * l + a ≤ f * u + a
      have := Int.mul_le_mul_of_nonneg_left h' (show 0 ≤ f by omega)
      omega
    · rw [if_neg c]
      show f * u + a ≤ f * l + a
      have := Int.mul_le_mul_of_nonpos_left (show f ≤ 0 by omega) h'
      omega
theorem gift_fit {ns : List Str} {g : Hd} {r : Rl} (h : RlB ns r) : RgFit (giftR g r) := by
  unfold giftR
  split
  · match r, h with
    | .set x rr cs, h => exact (h.rg rr List.mem_cons_self).1
    | .stp x y f a rr cs, h => exact step_fit comR_fit
  · trivial
theorem fit_next {g g' : Hd} {x : Str} {q0 : Rg} (F : FitF g) (s : SubF g g') (oth : ∀ e, e.1 ≠ x → evl g' e = evl g e) (fq : RgFit q0) (nq : q0 ≠ none) (sq : Sub q0 (g' x)) : FitF g' := fun y => by
  by_cases c : y = x
  · rw [c]
    exact fit_sub sq fq nq
  · cases eg : g y with
    | some p =>
      have z := s y
      rw [eg] at z
      have fp := F y
      rw [eg] at fp
      exact fit_sub z fp (fun w => by cases w)
    | none =>
      have z := oth (y, true) c
      unfold evl at z
      rw [show g (y, true).1 = none from eg] at z
      cases eh : g' y with
      | none => trivial
      | some p =>
        rw [show g' (y, true).1 = some p from eh] at z
        cases z
/-- a system of moderate size and numbers -/
structure Sy (ns : List Str) (rs : List Rl) : Prop where
  nd : ns.Nodup
  nok : ∀ x ∈ ns, nameOk x = true
  ln : ns.length ≤ 6
  lr : rs.length ≤ 13
  rl : ∀ r ∈ rs, RlB ns r
theorem abs_le_pow {i : Int} {k : Nat} (h : i.natAbs < 2 ^ k) : -(2 : Int) ^ k ≤ i ∧ i ≤ (2 : Int) ^ k := by
  have e : (2 : Int) ^ k = ((2 ^ k : Nat) : Int) := (Int.natCast_pow 2 k).symm
  rw [e]
  generalize (2 : Nat) ^ k = a at h
  omega
theorem szB_end {l u : Option Int} (hl : SzB l) (hu : SzB u) (s : Bool) (i : Int) (h : endP (l, u) s = some i) : i.natAbs < 2 ^ 300 := by
  cases s with
  | true => exact hu i h
  | false =>
    cases l with
    | none => cases h
    | some l =>
      have h' : -l = i := Option.some.inj h
      rw [← h', Int.natAbs_neg]
      exact hl l rfl
theorem Sy.sysB {ns : List Str} {rs : List Rl} (S : Sy ns rs) : SysB ns rs 100 (2 ^ 300) (2 ^ 300) := by
  have p : (0 : Int) ≤ 2 ^ 300 := Int.le_of_lt (Int.pow_pos (by decide))
  refine ⟨by decide, p, p, fun r m => (S.rl r m).nm, fun r m => (S.rl r m).nz, fun r m g mg => ?_, fun x y f a g cs m => ?_⟩
  · obtain ⟨_, l, u, rfl, hl, hu⟩ := (S.rl r m).rg g mg
    exact ⟨(l, u), rfl, fun s i h => abs_le_pow (szB_end hl hu s i h)⟩
  · obtain ⟨h1, h2⟩ := (S.rl _ m).sb _ _ _ _ _ _ rfl
    obtain ⟨h3, h4⟩ := abs_le_pow h2
    exact ⟨by omega, h3, h4⟩
theorem bI_le : ∀ k, bI 100 (2 ^ 300) (2 ^ 300) k ≤ 2 ^ (300 + 8 * k)
  | 0 => Int.le_refl _
  | k + 1 => by
    have ih := bI_le k
    show 100 * bI 100 (2 ^ 300) (2 ^ 300) k + 2 ^ 300 ≤ 2 ^ (300 + 8 * (k + 1))
    have e : (2 : Int) ^ (300 + 8 * (k + 1)) = 2 ^ (300 + 8 * k) * 256 := by
      rw [show 300 + 8 * (k + 1) = (300 + 8 * k) + 8 by omega, Int.pow_add]
      rfl
    have m : (2 : Int) ^ 300 ≤ 2 ^ (300 + 8 * k) := by
      have : (2 : Int) ^ (300 + 8 * k) = 2 ^ 300 * 2 ^ (8 * k) := Int.pow_add ..
      rw [this]
      have q : (1 : Int) ≤ 2 ^ (8 * k) := Int.pow_pos (by decide)
      have q2 : (0 : Int) ≤ 2 ^ 300 := Int.le_of_lt (Int.pow_pos (by decide))
      have := Int.mul_le_mul_of_nonneg_left q q2
      rw [Int.mul_one] at this
      exact this
    rw [e]
    have pb : (0 : Int) < 2 ^ (300 + 8 * k) := Int.pow_pos (by decide)
    generalize (2 : Int) ^ (300 + 8 * k) = b at *
    generalize (2 : Int) ^ 300 = c at *
    omega
theorem Sy.big {ns : List Str} {rs : List Rl} (S : Sy ns rs) {D : List E2} {g : Hd} {src : Src} (I : Inv ns rs 100 (2 ^ 300) (2 ^ 300) D g src) {e : E2} {i : Int} (h : evl g e = some (some i)) : i.natAbs < 2 ^ 30000 := by
  have w := I.within S.sysB e i h
  have u : UI ns ≤ 363 := by
    unfold UI TI
    have l := S.ln
    have m : (2 * ns.length + 1) * (4 * ns.length + 2) ≤ 13 * 26 := Nat.mul_le_mul (by omega) (by omega)
    omega
  have b := Int.le_trans (S.sysB.mono u) (bI_le 363)
  have p := S.sysB.pos (UI ns)
  have t : (2 : Int) ^ (300 + 8 * 363) = ((2 ^ (300 + 8 * 363) : Nat) : Int) := (Int.natCast_pow 2 _).symm
  rw [t] at b
  refine Nat.lt_of_le_of_lt (m := 2 ^ (300 + 8 * 363)) ?_ (Nat.pow_lt_pow_right (by decide) (by decide))
  generalize (2 : Nat) ^ (300 + 8 * 363) = z at b
  omega
theorem Sy.bits {ns : List Str} {rs : List Rl} (S : Sy ns rs) {D : List E2} {g : Hd} {src : Src} (I : Inv ns rs 100 (2 ^ 300) (2 ^ 300) D g src) {e : E2} {i : Int} (h : evl g e = some (some i)) : i.natAbs < 2 ^ 3300 := by
  have w := I.within S.sysB e i h
  have u : UI ns ≤ 363 := by
    unfold UI TI
    have l := S.ln
    have m : (2 * ns.length + 1) * (4 * ns.length + 2) ≤ 13 * 26 := Nat.mul_le_mul (by omega) (by omega)
    omega
  have b := Int.le_trans (S.sysB.mono u) (bI_le 363)
  have p := S.sysB.pos (UI ns)
  have t : (2 : Int) ^ (300 + 8 * 363) = ((2 ^ (300 + 8 * 363) : Nat) : Int) := (Int.natCast_pow 2 _).symm
  rw [t] at b
  refine Nat.lt_of_le_of_lt (m := 2 ^ (300 + 8 * 363)) ?_ (Nat.pow_lt_pow_right (by decide) (by decide))
  generalize (2 : Nat) ^ (300 + 8 * 363) = z at b
  omega
theorem Sy.bd {ns : List Str} {rs : List Rl} (S : Sy ns rs) {D : List E2} {g : Hd} {src : Src} (I : Inv ns rs 100 (2 ^ 300) (2 ^ 300) D g src) (x : Str) : BdN 3300 (g x) := by
  cases eg : g x with
  | none => trivial
  | some p =>
    obtain ⟨l, u⟩ := p
    refine ⟨fun i h => ?_, fun i h => ?_⟩
    · have := S.bits I (e := (x, false)) (i := -i) (by
        unfold evl
        rw [show g (x, false).1 = some (l, u) from eg, h]
        rfl)
      rwa [Int.natAbs_neg] at this
    · exact S.bits I (e := (x, true)) (by
        unfold evl
        rw [show g (x, true).1 = some (l, u) from eg, h]
        rfl)
/-- the least holding: its bounds have few bits -/
structure HeldB (K : PySem.W.Frag) (H : Hp) (d : Addr) (ws : List Str) (f : Hd) : Prop extends Held K H d ws f where
  bd : ∀ x, BdN 3300 (f x)
instance {K : PySem.W.Frag} {H : Hp} {d : Addr} {ws : List Str} {f : Hd} : CoeOut (HeldB K H d ws f) (Held K H d ws f) := ⟨HeldB.toHeld⟩
theorem Sy.sz {ns : List Str} {rs : List Rl} (S : Sy ns rs) {D : List E2} {g : Hd} {src : Src} (I : Inv ns rs 100 (2 ^ 300) (2 ^ 300) D g src) (x : Str) : SzR (g x) := by
  cases eg : g x with
  | none => trivial
  | some p =>
    obtain ⟨l, u⟩ := p
    refine ⟨fun i h => ?_, fun i h => ?_⟩
    · have := S.big I (e := (x, false)) (i := -i) (by
        unfold evl
        rw [show g (x, false).1 = some (l, u) from eg, h]
        rfl)
      rwa [Int.natAbs_neg] at this
    · exact S.big I (e := (x, true)) (by
        unfold evl
        rw [show g (x, true).1 = some (l, u) from eg, h]
        rfl)
theorem Sy.stp {ns : List Str} {rs : List Rl} (S : Sy ns rs) {n : Nat} {x y : Str} {f a : Int} {w : Pr} {cs : List Cd} (h : rs[n]? = some (.stp x y f a (some w) cs)) : StpOk (.stp x y f a (some w) cs) := by
  have B := S.rl _ (List.mem_of_getElem? h)
  obtain ⟨h1, h2⟩ := B.sb _ _ _ _ _ _ rfl
  obtain ⟨_, l, u, e, hl, hu⟩ := B.rg (some w) List.mem_cons_self
  cases e
  exact ⟨h1, h2, szB_end hl hu⟩
def kindS : Rl → Str
  | .set _ _ _ => "set"
  | .stp _ _ _ _ _ _ => "step"
/-- the beginning of a rule -/
theorem rl_head {K : PySem.W.Frag} {H : Hp} {v : V} {r : Rl} (h : Dp K H v r.d) : ∃ p xs, v = .ref p ∧ SqT K H p xs ∧ atI xs 1 = some (.str (xOfR r)) ∧ atI xs 0 = some (.str (kindS r)) := by
  match r, h with
  | .set x rr cs, h =>
    obtain ⟨p, vr, c, ys, rfl, s, _⟩ := set_inv h
    exact ⟨p, _, rfl, s, atI_nat (j := 1) rfl, atI_nat (j := 0) rfl⟩
  | .stp x y f a rr cs, h =>
    obtain ⟨p, vr, c, ys, rfl, s, _⟩ := stp_inv h
    exact ⟨p, _, rfl, s, atI_nat (j := 1) rfl, atI_nat (j := 0) rfl⟩
/-- the sides that change -/
def chgB (g : Hd) (x : Str) (q : Pr) (s : Bool) : Bool := decide (evl g (x, s) ≠ some (endP q s))
def remE (g : Hd) (x : Str) (q : Pr) : List E2 := ([false, true].filter (chgB g x q)).map fun s => (x, s)
theorem remE_iff {g : Hd} {x : Str} {q : Pr} (e : E2) : e ∈ remE g x q ↔ e.1 = x ∧ evl g e ≠ some (endP q e.2) := by
  unfold remE
  rw [List.mem_map]
  constructor
  · rintro ⟨s, m, rfl⟩
    exact ⟨rfl, of_decide_eq_true (List.mem_filter.mp m).2⟩
  · rintro ⟨ex, ne⟩
    obtain ⟨x', s⟩ := e
    have c : x' = x := ex
    subst c
    exact ⟨s, List.mem_filter.mpr ⟨by cases s <;> simp, decide_eq_true ne⟩, rfl⟩
theorem remE_nd {g : Hd} {x : Str} {q : Pr} : (remE g x q).Nodup := by
  unfold remE
  cases h1 : chgB g x q false <;> cases h2 : chgB g x q true <;> simp [h1, h2, List.filter]
theorem pop_snoc {src : Src} {l : List E2} {e : E2} : popS src (l ++ [e]) = putS (popS src l) e none := by
  funext a
  unfold popS putS
  by_cases c : a = e
  · rw [if_pos c, if_pos (by rw [c]; simp)]
  · rw [if_neg c]
    show (if a ∈ l ++ [e] then none else src a) = (if a ∈ l then none else src a)
    by_cases d : a ∈ l
    · rw [if_pos d, if_pos (List.mem_append_left _ d)]
    · rw [if_neg d, if_neg (fun w => (List.mem_append.mp w).elim d (fun z => c (by simpa using z)))]
theorem pop_nil {src : Src} : popS src [] = src := by
  funext a
  exact if_neg (by simp)
theorem walk_steps {rs : List Rl} {h : Hd} : ∀ {e t : E2} {l : List (Nat × E2)}, Walk rs h e l t → ∀ p ∈ l, ∃ x y f a w cs, rs[p.1]? = some (.stp x y f a (some w) cs)
  | _, _, _, .nil _, p, m => absurd m (by simp)
  | _, _, _, .cons st es on w, p, m => by
    rcases List.mem_cons.mp m with rfl | m
    · exact ⟨_, _, _, _, _, _, st.at_⟩
    · exact walk_steps w p m
theorem Sy.big1 {ns : List Str} {rs : List Rl} (S : Sy ns rs) {n : Nat} {x y : Str} {f a : Int} {w : Pr} {cs : List Cd} {g : Hd} {src : Src} {q0 : Pr} (G : Gv ns rs 100 (2 ^ 300) (2 ^ 300) n x y f a w cs g src q0) {s : Bool} {i : Int} (h : endP q0 s = some i) : i.natAbs < 2 ^ 30000 := by
  obtain ⟨z, ez, eq⟩ := G.rd s
  rw [eq] at h
  have w := G.I0.within G.S
  have p := G.S.pos (UI ns)
  have h1 := G.S.step_up G.st (e := z) (k := UI ns) (fun j ej => by
    rw [ej] at ez
    have := w _ _ ez
    omega) h
  have h2 := G.S.step_low G.st (e := z) (k := UI ns) (fun j ej => by
    rw [ej] at ez
    have := w _ _ ez
    omega) h
  have u : UI ns ≤ 363 := by
    unfold UI TI
    have l := S.ln
    have m : (2 * ns.length + 1) * (4 * ns.length + 2) ≤ 13 * 26 := Nat.mul_le_mul (by omega) (by omega)
    omega
  have b := Int.le_trans (G.S.mono (show UI ns + 1 ≤ 364 by omega)) (bI_le 364)
  have t : (2 : Int) ^ (300 + 8 * 364) = ((2 ^ (300 + 8 * 364) : Nat) : Int) := (Int.natCast_pow 2 _).symm
  rw [t] at b
  refine Nat.lt_of_le_of_lt (m := 2 ^ (300 + 8 * 364)) ?_ (Nat.pow_lt_pow_right (by decide) (by decide))
  generalize (2 : Nat) ^ (300 + 8 * 364) = z at b
  omega
/-- something has changed -/
theorem grew {rs : List Rl} {L n : Nat} {r : Rl} {g g' : Hd} {src src' : Src} (t : Tr rs L n r g src g' src') (h : joinR (g (xOfR r)) (giftR g r) ≠ g (xOfR r)) : ∃ e, evl g' e ≠ evl g e := Classical.byContradiction fun c => h (by
  have e : g' = g := evl_ext fun e => Classical.byContradiction fun z => c ⟨e, z⟩
  have z := t.gift
  rw [e] at z
  exact (join_sub (Sub.refl _) z).antisymm sub_join_l)
theorem tr_oth {rs : List Rl} {g g' : Hd} {x : Str} (h : ∀ e, evl g' e ≠ evl g e → e.1 = x) : ∀ e, e.1 ≠ x → evl g' e = evl g e := fun e ne => Classical.byContradiction fun z => ne (h e z)
/-- the round along L may be closed at e -/
def ClsOk (rs : List Rl) (g : Hd) (e : E2) (L : List (Nat × E2)) : Prop := (∃ v : Int, evl g e = some (some v) ∧ v.natAbs < 2 ^ 30000 ∧ 1 ≤ (wayC rs L).f ∧ v < (wayC rs L).f * v + (wayC rs L).a ∧ ∀ m, (wayC rs L).m = some m → v ≤ m) ∧ (∃ h, Walk rs h e L e) ∧ ∀ p ∈ L, ∃ r, rs[p.1]? = some r ∧ StpOk r
theorem putS_back {src : Src} {e : E2} {x : Option (Nat × E2)} (h : src e = none) : putS (putS src e x) e none = src := by
  funext a
  unfold putS
  by_cases c : a = e
  · rw [if_pos c, c, h]
  · rw [if_neg c, if_neg c]
/-- a range is put -/
theorem held_put {K : PySem.W.Frag} {H : Hp} {ra : Addr} {ns : List Str} {u : Str → V} {g : Hd} {x : Str} {v : V} {q : Pr} (df : DF H ra ns u) (rg : ∀ y ∈ ns, RgV K H (u y) (g y)) (mx : x ∈ ns) (l : ns.length ≤ 1000) (hv : RgV K H v (some q)) :
    ∃ H', DPut H ra (.str x) v H' ∧ Ch ra H H' ∧ DF H' ra ns (put1 u x v) ∧ ∀ y ∈ ns, RgV K H' (put1 u x v y) (putX g x q y) := by
  have ch : Ch ra H (upd H ra (.dK (fK ns (put1 u x v)))) := Ch.put df trivial
  refine ⟨_, df.put mx l, ch, upd_same, fun y my => ?_⟩
  unfold put1 putX
  by_cases c : y = x
  · rw [if_pos c, if_pos c]
    exact ch.rg hv
  · rw [if_neg c, if_neg c]
    exact ch.rg (rg y my)
theorem CB.gok {k : Nat} {c : Crs} (h : CB k c) (hk : k ≤ 40) (f1 : 1 ≤ c.f) : GOk c := ⟨f1, up_bits h.f (by omega), up_bits h.a (by omega), fun i e => up_bits (h.m i e) (by omega)⟩






/-- the states behind the applications of one sweep, as far as i -/
structure Swp (ns : List Str) (rs : List Rl) (i : Nat) (g : Hd) (src : Src) (gs : Nat → Hd) (ss : Nat → Src) : Prop where
  g0 : gs 0 = g
  s0 : ss 0 = src
  tr : ∀ k, k < i → ∃ r, rs[k]? = some r ∧ Tr rs (2 * ns.length + 1) k r (gs k) (ss k) (gs (k + 1)) (ss (k + 1))
  inv : ∀ k, k ≤ i → Inv ns rs 100 (2 ^ 300) (2 ^ 300) [] (gs k) (ss k)
  fit : FitF (gs i)
def snocF {α : Type} (f : Nat → α) (i : Nat) (v : α) : Nat → α := fun k => if k ≤ i then f k else v
theorem snocF_le {α : Type} {f : Nat → α} {i : Nat} {v : α} {k : Nat} (h : k ≤ i) : snocF f i v k = f k := if_pos h
theorem snocF_gt {α : Type} {f : Nat → α} {i : Nat} {v : α} : snocF f i v (i + 1) = v := if_neg (by omega)

theorem putF_len {f : Str} {v : V} : ∀ {fs : List (Str × V)}, (putF f v fs).length ≤ fs.length + 1
  | [] => Nat.le_refl _
  | (g, w) :: fs => by
    have ih := putF_len (f := f) (v := v) (fs := fs)
    unfold putF
    split
    · rw [List.length_cons, List.length_cons]
      omega
    · rw [List.length_cons, List.length_cons]
      omega
theorem SysAt.ki {K : PySem.W.Frag} {C b : Addr} {H H' : Hp} {a p q : Addr} {ns : List Str} {rs : List Rl} (k : Ki b H H') (ha : a ≠ b) (h : SysAt K C H a p q ns rs) : SysAt K C H' a p q ns rs := by
  obtain ⟨dx, fs, xs, h1, h2, h3, h4, h5, h6, h7⟩ := h
  obtain ⟨C', dx', fs', e⟩ := k.1
  exact ⟨dx, fs, xs, k.2 _ _ ha h1, h2, h3, k.2 _ _ (ne_of h4 e (fun z => by cases z)) h4, k.2 _ _ (ne_of h5 e (fun z => by cases z)) h5, dpa_ki k h6, h7⟩



def catF {α : Type} (f : Nat → α) (i : Nat) (h : Nat → α) : Nat → α := fun k => if k ≤ i then f k else h (k - i)
theorem catF_lo {α : Type} {f h : Nat → α} {i k : Nat} (l : k ≤ i) : catF f i h k = f k := if_pos l
theorem catF_hi {α : Type} {f h : Nat → α} {i : Nat} (e : h 0 = f i) (j : Nat) : catF f i h (i + j) = h j := by
  unfold catF
  by_cases c : j = 0
  · rw [c, if_pos (by omega), e]
    rfl
  · rw [if_neg (by omega), show i + j - i = j by omega]
/-- S sweeps, each of which has changed something -/
structure Grw (ns : List Str) (rs : List Rl) (S : Nat) (gt : Nat → Hd) (st : Nat → Src) : Prop where
  tr : Trc rs (2 * ns.length + 1) (S * rs.length) gt st
  inv : ∀ k, k ≤ S * rs.length → Inv ns rs 100 (2 ^ 300) (2 ^ 300) [] (gt k) (st k)
  ch : ∀ s, s < S → ∃ k e, s * rs.length ≤ k ∧ k < (s + 1) * rs.length ∧ evl (gt (k + 1)) e ≠ evl (gt k) e
  fit : FitF (gt (S * rs.length))
theorem Grw.few {ns : List Str} {rs : List Rl} {S : Nat} {gt : Nat → Hd} {st : Nat → Src} (Y : Sy ns rs) (G : Grw ns rs S gt st) : S < 2200 := by
  have z := G.tr.sweeps (ns := ns) (fun k hk e l s wy => Nat.le_trans (way_len (G.inv k hk) wy) (Nat.le_succ _)) (fun k hk e u h => in_ns (G.inv k hk) h) (fun n r hr => ?_) G.ch
  · have h1 : 3 * (2 * ns.length + 1) + 2 ≤ 41 := by have := Y.ln; omega
    have h2 : 3 * rs.length + 2 * ns.length + 1 ≤ 52 := by have := Y.ln; have := Y.lr; omega
    have := Nat.mul_le_mul h1 h2
    omega
  · have B := Y.rl r (List.mem_of_getElem? hr)
    refine ⟨B.nz, fun x y f a rr cs e => ?_⟩
    subst e
    obtain ⟨_, l, u, e2, _⟩ := B.rg rr List.mem_cons_self
    rw [e2]
    rfl
theorem Grw.more {ns : List Str} {rs : List Rl} {S : Nat} {gt gs : Nat → Hd} {st ss : Nat → Src} (G : Grw ns rs S gt st) (w : Swp ns rs rs.length (gt (S * rs.length)) (st (S * rs.length)) gs ss) (c : ∃ k e, k < rs.length ∧ evl (gs (k + 1)) e ≠ evl (gs k) e) :
    Grw ns rs (S + 1) (catF gt (S * rs.length) gs) (catF st (S * rs.length) ss) := by
  have e1 : (S + 1) * rs.length = S * rs.length + rs.length := by rw [Nat.add_mul, Nat.one_mul]
  have hi := catF_hi (f := gt) (i := S * rs.length) w.g0
  have hi2 := catF_hi (f := st) (i := S * rs.length) w.s0
  refine ⟨fun k hk => ?_, fun k hk => ?_, fun s hs => ?_, ?_⟩
  · by_cases c : k < S * rs.length
    · obtain ⟨r, hr, t⟩ := G.tr k c
      refine ⟨r, hr, ?_⟩
      rw [catF_lo (by omega), catF_lo (by omega), catF_lo (by omega), catF_lo (by omega)]
      exact t
    · obtain ⟨j, rfl⟩ : ∃ j, k = S * rs.length + j := ⟨k - S * rs.length, by omega⟩
      obtain ⟨r, hr, t⟩ := w.tr j (by omega)
      have md : (S * rs.length + j) % rs.length = j := by
        rw [Nat.mul_comm, Nat.mul_add_mod, Nat.mod_eq_of_lt (by omega)]
      rw [md, Nat.add_assoc, hi, hi, hi2, hi2]
      exact ⟨r, hr, t⟩
  · by_cases c : k ≤ S * rs.length
    · rw [catF_lo c, catF_lo c]
      exact G.inv k c
    · obtain ⟨j, rfl⟩ : ∃ j, k = S * rs.length + j := ⟨k - S * rs.length, by omega⟩
      rw [hi, hi2]
      exact w.inv j (by omega)
  · by_cases d : s < S
    · obtain ⟨k, e, a, b, x⟩ := G.ch s d
      have : (s + 1) * rs.length ≤ S * rs.length := Nat.mul_le_mul_right _ d
      refine ⟨k, e, a, b, ?_⟩
      rw [catF_lo (by omega), catF_lo (by omega)]
      exact x
    · have es : s = S := by omega
      obtain ⟨k, e, a, b⟩ := c
      refine ⟨S * rs.length + k, e, by rw [es]; omega, by rw [es, e1]; omega, ?_⟩
      rw [Nat.add_assoc, hi, hi]
      exact b
  · rw [e1, hi]
    exact w.fit
/-- a sweep that changes nothing: the least holding -/
theorem Swp.rest {ns : List Str} {rs : List Rl} {g : Hd} {src : Src} {gs : Nat → Hd} {ss : Nat → Src} (w : Swp ns rs rs.length g src gs ss) (c : ∀ k, k ≤ rs.length → gs k = g) : Hold rs g := fun r m => by
  obtain ⟨k, hk⟩ := List.mem_iff_getElem?.mp m
  have lt := (List.getElem?_eq_some_iff.mp hk).1
  obtain ⟨r', hr', t⟩ := w.tr k lt
  rw [hk] at hr'
  cases hr'
  have z := t.gift
  rw [c k (by omega), c (k + 1) (by omega)] at z
  exact z



/-- the rules whose numbers are not among ms, of the first i -/
def dropTo (rs : List Rl) (ms : List Int) (i : Nat) : List Rl := ((List.range i).filter fun (j : Nat) => !decide (((j : Nat) : Int) ∈ ms)).filterMap fun (j : Nat) => rs[j]?
def dropR (rs : List Rl) (ms : List Int) : List Rl := dropTo rs ms rs.length
theorem dropTo_succ {rs : List Rl} {ms : List Int} {i : Nat} {r : Rl} (h : rs[i]? = some r) : dropTo rs ms (i + 1) = dropTo rs ms i ++ (if (i : Int) ∈ ms then [] else [r]) := by
  unfold dropTo
  rw [List.range_succ, List.filter_append, List.filterMap_append]
  congr 1
  by_cases c : (i : Int) ∈ ms
  · rw [if_pos c]
    simp [c]
  · rw [if_neg c]
    simp [c, h]
theorem dropTo_mem {rs : List Rl} {ms : List Int} {i : Nat} {r : Rl} (h : r ∈ dropTo rs ms i) : r ∈ rs := by
  unfold dropTo at h
  obtain ⟨j, _, e⟩ := List.mem_filterMap.mp h
  exact List.mem_of_getElem? e
theorem dropTo_len {rs : List Rl} {ms : List Int} {i : Nat} : (dropTo rs ms i).length ≤ i := by
  unfold dropTo
  refine Nat.le_trans (List.length_filterMap_le _ _) (Nat.le_trans (List.length_filter_le _ _) ?_)
  rw [List.length_range]
  exact Nat.le_refl _
theorem SysOk.sub {ns : List Str} {rs rs' : List Rl} (h : SysOk ns rs) (k : ∀ r ∈ rs', r ∈ rs) (l : rs'.length ≤ 1000) : SysOk ns rs' :=
  ⟨h.nd, h.ok, fun r m => h.nf r (k r m), fun r m => h.cs r (k r m), h.ln, l⟩



def toldD (ss : List Str) (rs : List Rl) : PyData := .list [.list (ss.map PyData.str), .list (rs.map Rl.d), .int (rs.length : Nat)]
theorem dp_told {K : PySem.W.Frag} {H : Hp} {t W R : Addr} {n : Int} {ws : List Str} {rs : List Rl} {xs : List V} (ht : SqL K H t [.ref W, .ref R, .int n]) (hn : n = (rs.length : Nat)) (hW : SqL K H W (ws.map V.str)) (hR : SqL K H R xs) (d : DpAll K H xs (rs.map Rl.d)) : Dp K H (.ref t) (toldD ws rs) := by
  subst hn
  exact .lst ht (.cons (.lst hW (dpa_strs ws)) (.cons (.lst hR d) (.cons (.int _) .nil)))
/-- a system whose text is short -/
def ShownOk (ns : List Str) (rs : List Rl) : Prop := DOk 20000 10 (toldD ns rs) ∧ rs.length ≤ 1000
theorem shown_ok {ws ss : List Str} {rs : List Rl} (hw : ∀ x ∈ ws, nameOk x = true) (h : RowsGd ws rs) (p : ss.Perm ws) (l : ws.length ≤ 20) (l2 : rs.length ≤ 20) : ShownOk ss rs := by
  have hs : ∀ x ∈ ss, nameOk x = true := fun x m => hw x (p.mem_iff.mp m)
  have t60 : (10 : Nat) ^ 60 = 1000000000000000000000000000000000000000000000000000000000000 := by decide
  exact ⟨(DOk.list (.cons (dok_names hs (by rw [p.length_eq]; exact l)) (.cons (dok_rows hw h l2) (.cons (.int (by rw [t60]; omega)) .nil)))).mono (by decide) (by decide), by omega⟩
theorem sNeF {x : Str} : V.bl (!decide (V.str x = V.str x)) = V.bl false := by rw [decide_eq_true rfl]; rfl
def sp__law_shown (K : PySem.W.Frag) (C : Addr) : Sp := fun vs H Q _ => ∃ a p q ns rs, vs = [.ref a] ∧ SysAt K C H a p q ns rs ∧ ShownOk ns rs ∧ ∀ H', Same H H' → Q (.str (toldD ns rs).shown) H'

def base5 : List Str := ["m", "n", "rowfar", "o", "p"]
theorem base5_ok : ∀ x ∈ base5, nameOk x = true := by decide +kernel
theorem base5_nd : base5.Nodup := by decide +kernel
theorem pool_apart : ∀ x ∈ pool, x ∉ base5 := by decide +kernel
theorem cut_upto (xs : List V) (k : Nat) : cutV xs none (some (k : Int)) = xs.take k := by
  unfold cutV
  rw [HT.sIx_none, HT.sIx_nat, List.drop_zero, Nat.sub_zero]
  by_cases h : k ≤ xs.length
  · rw [Nat.min_eq_left h]
  · rw [Nat.min_eq_right (by omega), List.take_length, List.take_of_length_le (by omega)]
theorem sysOk_nm {ws : List Str} {rs : List Rl} (nd : ws.Nodup) (ok : ∀ x ∈ ws, nameOk x = true) (hr : RowsGd ws rs) (l : ws.length ≤ 20) (l2 : rs.length ≤ 1000) : SysOk ws rs :=
  ⟨nd, ok, fun r m => rlGd_faulty (hr r m), fun r m => Nat.le_trans (hr r m).cs (by decide), by omega, l2⟩
theorem laid_nm {ws ss : List Str} {rs : List Rl} (ok : ∀ x ∈ ws, nameOk x = true) (hr : RowsGd ws rs) (p : ss.Perm ws) : Laid ss rs :=
  ⟨fun x m => strOk_of (ok x (p.mem_iff.mp m)), fun r m x mx => strOk_of (ok x ((hr r m).nm x mx))⟩
theorem RowsGd.mono {ws ws' : List Str} {rs : List Rl} (h : RowsGd ws rs) (k : ∀ x ∈ ws, x ∈ ws') : RowsGd ws' rs := fun r m => (h r m).mono k
theorem beside_nm {ws : List Str} (h : WordsOk ws) (k : Nat) : (ws ++ base5.take k).Nodup ∧ ∀ x ∈ ws ++ base5.take k, nameOk x = true := by
  refine ⟨List.nodup_append.mpr ⟨h.nd, base5_nd.sublist (List.take_sublist _ _), fun x mx z mz => ?_⟩, fun x mx => ?_⟩
  · rintro rfl
    exact pool_apart x (h.pl x mx) (List.mem_of_mem_take mz)
  · rcases List.mem_append.mp mx with m | m
    · exact h.ok x m
    · exact base5_ok x (List.mem_of_mem_take m)

/-- the state of a lap: words, rows, the system of them -/
structure Lp (K : PySem.W.Frag) (C g W R O P1 R1 : Addr) (ws ss : List Str) (rr : List Rl) (xs : List V) (n : Nat) (H : Hp) : Prop where
  oW : H W = some (.lst (ws.map V.str))
  oR : H R = some (.lst xs)
  dR : DpAll K H xs (rr.map Rl.d)
  made : SysAt K C H O P1 R1 ss rr
  rs : RS n H g
theorem Lp.same {K : PySem.W.Frag} {C g W R O P1 R1 : Addr} {ws ss : List Str} {rr : List Rl} {xs : List V} {n : Nat} {H H' : Hp} (k : Same H H') (h : Lp K C g W R O P1 R1 ws ss rr xs n H) : Lp K C g W R O P1 R1 ws ss rr xs n H' :=
  ⟨k _ _ h.oW, k _ _ h.oR, dpa_same k h.dR, h.made.same k, h.rs.same k⟩
theorem Lp.mono {K : PySem.W.Frag} {C g W R O P1 R1 : Addr} {ws ss : List Str} {rr : List Rl} {xs : List V} {n m : Nat} {H : Hp} (l : n ≤ m) (h : Lp K C g W R O P1 R1 ws ss rr xs n H) : Lp K C g W R O P1 R1 ws ss rr xs m H :=
  ⟨h.oW, h.oR, h.dR, h.made, h.rs.mono l⟩
theorem Lp.kg {K : PySem.W.Frag} {C g W R O P1 R1 : Addr} {ws ss : List Str} {rr : List Rl} {xs : List V} {n m : Nat} {H H' : Hp} (Wg : W ≠ g) (Rg_ : R ≠ g) (P1g : P1 ≠ g) (R1g : R1 ≠ g) (k : Kp g H H') (rs : RS m H' g) (h : Lp K C g W R O P1 R1 ws ss rr xs n H) : Lp K C g W R O P1 R1 ws ss rr xs m H' :=
  ⟨k _ _ Wg h.oW, k _ _ Rg_ h.oR, dpa_kl (h.rs.kl k) h.dR (noL_rls rr), h.made.kl (h.rs.kl k) P1g R1g, rs⟩
theorem RS.put {n : Nat} {H H' : Hp} {g D : Addr} (k : Kl D H H') (gD : g ≠ D) (h : RS n H g) : RS n H' g := by
  obtain ⟨a, sd, t, e, rest⟩ := h.ok
  exact ⟨a, sd, t, k.2 _ _ gD e, rest⟩
theorem Lp.put {K : PySem.W.Frag} {C g W R O P1 R1 D : Addr} {ws ss : List Str} {rr : List Rl} {xs : List V} {n : Nat} {H H' : Hp} (d : W ≠ D ∧ R ≠ D ∧ P1 ≠ D ∧ R1 ≠ D ∧ g ≠ D) (k : Kl D H H') (h : Lp K C g W R O P1 R1 ws ss rr xs n H) : Lp K C g W R O P1 R1 ws ss rr xs n H' :=
  ⟨k.2 _ _ d.1 h.oW, k.2 _ _ d.2.1 h.oR, dpa_kl k h.dR (noL_rls rr), h.made.kl k d.2.2.1 d.2.2.2.1, RS.put k d.2.2.2.2 h.rs⟩
theorem Lp.new {K : PySem.W.Frag} {C g W R O P1 R1 D : Addr} {ws ss : List Str} {rr : List Rl} {xs : List V} {n : Nat} {H : Hp} (h : Lp K C g W R O P1 R1 ws ss rr xs n H) (nD : H D = none) : W ≠ D ∧ R ≠ D ∧ P1 ≠ D ∧ R1 ≠ D ∧ g ≠ D := by
  obtain ⟨dx, fs, xs', h1, h2, h3, h4, h5, h6, h7⟩ := h.made
  have a := h.oW
  have b := h.oR
  exact ⟨(fun z => by rw [z, nD] at a; cases a), (fun z => by rw [z, nD] at b; cases b), (fun z => by rw [z, nD] at h4; cases h4), (fun z => by rw [z, nD] at h5; cases h5), Ne.symm (h.rs.fresh nD)⟩
theorem BdOk.b {o : Option Int} (h : BdOk (10 ^ 31) o) : SzB o := by
  intro i e
  subst e
  have h' : -(10 : Int) ^ 31 ≤ i ∧ i ≤ (10 : Int) ^ 31 := h
  have big : (10 : Int) ^ 31 = 10000000000000000000000000000000 := by decide
  rw [big] at h'
  have : i.natAbs < 2 ^ 110 := by
    have : (2 : Nat) ^ 110 = 1298074214633706907132624082305024 := by decide
    omega
  exact Nat.lt_of_lt_of_le this (Nat.pow_le_pow_right (by decide) (by decide))
theorem RgGd.b {r : Rg} (h : RgGd r) : RgB r := by
  obtain ⟨h1, h2⟩ := h
  refine ⟨fit_of_bad h1, ?_⟩
  match r, h1, h2 with
  | none, h1, _ => cases h1
  | some (l, u), _, h2 => exact ⟨l, u, rfl, h2.1.b, h2.2.b⟩
theorem RlGd.b {ws : List Str} {r : Rl} (h : RlGd ws r) : RlB ws r := by
  refine ⟨h.nm, fun x m => (h.rg x m).b, h.nz, Nat.le_trans h.cs (by decide), fun x y f a g cs e => ?_⟩
  subst e
  have nb : f.natAbs ≤ 10 ∧ a.natAbs ≤ 10 ^ 32 := h.nb
  have t : (10 : Nat) ^ 32 < 2 ^ 300 := by decide
  exact ⟨by omega, Nat.lt_of_le_of_lt nb.2 t⟩
/-- a drawn system -/
theorem sy_of {ws ss : List Str} {rr : List Rl} (wok : WordsOk ws) (gd : RowsGd ws rr) (pm : ss.Perm ws) (l1 : ws.length ≤ 6) (l2 : rr.length ≤ 13) : Sy ss rr :=
  ⟨pm.nodup_iff.mpr wok.nd, fun x m => wok.ok x (pm.mem_iff.mp m), by rw [pm.length_eq]; exact l1, l2, fun r m => ((gd r m).mono fun x mx => pm.mem_iff.mpr mx).b⟩
/-- a dict of ranges stays when a list changes -/
theorem Held.kl {K : PySem.W.Frag} {H H' : Hp} {a b : Addr} {ws : List Str} {f : Hd} (k : Kl b H H') (h : Held K H a ws f) : Held K H' a ws f := by
  obtain ⟨u, d, r⟩ := h.dc
  obtain ⟨ys, e⟩ := k.1
  exact ⟨⟨u, k.2 _ _ (ne_of d e (fun z => by cases z)) d, fun x m => RgV.kl k (r x m)⟩, h.nd, h.gd⟩
/-! ### lists of small numbers -/
theorem nats_ints (l : List Nat) : (l.map fun (n : Nat) => V.int (n : Int)) = (l.map fun (n : Nat) => (n : Int)).map V.int := by
  rw [List.map_map]
  rfl
theorem dok_ints {ms : List Int} (h : ∀ m ∈ ms, 0 ≤ m ∧ m < 100) (l : ms.length ≤ 100) : DOk 200 2 (.list (ms.map PyData.int)) := by
  have t60 : (10 : Nat) ^ 60 = 1000000000000000000000000000000000000000000000000000000000000 := by decide
  refine (DOk.list (dall_of (n := 0) (k := 1) fun d m => ?_)).mono ?_ (by decide)
  · obtain ⟨z, mz, rfl⟩ := List.mem_map.mp m
    have := h z mz
    exact .int (by rw [t60]; omega)
  · rw [List.length_map]
    omega
theorem inV_bls (b : Bool) : ∀ bs : List Bool, inV (.bl b) (bs.map V.bl) = decide (b ∈ bs)
  | [] => rfl
  | n :: ns => by
    have ih := inV_bls b ns
    unfold inV at ih ⊢
    rw [List.map_cons, List.any_cons, ih]
    cases b <;> cases n <;> simp [eqV]
theorem flat_bls : ∀ bs : List Bool, (bs.map V.bl).all flatV = true
  | [] => rfl
  | n :: ns => by rw [List.map_cons, List.all_cons, flat_bls ns]; rfl
theorem ly_ints (ms : List Int) : Ly 2 (.list (ms.map PyData.int)) := Ly.list (lyA_of fun d m => by
  obtain ⟨z, _, rfl⟩ := List.mem_map.mp m
  exact ⟨rfl, by simp [PyData.depth]⟩)
/-! ### the least holding -/
/-- the least holding of these rules -/
def IsLeast (rs : List Rl) (g : Hd) : Prop := Hold rs g ∧ ∀ h, Hold rs h → SubF g h
theorem IsLeast.uniq {rs : List Rl} {g h : Hd} (a : IsLeast rs g) (b : IsLeast rs h) : g = h := funext fun x => (a.2 h b.1 x).antisymm (b.2 g a.1 x)
theorem sNe0 {x : Str} : V.bl (!decide (V.str x = V.str x)) = V.bl false := by rw [decide_eq_true rfl]; rfl

noncomputable def lhR (rs : List Rl) : Hd := @Classical.epsilon Hd ⟨fun _ => none⟩ (IsLeast rs)
theorem IsLeast.lh {rs : List Rl} {g : Hd} (a : IsLeast rs g) : lhR rs = g := IsLeast.uniq (@Classical.epsilon_spec Hd (IsLeast rs) ⟨g, a⟩) a
theorem Sy.okS {ns : List Str} {rs : List Rl} (Y : Sy ns rs) : SysOk ns rs := by
  refine ⟨Y.nd, Y.nok, fun r m => ?_, fun r m => (Y.rl r m).cs, by have := Y.ln; omega, by have := Y.lr; omega⟩
  have B := Y.rl r m
  unfold Rl.faulty
  rw [B.nz, Bool.false_or, Bool.or_eq_false_iff]
  constructor
  · rw [List.any_eq_false]
    intro x m
    rw [decide_eq_true (B.nm x m)]
    decide
  · rw [List.any_eq_false]
    intro x m
    obtain ⟨f, l, u, rfl, _⟩ := B.rg x m
    match l, u, f with
    | none, _, _ => simp [badR, up]
    | some l, none, _ => simp [badR, up]
    | some l, some u, f =>
      have f' : l ≤ u := f
      simp [badR, up]
      omega
theorem Sy.sub {ns : List Str} {rs rs' : List Rl} (Y : Sy ns rs) (h : ∀ r ∈ rs', r ∈ rs) (l : rs'.length ≤ 13) : Sy ns rs' := ⟨Y.nd, Y.nok, Y.ln, l, fun r m => Y.rl r (h r m)⟩
def keyR (f : Hd) : Key → PyData
  | .inr x => rgD (f x)
  | _ => .none
/-- dicts of ranges compared -/
theorem held_dd {K : PySem.W.Frag} {H : Hp} {a b : Addr} {ns : List Str} {f g : Hd} (ha : Held K H a ns f) (hb : Held K H b ns g) : DDs K H (.ref a) (.ref b) (decide (∀ x ∈ ns, f x = g x)) := by
  obtain ⟨u, da, ra⟩ := ha.dc
  obtain ⟨v, db, rb⟩ := hb.dc
  refine ⟨a, b, fK ns u, fK ns v, keyR f, keyR g, rfl, rfl, da, db, by rw [fK_len, fK_len], fun p m => ?_, ?_⟩
  · obtain ⟨x, mx, rfl⟩ := List.mem_map.mp m
    exact ⟨v x, fK_get mx, dp_rg (ra x mx), dp_rg (rb x mx), (ly_rg (f x)).shaped, (ly_rg (g x)).shaped⟩
  · unfold fK
    rw [List.all_map, Bool.eq_iff_iff, List.all_eq_true, decide_eq_true_iff]
    constructor
    · intro h x mx
      have z : PyData.eqv (rgD (f x)) (rgD (g x)) = true := h x mx
      rw [eqv_rgD] at z
      exact of_decide_eq_true z
    · intro h x mx
      show PyData.eqv (rgD (f x)) (rgD (g x)) = true
      rw [eqv_rgD, h x mx]
      exact decide_eq_true rfl
theorem hd_ext {ns : List Str} {f g : Hd} (df : ∀ x, x ∉ ns → f x = none) (dg : ∀ x, x ∉ ns → g x = none) : (∀ x ∈ ns, f x = g x) ↔ f = g := by
  constructor
  · intro h
    funext x
    by_cases m : x ∈ ns
    · exact h x m
    · rw [df x m, dg x m]
  · rintro rfl x _
    rfl
theorem SysOk.names {ns ws : List Str} {rs : List Rl} (h : SysOk ns rs) (p : ns.Perm ws) : SysOk ws rs := by
  refine ⟨p.nodup_iff.mp h.nd, fun x m => h.ok x (p.mem_iff.mpr m), fun r m => ?_, h.cs, by rw [← p.length_eq]; exact h.ln, h.lr⟩
  have z := h.nf r m
  unfold Rl.faulty at z ⊢
  have e : (r.names.any fun x => !decide (x ∈ ws)) = (r.names.any fun x => !decide (x ∈ ns)) := by
    congr 1
    funext x
    rw [decide_eq_decide.mpr p.mem_iff]
  rw [e]
  exact z

/-! ### there is always a least holding -/
theorem glb_ends (P : En → Prop) : (∃ m : En, (∀ e, P e → enLe m e) ∧ ∀ t, (∀ e, P e → enLe t e) → enLe t m) ∨ (∀ t, ¬ ∀ e, P e → enLe t e) := by
  by_cases h1 : ∃ i : Int, P (some i)
  · obtain ⟨i, hi⟩ := h1
    by_cases h2 : ∃ b : Int, ∀ e, P e → enLe (some b) e
    · obtain ⟨b, hb⟩ := h2
      -- the greatest lower bound below i
      have big : ∀ (n : Nat) (b : Int), (i - b).toNat ≤ n → (∀ e, P e → enLe (some b) e) → ∃ m : Int, (∀ e, P e → enLe (some m) e) ∧ ∀ c : Int, (∀ e, P e → enLe (some c) e) → c ≤ m := by
        intro n
        induction n with
        | zero =>
          intro b l h
          refine ⟨b, h, fun c hc => ?_⟩
          have z : c ≤ i := hc _ hi
          omega
        | succ n ih =>
          intro b l h
          by_cases c : ∃ c : Int, b < c ∧ ∀ e, P e → enLe (some c) e
          · obtain ⟨c, bc, hc⟩ := c
            have z : c ≤ i := hc _ hi
            exact ih c (by omega) hc
          · refine ⟨b, h, fun c' hc => ?_⟩
            by_cases d : c' ≤ b
            · exact d
            · exact absurd ⟨c', by omega, hc⟩ c
      obtain ⟨m, hm, gm⟩ := big _ b (Nat.le_refl _) hb
      refine .inl ⟨some m, hm, fun t ht => ?_⟩
      cases t with
      | none => exact (ht _ hi).elim
      | some c => exact gm c ht
    · refine .inr fun t ht => ?_
      cases t with
      | none => exact (ht _ hi).elim
      | some c => exact h2 ⟨c, ht⟩
  · refine .inl ⟨none, fun e he => ?_, fun t _ => by cases t <;> trivial⟩
    cases e with
    | none => trivial
    | some i => exact absurd ⟨i, he⟩ h1
theorem glb_rg (P : Rg → Prop) : ∃ m : Rg, (∀ r, P r → Sub m r) ∧ ∀ t, (∀ r, P r → Sub t r) → Sub t m := by
  by_cases h0 : P none
  · refine ⟨none, fun r _ => trivial, fun t ht => ?_⟩
    have z := ht _ h0
    cases t with
    | none => trivial
    | some _ => exact z.elim
  · have side : ∀ s, _ := fun s => glb_ends fun e => ∃ p : Pr, P (some p) ∧ endP p s = e
    have none_of : (∃ s, ∀ t : En, ¬ ∀ e, (∃ p : Pr, P (some p) ∧ endP p s = e) → enLe t e) → ∃ m : Rg, (∀ r, P r → Sub m r) ∧ ∀ t, (∀ r, P r → Sub t r) → Sub t m := fun ⟨s, h⟩ => by
      refine ⟨none, fun r _ => trivial, fun t ht => ?_⟩
      cases t with
      | none => trivial
      | some p =>
        refine absurd ?_ (h (endP p s))
        rintro e ⟨q, hq, rfl⟩
        exact ht _ hq s
    rcases side true with ⟨u, hu1, hu2⟩ | h
    · rcases side false with ⟨l, hl1, hl2⟩ | h
      · have ends : ∀ s, endP (neg l, u) s = if s = true then u else l := fun s => by
          cases s with
          | true => rfl
          | false =>
            show neg (neg l) = l
            cases l <;> simp [neg]
        refine ⟨some (neg l, u), fun r hr => ?_, fun t ht => ?_⟩
        · cases r with
          | none => exact (h0 hr).elim
          | some q =>
            intro s
            rw [ends]
            cases s with
            | true => exact hu1 _ ⟨q, hr, rfl⟩
            | false => exact hl1 _ ⟨q, hr, rfl⟩
        · cases t with
          | none => trivial
          | some p =>
            intro s
            rw [ends]
            cases s with
            | true => exact hu2 _ (by rintro e ⟨q, hq, rfl⟩; exact ht _ hq true)
            | false => exact hl2 _ (by rintro e ⟨q, hq, rfl⟩; exact ht _ hq false)
      · exact none_of ⟨false, h⟩
    · exact none_of ⟨true, h⟩
theorem com_mono2 {r r' w w' : Rg} (h : Sub r r') (k : Sub w w') : Sub (comR r w) (comR r' w') := by
  refine (com_mono h).trans ?_
  match r', w, w', k with
  | none, none, _, _ => trivial
  | none, some _, _, _ => trivial
  | some _, none, _, _ => trivial
  | some p, some _, none, k => exact k.elim
  | some p, some w, some w', k =>
    rw [comR_some, comR_some]
    have e : ∀ s, enLe (endP (com2 p w) s) (endP (com2 p w') s) := fun s => by
      rw [end_com2, end_com2]
      have z := k s
      generalize endP w s = a at z
      generalize endP w' s = b at z
      generalize endP p s = c
      cases b with
      | none =>
        cases c with
        | none => cases (enMin a none) <;> trivial
        | some c => exact enMin_le.2
      | some b =>
        cases a with
        | none => exact z.elim
        | some a =>
          have z' : a ≤ b := z
          cases c with
          | none => exact z'
          | some c =>
            simp only [enMin, enLe]
            split <;> split <;> omega
    by_cases c : up (some (com2 p w)) = true
    · rw [if_pos c]
      trivial
    · rw [if_neg c, if_neg (fun z => c (up_mono e z))]
      exact e
theorem com_some_mono2 {r r' w w' : Rg} (h : Sub r r') (k : Sub w w') (z : (comR r w).isSome = true) : (comR r' w').isSome = true := by
  have y := com_mono2 h k
  cases e : comR r w with
  | none => rw [e] at z; cases z
  | some a =>
    rw [e] at y
    cases e2 : comR r' w' with
    | none => rw [e2] at y; exact y.elim
    | some b => rfl
/-- a rule with wider ranges, or with fewer conditions -/
inductive WiderR : Rl → Rl → Prop
  | set {x : Str} {r r' : Rg} {cs cs' : List Cd} (w : Sub r r') (c : ∀ c' ∈ cs', ∃ c ∈ cs, c.1 = c'.1 ∧ Sub c.2 c'.2) : WiderR (.set x r cs) (.set x r' cs')
  | stp {x y : Str} {f a : Int} {r r' : Rg} {cs cs' : List Cd} (nz : f ≠ 0) (w : Sub r r') (c : ∀ c' ∈ cs', ∃ c ∈ cs, c.1 = c'.1 ∧ Sub c.2 c'.2) : WiderR (.stp x y f a r cs) (.stp x y f a r' cs')
theorem WiderR.refl : ∀ {r : Rl}, r.zero = false → WiderR r r
  | .set _ _ _, _ => .set (Sub.refl _) fun c m => ⟨c, m, rfl, Sub.refl _⟩
  | .stp _ _ f _ _ _, z => .stp (of_decide_eq_false z) (Sub.refl _) fun c m => ⟨c, m, rfl, Sub.refl _⟩
theorem WiderR.xOf {r r' : Rl} (h : WiderR r r') : xOfR r = xOfR r' := by cases h <;> rfl
theorem conds_wider {g g' : Hd} (hg : SubF g g') {cs cs' : List Cd} (c : ∀ c' ∈ cs', ∃ c ∈ cs, c.1 = c'.1 ∧ Sub c.2 c'.2) (k : cs.all (onC g) = true) : cs'.all (onC g') = true := by
  rw [List.all_eq_true] at k ⊢
  intro c' m'
  obtain ⟨c0, m0, e, s⟩ := c c' m'
  have z := k c0 m0
  unfold onC at z ⊢
  rw [e] at z
  exact com_some_mono2 (hg c'.1) s z
theorem gift_wider {g g' : Hd} (hg : SubF g g') {r r' : Rl} (h : WiderR r r') : Sub (giftR g r) (giftR g' r') := by
  unfold giftR
  cases h with
  | @set x r r' cs cs' w c =>
    by_cases o : onR g (.set x r cs) = true
    · have o' : onR g' (.set x r' cs') = true := conds_wider hg c o
      rw [if_pos o, if_pos o']
      exact w
    · rw [if_neg o]
      trivial
  | @stp x y f a r r' cs cs' nz w c =>
    by_cases o : onR g (.stp x y f a r cs) = true
    · have o1 : (cs.all (onC g) && (comR (g y) r).isSome) = true := o
      rw [Bool.and_eq_true] at o1
      have o' : onR g' (.stp x y f a r' cs') = true := by
        show (cs'.all (onC g') && (comR (g' y) r').isSome) = true
        rw [conds_wider hg c o1.1, com_some_mono2 (hg y) w o1.2]
        rfl
      rw [if_pos o, if_pos o']
      exact step_mono nz (com_mono2 (hg y) w)
    · rw [if_neg o]
      trivial
theorem gift_mono' {g g' : Hd} (hg : SubF g g') {r : Rl} (z : r.zero = false) : Sub (giftR g r) (giftR g' r) := gift_wider hg (WiderR.refl z)
/-- the least holding is there -/
theorem least_ex {rs : List Rl} (nz : ∀ r ∈ rs, r.zero = false) : ∃ g, IsLeast rs g := by
  have z := fun x : Str => glb_rg fun r => ∃ h : Hd, Hold rs h ∧ h x = r
  refine ⟨fun x => (z x).choose, fun r m => ?_, fun h hh x => (z x).choose_spec.1 _ ⟨h, hh, rfl⟩⟩
  refine (z (xOfR r)).choose_spec.2 _ ?_
  rintro _ ⟨h, hh, rfl⟩
  exact (gift_mono' (fun x => (z x).choose_spec.1 _ ⟨h, hh, rfl⟩) (nz r m)).trans (hh r m)
theorem Sy.ex {ns : List Str} {rs : List Rl} (Y : Sy ns rs) : ∃ g, IsLeast rs g := least_ex fun r m => (Y.rl r m).nz
theorem Sy.lh {ns : List Str} {rs : List Rl} (Y : Sy ns rs) : IsLeast rs (lhR rs) := by
  obtain ⟨g, L⟩ := Y.ex
  rw [L.lh]
  exact L
/-- with wider rules nothing becomes less -/
theorem least_wider {rs rs' : List Rl} {g g' : Hd} (L : IsLeast rs g) (L' : IsLeast rs' g') (h : ∀ r ∈ rs, ∃ r' ∈ rs', WiderR r r') : SubF g g' :=
  L.2 g' fun r m => by
    obtain ⟨r', m', w⟩ := h r m
    rw [w.xOf]
    exact (gift_wider (SubF.refl g') w).trans (L'.1 r' m')

def BadX (cs : List Addr) (j : Nat) (H : Hp) (v : V) (E : XK) : Prop := ∃ c, cs[j]? = some c ∧ ∀ d H', Same H H' → H d = none → H' d = some (.xd [("value", v)]) → E (.ref c) (some d) H'
theorem same_none {H H' : Hp} {l : Addr} (k : Same H H') (e : H' l = none) : H l = none := by
  cases z : H l with
  | none => rfl
  | some u => rw [k _ _ z] at e; cases e
theorem BadX.same {cs : List Addr} {j : Nat} {H H' : Hp} {v : V} {E : XK} (k : Same H H') (b : BadX cs j H v E) : BadX cs j H' v E := by
  obtain ⟨c, ec, h⟩ := b
  exact ⟨c, ec, fun d H2 k2 n e => h d H2 (k.trans k2) (same_none k n) e⟩


def sp_check_number (K : PySem.W.Frag) (C : Addr) (cs : List Addr) : Sp := fun vs H Q E => ∃ a p q ns rs n, vs = [.ref a, .int n] ∧ SysAt K C H a p q ns rs ∧ rs.length ≤ 1000 ∧ (0 ≤ n ∧ n < (rs.length : Int) → Q .non H) ∧ (¬ (0 ≤ n ∧ n < (rs.length : Int)) → BadX cs 4 H (.int n) E)

def sp_check_name (K : PySem.W.Frag) (C : Addr) (cs : List Addr) : Sp := fun vs H Q E => ∃ a p q ns rs x, vs = [.ref a, .str x] ∧ SysAt K C H a p q ns rs ∧ (x ∈ ns → ∀ H', Same H H' → Q .non H') ∧ (x ∉ ns → BadX cs 5 H (.str x) E)

def movC (t : Int) (sh : Str → Int) (c : Cd) : Cd := (c.1, stepR t (sh c.1) c.2)
/-- the rule for all values times t, plus the shift of their name -/
def movR (t : Int) (sh : Str → Int) : Rl → Rl
  | .set x r cs => .set x (stepR t (sh x) r) (cs.map (movC t sh))
  | .stp x y f a r cs => .stp x y f (t * a + sh x - f * sh y) (stepR t (sh y) r) (cs.map (movC t sh))
def ShD (H : Hp) (d : Addr) (ks : List Str) (sh : Str → Int) : Prop := DF H d ks (fun x => V.int (sh x)) ∧ ∀ x, x ∉ ks → sh x = 0
theorem ShD.same {H H' : Hp} {d : Addr} {ks : List Str} {sh : Str → Int} (k : Same H H') (h : ShD H d ks sh) : ShD H' d ks sh := ⟨h.1.same k, h.2⟩
theorem ShD.getD {H : Hp} {d : Addr} {ks : List Str} {sh : Str → Int} (h : ShD H d ks sh) (x : Str) : ∃ o, DGet H d (.str x) o ∧ o.getD (.int 0) = .int (sh x) := by
  by_cases m : x ∈ ks
  · exact ⟨_, h.1.get m, rfl⟩
  · have z := DGet.k (k := Sum.inr x) h.1
    rw [fK_no m] at z
    exact ⟨_, z, by rw [h.2 x m]; rfl⟩
theorem ShD.isD {H : Hp} {d : Addr} {ks : List Str} {sh : Str → Int} (h : ShD H d ks sh) : IsD H d := .inl ⟨_, .inl h.1⟩


def sp__changed_range (K : PySem.W.Frag) : Sp := fun vs H Q _ => ∃ (x : Str) (v : V) (r : Rg) (t : Int) (d : Addr) (ks : List Str) (sh : Str → Int), vs = [.str x, v, .int t, .ref d] ∧ RgV K H v r ∧ RgFit r ∧ SzR r ∧ t.natAbs < 2 ^ 400 ∧ ShD H d ks sh ∧
  ∀ v' H', Same H H' → RgV K H' v' (stepR t (sh x) r) → Q v' H'

def sp_changed_rule (K : PySem.W.Frag) : Sp := fun vs H Q _ => ∃ (v : V) (r : Rl) (t : Int) (d : Addr) (ks ws : List Str) (sh : Str → Int), vs = [v, .int t, .ref d] ∧ Dp K H v r.d ∧ RlB ws r ∧ t.natAbs < 2 ^ 400 ∧ (∀ x, (sh x).natAbs < 2 ^ 300) ∧ ShD H d ks sh ∧
  ∀ v' H', Same H H' → Dp K H' v' (movR t sh r).d → Q v' H'

/-- the rules of a system, all values times t plus shifts -/
def movRs (t : Int) (sh : Str → Int) (rs : List Rl) : List Rl := rs.map (movR t sh)
def sp_System__changed (K : PySem.W.Frag) (C : Addr) : Sp := fun vs H Q _ => ∃ (a p q : Addr) (ns : List Str) (rs : List Rl) (t : Int) (d : Addr) (ks : List Str) (sh : Str → Int), vs = [.ref a, .int t, .ref d] ∧ SysAt K C H a p q ns rs ∧ sortedS ns = true ∧ Sy ns rs ∧ Sy ns (movRs t sh rs) ∧ t.natAbs < 2 ^ 400 ∧ (∀ x, (sh x).natAbs < 2 ^ 300) ∧ ShD H d ks sh ∧
  ∀ H' o p' q', Same H H' → H o = none → H p' = none → H q' = none → SysAt K C H' o p' q' ns (movRs t sh rs) → Q (.ref o) H'



/-! ### all values times a number, and moved -/
def offE (s : Int) (sd : Bool) : Int := if sd = true then s else -s
def stP (t s : Int) (p : Pr) : Pr := if t > 0 then (tk t s p.1, tk t s p.2) else (tk t s p.2, tk t s p.1)
theorem stepR_some {t s : Int} {p : Pr} : stepR t s (some p) = some (stP t s p) := by
  obtain ⟨l, u⟩ := p
  show (if t > 0 then some (tk t s l, tk t s u) else some (tk t s u, tk t s l)) = some (if t > 0 then (tk t s l, tk t s u) else (tk t s u, tk t s l))
  split <;> rfl
theorem sideX_sideX {sd : Bool} {t : Int} : sideX (sideX sd t) t = sd := by
  unfold sideX
  by_cases c : t > 0
  · rw [if_pos c, if_pos c]
  · rw [if_neg c, if_neg c]
    cases sd <;> rfl
theorem end_stP {t s : Int} {p : Pr} (sd : Bool) : endP (stP t s p) sd = (endP p (sideX sd t)).map fun v => (t.natAbs : Int) * v + offE s sd := by
  obtain ⟨l, u⟩ := p
  by_cases c : t > 0
  · have e : (t.natAbs : Int) = t := by omega
    unfold stP sideX
    rw [if_pos c, if_pos c, e]
    cases sd with
    | true => cases u <;> rfl
    | false =>
      cases l with
      | none => rfl
      | some x =>
        show some (-(t * x + s)) = some (t * (-x) + -s)
        rw [Int.mul_neg]
        congr 1
        omega
  · have e : (t.natAbs : Int) = -t := by omega
    unfold stP sideX
    rw [if_neg c, if_neg c, e]
    cases sd with
    | true =>
      cases l with
      | none => rfl
      | some x =>
        show some (t * x + s) = some (-t * (-x) + s)
        rw [Int.neg_mul_neg]
    | false =>
      cases u with
      | none => rfl
      | some x =>
        show some (-(t * x + s)) = some (-t * x + -s)
        rw [Int.neg_mul]
        congr 1
        omega
theorem enMin_map {m o : Int} (m0 : 0 < m) {a b : En} : enMin (a.map fun v => m * v + o) (b.map fun v => m * v + o) = (enMin a b).map fun v => m * v + o := by
  cases a with
  | none => rfl
  | some a =>
    cases b with
    | none => rfl
    | some b =>
      show some (if m * b + o < m * a + o then m * b + o else m * a + o) = some (m * (if b < a then b else a) + o)
      by_cases c : b < a
      · have := Int.mul_lt_mul_of_pos_left c m0
        rw [if_pos c, if_pos (by omega)]
      · have := Int.mul_le_mul_of_nonneg_left (Int.not_lt.mp c) (Int.le_of_lt m0)
        rw [if_neg c, if_neg (by omega)]
theorem nat0 {t : Int} (h : t ≠ 0) : (0 : Int) < (t.natAbs : Int) := by omega
theorem stP_com {t s : Int} (t0 : t ≠ 0) {p q : Pr} : stP t s (com2 p q) = com2 (stP t s p) (stP t s q) := endP_ext fun sd => by
  rw [end_stP, end_com2, end_com2, end_stP, end_stP, enMin_map (nat0 t0)]
theorem up_stP {t s : Int} (t0 : t ≠ 0) {p : Pr} : up (some (stP t s p)) = up (some p) := by
  rw [Bool.eq_iff_iff, up_iff, up_iff]
  have m0 := nat0 t0
  have key : ∀ a b : Int, ((t.natAbs : Int) * a + offE s false) + ((t.natAbs : Int) * b + offE s true) < 0 ↔ a + b < 0 := fun a b => by
    have e : ((t.natAbs : Int) * a + offE s false) + ((t.natAbs : Int) * b + offE s true) = (t.natAbs : Int) * (a + b) := by
      rw [Int.mul_add]
      show (_ + -s) + (_ + s) = _
      omega
    rw [e]
    constructor
    · intro z
      by_cases c : a + b < 0
      · exact c
      · have := Int.mul_nonneg (Int.le_of_lt m0) (Int.not_lt.mp c)
        omega
    · intro z
      exact Int.mul_neg_of_pos_of_neg m0 z
  by_cases c : t > 0
  · have e0 : sideX false t = false := if_pos c
    have e1 : sideX true t = true := if_pos c
    rw [end_stP, end_stP, e0, e1]
    constructor
    · rintro ⟨a, b, h1, h2, l⟩
      cases ea : endP p false with
      | none => rw [ea] at h1; cases h1
      | some a' =>
        cases eb : endP p true with
        | none => rw [eb] at h2; cases h2
        | some b' =>
          rw [ea] at h1
          rw [eb] at h2
          cases h1
          cases h2
          exact ⟨a', b', rfl, rfl, (key a' b').mp l⟩
    · rintro ⟨a, b, h1, h2, l⟩
      rw [h1, h2]
      exact ⟨_, _, rfl, rfl, (key a b).mpr l⟩
  · have e0 : sideX false t = true := if_neg c
    have e1 : sideX true t = false := if_neg c
    rw [end_stP, end_stP, e0, e1]
    constructor
    · rintro ⟨a, b, h1, h2, l⟩
      cases ea : endP p true with
      | none => rw [ea] at h1; cases h1
      | some a' =>
        cases eb : endP p false with
        | none => rw [eb] at h2; cases h2
        | some b' =>
          rw [ea] at h1
          rw [eb] at h2
          cases h1
          cases h2
          have := (key a' b').mp l
          exact ⟨b', a', rfl, rfl, by omega⟩
    · rintro ⟨a, b, h1, h2, l⟩
      rw [h1, h2]
      exact ⟨_, _, rfl, rfl, (key b a).mpr (by omega)⟩
theorem step_com {t s : Int} (t0 : t ≠ 0) {a b : Rg} : stepR t s (comR a b) = comR (stepR t s a) (stepR t s b) := by
  match a, b with
  | none, none => rfl
  | none, some _ => rfl
  | some p, none => rw [stepR_some]; rfl
  | some p, some q =>
    rw [stepR_some, stepR_some, comR_some, comR_some, ← stP_com t0, up_stP t0]
    split
    · rfl
    · rw [stepR_some]
theorem step_some {t s : Int} {a : Rg} : (stepR t s a).isSome = a.isSome := by
  cases a with
  | none => rfl
  | some p => rw [stepR_some]; rfl
theorem step_step {a b c d : Int} (a0 : a ≠ 0) (c0 : c ≠ 0) {r : Rg} : stepR a b (stepR c d r) = stepR (a * c) (a * d + b) r := by
  cases r with
  | none => rfl
  | some p =>
    rw [stepR_some, stepR_some, stepR_some]
    congr 1
    refine endP_ext fun sd => ?_
    have sx : sideX (sideX sd a) c = sideX sd (a * c) := by
      unfold sideX
      by_cases ha : a > 0
      · by_cases hc : c > 0
        · rw [if_pos ha, if_pos hc, if_pos (Int.mul_pos ha hc)]
        · have := Int.mul_neg_of_pos_of_neg ha (show c < 0 by omega)
          rw [if_pos ha, if_neg hc, if_neg (show ¬ a * c > 0 by omega)]
      · by_cases hc : c > 0
        · have := Int.mul_neg_of_neg_of_pos (show a < 0 by omega) hc
          rw [if_neg ha, if_pos hc, if_neg (show ¬ a * c > 0 by omega)]
        · have := Int.mul_pos_of_neg_of_neg (show a < 0 by omega) (show c < 0 by omega)
          rw [if_neg ha, if_neg hc, if_pos (show a * c > 0 from this)]
          cases sd <;> rfl
    rw [end_stP, end_stP, end_stP, sx]
    cases endP p (sideX sd (a * c)) with
    | none => rfl
    | some v =>
      show some _ = some _
      congr 1
      have na : ((a * c).natAbs : Int) = (a.natAbs : Int) * (c.natAbs : Int) := by rw [Int.natAbs_mul]; exact Int.natCast_mul _ _
      show (a.natAbs : Int) * ((c.natAbs : Int) * v + offE d (sideX sd a)) + offE b sd = ((a * c).natAbs : Int) * v + offE (a * d + b) sd
      rw [na, Int.mul_add, ← Int.mul_assoc, Int.add_assoc]
      congr 1
      unfold offE sideX
      by_cases ha : a > 0
      · have ea : (a.natAbs : Int) = a := by omega
        rw [if_pos ha, ea]
        cases sd with
        | true => rfl
        | false =>
          show a * (-d) + -b = -(a * d + b)
          rw [Int.mul_neg]
          omega
      · have ea : (a.natAbs : Int) = -a := by omega
        rw [if_neg ha, ea]
        cases sd with
        | true =>
          show -a * (-d) + b = a * d + b
          rw [Int.neg_mul_neg]
        | false =>
          show -a * d + -b = -(a * d + b)
          rw [Int.neg_mul]
          omega
/-- holdings moved -/
def movH (t : Int) (sh : Str → Int) (f : Hd) : Hd := fun x => stepR t (sh x) (f x)
theorem onC_mov {t : Int} (t0 : t ≠ 0) {sh : Str → Int} {f : Hd} {c : Cd} : onC (movH t sh f) (movC t sh c) = onC f c := by
  show (comR (stepR t (sh c.1) (f c.1)) (stepR t (sh c.1) c.2)).isSome = (comR (f c.1) c.2).isSome
  rw [← step_com t0, step_some]
theorem all_mov {t : Int} (t0 : t ≠ 0) {sh : Str → Int} {f : Hd} {cs : List Cd} : (cs.map (movC t sh)).all (onC (movH t sh f)) = cs.all (onC f) := by
  rw [List.all_map]
  congr 1
  funext c
  exact onC_mov t0
theorem gift_mov {t : Int} (t0 : t ≠ 0) {sh : Str → Int} {f : Hd} {r : Rl} (nz : r.zero = false) : giftR (movH t sh f) (movR t sh r) = stepR t (sh (xOfR r)) (giftR f r) := by
  unfold giftR
  match r, nz with
  | .set x rr cs, _ =>
    have e : onR (movH t sh f) (movR t sh (.set x rr cs)) = onR f (.set x rr cs) := all_mov t0
    rw [e]
    split
    · rfl
    · rfl
  | .stp x y fa a rr cs, nz =>
    have f0 : fa ≠ 0 := of_decide_eq_false nz
    have e1 : comR (movH t sh f y) (stepR t (sh y) rr) = stepR t (sh y) (comR (f y) rr) := (step_com t0).symm
    have e : onR (movH t sh f) (movR t sh (.stp x y fa a rr cs)) = onR f (.stp x y fa a rr cs) := by
      show ((cs.map (movC t sh)).all (onC (movH t sh f)) && (comR (movH t sh f y) (stepR t (sh y) rr)).isSome) = (cs.all (onC f) && (comR (f y) rr).isSome)
      rw [all_mov t0, e1, step_some]
    rw [e]
    split
    · show stepR fa (t * a + sh x - fa * sh y) (comR (movH t sh f y) (stepR t (sh y) rr)) = stepR t (sh x) (stepR fa a (comR (f y) rr))
      rw [e1, step_step f0 t0, step_step t0 f0, Int.mul_comm fa t]
      congr 1
      omega
    · rfl
theorem xOf_mov {t : Int} {sh : Str → Int} {r : Rl} : xOfR (movR t sh r) = xOfR r := by cases r <;> rfl
theorem hold_mov {t : Int} (t0 : t ≠ 0) {sh : Str → Int} {f : Hd} {rs : List Rl} (nz : ∀ r ∈ rs, r.zero = false) (h : Hold rs f) : Hold (movRs t sh rs) (movH t sh f) := fun r' m => by
  obtain ⟨r, mr, rfl⟩ := List.mem_map.mp m
  rw [gift_mov t0 (nz r mr), xOf_mov]
  exact step_mono t0 (h r mr)
theorem pull_ex {t : Int} (t0 : t ≠ 0) (s : Int) (b : Rg) : ∃ p, Sub (stepR t s p) b ∧ ∀ a, Sub (stepR t s a) b → Sub a p := by
  cases b with
  | none =>
    refine ⟨none, trivial, fun a h => ?_⟩
    cases a with
    | none => trivial
    | some a => rw [stepR_some] at h; exact h.elim
  | some q =>
    have m0 := nat0 t0
    have ends : ∀ (e : Bool → En) (sd : Bool), endP (neg (e false), e true) sd = e sd := fun e sd => by
      cases sd with
      | true => rfl
      | false =>
        show neg (neg (e false)) = e false
        cases e false <;> simp [neg]
    let e : Bool → En := fun sd => (endP q (sideX sd t)).map fun v => (v - offE s (sideX sd t)) / (t.natAbs : Int)
    refine ⟨some (neg (e false), e true), ?_, fun a h => ?_⟩
    · rw [stepR_some]
      intro sd
      rw [end_stP, ends]
      show enLe (((endP q (sideX (sideX sd t) t)).map _).map _) _
      rw [sideX_sideX]
      cases endP q sd with
      | none => trivial
      | some v =>
        show (t.natAbs : Int) * ((v - offE s sd) / (t.natAbs : Int)) + offE s sd ≤ v
        have := Int.mul_ediv_self_le (x := v - offE s sd) (k := (t.natAbs : Int)) (by omega)
        omega
    · cases a with
      | none => trivial
      | some p =>
        rw [stepR_some] at h
        intro sd
        rw [ends]
        have z := h (sideX sd t)
        rw [end_stP, sideX_sideX] at z
        show enLe (endP p sd) ((endP q (sideX sd t)).map _)
        cases eq : endP q (sideX sd t) with
        | none => trivial
        | some v =>
          rw [eq] at z
          cases ep : endP p sd with
          | none => rw [ep] at z; exact z.elim
          | some w =>
            rw [ep] at z
            have z' : (t.natAbs : Int) * w + offE s (sideX sd t) ≤ v := z
            show w ≤ (v - offE s (sideX sd t)) / (t.natAbs : Int)
            rw [Int.le_ediv_iff_mul_le m0, Int.mul_comm]
            omega
/-- the least holding of a moved system -/
theorem least_mov {t : Int} (t0 : t ≠ 0) {sh : Str → Int} {g : Hd} {rs : List Rl} (nz : ∀ r ∈ rs, r.zero = false) (L : IsLeast rs g) : IsLeast (movRs t sh rs) (movH t sh g) := by
  refine ⟨hold_mov t0 nz L.1, fun h hh => ?_⟩
  have P := fun x => pull_ex t0 (sh x) (h x)
  let k : Hd := fun x => (P x).choose
  have kh : SubF (movH t sh k) h := fun x => (P x).choose_spec.1
  have hk : Hold rs k := fun r m => by
    refine (P (xOfR r)).choose_spec.2 _ ?_
    rw [← gift_mov t0 (nz r m)]
    have z0 : (movR t sh r).zero = false := by
      have := nz r m
      cases r <;> exact this
    refine (gift_mono' kh z0).trans ?_
    have z := hh (movR t sh r) (List.mem_map.mpr ⟨r, m, rfl⟩)
    rwa [xOf_mov] at z
  have z := L.2 k hk
  exact fun x => (step_mono t0 (z x)).trans (kh x)

theorem fit_step {t s : Int} (t0 : t ≠ 0) {r : Rg} (h : RgFit r) : RgFit (stepR t s r) := by
  cases r with
  | none => trivial
  | some p =>
    rw [stepR_some]
    exact fit_up.mpr ((up_stP t0).trans (fit_up.mp h))
theorem mulA_bits {t x s : Int} {a b c : Nat} (ht : t.natAbs < 2 ^ a) (hx : x.natAbs < 2 ^ b) (hs : s.natAbs < 2 ^ c) (h : 2 ^ (a + b) + 2 ^ c ≤ 2 ^ 250) : (t * x + s).natAbs < 2 ^ 250 := by
  have h1 : (t * x).natAbs ≤ 2 ^ a * 2 ^ b := by
    rw [Int.natAbs_mul]
    exact Nat.mul_le_mul (Nat.le_of_lt ht) (Nat.le_of_lt hx)
  rw [← Nat.pow_add] at h1
  generalize t * x = y at h1
  generalize 2 ^ (a + b) = A at h1 h
  generalize 2 ^ c = B at hs h
  generalize 2 ^ 250 = D at h
  omega
theorem rgB_mov {t s : Int} (t0 : t ≠ 0) (ht : t.natAbs < 2 ^ 96) (hs : s.natAbs < 2 ^ 120) {r : Rg} (h : RgGd r) : RgB (stepR t s r) := by
  obtain ⟨h1, h2⟩ := h
  have b31 : (10 : Int) ^ 31 = 10000000000000000000000000000000 := by decide
  have p : (2 : Nat) ^ 250 ≤ 2 ^ 300 := Nat.pow_le_pow_right (by decide) (by decide)
  have one : ∀ o, BdOk (10 ^ 31) o → ∀ i, tk t s o = some i → i.natAbs < 2 ^ 300 := fun o ho i e => by
    cases o with
    | none => cases e
    | some x =>
      have ho' : -(10 : Int) ^ 31 ≤ x ∧ x ≤ (10 : Int) ^ 31 := ho
      rw [b31] at ho'
      have e' : t * x + s = i := Option.some.inj e
      rw [← e']
      exact Nat.lt_of_lt_of_le (mulA_bits (a := 96) (b := 104) (c := 120) ht (Nat.lt_of_le_of_lt (by omega : _ ≤ 10000000000000000000000000000000) (by decide)) hs (by decide)) p
  have f := fit_step (s := s) t0 (fit_of_bad h1)
  match r, h1, h2, f with
  | none, h1, _, _ => cases h1
  | some (l, u), _, h2, f =>
    rw [stepR_some] at f ⊢
    unfold stP at f ⊢
    by_cases c : t > 0
    · rw [if_pos c] at f ⊢
      exact ⟨f, _, _, rfl, one l h2.1, one u h2.2⟩
    · rw [if_neg c] at f ⊢
      exact ⟨f, _, _, rfl, one u h2.2, one l h2.1⟩
theorem names_mov {t : Int} {sh : Str → Int} {r : Rl} : (movR t sh r).names = r.names := by
  have e : ∀ cs : List Cd, (cs.map (movC t sh)).map (·.1) = cs.map (·.1) := fun cs => by rw [List.map_map]; rfl
  cases r with
  | set x r cs =>
    show x :: (cs.map (movC t sh)).map (·.1) = x :: cs.map (·.1)
    rw [e]
  | stp x y f a r cs =>
    show x :: y :: (cs.map (movC t sh)).map (·.1) = x :: y :: cs.map (·.1)
    rw [e]
theorem rlB_mov {ws : List Str} {t : Int} {sh : Str → Int} (t0 : t ≠ 0) (ht : t.natAbs < 2 ^ 96) (hs : ∀ x, (sh x).natAbs < 2 ^ 120) {r : Rl} (h : RlGd ws r) : RlB ws (movR t sh r) := by
  have B := h.b
  have cl : (movR t sh r).cs.length = r.cs.length := by
    cases r with
    | set x r cs => exact List.length_map _
    | stp x y f a r cs => exact List.length_map _
  refine ⟨fun x m => B.nm x (names_mov (r := r) ▸ m), fun g m => ?_, ?_, by rw [cl]; exact B.cs, fun x y f a g cs e => ?_⟩
  · match r, h, m with
    | .set x r cs, h, m =>
      rcases List.mem_cons.mp (show g ∈ stepR t (sh x) r :: (cs.map (movC t sh)).map (·.2) from m) with rfl | m
      · exact rgB_mov t0 ht (hs _) (h.rg _ List.mem_cons_self)
      · obtain ⟨c', m', rfl⟩ := List.mem_map.mp m
        obtain ⟨c, mc, rfl⟩ := List.mem_map.mp m'
        exact rgB_mov t0 ht (hs _) (h.rg _ (List.mem_cons_of_mem _ (List.mem_map.mpr ⟨c, mc, rfl⟩)))
    | .stp x y f a r cs, h, m =>
      rcases List.mem_cons.mp (show g ∈ stepR t (sh y) r :: (cs.map (movC t sh)).map (·.2) from m) with rfl | m
      · exact rgB_mov t0 ht (hs _) (h.rg _ List.mem_cons_self)
      · obtain ⟨c', m', rfl⟩ := List.mem_map.mp m
        obtain ⟨c, mc, rfl⟩ := List.mem_map.mp m'
        exact rgB_mov t0 ht (hs _) (h.rg _ (List.mem_cons_of_mem _ (List.mem_map.mpr ⟨c, mc, rfl⟩)))
  · have := h.nz
    cases r <;> exact this
  · match r, h, e with
    | .stp x' y' f' a' r cs', h, e =>
      have e' : Rl.stp x' y' f' (t * a' + sh x' - f' * sh y') (stepR t (sh y') r) (cs'.map (movC t sh)) = .stp x y f a g cs := e
      cases e'
      have nb : f.natAbs ≤ 10 ∧ a'.natAbs ≤ 10 ^ 32 := h.nb
      refine ⟨by omega, ?_⟩
      have b32 : (10 : Nat) ^ 32 = 100000000000000000000000000000000 := by decide
      have h1 : (t * a' + sh x).natAbs < 2 ^ 250 := mulA_bits (a := 96) (b := 107) (c := 120) ht (Nat.lt_of_le_of_lt nb.2 (by decide)) (hs _) (by decide)
      have h2 : (f * sh y + 0).natAbs < 2 ^ 250 := mulA_bits (a := 4) (b := 120) (c := 1) (Nat.lt_of_le_of_lt nb.1 (by decide)) (hs _) (by decide) (by decide)
      rw [Int.add_zero] at h2
      have p : (2 : Nat) ^ 300 = 2 ^ 250 * 2 ^ 50 := by rw [← Nat.pow_add]
      have p50 : (2 : Nat) ^ 50 = 1125899906842624 := by decide
      rw [p, p50]
      generalize t * a' + sh x = A at h1
      generalize f * sh y = B at h2
      generalize (2 : Nat) ^ 250 = D at h1 h2
      omega
theorem sy_mov {ns : List Str} {rs : List Rl} {t : Int} {sh : Str → Int} (Y : Sy ns rs) (gd : RowsGd ns rs) (t0 : t ≠ 0) (ht : t.natAbs < 2 ^ 96) (hs : ∀ x, (sh x).natAbs < 2 ^ 120) : Sy ns (movRs t sh rs) :=
  ⟨Y.nd, Y.nok, Y.ln, by unfold movRs; rw [List.length_map]; exact Y.lr, fun r m => by
    obtain ⟨r', m', rfl⟩ := List.mem_map.mp m
    exact rlB_mov t0 ht hs (gd r' m')⟩
theorem Sy.laid {ns : List Str} {rs : List Rl} (Y : Sy ns rs) : Laid ns rs := ⟨fun x m => strOk_of (Y.nok x m), fun r m x mx => strOk_of (Y.nok x ((Y.rl r m).nm x mx))⟩

/-! ### small systems -/
theorem rgB_of {l u : Option Int} (f : RgFit (some (l, u))) (hl : ∀ i, l = some i → i.natAbs < 2 ^ 300) (hu : ∀ i, u = some i → i.natAbs < 2 ^ 300) : RgB (some (l, u)) := ⟨f, l, u, rfl, hl, hu⟩
theorem small_o {j : Int} (h : j.natAbs < 100000000000000000000000000000000000) : ∀ i, some j = some i → i.natAbs < 2 ^ 300 := fun i e => by
  cases e
  exact Nat.lt_of_lt_of_le h (by decide)
theorem none_o : ∀ i : Int, (none : Option Int) = some i → i.natAbs < 2 ^ 300 := fun i e => by cases e
theorem rlB_set {ws : List Str} {x : Str} {r : Rg} {cs : List Cd} (hx : x ∈ ws) (b : RgB r) (hc : ∀ c ∈ cs, c.1 ∈ ws ∧ RgB c.2) (lc : cs.length ≤ 1000) : RlB ws (.set x r cs) := by
  refine ⟨fun z m => ?_, fun z m => ?_, rfl, lc, fun x y f a g cs e => by cases e⟩
  · rcases List.mem_cons.mp (show z ∈ x :: cs.map (·.1) from m) with rfl | m
    · exact hx
    · obtain ⟨c, mc, rfl⟩ := List.mem_map.mp m
      exact (hc c mc).1
  · rcases List.mem_cons.mp (show z ∈ r :: cs.map (·.2) from m) with rfl | m
    · exact b
    · obtain ⟨c, mc, rfl⟩ := List.mem_map.mp m
      exact (hc c mc).2
theorem rlB_stp {ws : List Str} {x y : Str} {f a : Int} {r : Rg} {cs : List Cd} (hx : x ∈ ws) (hy : y ∈ ws) (nz : f ≠ 0) (hf : f.natAbs ≤ 100) (ha : a.natAbs < 2 ^ 300) (b : RgB r) (hc : ∀ c ∈ cs, c.1 ∈ ws ∧ RgB c.2) (lc : cs.length ≤ 1000) : RlB ws (.stp x y f a r cs) := by
  refine ⟨fun z m => ?_, fun z m => ?_, decide_eq_false nz, lc, fun x' y' f' a' g' cs' e => by cases e; exact ⟨hf, ha⟩⟩
  · rcases List.mem_cons.mp (show z ∈ x :: y :: cs.map (·.1) from m) with rfl | m
    · exact hx
    rcases List.mem_cons.mp m with rfl | m
    · exact hy
    · obtain ⟨c, mc, rfl⟩ := List.mem_map.mp m
      exact (hc c mc).1
  · rcases List.mem_cons.mp (show z ∈ r :: cs.map (·.2) from m) with rfl | m
    · exact b
    · obtain ⟨c, mc, rfl⟩ := List.mem_map.mp m
      exact (hc c mc).2

theorem enMin_eq {a b : En} (h : enLe a b) : enMin b a = a := by
  cases b with
  | none => rfl
  | some b =>
    cases a with
    | none => exact h.elim
    | some a =>
      have h' : a ≤ b := h
      simp only [enMin]
      split
      · rfl
      · congr 1; omega
theorem com_of_sub {a b : Rg} (h : Sub a b) (f : RgFit a) : comR a b = a := by
  match a, b, h with
  | none, _, _ => rfl
  | some p, none, h => exact h.elim
  | some p, some q, h =>
    have e : com2 p q = p := endP_ext fun s => by
      rw [end_com2]
      exact enMin_eq (h s)
    rw [comR_some, e, if_neg (by rw [fit_up.mp f]; exact Bool.false_ne_true)]
theorem of_com {a b : Rg} (h : comR a b = a) : Sub a b ∧ RgFit a := by
  match a, b, h with
  | none, _, _ => exact ⟨trivial, trivial⟩
  | some p, none, h => cases h
  | some p, some q, h =>
    rw [comR_some] at h
    by_cases c : up (some (com2 p q)) = true
    · rw [if_pos c] at h
      cases h
    · rw [if_neg c] at h
      have e : com2 p q = p := Option.some.inj h
      refine ⟨fun s => ?_, ?_⟩
      · rw [← e, end_com2]
        exact enMin_le.1
      · rw [e] at c
        exact fit_up.mpr (by simpa using c)

/-- a holding in a record, its bounds not too wide -/
structure HeldS (K : PySem.W.Frag) (H : Hp) (a : Addr) (ws : List Str) (f : Hd) : Prop where
  dc : ∃ u : Str → V, DF H a ws u ∧ ∀ x ∈ ws, RgV K H (u x) (f x)
  sz : ∀ x ∈ ws, SzR (f x)
theorem HeldS.get {K : PySem.W.Frag} {H : Hp} {a : Addr} {ws : List Str} {f : Hd} (h : HeldS K H a ws f) {x : Str} (m : x ∈ ws) : ∃ v, DGet H a (.str x) (some v) ∧ RgV K H v (f x) := by
  obtain ⟨u, d, r⟩ := h.dc
  exact ⟨u x, d.get m, r x m⟩
theorem HeldS.same {K : PySem.W.Frag} {H H' : Hp} {a : Addr} {ws : List Str} {f : Hd} (k : Same H H') (h : HeldS K H a ws f) : HeldS K H' a ws f := by
  obtain ⟨u, d, r⟩ := h.dc
  exact ⟨⟨u, d.same k, fun x m => (r x m).same k⟩, h.sz⟩
theorem Held.s {K : PySem.W.Frag} {H : Hp} {a : Addr} {ws : List Str} {f : Hd} (h : Held K H a ws f) : HeldS K H a ws f := ⟨h.dc, fun x m => (h.gd x m).2⟩
theorem gift_off' {f : Hd} {r : Rl} {c : Cd} (m : c ∈ r.cs) (h : onC f c = false) : giftR f r = none := by
  have o : onR f r = false := by
    cases r with
    | set x rr cs =>
      show cs.all (onC f) = false
      rw [List.all_eq_false]
      exact ⟨c, m, by rw [h]; exact Bool.false_ne_true⟩
    | stp x y fa a rr cs =>
      show (cs.all (onC f) && _) = false
      rw [show cs.all (onC f) = false by rw [List.all_eq_false]; exact ⟨c, m, by rw [h]; exact Bool.false_ne_true⟩]
      rfl
  unfold giftR
  rw [o]
  rfl
theorem gift_set_on {f : Hd} {x : Str} {rr : Rg} {cs : List Cd} (h : ∀ c ∈ cs, onC f c = true) : giftR f (.set x rr cs) = rr := by
  unfold giftR
  have o : onR f (.set x rr cs) = true := List.all_eq_true.mpr h
  rw [o]
  rfl
theorem gift_stp_on {f : Hd} {x y : Str} {fa a : Int} {rr : Rg} {cs : List Cd} (h : ∀ c ∈ cs, onC f c = true) : giftR f (.stp x y fa a rr cs) = stepR fa a (comR (f y) rr) := by
  unfold giftR
  have o : onR f (.stp x y fa a rr cs) = (comR (f y) rr).isSome := by
    show (cs.all (onC f) && _) = _
    rw [show cs.all (onC f) = true from List.all_eq_true.mpr h]
    rfl
  rw [o]
  cases e : comR (f y) rr with
  | none => rfl
  | some p =>
    show stepR fa a (comR (f y) rr) = _
    rw [e]
theorem join_is {a b : Rg} : joinR a b = b ↔ Sub a b := by
  constructor
  · intro h
    rw [← h]
    exact sub_join_l
  · intro h
    refine Sub.antisymm ?_ sub_join_r
    match a, b, h with
    | none, b, _ => exact Sub.refl _
    | some p, none, h => exact h.elim
    | some (l1, u1), some (l2, u2), h =>
      have h1 := h true
      have h2 := h false
      intro s
      cases l1 <;> cases u1 <;> cases l2 <;> cases u2 <;> cases s <;> simp [endP, lon, gon, neg, enLe] at h1 h2 ⊢ <;> first | omega | (split <;> omega)
def okR (f : Hd) (r : Rl) : Bool := (giftR f r).isNone || decide (joinR (giftR f r) (f (xOfR r)) = f (xOfR r))
theorem okR_iff {f : Hd} {r : Rl} : okR f r = true ↔ Sub (giftR f r) (f (xOfR r)) := by
  unfold okR
  rw [Bool.or_eq_true, decide_eq_true_iff, join_is]
  constructor
  · rintro (h | h)
    · cases e : giftR f r with
      | none => trivial
      | some p => rw [e] at h; cases h
    · exact h
  · exact .inr
theorem holdB {f : Hd} {rs : List Rl} : rs.all (okR f) = true ↔ Hold rs f := by
  rw [List.all_eq_true]
  exact ⟨fun h r m => okR_iff.mp (h r m), fun h r m => okR_iff.mpr (h r m)⟩
theorem rl_one {K : PySem.W.Frag} {H : Hp} {v : V} {r : Rl} (h : Dp K H v (Rl.d r)) : ∃ p xs, v = .ref p ∧ SqT K H p xs ∧ xs[1]? = some (.str (xOfR r)) := by
  match r, h with
  | .set x rg cs, h =>
    obtain ⟨p, vr, q, ys, e, s, _⟩ := set_inv h
    exact ⟨p, _, e, s, rfl⟩
  | .stp x y fa ad rg cs, h =>
    obtain ⟨p, vr, q, ys, e, s, _⟩ := stp_inv h
    exact ⟨p, _, e, s, rfl⟩
theorem xOf_mem {ws : List Str} {r : Rl} (h : RlB ws r) : xOfR r ∈ ws := by
  refine h.nm _ ?_
  cases r <;> exact List.mem_cons_self

def setF (f : Hd) (x : Str) (r : Rg) : Hd := fun y => if y = x then r else f y
theorem join_fit2 {a b : Rg} (fa : RgFit a) (fb : RgFit b) : RgFit (joinR a b) := by
  cases a with
  | none => exact fb
  | some p => exact fit_sub sub_join_l fa (by simp)
theorem join_sz {a b : Rg} (sa : SzR a) (sb : SzR b) : SzR (joinR a b) := by
  match a, b, sa, sb with
  | none, _, _, sb => exact sb
  | some (l, u), none, sa, _ => exact sa
  | some (l1, u1), some (l2, u2), sa, sb =>
    refine ⟨fun i e => ?_, fun i e => ?_⟩
    · cases l1 with
      | none => cases e
      | some a =>
        cases l2 with
        | none => cases e
        | some c =>
          have e' : (if c < a then c else a) = i := Option.some.inj e
          split at e'
          · exact e' ▸ sb.1 c rfl
          · exact e' ▸ sa.1 a rfl
    · cases u1 with
      | none => cases e
      | some a =>
        cases u2 with
        | none => cases e
        | some c =>
          have e' : (if c > a then c else a) = i := Option.some.inj e
          split at e'
          · exact e' ▸ sb.2 c rfl
          · exact e' ▸ sa.2 a rfl
theorem rgIn_sz {m : Int} {r : Rg} (h : RgIn m r) (l : m ≤ 10000) : SzR r := by
  have b : ∀ o, BdOk m o → SzO o := fun o h i e => by
    subst e
    have h' : -m ≤ i ∧ i ≤ m := h
    have p : (2 : Nat) ^ 14 ≤ 2 ^ 30000 := Nat.pow_le_pow_right (by decide) (by decide)
    have q : (2 : Nat) ^ 14 = 16384 := by decide
    omega
  match r, h with
  | none, _ => trivial
  | some (l, u), h => exact ⟨b l h.1, b u h.2⟩


/-- what is_holding answers for the ranges f of the names ws -/
def isHoldB (ns ws : List Str) (rs : List Rl) (f : Hd) : Bool := decide (ws.Perm ns) && (!(ws.any fun x => up (f x)) && rs.all (fun r => decide (comR (giftR f r) (f (xOfR r)) = giftR f r)))
theorem ly_strs {ys : List Str} (h : ∀ x ∈ ys, PyData.strOk x = true) : Ly 2 (.list (ys.map PyData.str)) := Ly.list (lyA_of fun d m => by
  obtain ⟨x, mx, rfl⟩ := List.mem_map.mp m
  exact ly_str (h x mx))
theorem eqv_strl {a b : List Str} (h : ∀ x ∈ a, PyData.strOk x = true) : PyData.eqv (.list (a.map PyData.str)) (.list (b.map PyData.str)) = decide (a = b) := by
  rw [Bool.eq_iff_iff, decide_eq_true_iff]
  constructor
  · intro z
    exact eqv_strs (by simpa [PyData.eqv] using z)
  · rintro rfl
    exact (ly_strs h).eqv
theorem RgV.kd {K : PySem.W.Frag} {H H' : Hp} {d : Addr} {kvs : List (Key × V)} {v : V} {r : Rg} (e : H d = some (.dK kvs)) (k : ∀ c o, c ≠ d → H c = some o → H' c = some o) (h : RgV K H v r) : RgV K H' v r := by
  match r, h with
  | none, h => exact h
  | some (l, u), ⟨t, et, s⟩ =>
    refine ⟨t, et, ?_⟩
    rcases s with s | s
    · rcases s with s | ⟨od, s⟩
      · exact .inl (.inl (k _ _ (fun z => by rw [z, e] at s; cases s) s))
      · exact .inl (.inr ⟨od, k _ _ (fun z => by rw [z, e] at s; cases s) s⟩)
    · exact .inr s
theorem fK_at {ws : List Str} {u : Str → V} {i : Nat} {k : Key} {z : V} (h : (fK ws u)[i]? = some (k, z)) : ∃ x, ws[i]? = some x ∧ z = u x := by
  unfold fK at h
  rw [List.getElem?_map] at h
  cases e : ws[i]? with
  | none => rw [e] at h; cases h
  | some x =>
    rw [e] at h
    exact ⟨x, rfl, (congrArg Prod.snd (Option.some.inj h)).symm⟩

/-- pairs of names and ranges -/
abbrev PrL (K : PySem.W.Frag) (H : Hp) (ps : List Addr) (kvs : List (Key × V)) : Prop := PySem.Paired (fun p kv => SqT K H p [kV kv.1, kv.2]) ps kvs
theorem prl_mono {K : PySem.W.Frag} {H H' : Hp} (f : ∀ p xs, SqT K H p xs → SqT K H' p xs) : ∀ {ps : List Addr} {kvs : List (Key × V)}, PrL K H ps kvs → PrL K H' ps kvs
  | _, _, .nil => .nil
  | _, _, .cons a b => .cons (f _ _ a) (prl_mono f b)
theorem prl_snoc {K : PySem.W.Frag} {H : Hp} {p : Addr} {kv : Key × V} (h : SqT K H p [kV kv.1, kv.2]) : ∀ {ps : List Addr} {kvs : List (Key × V)}, PrL K H ps kvs → PrL K H (ps ++ [p]) (kvs ++ [kv])
  | _, _, .nil => .cons h .nil
  | _, _, .cons a b => .cons a (prl_snoc h b)
/-- a list of pairs of the names ws and the ranges f, made so far -/
structure Prs (K : PySem.W.Frag) (G : Hp) (D : Addr) (ws : List Str) (m : Nat) (f : Hd) : Prop where
  ex : ∃ (ps : List Addr) (u : Str → V), G D = some (.lst (ps.map V.ref)) ∧ PrL K G ps (fK ws u) ∧ ∀ x ∈ ws, RgV K G (u x) (f x)
  gd : ∀ x, RgFit (f x) ∧ BdN m (f x)
theorem fK_putN {ws : List Str} {x : Str} {u : Str → V} {v : V} (n : x ∉ ws) : fK (ws ++ [x]) (put1 u x v) = fK ws u ++ [(Sum.inr x, v)] := by
  have e : fK (ws ++ [x]) (put1 u x v) = fK ws (put1 u x v) ++ [(Sum.inr x, put1 u x v x)] := by
    unfold fK
    rw [List.map_append]
    rfl
  have e2 : fK ws (put1 u x v) = fK ws u := fK_congr fun y m => put1_ne (fun (z : y = x) => n (z ▸ m))
  rw [e, put1_same, e2]
theorem Prs.len {K : PySem.W.Frag} {G : Hp} {D : Addr} {ws : List Str} {m : Nat} {f : Hd} (h : Prs K G D ws m f) : ∃ acc, G D = some (.lst acc) ∧ acc.length = ws.length := by
  obtain ⟨ps, u, e, p, _⟩ := h.ex
  refine ⟨_, e, ?_⟩
  rw [List.length_map, PySem.Paired.length p, fK_len]
theorem Prs.nil {K : PySem.W.Frag} {G : Hp} {D : Addr} {m : Nat} (e : G D = some (.lst [])) : Prs K G D [] m (fun _ => none) := ⟨⟨[], fun _ => .non, e, .nil, fun x m => nomatch m⟩, fun _ => ⟨trivial, trivial⟩⟩
/-- one pair more -/
theorem Prs.snoc {K : PySem.W.Frag} {G G2 : Hp} {D T : Addr} {ws : List Str} {m : Nat} {f : Hd} {x : Str} {v : V} {r : Rg} (h : Prs K G D ws m f) (tk : ∀ p xs, SqT K G p xs → SqT K G2 p xs) (oD : ∀ acc, G D = some (.lst acc) → G2 D = some (.lst acc)) (oT : G2 T = some (.tup [.str x, v])) (rv : RgV K G2 v r) (fr : RgFit r) (br : BdN m r) (n : x ∉ ws) :
    ∃ acc, G2 D = some (.lst acc) ∧ acc.length = ws.length ∧ Prs K (upd G2 D (.lst (acc ++ [.ref T]))) D (ws ++ [x]) m (setF f x r) := by
  obtain ⟨ps, u, e, pr, ru⟩ := h.ex
  have e2 := oD _ e
  have up : ∀ p xs, SqT K G2 p xs → SqT K (upd G2 D (.lst (ps.map V.ref ++ [.ref T]))) p xs := fun p xs s => SqT.kpl Kp.at e2 s
  have upR : ∀ {v r}, RgV K G2 v r → RgV K (upd G2 D (.lst (ps.map V.ref ++ [.ref T]))) v r := fun {v r} s => RgV.kpl Kp.at e2 s
  have tkR : ∀ {v r}, RgV K G v r → RgV K G2 v r := fun {v r} s => by
    match r, s with
    | none, s => exact s
    | some (l, u), ⟨t, et, st⟩ => exact ⟨t, et, tk _ _ st⟩
  refine ⟨_, e2, by rw [List.length_map, PySem.Paired.length pr, fK_len], ⟨ps ++ [T], put1 u x v, ?_, ?_, fun y my => ?_⟩, fun y => ?_⟩
  · rw [upd_same, List.map_append]
    rfl
  · rw [fK_putN n]
    exact prl_snoc (up _ _ (.inl (.inl oT))) (prl_mono (fun p xs s => up p xs (tk p xs s)) pr)
  · rcases List.mem_append.mp my with my | my
    · have ne : y ≠ x := fun z => n (z ▸ my)
      rw [put1_ne ne, show setF f x r y = f y from if_neg ne]
      exact upR (tkR (ru y my))
    · obtain rfl := List.mem_singleton.mp my
      rw [put1_same, show setF f y r y = r from if_pos rfl]
      exact upR rv
  · by_cases c : y = x
    · rw [show setF f x r y = r from if_pos c]
      exact ⟨fr, br⟩
    · rw [show setF f x r y = f y from if_neg c]
      exact h.gd y
/-- a record of the names ws with the ranges f, in which all bounds have m bits -/
structure HdB (K : PySem.W.Frag) (G : Hp) (d : Addr) (ws : List Str) (m : Nat) (f : Hd) : Prop where
  dc : ∃ u : Str → V, DF G d ws u ∧ ∀ x ∈ ws, RgV K G (u x) (f x)
  nd : ws.Nodup
  gd : ∀ x, RgFit (f x) ∧ BdN m (f x)
theorem HdB.h {K : PySem.W.Frag} {G : Hp} {d : Addr} {ws : List Str} {m : Nat} {f : Hd} (h : HdB K G d ws m f) (l : m ≤ 30000) : Held K G d ws f := ⟨h.dc, h.nd, fun x _ => ⟨(h.gd x).1, (h.gd x).2.sz l⟩⟩
theorem HdB.same {K : PySem.W.Frag} {G G' : Hp} {d : Addr} {ws : List Str} {m : Nat} {f : Hd} (k : Same G G') (h : HdB K G d ws m f) : HdB K G' d ws m f := by
  obtain ⟨u, du, ru⟩ := h.dc
  exact ⟨⟨u, du.same k, fun x m => (ru x m).same k⟩, h.nd, h.gd⟩
theorem HdB.mono {K : PySem.W.Frag} {G : Hp} {d : Addr} {ws : List Str} {m m' : Nat} {f : Hd} (l : m ≤ m') (h : HdB K G d ws m f) : HdB K G d ws m' f := ⟨h.dc, h.nd, fun x => ⟨(h.gd x).1, (h.gd x).2.mono l⟩⟩
/-- the record made of the pairs -/
theorem Prs.dict {K : PySem.W.Frag} {G : Hp} {D : Addr} {ws : List Str} {m : Nat} {f : Hd} (h : Prs K G D ws m f) (nd : ws.Nodup) : ∃ (ps : List Addr) (kvs : List (Key × V)), SqL K G D (ps.map V.ref) ∧ PrL K G ps kvs ∧ ∀ p, G p = none → HdB K (upd G p (.dK (mergeK [] kvs))) p ws m f := by
  obtain ⟨ps, u, e, pr, ru⟩ := h.ex
  refine ⟨ps, _, .inl (.inl e), pr, fun p np => ⟨⟨u, ?_, fun x mx => (ru x mx).same (Same.new np)⟩, nd, h.gd⟩⟩
  show upd G p _ p = _
  rw [upd_same, show mergeK [] (fK ws u) = fK ws u from mergeK_fK (ks := []) nd]
/-- one range put in -/
theorem HdB.put {K : PySem.W.Frag} {G : Hp} {d : Addr} {ws : List Str} {m : Nat} {f : Hd} {u : Str → V} {x : Str} {v : V} {r : Rg} (du : DF G d ws u) (ru : ∀ x ∈ ws, RgV K G (u x) (f x)) (nd : ws.Nodup) (gd : ∀ x, RgFit (f x) ∧ BdN m (f x)) (rv : RgV K G v r) (fr : RgFit r) (br : BdN m r) :
    HdB K (upd G d (.dK (fK ws (put1 u x v)))) d ws m (setF f x r) := by
  have k8 : ∀ c o, c ≠ d → G c = some o → upd G d (.dK (fK ws (put1 u x v))) c = some o := fun c o ce h => by
    rw [upd_ne ce]
    exact h
  refine ⟨⟨put1 u x v, upd_same, fun y my => ?_⟩, nd, fun y => ?_⟩
  · by_cases c : y = x
    · rw [c, put1_same, show setF f x r x = r from if_pos rfl]
      exact RgV.kd du k8 rv
    · rw [put1_ne c, show setF f x r y = f y from if_neg c]
      exact RgV.kd du k8 (ru y my)
  · by_cases c : y = x
    · rw [c, show setF f x r x = r from if_pos rfl]
      exact ⟨fr, br⟩
    · rw [show setF f x r y = f y from if_neg c]
      exact gd y
theorem rgGd_bd {r : Rg} (h : RgGd r) : BdN 3300 r := by
  obtain ⟨_, l, u, rfl, a, b⟩ := h.b
  exact ⟨fun i e => pow_up (a i e) (by decide), fun i e => pow_up (b i e) (by decide)⟩
theorem not_take {ws : List Str} {j : Nat} {x : Str} (nd : ws.Nodup) (e : ws[j]? = some x) : x ∉ ws.take j := fun m => by
  have h := List.take_append_drop j ws
  have hx : x ∈ ws.drop j := List.mem_of_getElem? (i := 0) (by rw [List.getElem?_drop]; exact e)
  rw [← h] at nd
  exact (List.nodup_append.mp nd).2.2 x m x hx rfl
theorem SqT.kd {K : PySem.W.Frag} {H H' : Hp} {d t : Addr} {kvs : List (Key × V)} {xs : List V} (e : H d = some (.dK kvs)) (k : ∀ c o, c ≠ d → H c = some o → H' c = some o) (s : SqT K H t xs) : SqT K H' t xs := by
  rcases s with s | s
  · rcases s with s | ⟨od, s⟩
    · exact .inl (.inl (k _ _ (fun z => by rw [z, e] at s; cases s) s))
    · exact .inl (.inr ⟨od, k _ _ (fun z => by rw [z, e] at s; cases s) s⟩)
  · exact .inr s
mutual
theorem dp_kd {K : PySem.W.Frag} {H H' : Hp} {d : Addr} {kvs : List (Key × V)} (e : H d = some (.dK kvs)) (k : ∀ c o, c ≠ d → H c = some o → H' c = some o) : ∀ {v : V} {x : PyData}, Dp K H v x → NoL x → Dp K H' v x
  | _, _, .non, _ => .non
  | _, _, .bl b, _ => .bl b
  | _, _, .int i, _ => .int i
  | _, _, .str x, _ => .str x
  | _, _, .tup s x, n => .tup (SqT.kd e k s) (dpa_kd e k x (match n with | .tup h => h))
  | _, _, .lst s x, n => nomatch n
theorem dpa_kd {K : PySem.W.Frag} {H H' : Hp} {d : Addr} {kvs : List (Key × V)} (e : H d = some (.dK kvs)) (k : ∀ c o, c ≠ d → H c = some o → H' c = some o) : ∀ {v : List V} {x : List PyData}, DpAll K H v x → (∀ y ∈ x, NoL y) → DpAll K H' v x
  | _, _, .nil, _ => .nil
  | _, _, .cons x y, n => .cons (dp_kd e k x (n _ (by simp))) (dpa_kd e k y fun z m => n z (by simp [m]))
end
theorem RS.kd {n : Nat} {H H' : Hp} {g d : Addr} (gd : g ≠ d) (k : ∀ c o, c ≠ d → H c = some o → H' c = some o) (r : RS n H g) : RS n H' g := by
  obtain ⟨a, s, t, e, rest⟩ := r.ok
  exact ⟨a, s, t, k _ _ gd e, rest⟩
theorem HeldB.same {K : PySem.W.Frag} {H H' : Hp} {d : Addr} {ws : List Str} {f : Hd} (k : Same H H') (h : HeldB K H d ws f) : HeldB K H' d ws f := ⟨h.toHeld.same k, h.bd⟩
theorem HeldB.kp {K : PySem.W.Frag} {H H' : Hp} {d g : Addr} {n : Nat} {ws : List Str} {f : Hd} (rs : RS n H g) (k : Kp g H H') (dg : d ≠ g) (h : HeldB K H d ws f) : HeldB K H' d ws f := by
  obtain ⟨u, du, ru⟩ := h.dc
  exact ⟨⟨⟨u, k _ _ dg du, fun y my => RgV.kp rs k (ru y my)⟩, h.nd, h.gd⟩, h.bd⟩
/-- a name more, with its range -/
theorem HdB.add {K : PySem.W.Frag} {G : Hp} {d : Addr} {ws : List Str} {m : Nat} {f : Hd} {u : Str → V} {x : Str} {v : V} {r : Rg} (du : DF G d ws u) (ru : ∀ x ∈ ws, RgV K G (u x) (f x)) (nd : (ws ++ [x]).Nodup) (nx : x ∉ ws) (gd : ∀ x, RgFit (f x) ∧ BdN m (f x)) (rv : RgV K G v r) (fr : RgFit r) (br : BdN m r) :
    HdB K (upd G d (.dK (putK (fK ws u) (.inr x) v))) d (ws ++ [x]) m (setF f x r) := by
  have k8 : ∀ c o, c ≠ d → G c = some o → upd G d (.dK (putK (fK ws u) (.inr x) v)) c = some o := fun c o ce h => by
    rw [upd_ne ce]
    exact h
  refine ⟨⟨put1 u x v, ?_, fun y my => ?_⟩, nd, fun y => ?_⟩
  · show upd G d _ d = _
    rw [upd_same, fK_new nx, fK_putN nx]
  · rcases List.mem_append.mp my with my | my
    · have ne : y ≠ x := fun z => nx (z ▸ my)
      rw [put1_ne ne, show setF f x r y = f y from if_neg ne]
      exact RgV.kd du k8 (ru y my)
    · obtain rfl := List.mem_singleton.mp my
      rw [put1_same, show setF f y r y = r from if_pos rfl]
      exact RgV.kd du k8 rv
  · by_cases c : y = x
    · rw [show setF f x r y = r from if_pos c]
      exact ⟨fr, br⟩
    · rw [show setF f x r y = f y from if_neg c]
      exact gd y
theorem HdB.nil {K : PySem.W.Frag} {G : Hp} {d : Addr} {m : Nat} (e : G d = some (.dK [])) : HdB K G d [] m (fun _ => none) := ⟨⟨fun _ => .non, e, fun x m => nomatch m⟩, List.nodup_nil, fun _ => ⟨trivial, trivial⟩⟩
theorem nd_take {ws : List Str} {i : Nat} {x : Str} (nd : ws.Nodup) (e : ws[i]? = some x) : (ws.take i ++ [x]).Nodup := by
  rw [← take_succ e]
  exact nd.sublist (List.take_sublist _ _)
theorem Held.put {K : PySem.W.Frag} {G : Hp} {d : Addr} {ws : List Str} {f : Hd} {u : Str → V} {x : Str} {v : V} {r : Rg} (du : DF G d ws u) (ru : ∀ x ∈ ws, RgV K G (u x) (f x)) (nd : ws.Nodup) (gd : ∀ x ∈ ws, RgFit (f x) ∧ SzR (f x)) (rv : RgV K G v r) (fr : RgFit r) (br : SzR r) :
    Held K (upd G d (.dK (fK ws (put1 u x v)))) d ws (setF f x r) := by
  have k8 : ∀ c o, c ≠ d → G c = some o → upd G d (.dK (fK ws (put1 u x v))) c = some o := fun c o ce h => by
    rw [upd_ne ce]
    exact h
  refine ⟨⟨put1 u x v, upd_same, fun y my => ?_⟩, nd, fun y my => ?_⟩
  · by_cases c : y = x
    · rw [c, put1_same, show setF f x r x = r from if_pos rfl]
      exact RgV.kd du k8 rv
    · rw [put1_ne c, show setF f x r y = f y from if_neg c]
      exact RgV.kd du k8 (ru y my)
  · by_cases c : y = x
    · rw [c, show setF f x r x = r from if_pos rfl]
      exact ⟨fr, br⟩
    · rw [show setF f x r y = f y from if_neg c]
      exact gd y my
theorem fK_at2 {ws : List Str} {u : Str → V} {i : Nat} {k : Key} {z : V} (h : (fK ws u)[i]? = some (k, z)) : ∃ x, ws[i]? = some x ∧ k = .inr x ∧ z = u x := by
  unfold fK at h
  rw [List.getElem?_map] at h
  cases e : ws[i]? with
  | none => rw [e] at h; cases h
  | some x =>
    rw [e] at h
    cases h
    exact ⟨x, rfl, rfl, rfl⟩
theorem dget_frz {H : Hp} {a : Addr} {od : Obj} {ws : List Str} {u : Str → V} {x : Str} (e : H a = some (.frz od (.dK (fK ws u)))) (m : x ∈ ws) : DGet H a (.str x) (some (u x)) :=
  .inl ⟨fK ws u, .inr x, .inr ⟨od, e⟩, rfl, (fK_get m).symm⟩

/-! ### other names -/
def renC (φ : Str → Str) (c : Cd) : Cd := (φ c.1, c.2)
def renR (φ : Str → Str) : Rl → Rl
  | .set x r cs => .set (φ x) r (cs.map (renC φ))
  | .stp x y f a r cs => .stp (φ x) (φ y) f a r (cs.map (renC φ))
def sp_renamed_rule (K : PySem.W.Frag) : Sp := fun vs H Q _ => ∃ (v : V) (r : Rl) (d : Addr) (ws : List Str) (φ : Str → Str), vs = [v, .ref d] ∧ Dp K H v r.d ∧ (∀ x ∈ r.names, x ∈ ws) ∧ r.cs.length ≤ 1000 ∧ DF H d ws (fun x => V.str (φ x)) ∧
  ∀ v' H', Same H H' → Dp K H' v' (renR φ r).d → Q v' H'

def renRs (φ : Str → Str) (rs : List Rl) : List Rl := rs.map (renR φ)
/-- a dict of other names -/
def NmD (H : Hp) (d : Addr) (ks : List Str) (φ : Str → Str) : Prop := DF H d ks (fun x => V.str (φ x)) ∧ ∀ x, x ∉ ks → φ x = x
theorem NmD.same {H H' : Hp} {d : Addr} {ks : List Str} {φ : Str → Str} (k : Same H H') (h : NmD H d ks φ) : NmD H' d ks φ := ⟨h.1.same k, h.2⟩
theorem NmD.getD {H : Hp} {d : Addr} {ks : List Str} {φ : Str → Str} (h : NmD H d ks φ) (x : Str) : ∃ o, DGet H d (.str x) o ∧ o.getD (.str x) = .str (φ x) := by
  by_cases m : x ∈ ks
  · exact ⟨_, h.1.get m, rfl⟩
  · have z := DGet.k (k := Sum.inr x) h.1
    rw [fK_no m] at z
    exact ⟨_, z, by rw [h.2 x m]; rfl⟩
theorem count_one : ∀ {l : List Str}, l.Nodup → ∀ k : Str, l.count k ≤ 1
  | [], _, _ => by simp
  | a :: l, h, k => by
    have h' := List.nodup_cons.mp h
    have ih := count_one h'.2 k
    rw [List.count_cons]
    by_cases c : a = k
    · have z : l.count k = 0 := List.count_eq_zero.mpr (c ▸ h'.1)
      rw [z]
      split <;> omega
    · rw [if_neg (by simpa using c)]
      exact ih
theorem NmD.isD {H : Hp} {d : Addr} {ks : List Str} {φ : Str → Str} (h : NmD H d ks φ) : IsD H d := .inl ⟨_, .inl h.1⟩

/-! ### other names, side by side -/
theorem onC_cong {f g : Hd} {c : Cd} (h : f c.1 = g c.1) : onC f c = onC g c := by
  unfold onC
  rw [h]
theorem all_cong {f g : Hd} {cs : List Cd} (h : ∀ c ∈ cs, f c.1 = g c.1) : cs.all (onC f) = cs.all (onC g) := by
  induction cs with
  | nil => rfl
  | cons c cs ih => rw [List.all_cons, List.all_cons, onC_cong (h c List.mem_cons_self), ih fun d m => h d (List.mem_cons_of_mem _ m)]
theorem gift_cong {f g : Hd} {r : Rl} (h : ∀ y ∈ r.names, f y = g y) : giftR f r = giftR g r := by
  match r, h with
  | .set x rr cs, h =>
    have e : cs.all (onC f) = cs.all (onC g) := all_cong fun c m => h _ (List.mem_cons_of_mem _ (List.mem_map.mpr ⟨c, m, rfl⟩))
    show (if cs.all (onC f) = true then rr else none) = (if cs.all (onC g) = true then rr else none)
    rw [e]
  | .stp x y fa a rr cs, h =>
    have e : cs.all (onC f) = cs.all (onC g) := all_cong fun c m => h _ (List.mem_cons_of_mem _ (List.mem_cons_of_mem _ (List.mem_map.mpr ⟨c, m, rfl⟩)))
    have ey : f y = g y := h y (List.mem_cons_of_mem _ List.mem_cons_self)
    show (if (cs.all (onC f) && (comR (f y) rr).isSome) = true then stepR fa a (comR (f y) rr) else none) = (if (cs.all (onC g) && (comR (g y) rr).isSome) = true then stepR fa a (comR (g y) rr) else none)
    rw [e, ey]
theorem xOf_in {r : Rl} : xOfR r ∈ r.names := by cases r <;> exact List.mem_cons_self
theorem hold_cong {rs : List Rl} {f g : Hd} {ns : List Str} (nm : ∀ r ∈ rs, ∀ y ∈ r.names, y ∈ ns) (h : ∀ y ∈ ns, f y = g y) (k : Hold rs f) : Hold rs g := fun r m => by
  have z := k r m
  rw [gift_cong fun y my => h y (nm r m y my), h _ (nm r m _ xOf_in)] at z
  exact z
theorem all_ren {φ : Str → Str} {h : Hd} {cs : List Cd} : (cs.map (renC φ)).all (onC h) = cs.all (onC fun x => h (φ x)) := by
  rw [List.all_map]
  rfl
theorem gift_ren {φ : Str → Str} {h : Hd} {r : Rl} : giftR h (renR φ r) = giftR (fun x => h (φ x)) r := by
  cases r with
  | set x rr cs =>
    show (if (cs.map (renC φ)).all (onC h) = true then rr else none) = (if cs.all (onC fun x => h (φ x)) = true then rr else none)
    rw [all_ren]
  | stp x y f a rr cs =>
    show (if ((cs.map (renC φ)).all (onC h) && (comR (h (φ y)) rr).isSome) = true then stepR f a (comR (h (φ y)) rr) else none) = (if (cs.all (onC fun x => h (φ x)) && (comR (h (φ y)) rr).isSome) = true then stepR f a (comR (h (φ y)) rr) else none)
    rw [all_ren]
theorem xOf_ren {φ : Str → Str} {r : Rl} : xOfR (renR φ r) = φ (xOfR r) := by cases r <;> rfl
theorem hold_ren {φ : Str → Str} {h : Hd} {rs : List Rl} : Hold (renRs φ rs) h ↔ Hold rs (fun x => h (φ x)) := by
  constructor
  · intro k r m
    have z := k (renR φ r) (List.mem_map.mpr ⟨r, m, rfl⟩)
    rw [gift_ren, xOf_ren] at z
    exact z
  · intro k r' m'
    obtain ⟨r, m, rfl⟩ := List.mem_map.mp m'
    rw [gift_ren, xOf_ren]
    exact k r m
def renH (φ : Str → Str) (ns : List Str) (g : Hd) : Hd := fun y => match ns.find? (fun x => decide (φ x = y)) with
  | some x => g x
  | none => none
theorem renH_at {φ : Str → Str} {ns : List Str} {g : Hd} (inj : ∀ x ∈ ns, ∀ y ∈ ns, φ x = φ y → x = y) {x : Str} (m : x ∈ ns) : renH φ ns g (φ x) = g x := by
  unfold renH
  cases e : ns.find? (fun z => decide (φ z = φ x)) with
  | none =>
    have z := List.find?_eq_none.mp e x m
    simp at z
  | some z =>
    have h1 := List.find?_some e
    have h2 := List.mem_of_find?_eq_some e
    rw [inj z h2 x m (of_decide_eq_true h1)]
theorem least_ren {φ : Str → Str} {ns : List Str} {rs : List Rl} {g : Hd} (nm : ∀ r ∈ rs, ∀ y ∈ r.names, y ∈ ns) (inj : ∀ x ∈ ns, ∀ y ∈ ns, φ x = φ y → x = y) (L : IsLeast rs g) : IsLeast (renRs φ rs) (renH φ ns g) := by
  refine ⟨hold_ren.mpr (hold_cong nm (fun y m => (renH_at inj m).symm) L.1), fun h hh y => ?_⟩
  have s := L.2 _ (hold_ren.mp hh)
  unfold renH
  cases e : ns.find? (fun z => decide (φ z = y)) with
  | none => trivial
  | some z =>
    have h0 := List.find?_some e
    have h1 : φ z = y := by simpa using h0
    have := s z
    rw [← h1]
    exact this
/-- dicts of ranges in other orders -/
theorem held_ddp {K : PySem.W.Frag} {H : Hp} {a b : Addr} {ss ws : List Str} {f g : Hd} (pm : ss.Perm ws) (ha : Held K H a ss f) (hb : Held K H b ws g) : DDs K H (.ref a) (.ref b) (decide (∀ x ∈ ss, f x = g x)) := by
  obtain ⟨u, da, ra⟩ := ha.dc
  obtain ⟨v, db, rb⟩ := hb.dc
  refine ⟨a, b, fK ss u, fK ws v, keyR f, keyR g, rfl, rfl, da, db, by rw [fK_len, fK_len, pm.length_eq], fun p m => ?_, ?_⟩
  · obtain ⟨x, mx, rfl⟩ := List.mem_map.mp m
    exact ⟨v x, fK_get (pm.mem_iff.mp mx), dp_rg (ra x mx), dp_rg (rb x (pm.mem_iff.mp mx)), (ly_rg (f x)).shaped, (ly_rg (g x)).shaped⟩
  · unfold fK
    rw [List.all_map, Bool.eq_iff_iff, List.all_eq_true, decide_eq_true_iff]
    constructor
    · intro h x mx
      have z : PyData.eqv (rgD (f x)) (rgD (g x)) = true := h x mx
      rw [eqv_rgD] at z
      exact of_decide_eq_true z
    · intro h x mx
      show PyData.eqv (rgD (f x)) (rgD (g x)) = true
      rw [eqv_rgD, h x mx]
      exact decide_eq_true rfl
/-- two systems side by side -/
theorem least_beside {ns1 ns2 : List Str} {rs1 rs2 : List Rl} {g1 g2 : Hd} (nm1 : ∀ r ∈ rs1, ∀ y ∈ r.names, y ∈ ns1) (nm2 : ∀ r ∈ rs2, ∀ y ∈ r.names, y ∈ ns2) (dj : ∀ x ∈ ns1, x ∉ ns2) (L1 : IsLeast rs1 g1) (L2 : IsLeast rs2 g2) :
    IsLeast (rs1 ++ rs2) (fun y => if y ∈ ns2 then g2 y else g1 y) := by
  refine ⟨fun r m => ?_, fun h hh y => ?_⟩
  · rcases List.mem_append.mp m with m | m
    · exact hold_cong nm1 (fun y my => (if_neg (dj y my)).symm) L1.1 r m
    · exact hold_cong nm2 (fun y my => (if_pos my).symm) L2.1 r m
  · show Sub (if y ∈ ns2 then g2 y else g1 y) (h y)
    split
    · exact L2.2 h (fun r m => hh r (List.mem_append_right _ m)) y
    · exact L1.2 h (fun r m => hh r (List.mem_append_left _ m)) y
/-- rules in another sequence, and twice -/
theorem hold_mem {rs rs' : List Rl} {h : Hd} (k : ∀ r ∈ rs', r ∈ rs) (hh : Hold rs h) : Hold rs' h := fun r m => hh r (k r m)
theorem least_mem {rs rs' : List Rl} {g : Hd} (k : ∀ r, r ∈ rs' ↔ r ∈ rs) (L : IsLeast rs g) : IsLeast rs' g := ⟨hold_mem (fun r m => (k r).mp m) L.1, fun h hh => L.2 h (hold_mem (fun r m => (k r).mpr m) hh)⟩

theorem rlB_up {ns ss : List Str} (h : ∀ x ∈ ns, x ∈ ss) {r : Rl} (B : RlB ns r) : RlB ss r := ⟨fun x m => h x (B.nm x m), B.rg, B.nz, B.cs, B.sb⟩
theorem sy_perm {ns ss : List Str} {rs : List Rl} (Y : Sy ns rs) (p : ss.Perm ns) : Sy ss rs :=
  ⟨p.nodup_iff.mpr Y.nd, fun x m => Y.nok x (p.mem_iff.mp m), by rw [p.length_eq]; exact Y.ln, Y.lr, fun r m => rlB_up (fun x mx => p.mem_iff.mpr mx) (Y.rl r m)⟩
theorem step_id1 (r : Rg) : stepR 1 0 r = r := by
  cases r with
  | none => rfl
  | some p =>
    rw [stepR_some]
    congr 1
    refine endP_ext fun sd => ?_
    rw [end_stP, show sideX sd 1 = sd from if_pos (by decide)]
    have o : offE 0 sd = 0 := by cases sd <;> rfl
    rw [o]
    cases endP p sd with
    | none => rfl
    | some v =>
      show some (((1 : Nat) : Int) * v + 0) = some v
      congr 1
      omega
theorem ren_names {φ : Str → Str} {r : Rl} : (renR φ r).names = r.names.map φ := by
  cases r with
  | set x r cs =>
    show φ x :: (cs.map (renC φ)).map (·.1) = φ x :: (cs.map (·.1)).map φ
    rw [List.map_map, List.map_map]
    rfl
  | stp x y f a r cs =>
    show φ x :: φ y :: (cs.map (renC φ)).map (·.1) = φ x :: φ y :: (cs.map (·.1)).map φ
    rw [List.map_map, List.map_map]
    rfl
theorem ren_rgs {φ : Str → Str} {r : Rl} : (renR φ r).rgs = r.rgs := by
  cases r with
  | set x r cs =>
    show r :: (cs.map (renC φ)).map (·.2) = r :: cs.map (·.2)
    rw [List.map_map]
    rfl
  | stp x y f a r cs =>
    show r :: (cs.map (renC φ)).map (·.2) = r :: cs.map (·.2)
    rw [List.map_map]
    rfl
theorem rlB_ren {φ : Str → Str} {ns : List Str} {r : Rl} (B : RlB ns r) : RlB (ns.map φ) (renR φ r) := by
  refine ⟨fun x m => ?_, fun x m => ?_, ?_, ?_, fun x y f a g cs e => ?_⟩
  · rw [ren_names] at m
    obtain ⟨y, my, rfl⟩ := List.mem_map.mp m
    exact List.mem_map.mpr ⟨y, B.nm y my, rfl⟩
  · rw [ren_rgs] at m
    exact B.rg x m
  · have z := B.nz
    cases r <;> exact z
  · have z := B.cs
    cases r with
    | set x r cs =>
      show (cs.map (renC φ)).length ≤ 1000
      rw [List.length_map]
      exact z
    | stp x y f a r cs =>
      show (cs.map (renC φ)).length ≤ 1000
      rw [List.length_map]
      exact z
  · cases r with
    | set x r cs => cases e
    | stp x y f a r cs =>
      cases e
      exact B.sb _ _ _ _ _ _ rfl
theorem nodup_mapOn {φ : Str → Str} : ∀ {ns : List Str}, (∀ x ∈ ns, ∀ y ∈ ns, φ x = φ y → x = y) → ns.Nodup → (ns.map φ).Nodup
  | [], _, _ => List.nodup_nil
  | a :: l, inj, nd => by
    have n := List.nodup_cons.mp nd
    refine List.nodup_cons.mpr ⟨fun m => ?_, nodup_mapOn (ns := l) (fun x mx y my e => inj x (List.mem_cons_of_mem _ mx) y (List.mem_cons_of_mem _ my) e) n.2⟩
    obtain ⟨y, my, e⟩ := List.mem_map.mp m
    exact n.1 (inj y (List.mem_cons_of_mem _ my) a List.mem_cons_self e ▸ my)
theorem sy_ren {φ : Str → Str} {ns : List Str} {rs : List Rl} (Y : Sy ns rs) (inj : ∀ x ∈ ns, ∀ y ∈ ns, φ x = φ y → x = y) (ok : ∀ x ∈ ns, nameOk (φ x) = true) : Sy (ns.map φ) (renRs φ rs) := by
  refine ⟨nodup_mapOn inj Y.nd, fun x m => ?_, by rw [List.length_map]; exact Y.ln, by unfold renRs; rw [List.length_map]; exact Y.lr, fun r m => ?_⟩
  · obtain ⟨y, my, rfl⟩ := List.mem_map.mp m
    exact ok y my
  · obtain ⟨r', mr, rfl⟩ := List.mem_map.mp m
    exact rlB_ren (Y.rl r' mr)
theorem mov_back {t : Int} (tt : t = 1 ∨ t = -1) {sh sh' : Str → Int} (e : ∀ x, t * sh x + sh' x = 0) {r : Rl} : movR t sh' (movR t sh r) = r := by
  have t0 : t ≠ 0 := by rcases tt with rfl | rfl <;> decide
  have t1 : t * t = 1 := by rcases tt with rfl | rfl <;> rfl
  have st : ∀ (x : Str) (r : Rg), stepR t (sh' x) (stepR t (sh x) r) = r := fun x r => by
    rw [step_step t0 t0, t1, e x, step_id1]
  have cc : ∀ cs : List Cd, (cs.map (movC t sh)).map (movC t sh') = cs := fun cs => by
    rw [List.map_map]
    refine Eq.trans (List.map_congr_left fun c _ => ?_) (List.map_id cs)
    show (c.1, stepR t (sh' c.1) (stepR t (sh c.1) c.2)) = c
    rw [st]
  cases r with
  | set x r cs =>
    show Rl.set x (stepR t (sh' x) (stepR t (sh x) r)) ((cs.map (movC t sh)).map (movC t sh')) = _
    rw [st, cc]
  | stp x y f a r cs =>
    show Rl.stp x y f (t * (t * a + sh x - f * sh y) + sh' x - f * sh' y) (stepR t (sh' y) (stepR t (sh y) r)) ((cs.map (movC t sh)).map (movC t sh')) = _
    rw [st, cc]
    congr 1
    have hx := e x
    have hy := e y
    have h1 : t * (t * a + sh x - f * sh y) = a + t * sh x - f * (t * sh y) := by
      rw [Int.mul_sub, Int.mul_add, ← Int.mul_assoc, t1, Int.one_mul, Int.mul_left_comm]
    have h2 : sh' x = -(t * sh x) := by omega
    have h3 : sh' y = -(t * sh y) := by omega
    rw [h1, h2, h3, Int.mul_neg]
    omega
theorem movs_back {t : Int} (tt : t = 1 ∨ t = -1) {sh sh' : Str → Int} (e : ∀ x, t * sh x + sh' x = 0) {rs : List Rl} : movRs t sh' (movRs t sh rs) = rs := by
  unfold movRs
  rw [List.map_map]
  exact Eq.trans (List.map_congr_left fun r _ => mov_back tt e) (List.map_id rs)
theorem ren_back {φ ψ : Str → Str} {r : Rl} (e : ∀ x ∈ r.names, ψ (φ x) = x) : renR ψ (renR φ r) = r := by
  have cc : ∀ cs : List Cd, (∀ c ∈ cs, ψ (φ c.1) = c.1) → (cs.map (renC φ)).map (renC ψ) = cs := fun cs h => by
    rw [List.map_map]
    refine Eq.trans (List.map_congr_left fun c m => ?_) (List.map_id cs)
    show (ψ (φ c.1), c.2) = c
    rw [h c m]
  match r, e with
  | .set x r cs, e =>
    show Rl.set (ψ (φ x)) r ((cs.map (renC φ)).map (renC ψ)) = _
    rw [e x List.mem_cons_self, cc cs fun c m => e _ (List.mem_cons_of_mem _ (List.mem_map.mpr ⟨c, m, rfl⟩))]
  | .stp x y f a r cs, e =>
    show Rl.stp (ψ (φ x)) (ψ (φ y)) f a r ((cs.map (renC φ)).map (renC ψ)) = _
    rw [e x List.mem_cons_self, e y (List.mem_cons_of_mem _ List.mem_cons_self), cc cs fun c m => e _ (List.mem_cons_of_mem _ (List.mem_cons_of_mem _ (List.mem_map.mpr ⟨c, m, rfl⟩)))]
theorem rens_back {φ ψ : Str → Str} {rs : List Rl} (e : ∀ r ∈ rs, ∀ x ∈ r.names, ψ (φ x) = x) : renRs ψ (renRs φ rs) = rs := by
  unfold renRs
  rw [List.map_map]
  exact Eq.trans (List.map_congr_left fun r m => ren_back (e r m)) (List.map_id rs)
def zS0 : Str → Int := fun _ => 0
/-- numbers multiplied twice -/
theorem mov_two {s t : Int} (s0 : s ≠ 0) (t0 : t ≠ 0) {r : Rl} : movR t (fun _ => 0) (movR s (fun _ => 0) r) = movR (t * s) (fun _ => 0) r := by
  have st : ∀ r : Rg, stepR t 0 (stepR s 0 r) = stepR (t * s) 0 r := fun r => by
    rw [step_step t0 s0, Int.mul_zero, Int.add_zero]
  have cc : ∀ cs : List Cd, (cs.map (movC s fun _ => 0)).map (movC t fun _ => 0) = cs.map (movC (t * s) fun _ => 0) := fun cs => by
    rw [List.map_map]
    refine List.map_congr_left fun c _ => ?_
    show (c.1, stepR t 0 (stepR s 0 c.2)) = (c.1, stepR (t * s) 0 c.2)
    rw [st]
  cases r with
  | set x r cs =>
    show Rl.set x (stepR t 0 (stepR s 0 r)) ((cs.map (movC s fun _ => 0)).map (movC t fun _ => 0)) = Rl.set x (stepR (t * s) 0 r) (cs.map (movC (t * s) fun _ => 0))
    rw [st, cc]
  | stp x y f a r cs =>
    show Rl.stp x y f (t * (s * a + 0 - f * 0) + 0 - f * 0) (stepR t 0 (stepR s 0 r)) ((cs.map (movC s fun _ => 0)).map (movC t fun _ => 0)) = Rl.stp x y f (t * s * a + 0 - f * 0) (stepR (t * s) 0 r) (cs.map (movC (t * s) fun _ => 0))
    rw [st, cc, Int.mul_zero, Int.add_zero, Int.sub_zero, Int.add_zero, Int.sub_zero, Int.add_zero, Int.sub_zero, Int.mul_assoc]
theorem movs_two {s t : Int} (s0 : s ≠ 0) (t0 : t ≠ 0) {rs : List Rl} : movRs t (fun _ => 0) (movRs s (fun _ => 0) rs) = movRs (t * s) (fun _ => 0) rs := by
  unfold movRs
  rw [List.map_map]
  exact List.map_congr_left fun r _ => mov_two s0 t0
/-- the name that stands behind one in a list, and another one at the end -/
def nxtW (ws : List Str) (x : Str) : Str := ((ws.drop 1 ++ [("other" : Str)])[ws.idxOf x]?).getD x
theorem nxt_len {ws : List Str} (h : ws ≠ []) : (ws.drop 1 ++ [("other" : Str)]).length = ws.length := by
  have : 0 < ws.length := List.length_pos_iff.mpr h
  rw [List.length_append, List.length_drop]
  show ws.length - 1 + 1 = ws.length
  omega
theorem nxt_off {ws : List Str} (h : ws ≠ []) {x : Str} (n : x ∉ ws) : nxtW ws x = x := by
  unfold nxtW
  rw [List.idxOf_eq_length n, List.getElem?_eq_none (by rw [nxt_len h]; exact Nat.le_refl _)]
  rfl
theorem nxt_at {ws : List Str} (nd : ws.Nodup) (h : ws ≠ []) {i : Nat} {x : Str} (e : ws[i]? = some x) : (ws.drop 1 ++ [("other" : Str)])[i]? = some (nxtW ws x) := by
  obtain ⟨li, ex⟩ := List.getElem?_eq_some_iff.mp e
  have ei : ws.idxOf x = i := by
    rw [← ex]
    exact nd.idxOf_getElem i li
  unfold nxtW
  rw [ei, List.getElem?_eq_getElem (by rw [nxt_len h]; exact li)]
  rfl
theorem nxt_map {ws : List Str} (nd : ws.Nodup) (h : ws ≠ []) : ws.map (nxtW ws) = ws.drop 1 ++ [("other" : Str)] := by
  refine List.ext_getElem? fun i => ?_
  rw [List.getElem?_map]
  cases e : ws[i]? with
  | none =>
    rw [List.getElem?_eq_none (by rw [nxt_len h]; exact List.getElem?_eq_none_iff.mp e)]
    rfl
  | some x =>
    rw [nxt_at nd h e]
    rfl
theorem nxt_nd {ws : List Str} (nd : ws.Nodup) (o : ("other" : Str) ∉ ws) : (ws.drop 1 ++ [("other" : Str)]).Nodup := by
  refine List.nodup_append.mpr ⟨nd.sublist (List.drop_sublist _ _), List.nodup_cons.mpr ⟨(fun m => nomatch m), List.nodup_nil⟩, fun x m y my e => ?_⟩
  rw [List.mem_singleton.mp my] at e
  exact o (List.mem_of_mem_drop (e ▸ m))
theorem nxt_inj {ws : List Str} (nd : ws.Nodup) (h : ws ≠ []) (o : ("other" : Str) ∉ ws) : ∀ x ∈ ws, ∀ y ∈ ws, nxtW ws x = nxtW ws y → x = y := fun x mx y my e => by
  obtain ⟨i, ei⟩ := List.mem_iff_getElem?.mp mx
  obtain ⟨j, ej⟩ := List.mem_iff_getElem?.mp my
  have a := nxt_at nd h ei
  have b := nxt_at nd h ej
  rw [← e] at b
  have li : i < (ws.drop 1 ++ [("other" : Str)]).length := (List.getElem?_eq_some_iff.mp a).1
  have ij := (List.getElem?_inj li (nxt_nd nd o)).mp (a.trans b.symm)
  subst ij
  rw [ei] at ej
  exact Option.some.inj ej
theorem cut_upT (xs : List V) (k : Nat) : cutV xs none (some (k : Int)) = xs.take k := by
  unfold cutV
  rw [HT.sIx_none, HT.sIx_nat, List.drop_zero, Nat.sub_zero]
  by_cases h : k ≤ xs.length
  · rw [Nat.min_eq_left h]
  · rw [Nat.min_eq_right (by omega), List.take_length, List.take_of_length_le (by omega)]

theorem dok_oL {o : Option Int} (h : BdOk (10 ^ 66) o) : DOk 0 1 (oD o) := by
  cases o with
  | none => exact DOk.none
  | some i =>
    have h' : -(10 : Int) ^ 66 ≤ i ∧ i ≤ (10 : Int) ^ 66 := h
    have e : (10 : Int) ^ 66 = ((10 ^ 66 : Nat) : Int) := (Int.natCast_pow 10 66).symm
    have l : (10 : Nat) ^ 66 < 10 ^ 68 := by decide
    rw [e] at h'
    generalize (10 : Nat) ^ 66 = A at h' l
    refine DOk.intL (Nat.lt_of_le_of_lt ?_ l)
    omega
theorem dok_rgL {r : Rg} (h : RgIn (10 ^ 66) r) : DOk 2 2 (rgD r) := by
  match r, h with
  | none, _ => exact DOk.none.mono (by decide) (by decide)
  | some (l, u), h => exact (DOk.tuple (.cons (dok_oL h.1) (.cons (dok_oL h.2) .nil))).mono (by decide) (by decide)
/-- a rule whose text is short -/
structure RlS (r : Rl) : Prop where
  nm : ∀ x ∈ r.names, nameOk x = true
  rg : ∀ g ∈ r.rgs, RgIn (10 ^ 66) g
  cs : r.cs.length ≤ 2
  nb : ∀ x y f a g cs, r = .stp x y f a g cs → f.natAbs ≤ 10 ^ 66 ∧ a.natAbs ≤ 10 ^ 66
theorem dok_csL {cs : List Cd} (h : ∀ c ∈ cs, nameOk c.1 = true ∧ RgIn (10 ^ 66) c.2) (l : cs.length ≤ 2) : DOk 62 4 (.tuple (cs.map cdD)) := by
  refine (DOk.tuple (dall_of (n := 30) (k := 3) fun d m => ?_)).mono ?_ (by decide)
  · obtain ⟨c, mc, rfl⟩ := List.mem_map.mp m
    exact (DOk.tuple (.cons (dok_name (h c mc).1) (.cons (dok_rgL (h c mc).2) .nil))).mono (by decide) (by decide)
  · rw [List.length_map]
    have := Nat.mul_le_mul_right (30 + 1) l
    omega
theorem dok_rlL {r : Rl} (h : RlS r) : DOk 150 5 r.d := by
  have t66 : (10 : Nat) ^ 66 < 10 ^ 68 := by decide
  match r, h with
  | .set x rr cs, h =>
    have hc : ∀ c ∈ cs, nameOk c.1 = true ∧ RgIn (10 ^ 66) c.2 := fun c m => ⟨h.nm c.1 (List.mem_cons_of_mem _ (List.mem_map.mpr ⟨c, m, rfl⟩)), h.rg c.2 (List.mem_cons_of_mem _ (List.mem_map.mpr ⟨c, m, rfl⟩))⟩
    exact (DOk.tuple (.cons (.str (by decide +kernel) (by decide +kernel) (by decide +kernel)) (.cons (dok_name (h.nm x List.mem_cons_self)) (.cons (dok_rgL (h.rg rr List.mem_cons_self)) (.cons (dok_csL hc h.cs) .nil))))).mono (by decide) (by decide)
  | .stp x y f a rr cs, h =>
    have hc : ∀ c ∈ cs, nameOk c.1 = true ∧ RgIn (10 ^ 66) c.2 := fun c m => ⟨h.nm c.1 (List.mem_cons_of_mem _ (List.mem_cons_of_mem _ (List.mem_map.mpr ⟨c, m, rfl⟩))), h.rg c.2 (List.mem_cons_of_mem _ (List.mem_map.mpr ⟨c, m, rfl⟩))⟩
    have nb := h.nb _ _ _ _ _ _ rfl
    exact (DOk.tuple (.cons (.str (by decide +kernel) (by decide +kernel) (by decide +kernel)) (.cons (dok_name (h.nm x List.mem_cons_self)) (.cons (dok_name (h.nm y (List.mem_cons_of_mem _ List.mem_cons_self))) (.cons (.intL (Nat.lt_of_le_of_lt nb.1 t66)) (.cons (.intL (Nat.lt_of_le_of_lt nb.2 t66))
      (.cons (dok_rgL (h.rg rr List.mem_cons_self)) (.cons (dok_csL hc h.cs) .nil)))))))).mono (by decide) (by decide)
theorem shown_okL {ss : List Str} {rs : List Rl} (hs : ∀ x ∈ ss, nameOk x = true) (h : ∀ r ∈ rs, RlS r) (l : ss.length ≤ 20) (l2 : rs.length ≤ 20) : ShownOk ss rs := by
  have t60 : (10 : Nat) ^ 60 = 1000000000000000000000000000000000000000000000000000000000000 := by decide
  have dr : DOk 3020 6 (.list (rs.map Rl.d)) := by
    refine (DOk.list (dall_of (n := 150) (k := 5) fun d m => ?_)).mono ?_ (by decide)
    · obtain ⟨c, mc, rfl⟩ := List.mem_map.mp m
      exact dok_rlL (h c mc)
    · rw [List.length_map]
      have := Nat.mul_le_mul_right (150 + 1) l2
      omega
  exact ⟨(DOk.list (.cons (dok_names hs l) (.cons dr (.cons (.int (by rw [t60]; omega)) .nil)))).mono (by decide) (by decide), by omega⟩
theorem lin_in {t x s : Int} (ht : t.natAbs ≤ 10 ^ 31) (hx : x.natAbs ≤ 10 ^ 32) (hs : s.natAbs ≤ 10 ^ 33) : (t * x + s).natAbs ≤ 10 ^ 64 := by
  have h1 : (t * x).natAbs ≤ 10 ^ 31 * 10 ^ 32 := by
    rw [Int.natAbs_mul]
    exact Nat.mul_le_mul ht hx
  have e : (10 : Nat) ^ 31 * 10 ^ 32 + 10 ^ 33 ≤ 10 ^ 64 := by decide
  generalize t * x = y at h1
  generalize (10 : Nat) ^ 31 * 10 ^ 32 = A at h1 e
  generalize (10 : Nat) ^ 33 = B at hs e
  generalize (10 : Nat) ^ 64 = D at e ⊢
  omega
theorem abs_of_bd {i : Int} (h : BdOk (10 ^ 31) (some i)) : i.natAbs ≤ 10 ^ 31 := by
  have h' : -(10 : Int) ^ 31 ≤ i ∧ i ≤ (10 : Int) ^ 31 := h
  have e : (10 : Int) ^ 31 = ((10 ^ 31 : Nat) : Int) := (Int.natCast_pow 10 31).symm
  rw [e] at h'
  generalize (10 : Nat) ^ 31 = A at h'
  omega
theorem bd_of_abs {i : Int} (h : i.natAbs ≤ 10 ^ 64) : BdOk (10 ^ 66) (some i) := by
  show -(10 : Int) ^ 66 ≤ i ∧ i ≤ (10 : Int) ^ 66
  have e : (10 : Int) ^ 66 = ((10 ^ 66 : Nat) : Int) := (Int.natCast_pow 10 66).symm
  have l : (10 : Nat) ^ 64 ≤ 10 ^ 66 := by decide
  rw [e]
  generalize (10 : Nat) ^ 66 = A at l
  generalize (10 : Nat) ^ 64 = B at h l
  omega
theorem step_in {t s : Int} (ht : t.natAbs ≤ 10 ^ 31) (hs : s.natAbs ≤ 10 ^ 33) {r : Rg} (h : RgIn (10 ^ 31) r) : RgIn (10 ^ 66) (stepR t s r) := by
  have one : ∀ o, BdOk (10 ^ 31) o → BdOk (10 ^ 66) (tk t s o) := fun o ho => by
    cases o with
    | none => trivial
    | some x => exact bd_of_abs (lin_in ht (Nat.le_trans (abs_of_bd ho) (by decide)) hs)
  match r, h with
  | none, _ => trivial
  | some (l, u), h =>
    show RgIn (10 ^ 66) (if t > 0 then some (tk t s l, tk t s u) else some (tk t s u, tk t s l))
    by_cases c : t > 0
    · rw [if_pos c]
      exact ⟨one l h.1, one u h.2⟩
    · rw [if_neg c]
      exact ⟨one u h.2, one l h.1⟩
theorem rlS_mov {ws : List Str} {t : Int} {sh : Str → Int} {φ : Str → Str} (ht : t.natAbs ≤ 10 ^ 31) (hs : ∀ x, (sh x).natAbs ≤ 10 ^ 31) (okf : ∀ x ∈ ws, nameOk (φ x) = true) {r : Rl} (h : RlGd ws r) : RlS (renR φ (movR t sh r)) := by
  have hs33 : ∀ x, (sh x).natAbs ≤ 10 ^ 33 := fun x => Nat.le_trans (hs x) (by decide)
  match r, h with
  | .set x g cs, h =>
    refine ⟨fun z m => ?_, fun z m => ?_, ?_, fun x y f a g cs e => by cases e⟩
    · rcases List.mem_cons.mp (show z ∈ φ x :: ((cs.map (movC t sh)).map (renC φ)).map (·.1) from m) with rfl | m
      · exact okf x (h.nm x List.mem_cons_self)
      · rw [List.map_map, List.map_map] at m
        obtain ⟨c, mc, rfl⟩ := List.mem_map.mp m
        exact okf c.1 (h.nm c.1 (List.mem_cons_of_mem _ (List.mem_map.mpr ⟨c, mc, rfl⟩)))
    · rcases List.mem_cons.mp (show z ∈ stepR t (sh x) g :: ((cs.map (movC t sh)).map (renC φ)).map (·.2) from m) with rfl | m
      · exact step_in ht (hs33 _) (h.rg g List.mem_cons_self).2
      · rw [List.map_map, List.map_map] at m
        obtain ⟨c, mc, rfl⟩ := List.mem_map.mp m
        exact step_in ht (hs33 _) (h.rg c.2 (List.mem_cons_of_mem _ (List.mem_map.mpr ⟨c, mc, rfl⟩))).2
    · show ((cs.map (movC t sh)).map (renC φ)).length ≤ 2
      rw [List.length_map, List.length_map]
      exact h.cs
  | .stp x y f a g cs, h =>
    refine ⟨fun z m => ?_, fun z m => ?_, ?_, fun x' y' f' a' g' cs' e => ?_⟩
    · rcases List.mem_cons.mp (show z ∈ φ x :: φ y :: ((cs.map (movC t sh)).map (renC φ)).map (·.1) from m) with rfl | m
      · exact okf x (h.nm x List.mem_cons_self)
      · rcases List.mem_cons.mp m with rfl | m
        · exact okf y (h.nm y (List.mem_cons_of_mem _ List.mem_cons_self))
        · rw [List.map_map, List.map_map] at m
          obtain ⟨c, mc, rfl⟩ := List.mem_map.mp m
          exact okf c.1 (h.nm c.1 (List.mem_cons_of_mem _ (List.mem_cons_of_mem _ (List.mem_map.mpr ⟨c, mc, rfl⟩))))
    · rcases List.mem_cons.mp (show z ∈ stepR t (sh y) g :: ((cs.map (movC t sh)).map (renC φ)).map (·.2) from m) with rfl | m
      · exact step_in ht (hs33 _) (h.rg g List.mem_cons_self).2
      · rw [List.map_map, List.map_map] at m
        obtain ⟨c, mc, rfl⟩ := List.mem_map.mp m
        exact step_in ht (hs33 _) (h.rg c.2 (List.mem_cons_of_mem _ (List.mem_map.mpr ⟨c, mc, rfl⟩))).2
    · show ((cs.map (movC t sh)).map (renC φ)).length ≤ 2
      rw [List.length_map, List.length_map]
      exact h.cs
    · have e' : Rl.stp (φ x) (φ y) f (t * a + sh x - f * sh y) (stepR t (sh y) g) ((cs.map (movC t sh)).map (renC φ)) = .stp x' y' f' a' g' cs' := e
      cases e'
      have nb : f.natAbs ≤ 10 ∧ a.natAbs ≤ 10 ^ 32 := h.nb
      have h1 := lin_in (s := sh x) ht nb.2 (hs33 x)
      have h2 : (f * sh y).natAbs ≤ 10 * 10 ^ 31 := by
        rw [Int.natAbs_mul]
        exact Nat.mul_le_mul nb.1 (hs y)
      have l : (10 : Nat) ^ 64 + 10 * 10 ^ 31 ≤ 10 ^ 66 := by decide
      refine ⟨Nat.le_trans nb.1 (by decide), ?_⟩
      generalize t * a + sh x = A at h1
      generalize f * sh y = B at h2
      generalize (10 : Nat) ^ 64 = D at h1 l
      generalize (10 : Nat) * 10 ^ 31 = E at h2 l
      generalize (10 : Nat) ^ 66 = F at l ⊢
      omega
theorem sy_movL {ns : List Str} {rs : List Rl} {t : Int} {sh : Str → Int} (Y : Sy ns rs) (gd : RowsGd ns rs) (t0 : t ≠ 0) (ht : t.natAbs ≤ 10 ^ 31) (hs : ∀ x, (sh x).natAbs ≤ 10 ^ 31) : Sy ns (movRs t sh rs) := by
  refine ⟨Y.nd, Y.nok, Y.ln, by unfold movRs; rw [List.length_map]; exact Y.lr, fun r m => ?_⟩
  obtain ⟨r', m', rfl⟩ := List.mem_map.mp m
  have B := Y.rl r' m'
  have S := rlS_mov (φ := fun x => x) (t := t) (sh := sh) ht hs Y.nok (gd r' m')
  have id_ : ∀ q : Rl, renR (fun x => x) q = q := fun q => by
    have cc : ∀ cs : List Cd, cs.map (renC fun x => x) = cs := fun cs => List.map_id cs
    cases q with
    | set x g cs => show Rl.set x g (cs.map _) = _; rw [cc]
    | stp x y f a g cs => show Rl.stp x y f a g (cs.map _) = _; rw [cc]
  rw [id_] at S
  have p66 : (10 : Nat) ^ 66 < 2 ^ 300 := by decide
  have bd : ∀ o, BdOk (10 ^ 66) o → ∀ i, o = some i → i.natAbs < 2 ^ 300 := fun o h i e => by
    subst e
    have h' : -(10 : Int) ^ 66 ≤ i ∧ i ≤ (10 : Int) ^ 66 := h
    have e : (10 : Int) ^ 66 = ((10 ^ 66 : Nat) : Int) := (Int.natCast_pow 10 66).symm
    rw [e] at h'
    refine Nat.lt_of_le_of_lt ?_ p66
    generalize (10 : Nat) ^ 66 = A at h'
    omega
  have rgs : ∀ g ∈ (movR t sh r').rgs, RgB g := fun g mg => by
    have hin := S.rg g mg
    have fit : RgFit g ∧ ∃ l u, g = some (l, u) := by
      have one : ∀ (q : Rg) (s : Int), RgB q → RgFit (stepR t s q) ∧ ∃ l u, stepR t s q = some (l, u) := fun q s hq => by
        obtain ⟨f, l, u, rfl, _⟩ := hq
        refine ⟨fit_step t0 f, ?_⟩
        rw [stepR_some]
        exact ⟨_, _, rfl⟩
      match r', B, mg with
      | .set x q cs, B, mg =>
        rcases List.mem_cons.mp (show g ∈ stepR t (sh x) q :: (cs.map (movC t sh)).map (·.2) from mg) with rfl | mg
        · exact one _ _ (B.rg q List.mem_cons_self)
        · rw [List.map_map] at mg
          obtain ⟨c, mc, rfl⟩ := List.mem_map.mp mg
          exact one _ _ (B.rg c.2 (List.mem_cons_of_mem _ (List.mem_map.mpr ⟨c, mc, rfl⟩)))
      | .stp x y f a q cs, B, mg =>
        rcases List.mem_cons.mp (show g ∈ stepR t (sh y) q :: (cs.map (movC t sh)).map (·.2) from mg) with rfl | mg
        · exact one _ _ (B.rg q List.mem_cons_self)
        · rw [List.map_map] at mg
          obtain ⟨c, mc, rfl⟩ := List.mem_map.mp mg
          exact one _ _ (B.rg c.2 (List.mem_cons_of_mem _ (List.mem_map.mpr ⟨c, mc, rfl⟩)))
    obtain ⟨f, l, u, rfl⟩ := fit
    exact ⟨f, l, u, rfl, bd l hin.1, bd u hin.2⟩
  refine ⟨fun x mx => B.nm x (names_mov (r := r') ▸ mx), rgs, ?_, ?_, fun x y f a g cs e => ?_⟩
  · have := B.nz
    cases r' <;> exact this
  · have := B.cs
    cases r' with
    | set x q cs => show (cs.map _).length ≤ 1000; rw [List.length_map]; exact this
    | stp x y f a q cs => show (cs.map _).length ≤ 1000; rw [List.length_map]; exact this
  · have nb := S.nb x y f a g cs e
    refine ⟨?_, Nat.lt_of_le_of_lt nb.2 p66⟩
    match r', B, e with
    | .stp x' y' f' a' q cs', B, e =>
      have e' : Rl.stp x' y' f' (t * a' + sh x' - f' * sh y') (stepR t (sh y') q) (cs'.map (movC t sh)) = .stp x y f a g cs := e
      cases e'
      exact (B.sb _ _ _ _ _ _ rfl).1


theorem map_get_ {α β : Type} {f : α → β} {cs : List α} {i : Nat} {y : β} (h : (cs.map f)[i]? = some y) : ∃ c, cs[i]? = some c ∧ y = f c := by
  rw [List.getElem?_map] at h
  cases e : cs[i]? with
  | none => rw [e] at h; cases h
  | some c =>
    rw [e] at h
    exact ⟨c, rfl, (Option.some.inj h).symm⟩
/-- the word of each class -/
def wordOf : Nat → Str
  | 1 => "range" | 2 => "name" | 3 => "system" | 4 => "rule" | 5 => "unknown" | 6 => "number" | 7 => "move" | 8 => "undo" | _ => "text"
def askedOf (i : Nat) : List (Str × Bool) := [("range", decide (i = 1)), ("name", decide (i = 2)), ("system", decide (i = 3)), ("rule", decide (i = 4)), ("unknown", decide (i = 5)), ("move", decide (i = 7)), ("undo", decide (i = 8)), ("text", decide (i = 9)), ("number", decide (i = 6))]
theorem asked_one {i : Nat} (h0 : 1 ≤ i) (h1 : i ≤ 9) : ((askedOf i).filter (·.2)).map (·.1) = [wordOf i] := by
  have : i = 1 ∨ i = 2 ∨ i = 3 ∨ i = 4 ∨ i = 5 ∨ i = 6 ∨ i = 7 ∨ i = 8 ∨ i = 9 := by omega
  rcases this with rfl | rfl | rfl | rfl | rfl | rfl | rfl | rfl | rfl <;> decide +kernel
/-- pairs of words and answers -/
def PrsAt (H : Hp) (ts : List Addr) (ps : List (Str × Bool)) : Prop := PySem.Paired (fun t (p : Str × Bool) => H t = some (.tup [.str p.1, .bl p.2])) ts ps
theorem PrsAt.same {H H' : Hp} (k : Same H H') : ∀ {ts : List Addr} {ps : List (Str × Bool)}, PrsAt H ts ps → PrsAt H' ts ps
  | _, _, .nil => .nil
  | _, _, .cons a b => .cons (k _ _ a) (PrsAt.same k b)
theorem PrsAt.app {H : Hp} : ∀ {ts us : List Addr} {ps qs : List (Str × Bool)}, PrsAt H ts ps → PrsAt H us qs → PrsAt H (ts ++ us) (ps ++ qs)
  | _, _, _, _, .nil, b => b
  | _, _, _, _, .cons a c, b => .cons a (PrsAt.app c b)
theorem PrsAt.get {H : Hp} : ∀ {ts : List Addr} {ps : List (Str × Bool)} {i : Nat} {t : Addr}, PrsAt H ts ps → ts[i]? = some t → ∃ p, ps[i]? = some p ∧ H t = some (.tup [.str p.1, .bl p.2])
  | _, _, 0, _, .cons a b, e => by cases e; exact ⟨_, rfl, a⟩
  | _, _, i + 1, _, .cons a b, e => PrsAt.get (i := i) b e
theorem PrsAt.len {H : Hp} : ∀ {ts : List Addr} {ps : List (Str × Bool)}, PrsAt H ts ps → ts.length = ps.length
  | _, _, .nil => rfl
  | _, _, .cons a b => by simp [PrsAt.len b]
def sp__law_caught (K : PySem.W.Frag) (cs : List Addr) : SpE := fun a cls d vs H Q _ => ∃ i c dd v, vs = [.ref a] ∧ cls = .ref c ∧ d = some dd ∧ 1 ≤ i ∧ i ≤ 9 ∧ cs[i]? = some c ∧ H dd = some (.xd [("value", v)]) ∧
  ∀ t H', Same H H' → H t = none → H' t = some (.tup [.str (wordOf i), v]) → Q (.ref t) H'

theorem errT_exm {K : PySem.W.Frag} {mg : Str → Option Value} {cs : List Addr} {ns : List Str} {fI c c0 : Addr} {i : Nat} (X : ErrT K mg cs ns fI) (hi : cs[i]? = some c) (h0 : cs[0]? = some c0) (n : i ≠ 0) :
    PySem.W.exmOne K (.ref c) (.ref c0) = some true := by
  have l0 : 0 < ns.length := by
    rw [← X.len]
    exact (List.getElem?_eq_some_iff.mp h0).1
  have T0 := X.t 0 c0 _ h0 (List.getElem?_eq_getElem l0)
  have ne : c ≠ c0 := fun z => by
    subst z
    have a := X.sub 0 i _ _ h0 hi
    rw [decide_eq_false (fun z => z.elim (fun q => n q.symm) n)] at a
    unfold PySem.W.kitOne at a
    rw [if_pos (by simp)] at a
    cases a
  have b := X.sub i 0 _ _ hi h0
  rw [decide_eq_true (.inr rfl)] at b
  unfold PySem.W.kitOne at b
  rw [if_neg (by simpa using ne)] at b
  unfold PySem.W.exmOne
  rw [T0.ox.exC]
  exact b

/-- the first name that is refused, behind those seen -/
def firstN : List Str → List Str → Option Str
  | _, [] => none
  | seen, x :: r => if x ∈ seen ∨ nameOk x = false then some x else firstN (seen ++ [x]) r
/-- the number of the first rule that is refused -/
def firstR (ns : List Str) : Nat → List Rl → Option Nat
  | _, [] => none
  | i, r :: rs => if r.faulty ns = true then some i else firstR ns (i + 1) rs
theorem firstN_at {ns : List Str} {i : Nat} {x : Str} (e : ns[i]? = some x) : firstN (ns.take i) (ns.drop i) = if x ∈ ns.take i ∨ nameOk x = false then some x else firstN (ns.take (i + 1)) (ns.drop (i + 1)) := by
  have lt : i < ns.length := (List.getElem?_eq_some_iff.mp e).1
  have ex : ns[i] = x := (List.getElem?_eq_some_iff.mp e).2
  rw [List.drop_eq_getElem_cons lt, List.take_add_one, e, ex]
  rfl
theorem firstR_at {ns : List Str} {rs : List Rl} {i : Nat} {r : Rl} (e : rs[i]? = some r) : firstR ns i (rs.drop i) = if r.faulty ns = true then some i else firstR ns (i + 1) (rs.drop (i + 1)) := by
  have lt : i < rs.length := (List.getElem?_eq_some_iff.mp e).1
  have ex : rs[i] = r := (List.getElem?_eq_some_iff.mp e).2
  rw [List.drop_eq_getElem_cons lt, ex]
  rfl
theorem valV_keyT_in {x : Str} : ∀ {l : List Str}, x ∈ l → ∃ v, valV (keyT l) (Sum.inr x) = some v
  | n :: l, h => by
    by_cases e : n = x
    · subst e
      exact ⟨_, valV_pos rfl⟩
    · have e2 : ¬ (Sum.inr n : Key) = Sum.inr x := fun z => e (Sum.inr.inj z)
      obtain ⟨v, q⟩ := valV_keyT_in (l := l) ((List.mem_cons.mp h).resolve_left (fun z => e z.symm))
      refine ⟨v, ?_⟩
      show valV ((Sum.inr n, V.bl true) :: keyT l) (Sum.inr x) = some v
      rw [valV_neg e2]
      exact q
def sp__check_systemE (K : PySem.W.Frag) (cs : List Addr) : Sp := fun vs H Q E => ∃ a b ns xs rs, vs = [.ref a, .ref b] ∧ SqL K H a (ns.map V.str) ∧ SqL K H b xs ∧ DpAll K H xs (rs.map Rl.d) ∧
  (∀ x ∈ ns, x.cps.size ≤ 1000) ∧ (∀ r ∈ rs, r.cs.length ≤ 1000) ∧ ns.length < 64 ∧ rs.length ≤ 1000 ∧
  (firstN [] ns = none → firstR ns 0 rs = none → ∀ H', Same H H' → Q .non H') ∧ (∀ x, firstN [] ns = some x → BadX cs 2 H (.str x) E) ∧ (∀ i : Nat, firstN [] ns = none → firstR ns 0 rs = some i → BadX cs 3 H (.int i) E)

def sp_System___initE__ (K : PySem.W.Frag) (C : Addr) (cs : List Addr) : Sp := fun vs H Q E => ∃ o dx a b ns xs rs, vs = [.ref o, .ref a, .ref b] ∧ H o = some (.ins C dx []) ∧ SqL K H a (ns.map V.str) ∧ SqL K H b xs ∧ DpAll K H xs (rs.map Rl.d) ∧
  (∀ x ∈ ns, x.cps.size ≤ 1000) ∧ (∀ r ∈ rs, r.cs.length ≤ 1000) ∧ ns.length < 64 ∧ rs.length ≤ 1000 ∧
  (firstN [] ns = none → firstR ns 0 rs = none → ∀ H' p q ss, ss.Perm ns → sortedS ss = true → Kp o H H' → H p = none → H q = none → SysAt K C H' o p q ss rs → Q .non H') ∧ (∀ x, firstN [] ns = some x → BadX cs 2 H (.str x) E) ∧ (∀ i : Nat, firstN [] ns = none → firstR ns 0 rs = some i → BadX cs 3 H (.int i) E)

theorem mk_sysE {K : PySem.W.Frag} {C : Addr} {cs : List Addr} {H1 : Hp} {a b : Addr} {ns : List Str} {xs : List V} {rs : List Rl} {Q : Addr → Hp → Prop} {E : XK} (ha : SqL K H1 a (ns.map V.str)) (hb : SqL K H1 b xs) (dr : DpAll K H1 xs (rs.map Rl.d))
    (hs : ∀ x ∈ ns, x.cps.size ≤ 1000) (hc : ∀ r ∈ rs, r.cs.length ≤ 1000) (ln : ns.length < 64) (lr : rs.length ≤ 1000)
    (q : firstN [] ns = none → firstR ns 0 rs = none → ∀ x H', Same H1 H' → Q x H') (qN : ∀ x, firstN [] ns = some x → BadX cs 2 H1 (.str x) E) (qR : ∀ i : Nat, firstN [] ns = none → firstR ns 0 rs = some i → BadX cs 3 H1 (.int i) E) :
    ∀ x dx, H1 x = none → H1 dx = none → dx ≠ x → sp_System___initE__ K C cs (.ref x :: ([.ref a, .ref b] ++ [])) (upd (upd H1 dx (.own x)) x (.ins C dx [])) (fun v H2 => v = .non ∧ Q x H2) E := by
  intro x dx nx nd ne
  have s1 : Same H1 (upd H1 dx (.own x)) := Same.new nd
  have nx1 : upd H1 dx (.own x) x = none := by rw [upd_ne (Ne.symm ne)]; exact nx
  have s2 := s1.trans (Same.new (o := .ins C dx []) nx1)
  refine ⟨x, dx, a, b, ns, xs, rs, rfl, upd_same, s2.seq ha, s2.seq hb, dpa_same s2 dr, hs, hc, ln, lr, fun e1 e2 H' p r ss pm so kp np nr sa => ⟨rfl, ?_⟩, fun y e => (qN y e).same s2, fun i e1 e2 => (qR i e1 e2).same s2⟩
  exact q e1 e2 x H' (fun c u e => kp _ _ (ne_of_none e nx) (s2 _ _ e))


theorem find_first {α : Type} {p : α → Bool} {l : List α} {i : Nat} {m : α} (h : ∀ x ∈ l.take i, p x = false) (e : l[i]? = some m) (pm : p m = true) : l.find? p = some m := by
  have li : i < l.length := (List.getElem?_eq_some_iff.mp e).1
  have s : l = l.take i ++ m :: l.drop (i + 1) := by
    have : l.drop i = m :: l.drop (i + 1) := by
      rw [List.drop_eq_getElem_cons li, (List.getElem?_eq_some_iff.mp e).2]
    rw [← this, List.take_append_drop]
  rw [s, List.find?_append, List.find?_eq_none.mpr fun x m => by rw [h x m]; decide]
  show (none.or (List.find? p (m :: l.drop (i + 1)))) = some m
  rw [List.find?_cons_of_pos pm]
  rfl
theorem find_none {α : Type} {p : α → Bool} {l : List α} (h : ∀ x ∈ l, p x = false) : l.find? p = none := List.find?_eq_none.mpr fun x m => by rw [h x m]; decide
theorem none_find {α : Type} {p : α → Bool} {l : List α} (h : l.find? p = none) : ∀ x ∈ l, p x = false := fun x m => by
  have := List.find?_eq_none.mp h x m
  simpa using this
theorem take_all {α : Type} {p : α → Bool} {l : List α} {i : Nat} {m : α} (h : ∀ x ∈ l.take i, p x = false) (e : l[i]? = some m) (pm : p m = false) : ∀ x ∈ l.take (i + 1), p x = false := fun x mx => by
  rw [take_succ e] at mx
  rcases List.mem_append.mp mx with mx | mx
  · exact h x mx
  · rw [List.mem_singleton.mp mx]
    exact pm
theorem firstN_ok : ∀ {l seen m : List Str}, (seen ++ l).Nodup → (∀ x ∈ l, nameOk x = true) → firstN seen (l ++ m) = firstN (seen ++ l) m
  | [], seen, m, _, _ => by rw [List.append_nil, List.nil_append]
  | x :: l, seen, m, nd, ok => by
    have nd2 : ((seen ++ [x]) ++ l).Nodup := by rw [List.append_assoc]; exact nd
    have n : x ∉ seen := fun mm => (List.nodup_append.mp nd).2.2 x mm x List.mem_cons_self rfl
    show (if x ∈ seen ∨ nameOk x = false then some x else firstN (seen ++ [x]) (l ++ m)) = _
    rw [if_neg (fun z => z.elim n fun q => by rw [ok x List.mem_cons_self] at q; cases q), firstN_ok nd2 fun y my => ok y (List.mem_cons_of_mem _ my), List.append_assoc]
    rfl
theorem firstN_none {l : List Str} (nd : l.Nodup) (ok : ∀ x ∈ l, nameOk x = true) : firstN [] l = none := by
  have z := firstN_ok (l := l) (seen := []) (m := []) (by rw [List.nil_append]; exact nd) ok
  rw [List.append_nil] at z
  exact z
theorem firstN_in {ns : List Str} : ∀ {l pre : List Str}, (pre ++ l).Nodup → (∀ x ∈ l, nameOk x = true) → firstN (ns ++ pre) l = l.find? fun x => decide (x ∈ ns)
  | [], _, _, _ => rfl
  | x :: l, pre, nd, ok => by
    have nd2 : ((pre ++ [x]) ++ l).Nodup := by rw [List.append_assoc]; exact nd
    have n : x ∉ pre := fun mm => (List.nodup_append.mp nd).2.2 x mm x List.mem_cons_self rfl
    show (if x ∈ ns ++ pre ∨ nameOk x = false then some x else firstN ((ns ++ pre) ++ [x]) l) = _
    by_cases c : x ∈ ns
    · rw [if_pos (.inl (List.mem_append_left _ c)), List.find?_cons_of_pos (by simpa using c)]
    · rw [if_neg (fun z => z.elim (fun q => (List.mem_append.mp q).elim c n) fun q => by rw [ok x List.mem_cons_self] at q; cases q), List.find?_cons_of_neg (by simpa using c), List.append_assoc, firstN_in nd2 fun y my => ok y (List.mem_cons_of_mem _ my)]
theorem firstN_two {ns l : List Str} (nd : ns.Nodup) (ok : ∀ x ∈ ns, nameOk x = true) (nd2 : l.Nodup) (ok2 : ∀ x ∈ l, nameOk x = true) : firstN [] (ns ++ l) = l.find? fun x => decide (x ∈ ns) := by
  rw [firstN_ok (by rw [List.nil_append]; exact nd) ok, List.nil_append]
  have z := firstN_in (ns := ns) (l := l) (pre := []) (by rw [List.nil_append]; exact nd2) ok2
  rw [List.append_nil] at z
  exact z
theorem firstR_app {ns : List Str} : ∀ {l m : List Rl} {i : Nat}, (∀ r ∈ l, r.faulty ns = false) → firstR ns i (l ++ m) = firstR ns (i + l.length) m
  | [], m, i, _ => rfl
  | r :: l, m, i, h => by
    show (if r.faulty ns = true then some i else firstR ns (i + 1) (l ++ m)) = _
    rw [if_neg (by rw [h r List.mem_cons_self]; decide), firstR_app fun q mq => h q (List.mem_cons_of_mem _ mq)]
    show firstR ns (i + 1 + l.length) m = firstR ns (i + (l.length + 1)) m
    congr 1
    omega
theorem firstR_none {ns : List Str} {l : List Rl} (h : ∀ r ∈ l, r.faulty ns = false) : firstR ns 0 l = none := by
  have z := firstR_app (m := []) (i := 0) h
  rw [List.append_nil] at z
  exact z
theorem firstR_one {ns : List Str} {l : List Rl} {r : Rl} (h : ∀ r ∈ l, r.faulty ns = false) : firstR ns 0 (l ++ [r]) = if r.faulty ns = true then some l.length else none := by
  rw [firstR_app h, Nat.zero_add]
  rfl


def sp_System_without (K : PySem.W.Frag) (C : Addr) (cs : List Addr) : Sp := fun vs H Q E => ∃ (a l p q : Addr) (ns : List Str) (rs : List Rl) (ms : List Int), vs = [.ref a, .ref l] ∧ SysAt K C H a p q ns rs ∧ SqL K H l (ms.map V.int) ∧ SysOk ns rs ∧
  ((ms.find? fun m => !decide (0 ≤ m ∧ m < (rs.length : Int))) = none → ∀ H' o, Same H H' → Q (.ref o) H') ∧ (∀ m, (ms.find? fun m => !decide (0 ≤ m ∧ m < (rs.length : Int))) = some m → BadX cs 4 H (.int m) E)

def sp_System_with_rule (K : PySem.W.Frag) (C : Addr) (cs : List Addr) : Sp := fun vs H Q E => ∃ (a : Addr) (v : V) (p q : Addr) (ns : List Str) (rs : List Rl) (r : Rl), vs = [.ref a, v] ∧ SysAt K C H a p q ns rs ∧ Dp K H v (Rl.d r) ∧ SysOk ns rs ∧ r.cs.length ≤ 1000 ∧ rs.length ≤ 900 ∧
  (r.faulty ns = false → ∀ H' o, Same H H' → Q (.ref o) H') ∧ (r.faulty ns = true → BadX cs 3 H (.int (rs.length : Nat)) E)

def sp_System_beside (K : PySem.W.Frag) (C : Addr) (cs : List Addr) : Sp := fun vs H Q E => ∃ (a p q : Addr) (ns : List Str) (rs : List Rl) (a2 p2 q2 : Addr) (ns2 : List Str), vs = [.ref a, .ref a2] ∧ SysAt K C H a p q ns rs ∧ SysAt K C H a2 p2 q2 ns2 [] ∧ SysOk ns rs ∧ SysOk ns2 [] ∧ ns.length + ns2.length < 64 ∧ rs.length ≤ 900 ∧ (∀ r ∈ rs, r.faulty (ns ++ ns2) = false) ∧
  ((ns2.find? fun x => decide (x ∈ ns)) = none → ∀ H' o, Same H H' → Q (.ref o) H') ∧ (∀ x, (ns2.find? fun x => decide (x ∈ ns)) = some x → BadX cs 2 H (.str x) E)

def sp_System_moved (K : PySem.W.Frag) (C : Addr) (cs : List Addr) : Sp := fun vs H Q E => ∃ (a p q : Addr) (ns : List Str) (rs : List Rl) (d : Addr) (ks zs : List Str) (sh : Str → Int), vs = [.ref a, .ref d] ∧ SysAt K C H a p q ns rs ∧ sortedS ns = true ∧ Sy ns rs ∧ Sy ns (movRs 1 sh rs) ∧ (∀ x, (sh x).natAbs < 2 ^ 300) ∧ ShD H d ks sh ∧ ks.length < 64 ∧ zs.Perm ks ∧ sortedS zs = true ∧
  ((zs.find? fun x => !decide (x ∈ ns)) = none → ∀ H' o, Same H H' → Q (.ref o) H') ∧ (∀ x, (zs.find? fun x => !decide (x ∈ ns)) = some x → BadX cs 5 H (.str x) E)

def sp_System_stretched (K : PySem.W.Frag) (C : Addr) (cs : List Addr) : Sp := fun vs H Q E => ∃ (a p q : Addr) (ns : List Str) (rs : List Rl) (t : Int), vs = [.ref a, .int t] ∧ SysAt K C H a p q ns rs ∧ sortedS ns = true ∧ Sy ns rs ∧ t.natAbs < 2 ^ 400 ∧
  (1 ≤ t → Sy ns (movRs t (fun _ => 0) rs) ∧ ∀ H' o, Same H H' → Q (.ref o) H') ∧ (t < 1 → BadX cs 6 H (.int t) E)

def badNew (ns : List Str) (φ : Str → Str) (x : Str) : Bool := !(nameOk (φ x) && decide ((ns.map φ).count (φ x) ≤ 1))
theorem count_two {ns : List Str} {φ : Str → Str} {x y : Str} (mx : x ∈ ns) (my : y ∈ ns) (n : x ≠ y) (e : φ x = φ y) : 2 ≤ (ns.map φ).count (φ x) := by
  have p : ns.Perm (x :: ns.erase x) := List.perm_cons_erase mx
  have m2 : y ∈ ns.erase x := (List.mem_erase_of_ne (Ne.symm n)).mpr my
  have q := (p.map φ).count_eq (φ x)
  have z : 0 < ((ns.erase x).map φ).count (φ x) := List.count_pos_iff.mpr (List.mem_map.mpr ⟨y, m2, e.symm⟩)
  rw [q, List.map_cons, List.count_cons_self]
  omega
theorem sy_new {ns ks : List Str} {rs : List Rl} {φ : Str → Str} (Y : Sy ns rs) (off : ∀ x, x ∉ ks → φ x = x) (sub : ∀ x ∈ ks, x ∈ ns) (h : ∀ x ∈ ks, badNew ns φ x = false) : Sy (ns.map φ) (renRs φ rs) := by
  have h' : ∀ x ∈ ks, nameOk (φ x) = true ∧ (ns.map φ).count (φ x) ≤ 1 := fun x m => by
    have := h x m
    unfold badNew at this
    simpa using this
  refine sy_ren Y (fun x mx y my e => ?_) fun x mx => ?_
  · by_cases c : x = y
    · exact c
    · have two := count_two mx my c e
      by_cases kx : x ∈ ks
      · have := (h' x kx).2
        omega
      · by_cases ky : y ∈ ks
        · have := (h' y ky).2
          rw [← e] at this
          omega
        · rw [off x kx, off y ky] at e
          exact e
  · by_cases kx : x ∈ ks
    · exact (h' x kx).1
    · rw [off x kx]
      exact Y.nok x mx
def sp_System_renamed (K : PySem.W.Frag) (C : Addr) (cs : List Addr) : Sp := fun vs H Q E => ∃ (a p q : Addr) (ns : List Str) (rs : List Rl) (d : Addr) (ks zs : List Str) (φ : Str → Str), vs = [.ref a, .ref d] ∧ SysAt K C H a p q ns rs ∧ Sy ns rs ∧ NmD H d ks φ ∧ ks.length < 64 ∧ zs.Perm ks ∧ sortedS zs = true ∧ (∀ x ∈ ks, (φ x).cps.size ≤ 1000) ∧
  (∀ x, (zs.find? fun x => !decide (x ∈ ns)) = some x → BadX cs 5 H (.str x) E) ∧ ((zs.find? fun x => !decide (x ∈ ns)) = none → ∀ x, zs.find? (badNew ns φ) = some x → BadX cs 2 H (.str (φ x)) E) ∧
  ((zs.find? fun x => !decide (x ∈ ns)) = none → zs.find? (badNew ns φ) = none → ∀ H' o, Same H H' → Q (.ref o) H')

def dueO (w : Str) : Option PyData → PyData
  | some d => .tuple [.str w, d]
  | none => .str "fine"
def dueN (ns zs : List Str) (φ : Str → Str) : PyData :=
  match zs.find? fun x => !decide (x ∈ ns) with
  | some x => .tuple [.str "unknown", .str x]
  | none => match zs.find? (badNew ns φ) with
    | some x => .tuple [.str "name", .str (φ x)]
    | none => .str "fine"
/-- what is asked of each door, and what is due -/
inductive AskR (K : PySem.W.Frag) (C : Addr) (H : Hp) (ns : List Str) (rs : List Rl) : Int → V → PyData → Prop
  | wo {l : Addr} {ms : List Int} : SqL K H l (ms.map V.int) → AskR K C H ns rs 0 (.ref l) (dueO "rule" ((ms.find? fun m => !decide (0 ≤ m ∧ m < (rs.length : Int))).map PyData.int))
  | wr {v : V} {r : Rl} : Dp K H v r.d → r.cs.length ≤ 1000 → AskR K C H ns rs 1 v (if r.faulty ns = true then .tuple [.str "system", .int (rs.length : Nat)] else .str "fine")
  | be {a2 p2 q2 : Addr} {ns2 : List Str} : SysAt K C H a2 p2 q2 ns2 [] → SysOk ns2 [] → ns.length + ns2.length < 64 → (∀ r ∈ rs, r.faulty (ns ++ ns2) = false) → AskR K C H ns rs 2 (.ref a2) (dueO "name" ((ns2.find? fun x => decide (x ∈ ns)).map PyData.str))
  | re {d : Addr} {ks zs : List Str} {φ : Str → Str} : NmD H d ks φ → ks.length < 64 → zs.Perm ks → sortedS zs = true → (∀ x ∈ ks, (φ x).cps.size ≤ 1000) → AskR K C H ns rs 3 (.ref d) (dueN ns zs φ)
  | mo {d : Addr} {ks zs : List Str} {sh : Str → Int} : Sy ns (movRs 1 sh rs) → (∀ x, (sh x).natAbs < 2 ^ 300) → ShD H d ks sh → ks.length < 64 → zs.Perm ks → sortedS zs = true → AskR K C H ns rs 4 (.ref d) (dueO "unknown" ((zs.find? fun x => !decide (x ∈ ns)).map PyData.str))
  | st {t : Int} : t.natAbs < 2 ^ 400 → (1 ≤ t → Sy ns (movRs t (fun _ => 0) rs)) → AskR K C H ns rs 5 (.int t) (if 0 < t then .str "fine" else .tuple [.str "number", .int t])
theorem dIntT {i : Int} : V.bl (decide (V.int i = V.int i)) = V.bl true := by rw [decide_eq_true rfl]
theorem dIntF {i j : Int} (h : i ≠ j) : V.bl (decide (V.int i = V.int j)) = V.bl false := by rw [decide_eq_false (fun z => h (V.int.inj z))]
def sp__law_raised (K : PySem.W.Frag) (C : Addr) : Sp := fun vs H Q _ => ∃ (door : Int) (a p q : Addr) (ns : List Str) (rs : List Rl) (gv : V) (due : PyData), vs = [.int door, .ref a, gv] ∧ SysAt K C H a p q ns rs ∧ sortedS ns = true ∧ Sy ns rs ∧ AskR K C H ns rs door gv due ∧
  ∀ u H', Same H H' → Dp K H' u due → Q u H'

theorem abc_in (c : Nat) : decide (c ∈ ("abcdefghijklmnopqrstuvwxyz" : Str).cps.toList) = (decide (97 ≤ c) && decide (c ≤ 122)) := by
  have e : ("abcdefghijklmnopqrstuvwxyz" : Str).cps.toList = (List.range 26).map (· + 97) := by decide +kernel
  rw [e, Bool.eq_iff_iff, Bool.and_eq_true, decide_eq_true_iff, decide_eq_true_iff, decide_eq_true_iff, List.mem_map]
  constructor
  · rintro ⟨k, mk, rfl⟩
    have := List.mem_range.mp mk
    omega
  · rintro ⟨a, b⟩
    exact ⟨c - 97, List.mem_range.mpr (by omega), by omega⟩
def oddL (x : Str) : List Nat := x.cps.toList.filter fun c => !(decide (97 ≤ c) && decide (c ≤ 122))
theorem odd_eq {x : Str} : PyData.eqv (.list ((oddL x).map fun c => PyData.str ⟨#[c]⟩)) (.list []) = x.cps.toList.all fun c => decide (97 ≤ c) && decide (c ≤ 122) := by
  unfold oddL
  cases hf : x.cps.toList.filter fun c => !(decide (97 ≤ c) && decide (c ≤ 122)) with
  | nil =>
    have z := List.filter_eq_nil_iff.mp hf
    have : (x.cps.toList.all fun c => decide (97 ≤ c) && decide (c ≤ 122)) = true := by
      rw [List.all_eq_true]
      intro c mc
      have := z c mc
      simpa using this
    rw [this]
    rfl
  | cons c l =>
    have mc : c ∈ x.cps.toList.filter fun c => !(decide (97 ≤ c) && decide (c ≤ 122)) := by rw [hf]; exact List.mem_cons_self
    have z := List.mem_filter.mp mc
    have : (x.cps.toList.all fun c => decide (97 ≤ c) && decide (c ≤ 122)) = false := by
      rw [List.all_eq_false]
      exact ⟨c, z.1, by have := z.2; simp at this ⊢; omega⟩
    rw [this]
    rfl
theorem odd_ly {x : Str} (so : PyData.strOk x = true) : Ly 2 (.list ((oddL x).map fun c => PyData.str ⟨#[c]⟩)) := Ly.list (lyA_of fun d md => by
  obtain ⟨c, mc, rfl⟩ := List.mem_map.mp md
  refine ly_str ?_
  have mc' := (List.mem_filter.mp mc).1
  have so' : x.cps.all (fun x => decide (x < 1114112)) = true := so
  rw [← Array.all_toList, List.all_eq_true] at so'
  have := so' c mc'
  show ((#[c] : Array Nat).all fun x => decide (x < 1114112)) = true
  simpa using this)
theorem odd_dp {K : PySem.W.Frag} {G : Hp} : ∀ l : List Nat, DpAll K G (l.map fun c => V.str ⟨#[c]⟩) (l.map fun c => PyData.str ⟨#[c]⟩)
  | [] => .nil
  | c :: l => .cons (.str _) (odd_dp l)
theorem mem_dec {ns ws : List Str} (p : ns.Perm ws) (x : Str) : decide (x ∈ ns) = decide (x ∈ ws) := decide_eq_decide.mpr p.mem_iff
theorem count_map_perm {ns ws : List Str} (p : ns.Perm ws) (φ : Str → Str) (y : Str) : (ws.map φ).count y = (ns.map φ).count y := ((p.map φ).count_eq y).symm
def sp__law_renamed_due (K : PySem.W.Frag) : Sp := fun vs H Q _ => ∃ (W d : Addr) (ws ns ks zs : List Str) (φ : Str → Str), vs = [.ref W, .ref d] ∧ SqL K H W (ws.map V.str) ∧ ns.Perm ws ∧ NmD H d ks φ ∧ ks.length < 64 ∧ zs.Perm ks ∧ sortedS zs = true ∧ (∀ x ∈ ks, (φ x).cps.size ≤ 1000 ∧ PyData.strOk (φ x) = true) ∧ ws.length ≤ 1000 ∧
  ∀ v H', Same H H' → Dp K H' v (dueN ns zs φ) → Q v H'

theorem head_sorted {zs sh fr : List Str} {p : Str → Bool} (pz : zs.Perm fr) (sz : sortedS zs = true) (ps : sh.Perm (fr.filter p)) (so : sortedS sh = true) : zs.find? p = sh.head? := by
  have e : sh = zs.filter p := by
    refine List.Perm.eq_of_pairwise (fun x y _ _ h1 h2 => ?_) (sorted_pw so) ((sorted_pw sz).sublist List.filter_sublist) (ps.trans (pz.filter p).symm)
    have a1 : x.cps.toList ≤ y.cps.toList := h1
    have a2 : y.cps.toList ≤ x.cps.toList := h2
    have e := List.le_antisymm a1 a2
    cases x with
    | mk xs => cases y with
      | mk ys =>
        have e' : xs.toList = ys.toList := e
        rw [Array.toList_inj.mp e']
  rw [e, List.head?_filter]
theorem due_ly {w : Str} {d : PyData} (hw : PyData.strOk w = true) (hd : Ly 1 d) : Ly 3 (.tuple [.str w, d]) := (Ly.tuple (.cons (ly_str hw) (.cons hd .nil))).mono (by decide)
theorem filter_take {α : Type} {l : List α} {i : Nat} {x : α} {p : α → Bool} (e : l[i]? = some x) : (l.take (i + 1)).filter p = (l.take i).filter p ++ (if p x = true then [x] else []) := by
  rw [take_succ e, List.filter_append]
  congr 1
  cases h : p x with
  | true => rw [if_pos rfl, List.filter_cons, h]; rfl
  | false => rw [if_neg Bool.false_ne_true, List.filter_cons, h]; rfl
theorem free_nm {ws : List Str} (h : WordsOk ws) (k j : Nat) : ((base5.take k) ++ ws.take j).Nodup ∧ ∀ x ∈ (base5.take k) ++ ws.take j, nameOk x = true := by
  refine ⟨List.nodup_append.mpr ⟨base5_nd.sublist (List.take_sublist _ _), h.nd.sublist (List.take_sublist _ _), fun x mx z mz => ?_⟩, fun x mx => ?_⟩
  · rintro rfl
    exact pool_apart x (h.pl x (List.mem_of_mem_take mz)) (List.mem_of_mem_take mx)
  · rcases List.mem_append.mp mx with m | m
    · exact base5_ok x (List.mem_of_mem_take m)
    · exact pool_ok x (h.pl x (List.mem_of_mem_take m))
def sp__law_beside_right (K : PySem.W.Frag) (C : Addr) : Sp := fun vs H Q _ => ∃ (g O W R P1 R1 : Addr) (n : Nat) (ws ss : List Str) (rr : List Rl) (xs : List V), vs = [.ref g, .ref O, .ref W] ∧ Lp K C g W R O P1 R1 ws ss rr xs n H ∧ n ≤ 600000 ∧ W ≠ g ∧ R ≠ g ∧ P1 ≠ g ∧ R1 ≠ g ∧ WordsOk ws ∧ RowsGd ws rr ∧ ss.Perm ws ∧ sortedS ss = true ∧ ws.length ≤ 6 ∧ rr.length ≤ 12 ∧
  ∀ H', Kp g H H' → RS (n + 10) H' g → Q (.bl true) H'

def badM (k : Nat) (m : Int) : Bool := !decide (0 ≤ m ∧ m < (k : Int))
def mostR : Rg := some (none, none)
def oddRow (w : Str) : Nat → Rl
  | 0 => .set "missing" (some (some 0, some 0)) []
  | 1 => .set w none []
  | 2 => .set w (some (some 1, some 0)) []
  | 3 => .stp w "missing" 1 0 mostR []
  | 4 => .stp w w 0 0 mostR []
  | 5 => .set w mostR [(w, none)]
  | 6 => .stp w w 1 0 (some (some 5, some 4)) []
  | 7 => .set w mostR [("missing", mostR)]
  | 8 => .stp w w 1 0 mostR [(w, some (some 1, some 0))]
  | _ => .set w mostR []
def oddRows (w : Str) : List Rl := [oddRow w 0, oddRow w 1, oddRow w 2, oddRow w 3, oddRow w 4, oddRow w 5, oddRow w 6, oddRow w 7, oddRow w 8, oddRow w 9]
def dueRow (ss : List Str) (n : Nat) (r : Rl) : PyData := if r.faulty ss = true then .tuple [.str "system", .int (n : Nat)] else .str "fine"
theorem dueRow_nol {ss : List Str} {n : Nat} (r : Rl) : NoL (dueRow ss n r) := by
  unfold dueRow
  by_cases c : r.faulty ss = true
  · rw [if_pos c]
    refine .tup fun d m => ?_
    rcases List.mem_cons.mp m with rfl | m
    · exact .str _
    · rw [List.mem_singleton.mp m]
      exact .int _
  · rw [if_neg c]
    exact .str _
theorem odd_faulty {ss : List Str} {w : Str} (m : w ∈ ss) (n : ("missing" : Str) ∉ ss) : (∀ i, i < 9 → (oddRow w i).faulty ss = true) ∧ (oddRow w 9).faulty ss = false := by
  have m1 : decide (w ∈ ss) = true := decide_eq_true m
  have n1 : decide (("missing" : Str) ∈ ss) = false := decide_eq_false n
  refine ⟨fun i hi => ?_, ?_⟩
  · match i, hi with
    | 0, _ => show (false || (((!decide (("missing" : Str) ∈ ss)) || false) || _)) = true; rw [n1]; rfl
    | 1, _ => show (false || (((!decide (w ∈ ss)) || false) || true)) = true; rw [m1]; rfl
    | 2, _ => show (false || (((!decide (w ∈ ss)) || false) || true)) = true; rw [m1]; rfl
    | 3, _ => show (false || (((!decide (w ∈ ss)) || ((!decide (("missing" : Str) ∈ ss)) || false)) || _)) = true; rw [m1, n1]; rfl
    | 4, _ => rfl
    | 5, _ => show (false || (((!decide (w ∈ ss)) || ((!decide (w ∈ ss)) || false)) || true)) = true; rw [m1]; rfl
    | 6, _ => show (false || (((!decide (w ∈ ss)) || ((!decide (w ∈ ss)) || false)) || true)) = true; rw [m1]; rfl
    | 7, _ => show (false || (((!decide (w ∈ ss)) || ((!decide (("missing" : Str) ∈ ss)) || false)) || _)) = true; rw [m1, n1]; rfl
    | 8, _ => show (false || (((!decide (w ∈ ss)) || ((!decide (w ∈ ss)) || ((!decide (w ∈ ss)) || false))) || true)) = true; rw [m1]; rfl
  · show (false || (((!decide (w ∈ ss)) || false) || false)) = false
    rw [m1]
    rfl
theorem odd_due {ss : List Str} {w : Str} {n : Nat} (m : w ∈ ss) (nm : ("missing" : Str) ∉ ss) : (oddRows w).map (dueRow ss n) = List.replicate 9 (.tuple [.str "system", .int (n : Nat)]) ++ [.str "fine"] := by
  obtain ⟨h, h9⟩ := odd_faulty m nm
  have e : ∀ i, i < 9 → dueRow ss n (oddRow w i) = .tuple [.str "system", .int (n : Nat)] := fun i hi => if_pos (h i hi)
  have e9 : dueRow ss n (oddRow w 9) = .str "fine" := if_neg (by rw [h9]; decide)
  show [dueRow ss n (oddRow w 0), dueRow ss n (oddRow w 1), dueRow ss n (oddRow w 2), dueRow ss n (oddRow w 3), dueRow ss n (oddRow w 4), dueRow ss n (oddRow w 5), dueRow ss n (oddRow w 6), dueRow ss n (oddRow w 7), dueRow ss n (oddRow w 8), dueRow ss n (oddRow w 9)] = _
  rw [e 0 (by decide), e 1 (by decide), e 2 (by decide), e 3 (by decide), e 4 (by decide), e 5 (by decide), e 6 (by decide), e 7 (by decide), e 8 (by decide), e9]
  rfl
theorem odd_cs {w : Str} : ∀ r ∈ oddRows w, r.cs.length ≤ 1000 := fun r m => by
  unfold oddRows at m
  simp only [List.mem_cons, List.not_mem_nil, or_false] at m
  rcases m with rfl | rfl | rfl | rfl | rfl | rfl | rfl | rfl | rfl | rfl <;> first | exact (show (0 : Nat) ≤ 1000 from by decide) | exact (show (1 : Nat) ≤ 1000 from by decide)
theorem push_due {K : PySem.W.Frag} {H G G' : Hp} {D : Addr} {acc : List V} {rr : List Rl} {j : Nat} {r : Rl} {f : Rl → PyData} {v : V} (nf : ∀ r, NoL (f r)) (nD : H D = none) (sm : Same H G) (k : Same G G') (oD : G D = some (.lst acc)) (da : DpAll K G acc ((rr.take j).map f)) (er : rr[j]? = some r) (dv : Dp K G' v (f r)) :
    G' D = some (.lst acc) ∧ acc.length = j ∧ Same H (upd G' D (.lst (acc ++ [v]))) ∧ upd G' D (.lst (acc ++ [v])) D = some (.lst (acc ++ [v])) ∧ DpAll K (upd G' D (.lst (acc ++ [v]))) (acc ++ [v]) ((rr.take (j + 1)).map f) := by
  have oD' := k _ _ oD
  have lj := (List.getElem?_eq_some_iff.mp er).1
  refine ⟨oD', ?_, fun b o e => ?_, upd_same, ?_⟩
  · rw [dpa_len da, List.length_map, List.length_take]
    omega
  · rw [upd_ne (ne_of_none e nD)]
    exact k _ _ (sm _ _ e)
  · have kD : Kl D G' (upd G' D (.lst (acc ++ [v]))) := ⟨⟨_, oD'⟩, Kp.at⟩
    rw [take_succ er, List.map_append]
    exact dpa_app (dpa_kl kD (dpa_same k da) fun d m => by
      obtain ⟨q, _, rfl⟩ := List.mem_map.mp m
      exact nf q) (dpa_one (dp_kl kD dv (nf _)))
theorem one_at {a : Str} {r : List Str} : atI ((a :: r).map V.str) 0 = some (.str a) := atI_nat (j := 0) rfl
theorem missing_not : ("missing" : Str) ∉ pool := by decide +kernel
def sp__law_rules_right (K : PySem.W.Frag) (C : Addr) : Sp := fun vs H Q _ => ∃ (g O W R P1 R1 : Addr) (n : Nat) (ws ss : List Str) (rr : List Rl) (xs : List V), vs = [.ref g, .ref O, .ref W, .ref R] ∧ Lp K C g W R O P1 R1 ws ss rr xs n H ∧ n ≤ 600000 ∧ W ≠ g ∧ R ≠ g ∧ P1 ≠ g ∧ R1 ≠ g ∧ WordsOk ws ∧ ws ≠ [] ∧ RowsGd ws rr ∧ ss.Perm ws ∧ sortedS ss = true ∧ ws.length ≤ 6 ∧ rr.length ≤ 12 ∧
  ∀ H', Kp g H H' → RS (n + 10) H' g → Q (.bl true) H'

theorem sorted_ex (l : List Str) : ∃ z : List Str, z.Perm l ∧ sortedS z = true := by
  refine ⟨l.mergeSort (fun a b => decide (a.cps.toList ≤ b.cps.toList)), List.mergeSort_perm l _, sortedS_of_pairwise _ ?_⟩
  have p := List.pairwise_mergeSort (le := fun (a b : Str) => decide (a.cps.toList ≤ b.cps.toList)) (fun a b c h1 h2 => decide_eq_true (List.le_trans (of_decide_eq_true h1) (of_decide_eq_true h2))) (fun a b => by
    rcases List.le_total a.cps.toList b.cps.toList with h | h
    · simp [h]
    · simp [h]) l
  refine p.imp fun {a b} h => ?_
  have h' : a.cps.toList ≤ b.cps.toList := of_decide_eq_true h
  rw [ltCps_eq, decide_eq_false h']
theorem cut_from (xs : List V) (k : Nat) : cutV xs (some (k : Int)) none = xs.drop k := by
  unfold cutV
  rw [HT.sIx_none, HT.sIx_nat, List.take_of_length_le (by rw [List.length_drop]; exact Nat.le_refl _)]
  by_cases h : k ≤ xs.length
  · rw [Nat.min_eq_left h]
  · rw [Nat.min_eq_right (by omega), List.drop_of_length_le (Nat.le_refl _), List.drop_of_length_le (by omega)]
theorem strF_put {φ : Str → Str} {x y : Str} : (fun z => V.str (put1 φ x y z)) = put1 (fun z => V.str (φ z)) x (.str y) := funext fun z => by
  unfold put1
  by_cases c : z = x
  · rw [if_pos c, if_pos c]
  · rw [if_neg c, if_neg c]
def fiveV : List Str := ["u", "B", "", "abcdefghi", "abcdefgh"]
theorem five_ok : ∀ x ∈ fiveV, x.cps.size ≤ 1000 ∧ PyData.strOk x = true := by decide +kernel
theorem more_nd : (["missing", "other"] : List Str).Nodup := by decide +kernel
theorem more_not : ∀ x ∈ pool, x ∉ (["missing", "other"] : List Str) := by decide +kernel
theorem more_ok : ∀ x ∈ (["missing", "other"] : List Str), PyData.strOk x = true := by decide +kernel
theorem due_lyN {ns zs : List Str} {φ : Str → Str} (hz : ∀ x ∈ zs, PyData.strOk x = true) (hp : ∀ x ∈ zs, PyData.strOk (φ x) = true) : Ly 3 (dueN ns zs φ) := by
  unfold dueN
  cases e : zs.find? fun x => !decide (x ∈ ns) with
  | some x => exact due_ly (by decide +kernel) (ly_str (hz x (List.mem_of_find?_eq_some e)))
  | none =>
    cases e2 : zs.find? (badNew ns φ) with
    | some x => exact due_ly (by decide +kernel) (ly_str (hp x (List.mem_of_find?_eq_some e2)))
    | none => exact (ly_str (by decide +kernel)).mono (by decide)
theorem mergeK0 {ws : List Str} {u : Str → V} (nd : ws.Nodup) : mergeK [] (fK ws u) = fK ws u := mergeK_fK (ks := []) nd
theorem fK_const {ws : List Str} {j : Nat} {x : Str} {u : Str → V} (e : ws[j]? = some x) : fK (ws.take (j + 1)) u = fK (ws.take j) u ++ [(Sum.inr x, u x)] := by
  unfold fK
  rw [take_succ e, List.map_append]
  rfl
theorem sq_open {K : PySem.W.Frag} {G : Hp} {d p : Addr} {od : Obj} {kvs : List (Key × V)} {xs : List V} (e : G d = some (.frz od (.dK kvs))) (s : SqT K G p xs) : SqT K (upd G d (.dK kvs)) p xs := by
  rcases s with s | s
  · rcases s with s | ⟨o, s⟩
    · exact .inl (.inl (by rw [upd_ne (fun z => by rw [z, e] at s; cases s)]; exact s))
    · exact .inl (.inr ⟨o, by rw [upd_ne (fun z => by rw [z, e] at s; cases s)]; exact s⟩)
  · exact .inr s
def sp_law (K : PySem.W.Frag) : Sp := fun vs H Q _ => ∃ (a : Addr) (ns : List Int), vs = [.ref a] ∧ SqL K H a (ns.map V.int) ∧ ns.length ≤ 63 ∧ ∀ H', Q (.bl true) H'

end Pk09

namespace Pk09
open PySem PySem.Spec PyProof.Rows L2 Gd
section
variable {P : Program} {w : World} {K : PySem.W.Frag} {mg : Str → Option Value} {base : Heap}
set_option maxHeartbeats 8000000 in
-- is_upside_down: level 1; builtins []; cells []; slots: 0 one, 1 low, 2 high
theorem ok_is_upside_down (h : At K mg "is_upside_down" s_is_upside_down ["one"]) : Dn P w K mg base 1 "is_upside_down" s_is_upside_down ["one"] (sp_is_upside_down K) := by
  refine .mk' h fun f fd F => F.ok sc_is_upside_down (fun vs H Q E h => ?_) (fun cdv A outer s H vs Q E hr h => ?_)
  · obtain ⟨v, r, rfl, hv, q⟩ := h
    rfl
  · obtain ⟨v, r, rfl, hv, q⟩ := h
    refine ⟨_, (pss_cons (ps_if (pt_cmpR op_isN (pv 0) pe_non (nomark _))
        (pss_one (ps_ret pe_bl))
        pss_nil)
      (pss_cons (ps_asg (pv 0) (pg_tup (by rfl) (pgs_cons (pg_name (i := 1) sc_is_upside_down.nd rfl (.inl rfl)) (pgs_cons (pg_name (i := 2) sc_is_upside_down.nd rfl (.inl rfl)) pgs_nil))))
      (pss_one (ps_ret (pe_and (pe_cmpR op_notN (pv 1) pe_non (nomark _)) (pe_and (pe_cmpR op_notN (pv 2) pe_non (nomark _)) (pe_one (pe_cmpR op_gt (pv 1) (pv 2) (nomark _))))))))), ?_⟩
    match r, hv with
    | none, hv =>
      have e : v = .non := hv
      subst e
      exact ⟨_, rfl, rfl, _, rfl, iteT q⟩
    | some (l, u), hv =>
      obtain ⟨p, rfl, s⟩ := hv
      refine ⟨_, rfl, rfl, _, rfl, iteF ?_⟩
      refine ⟨_, rfl, p, _, rfl, s, rfl, _, _, rfl, _, _, rfl, rfl, ?_⟩
      match l, u with
      | none, _ => exact ⟨_, rfl, rfl, _, rfl, iteF q⟩
      | some l, none => exact ⟨_, rfl, rfl, _, rfl, iteT ⟨_, rfl, rfl, _, rfl, iteF q⟩⟩
      | some l, some u => exact ⟨_, rfl, rfl, _, rfl, iteT ⟨_, rfl, rfl, _, rfl, iteT ⟨_, rfl, _, rfl, _, _, rfl, rfl, q⟩⟩⟩
end

end Pk09
namespace Pk09
open PySem PySem.Spec PyProof.Rows L2 Gd
section
variable {P : Program} {w : World} {K : PySem.W.Frag} {mg : Str → Option Value} {base : Heap}
set_option maxHeartbeats 8000000 in
-- check_range: level 2; builtins []; cells []; slots: 0 one
theorem ok_check_range (h : At K mg "check_range" s_check_range ["one"]) (D_is_upside_down : Dn P w K mg base 1 "is_upside_down" s_is_upside_down ["one"] (sp_is_upside_down K)) : Dn P w K mg base 2 "check_range" s_check_range ["one"] (sp_check_range K) := by
  refine .mk' h fun f fd F => F.ok sc_check_range (fun vs H Q E h => ?_) (fun cdv A outer s H vs Q E hr h => ?_)
  · obtain ⟨v, r, rfl, hv, ho, q⟩ := h
    rfl
  · obtain ⟨v, r, rfl, hv, ho, q⟩ := h
    refine ⟨_, (pss_one (ps_if (pt_val (pe_c D_is_upside_down hr (by rfl) (pa_cons (pv 0) pa_nil)))
        (pss_one ps_never)
        pss_nil)), ?_⟩
    refine ⟨_, rfl, v, r, rfl, hv, ?_⟩
    rw [up_ok ho]
    exact ⟨_, rfl, iteF q⟩
end

end Pk09
namespace Pk09
open PySem PySem.Spec PyProof.Rows L2 Gd
section
variable {P : Program} {w : World} {K : PySem.W.Frag} {mg : Str → Option Value} {base : Heap}
set_option maxHeartbeats 8000000 in
-- _taken: level 1; builtins []; cells []; slots: 0 bound, 1 factor, 2 add
theorem ok__taken (h : At K mg "_taken" s__taken ["bound", "factor", "add"]) : Dn P w K mg base 1 "_taken" s__taken ["bound", "factor", "add"] (sp__taken K) := by
  refine .mk' h fun f fd F => F.ok sc__taken (fun vs H Q E h => ?_) (fun cdv A outer s H vs Q E hr h => ?_)
  · obtain ⟨o, f, a, rfl, so, sf, q⟩ := h
    rfl
  · obtain ⟨o, f, a, rfl, so, sf, q⟩ := h
    refine ⟨_, (pss_one (ps_ret (pe_ifExp (pt_cmpR op_isN (pv 0) pe_non (nomark _)) pe_non (pe_op op_add (pe_op op_mulW (pv 1) (pv 0)) (pv 2))))), ?_⟩
    match o, so with
    | none, _ => exact ⟨_, rfl, rfl, _, rfl, iteT q⟩
    | some x, so => exact ⟨_, rfl, rfl, _, rfl, iteF ⟨_, rfl, _, rfl, _, _, rfl, rfl, wide_mul sf (so x rfl) (by decide) (by decide) (by decide), _, rfl, _, _, rfl, rfl, q⟩⟩
end

end Pk09
namespace Pk09
open PySem PySem.Spec PyProof.Rows L2 Gd
section
variable {P : Program} {w : World} {K : PySem.W.Frag} {mg : Str → Option Value} {base : Heap}
set_option maxHeartbeats 8000000 in
-- stepped: level 3; builtins []; cells []; slots: 0 one, 1 factor, 2 add, 3 ends
theorem ok_stepped (h : At K mg "stepped" s_stepped ["one", "factor", "add"]) (D__taken : Dn P w K mg base 1 "_taken" s__taken ["bound", "factor", "add"] (sp__taken K)) (D_check_range : Dn P w K mg base 2 "check_range" s_check_range ["one"] (sp_check_range K)) : Dn P w K mg base 3 "stepped" s_stepped ["one", "factor", "add"] (sp_stepped K) := by
  refine .mk' h fun f fd F => F.ok sc_stepped (fun vs H Q E h => ?_) (fun cdv A outer s H vs Q E hr h => ?_)
  · obtain ⟨v, r, f, a, rfl, hv, ho, sz, sf, q⟩ := h
    rfl
  · obtain ⟨v, r, f, a, rfl, hv, ho, sz, sf, q⟩ := h
    refine ⟨_, (pss_cons (ps_expr (pe_c D_check_range hr (by rfl) (pa_cons (pv 0) pa_nil)))
      (pss_cons (ps_if (pt_cmpR op_isN (pv 0) pe_non (nomark _))
        (pss_one (ps_ret pe_non))
        pss_nil)
      (pss_cons (ps_set (i := 3) sc_stepped.nd rfl (.inl rfl) (pe_tup (pa_cons (pe_c D__taken hr (by rfl) (pa_cons (pe_ix ix_tup (pv 0) pe_int (fun _ _ => rfl)) (pa_cons (pv 1) (pa_cons (pv 2) pa_nil)))) (pa_cons (pe_c D__taken hr (by rfl) (pa_cons (pe_ix ix_tup (pv 0) pe_int (fun _ _ => rfl)) (pa_cons (pv 1) (pa_cons (pv 2) pa_nil)))) pa_nil))))
      (pss_one (ps_ret (pe_ifExp (pt_cmpR op_gt (pv 1) pe_int (nomark _)) (pv 3) (pe_tup (pa_cons (pe_ix ix_tup (pv 3) pe_int (fun _ _ => rfl)) (pa_cons (pe_ix ix_tup (pv 3) pe_int (fun _ _ => rfl)) pa_nil))))))))), ?_⟩
    refine ⟨_, rfl, v, r, rfl, hv, ho, ?_⟩
    match r, hv, sz, q with
    | none, hv, _, q =>
      have e : v = .non := hv
      subst e
      exact ⟨_, rfl, rfl, _, rfl, iteT (q _ _ (Same.refl _) rfl)⟩
    | some (l, u), hv, ⟨z1, z2⟩, q =>
      obtain ⟨p, rfl, s⟩ := hv
      refine ⟨_, rfl, rfl, _, rfl, iteF ?_⟩
      refine ⟨_, rfl, p, _, 0, _, rfl, rfl, s, atI_nat (j := 0) rfl, _, rfl, _, rfl, l, f, a, rfl, z1, sf, ?_⟩
      refine ⟨_, rfl, p, _, 1, _, rfl, rfl, s, atI_nat (j := 1) rfl, _, rfl, _, rfl, u, f, a, rfl, z2, sf, ?_⟩
      refine ⟨by show 2 ≤ sizeLine; decide, fun t nt => ?_⟩
      have st : SqT K (upd H t (.tup [ov (tk f a l), ov (tk f a u)])) t [ov (tk f a l), ov (tk f a u)] := .inl (.inl upd_same)
      refine ⟨_, rfl, _, _, rfl, rfl, _, rfl, ite2 (fun c => ?_) (fun c => ?_)⟩
      · have c' : f > 0 := of_decide_eq_true c
        refine ⟨_, rfl, q _ _ (Same.new nt) ?_⟩
        show RgV K _ _ (if f > 0 then some (tk f a l, tk f a u) else some (tk f a u, tk f a l))
        rw [if_pos c']
        exact ⟨t, rfl, st⟩
      · have c' : ¬ f > 0 := fun z => c (decide_eq_true z)
        refine ⟨_, rfl, t, _, 1, _, rfl, rfl, st, atI_nat (j := 1) rfl, _, rfl, t, _, 0, _, rfl, rfl, st, atI_nat (j := 0) rfl, by show 2 ≤ sizeLine; decide, fun t2 nt2 => ?_⟩
        refine q _ _ ((Same.new nt).trans (Same.new nt2)) ?_
        show RgV K _ _ (if f > 0 then some (tk f a l, tk f a u) else some (tk f a u, tk f a l))
        rw [if_neg c']
        exact ⟨t2, rfl, .inl (.inl upd_same)⟩
end

end Pk09
namespace Pk09
open PySem PySem.Spec PyProof.Rows L2 Gd
section
variable {P : Program} {w : World} {K : PySem.W.Frag} {mg : Str → Option Value} {base : Heap}
set_option maxHeartbeats 8000000 in
-- _law_draw: level 1; builtins ['int']; cells []; slots: 0 rng, 1 limit, 2 digit, 3 blend
theorem ok__law_draw (h : At K mg "_law_draw" s__law_draw ["rng", "limit"]) (m_int : mg "int" = none) : Dn P w K mg base 1 "_law_draw" s__law_draw ["rng", "limit"] (sp__law_draw K) := by
  refine .mk' h fun f fd F => F.ok sc__law_draw (fun vs H Q E h => ?_) (fun cdv A outer s H vs Q E hr h => ?_)
  · obtain ⟨a, lim, n, rfl, rs, hn, l0, l1, q⟩ := h
    rfl
  · obtain ⟨a, lim, n, rfl, rs, hn, l0, l1, q⟩ := h
    refine ⟨_, (pss_cons (ps_if (pt_cmpR op_gt (pe_ix ix_list (pv 0) pe_int (fun _ _ => rfl)) pe_int (nomark _))
        (pss_cons (ps_set (i := 2) sc__law_draw.nd rfl (.inl rfl) (pe_op op_mod (pe_callTy call_int1 (by rfl) m_int (by decide +kernel) (pa_cons (pe_ix ix_list (pv 0) pe_int (fun _ _ => rfl)) pa_nil)) (pv 1)))
        (pss_cons (ps_asg (pe_op op_fdivW (pe_ix ix_list (pv 0) pe_int (fun _ _ => rfl)) (pv 1)) (pg_sub (pv 0) pe_int set_list))
        (pss_one (ps_ret (pv 2)))))
        pss_nil)
      (pss_cons (ps_asg (pe_op op_add (pe_ix ix_list (pv 0) pe_int (fun _ _ => rfl)) pe_int) (pg_sub (pv 0) pe_int set_list))
      (pss_cons (ps_set (i := 3) sc__law_draw.nd rfl (.inl rfl) (pe_op op_mod (pe_callTy call_int1 (by rfl) m_int (by decide +kernel) (pa_cons (pe_op op_powW (pe_op op_add (pe_ix ix_list (pv 0) pe_int (fun _ _ => rfl)) (pe_op op_mulW pe_int (pe_ix ix_list (pv 0) pe_int (fun _ _ => rfl)))) pe_int) pa_nil)) pe_int))
      (pss_cons (ps_set (i := 3) sc__law_draw.nd rfl (.inl rfl) (pe_op op_mod (pe_callTy call_int1 (by rfl) m_int (by decide +kernel) (pa_cons (pe_op op_powW (pe_op op_add (pv 3) (pe_op op_mulW pe_int (pe_ix ix_list (pv 0) pe_int (fun _ _ => rfl)))) pe_int) pa_nil)) pe_int))
      (pss_one (ps_ret (pe_op op_mod (pe_callTy call_int1 (by rfl) m_int (by decide +kernel) (pa_cons (pe_op op_fdivW (pv 3) pe_int) pa_nil)) (pv 1)))))))), ?_⟩
    obtain ⟨d, sd, t, e, d0, d1, s0, s1, t0, t1⟩ := rs.ok
    have hl : SqL K H a [.int d, .int sd, .int t] := .inl (.inl e)
    refine ⟨_, rfl, a, _, 0, _, rfl, rfl, hl, atI_nat (j := 0) rfl, _, _, rfl, rfl, _, rfl, ite2 (fun c => ?_) (fun c => ?_)⟩
    · have c' : d > 0 := of_decide_eq_true c
      -- digit = int(rng[0]) % limit
      refine ⟨_, rfl, a, _, 0, _, rfl, rfl, hl, atI_nat (j := 0) rfl, .inl ⟨_, rfl, _, rfl, _, _, rfl, rfl, l0, ?_⟩⟩
      -- rng[0] = rng[0] // limit
      refine ⟨_, rfl, a, _, 0, _, rfl, rfl, hl, atI_nat (j := 0) rfl, _, rfl, _, _, rfl, rfl, wide_div l0 l1 (by decide) (by decide), ?_⟩
      refine ⟨_, rfl, a, _, 0, 0, rfl, rfl, e, rfl, _, rfl, ?_⟩
      have dl : d / lim ≤ d := Int.ediv_le_self _ d0
      have dz : 0 ≤ d / lim := Int.ediv_nonneg d0 (by omega)
      refine q _ _ (Int.emod_nonneg _ (by omega)) (Int.emod_lt_of_pos _ l0) Kp.at ⟨_, _, _, upd_same, dz, ?_, s0, s1, t0, by omega⟩
      exact Nat.lt_of_le_of_lt (by omega) d1
    · -- rng[2] = rng[2] + 1
      refine ⟨_, rfl, a, _, 2, _, rfl, rfl, hl, atI_nat (j := 2) rfl, _, _, rfl, rfl, ?_⟩
      refine ⟨_, rfl, a, _, 2, 2, rfl, rfl, e, rfl, ?_⟩
      have e2 : upd H a (.lst [.int d, .int sd, .int (t + 1)]) a = some (.lst [.int d, .int sd, .int (t + 1)]) := upd_same
      have hl2 : SqL K (upd H a (.lst [.int d, .int sd, .int (t + 1)])) a [.int d, .int sd, .int (t + 1)] := .inl (.inl e2)
      -- blend = ..
      refine ⟨_, rfl, a, _, 1, _, rfl, rfl, hl2, atI_nat (j := 1) rfl, _, rfl, a, _, 2, _, rfl, rfl, hl2, atI_nat (j := 2) rfl, _, _, rfl, rfl, ?_, _, _, rfl, rfl, _, _, rfl, rfl, ?_, .inl ⟨_, rfl, _, _, rfl, rfl, (by show (0 : Int) < _; decide), ?_⟩⟩
      · exact wide_mul (a := 30) (b := 30) (by decide) (by omega) (by decide) (by decide) (by decide)
      · exact powW_ok (a := 64) (by omega) (by decide) (by decide)
      have b0 : 0 ≤ (sd + 998244353 * (t + 1)) ^ (3 : Int).toNat % 162259276829213363391578010288127 := Int.emod_nonneg _ (by decide)
      have b1 : (sd + 998244353 * (t + 1)) ^ (3 : Int).toNat % 162259276829213363391578010288127 < 162259276829213363391578010288127 := Int.emod_lt_of_pos _ (by decide)
      generalize (sd + 998244353 * (t + 1)) ^ (3 : Int).toNat % 162259276829213363391578010288127 = bl at b0 b1
      refine ⟨_, rfl, _, rfl, a, _, 2, _, rfl, rfl, hl2, atI_nat (j := 2) rfl, _, _, rfl, rfl, ?_, _, _, rfl, rfl, _, _, rfl, rfl, ?_, .inl ⟨_, rfl, _, _, rfl, rfl, (by show (0 : Int) < _; decide), ?_⟩⟩
      · exact wide_mul (a := 30) (b := 30) (by decide) (by omega) (by decide) (by decide) (by decide)
      · exact powW_ok (a := 120) (by omega) (by decide) (by decide)
      refine ⟨_, rfl, _, _, rfl, rfl, wide_div (b := 30) (by decide) (by decide) (by decide) (by decide), .inl ⟨_, rfl, _, rfl, _, _, rfl, rfl, l0, ?_⟩⟩
      exact q _ _ (Int.emod_nonneg _ (by omega)) (Int.emod_lt_of_pos _ l0) Kp.at ⟨_, _, _, upd_same, d0, d1, s0, s1, by omega, by omega⟩
end

end Pk09
namespace Pk09
open PySem PySem.Spec PyProof.Rows L2 Gd
section
variable {P : Program} {w : World} {K : PySem.W.Frag} {mg : Str → Option Value} {base : Heap}
set_option maxHeartbeats 8000000 in
-- _law_rng: level 1; builtins ['abs', 'int']; cells []; slots: 0 script, 1 digits, 2 seed, 3 number, 4 far
theorem ok__law_rng (h : At K mg "_law_rng" s__law_rng ["script"]) (m_abs : mg "abs" = none) (m_int : mg "int" = none) : Dn P w K mg base 1 "_law_rng" s__law_rng ["script"] (sp__law_rng K) := by
  refine .mk' h fun f fd F => F.ok sc__law_rng (fun vs H Q E h => ?_) (fun cdv A outer s H vs Q E hr h => ?_)
  · obtain ⟨a, ns, rfl, hS, hn, q⟩ := h
    rfl
  · obtain ⟨a, ns, rfl, hS, hn, q⟩ := h
    refine ⟨_, (pss_cons (ps_asg (pe_tup (pa_cons pe_int (pa_cons pe_int pa_nil))) (pg_tup (by rfl) (pgs_cons (pg_name (i := 1) sc__law_rng.nd rfl (.inl rfl)) (pgs_cons (pg_name (i := 2) sc__law_rng.nd rfl (.inl rfl)) pgs_nil))))
      (pss_cons (ps_for PassesOwn.never rfl (pi_list (pe_slice sl_list (pv 0) po_none (po_some pe_int))) (pg_name (i := 3) sc__law_rng.nd rfl (.inl rfl))
        (pss_cons (ps_set (i := 4) sc__law_rng.nd rfl (.inl rfl) (pe_callB call_abs (by rfl) m_abs (by decide +kernel) (pa_cons (pv 3) pa_nil)))
        (pss_cons (ps_if (pt_cmpR op_ge (pv 4) (pe_op op_powW pe_int pe_int) (nomark _))
          (pss_one (ps_set (i := 1) sc__law_rng.nd rfl (.inl rfl) (pe_op op_add (pe_op op_mulW (pv 1) (pe_op op_powW pe_int pe_int)) (pe_op op_mod (pe_callTy call_int1 (by rfl) m_int (by decide +kernel) (pa_cons (pv 4) pa_nil)) (pe_op op_powW pe_int pe_int)))))
          pss_nil)
        (pss_one (ps_set (i := 2) sc__law_rng.nd rfl (.inl rfl) (pe_op op_mod (pe_callTy call_int1 (by rfl) m_int (by decide +kernel) (pa_cons (pe_op op_add (pe_op op_add (pe_op op_mulW (pv 2) pe_int) (pe_op op_mod (pe_callTy call_int1 (by rfl) m_int (by decide +kernel) (pa_cons (pv 3) pa_nil)) pe_int)) pe_int) pa_nil)) pe_int))))))
      (pss_one (ps_ret (pe_lst (pa_cons (pv 1) (pa_cons (pv 2) (pa_cons pe_int pa_nil)))))))), ?_⟩
    refine ⟨by show 2 ≤ sizeLine; decide, fun c0 nc0 => ?_⟩
    refine ⟨c0, _, rfl, .inl (.inl upd_same), rfl, _, _, rfl, _, _, rfl, rfl, ?_⟩
    have sm0 : Same H (upd H c0 (.tup [.int 0, .int 88675123])) := Same.new nc0
    generalize upd H c0 (.tup [.int 0, .int 88675123]) = H0 at sm0
    refine ⟨_, rfl, 63, rfl, a, _, rfl, sm0.seq hS, fun c nc => ⟨c, rfl, ⟨_, .inl (.inl upd_same)⟩, ?_⟩⟩
    have len63 : (cutV (ns.map V.int) none (some 63)).length ≤ 63 := Nat.le_trans (cutV_length _ _ _) (by rw [List.length_map]; exact hn)
    refine for_list (xs := cutV (ns.map V.int) none (some 63)) (fun i σ H' => H' = upd H0 c (.lst (cutV (ns.map V.int) none (some 63))) ∧
      ∃ dg sd y3 y4, σ = [some (.ref a), some (.int dg), some (.int sd), y3, y4] ∧ 0 ≤ dg ∧ dg.natAbs < 2 ^ (200 * i + 1) ∧ 0 ≤ sd ∧ sd < 2305843009213693951)
      ⟨rfl, 0, 88675123, none, none, rfl, by decide, by decide, by decide, by decide⟩ ?_ ?_ ?_
    · intro i σ H' _ hw
      rw [hw.1]
      exact .inl (.inl upd_same)
    · intro i x σ H' hx hw
      have hi : i < (cutV (ns.map V.int) none (some 63)).length := (List.getElem?_eq_some_iff.mp hx).1
      obtain ⟨rfl, dg, sd, y3, y4, rfl, d0, d1, s0, s1⟩ := hw
      obtain ⟨z, rfl⟩ := cut_ints hx
      refine ⟨_, rfl, z, rfl, ?_⟩
      generalize (if z < 0 then -z else z) = f
      refine ⟨_, rfl, _, _, rfl, rfl, ten18, _, _, rfl, rfl, _, rfl, ite2 (fun _ => ?_) (fun _ => ?_)⟩
      · have bs := big_step (f := f) d0 d1
        refine ⟨_, rfl, _, _, rfl, rfl, ten60, _, _, rfl, rfl, ?_, _, rfl, .inl ⟨_, rfl, _, _, rfl, rfl, ten60, _, _, rfl, rfl, (by show (0 : Int) < _; decide), _, _, rfl, rfl, ?_⟩⟩
        · exact wide_mul (a := 200 * i + 1) (b := 200) d1 (by decide) (by omega) (by decide) (by omega)
        refine ⟨_, rfl, _, _, rfl, rfl, wide_mul (a := 64) (b := 64) (by omega) (by decide) (by decide) (by decide) (by decide), _, rfl, .inl ⟨_, rfl, _, _, rfl, rfl, (by show (0 : Int) < _; decide), _, _, rfl, rfl, _, _, rfl, rfl,
          .inl ⟨_, rfl, _, _, rfl, rfl, (by show (0 : Int) < _; decide), ?_⟩⟩⟩
        exact ⟨rfl, _, _, _, _, rfl, bs.1, bs.2, Int.emod_nonneg _ (by decide), Int.emod_lt_of_pos _ (by decide)⟩
      · refine ⟨_, rfl, _, _, rfl, rfl, wide_mul (a := 64) (b := 64) (by omega) (by decide) (by decide) (by decide) (by decide), _, rfl, .inl ⟨_, rfl, _, _, rfl, rfl, (by show (0 : Int) < _; decide), _, _, rfl, rfl, _, _, rfl, rfl,
          .inl ⟨_, rfl, _, _, rfl, rfl, (by show (0 : Int) < _; decide), ?_⟩⟩⟩
        exact ⟨rfl, dg, _, _, _, rfl, d0, keep_step d1, Int.emod_nonneg _ (by decide), Int.emod_lt_of_pos _ (by decide)⟩
    · intro σ H' hw
      obtain ⟨rfl, dg, sd, y3, y4, rfl, d0, d1, s0, s1⟩ := hw
      refine ⟨_, rfl, _, rfl, by show 3 ≤ sizeLine; decide, fun p np => ?_⟩
      have sm := sm0.trans (Same.new (o := .lst (cutV (ns.map V.int) none (some 63))) nc)
      exact q _ _ (sm.trans (Same.new np)) (sm.free np) ⟨_, _, _, upd_same, d0, end_step len63 d1, s0, s1, by decide, by decide⟩
end

end Pk09
namespace Pk09
open PySem PySem.Spec PyProof.Rows L2 Gd
section
variable {P : Program} {w : World} {K : PySem.W.Frag} {mg : Str → Option Value} {base : Heap}
set_option maxHeartbeats 8000000 in
-- _names_of: level 1; builtins ['list']; cells []; slots: 0 rule, 1 named, 2 condition
theorem ok__names_of (h : At K mg "_names_of" s__names_of ["rule"]) (m_list : mg "list" = none) : Dn P w K mg base 1 "_names_of" s__names_of ["rule"] (sp__names_of K) := by
  refine .mk' h fun f fd F => F.ok sc__names_of (fun vs H Q E h => ?_) (fun cdv A outer s H vs Q E hr h => ?_)
  · obtain ⟨v, r, rfl, hv, hc, q⟩ := h
    rfl
  · obtain ⟨v, r, rfl, hv, hc, q⟩ := h
    refine ⟨_, (pss_cons (ps_set (i := 1) sc__names_of.nd rfl (.inl rfl) (pe_ifExp (pt_cmpR op_eq (pe_ix ix_tup (pv 0) pe_int (fun _ _ => rfl)) pe_str (nomark _)) (pe_slice sl_tup (pv 0) (po_some pe_int) (po_some pe_int)) (pe_slice sl_tup (pv 0) (po_some pe_int) (po_some pe_int))))
      (pss_one (ps_ret (pe_op op_cat (pe_callTy call_list_of (by rfl) m_list (by decide +kernel) (pa_cons (pv 1) pa_nil)) (pe_lc (own := [("condition", 2)]) (g := gName 2) rfl sc__names_of.nd (pi_tup (pe_ix ix_tup (pv 0) (pe_un un_neg pe_int) (fun _ _ => rfl))) (blkOk_by (N := ["rule", "named", "condition"]) (sc := defScope s__names_of) (by decide +kernel)) (fun _ _ _ _ _ => pg_name (i := 2) sc__names_of.nd rfl (Or.inl rfl)) (fun _ _ _ _ _ => pts_nil) (fun _ _ _ _ _ => (pe_ix (r := rIxT K) ix_tup (pv 2) pe_int (fun _ _ => rfl)))))))), ?_⟩
    match r, hv, hc, q with
    | .set x r cs, hv, hc, q =>
      obtain ⟨p, vr, c, ys, rfl, s, hr2, s2, a2⟩ := set_inv hv
      have hc' : cs.length ≤ 1000 := hc
      refine ⟨_, rfl, p, _, 0, _, rfl, rfl, s, atI_nat (j := 0) rfl, rfl, true, sEqT, iteT ?_⟩
      refine ⟨_, rfl, 1, rfl, 2, rfl, p, _, rfl, s, (fun z => absurd (show (1 : Nat) = 0 from z.1) (by decide)), fun t nt => ?_⟩
      have k1 : Same H (upd H t (.tup (cutV [V.str "set", .str x, vr, .ref c] (some 1) (some 2)))) := Same.new nt
      have e1 : upd H t (.tup (cutV [V.str "set", .str x, vr, .ref c] (some 1) (some 2))) t = some (.tup [.str x]) := upd_same
      generalize upd H t (.tup (cutV [V.str "set", .str x, vr, .ref c] (some 1) (some 2))) = H1 at k1 e1
      refine ⟨_, rfl, t, _, rfl, .inr (.inl (.inl e1)), fun l nl => ?_⟩
      have k2 : Same H1 (upd H1 l (.lst [.str x])) := Same.new nl
      have e2 : upd H1 l (.lst [.str x]) l = some (.lst [.str x]) := upd_same
      generalize upd H1 l (.lst [.str x]) = H2 at k2 e2
      have k02 := k1.trans k2
      refine ⟨_, rfl, _, rfl, p, _, -1, .ref c, rfl, rfl, SqT.same k02 s, rfl, c, rfl, ⟨_, SqT.same k02 s2⟩, fun D nD => ?_⟩
      have a2' := dpa_same k02 a2
      have ly : ys.length = cs.length := by rw [dpa_len a2, List.length_map]
      refine lc_relT (fun i _ y => ∃ c : Cd, cs[i]? = some c ∧ y = .str c.1) (SqT.same k02 s2) (by omega) nD (fun _ _ _ _ _ _ _ h => h) (fun _ => rfl) ?_ ?_
      · intro i z G R ez sm k
        obtain ⟨cd, ec, dz⟩ := dpa_map_get (dpa_same sm a2') ez
        obtain ⟨pc, vr2, rfl, sc, _⟩ := cd_inv dz
        exact ⟨_, rfl, pc, _, 0, _, rfl, rfl, sc, atI_nat (j := 0) rfl, k _ _ (fun _ _ e => e) ⟨cd, ec, rfl⟩⟩
      · intro G zs sm eD lz hz
        obtain rfl := strs_of (lz.trans ly) hz
        refine ⟨l, D, _, _, rfl, rfl, sm _ _ e2, eD, ?_, fun m nm => ?_⟩
        · rw [List.length_map, List.length_map]
          show 1 + cs.length ≤ sizeLine
          exact Nat.le_trans (by omega : 1 + cs.length ≤ 100000) (by decide)
        · have kf := k02.trans sm
          exact q m _ (kf.trans (Same.new nm)) (kf.free nm) upd_same
    | .stp x y f a r cs, hv, hc, q =>
      obtain ⟨p, vr, c, ys, rfl, s, hr2, s2, a2⟩ := stp_inv hv
      have hc' : cs.length ≤ 1000 := hc
      refine ⟨_, rfl, p, _, 0, _, rfl, rfl, s, atI_nat (j := 0) rfl, rfl, false, (by decide +kernel), iteF ?_⟩
      refine ⟨_, rfl, 1, rfl, 3, rfl, p, _, rfl, s, (fun z => absurd (show (1 : Nat) = 0 from z.1) (by decide)), fun t nt => ?_⟩
      have k1 : Same H (upd H t (.tup (cutV [V.str "step", .str x, .str y, .int f, .int a, vr, .ref c] (some 1) (some 3)))) := Same.new nt
      have e1 : upd H t (.tup (cutV [V.str "step", .str x, .str y, .int f, .int a, vr, .ref c] (some 1) (some 3))) t = some (.tup [.str x, .str y]) := upd_same
      generalize upd H t (.tup (cutV [V.str "step", .str x, .str y, .int f, .int a, vr, .ref c] (some 1) (some 3))) = H1 at k1 e1
      refine ⟨_, rfl, t, _, rfl, .inr (.inl (.inl e1)), fun l nl => ?_⟩
      have k2 : Same H1 (upd H1 l (.lst [.str x, .str y])) := Same.new nl
      have e2 : upd H1 l (.lst [.str x, .str y]) l = some (.lst [.str x, .str y]) := upd_same
      generalize upd H1 l (.lst [.str x, .str y]) = H2 at k2 e2
      have k02 := k1.trans k2
      refine ⟨_, rfl, _, rfl, p, _, -1, .ref c, rfl, rfl, SqT.same k02 s, rfl, c, rfl, ⟨_, SqT.same k02 s2⟩, fun D nD => ?_⟩
      have a2' := dpa_same k02 a2
      have ly : ys.length = cs.length := by rw [dpa_len a2, List.length_map]
      refine lc_relT (fun i _ y => ∃ c : Cd, cs[i]? = some c ∧ y = .str c.1) (SqT.same k02 s2) (by omega) nD (fun _ _ _ _ _ _ _ h => h) (fun _ => rfl) ?_ ?_
      · intro i z G R ez sm k
        obtain ⟨cd, ec, dz⟩ := dpa_map_get (dpa_same sm a2') ez
        obtain ⟨pc, vr2, rfl, sc, _⟩ := cd_inv dz
        exact ⟨_, rfl, pc, _, 0, _, rfl, rfl, sc, atI_nat (j := 0) rfl, k _ _ (fun _ _ e => e) ⟨cd, ec, rfl⟩⟩
      · intro G zs sm eD lz hz
        obtain rfl := strs_of (lz.trans ly) hz
        refine ⟨l, D, _, _, rfl, rfl, sm _ _ e2, eD, ?_, fun m nm => ?_⟩
        · rw [List.length_map, List.length_map]
          show 2 + cs.length ≤ sizeLine
          exact Nat.le_trans (by omega : 2 + cs.length ≤ 100000) (by decide)
        · have kf := k02.trans sm
          exact q m _ (kf.trans (Same.new nm)) (kf.free nm) upd_same
end

end Pk09
namespace Pk09
open PySem PySem.Spec PyProof.Rows L2 Gd
section
variable {P : Program} {w : World} {K : PySem.W.Frag} {mg : Str → Option Value} {base : Heap}
set_option maxHeartbeats 8000000 in
-- _ranges_of: level 1; builtins []; cells []; slots: 0 rule, 1 condition
theorem ok__ranges_of (h : At K mg "_ranges_of" s__ranges_of ["rule"]) : Dn P w K mg base 1 "_ranges_of" s__ranges_of ["rule"] (sp__ranges_of K) := by
  refine .mk' h fun f fd F => F.ok sc__ranges_of (fun vs H Q E h => ?_) (fun cdv A outer s H vs Q E hr h => ?_)
  · obtain ⟨v, r, rfl, hv, hc, q⟩ := h
    rfl
  · obtain ⟨v, r, rfl, hv, hc, q⟩ := h
    refine ⟨_, (pss_one (ps_ret (pe_op op_cat (pe_lst (pa_cons (pe_ix ix_tup (pv 0) (pe_un un_neg pe_int) (fun _ _ => rfl)) pa_nil)) (pe_lc (own := [("condition", 1)]) (g := gName 1) rfl sc__ranges_of.nd (pi_tup (pe_ix ix_tup (pv 0) (pe_un un_neg pe_int) (fun _ _ => rfl))) (blkOk_by (N := ["rule", "condition"]) (sc := defScope s__ranges_of) (by decide +kernel)) (fun _ _ _ _ _ => pg_name (i := 1) sc__ranges_of.nd rfl (Or.inl rfl)) (fun _ _ _ _ _ => pts_nil) (fun _ _ _ _ _ => (pe_ix (r := rIxT K) ix_tup (pv 1) pe_int (fun _ _ => rfl))))))), ?_⟩
    obtain ⟨p, xs, vr, c, ys, rr, rfl, s, e2, e1, hr, s2, a2, er⟩ := rl_last hv
    refine ⟨_, rfl, _, rfl, p, _, -2, vr, rfl, rfl, s, e2, (by show 1 ≤ sizeLine; decide), fun l nl => ?_⟩
    have k1 : Same H (upd H l (.lst [vr])) := Same.new nl
    have el : upd H l (.lst [vr]) l = some (.lst [vr]) := upd_same
    generalize upd H l (.lst [vr]) = H1 at k1 el
    refine ⟨_, rfl, _, rfl, p, _, -1, .ref c, rfl, rfl, SqT.same k1 s, e1, c, rfl, ⟨_, SqT.same k1 s2⟩, fun D nD => ?_⟩
    have a2' := dpa_same k1 a2
    have ly : ys.length = r.cs.length := by rw [dpa_len a2, List.length_map]
    refine lc_relT (fun i G y => ∃ c : Cd, r.cs[i]? = some c ∧ Dp K G y (rgD c.2)) (SqT.same k1 s2) (by omega) nD ?_ (fun _ => rfl) ?_ ?_
    · rintro i G G' y acc kp eD ⟨c, ec, dy⟩
      exact ⟨c, ec, dp_kl ⟨⟨_, eD⟩, kp⟩ dy (noL_rg _)⟩
    · intro i z G R ez sm k
      obtain ⟨cd, ec, dz⟩ := dpa_map_get (dpa_same sm a2') ez
      obtain ⟨pc, vr2, rfl, sc, hr2⟩ := cd_inv dz
      exact ⟨_, rfl, pc, _, 1, _, rfl, rfl, sc, atI_nat (j := 1) rfl, k _ _ (fun _ _ e => e) ⟨cd, ec, dp_rg hr2⟩⟩
    · intro G zs sm eD lz hz
      have dz : DpAll K G zs (r.cs.map fun c => rgD c.2) := dpa_of (lz.trans ly) hz
      refine ⟨l, D, _, _, rfl, rfl, sm _ _ el, eD, ?_, fun m nm => ?_⟩
      · show 1 + zs.length ≤ sizeLine
        exact Nat.le_trans (by omega : 1 + zs.length ≤ 100000) (by decide)
      · have kf := k1.trans sm
        have kf2 := kf.trans (Same.new (o := .lst ([vr] ++ zs)) nm)
        refine q m _ _ kf2 (kf.free nm) upd_same ?_
        rw [er, List.map_cons, List.map_map]
        exact .cons (dp_rg (RgV.same kf2 hr)) (dpa_same (Same.new nm) dz)
end

end Pk09
namespace Pk09
open PySem PySem.Spec PyProof.Rows L2 Gd
section
variable {P : Program} {w : World} {K : PySem.W.Frag} {mg : Str → Option Value} {base : Heap}
set_option maxHeartbeats 8000000 in
-- is_faulty: level 2; builtins ['any']; cells ['names']; slots: 0 rule, 1 names, 2 name, 3 one
theorem ok_is_faulty (h : At K mg "is_faulty" s_is_faulty ["rule", "names"]) (D__names_of : Dn P w K mg base 1 "_names_of" s__names_of ["rule"] (sp__names_of K)) (D__ranges_of : Dn P w K mg base 1 "_ranges_of" s__ranges_of ["rule"] (sp__ranges_of K)) (D_is_upside_down : Dn P w K mg base 1 "is_upside_down" s_is_upside_down ["one"] (sp_is_upside_down K)) (m_any : mg "any" = none) : Dn P w K mg base 2 "is_faulty" s_is_faulty ["rule", "names"] (sp_is_faulty K) := by
  refine .mk' h fun f fd F => F.ok sc_is_faulty (fun vs H Q E h => ?_) (fun cdv A outer s H vs Q E hr h => ?_)
  · obtain ⟨v, r, a, ns, rfl, hv, hc, hn, q⟩ := h
    rfl
  · obtain ⟨v, r, a, ns, rfl, hv, hc, hn, q⟩ := h
    refine ⟨_, (C8.pss_cut (ps_if (PW.pt (pw_and (pt_cmpR op_eq (pe_ix ix_tup (pv 0) pe_int (fun _ _ => rfl)) pe_str (nomark _)) (pw_and1 (pt_cmpR op_eq (pe_ix ix_tup (pv 0) pe_int (fun _ _ => rfl)) pe_int (nomark _)))))
        (pss_one (ps_ret pe_bl))
        pss_nil)
      (C8.pss_cut (ps_if (pt_val (pe_callB (cr_any rfl) (by rfl) m_any (by decide +kernel) (pa_cons (pe_lc (own := [("name", 2)]) (g := gName 2) rfl sc_is_faulty.nd (pi_list (pe_c D__names_of hr (by rfl) (pa_cons (pv 0) pa_nil))) (blkOk_by (N := ["rule", "names", "name", "one"]) (sc := defScope s_is_faulty) (by decide +kernel)) (fun _ _ _ _ _ => pg_name (i := 2) sc_is_faulty.nd rfl (Or.inl rfl)) (fun _ _ _ _ _ => pts_nil) (fun _ _ _ _ _ => (pe_cmpR (r := rIn K true) op_notIn_seq (pv 2) (pv 1) (by rfl)))) pa_nil)))
        (pss_one (ps_ret pe_bl))
        pss_nil)
      (pss_one (ps_ret (pe_callB (cr_any rfl) (by rfl) m_any (by decide +kernel) (pa_cons (pe_lc (own := [("one", 3)]) (g := gName 3) rfl sc_is_faulty.nd (pi_list (pe_c D__ranges_of hr (by rfl) (pa_cons (pv 0) pa_nil))) (blkOk_by (N := ["rule", "names", "name", "one"]) (sc := defScope s_is_faulty) (by decide +kernel)) (fun _ _ _ _ _ => pg_name (i := 3) sc_is_faulty.nd rfl (Or.inl rfl)) (fun _ _ _ _ _ => pts_nil) (fun _ _ _ _ _ => (pe_or (pe_cmpR op_isN (pv 3) pe_non (nomark _)) (pe_one (pe_c D_is_upside_down hr (by rfl) (pa_cons (pv 3) pa_nil)))))) pa_nil)))))), ?_⟩
    have zero : ∃ p xs s0, v = .ref p ∧ SqT K H p xs ∧ atI xs 0 = some (.str s0) ∧ ((decide (V.str s0 = V.str "step") = false ∧ r.zero = false) ∨ (decide (V.str s0 = V.str "step") = true ∧ ∃ f, atI xs 3 = some (.int f) ∧ r.zero = decide (f = 0))) := by
      match r, hv with
      | .set x r cs, hv =>
        obtain ⟨p, vr, c, ys, rfl, s, hr2, s2, a2⟩ := set_inv hv
        exact ⟨p, _, _, rfl, s, rfl, .inl ⟨by decide +kernel, rfl⟩⟩
      | .stp x y f a r cs, hv =>
        obtain ⟨p, vr, c, ys, rfl, s, hr2, s2, a2⟩ := stp_inv hv
        exact ⟨p, _, _, rfl, s, rfl, .inr ⟨decide_eq_true rfl, f, rfl, rfl⟩⟩
    obtain ⟨p, xs, s0, rfl, s, e0, hz⟩ := zero
    have hq : ∀ H', Same H H' → Q (.bl (r.zero || ((r.names.any fun x => !decide (x ∈ ns)) || r.rgs.any badR))) H' := q
    clear q
    refine ⟨fun σ' H' => σ' = [some (.ref p), some (.ref a), none, none] ∧ H = H' ∧ r.zero = false, ?_, ?_⟩
    · rcases hz with ⟨z1, z2⟩ | ⟨z1, f, z2, z3⟩
      · exact ⟨_, rfl, p, xs, 0, _, rfl, rfl, s, e0, rfl, false, congrArg V.bl z1, iteF (iteF ⟨rfl, rfl, z2⟩)⟩
      · refine ⟨_, rfl, p, xs, 0, _, rfl, rfl, s, e0, rfl, true, congrArg V.bl z1, iteT ⟨_, rfl, p, xs, 3, _, rfl, rfl, s, z2, rfl, _, rfl, ?_⟩⟩
        by_cases c : f = 0
        · rw [z3, decide_eq_true c, Bool.true_or] at hq
          subst c
          exact iteT (hq H (fun _ _ e => e))
        · have e : decide (V.int f = V.int 0) = false := decide_eq_false fun z => c (V.int.inj z)
          rw [e]
          exact iteF ⟨rfl, rfl, z3.trans (decide_eq_false c)⟩
    rintro σ' H' ⟨rfl, rfl, hz2⟩
    rw [hz2, Bool.false_or] at hq
    refine ⟨fun σ' H' => σ' = [some (.ref p), some (.ref a), none, none] ∧ Same H H' ∧ (r.names.any fun x => !decide (x ∈ ns)) = false, ?_, ?_⟩
    · refine ⟨_, rfl, _, r, rfl, hv, hc, fun l H1 k1 nl el => ⟨l, rfl, ⟨_, .inl (.inl el)⟩, fun D nD => ?_⟩⟩
      refine lc_rel (fun i _ y => ∃ x, r.names[i]? = some x ∧ y = .bl (!decide (x ∈ ns))) (.inl (.inl el)) ?_ nD (fun _ _ _ _ _ _ _ h => h) (fun _ => rfl) ?_ ?_
      · rw [List.length_map]
        have := names_le (r := r)
        omega
      · intro i z G R ez sm k
        obtain ⟨x, ex, rfl⟩ := map_get ez
        refine ⟨_, rfl, _, rfl, a, _, rfl, .inl ((k1.trans sm).seq hn), rfl, flat_strs ns, ?_⟩
        rw [if_pos rfl, inV_strs]
        exact k _ _ (fun _ _ e => e) ⟨x, ex, rfl⟩
      · intro G zs sm eD lz hz
        rw [List.length_map] at lz
        obtain rfl := bls_of (f := fun x => !decide (x ∈ ns)) lz hz
        refine ⟨D, _, rfl, .inl (.inl eD), _, rfl, ?_⟩
        rw [any_id]
        have kk := k1.trans sm
        cases c : (r.names.any fun x => !decide (x ∈ ns)) with
        | true =>
          rw [c, Bool.true_or] at hq
          exact iteT (hq G kk)
        | false => exact iteF ⟨rfl, kk, rfl⟩
    rintro σ' H1 ⟨rfl, k1, hz3⟩
    rw [hz3, Bool.false_or] at hq
    refine ⟨_, rfl, _, r, rfl, dp_same k1 hv, hc, fun l H2 us k2 nl el du => ⟨l, rfl, ⟨_, .inl (.inl el)⟩, fun D nD => ?_⟩⟩
    have lu : us.length = r.rgs.length := by rw [dpa_len du, List.length_map]
    refine lc_rel (fun i _ y => ∃ x, r.rgs[i]? = some x ∧ y = .bl (badR x)) (.inl (.inl el)) ?_ nD (fun _ _ _ _ _ _ _ h => h) (fun _ => rfl) ?_ ?_
    · have := rgs_le (r := r)
      omega
    · intro i z G R ez sm k
      obtain ⟨x, ex, dz⟩ := dpa_map_get du ez
      have hr := RgV.same sm (dp_rg_inv dz)
      refine ⟨_, rfl, rfl, _, rfl, ?_⟩
      match x, hr with
      | none, hr =>
        obtain rfl := (show z = .non from hr)
        exact iteT (k _ _ (fun _ _ e => e) ⟨none, ex, rfl⟩)
      | some u, hr =>
        obtain ⟨pz, rfl, _⟩ := id hr
        exact iteF ⟨_, rfl, _, some u, rfl, hr, k _ _ (fun _ _ e => e) ⟨some u, ex, rfl⟩⟩
    · intro G zs sm eD lz hz
      obtain rfl := bls_of (f := badR) (lz.trans lu) hz
      refine ⟨D, _, rfl, .inl (.inl eD), ?_⟩
      rw [any_id]
      exact hq G ((k1.trans k2).trans sm)
end

end Pk09
namespace Pk09
open PySem PySem.Spec PyProof.Rows L2 Gd
section
variable {P : Program} {w : World} {K : PySem.W.Frag} {mg : Str → Option Value} {base : Heap}
set_option maxHeartbeats 8000000 in
-- is_name: level 1; builtins ['all', 'len']; cells []; slots: 0 text, 1 sign
theorem ok_is_name (h : At K mg "is_name" s_is_name ["text"]) (m_all : mg "all" = none) (m_len : mg "len" = none) : Dn P w K mg base 1 "is_name" s_is_name ["text"] (sp_is_name K) := by
  refine .mk' h fun f fd F => F.ok sc_is_name (fun vs H Q E h => ?_) (fun cdv A outer s H vs Q E hr h => ?_)
  · obtain ⟨x, rfl, hx, q⟩ := h
    rfl
  · obtain ⟨x, rfl, hx, q⟩ := h
    refine ⟨_, (pss_one (ps_ret (pe_and (pe_chain op_le op_le pe_int (pe_callB call_len_str (by rfl) m_len PySem.boot_len (pa_cons (pv 0) pa_nil)) pe_int) (pe_one (pe_callB (cr_all rfl) (by rfl) m_all (by decide +kernel) (pa_cons (pe_lc (own := [("sign", 1)]) (g := gName 1) rfl sc_is_name.nd (pi_str (pv 0)) (blkOk_by (N := ["text", "sign"]) (sc := defScope s_is_name) (by decide +kernel)) (fun _ _ _ _ _ => pg_name (i := 1) sc_is_name.nd rfl (Or.inl rfl)) (fun _ _ _ _ _ => pts_nil) (fun _ _ _ _ _ => (pe_chain op_le_str op_le_str pe_str (pv 1) pe_str))) pa_nil)))))), ?_⟩
    have hl : x.length ≤ 1000 := hx
    have q' : ∀ H', Same H H' → Q (.bl ((decide (1 ≤ x.cps.size) && decide (x.cps.size ≤ 8)) && x.cps.toList.all fun c => decide (97 ≤ c) && decide (c ≤ 122))) H' := q
    refine ⟨_, rfl, x, rfl, Nat.le_trans (by omega : x.length ≤ 100000) (by decide), _, _, rfl, rfl, _, rfl, ?_⟩
    by_cases c1 : 1 ≤ x.cps.size
    · rw [decide_eq_true (show (1 : Int) ≤ (x.length : Int) from Int.ofNat_le.mpr c1)]
      rw [decide_eq_true c1, Bool.true_and] at q'
      refine iteT ⟨_, _, rfl, rfl, _, rfl, ?_⟩
      by_cases c2 : x.cps.size ≤ 8
      · rw [decide_eq_true (show (x.length : Int) ≤ 8 from Int.ofNat_le.mpr c2)]
        rw [decide_eq_true c2, Bool.true_and] at q'
        refine iteT ⟨_, rfl, x, rfl, fun D nD => lc_strB x (fun c => decide (97 ≤ c) && decide (c ≤ 122)) hx nD (fun _ => rfl) ?_ ?_⟩
        · intro c H' R k
          refine ⟨_, rfl, _, _, rfl, rfl, _, rfl, ?_⟩
          have e1 : (!decide (([c] : List Nat) < [97])) = decide (97 ≤ c) := lt_one c 97
          have e2 : (!decide (([122] : List Nat) < [c])) = decide (c ≤ 122) := lt_one 122 c
          show if (!decide (([c] : List Nat) < [97])) = true then _ else _
          rw [e1]
          cases h : decide (97 ≤ c) with
          | false =>
            rw [h] at k
            exact iteF k
          | true =>
            rw [h, Bool.true_and] at k
            refine iteT ⟨_, _, rfl, rfl, ?_⟩
            show R (.bl (!decide (([122] : List Nat) < [c]))) H'
            rw [e2]
            exact k
        · refine ⟨D, _, rfl, .inl (.inl upd_same), ?_⟩
          rw [List.all_map]
          exact q' _ (Same.new nD)
      · rw [decide_eq_false (show ¬ (x.length : Int) ≤ 8 from fun z => c2 (Int.ofNat_le.mp z))]
        rw [decide_eq_false c2, Bool.false_and] at q'
        exact iteF (q' _ (fun _ _ e => e))
    · rw [decide_eq_false (show ¬ (1 : Int) ≤ (x.length : Int) from fun z => c1 (Int.ofNat_le.mp z))]
      rw [decide_eq_false c1, Bool.false_and, Bool.false_and] at q'
      exact iteF ⟨_, rfl, iteF (q' _ (fun _ _ e => e))⟩
end

end Pk09
namespace Pk09
open PySem PySem.Spec PyProof.Rows L2 Gd
section
variable {P : Program} {w : World} {K : PySem.W.Frag} {mg : Str → Option Value} {base : Heap}
set_option maxHeartbeats 8000000 in
-- _check_system: level 3; builtins ['enumerate']; cells []; slots: 0 names, 1 rules, 2 earlier, 3 name, 4 number, 5 rule
theorem ok__check_system (h : At K mg "_check_system" s__check_system ["names", "rules"]) (D_is_faulty : Dn P w K mg base 2 "is_faulty" s_is_faulty ["rule", "names"] (sp_is_faulty K)) (D_is_name : Dn P w K mg base 1 "is_name" s_is_name ["text"] (sp_is_name K)) (m_enumerate : mg "enumerate" = none) : Dn P w K mg base 3 "_check_system" s__check_system ["names", "rules"] (sp__check_system K) := by
  refine .mk' h fun f fd F => F.ok sc__check_system (fun vs H Q E h => ?_) (fun cdv A outer s H vs Q E hr h => ?_)
  · obtain ⟨a, b, ns, xs, rs, rfl, ha, hb, dr, ok, q⟩ := h
    rfl
  · obtain ⟨a, b, ns, xs, rs, rfl, ha, hb, dr, ok, q⟩ := h
    refine ⟨_, (pss_cons (ps_set (i := 2) sc__check_system.nd rfl (.inl rfl) pe_dnewK)
      (pss_cons (ps_for PassesOwn.never rfl (pi_list (pv 0)) (pg_name (i := 3) sc__check_system.nd rfl (.inl rfl))
        (pss_cons (ps_if (PW.pt (pw_or (pt_cmp (pc_din (hu_of hr) (pv 3) (pv 2))) (pw_or1 (pt_not (pt_val (pe_c D_is_name hr (by rfl) (pa_cons (pv 3) pa_nil)))))))
          (pss_one ps_never)
          pss_nil)
        (pss_one (ps_dput (hu_of hr) (pv 2) (pv 3) pe_bl rfl))))
      (pss_one (ps_for PassesOwn.never rfl (pi_enum (by rfl) m_enumerate (pa_cons (pv 1) pa_nil)) (pg_tup (by rfl) (pgs_cons (pg_name (i := 4) sc__check_system.nd rfl (.inl rfl)) (pgs_cons (pg_name (i := 5) sc__check_system.nd rfl (.inl rfl)) pgs_nil)))
        (pss_one (ps_if (pt_val (pe_c D_is_faulty hr (by rfl) (pa_cons (pv 5) (pa_cons (pv 0) pa_nil))))
          (pss_one ps_never)
          pss_nil)))))), ?_⟩
    refine fun d nd => ⟨_, rfl, a, rfl, ⟨_, (Same.new nd).seq ha⟩, for_list (xs := ns.map V.str) (fun i σ H' => Same H H' ∧ H' d = some (.dK (keyT (ns.take i))) ∧ ∃ y, σ = [some (.ref a), some (.ref b), some (.ref d), y, none, none])
      ⟨Same.new nd, upd_same, none, rfl⟩ (fun i σ H' _ h => h.1.seq ha) ?_ ?_⟩
    · rintro i z σ H' hz ⟨k1, hd, y, rfl⟩
      obtain ⟨x, ex, rfl⟩ := map_get hz
      have hx := ok.ok x (List.mem_of_getElem? ex)
      have nv : valV (keyT (ns.take i)) (Sum.inr x) = none := valV_keyT (nodup_take ok.nd ex)
      refine ⟨_, rfl, _, rfl, d, _, rfl, DGet.k (k := Sum.inr x) hd, false, ?_, iteF ?_⟩
      · rw [nv]
        rfl
      refine ⟨_, rfl, x, rfl, by have := nameOk_size hx; omega, fun H2 k2 => ?_⟩
      have k12 := k1.trans k2
      have lk : (keyT (ns.take i)).length < sizeLine := by
        unfold keyT
        rw [List.length_map, List.length_take]
        have := ok.ln
        exact Nat.lt_of_le_of_lt (by omega : min i ns.length ≤ 100000) (by decide)
      refine ⟨true, congrArg V.bl hx, iteF ⟨_, rfl, _, rfl, d, _, rfl, DPut.k (k := Sum.inr x) (k2 _ _ hd) lk, fun b' o e => ?_, ?_, _, rfl⟩⟩
      · rw [upd_ne (ne_of_none e nd)]
        exact k12 _ _ e
      · rw [upd_same, putK_new _ nv]
        have tk : keyT (ns.take (i + 1)) = keyT (ns.take i) ++ [(Sum.inr x, V.bl true)] := by
          unfold keyT
          rw [List.take_add_one, ex, List.map_append]
          rfl
        rw [tk]
    · rintro σ H' ⟨k1, _, y, rfl⟩
      have lx : xs.length = rs.length := by rw [dpa_len dr, List.length_map]
      refine ⟨_, rfl, b, xs, rfl, k1.seq hb, for_it walk_enum (fun i σ G => Same H G ∧ ∃ y4 y5, σ = [some (.ref a), some (.ref b), some (.ref d), y, y4, y5]) ⟨k1, none, none, rfl⟩ (fun i σ G _ h => h.1.seq hb) ?_ ?_⟩
      · rintro i z σ G G' hi ⟨k, y4, y5, rfl⟩ ⟨T, u, w, rfl, nT, rfl, eu, ew⟩
        obtain rfl := Option.some.inj eu
        obtain ⟨r, er, dw⟩ := dpa_map_get (dpa_same k dr) ew
        have k' : Same H (upd G T (.tup [.int (i : Nat), w])) := k.trans (Same.new nT)
        have mr := List.mem_of_getElem? er
        refine ⟨T, _, rfl, .inl (.inl upd_same), rfl, _, _, rfl, _, _, rfl, rfl, ?_⟩
        refine ⟨_, rfl, _, rfl, w, r, a, ns, rfl, dp_same (Same.new nT) dw, ok.cs r mr, k'.seq ha, fun H3 k3 => ⟨false, congrArg V.bl (ok.nf r mr), iteF ⟨k'.trans k3, _, _, rfl⟩⟩⟩
      · rintro σ G ⟨k, _⟩
        exact q G k
end

end Pk09
namespace Pk09
open PySem PySem.Spec PyProof.Rows L2 Gd
section
variable {P : Program} {w : World} {K : PySem.W.Frag} {mg : Str → Option Value} {base : Heap}
set_option maxHeartbeats 8000000 in
-- System.__init__: level 4; builtins ['list', 'sorted']; cells []; slots: 0 self, 1 names, 2 rules
theorem ok_System___init__ {C : Addr} (T : SysT K mg C) (h : AtM K C "__init__" "System.__init__" s_System___init__ ["self", "names", "rules"]) (D__check_system : Dn P w K mg base 3 "_check_system" s__check_system ["names", "rules"] (sp__check_system K)) (m_list : mg "list" = none) (m_sorted : mg "sorted" = none) : Mt P w K mg base 4 C "__init__" "System.__init__" s_System___init__ ["self", "names", "rules"] (sp_System___init__ K C) := by
  refine .mk' h fun f fd F => F.ok sc_System___init__ (fun vs H Q E h => ?_) (fun cdv A outer s H vs Q E hr h => ?_)
  · obtain ⟨o, dx, a, b, ns, xs, rs, rfl, ho, ha, hb, dr, ok, q⟩ := h
    rfl
  · obtain ⟨o, dx, a, b, ns, xs, rs, rfl, ho, ha, hb, dr, ok, q⟩ := h
    refine ⟨_, (pss_cons (ps_expr (pe_c D__check_system hr (by rfl) (pa_cons (pv 1) (pa_cons (pv 2) pa_nil))))
      (pss_cons (ps_fld (pv 0) (pe_callB cr_sortedS (by rfl) m_sorted (by decide +kernel) (pa_cons (pv 1) pa_nil)) rfl)
      (pss_one (ps_fld (pv 0) (pe_callTy call_list_of (by rfl) m_list (by decide +kernel) (pa_cons (pv 2) pa_nil)) rfl)))), ?_⟩
    refine ⟨_, rfl, _, rfl, a, b, ns, xs, rs, rfl, ha, hb, dr, ok, fun H1 k1 => ?_⟩
    refine ⟨_, rfl, a, ns, rfl, k1.seq ha, ok.ln, fun ss p pm so np => ⟨_, rfl, o, C, dx, [], rfl, ?_, T.ck.cl, T.nN, by decide, ?_⟩⟩
    · exact (Same.new np) _ _ (k1 _ _ ho)
    have k2 : Same H1 (upd H1 p (.lst (ss.map V.str))) := Same.new np
    have ep : upd H1 p (.lst (ss.map V.str)) p = some (.lst (ss.map V.str)) := upd_same
    generalize upd H1 p (.lst (ss.map V.str)) = H2 at k2 ep
    have k02 := k1.trans k2
    have eo : H2 o = some (.ins C dx []) := k02 _ _ ho
    have po : p ≠ o := ne_of ep eo (fun z => by cases z)
    have ki : Ki o H2 (upd H2 o (.ins C dx (putF "_names" (.ref p) []))) := ⟨⟨C, dx, [], eo⟩, Kp.at⟩
    have eo3 : upd H2 o (.ins C dx (putF "_names" (.ref p) [])) o = some (.ins C dx (putF "_names" (.ref p) [])) := upd_same
    generalize upd H2 o (.ins C dx (putF "_names" (.ref p) [])) = H3 at ki eo3
    have hb3 := SqL.ki ki (k02.seq hb)
    refine ⟨_, rfl, b, xs, rfl, .inl hb3, fun l nl => ⟨_, rfl, o, C, dx, _, rfl, (Same.new nl) _ _ eo3, T.ck.cl, T.nR, (by show (1 : Nat) < 1000; decide), ?_⟩⟩
    have k4 : Same H3 (upd H3 l (.lst xs)) := Same.new nl
    have el : upd H3 l (.lst xs) l = some (.lst xs) := upd_same
    generalize upd H3 l (.lst xs) = H4 at k4 el
    have eo4 := k4 _ _ eo3
    have lo : l ≠ o := ne_of el eo4 (fun z => by cases z)
    have ki4 : Ki o H4 (upd H4 o (.ins C dx (putF "_rules" (.ref l) (putF "_names" (.ref p) [])))) := ⟨⟨C, dx, _, eo4⟩, Kp.at⟩
    have np0 : H p = none := by
      cases e : H p with
      | none => rfl
      | some u => rw [k1 _ _ e] at np; cases np
    have nl0 : H l = none := by
      cases e : H l with
      | none => rfl
      | some u =>
        have z : l ≠ o := lo
        rw [ki.2 _ _ z (k02 _ _ e)] at nl
        cases nl
    refine q _ p l ss pm so (((Kp.of k02).trans ki.2).trans ((Kp.of k4).trans Kp.at)) np0 nl0 ?_
    refine ⟨dx, _, xs, upd_same, ?_, ?_, ?_, ?_, dpa_ki ki4 (dpa_same k4 (dpa_ki ki (dpa_same k02 dr))), fun m m1 m2 => ?_⟩
    · rw [lookup_putF, if_neg (by decide), lookup_putF, if_pos rfl]
    · rw [lookup_putF, if_pos rfl]
    · exact ki4.2 _ _ po (k4 _ _ (ki.2 _ _ po ep))
    · exact ki4.2 _ _ lo el
    · rw [lookup_putF, if_neg m2, lookup_putF, if_neg m1]
      rfl
end

end Pk09
namespace Pk09
open PySem PySem.Spec PyProof.Rows L2 Gd
section
variable {P : Program} {w : World} {K : PySem.W.Frag} {mg : Str → Option Value} {base : Heap}
set_option maxHeartbeats 8000000 in
-- System.__len__: level 1; builtins ['len']; cells []; slots: 0 self
theorem ok_System___len__ {C : Addr} (T : SysT K mg C) (h : AtM K C "__len__" "System.__len__" s_System___len__ ["self"]) (m_len : mg "len" = none) : Mt P w K mg base 1 C "__len__" "System.__len__" s_System___len__ ["self"] (sp_System___len__ K C) := by
  refine .mk' h fun f fd F => F.ok sc_System___len__ (fun vs H Q E h => ?_) (fun cdv A outer s H vs Q E hr h => ?_)
  · obtain ⟨a, p, b, ns, rs, rfl, ss, q⟩ := h
    rfl
  · obtain ⟨a, p, b, ns, rs, rfl, ss, q⟩ := h
    refine ⟨_, (pss_one (ps_ret (pe_callB call_len_seq (by rfl) m_len PySem.boot_len (pa_cons (pe_fld (pv 0) rfl) pa_nil)))), ?_⟩
    obtain ⟨dx, fs, xs, h1, h2, h3, h4, h5, h6, h7⟩ := ss
    have lx : xs.length = rs.length := by rw [dpa_len h6, List.length_map]
    rw [← lx] at q
    exact ⟨_, rfl, a, C, dx, fs, _, rfl, h1, T.ck.cl, T.nR, h3, b, xs, rfl, .inl (.inl (.inl h5)), q⟩
end

end Pk09
namespace Pk09
open PySem PySem.Spec PyProof.Rows L2 Gd
section
variable {P : Program} {w : World} {K : PySem.W.Frag} {mg : Str → Option Value} {base : Heap}
set_option maxHeartbeats 8000000 in
-- System.names: level 1; builtins ['list']; cells []; slots: 0 self
theorem ok_System_names {C : Addr} (T : SysT K mg C) (h : AtP K C "names" "System.names" s_System_names ["self"]) (m_list : mg "list" = none) : Pt P w K mg base 1 C "names" "System.names" s_System_names ["self"] (sp_System_names K C) := by
  refine .mk' h fun f fd F => F.ok sc_System_names (fun vs H Q E h => ?_) (fun cdv A outer s H vs Q E hr h => ?_)
  · obtain ⟨a, p, b, ns, rs, rfl, ss, q⟩ := h
    rfl
  · obtain ⟨a, p, b, ns, rs, rfl, ss, q⟩ := h
    refine ⟨_, (pss_one (ps_ret (pe_callTy call_list_of (by rfl) m_list (by decide +kernel) (pa_cons (pe_fld (pv 0) rfl) pa_nil)))), ?_⟩
    obtain ⟨dx, fs, xs, h1, h2, h3, h4, h5, h6, h7⟩ := ss
    exact ⟨_, rfl, a, C, dx, fs, _, rfl, h1, T.ck.cl, T.nN, h2, p, _, rfl, .inl (.inl (.inl h4)), q⟩
end

end Pk09
namespace Pk09
open PySem PySem.Spec PyProof.Rows L2 Gd
section
variable {P : Program} {w : World} {K : PySem.W.Frag} {mg : Str → Option Value} {base : Heap}
set_option maxHeartbeats 8000000 in
-- System.rules: level 1; builtins ['list']; cells []; slots: 0 self
theorem ok_System_rules {C : Addr} (T : SysT K mg C) (h : AtP K C "rules" "System.rules" s_System_rules ["self"]) (m_list : mg "list" = none) : Pt P w K mg base 1 C "rules" "System.rules" s_System_rules ["self"] (sp_System_rules K C) := by
  refine .mk' h fun f fd F => F.ok sc_System_rules (fun vs H Q E h => ?_) (fun cdv A outer s H vs Q E hr h => ?_)
  · obtain ⟨a, p, b, ns, rs, rfl, ss, q⟩ := h
    rfl
  · obtain ⟨a, p, b, ns, rs, rfl, ss, q⟩ := h
    refine ⟨_, (pss_one (ps_ret (pe_callTy call_list_of (by rfl) m_list (by decide +kernel) (pa_cons (pe_fld (pv 0) rfl) pa_nil)))), ?_⟩
    obtain ⟨dx, fs, xs, h1, h2, h3, h4, h5, h6, h7⟩ := ss
    exact ⟨_, rfl, a, C, dx, fs, _, rfl, h1, T.ck.cl, T.nR, h3, b, xs, rfl, .inl (.inl (.inl h5)), fun l nl => q l xs nl h6⟩
end

end Pk09
namespace Pk09
open PySem PySem.Spec PyProof.Rows L2 Gd
section
variable {P : Program} {w : World} {K : PySem.W.Frag} {mg : Str → Option Value} {base : Heap}
set_option maxHeartbeats 8000000 in
-- System.__eq__: level 1; builtins ['isinstance']; cells []; slots: 0 self, 1 other
theorem ok_System___eq__ {C : Addr} (T : SysT K mg C) (h : AtM K C "__eq__" "System.__eq__" s_System___eq__ ["self", "other"]) (m_isinstance : mg "isinstance" = none) : Mt P w K mg base 1 C "__eq__" "System.__eq__" s_System___eq__ ["self", "other"] (sp_System___eq__ K C) := by
  refine .mk' h fun f fd F => F.ok sc_System___eq__ (fun vs H Q E h => ?_) (fun cdv A outer s H vs Q E hr h => ?_)
  · obtain ⟨a, p, b, ns, rs, y, rfl, ss, q⟩ := h
    rfl
  · obtain ⟨a, p, b, ns, rs, y, rfl, ss, q⟩ := h
    refine ⟨_, (pss_one (ps_ret (pe_and (pe_callB call_isi (by rfl) m_isinstance (by decide +kernel) (pa_cons (pv 1) (pa_cons (pe_glob (v := .ref C) rfl T.ck.mg_ rfl) pa_nil))) (pe_and (pe_cmpR (op_eqD hr.units) (pe_fld (pv 0) rfl) (pe_fld (pv 1) rfl) (nomark _)) (pe_one (pe_cmpR (op_eqD hr.units) (pe_fld (pv 0) rfl) (pe_fld (pv 1) rfl) (nomark _))))))), ?_⟩
    refine ⟨_, rfl, ?_⟩
    rcases q with ⟨t, ty, ki, q⟩ | ⟨b', p', q', ns', rs', rfl, ss', la, lb, q⟩
    · exact ⟨y, .ref C, t, .ref C, false, rfl, .own C, ty, ki, _, rfl, iteF q⟩
    · obtain ⟨dx, fs, xs, h1, h2, h3, h4, h5, h6, h7⟩ := ss
      obtain ⟨dx', fs', xs', g1, g2, g3, g4, g5, g6, g7⟩ := ss'
      refine ⟨.ref b', .ref C, .ref C, .ref C, true, rfl, .own C, .base (.ins g1 T.ck.cl T.ha T.hn T.ht T.hm), ?_, _, rfl, iteT ?_⟩
      · unfold PySem.W.kitOne
        rw [if_pos (beq_self_eq_true _)]
      refine ⟨_, rfl, a, C, dx, fs, _, rfl, h1, T.ck.cl, T.nN, h2, _, rfl, b', C, dx', fs', _, rfl, g1, T.ck.cl, T.nN, g2, ?_⟩
      refine ⟨_, _, .lst (.inl (.inl h4)) (dpa_strs ns), .lst (.inl (.inl g4)) (dpa_strs ns'), la.ns.shaped, lb.ns.shaped, _, rfl, ?_⟩
      unfold eqS at q
      cases c : PyData.eqv (.list (ns.map PyData.str)) (.list (ns'.map PyData.str)) with
      | false =>
        rw [c, Bool.false_and] at q
        exact iteF q
      | true =>
        rw [c, Bool.true_and] at q
        refine iteT ⟨_, rfl, a, C, dx, fs, _, rfl, h1, T.ck.cl, T.nR, h3, _, rfl, b', C, dx', fs', _, rfl, g1, T.ck.cl, T.nR, g3, ?_⟩
        exact ⟨_, _, .lst (.inl (.inl h5)) h6, .lst (.inl (.inl g5)) g6, la.rs.shaped, lb.rs.shaped, q⟩
end

end Pk09
namespace Pk09
open PySem PySem.Spec PyProof.Rows L2 Gd
section
variable {P : Program} {w : World} {K : PySem.W.Frag} {mg : Str → Option Value} {base : Heap}
set_option maxHeartbeats 8000000 in
-- _law_words: level 2; builtins ['len', 'range']; cells []; slots: 0 rng, 1 many, 2 left, 3 some, 4 turn, 5 word
theorem ok__law_words (h : At K mg "_law_words" s__law_words ["rng", "many"]) (D__law_draw : Dn P w K mg base 1 "_law_draw" s__law_draw ["rng", "limit"] (sp__law_draw K)) (m_len : mg "len" = none) (m_range : mg "range" = none) : Dn P w K mg base 2 "_law_words" s__law_words ["rng", "many"] (sp__law_words K) := by
  refine .mk' h fun f fd F => F.ok sc__law_words (fun vs H Q E h => ?_) (fun cdv A outer s H vs Q E hr h => ?_)
  · obtain ⟨g, m, n, rfl, rs, hn, m0, m1, q⟩ := h
    rfl
  · obtain ⟨g, m, n, rfl, rs, hn, m0, m1, q⟩ := h
    refine ⟨_, (pss_cons (ps_par (i := 2) (j := 3) rfl sc__law_words.nd rfl rfl (by decide) rfl rfl (pa_cons (pe_lst (pa_cons pe_str (pa_cons pe_str (pa_cons pe_str (pa_cons pe_str (pa_cons pe_str (pa_cons pe_str pa_nil))))))) (pa_cons (pe_lst pa_nil) pa_nil)) (by rfl))
      (pss_cons (ps_for PassesOwn.never rfl (pi_range1 (by rfl) m_range (pa_cons (pv 1) pa_nil)) (pg_name (i := 4) sc__law_words.nd rfl (.inl rfl))
        (pss_one (ps_expr (pe_bm PySem.F.plainAttrs_list PySem.F.slot_list_append PySem.F.type_list_append mt_append (pv 3) (pa_cons (pe_bm PySem.F.plainAttrs_list PySem.F.slot_list_pop PySem.F.type_list_pop mt_popAt (pv 2) (pa_cons (pe_c D__law_draw hr (by rfl) (pa_cons (pv 0) (pa_cons (pe_callB call_len_seq (by rfl) m_len PySem.boot_len (pa_cons (pv 2) pa_nil)) pa_nil))) pa_nil)) pa_nil)))))
      (pss_one (ps_ret (pe_ifExp (pt_cmpR op_eq (pe_c D__law_draw hr (by rfl) (pa_cons (pv 0) (pa_cons pe_int pa_nil))) pe_int (nomark _)) (pe_lc (own := [("word", 5)]) (g := gName 5) rfl sc__law_words.nd (pi_list (pv 3)) (blkOk_by (N := ["rng", "many", "left", "some", "turn", "word"]) (sc := defScope s__law_words) (by decide +kernel)) (fun _ _ _ _ _ => pg_name (i := 5) sc__law_words.nd rfl (Or.inl rfl)) (fun _ _ _ _ _ => pts_nil) (fun _ _ _ _ _ => (pe_op op_add_str pe_str (pe_slice sl_str (pv 5) po_none (po_some pe_int))))) (pv 3)))))), ?_⟩
    refine ⟨by show 6 ≤ sizeLine; decide, fun L nL => ⟨by show 0 ≤ sizeLine; decide, fun S nS => ⟨_, _, rfl, ?_⟩⟩⟩
    have sm : Same H (upd (upd H L (.lst (base6.map V.str))) S (.lst [])) := (Same.new nL).trans (Same.new nS)
    have LS : L ≠ S := fun z => by
      rw [← z, upd_same] at nS
      cases nS
    have eL : upd (upd H L (.lst (base6.map V.str))) S (.lst []) L = some (.lst (base6.map V.str)) := by rw [upd_ne LS, upd_same]
    have eS : upd (upd H L (.lst (base6.map V.str))) S (.lst []) S = some (.lst []) := upd_same
    have nS0 : H S = none := by rw [upd_ne (Ne.symm LS)] at nS; exact nS
    generalize hH : upd (upd H L (HO.lst [V.str "x", V.str "y", V.str "ab", V.str "jkv", V.str "q", V.str "lowhere"])) S (HO.lst []) = H0
    replace sm : Same H H0 := hH ▸ sm
    replace eL : H0 L = some (.lst (base6.map V.str)) := hH ▸ eL
    replace eS : H0 S = some (.lst []) := hH ▸ eS
    have Lg : L ≠ g := rs.fresh nL
    have Sg : S ≠ g := rs.fresh nS0
    refine ⟨_, rfl, m, rfl, by omega, by omega, for_range (fun i σ H' => ∃ (left some_ : List Str) (y4 : Option V), σ = [some (.ref g), some (.int m), some (.ref L), some (.ref S), y4, none] ∧ Kp g H H' ∧ RS (n + i) H' g ∧
      H' L = some (.lst (left.map V.str)) ∧ H' S = some (.lst (some_.map V.str)) ∧ (some_ ++ left).Perm base6 ∧ some_.length = i) ⟨base6, [], none, rfl, .of sm, rs.same sm, eL, eS, .refl _, rfl⟩ ?_ ?_⟩
    · rintro i σ H' hi ⟨left, some_, y4, rfl, kp, rs1, oL, oS, pm, ls⟩
      have ll : left.length = 6 - i := by
        have := pm.length_eq
        rw [List.length_append] at this
        have e6 : base6.length = 6 := rfl
        omega
      have hi6 : i < 6 := by omega
      refine ⟨_, rfl, ty_lst oS, _, rfl, ty_lst oL, _, rfl, _, rfl, L, _, rfl, .inl (.inl (.inl oL)), g, _, n + i, rfl, rs1, by omega, ?_, ?_, fun r H1 r0 r1 k1 rs2 => ?_⟩
      · rw [List.length_map]
        omega
      · have : (2 : Nat) ^ 200 = 1606938044258990275541962092341162602522202993782792835301376 := by decide
        rw [List.length_map, this]
        omega
      rw [List.length_map] at r1
      have oL1 := k1 _ _ Lg oL
      have oS1 := k1 _ _ Sg oS
      have lt : r.toNat < left.length := by omega
      obtain ⟨x, ex⟩ : ∃ x, left[r.toNat]? = some x := ⟨_, List.getElem?_eq_getElem lt⟩
      refine ⟨L, _, r, r.toNat, .str x, rfl, rfl, oL1, by omega, by omega, ?_, ?_, ?_⟩
      · rw [List.length_map]
        exact seqIx r0 r1
      · rw [List.getElem?_map, ex]
        rfl
      refine ⟨S, _, _, rfl, rfl, (by rw [upd_ne (Ne.symm LS)]; exact oS1), ?_, ?_⟩
      · rw [List.length_map]
        exact Nat.lt_of_lt_of_le (by omega : some_.length < 100000) (by decide)
      refine ⟨left.eraseIdx r.toNat, some_ ++ [x], _, rfl, ?_, ?_, ?_, ?_, ?_, ?_⟩
      · intro b o hb e
        have bL : b ≠ L := ne_of_none e nL
        have bS : b ≠ S := ne_of_none e nS0
        rw [upd_ne bS, upd_ne bL]
        exact k1 _ _ hb (kp _ _ hb e)
      · obtain ⟨d, sd, t, e, rest⟩ := rs2.ok
        refine ⟨d, sd, t, ?_, by simpa [Nat.add_assoc] using rest⟩
        rw [upd_ne (Ne.symm Sg), upd_ne (Ne.symm Lg)]
        exact e
      · rw [upd_ne LS, upd_same, eraseIdx_map]
      · rw [upd_same, List.map_append]
        rfl
      · refine List.Perm.trans ?_ pm
        rw [List.append_assoc]
        exact (erase_perm ex).append_left some_
      · rw [List.length_append, ls]
        rfl
    · rintro σ H' ⟨left, some_, y4, rfl, kp, rs1, oL, oS, pm, ls⟩
      refine ⟨_, rfl, g, 3, n + m.toNat, rfl, rs1, by omega, by decide, by decide, fun r H1 r0 r1 k1 rs2 => ⟨rfl, _, rfl, ite2 (fun _ => ?_) (fun _ => ?_)⟩⟩
      · have oS1 := k1 _ _ Sg oS
        refine ⟨_, rfl, S, rfl, ⟨_, .inl (.inl oS1)⟩, fun D nD => ?_⟩
        refine lc_map (xs := some_.map V.str) (fun z => match z with | .str x => .str (rowS x) | z => z) (.inl (.inl oS1)) ?_ nD (fun _ => rfl) ?_ ?_
        · rw [List.length_map]
          omega
        · intro z G R mz sG k
          obtain ⟨x, mx, rfl⟩ := List.mem_map.mp mz
          have sh := base_short x (pm.mem_iff.mp (List.mem_append_left _ mx))
          refine ⟨_, rfl, 5, rfl, x, rfl, Nat.le_trans (by omega : x.length ≤ 100000) (by decide), ?_⟩
          refine ⟨_, _, rfl, rfl, ?_, k⟩
          have cs := cut_short x (pm.mem_iff.mp (List.mem_append_left _ mx))
          show 3 + (cutS x none (some 5)).length ≤ sizeLine
          exact Nat.le_trans (by omega : 3 + (cutS x none (some 5)).length ≤ 100000) (by decide)
        · refine q D _ (some_.map rowS) ((kp.trans k1).trans (Kp.new nD)) ((rs2.same (Same.new nD)).mono (by omega)) ?_ ?_ (words_row pm) (by rw [List.length_map, ls]; omega)
          · exact Kp.none_of (kp.trans k1) rs2 nD
          · rw [upd_same, List.map_map, List.map_map]
            rfl
      · refine ⟨_, rfl, q S H1 some_ (kp.trans k1) (rs2.mono (by omega)) nS0 (k1 _ _ Sg oS) (words_base pm) (by rw [ls]; omega)⟩
end

end Pk09
namespace Pk09
open PySem PySem.Spec PyProof.Rows L2 Gd
section
variable {P : Program} {w : World} {K : PySem.W.Frag} {mg : Str → Option Value} {base : Heap}
set_option maxHeartbeats 8000000 in
-- _law_end: level 2; builtins []; cells []; slots: 0 rng, 1 far
theorem ok__law_end (h : At K mg "_law_end" s__law_end ["rng", "far"]) (D__law_draw : Dn P w K mg base 1 "_law_draw" s__law_draw ["rng", "limit"] (sp__law_draw K)) : Dn P w K mg base 2 "_law_end" s__law_end ["rng", "far"] (sp__law_end K) := by
  refine .mk' h fun f fd F => F.ok sc__law_end (fun vs H Q E h => ?_) (fun cdv A outer s H vs Q E hr h => ?_)
  · obtain ⟨g, far, n, rfl, rs, hn, hf0, hf1, q⟩ := h
    rfl
  · obtain ⟨g, far, n, rfl, rs, hn, hf0, hf1, q⟩ := h
    refine ⟨_, (pss_one (ps_ret (pe_ix ix_list (pe_lst (pa_cons pe_non (pa_cons (pe_op op_sub (pe_c D__law_draw hr (by rfl) (pa_cons (pv 0) (pa_cons pe_int pa_nil))) pe_int) (pa_cons (pe_op op_sub (pe_c D__law_draw hr (by rfl) (pa_cons (pv 0) (pa_cons pe_int pa_nil))) pe_int) (pa_cons (pv 1) pa_nil))))) (pe_c D__law_draw hr (by rfl) (pa_cons (pv 0) (pa_cons pe_int pa_nil))) (fun _ _ => rfl)))), ?_⟩
    refine ⟨_, rfl, g, _, n, rfl, rs, by omega, by decide, by decide, fun r H1 r0 r1 k1 rs1 => ⟨_, _, rfl, rfl, ?_⟩⟩
    refine ⟨_, rfl, g, _, n + 1, rfl, rs1, by omega, by decide, by decide, fun r2 H2 t0 t1 k2 rs2 => ⟨_, _, rfl, rfl, _, rfl, by show 4 ≤ sizeLine; decide, fun p np => ?_⟩⟩
    have rs3 := rs2.same (Same.new (o := .lst [.non, .int (r - 4), .int (r2 - 99), .int far]) np)
    refine ⟨_, rfl, g, _, n + 2, rfl, rs3, by omega, by decide, by decide, fun r3 H3 u0 u1 k3 rs4 => ?_⟩
    have kk : Kp g H H3 := (k1.trans k2).trans ((Kp.of (Same.new np)).trans k3)
    have ep : SqL K H3 p [.non, .int (r - 4), .int (r2 - 99), .int far] := .inl (.inl (k3 _ _ (rs2.fresh np) upd_same))
    have four : r3 = 0 ∨ r3 = 1 ∨ r3 = 2 ∨ r3 = 3 := by omega
    have big : (10 : Int) ^ 31 = 10000000000000000000000000000000 := by decide
    rw [big] at hf0 hf1
    rcases four with rfl | rfl | rfl | rfl
    · exact ⟨p, _, 0, _, rfl, rfl, ep, atI_nat (j := 0) rfl, q none _ trivial kk rs4⟩
    · exact ⟨p, _, 1, _, rfl, rfl, ep, atI_nat (j := 1) rfl, q (some _) _ (by unfold BdOk; rw [big]; omega) kk rs4⟩
    · exact ⟨p, _, 2, _, rfl, rfl, ep, atI_nat (j := 2) rfl, q (some _) _ (by unfold BdOk; rw [big]; omega) kk rs4⟩
    · exact ⟨p, _, 3, _, rfl, rfl, ep, atI_nat (j := 3) rfl, q (some _) _ (by unfold BdOk; rw [big]; omega) kk rs4⟩
end

end Pk09
namespace Pk09
open PySem PySem.Spec PyProof.Rows L2 Gd
section
variable {P : Program} {w : World} {K : PySem.W.Frag} {mg : Str → Option Value} {base : Heap}
set_option maxHeartbeats 8000000 in
-- _law_within: level 3; builtins []; cells []; slots: 0 rng, 1 far, 2 low, 3 high
theorem ok__law_within (h : At K mg "_law_within" s__law_within ["rng", "far"]) (D__law_end : Dn P w K mg base 2 "_law_end" s__law_end ["rng", "far"] (sp__law_end K)) : Dn P w K mg base 3 "_law_within" s__law_within ["rng", "far"] (sp__law_within K) := by
  refine .mk' h fun f fd F => F.ok sc__law_within (fun vs H Q E h => ?_) (fun cdv A outer s H vs Q E hr h => ?_)
  · obtain ⟨g, far, n, rfl, rs, hn, hf0, hf1, q⟩ := h
    rfl
  · obtain ⟨g, far, n, rfl, rs, hn, hf0, hf1, q⟩ := h
    refine ⟨_, (pss_cons (ps_par (i := 2) (j := 3) rfl sc__law_within.nd rfl rfl (by decide) rfl rfl (pa_cons (pe_c D__law_end hr (by rfl) (pa_cons (pv 0) (pa_cons (pe_op op_sub pe_int (pv 1)) pa_nil))) (pa_cons (pe_c D__law_end hr (by rfl) (pa_cons (pv 0) (pa_cons (pv 1) pa_nil))) pa_nil)) (by rfl))
      (pss_cons (ps_if (PW.pt (pw_and (pt_cmpR op_notN (pv 2) pe_non (nomark _)) (pw_and (pt_cmpR op_notN (pv 3) pe_non (nomark _)) (pw_and1 (pt_cmpR op_gt (pv 2) (pv 3) (nomark _))))))
        (pss_one (ps_ret (pe_tup (pa_cons (pv 3) (pa_cons (pv 2) pa_nil)))))
        pss_nil)
      (pss_one (ps_ret (pe_tup (pa_cons (pv 2) (pa_cons (pv 3) pa_nil))))))), ?_⟩
    have big : (10 : Int) ^ 31 = 10000000000000000000000000000000 := by decide
    refine ⟨_, rfl, _, rfl, _, _, rfl, rfl, g, _, n, rfl, rs, by omega, by rw [big] at *; omega, by rw [big] at *; omega, fun lo H1 bl k1 rs1 => ?_⟩
    refine ⟨_, rfl, _, rfl, g, far, n + 3, rfl, rs1, by omega, hf0, hf1, fun hi H2 bh k2 rs2 => ⟨_, _, rfl, ?_⟩⟩
    have kk := k1.trans k2
    match lo, hi, bl, bh with
    | none, hi, bl, bh =>
      refine ⟨_, rfl, rfl, _, rfl, iteF (iteF ⟨_, rfl, _, rfl, by show 2 ≤ sizeLine; decide, fun p np => ?_⟩)⟩
      exact q _ (some (none, hi)) _ ⟨by cases hi <;> rfl, bl, bh⟩ (kk.trans (Kp.new np)) (rs2.same (Same.new np)) ⟨p, rfl, .inl (.inl upd_same)⟩
    | some l, none, bl, bh =>
      refine ⟨_, rfl, rfl, _, rfl, iteT ⟨_, rfl, rfl, _, rfl, iteF (iteF ⟨_, rfl, _, rfl, by show 2 ≤ sizeLine; decide, fun p np => ?_⟩)⟩⟩
      exact q _ (some (some l, none)) _ ⟨rfl, bl, bh⟩ (kk.trans (Kp.new np)) (rs2.same (Same.new np)) ⟨p, rfl, .inl (.inl upd_same)⟩
    | some l, some u, bl, bh =>
      refine ⟨_, rfl, rfl, _, rfl, iteT ⟨_, rfl, rfl, _, rfl, iteT ⟨_, rfl, _, rfl, _, _, rfl, rfl, _, rfl, ite2 (fun c => ?_) (fun c => ?_)⟩⟩⟩
      · have c' : l > u := of_decide_eq_true c
        refine ⟨_, rfl, _, rfl, by show 2 ≤ sizeLine; decide, fun p np => ?_⟩
        refine q _ (some (some u, some l)) _ ⟨?_, bh, bl⟩ (kk.trans (Kp.new np)) (rs2.same (Same.new np)) ⟨p, rfl, .inl (.inl upd_same)⟩
        show (false || decide (u > l)) = false
        rw [Bool.false_or]
        exact decide_eq_false (by omega)
      · have c' : ¬ l > u := fun z => c (decide_eq_true z)
        refine ⟨_, rfl, _, rfl, by show 2 ≤ sizeLine; decide, fun p np => ?_⟩
        refine q _ (some (some l, some u)) _ ⟨?_, bl, bh⟩ (kk.trans (Kp.new np)) (rs2.same (Same.new np)) ⟨p, rfl, .inl (.inl upd_same)⟩
        show (false || decide (l > u)) = false
        rw [Bool.false_or]
        exact decide_eq_false c'
end

end Pk09
namespace Pk09
open PySem PySem.Spec PyProof.Rows L2 Gd
section
variable {P : Program} {w : World} {K : PySem.W.Frag} {mg : Str → Option Value} {base : Heap}
set_option maxHeartbeats 8000000 in
-- _law_rule: level 4; builtins ['len', 'max', 'range', 'tuple']; cells []; slots: 0 rng, 1 words, 2 far, 3 conditions, 4 turn, 5 first, 6 last, 7 size, 8 plus
theorem ok__law_rule (h : At K mg "_law_rule" s__law_rule ["rng", "words", "far"]) (D__law_draw : Dn P w K mg base 1 "_law_draw" s__law_draw ["rng", "limit"] (sp__law_draw K)) (D__law_within : Dn P w K mg base 3 "_law_within" s__law_within ["rng", "far"] (sp__law_within K)) (m_len : mg "len" = none) (m_max : mg "max" = none) (m_range : mg "range" = none) (m_tuple : mg "tuple" = none) : Dn P w K mg base 4 "_law_rule" s__law_rule ["rng", "words", "far"] (sp__law_rule K) := by
  refine .mk' h fun f fd F => F.ok sc__law_rule (fun vs H Q E h => ?_) (fun cdv A outer s H vs Q E hr h => ?_)
  · obtain ⟨g, w, far, n, ws, rfl, rs, hn, hf0, hf1, wg, hw, w0, wl, q⟩ := h
    rfl
  · obtain ⟨g, w, far, n, ws, rfl, rs, hn, hf0, hf1, wg, hw, w0, wl, q⟩ := h
    refine ⟨_, (pss_cons (ps_set (i := 3) sc__law_rule.nd rfl (.inl rfl) (pe_lst pa_nil))
      (pss_cons (ps_for PassesOwn.never rfl (pi_range1 (by rfl) m_range (pa_cons (pe_callB (call_max2 rfl) (by rfl) m_max (by decide +kernel) (pa_cons pe_int (pa_cons (pe_op op_sub (pe_c D__law_draw hr (by rfl) (pa_cons (pv 0) (pa_cons pe_int pa_nil))) pe_int) pa_nil))) pa_nil)) (pg_name (i := 4) sc__law_rule.nd rfl (.inl rfl))
        (pss_one (ps_expr (pe_bm PySem.F.plainAttrs_list PySem.F.slot_list_append PySem.F.type_list_append mt_append (pv 3) (pa_cons (pe_tup (pa_cons (pe_ix ix_list (pv 1) (pe_c D__law_draw hr (by rfl) (pa_cons (pv 0) (pa_cons (pe_callB call_len_seq (by rfl) m_len PySem.boot_len (pa_cons (pv 1) pa_nil)) pa_nil))) (fun _ _ => rfl)) (pa_cons (pe_c D__law_within hr (by rfl) (pa_cons (pv 0) (pa_cons (pv 2) pa_nil))) pa_nil))) pa_nil)))))
      (pss_cons (ps_par (i := 5) (j := 6) rfl sc__law_rule.nd rfl rfl (by decide) rfl rfl (pa_cons (pe_ix ix_list (pv 1) (pe_c D__law_draw hr (by rfl) (pa_cons (pv 0) (pa_cons (pe_callB call_len_seq (by rfl) m_len PySem.boot_len (pa_cons (pv 1) pa_nil)) pa_nil))) (fun _ _ => rfl)) (pa_cons (pe_ix ix_list (pv 1) (pe_c D__law_draw hr (by rfl) (pa_cons (pv 0) (pa_cons (pe_callB call_len_seq (by rfl) m_len PySem.boot_len (pa_cons (pv 1) pa_nil)) pa_nil))) (fun _ _ => rfl)) pa_nil)) (by rfl))
      (pss_cons (ps_if (pt_cmpR op_eq (pe_c D__law_draw hr (by rfl) (pa_cons (pv 0) (pa_cons pe_int pa_nil))) pe_int (nomark _))
        (pss_one (ps_ret (pe_tup (pa_cons pe_str (pa_cons (pv 5) (pa_cons (pe_c D__law_within hr (by rfl) (pa_cons (pv 0) (pa_cons (pv 2) pa_nil))) (pa_cons (pe_callTy call_tuple_of (by rfl) m_tuple (by decide +kernel) (pa_cons (pv 3) pa_nil)) pa_nil)))))))
        pss_nil)
      (pss_cons (ps_set (i := 7) sc__law_rule.nd rfl (.inl rfl) (pe_ix ix_list (pe_lst (pa_cons pe_int (pa_cons pe_int (pa_cons pe_int (pa_cons (pe_un un_neg pe_int) (pa_cons pe_int (pa_cons (pe_un un_neg pe_int) (pa_cons (pe_op op_add pe_int (pe_c D__law_draw hr (by rfl) (pa_cons (pv 0) (pa_cons pe_int pa_nil)))) (pa_cons (pe_op op_sub (pe_op op_sub pe_int pe_int) (pe_c D__law_draw hr (by rfl) (pa_cons (pv 0) (pa_cons pe_int pa_nil)))) pa_nil))))))))) (pe_c D__law_draw hr (by rfl) (pa_cons (pv 0) (pa_cons pe_int pa_nil))) (fun _ _ => rfl)))
      (pss_cons (ps_set (i := 8) sc__law_rule.nd rfl (.inl rfl) (pe_ix ix_list (pe_lst (pa_cons pe_int (pa_cons pe_int (pa_cons (pe_un un_neg pe_int) (pa_cons (pe_op op_sub (pe_c D__law_draw hr (by rfl) (pa_cons (pv 0) (pa_cons pe_int pa_nil))) pe_int) (pa_cons (pe_op op_sub (pe_c D__law_draw hr (by rfl) (pa_cons (pv 0) (pa_cons pe_int pa_nil))) pe_int) (pa_cons (pv 2) (pa_cons (pe_op op_sub pe_int (pv 2)) pa_nil)))))))) (pe_c D__law_draw hr (by rfl) (pa_cons (pv 0) (pa_cons pe_int pa_nil))) (fun _ _ => rfl)))
      (pss_one (ps_ret (pe_tup (pa_cons pe_str (pa_cons (pv 5) (pa_cons (pv 6) (pa_cons (pv 7) (pa_cons (pv 8) (pa_cons (pe_c D__law_within hr (by rfl) (pa_cons (pv 0) (pa_cons (pv 2) pa_nil))) (pa_cons (pe_callTy call_tuple_of (by rfl) m_tuple (by decide +kernel) (pa_cons (pv 3) pa_nil)) pa_nil)))))))))))))))), ?_⟩
    have big : (10 : Int) ^ 31 = 10000000000000000000000000000000 := by decide
    have p200 : (2 : Nat) ^ 200 = 1606938044258990275541962092341162602522202993782792835301376 := by decide
    have wpos : 0 < ws.length := List.length_pos_iff.mpr w0
    refine ⟨by show 0 ≤ sizeLine; decide, fun c nc => ?_⟩
    have sm0 : Same H (upd H c (.lst [])) := Same.new nc
    have oc : upd H c (.lst []) c = some (.lst []) := upd_same
    have cg : c ≠ g := rs.fresh nc
    generalize upd H c (.lst []) = H0 at sm0 oc
    refine ⟨_, rfl, g, _, n, rfl, rs.same sm0, by omega, by decide, by decide, fun r0 H1 a0 a1 k1 rs1 => ⟨_, _, rfl, rfl, _, _, rfl, _, rfl, ?_, ?_, ?_⟩⟩
    · split <;> omega
    · split <;> omega
    have m2 : (if r0 - 2 > 0 then r0 - 2 else 0).toNat ≤ 2 := by split <;> omega
    generalize (if r0 - 2 > 0 then r0 - 2 else 0).toNat = m at m2
    refine for_range (n := m) (fun i σ H' => ∃ (cs : List Cd) (ys : List V) (y4 : Option V), σ = [some (.ref g), some (.ref w), some (.int far), some (.ref c), y4, none, none, none, none] ∧ Kp g H H' ∧ RS (n + 1 + 7 * i) H' g ∧
      H' c = some (.lst ys) ∧ DpAll K H' ys (cs.map cdD) ∧ cs.length = i ∧ ∀ z ∈ cs, z.1 ∈ ws ∧ RgGd z.2) ⟨[], [], none, rfl, (Kp.of sm0).trans k1, rs1.mono (by omega), k1 _ _ cg oc, .nil, rfl, by simp⟩ ?_ ?_
    · rintro i σ H2 hi ⟨cs, ys, y4, rfl, kp, rs2, oc2, dc, lc, gc⟩
      refine ⟨_, rfl, ty_lst oc2, _, rfl, _, rfl, _, rfl, w, _, rfl, .inl (Kp.lst kp wg hw), g, _, n + 1 + 7 * i, rfl, rs2, by omega, ?_, ?_, fun r H3 r0 r1 k3 rs3 => ?_⟩
      · rw [List.length_map]
        omega
      · rw [List.length_map, p200]
        omega
      rw [List.length_map] at r1
      obtain ⟨x, mx, ex⟩ := str_at r0 r1
      have kp3 := kp.trans k3
      refine ⟨w, _, r, _, rfl, rfl, Kp.lst kp3 wg hw, ex, _, rfl, _, rfl, g, far, n + 1 + 7 * i + 1, rfl, rs3, by omega, hf0, hf1, fun v rr H4 gd k4 rs4 hv => ?_⟩
      refine ⟨by show 2 ≤ sizeLine; decide, fun p np => ?_⟩
      have k34 : Kl g H2 H4 := rs2.kl (k3.trans k4)
      have oc4 : H4 c = some (.lst ys) := k34.2 _ _ cg oc2
      have sm5 : Same H4 (upd H4 p (.tup [.str x, v])) := Same.new np
      have op : upd H4 p (.tup [.str x, v]) p = some (.tup [.str x, v]) := upd_same
      have rs5 := rs4.same sm5
      have pc : p ≠ c := fun z => by rw [z, oc4] at np; cases np
      generalize upd H4 p (.tup [.str x, v]) = H5 at sm5 op rs5
      have oc5 := sm5 _ _ oc4
      have dc5 : DpAll K H5 ys (cs.map cdD) := dpa_same sm5 (dpa_kl k34 dc (noL_map cs))
      have dn : Dp K H5 (.ref p) (cdD (x, rr)) := .tup (.inl (.inl op)) (.cons (.str x) (.cons (dp_rg (RgV.same sm5 hv)) .nil))
      have ly : ys.length = cs.length := by rw [dpa_len dc, List.length_map]
      refine ⟨c, ys, _, rfl, rfl, oc5, Nat.lt_of_lt_of_le (by omega : ys.length < 100000) (by decide), ?_⟩
      have kc : Kl c H5 (upd H5 c (.lst (ys ++ [.ref p]))) := ⟨⟨_, oc5⟩, Kp.at⟩
      refine ⟨cs ++ [(x, rr)], ys ++ [.ref p], _, rfl, ?_, ?_, upd_same, dpa_snoc (dpa_kl kc dc5 (noL_map cs)) (dp_kl kc dn (noL_cd _)), by rw [List.length_append, lc]; rfl, ?_⟩
      · intro b o hb e
        rw [upd_ne (ne_of_none e nc)]
        exact sm5 _ _ (k34.2 _ _ hb (kp _ _ hb e))
      · obtain ⟨d, sd, t, e, rest⟩ := rs5.ok
        exact RS.mono (by omega) ⟨d, sd, t, (by rw [upd_ne (Ne.symm cg)]; exact e), rest⟩
      · intro z mz
        rcases List.mem_append.mp mz with mz | mz
        · exact gc z mz
        · obtain rfl : z = (x, rr) := by simpa using mz
          exact ⟨mx, gd⟩
    · rintro σ H2 ⟨cs, ys, y4, rfl, kp, rs2, oc2, dc, lc, gc⟩
      refine ⟨_, rfl, _, rfl, _, rfl, w, _, rfl, .inl (Kp.lst kp wg hw), g, _, n + 1 + 7 * m, rfl, rs2, by omega, ?_, ?_, fun r3 H3 r30 r31 k3 rs3 => ?_⟩
      · rw [List.length_map]
        omega
      · rw [List.length_map, p200]
        omega
      rw [List.length_map] at r31
      obtain ⟨x, mx, ex⟩ := str_at r30 r31
      have kp3 := kp.trans k3
      refine ⟨w, _, r3, _, rfl, rfl, Kp.lst kp3 wg hw, ex, _, rfl, _, rfl, _, rfl, w, _, rfl, .inl (Kp.lst kp3 wg hw), g, _, n + 1 + 7 * m + 1, rfl, rs3, by omega, ?_, ?_, fun r4 H4 r40 r41 k4 rs4 => ?_⟩
      · rw [List.length_map]
        omega
      · rw [List.length_map, p200]
        omega
      rw [List.length_map] at r41
      obtain ⟨y, my, ey⟩ := str_at r40 r41
      have kp4 := kp3.trans k4
      refine ⟨w, _, r4, _, rfl, rfl, Kp.lst kp4 wg hw, ey, _, _, rfl, ?_⟩
      refine ⟨_, rfl, g, _, n + 1 + 7 * m + 2, rfl, rs4, by omega, by decide, by decide, fun r5 H5 r50 r51 k5 rs5 => ⟨rfl, _, rfl, ite2 (fun _ => ?_) (fun _ => ?_)⟩⟩
      · -- a set
        refine ⟨_, rfl, _, rfl, _, rfl, g, far, n + 1 + 7 * m + 3, rfl, rs5, by omega, hf0, hf1, fun v rr H6 gd k6 rs6 hv => ?_⟩
        have k26 : Kl g H2 H6 := rs2.kl (((k3.trans k4).trans k5).trans k6)
        have oc6 : H6 c = some (.lst ys) := k26.2 _ _ cg oc2
        refine ⟨_, rfl, c, ys, rfl, .inl ⟨.inl (.inl oc6), fun l nl => ⟨by show 4 ≤ sizeLine; decide, fun p np => ?_⟩⟩⟩
        have sl : Same H6 (upd H6 l (.tup ys)) := Same.new nl
        have ol : upd H6 l (.tup ys) l = some (.tup ys) := upd_same
        generalize upd H6 l (.tup ys) = H7 at sl ol np
        have sp := Same.new (o := .tup [.str "set", .str x, v, .ref l]) np
        have sm := sl.trans sp
        refine q _ (.set x rr cs) _ ⟨?_, ?_, rfl, ?_, trivial⟩ (((kp4.trans k5).trans k6).trans (Kp.of sm)) ((rs6.same sm).mono (by omega)) ?_
        · intro z mz
          rcases List.mem_cons.mp mz with rfl | mz
          · exact mx
          · obtain ⟨cd, mcd, rfl⟩ := List.mem_map.mp mz
            exact (gc cd mcd).1
        · intro z mz
          rcases List.mem_cons.mp mz with rfl | mz
          · exact gd
          · obtain ⟨cd, mcd, rfl⟩ := List.mem_map.mp mz
            exact (gc cd mcd).2
        · show cs.length ≤ 2
          omega
        · refine .tup (.inl (.inl upd_same)) (.cons (.str _) (.cons (.str _) (.cons (dp_rg (RgV.same sm hv)) (.cons (.tup (.inl (.inl (sp _ _ ol))) ?_) .nil))))
          exact dpa_same sm (dpa_kl k26 dc (noL_map cs))
      · -- a step
        refine ⟨_, rfl, _, rfl, _, rfl, g, _, n + 1 + 7 * m + 3, rfl, rs5, by omega, by decide, by decide, fun r6 H6 r60 r61 k6 rs6 => ⟨_, _, rfl, rfl, _, _, rfl, rfl, ?_⟩⟩
        refine ⟨_, rfl, g, _, n + 1 + 7 * m + 4, rfl, rs6, by omega, by decide, by decide, fun r7 H7 r70 r71 k7 rs7 => ⟨_, _, rfl, rfl, by show 8 ≤ sizeLine; decide, fun t1 nt1 => ?_⟩⟩
        have st1 := Same.new (o := .lst [.int 1, .int 1, .int 1, .int (-1), .int 2, .int (-2), .int (1 + r6), .int (0 - 1 - r7)]) nt1
        refine ⟨_, rfl, g, _, n + 1 + 7 * m + 5, rfl, rs7.same st1, by omega, by decide, by decide, fun r8 H8 r80 r81 k8 rs8 => ?_⟩
        obtain ⟨sz, esz, sz0, szb⟩ := pick_size r60 r61 r70 r71 r80 r81
        refine ⟨t1, _, r8, _, rfl, rfl, .inl (.inl (k8 _ _ (rs7.fresh nt1) upd_same)), esz, ?_⟩
        have k58 : Kp g H5 H8 := (k6.trans k7).trans ((Kp.of st1).trans k8)
        refine ⟨_, rfl, _, rfl, g, _, n + 1 + 7 * m + 6, rfl, rs8, by omega, by decide, by decide, fun r9 H9 r90 r91 k9 rs9 => ⟨_, _, rfl, rfl, ?_⟩⟩
        refine ⟨_, rfl, g, _, n + 1 + 7 * m + 7, rfl, rs9, by omega, by decide, by decide, fun ra Ha ra0 ra1 ka rsa => ⟨_, _, rfl, rfl, _, rfl, _, rfl, _, _, rfl, rfl, by show 7 ≤ sizeLine; decide, fun t2 nt2 => ?_⟩⟩
        have st2 := Same.new (o := .lst [.int 0, .int 1, .int (-1), .int (r9 - 9), .int (ra - 99), .int far, .int (0 - far)]) nt2
        refine ⟨_, rfl, g, _, n + 1 + 7 * m + 8, rfl, rsa.same st2, by omega, by decide, by decide, fun rb Hb rb0 rb1 kb rsb => ?_⟩
        obtain ⟨pl, epl, plb⟩ := pick_plus r90 r91 ra0 ra1 hf0 hf1 rb0 rb1
        refine ⟨t2, _, rb, _, rfl, rfl, .inl (.inl (kb _ _ (rsa.fresh nt2) upd_same)), epl, ?_⟩
        have k8b : Kp g H8 Hb := (k9.trans ka).trans ((Kp.of st2).trans kb)
        refine ⟨_, rfl, _, rfl, _, rfl, _, rfl, _, rfl, _, rfl, g, far, n + 1 + 7 * m + 9, rfl, rsb, by omega, hf0, hf1, fun v rr Hc gd kc rsc hv => ?_⟩
        have k2c : Kl g H2 Hc := rs2.kl ((((k3.trans k4).trans k5).trans (k58.trans k8b)).trans kc)
        have occ : Hc c = some (.lst ys) := k2c.2 _ _ cg oc2
        refine ⟨_, rfl, c, ys, rfl, .inl ⟨.inl (.inl occ), fun l nl => ⟨by show 7 ≤ sizeLine; decide, fun p np => ?_⟩⟩⟩
        have sl : Same Hc (upd Hc l (.tup ys)) := Same.new nl
        have ol : upd Hc l (.tup ys) l = some (.tup ys) := upd_same
        generalize upd Hc l (.tup ys) = Hd at sl ol np
        have sp := Same.new (o := .tup [.str "step", .str x, .str y, .int sz, .int pl, v, .ref l]) np
        have sm := sl.trans sp
        refine q _ (.stp x y sz pl rr cs) _ ⟨?_, ?_, decide_eq_false sz0, ?_, szb, plb⟩ ((kp.trans k2c.2).trans (Kp.of sm)) ((rsc.same sm).mono (by omega)) ?_
        · intro z mz
          rcases List.mem_cons.mp mz with rfl | mz
          · exact mx
          rcases List.mem_cons.mp mz with rfl | mz
          · exact my
          · obtain ⟨cd, mcd, rfl⟩ := List.mem_map.mp mz
            exact (gc cd mcd).1
        · intro z mz
          rcases List.mem_cons.mp mz with rfl | mz
          · exact gd
          · obtain ⟨cd, mcd, rfl⟩ := List.mem_map.mp mz
            exact (gc cd mcd).2
        · show cs.length ≤ 2
          omega
        · refine .tup (.inl (.inl upd_same)) (.cons (.str _) (.cons (.str _) (.cons (.str _) (.cons (.int _) (.cons (.int _) (.cons (dp_rg (RgV.same sm hv)) (.cons (.tup (.inl (.inl (sp _ _ ol))) ?_) .nil)))))))
          exact dpa_same sm (dpa_kl k2c dc (noL_map cs))
end

end Pk09
namespace Pk09
open PySem PySem.Spec PyProof.Rows L2 Gd
section
variable {P : Program} {w : World} {K : PySem.W.Frag} {mg : Str → Option Value} {base : Heap}
set_option maxHeartbeats 8000000 in
-- _law_rows: level 5; builtins ['len', 'range']; cells []; slots: 0 rng, 1 words, 2 most, 3 far, 4 rows, 5 low, 6 turn
theorem ok__law_rows (h : At K mg "_law_rows" s__law_rows ["rng", "words", "most"]) (D__law_draw : Dn P w K mg base 1 "_law_draw" s__law_draw ["rng", "limit"] (sp__law_draw K)) (D__law_rule : Dn P w K mg base 4 "_law_rule" s__law_rule ["rng", "words", "far"] (sp__law_rule K)) (m_len : mg "len" = none) (m_range : mg "range" = none) : Dn P w K mg base 5 "_law_rows" s__law_rows ["rng", "words", "most"] (sp__law_rows K) := by
  refine .mk' h fun f fd F => F.ok sc__law_rows (fun vs H Q E h => ?_) (fun cdv A outer s H vs Q E hr h => ?_)
  · obtain ⟨g, w, m, n, ws, rfl, rs, hn, m0, m1, wg, hw, w0, wl, q⟩ := h
    rfl
  · obtain ⟨g, w, m, n, ws, rfl, rs, hn, m0, m1, wg, hw, w0, wl, q⟩ := h
    refine ⟨_, (pss_cons (ps_par (i := 3) (j := 4) rfl sc__law_rows.nd rfl rfl (by decide) rfl rfl (pa_cons (pe_ix ix_list (pe_lst (pa_cons pe_int (pa_cons (pe_op op_powW pe_int pe_int) (pa_cons (pe_op op_powW pe_int pe_int) pa_nil)))) (pe_c D__law_draw hr (by rfl) (pa_cons (pv 0) (pa_cons pe_int pa_nil))) (fun _ _ => rfl)) (pa_cons (pe_lst pa_nil) pa_nil)) (by rfl))
      (C8.pss_cut (ps_if (PW.pt (pw_and (pt_cmpR op_gt (pe_c D__law_draw hr (by rfl) (pa_cons (pv 0) (pa_cons pe_int pa_nil))) pe_int (nomark _)) (pw_and1 (pt_cmpR op_gt (pv 2) pe_int (nomark _)))))
        (pss_cons (ps_set (i := 5) sc__law_rows.nd rfl (.inl rfl) (pe_op op_sub (pe_c D__law_draw hr (by rfl) (pa_cons (pv 0) (pa_cons pe_int pa_nil))) pe_int))
        (pss_one (ps_expr (pe_bm PySem.F.plainAttrs_list PySem.F.slot_list_append PySem.F.type_list_append mt_append (pv 4) (pa_cons (pe_tup (pa_cons pe_str (pa_cons (pe_ix ix_list (pv 1) pe_int (fun _ _ => rfl)) (pa_cons (pe_tup (pa_cons (pv 5) (pa_cons (pe_op op_add (pv 5) (pe_c D__law_draw hr (by rfl) (pa_cons (pv 0) (pa_cons pe_int pa_nil)))) pa_nil))) (pa_cons (pe_tup pa_nil) pa_nil))))) pa_nil)))))
        pss_nil)
      (pss_cons (ps_for PassesOwn.never rfl (pi_range1 (by rfl) m_range (pa_cons (pe_c D__law_draw hr (by rfl) (pa_cons (pv 0) (pa_cons (pe_op op_sub (pe_op op_add (pv 2) pe_int) (pe_callB call_len_seq (by rfl) m_len PySem.boot_len (pa_cons (pv 4) pa_nil))) pa_nil))) pa_nil)) (pg_name (i := 6) sc__law_rows.nd rfl (.inl rfl))
        (pss_one (ps_expr (pe_bm PySem.F.plainAttrs_list PySem.F.slot_list_append PySem.F.type_list_append mt_append (pv 4) (pa_cons (pe_c D__law_rule hr (by rfl) (pa_cons (pv 0) (pa_cons (pv 1) (pa_cons (pv 3) pa_nil)))) pa_nil)))))
      (pss_one (ps_ret (pv 4)))))), ?_⟩
    have p200 : (2 : Nat) ^ 200 = 1606938044258990275541962092341162602522202993782792835301376 := by decide
    have wpos : 0 < ws.length := List.length_pos_iff.mpr w0
    refine ⟨_, _, rfl, rfl, ten9, _, _, rfl, rfl, ten31, by show 3 ≤ sizeLine; decide, fun t nt => ?_⟩
    have st := Same.new (o := .lst [.int 99, .int ((10 : Int) ^ (9 : Int).toNat), .int ((10 : Int) ^ (31 : Int).toNat)]) nt
    refine ⟨_, rfl, g, _, n, rfl, rs.same st, by omega, by decide, by decide, fun r0 H1 a0 a1 k1 rs1 => ?_⟩
    obtain ⟨far, ef, hf0, hf1⟩ := pick_far a0 a1
    have k01 : Kp g H H1 := (Kp.of st).trans k1
    refine ⟨t, _, r0, _, rfl, rfl, .inl (.inl (k1 _ _ (rs.fresh nt) upd_same)), ef, by show 0 ≤ sizeLine; decide, fun L nL => ⟨_, _, rfl, ?_⟩⟩
    have Lg : L ≠ g := rs1.fresh nL
    have nL0 : H L = none := Kp.none_of k01 rs1 nL
    have sL : Same H1 (upd H1 L (.lst [])) := Same.new nL
    have oL : upd H1 L (.lst []) L = some (.lst []) := upd_same
    generalize upd H1 L (.lst []) = H2 at sL oL
    have rs2 := rs1.same sL
    have k02 : Kp g H H2 := k01.trans (Kp.of sL)
    refine ⟨fun σ H' => ∃ (rr : List Rl) (xs : List V) (y5 : Option V), σ = [some (.ref g), some (.ref w), some (.int m), some (.int far), some (.ref L), y5, none] ∧ Kp g H H' ∧ RS (n + 4) H' g ∧ H' L = some (.lst xs) ∧ DpAll K H' xs (rr.map Rl.d) ∧
      RowsGd ws rr ∧ rr.length ≤ 1 ∧ (rr.length : Int) ≤ m, ?_, ?_⟩
    · refine ⟨_, rfl, g, _, n + 1, rfl, rs2.mono (by omega), by omega, by decide, by decide, fun r1 H3 b0 b1 k3 rs3 => ⟨_, _, rfl, rfl, _, rfl, ite2 (fun _ => ?_) (fun _ => ?_)⟩⟩
      · refine ⟨_, rfl, _, _, rfl, rfl, _, rfl, ite2 (fun mp => ?_) (fun _ => ?_)⟩
        · have mp' : m > 0 := of_decide_eq_true mp
          refine ⟨_, rfl, g, _, n + 2, rfl, rs3, by omega, by decide, by decide, fun r2 H4 c0 c1 k4 rs4 => ⟨_, _, rfl, rfl, ?_⟩⟩
          obtain ⟨x, mx, ex⟩ := str_at (ws := ws) (d := 0) (by omega) (by omega)
          have kp4 := (k02.trans k3).trans k4
          have oL4 := (k3.trans k4) _ _ Lg oL
          refine ⟨_, rfl, ty_lst oL4, _, rfl, w, _, 0, _, rfl, rfl, Kp.lst kp4 wg hw, ex, _, rfl, _, rfl, _, rfl, g, _, n + 3, rfl, rs4, by omega, by decide, by decide, fun r3 H5 d0 d1 k5 rs5 => ?_⟩
          refine ⟨_, _, rfl, rfl, by show 2 ≤ sizeLine; decide, fun p1 np1 => ⟨by show 0 ≤ sizeLine; decide, fun p2 np2 => ⟨by show 4 ≤ sizeLine; decide, fun p3 np3 => ?_⟩⟩⟩
          have s1 := Same.new (o := .tup [.int (r2 - 4), .int (r2 - 4 + r3)]) np1
          have o1 : upd H5 p1 (.tup [.int (r2 - 4), .int (r2 - 4 + r3)]) p1 = some (.tup [.int (r2 - 4), .int (r2 - 4 + r3)]) := upd_same
          generalize upd H5 p1 (.tup [.int (r2 - 4), .int (r2 - 4 + r3)]) = H6 at s1 o1 np2 np3
          have s2 := Same.new (o := .tup []) np2
          have o2 : upd H6 p2 (.tup []) p2 = some (.tup []) := upd_same
          generalize upd H6 p2 (.tup []) = H7 at s2 o2 np3
          have s3 := Same.new (o := .tup [.str "set", .str x, .ref p1, .ref p2]) np3
          have o3 : upd H7 p3 (.tup [.str "set", .str x, .ref p1, .ref p2]) p3 = some (.tup [.str "set", .str x, .ref p1, .ref p2]) := upd_same
          generalize upd H7 p3 (.tup [.str "set", .str x, .ref p1, .ref p2]) = H8 at s3 o3
          have sm := (s1.trans s2).trans s3
          have oL8 := sm _ _ (k5 _ _ Lg oL4)
          refine ⟨L, [], _, rfl, rfl, oL8, by decide, ?_⟩
          have kL : Kl L H8 (upd H8 L (.lst ([] ++ [.ref p3]))) := ⟨⟨_, oL8⟩, Kp.at⟩
          have rs8 := rs5.same sm
          have dr : Dp K H8 (.ref p3) (Rl.d (.set x (some (some (r2 - 4), some (r2 - 4 + r3))) [])) :=
            .tup (.inl (.inl o3)) (.cons (.str _) (.cons (.str _) (.cons (.tup (.inl (.inl (s3 _ _ (s2 _ _ o1)))) (.cons (.int _) (.cons (.int _) .nil))) (.cons (.tup (.inl (.inl (s3 _ _ o2))) .nil) .nil))))
          refine ⟨[.set x (some (some (r2 - 4), some (r2 - 4 + r3))) []], _, _, rfl, ?_, ?_, upd_same, .cons (dp_kl kL dr (noL_rl _)) .nil, ?_, by simp, by show ((1 : Nat) : Int) ≤ m; omega⟩
          · intro b o hb e
            rw [upd_ne (ne_of_none e nL0)]
            exact sm _ _ (k5 _ _ hb (kp4 _ _ hb e))
          · obtain ⟨d, sd, tt, e, rest⟩ := rs8.ok
            exact ⟨d, sd, tt, (by rw [upd_ne (Ne.symm Lg)]; exact e), rest⟩
          · intro r mr
            obtain rfl : r = _ := by simpa using mr
            refine ⟨?_, ?_, rfl, by show 0 ≤ 2; omega, trivial⟩
            · intro z mz
              obtain rfl : z = x := by simpa [Rl.names] using mz
              exact mx
            · intro z mz
              obtain rfl : z = some (some (r2 - 4), some (r2 - 4 + r3)) := by simpa [Rl.rgs] using mz
              refine ⟨?_, ?_, ?_⟩
              · show (false || decide (r2 - 4 > r2 - 4 + r3)) = false
                rw [Bool.false_or]
                exact decide_eq_false (by omega)
              · have big : (10 : Int) ^ 31 = 10000000000000000000000000000000 := by decide
                unfold BdOk
                rw [big]
                omega
              · have big : (10 : Int) ^ 31 = 10000000000000000000000000000000 := by decide
                unfold BdOk
                rw [big]
                omega
        · exact ⟨[], [], none, rfl, k02.trans k3, rs3.mono (by omega), k3 _ _ Lg oL, .nil, (fun _ z => absurd z (by simp)), by simp, m0⟩
      · exact iteF ⟨[], [], none, rfl, k02.trans k3, rs3.mono (by omega), k3 _ _ Lg oL, .nil, (fun _ z => absurd z (by simp)), by simp, m0⟩
    rintro σ H3 ⟨rr, xs, y5, rfl, kp, rs3, oL3, dx, gd, l1, lm⟩
    have lx : xs.length = rr.length := by rw [dpa_len dx, List.length_map]
    refine ⟨_, rfl, _, rfl, _, _, rfl, rfl, _, rfl, L, _, rfl, .inl (.inl (.inl oL3)), _, _, rfl, rfl, g, _, n + 4, rfl, rs3, by omega, by omega, by rw [p200]; omega, fun r4 H4 d0 d1 k4 rs4 => ⟨_, rfl, by omega, by omega, ?_⟩⟩
    have k3l : Kl g H3 H4 := rs3.kl k4
    refine for_range (n := r4.toNat) (fun i σ H' => ∃ (rr2 : List Rl) (xs2 : List V) (y6 : Option V), σ = [some (.ref g), some (.ref w), some (.int m), some (.int far), some (.ref L), y5, y6] ∧ Kp g H H' ∧ RS (n + 5 + 50 * i) H' g ∧ H' L = some (.lst xs2) ∧
      DpAll K H' xs2 (rr2.map Rl.d) ∧ RowsGd ws rr2 ∧ rr2.length = rr.length + i) ⟨rr, xs, none, rfl, kp.trans k4, rs4, k4 _ _ Lg oL3, dpa_kl k3l dx (noL_rls rr), gd, rfl⟩ ?_ ?_
    · rintro i σ H5 hi ⟨rr2, xs2, y6, rfl, kp5, rs5, oL5, dx5, gd5, l5⟩
      have hi20 : i < 21 := by omega
      refine ⟨_, rfl, ty_lst oL5, _, rfl, _, rfl, _, rfl, g, w, far, n + 5 + 50 * i, ws, rfl, rs5, by omega, hf0, hf1, wg, Kp.lst kp5 wg hw, w0, wl, fun v r H6 gr k6 rs6 dv => ?_⟩
      have oL6 := k6 _ _ Lg oL5
      have lx2 : xs2.length = rr2.length := by rw [dpa_len dx5, List.length_map]
      refine ⟨L, xs2, _, rfl, rfl, oL6, Nat.lt_of_lt_of_le (by omega : xs2.length < 100000) (by decide), ?_⟩
      have kL : Kl L H6 (upd H6 L (.lst (xs2 ++ [v]))) := ⟨⟨_, oL6⟩, Kp.at⟩
      refine ⟨rr2 ++ [r], _, _, rfl, ?_, ?_, upd_same, ?_, ?_, by rw [List.length_append, l5]; rfl⟩
      · intro b o hb e
        rw [upd_ne (ne_of_none e nL0)]
        exact k6 _ _ hb (kp5 _ _ hb e)
      · obtain ⟨d, sd, tt, e, rest⟩ := rs6.ok
        exact RS.mono (by omega) ⟨d, sd, tt, (by rw [upd_ne (Ne.symm Lg)]; exact e), rest⟩
      · rw [List.map_append]
        exact dpa_app (dpa_kl kL (dpa_kl (rs5.kl k6) dx5 (noL_rls rr2)) (noL_rls rr2)) (dpa_one (dp_kl kL dv (noL_rl r)))
      · intro z mz
        rcases List.mem_append.mp mz with mz | mz
        · exact gd5 z mz
        · obtain rfl : z = r := by simpa using mz
          exact gr
    · rintro σ H5 ⟨rr2, xs2, y6, rfl, kp5, rs5, oL5, dx5, gd5, l5⟩
      exact ⟨_, rfl, q L H5 xs2 rr2 gd5 (by omega) kp5 (rs5.mono (by omega)) nL0 oL5 dx5⟩
end

end Pk09
namespace Pk09
open PySem PySem.Spec PyProof.Rows L2 Gd
section
variable {P : Program} {w : World} {K : PySem.W.Frag} {mg : Str → Option Value} {base : Heap}
set_option maxHeartbeats 8000000 in
-- _law_shown: level 3; builtins ['len', 'repr']; cells []; slots: 0 made
theorem ok__law_shown {C : Addr} (T : SysT K mg C) (h : At K mg "_law_shown" s__law_shown ["made"]) (D_System___len__ : Mt P w K mg base 1 C "__len__" "System.__len__" s_System___len__ ["self"] (sp_System___len__ K C)) (D_System_names : Pt P w K mg base 1 C "names" "System.names" s_System_names ["self"] (sp_System_names K C)) (D_System_rules : Pt P w K mg base 1 C "rules" "System.rules" s_System_rules ["self"] (sp_System_rules K C)) (m_len : mg "len" = none) (m_repr : mg "repr" = none) : DnG P w K mg base 3 "_law_shown" s__law_shown ["made"] (sp__law_shown K C) := by
  refine .mk' h fun f fd F => okG F sc__law_shown (fun vs H Q E h => ?_) (fun cdv A outer s H vs Q E hgd hr h => ?_)
  · obtain ⟨a, p, b, ns, rs, rfl, made, so, q⟩ := h
    rfl
  · obtain ⟨a, p, b, ns, rs, rfl, made, so, q⟩ := h
    refine ⟨_, (pss_one (ps_ret (pe_callB (Gd.call_reprD hgd hr) (by rfl) m_repr (by decide +kernel) (pa_cons (pe_lst (pa_cons (pe_p T.ck D_System_names hr (pv 0)) (pa_cons (pe_p T.ck D_System_rules hr (pv 0)) (pa_cons (pe_callB (call_lenO D_System___len__ hr) (by rfl) m_len PySem.boot_len (pa_cons (pv 0) pa_nil)) pa_nil)))) pa_nil)))), ?_⟩
    obtain ⟨dx, fs, ea⟩ := made.ins
    have rl := so.2
    refine ⟨_, rfl, a, dx, fs, rfl, ea, a, p, b, ns, rs, rfl, made, fun l1 n1 => ?_⟩
    have sa : Same H (upd H l1 (.lst (ns.map V.str))) := Same.new n1
    have o1 : upd H l1 (.lst (ns.map V.str)) l1 = some (.lst (ns.map V.str)) := upd_same
    generalize upd H l1 (.lst (ns.map V.str)) = H1 at sa o1
    refine ⟨_, rfl, a, dx, fs, rfl, sa _ _ ea, a, p, b, ns, rs, rfl, made.same sa, fun l2 xs2 n2 d2 => ?_⟩
    have sb : Same H1 (upd H1 l2 (.lst xs2)) := Same.new n2
    have o2 : upd H1 l2 (.lst xs2) l2 = some (.lst xs2) := upd_same
    have d2 := dpa_same sb d2
    generalize upd H1 l2 (.lst xs2) = H2 at sb o2 d2
    have sab := sa.trans sb
    refine ⟨_, rfl, a, dx, fs, rfl, sab _ _ ea, a, p, b, ns, rs, rfl, made.same sab, _, rfl, by omega, by omega, by show 3 ≤ sizeLine; decide, fun T1 nT1 => ?_⟩
    have sc := Same.new (o := .lst [.ref l1, .ref l2, .int (rs.length : Nat)]) nT1
    exact ⟨.ref T1, toldD ns rs, 20000, 10, rfl, dp_told (.inl (.inl upd_same)) rfl (.inl (.inl (sc _ _ (sb _ _ o1)))) (.inl (.inl (sc _ _ o2))) (dpa_same sc d2), so.1, by decide, by decide, ⟨T1, rfl⟩, q _ (sab.trans sc)⟩
end

end Pk09
namespace Pk09
open PySem PySem.Spec PyProof.Rows L2 Gd
section
variable {P : Program} {w : World} {K : PySem.W.Frag} {mg : Str → Option Value} {base : Heap}
set_option maxHeartbeats 8000000 in
-- check_number: level 3; builtins ['len']; cells []; slots: 0 system, 1 number
theorem ok_check_number {C : Addr} (T : SysT K mg C) {c0 c1 c2 c3 c4 c5 c6 c7 c8 c9 fI : Addr} (X : ErrT K mg [c0, c1, c2, c3, c4, c5, c6, c7, c8, c9] ["RangeError", "InvalidRange", "InvalidName", "InvalidSystem", "InvalidRule", "UnknownName", "InvalidNumber", "InvalidMove", "NothingToUndo", "Unreadable"] fI) (h : At K mg "check_number" s_check_number ["system", "number"]) (D_RangeError___init__ : DnI P w K mg base 1 fI "RangeError.__init__" s_RangeError___init__ ["self", "value"] (spIni K)) (kI_value : ∀ fd, Fun K "__init__" "RangeError.__init__" s_RangeError___init__ fI fd → ∀ (s : Shared) (a u : Value), BindsTo s fd ⟨[a], [("value", u)]⟩ ((["self", "value"] : List Str).zip [a, u])) (D_System___len__ : Mt P w K mg base 1 C "__len__" "System.__len__" s_System___len__ ["self"] (sp_System___len__ K C)) (m_len : mg "len" = none) : DnN P w K mg base 3 "check_number" s_check_number ["system", "number"] (sp_check_number K C [c0, c1, c2, c3, c4, c5, c6, c7, c8, c9]) := by
  refine .mk' h fun f fd F => okN F sc_check_number (fun vs H Q E h => ?_) (fun cdv A outer s H vs Q E hr h => ?_)
  · obtain ⟨a, p, b, ns, rs, n, rfl, ss, rl, q, qE⟩ := h
    rfl
  · obtain ⟨a, p, b, ns, rs, n, rfl, ss, rl, q, qE⟩ := h
    refine ⟨_, (pss_one (ps_if (pt_not (pt_chain op_le op_lt pe_int (pv 1) (pe_callB (call_lenO D_System___len__ hr) (by rfl) m_len PySem.boot_len (pa_cons (pv 0) pa_nil))))
        (pss_one (ps_raiseN rfl (X.t 4 _ _ rfl rfl) D_RangeError___init__ hr (L2N.takes_of rfl rfl rfl rfl) (by rfl) (pa_cons (pv 1) pa_nil)))
        pss_nil)), ?_⟩
    have TR := X.t 4 _ _ rfl rfl
    obtain ⟨dx, fs, ea⟩ := ss.ins
    refine ⟨_, rfl, _, _, rfl, rfl, decide (0 ≤ n), rfl, ?_⟩
    by_cases c0 : 0 ≤ n
    case neg =>
      rw [decide_eq_false c0]
      obtain ⟨c, ec, e'⟩ := qE fun z => c0 z.1
      obtain rfl := Option.some.inj ec
      exact iteF ⟨_, rfl, _, rfl, by show 1 ≤ 1000; decide, mk_raise TR.ox TR.nV fun d' H4 k4 nd' hd' => e' d' H4 k4 nd' hd'⟩
    rw [decide_eq_true c0]
    refine iteT ⟨_, rfl, a, dx, fs, rfl, ea, a, p, b, ns, rs, rfl, ss, _, rfl, by omega, by omega, _, _, rfl, rfl, decide (n < (rs.length : Int)), rfl, ?_⟩
    by_cases c1 : n < (rs.length : Int)
    case neg =>
      rw [decide_eq_false c1]
      obtain ⟨c, ec, e'⟩ := qE fun z => c1 z.2
      obtain rfl := Option.some.inj ec
      exact iteT ⟨_, rfl, by show 1 ≤ 1000; decide, mk_raise TR.ox TR.nV fun d' H4 k4 nd' hd' => e' d' H4 k4 nd' hd'⟩
    rw [decide_eq_true c1]
    exact iteF (q ⟨c0, c1⟩)
end

end Pk09
namespace Pk09
open PySem PySem.Spec PyProof.Rows L2 Gd
section
variable {P : Program} {w : World} {K : PySem.W.Frag} {mg : Str → Option Value} {base : Heap}
set_option maxHeartbeats 8000000 in
-- check_name: level 3; builtins []; cells []; slots: 0 system, 1 name
theorem ok_check_name {C : Addr} (T : SysT K mg C) {c0 c1 c2 c3 c4 c5 c6 c7 c8 c9 fI : Addr} (X : ErrT K mg [c0, c1, c2, c3, c4, c5, c6, c7, c8, c9] ["RangeError", "InvalidRange", "InvalidName", "InvalidSystem", "InvalidRule", "UnknownName", "InvalidNumber", "InvalidMove", "NothingToUndo", "Unreadable"] fI) (h : At K mg "check_name" s_check_name ["system", "name"]) (D_RangeError___init__ : DnI P w K mg base 1 fI "RangeError.__init__" s_RangeError___init__ ["self", "value"] (spIni K)) (kI_value : ∀ fd, Fun K "__init__" "RangeError.__init__" s_RangeError___init__ fI fd → ∀ (s : Shared) (a u : Value), BindsTo s fd ⟨[a], [("value", u)]⟩ ((["self", "value"] : List Str).zip [a, u])) (D_System_names : Pt P w K mg base 1 C "names" "System.names" s_System_names ["self"] (sp_System_names K C)) : DnN P w K mg base 3 "check_name" s_check_name ["system", "name"] (sp_check_name K C [c0, c1, c2, c3, c4, c5, c6, c7, c8, c9]) := by
  refine .mk' h fun f fd F => okN F sc_check_name (fun vs H Q E h => ?_) (fun cdv A outer s H vs Q E hr h => ?_)
  · obtain ⟨a, p, b, ns, rs, x, rfl, ss, q, qE⟩ := h
    rfl
  · obtain ⟨a, p, b, ns, rs, x, rfl, ss, q, qE⟩ := h
    refine ⟨_, (pss_one (ps_if (pt_cmpR op_notIn_seq (pv 1) (pe_p T.ck D_System_names hr (pv 0)) (by rfl))
        (pss_one (ps_raiseN rfl (X.t 5 _ _ rfl rfl) D_RangeError___init__ hr (L2N.takes_of rfl rfl rfl rfl) (by rfl) (pa_cons (pv 1) pa_nil)))
        pss_nil)), ?_⟩
    have TR := X.t 5 _ _ rfl rfl
    obtain ⟨dx, fs, ea⟩ := ss.ins
    refine ⟨_, rfl, _, rfl, a, dx, fs, rfl, ea, a, p, b, ns, rs, rfl, ss, fun l nl => ?_⟩
    have k1 : Same H (upd H l (.lst (ns.map V.str))) := Same.new nl
    have oN : upd H l (.lst (ns.map V.str)) l = some (.lst (ns.map V.str)) := upd_same
    generalize upd H l (HO.lst (ns.map V.str)) = H1 at k1 oN
    refine ⟨l, _, rfl, .inl (.inl (.inl oN)), rfl, flat_strs ns, ?_⟩
    rw [if_pos rfl, inV_strs]
    by_cases c : x ∈ ns
    · rw [decide_eq_true c]
      exact ⟨false, rfl, iteF (q c _ k1)⟩
    · rw [decide_eq_false c]
      obtain ⟨c', ec, e'⟩ := qE c
      obtain rfl := Option.some.inj ec
      exact ⟨true, rfl, iteT ⟨_, rfl, by show 1 ≤ 1000; decide, mk_raise TR.ox TR.nV fun d' H4 k4 nd' hd' => e' d' H4 (k1.trans k4) (same_none k1 nd') hd'⟩⟩
end

end Pk09
namespace Pk09
open PySem PySem.Spec PyProof.Rows L2 Gd
section
variable {P : Program} {w : World} {K : PySem.W.Frag} {mg : Str → Option Value} {base : Heap}
set_option maxHeartbeats 8000000 in
-- _changed_range: level 4; builtins []; cells []; slots: 0 name, 1 one, 2 times, 3 shifts
theorem ok__changed_range (h : At K mg "_changed_range" s__changed_range ["name", "one", "times", "shifts"]) (D_stepped : Dn P w K mg base 3 "stepped" s_stepped ["one", "factor", "add"] (sp_stepped K)) : Dn P w K mg base 4 "_changed_range" s__changed_range ["name", "one", "times", "shifts"] (sp__changed_range K) := by
  refine .mk' h fun f fd F => F.ok sc__changed_range (fun vs H Q E h => ?_) (fun cdv A outer s H vs Q E hr h => ?_)
  · obtain ⟨x, v, r, t, d, ks, sh, rfl, hv, hf, hz, ht, hd, q⟩ := h
    rfl
  · obtain ⟨x, v, r, t, d, ks, sh, rfl, hv, hf, hz, ht, hd, q⟩ := h
    refine ⟨_, (pss_one (ps_ret (pe_c D_stepped hr (by rfl) (pa_cons (pv 1) (pa_cons (pv 2) (pa_cons (pe_dget2 (hu_of hr) (pv 3) (pv 0) pe_int ⟨rfl, rfl, rfl, rfl⟩) pa_nil)))))), ?_⟩
    obtain ⟨o, dg, eo⟩ := hd.getD x
    refine ⟨_, rfl, _, rfl, _, rfl, d, rfl, hd.isD, _, rfl, o, dg, ?_⟩
    rw [eo]
    exact ⟨v, r, t, sh x, rfl, hv, hf, hz, ht, q⟩
end

end Pk09
namespace Pk09
open PySem PySem.Spec PyProof.Rows L2 Gd
section
variable {P : Program} {w : World} {K : PySem.W.Frag} {mg : Str → Option Value} {base : Heap}
set_option maxHeartbeats 8000000 in
-- changed_rule: level 5; builtins ['tuple']; cells ['shifts', 'times']; slots: 0 rule, 1 times, 2 shifts, 3 conditions, 4 x, 5 y, 6 factor, 7 add, 8 within, 9 changed_add, 10 name, 11 one
theorem ok_changed_rule (h : At K mg "changed_rule" s_changed_rule ["rule", "times", "shifts"]) (D__changed_range : Dn P w K mg base 4 "_changed_range" s__changed_range ["name", "one", "times", "shifts"] (sp__changed_range K)) (m_tuple : mg "tuple" = none) : Dn P w K mg base 5 "changed_rule" s_changed_rule ["rule", "times", "shifts"] (sp_changed_rule K) := by
  refine .mk' h fun f fd F => F.ok sc_changed_rule (fun vs H Q E h => ?_) (fun cdv A outer s H vs Q E hr h => ?_)
  · obtain ⟨v, r, t, d, ks, ws, sh, rfl, hv, B, ht, hs, hd, q⟩ := h
    rfl
  · obtain ⟨v, r, t, d, ks, ws, sh, rfl, hv, B, ht, hs, hd, q⟩ := h
    refine ⟨_, (pss_cons (ps_set (i := 3) sc_changed_rule.nd rfl (.inl rfl) (pe_callTy call_tuple_of (by rfl) m_tuple (by decide +kernel) (pa_cons (pe_lc (own := [("name", 10), ("one", 11)]) (g := (gTup K 2 (gCons (gName 10) (gCons (gName 11) gNil)))) rfl sc_changed_rule.nd (pi_tup (pe_ix ix_tup (pv 0) (pe_un un_neg pe_int) (fun _ _ => rfl))) (blkOk_by (N := ["rule", "times", "shifts", "conditions", "x", "y", "factor", "add", "within", "changed_add", "name", "one"]) (sc := defScope s_changed_rule) (by decide +kernel)) (fun _ _ _ _ _ => (pg_tup (by rfl) (pgs_cons (pg_name (i := 10) sc_changed_rule.nd rfl (.inl rfl)) (pgs_cons (pg_name (i := 11) sc_changed_rule.nd rfl (.inl rfl)) pgs_nil)))) (fun _ _ _ _ _ => pts_nil) (fun _ _ _ _ _ => (pe_tup (pa_cons (pv 10) (pa_cons (pe_c D__changed_range hr (by rfl) (pa_cons (pv 10) (pa_cons (pv 11) (pa_cons (pv 1) (pa_cons (pv 2) pa_nil))))) pa_nil))))) pa_nil)))
      (pss_cons (ps_if (pt_cmpR op_eq (pe_ix ix_tup (pv 0) pe_int (fun _ _ => rfl)) pe_str (nomark _))
        (pss_one (ps_ret (pe_tup (pa_cons pe_str (pa_cons (pe_ix ix_tup (pv 0) pe_int (fun _ _ => rfl)) (pa_cons (pe_c D__changed_range hr (by rfl) (pa_cons (pe_ix ix_tup (pv 0) pe_int (fun _ _ => rfl)) (pa_cons (pe_ix ix_tup (pv 0) pe_int (fun _ _ => rfl)) (pa_cons (pv 1) (pa_cons (pv 2) pa_nil))))) (pa_cons (pv 3) pa_nil)))))))
        pss_nil)
      (pss_cons (ps_asg (pe_slice sl_tup (pv 0) (po_some pe_int) (po_some pe_int)) (pg_tup (by rfl) (pgs_cons (pg_name (i := 4) sc_changed_rule.nd rfl (.inl rfl)) (pgs_cons (pg_name (i := 5) sc_changed_rule.nd rfl (.inl rfl)) (pgs_cons (pg_name (i := 6) sc_changed_rule.nd rfl (.inl rfl)) (pgs_cons (pg_name (i := 7) sc_changed_rule.nd rfl (.inl rfl)) (pgs_cons (pg_name (i := 8) sc_changed_rule.nd rfl (.inl rfl)) pgs_nil)))))))
      (pss_cons (ps_set (i := 9) sc_changed_rule.nd rfl (.inl rfl) (pe_op op_sub (pe_op op_add (pe_op op_mulW (pv 1) (pv 7)) (pe_dget2 (hu_of hr) (pv 2) (pv 4) pe_int ⟨rfl, rfl, rfl, rfl⟩)) (pe_op op_mulW (pv 6) (pe_dget2 (hu_of hr) (pv 2) (pv 5) pe_int ⟨rfl, rfl, rfl, rfl⟩))))
      (pss_one (ps_ret (pe_tup (pa_cons pe_str (pa_cons (pv 4) (pa_cons (pv 5) (pa_cons (pv 6) (pa_cons (pv 9) (pa_cons (pe_c D__changed_range hr (by rfl) (pa_cons (pv 5) (pa_cons (pv 8) (pa_cons (pv 1) (pa_cons (pv 2) pa_nil))))) (pa_cons (pv 3) pa_nil)))))))))))))), ?_⟩
    obtain ⟨p, xs, vr, c, ys, rr, rfl, s, e2, e1, hr2, s2, a2, er⟩ := rl_last hv
    have ly : ys.length = r.cs.length := by rw [dpa_len a2, List.length_map]
    have lc := B.cs
    have szc : ∀ cd ∈ r.cs, RgFit cd.2 ∧ SzR cd.2 := fun cd m => by
      have z : RgB cd.2 := by
        match r, B, m with
        | .set x rg cs, B, m => exact B.rg _ (List.mem_cons_of_mem _ (List.mem_map.mpr ⟨cd, m, rfl⟩))
        | .stp x y f a rg cs, B, m => exact B.rg _ (List.mem_cons_of_mem _ (List.mem_map.mpr ⟨cd, m, rfl⟩))
      exact ⟨z.1, z.sz⟩
    refine ⟨_, rfl, _, rfl, p, _, -1, .ref c, rfl, rfl, s, e1, c, rfl, ⟨_, s2⟩, fun D nD => ?_⟩
    refine lc_tup (K := K) (a := c) (xs := ys) (fun i G => Same H G ∧ ∃ acc, G D = some (.lst acc) ∧ DpAll K G acc (((r.cs.take i).map (movC t sh)).map cdD)) ⟨Same.new nD, [], upd_same, .nil⟩ (fun i G _ h => SqT.same h.1 s2) ?_ ?_
    · rintro i z G ez ⟨sm, acc, oD, da⟩
      obtain ⟨cd, ec, dz⟩ := dpa_map_get (dpa_same sm a2) ez
      obtain ⟨pc, vr2, rfl, sc, hr3⟩ := cd_inv dz
      obtain ⟨f1, f2⟩ := szc cd (List.mem_of_getElem? ec)
      have la : acc.length ≤ i := by
        rw [dpa_len da, List.length_map, List.length_map, List.length_take]
        omega
      have li : i < r.cs.length := (List.getElem?_eq_some_iff.mp ec).1
      refine ⟨pc, _, rfl, sc, rfl, _, _, rfl, _, _, rfl, rfl, rfl, ?_⟩
      refine ⟨_, rfl, _, rfl, _, rfl, _, rfl, _, rfl, cd.1, vr2, cd.2, t, d, ks, sh, rfl, hr3, f1, f2, ht, hd.same sm, fun v' G1 k1 hv' => ?_⟩
      refine ⟨by show 2 ≤ sizeLine; decide, fun T nT => ?_⟩
      have sT := Same.new (o := .tup [.str cd.1, v']) nT
      have oT : upd G1 T (.tup [.str cd.1, v']) T = some (.tup [.str cd.1, v']) := upd_same
      generalize upd G1 T (HO.tup ([.str cd.1, v'] : List V)) = G2 at sT oT
      have k2 := k1.trans sT
      have oD2 := k2 _ _ oD
      refine ⟨acc, oD2, Nat.lt_of_le_of_lt (by omega : acc.length ≤ 1000) (by decide), fun b o e => ?_, acc ++ [.ref T], upd_same, ?_⟩
      · rw [upd_ne (ne_of_none e nD)]
        exact k2 _ _ (sm _ _ e)
      · have kD : Kl D G2 (upd G2 D (.lst (acc ++ [.ref T]))) := ⟨⟨_, oD2⟩, Kp.at⟩
        rw [take_succ ec, List.map_append, List.map_append]
        exact dpa_app (dpa_kl kD (dpa_same k2 da) (noL_map _)) (dpa_one (dp_kl kD (.tup (.inl (.inl oT)) (.cons (.str _) (.cons (dp_rg (hv'.same sT)) .nil))) (noL_cd (movC t sh cd))))
    rintro G ⟨sm, acc, oD, da⟩
    rw [ly, List.take_length] at da
    refine ⟨D, acc, rfl, .inl ⟨.inl (.inl oD), fun L nL => ?_⟩⟩
    have sL : Same G (upd G L (.tup acc)) := Same.new nL
    have oL : upd G L (.tup acc) L = some (.tup acc) := upd_same
    generalize upd G L (HO.tup acc) = G1 at sL oL
    have k1 := sm.trans sL
    have da := dpa_same sL da
    have hd := hd.same k1
    match r, hv, B, szc, da, q with
    | .set x rg cs, hv, B, szc, da, q =>
      obtain ⟨p', vr', q', ys', e_, s', hrg, _, _⟩ := set_inv hv
      cases e_
      have rb := B.rg rg List.mem_cons_self
      refine ⟨_, rfl, p, _, 0, _, rfl, rfl, SqT.same k1 s', atI_nat (j := 0) rfl, rfl, true, sEqT, iteT ?_⟩
      refine ⟨_, rfl, p, _, 1, _, rfl, rfl, SqT.same k1 s', atI_nat (j := 1) rfl, _, rfl, p, _, 1, _, rfl, rfl, SqT.same k1 s', atI_nat (j := 1) rfl, _, rfl, p, _, 2, _, rfl, rfl, SqT.same k1 s', atI_nat (j := 2) rfl, _, rfl, _, rfl, x, vr', rg, t, d, ks, sh, rfl, hrg.same k1, rb.1, rb.sz, ht, hd, fun v' G2 k2 hv' => ?_⟩
      refine ⟨_, rfl, by show 4 ≤ sizeLine; decide, fun T nT => ?_⟩
      have sT := Same.new (o := .tup [.str "set", .str x, v', .ref L]) nT
      have k3 := k2.trans sT
      exact q _ _ (k1.trans k3) (.tup (.inl (.inl upd_same)) (.cons (.str _) (.cons (.str _) (.cons (dp_rg (hv'.same sT)) (.cons (.tup (.inl (.inl (k3 _ _ oL))) (dpa_same k3 da)) .nil)))))
    | .stp x y f a rg cs, hv, B, szc, da, q =>
      obtain ⟨p', vr', q', ys', e_, s', hrg, _, _⟩ := stp_inv hv
      cases e_
      have rb := B.rg rg List.mem_cons_self
      have sb := B.sb _ _ _ _ _ _ rfl
      refine ⟨_, rfl, p, _, 0, _, rfl, rfl, SqT.same k1 s', atI_nat (j := 0) rfl, rfl, false, (by decide +kernel), iteF ?_⟩
      refine ⟨_, rfl, 1, rfl, 6, rfl, p, _, rfl, SqT.same k1 s', (fun z => absurd (show (1 : Nat) = 0 from z.1) (by decide)), fun u nu => ?_⟩
      have su : Same G1 (upd G1 u (.tup (cutV [V.str "step", .str x, .str y, .int f, .int a, vr', .ref q'] (some 1) (some 6)))) := Same.new nu
      have ou : upd G1 u (.tup (cutV [V.str "step", .str x, .str y, .int f, .int a, vr', .ref q'] (some 1) (some 6))) u = some (.tup [.str x, .str y, .int f, .int a, vr']) := upd_same
      generalize upd G1 u (.tup (cutV [V.str "step", .str x, .str y, .int f, .int a, vr', .ref q'] (some 1) (some 6))) = G2 at su ou
      have hd := hd.same su
      have k2 := k1.trans su
      refine ⟨u, _, rfl, .inl (.inl ou), rfl, _, _, rfl, _, _, rfl, _, _, rfl, _, _, rfl, _, _, rfl, rfl, ?_⟩
      obtain ⟨o1, dg1, eo1⟩ := hd.getD x
      obtain ⟨o2, dg2, eo2⟩ := hd.getD y
      have m1 : CMulW t a := wide_mul ht sb.2 (by decide) (by decide) (by decide)
      have m2 : CMulW f (sh y) := wide_mul (Nat.lt_of_le_of_lt sb.1 (by decide : 100 < 2 ^ 7)) (hs y) (by decide) (by decide) (by decide)
      refine ⟨_, rfl, _, rfl, _, _, rfl, rfl, m1, _, rfl, d, rfl, hd.isD, _, rfl, o1, dg1, _, _, rfl, eo1, _, rfl, _, rfl, d, rfl, hd.isD, _, rfl, o2, dg2, _, _, rfl, eo2, m2, _, _, rfl, rfl, ?_⟩
      refine ⟨_, rfl, _, rfl, _, rfl, _, rfl, _, rfl, _, rfl, _, rfl, _, rfl, y, vr', rg, t, d, ks, sh, rfl, hrg.same k2, rb.1, rb.sz, ht, hd, fun v' G3 k3 hv' => ?_⟩
      refine ⟨_, rfl, by show 7 ≤ sizeLine; decide, fun T nT => ?_⟩
      have sT := Same.new (o := .tup [.str "step", .str x, .str y, .int f, .int (t * a + sh x - f * sh y), v', .ref L]) nT
      have k4 := k3.trans sT
      exact q _ _ (k2.trans k4) (.tup (.inl (.inl upd_same)) (.cons (.str _) (.cons (.str _) (.cons (.str _) (.cons (.int _) (.cons (.int _) (.cons (dp_rg (hv'.same sT)) (.cons (.tup (.inl (.inl ((su.trans k4) _ _ oL))) (dpa_same (su.trans k4) da)) .nil))))))))
end

end Pk09
namespace Pk09
open PySem PySem.Spec PyProof.Rows L2 Gd
section
variable {P : Program} {w : World} {K : PySem.W.Frag} {mg : Str → Option Value} {base : Heap}
set_option maxHeartbeats 8000000 in
-- System._changed: level 6; builtins []; cells ['shifts', 'times']; slots: 0 self, 1 times, 2 shifts, 3 rule
theorem ok_System__changed {C : Addr} (T : SysT K mg C) (h : AtM K C "_changed" "System._changed" s_System__changed ["self", "times", "shifts"]) (D_System___init__ : Mt P w K mg base 4 C "__init__" "System.__init__" s_System___init__ ["self", "names", "rules"] (sp_System___init__ K C)) (D_changed_rule : Dn P w K mg base 5 "changed_rule" s_changed_rule ["rule", "times", "shifts"] (sp_changed_rule K)) : Mt P w K mg base 6 C "_changed" "System._changed" s_System__changed ["self", "times", "shifts"] (sp_System__changed K C) := by
  refine .mk' h fun f fd F => F.ok sc_System__changed (fun vs H Q E h => ?_) (fun cdv A outer s H vs Q E hr h => ?_)
  · obtain ⟨a, p, b, ns, rs, t, d, ks, sh, rfl, ss, so, Y, Y2, ht, hs, hd, q⟩ := h
    rfl
  · obtain ⟨a, p, b, ns, rs, t, d, ks, sh, rfl, ss, so, Y, Y2, ht, hs, hd, q⟩ := h
    refine ⟨_, (pss_one (ps_ret (pe_new T.ck D_System___init__ hr (by rfl) (pa_cons (pe_fld (pv 0) rfl) (pa_cons (pe_lc (own := [("rule", 3)]) (g := gName 3) rfl sc_System__changed.nd (pi_list (pe_fld (pv 0) rfl)) (blkOk_by (N := ["self", "times", "shifts", "rule"]) (sc := defScope s_System__changed) (by decide +kernel)) (fun _ _ _ _ _ => pg_name (i := 3) sc_System__changed.nd rfl (Or.inl rfl)) (fun _ _ _ _ _ => pts_nil) (fun _ _ _ _ _ => (pe_c D_changed_rule hr (by rfl) (pa_cons (pv 3) (pa_cons (pv 1) (pa_cons (pv 2) pa_nil)))))) pa_nil))))), ?_⟩
    obtain ⟨dx, fs, xs, h1, h2, h3, h4, h5, h6, h7⟩ := ss
    have lx : xs.length = rs.length := by rw [dpa_len h6, List.length_map]
    have lr := Y.lr
    refine ⟨_, rfl, a, C, dx, fs, _, rfl, h1, T.ck.cl, T.nN, h2, ?_⟩
    refine ⟨_, rfl, a, C, dx, fs, _, rfl, h1, T.ck.cl, T.nR, h3, b, rfl, ⟨_, .inl (.inl h5)⟩, fun D nD => ?_⟩
    refine lc_list (K := K) (a := b) (xs := xs) (fun i G => Same H G ∧ ∃ acc, G D = some (.lst acc) ∧ DpAll K G acc (((rs.take i).map (movR t sh)).map Rl.d)) ⟨Same.new nD, [], upd_same, .nil⟩ (fun i G _ h => .inl (.inl (h.1 _ _ h5))) ?_ ?_
    · rintro i z G ez ⟨sm, acc, oD, da⟩
      obtain ⟨r, er, dz⟩ := dpa_map_get (dpa_same sm h6) ez
      have li : i < rs.length := (List.getElem?_eq_some_iff.mp er).1
      have la : acc.length ≤ i := by
        rw [dpa_len da, List.length_map, List.length_map, List.length_take]
        omega
      refine ⟨rfl, ?_⟩
      refine ⟨_, rfl, _, rfl, _, rfl, z, r, t, d, ks, ns, sh, rfl, dz, Y.rl r (List.mem_of_getElem? er), ht, hs, hd.same sm, fun v' G1 k1 dv => ?_⟩
      have oD2 := k1 _ _ oD
      refine ⟨acc, oD2, Nat.lt_of_le_of_lt (by omega : acc.length ≤ 1000) (by decide), fun b o e => ?_, acc ++ [v'], upd_same, ?_⟩
      · rw [upd_ne (ne_of_none e nD)]
        exact k1 _ _ (sm _ _ e)
      · have kD : Kl D G1 (upd G1 D (.lst (acc ++ [v']))) := ⟨⟨_, oD2⟩, Kp.at⟩
        rw [take_succ er, List.map_append, List.map_append]
        exact dpa_app (dpa_kl kD (dpa_same k1 da) (noL_rls _)) (dpa_one (dp_kl kD dv (noL_rl _)))
    rintro G ⟨sm, acc, oD, da⟩
    rw [lx, List.take_length] at da
    refine mk_sys (.inl (.inl (sm _ _ h4))) (.inl (.inl oD)) da Y2.okS (fun o G2 p' q' ss' pm so' s2 no np nq at' => ?_)
    obtain rfl := sorted_unique pm so' so
    have old : ∀ {c : Addr}, G c = none → H c = none := fun {c} e => by
      cases z : H c with
      | none => rfl
      | some u => rw [sm _ _ z] at e; cases e
    exact q G2 o p' q' (sm.trans s2) (old no) (old np) (old nq) at'
end

end Pk09
namespace Pk09
open PySem PySem.Spec PyProof.Rows L2 Gd
section
variable {P : Program} {w : World} {K : PySem.W.Frag} {mg : Str → Option Value} {base : Heap}
set_option maxHeartbeats 8000000 in
-- renamed_rule: level 1; builtins ['tuple']; cells ['names']; slots: 0 rule, 1 names, 2 conditions, 3 x, 4 y, 5 factor, 6 add, 7 within, 8 name, 9 one
theorem ok_renamed_rule (h : At K mg "renamed_rule" s_renamed_rule ["rule", "names"]) (m_tuple : mg "tuple" = none) : Dn P w K mg base 1 "renamed_rule" s_renamed_rule ["rule", "names"] (sp_renamed_rule K) := by
  refine .mk' h fun f fd F => F.ok sc_renamed_rule (fun vs H Q E h => ?_) (fun cdv A outer s H vs Q E hr h => ?_)
  · obtain ⟨v, r, d, ws, φ, rfl, hv, nm, lc, hd, q⟩ := h
    rfl
  · obtain ⟨v, r, d, ws, φ, rfl, hv, nm, lc, hd, q⟩ := h
    refine ⟨_, (pss_cons (ps_set (i := 2) sc_renamed_rule.nd rfl (.inl rfl) (pe_callTy call_tuple_of (by rfl) m_tuple (by decide +kernel) (pa_cons (pe_lc (own := [("name", 8), ("one", 9)]) (g := (gTup K 2 (gCons (gName 8) (gCons (gName 9) gNil)))) rfl sc_renamed_rule.nd (pi_tup (pe_ix ix_tup (pv 0) (pe_un un_neg pe_int) (fun _ _ => rfl))) (blkOk_by (N := ["rule", "names", "conditions", "x", "y", "factor", "add", "within", "name", "one"]) (sc := defScope s_renamed_rule) (by decide +kernel)) (fun _ _ _ _ _ => (pg_tup (by rfl) (pgs_cons (pg_name (i := 8) sc_renamed_rule.nd rfl (.inl rfl)) (pgs_cons (pg_name (i := 9) sc_renamed_rule.nd rfl (.inl rfl)) pgs_nil)))) (fun _ _ _ _ _ => pts_nil) (fun _ _ _ _ _ => (pe_tup (pa_cons (pe_dget (hu_of hr) (pv 1) (pv 8) (fun _ _ => rfl)) (pa_cons (pv 9) pa_nil))))) pa_nil)))
      (pss_cons (ps_if (pt_cmpR op_eq (pe_ix ix_tup (pv 0) pe_int (fun _ _ => rfl)) pe_str (nomark _))
        (pss_one (ps_ret (pe_tup (pa_cons pe_str (pa_cons (pe_dget (hu_of hr) (pv 1) (pe_ix ix_tup (pv 0) pe_int (fun _ _ => rfl)) (fun _ _ => rfl)) (pa_cons (pe_ix ix_tup (pv 0) pe_int (fun _ _ => rfl)) (pa_cons (pv 2) pa_nil)))))))
        pss_nil)
      (pss_cons (ps_asg (pe_slice sl_tup (pv 0) (po_some pe_int) (po_some pe_int)) (pg_tup (by rfl) (pgs_cons (pg_name (i := 3) sc_renamed_rule.nd rfl (.inl rfl)) (pgs_cons (pg_name (i := 4) sc_renamed_rule.nd rfl (.inl rfl)) (pgs_cons (pg_name (i := 5) sc_renamed_rule.nd rfl (.inl rfl)) (pgs_cons (pg_name (i := 6) sc_renamed_rule.nd rfl (.inl rfl)) (pgs_cons (pg_name (i := 7) sc_renamed_rule.nd rfl (.inl rfl)) pgs_nil)))))))
      (pss_one (ps_ret (pe_tup (pa_cons pe_str (pa_cons (pe_dget (hu_of hr) (pv 1) (pv 3) (fun _ _ => rfl)) (pa_cons (pe_dget (hu_of hr) (pv 1) (pv 4) (fun _ _ => rfl)) (pa_cons (pv 5) (pa_cons (pv 6) (pa_cons (pv 7) (pa_cons (pv 2) pa_nil))))))))))))), ?_⟩
    obtain ⟨p, xs, vr, c, ys, rr, rfl, s, e2, e1, hr2, s2, a2, er⟩ := rl_last hv
    have ly : ys.length = r.cs.length := by rw [dpa_len a2, List.length_map]
    have cin : ∀ cd ∈ r.cs, cd.1 ∈ ws := fun cd m => by
      match r, nm, m with
      | .set x rg cs, nm, m => exact nm _ (List.mem_cons_of_mem _ (List.mem_map.mpr ⟨cd, m, rfl⟩))
      | .stp x y f a rg cs, nm, m => exact nm _ (List.mem_cons_of_mem _ (List.mem_cons_of_mem _ (List.mem_map.mpr ⟨cd, m, rfl⟩)))
    refine ⟨_, rfl, _, rfl, p, _, -1, .ref c, rfl, rfl, s, e1, c, rfl, ⟨_, s2⟩, fun D nD => ?_⟩
    refine lc_tup (K := K) (a := c) (xs := ys) (fun i G => Same H G ∧ ∃ acc, G D = some (.lst acc) ∧ DpAll K G acc (((r.cs.take i).map (renC φ)).map cdD)) ⟨Same.new nD, [], upd_same, .nil⟩ (fun i G _ h => SqT.same h.1 s2) ?_ ?_
    · rintro i z G ez ⟨sm, acc, oD, da⟩
      obtain ⟨cd, ec, dz⟩ := dpa_map_get (dpa_same sm a2) ez
      obtain ⟨pc, vr2, rfl, sc, hr3⟩ := cd_inv dz
      have la : acc.length ≤ i := by
        rw [dpa_len da, List.length_map, List.length_map, List.length_take]
        omega
      have li : i < r.cs.length := (List.getElem?_eq_some_iff.mp ec).1
      refine ⟨pc, _, rfl, sc, rfl, _, _, rfl, _, _, rfl, rfl, rfl, ?_⟩
      refine ⟨_, rfl, _, rfl, d, _, rfl, (hd.same sm).get (cin cd (List.mem_of_getElem? ec)), ?_⟩
      refine ⟨_, rfl, by show 2 ≤ sizeLine; decide, fun T nT => ?_⟩
      have sT := Same.new (o := .tup [.str (φ cd.1), vr2]) nT
      have oT : upd G T (.tup [.str (φ cd.1), vr2]) T = some (.tup [.str (φ cd.1), vr2]) := upd_same
      generalize upd G T (HO.tup ([.str (φ cd.1), vr2] : List V)) = G2 at sT oT
      have oD2 := sT _ _ oD
      refine ⟨acc, oD2, Nat.lt_of_le_of_lt (by omega : acc.length ≤ 1000) (by decide), fun b o e => ?_, acc ++ [.ref T], upd_same, ?_⟩
      · rw [upd_ne (ne_of_none e nD)]
        exact sT _ _ (sm _ _ e)
      · have kD : Kl D G2 (upd G2 D (.lst (acc ++ [.ref T]))) := ⟨⟨_, oD2⟩, Kp.at⟩
        rw [take_succ ec, List.map_append, List.map_append]
        exact dpa_app (dpa_kl kD (dpa_same sT da) (noL_map _)) (dpa_one (dp_kl kD (.tup (.inl (.inl oT)) (.cons (.str _) (.cons (dp_rg (hr3.same sT)) .nil))) (noL_cd (renC φ cd))))
    rintro G ⟨sm, acc, oD, da⟩
    rw [ly, List.take_length] at da
    refine ⟨D, acc, rfl, .inl ⟨.inl (.inl oD), fun L nL => ?_⟩⟩
    have sL : Same G (upd G L (.tup acc)) := Same.new nL
    have oL : upd G L (.tup acc) L = some (.tup acc) := upd_same
    generalize upd G L (HO.tup acc) = G1 at sL oL
    have k1 := sm.trans sL
    have da := dpa_same sL da
    have hd := hd.same k1
    match r, hv, nm, da, q with
    | .set x rg cs, hv, nm, da, q =>
      obtain ⟨p', vr', q', ys', e_, s', hrg, _, _⟩ := set_inv hv
      cases e_
      refine ⟨_, rfl, p, _, 0, _, rfl, rfl, SqT.same k1 s', atI_nat (j := 0) rfl, rfl, true, sEqT, iteT ?_⟩
      refine ⟨_, rfl, _, rfl, p, _, 1, _, rfl, rfl, SqT.same k1 s', atI_nat (j := 1) rfl, d, _, rfl, hd.get (nm x List.mem_cons_self), _, rfl, p, _, 2, _, rfl, rfl, SqT.same k1 s', atI_nat (j := 2) rfl, _, rfl, by show 4 ≤ sizeLine; decide, fun T nT => ?_⟩
      have sT := Same.new (o := .tup [.str "set", .str (φ x), vr', .ref L]) nT
      exact q _ _ (k1.trans sT) (.tup (.inl (.inl upd_same)) (.cons (.str _) (.cons (.str _) (.cons (dp_rg ((hrg.same k1).same sT)) (.cons (.tup (.inl (.inl (sT _ _ oL))) (dpa_same sT da)) .nil)))))
    | .stp x y f a rg cs, hv, nm, da, q =>
      obtain ⟨p', vr', q', ys', e_, s', hrg, _, _⟩ := stp_inv hv
      cases e_
      refine ⟨_, rfl, p, _, 0, _, rfl, rfl, SqT.same k1 s', atI_nat (j := 0) rfl, rfl, false, (by decide +kernel), iteF ?_⟩
      refine ⟨_, rfl, 1, rfl, 6, rfl, p, _, rfl, SqT.same k1 s', (fun z => absurd (show (1 : Nat) = 0 from z.1) (by decide)), fun u nu => ?_⟩
      have su : Same G1 (upd G1 u (.tup (cutV [V.str "step", .str x, .str y, .int f, .int a, vr', .ref q'] (some 1) (some 6)))) := Same.new nu
      have ou : upd G1 u (.tup (cutV [V.str "step", .str x, .str y, .int f, .int a, vr', .ref q'] (some 1) (some 6))) u = some (.tup [.str x, .str y, .int f, .int a, vr']) := upd_same
      generalize upd G1 u (.tup (cutV [V.str "step", .str x, .str y, .int f, .int a, vr', .ref q'] (some 1) (some 6))) = G2 at su ou
      have hd := hd.same su
      have k2 := k1.trans su
      refine ⟨u, _, rfl, .inl (.inl ou), rfl, _, _, rfl, _, _, rfl, _, _, rfl, _, _, rfl, _, _, rfl, rfl, ?_⟩
      refine ⟨_, rfl, _, rfl, d, _, rfl, hd.get (nm x List.mem_cons_self), _, rfl, _, rfl, d, _, rfl, hd.get (nm y (List.mem_cons_of_mem _ List.mem_cons_self)), _, rfl, _, rfl, _, rfl, _, rfl, by show 7 ≤ sizeLine; decide, fun T nT => ?_⟩
      have sT := Same.new (o := .tup [.str "step", .str (φ x), .str (φ y), .int f, .int a, vr', .ref L]) nT
      exact q _ _ (k2.trans sT) (.tup (.inl (.inl upd_same)) (.cons (.str _) (.cons (.str _) (.cons (.str _) (.cons (.int _) (.cons (.int _) (.cons (dp_rg ((hrg.same k2).same sT)) (.cons (.tup (.inl (.inl ((su.trans sT) _ _ oL))) (dpa_same (su.trans sT) da)) .nil))))))))
end

end Pk09
namespace Pk09
open PySem PySem.Spec PyProof.Rows L2 Gd
section
variable {P : Program} {w : World} {K : PySem.W.Frag} {mg : Str → Option Value} {base : Heap}
set_option maxHeartbeats 8000000 in
-- RangeError.__init__: level 1; builtins []; cells []; slots: 0 self, 1 value
theorem ok_RangeError___init__ {fI : Addr} (h : AtI K fI "RangeError.__init__" s_RangeError___init__ ["self", "value"]) : DnI P w K mg base 1 fI "RangeError.__init__" s_RangeError___init__ ["self", "value"] (spIni K) := by
  refine .mk' h fun f fd F => F.ok sc_RangeError___init__ (fun vs H Q E h => ?_) (fun cdv A outer s H vs Q E hr h => ?_)
  · obtain ⟨a, c, v, rfl, ox, nv, ea, q⟩ := h
    rfl
  · obtain ⟨a, c, v, rfl, ox, nv, ea, q⟩ := h
    refine ⟨_, (pss_one (ps_ost (pv 0) (pv 1) rfl)), ?_⟩
    exact ⟨_, rfl, _, rfl, a, c, rfl, ox, nv, .inl ⟨ea, fun dx n ne => q dx n ne⟩⟩
end

end Pk09
namespace Pk09
open PySem PySem.Spec PyProof.Rows L2 Gd
section
variable {P : Program} {w : World} {K : PySem.W.Frag} {mg : Str → Option Value} {base : Heap}
set_option maxHeartbeats 8000000 in
-- _law_caught: level 1; builtins ['ValueError', 'isinstance', 'len']; cells []; slots: 0 e, 1 some, 2 words, 3 word, 4 so
theorem ok__law_caught {c0 c1 c2 c3 c4 c5 c6 c7 c8 c9 fI : Addr} (X : ErrT K mg [c0, c1, c2, c3, c4, c5, c6, c7, c8, c9] ["RangeError", "InvalidRange", "InvalidName", "InvalidSystem", "InvalidRule", "UnknownName", "InvalidNumber", "InvalidMove", "NothingToUndo", "Unreadable"] fI) (h : At K mg "_law_caught" s__law_caught ["e"]) (m_ValueError : mg "ValueError" = none) (m_isinstance : mg "isinstance" = none) (m_len : mg "len" = none) : DnE P w K mg base 1 "_law_caught" s__law_caught ["e"] (sp__law_caught K [c0, c1, c2, c3, c4, c5, c6, c7, c8, c9]) := by
  refine .mk' h fun f fd F => okE F sc__law_caught (fun a cls d vs H Q E h => ?_) (fun cdv A outer s H vs Q E p hot hr h => ?_)
  · obtain ⟨i, c, dd, v, rfl, hc, hd, i1, i9, ec, hv, q⟩ := h
    rfl
  · obtain ⟨i, c, dd, v, rfl, hc, hd, i1, i9, ec, hv, q⟩ := h
    refine ⟨_, (pss_cons (ps_set (i := 1) sc__law_caught.nd rfl (.inl rfl) (pe_lst (pa_cons (pe_tup (pa_cons pe_str (pa_cons (pe_callB (call_isXP List.mem_cons_self hot X.all) (by rfl) m_isinstance (by decide +kernel) (pa_cons (pv 0) (pa_cons (pe_glob (v := .ref c1) rfl (X.t 1 _ _ rfl rfl).mg_ rfl) pa_nil))) pa_nil))) (pa_cons (pe_tup (pa_cons pe_str (pa_cons (pe_callB (call_isXP List.mem_cons_self hot X.all) (by rfl) m_isinstance (by decide +kernel) (pa_cons (pv 0) (pa_cons (pe_glob (v := .ref c2) rfl (X.t 2 _ _ rfl rfl).mg_ rfl) pa_nil))) pa_nil))) pa_nil))))
      (pss_cons (ps_set (i := 1) sc__law_caught.nd rfl (.inl rfl) (pe_op op_cat (pv 1) (pe_lst (pa_cons (pe_tup (pa_cons pe_str (pa_cons (pe_callB (call_isXP List.mem_cons_self hot X.all) (by rfl) m_isinstance (by decide +kernel) (pa_cons (pv 0) (pa_cons (pe_glob (v := .ref c3) rfl (X.t 3 _ _ rfl rfl).mg_ rfl) pa_nil))) pa_nil))) (pa_cons (pe_tup (pa_cons pe_str (pa_cons (pe_callB (call_isXP List.mem_cons_self hot X.all) (by rfl) m_isinstance (by decide +kernel) (pa_cons (pv 0) (pa_cons (pe_glob (v := .ref c4) rfl (X.t 4 _ _ rfl rfl).mg_ rfl) pa_nil))) pa_nil))) pa_nil)))))
      (pss_cons (ps_set (i := 1) sc__law_caught.nd rfl (.inl rfl) (pe_op op_cat (pv 1) (pe_lst (pa_cons (pe_tup (pa_cons pe_str (pa_cons (pe_callB (call_isXP List.mem_cons_self hot X.all) (by rfl) m_isinstance (by decide +kernel) (pa_cons (pv 0) (pa_cons (pe_glob (v := .ref c5) rfl (X.t 5 _ _ rfl rfl).mg_ rfl) pa_nil))) pa_nil))) (pa_cons (pe_tup (pa_cons pe_str (pa_cons (pe_callB (call_isXP List.mem_cons_self hot X.all) (by rfl) m_isinstance (by decide +kernel) (pa_cons (pv 0) (pa_cons (pe_glob (v := .ref c7) rfl (X.t 7 _ _ rfl rfl).mg_ rfl) pa_nil))) pa_nil))) pa_nil)))))
      (pss_cons (ps_set (i := 1) sc__law_caught.nd rfl (.inl rfl) (pe_op op_cat (pv 1) (pe_lst (pa_cons (pe_tup (pa_cons pe_str (pa_cons (pe_callB (call_isXP List.mem_cons_self hot X.all) (by rfl) m_isinstance (by decide +kernel) (pa_cons (pv 0) (pa_cons (pe_glob (v := .ref c8) rfl (X.t 8 _ _ rfl rfl).mg_ rfl) pa_nil))) pa_nil))) (pa_cons (pe_tup (pa_cons pe_str (pa_cons (pe_callB (call_isXP List.mem_cons_self hot X.all) (by rfl) m_isinstance (by decide +kernel) (pa_cons (pv 0) (pa_cons (pe_glob (v := .ref c9) rfl (X.t 9 _ _ rfl rfl).mg_ rfl) pa_nil))) pa_nil))) pa_nil)))))
      (pss_cons (ps_set (i := 1) sc__law_caught.nd rfl (.inl rfl) (pe_op op_cat (pv 1) (pe_lst (pa_cons (pe_tup (pa_cons pe_str (pa_cons (pe_callB (call_isXP List.mem_cons_self hot X.all) (by rfl) m_isinstance (by decide +kernel) (pa_cons (pv 0) (pa_cons (pe_glob (v := .ref c6) rfl (X.t 6 _ _ rfl rfl).mg_ rfl) pa_nil))) pa_nil))) pa_nil))))
      (pss_cons (ps_setLcH (i := 2) (own := [("word", 3), ("so", 4)]) (g := (gTup K 2 (gCons (gName 3) (gCons (gName 4) gNil)))) hot List.mem_cons_self sc__law_caught.nd rfl rfl (sw_true rfl rfl rfl (by decide +kernel)) (pv 1) (blkOk_by (N := ["e", "some", "words", "word", "so"]) (sc := defScope s__law_caught) (by decide +kernel)) (fun _ _ _ _ _ hb => (pg_tupH hb (pgs_cons (pg_name (i := 3) sc__law_caught.nd rfl (.inl rfl)) (pgs_cons (pg_name (i := 4) sc__law_caught.nd rfl (.inl rfl)) pgs_nil)))) (fun _ _ _ _ _ => pts_one (pt_val (pv 4))) (fun _ _ _ _ _ => (pv 3)))
      (pss_one (ps_ret (pe_ifExp (PW.pt (pw_and (pt_cmpR op_eq (pe_callB call_len_seq (by rfl) m_len PySem.boot_len (pa_cons (pv 2) pa_nil)) pe_int (nomark _)) (pw_and1 (pt_val (pe_callB (call_isXP List.mem_cons_self hot X.all) (by rfl) m_isinstance (by decide +kernel) (pa_cons (pv 0) (pa_cons (pe_bltn (v := .ty "ValueError") (u := .type "ValueError") (by rfl) m_ValueError (by decide +kernel) rfl) pa_nil))))))) (pe_tup (pa_cons (pe_ix ix_list (pv 2) pe_int (fun _ _ => rfl)) (pa_cons (pe_valP List.mem_cons_self hot X.all (pv 0)) pa_nil))) pe_str))))))))), ?_⟩
    have ep : ErrP H p c v := ⟨dd, hc, hd, hv⟩
    have mc : c ∈ [c0, c1, c2, c3, c4, c5, c6, c7, c8, c9] := List.mem_of_getElem? ec
    have kP : ∀ (j : Nat) D, 1 ≤ j → [c0, c1, c2, c3, c4, c5, c6, c7, c8, c9][j]? = some D → PySem.W.kitOne K (.ref c) (.ref D) = some (decide (i = j)) := fun j D j1 eD => by
      rw [X.sub i j _ _ ec eD]
      exact congrArg some (decide_eq_decide.mpr ⟨fun z => z.elim id (fun q => absurd q (by omega)), .inl⟩)
    have k0 : Same H H := Same.refl H
    refine ⟨_, rfl, c, v, _, _, _, rfl, mc, ep.same k0, fun u hu => hu, kP 1 _ (by decide) rfl, by show 2 ≤ sizeLine; decide, fun t1 n1 => ?_⟩
    have s1 := Same.new (o := .tup [.str "range", .bl (decide (i = 1))]) n1
    have o1 : upd H t1 (.tup [.str "range", .bl (decide (i = 1))]) t1 = some (.tup [.str "range", .bl (decide (i = 1))]) := upd_same
    generalize upd H t1 (.tup [V.str "range", .bl (decide (i = 1))]) = G1 at s1 o1
    have k1 : Same H G1 := k0.trans s1
    have P1 : PrsAt G1 [t1] [("range", decide (i = 1))] := .cons o1 .nil
    refine ⟨_, rfl, c, v, _, _, _, rfl, mc, ep.same k1, fun u hu => hu, kP 2 _ (by decide) rfl, by show 2 ≤ sizeLine; decide, fun t2 n2 => ?_⟩
    have s2 := Same.new (o := .tup [.str "name", .bl (decide (i = 2))]) n2
    have o2 : upd G1 t2 (.tup [.str "name", .bl (decide (i = 2))]) t2 = some (.tup [.str "name", .bl (decide (i = 2))]) := upd_same
    generalize upd G1 t2 (.tup [V.str "name", .bl (decide (i = 2))]) = G2 at s2 o2
    have k2 : Same H G2 := k1.trans s2
    have P2 := PrsAt.same s2 P1
    replace P2 := P2.app (show PrsAt G2 [t2] [("name", decide (i = 2))] from .cons o2 .nil)
    refine ⟨by show 2 ≤ sizeLine; decide, fun l0 nl0 => ?_⟩
    have s3 := Same.new (o := .lst [.ref t1, .ref t2]) nl0
    have ol0 : upd G2 l0 (.lst [.ref t1, .ref t2]) l0 = some (.lst [.ref t1, .ref t2]) := upd_same
    generalize upd G2 l0 (.lst [V.ref t1, .ref t2]) = G3 at s3 ol0
    have k3 : Same H G3 := k2.trans s3
    have P3 := PrsAt.same s3 P2
    refine ⟨_, rfl, _, rfl, c, v, _, _, _, rfl, mc, ep.same k3, fun u hu => hu, kP 3 _ (by decide) rfl, by show 2 ≤ sizeLine; decide, fun t3 n3 => ?_⟩
    have s4 := Same.new (o := .tup [.str "system", .bl (decide (i = 3))]) n3
    have o3 : upd G3 t3 (.tup [.str "system", .bl (decide (i = 3))]) t3 = some (.tup [.str "system", .bl (decide (i = 3))]) := upd_same
    generalize upd G3 t3 (.tup [V.str "system", .bl (decide (i = 3))]) = G4 at s4 o3
    have k4 : Same H G4 := k3.trans s4
    have P4 := PrsAt.same s4 P3
    replace P4 := P4.app (show PrsAt G4 [t3] [("system", decide (i = 3))] from .cons o3 .nil)
    have w4 := s4 _ _ ol0
    refine ⟨_, rfl, c, v, _, _, _, rfl, mc, ep.same k4, fun u hu => hu, kP 4 _ (by decide) rfl, by show 2 ≤ sizeLine; decide, fun t4 n4 => ?_⟩
    have s5 := Same.new (o := .tup [.str "rule", .bl (decide (i = 4))]) n4
    have o4 : upd G4 t4 (.tup [.str "rule", .bl (decide (i = 4))]) t4 = some (.tup [.str "rule", .bl (decide (i = 4))]) := upd_same
    generalize upd G4 t4 (.tup [V.str "rule", .bl (decide (i = 4))]) = G5 at s5 o4
    have k5 : Same H G5 := k4.trans s5
    have P5 := PrsAt.same s5 P4
    replace P5 := P5.app (show PrsAt G5 [t4] [("rule", decide (i = 4))] from .cons o4 .nil)
    have w5 := s5 _ _ w4
    refine ⟨by show 2 ≤ sizeLine; decide, fun l1 nl1 => ?_⟩
    have s6 := Same.new (o := .lst [.ref t3, .ref t4]) nl1
    have ol1 : upd G5 l1 (.lst [.ref t3, .ref t4]) l1 = some (.lst [.ref t3, .ref t4]) := upd_same
    generalize upd G5 l1 (.lst [V.ref t3, .ref t4]) = G6 at s6 ol1
    have k6 : Same H G6 := k5.trans s6
    have P6 := PrsAt.same s6 P5
    have w6 := s6 _ _ w5
    refine ⟨_, _, _, _, rfl, rfl, w6, ol1, by show 4 ≤ sizeLine; decide, fun m1 nm1 => ?_⟩
    have s7 := Same.new (o := .lst [.ref t1, .ref t2, .ref t3, .ref t4]) nm1
    have om1 : upd G6 m1 (.lst [.ref t1, .ref t2, .ref t3, .ref t4]) m1 = some (.lst [.ref t1, .ref t2, .ref t3, .ref t4]) := upd_same
    change gName 1 (V.ref m1) _ (upd G6 m1 (.lst [V.ref t1, .ref t2, .ref t3, .ref t4])) _
    generalize upd G6 m1 (.lst [V.ref t1, .ref t2, .ref t3, .ref t4]) = G7 at s7 om1 ⊢
    have k7 : Same H G7 := k6.trans s7
    have P7 := PrsAt.same s7 P6
    refine ⟨_, rfl, _, rfl, c, v, _, _, _, rfl, mc, ep.same k7, fun u hu => hu, kP 5 _ (by decide) rfl, by show 2 ≤ sizeLine; decide, fun t5 n5 => ?_⟩
    have s8 := Same.new (o := .tup [.str "unknown", .bl (decide (i = 5))]) n5
    have o5 : upd G7 t5 (.tup [.str "unknown", .bl (decide (i = 5))]) t5 = some (.tup [.str "unknown", .bl (decide (i = 5))]) := upd_same
    generalize upd G7 t5 (.tup [V.str "unknown", .bl (decide (i = 5))]) = G8 at s8 o5
    have k8 : Same H G8 := k7.trans s8
    have P8 := PrsAt.same s8 P7
    replace P8 := P8.app (show PrsAt G8 [t5] [("unknown", decide (i = 5))] from .cons o5 .nil)
    have w8 := s8 _ _ om1
    refine ⟨_, rfl, c, v, _, _, _, rfl, mc, ep.same k8, fun u hu => hu, kP 7 _ (by decide) rfl, by show 2 ≤ sizeLine; decide, fun t6 n6 => ?_⟩
    have s9 := Same.new (o := .tup [.str "move", .bl (decide (i = 7))]) n6
    have o6 : upd G8 t6 (.tup [.str "move", .bl (decide (i = 7))]) t6 = some (.tup [.str "move", .bl (decide (i = 7))]) := upd_same
    generalize upd G8 t6 (.tup [V.str "move", .bl (decide (i = 7))]) = G9 at s9 o6
    have k9 : Same H G9 := k8.trans s9
    have P9 := PrsAt.same s9 P8
    replace P9 := P9.app (show PrsAt G9 [t6] [("move", decide (i = 7))] from .cons o6 .nil)
    have w9 := s9 _ _ w8
    refine ⟨by show 2 ≤ sizeLine; decide, fun l2 nl2 => ?_⟩
    have s10 := Same.new (o := .lst [.ref t5, .ref t6]) nl2
    have ol2 : upd G9 l2 (.lst [.ref t5, .ref t6]) l2 = some (.lst [.ref t5, .ref t6]) := upd_same
    generalize upd G9 l2 (.lst [V.ref t5, .ref t6]) = G10 at s10 ol2
    have k10 : Same H G10 := k9.trans s10
    have P10 := PrsAt.same s10 P9
    have w10 := s10 _ _ w9
    refine ⟨_, _, _, _, rfl, rfl, w10, ol2, by show 6 ≤ sizeLine; decide, fun m2 nm2 => ?_⟩
    have s11 := Same.new (o := .lst [.ref t1, .ref t2, .ref t3, .ref t4, .ref t5, .ref t6]) nm2
    have om2 : upd G10 m2 (.lst [.ref t1, .ref t2, .ref t3, .ref t4, .ref t5, .ref t6]) m2 = some (.lst [.ref t1, .ref t2, .ref t3, .ref t4, .ref t5, .ref t6]) := upd_same
    change gName 1 (V.ref m2) _ (upd G10 m2 (.lst [V.ref t1, .ref t2, .ref t3, .ref t4, .ref t5, .ref t6])) _
    generalize upd G10 m2 (.lst [V.ref t1, .ref t2, .ref t3, .ref t4, .ref t5, .ref t6]) = G11 at s11 om2 ⊢
    have k11 : Same H G11 := k10.trans s11
    have P11 := PrsAt.same s11 P10
    refine ⟨_, rfl, _, rfl, c, v, _, _, _, rfl, mc, ep.same k11, fun u hu => hu, kP 8 _ (by decide) rfl, by show 2 ≤ sizeLine; decide, fun t7 n7 => ?_⟩
    have s12 := Same.new (o := .tup [.str "undo", .bl (decide (i = 8))]) n7
    have o7 : upd G11 t7 (.tup [.str "undo", .bl (decide (i = 8))]) t7 = some (.tup [.str "undo", .bl (decide (i = 8))]) := upd_same
    generalize upd G11 t7 (.tup [V.str "undo", .bl (decide (i = 8))]) = G12 at s12 o7
    have k12 : Same H G12 := k11.trans s12
    have P12 := PrsAt.same s12 P11
    replace P12 := P12.app (show PrsAt G12 [t7] [("undo", decide (i = 8))] from .cons o7 .nil)
    have w12 := s12 _ _ om2
    refine ⟨_, rfl, c, v, _, _, _, rfl, mc, ep.same k12, fun u hu => hu, kP 9 _ (by decide) rfl, by show 2 ≤ sizeLine; decide, fun t8 n8 => ?_⟩
    have s13 := Same.new (o := .tup [.str "text", .bl (decide (i = 9))]) n8
    have o8 : upd G12 t8 (.tup [.str "text", .bl (decide (i = 9))]) t8 = some (.tup [.str "text", .bl (decide (i = 9))]) := upd_same
    generalize upd G12 t8 (.tup [V.str "text", .bl (decide (i = 9))]) = G13 at s13 o8
    have k13 : Same H G13 := k12.trans s13
    have P13 := PrsAt.same s13 P12
    replace P13 := P13.app (show PrsAt G13 [t8] [("text", decide (i = 9))] from .cons o8 .nil)
    have w13 := s13 _ _ w12
    refine ⟨by show 2 ≤ sizeLine; decide, fun l3 nl3 => ?_⟩
    have s14 := Same.new (o := .lst [.ref t7, .ref t8]) nl3
    have ol3 : upd G13 l3 (.lst [.ref t7, .ref t8]) l3 = some (.lst [.ref t7, .ref t8]) := upd_same
    generalize upd G13 l3 (.lst [V.ref t7, .ref t8]) = G14 at s14 ol3
    have k14 : Same H G14 := k13.trans s14
    have P14 := PrsAt.same s14 P13
    have w14 := s14 _ _ w13
    refine ⟨_, _, _, _, rfl, rfl, w14, ol3, by show 8 ≤ sizeLine; decide, fun m3 nm3 => ?_⟩
    have s15 := Same.new (o := .lst [.ref t1, .ref t2, .ref t3, .ref t4, .ref t5, .ref t6, .ref t7, .ref t8]) nm3
    have om3 : upd G14 m3 (.lst [.ref t1, .ref t2, .ref t3, .ref t4, .ref t5, .ref t6, .ref t7, .ref t8]) m3 = some (.lst [.ref t1, .ref t2, .ref t3, .ref t4, .ref t5, .ref t6, .ref t7, .ref t8]) := upd_same
    change gName 1 (V.ref m3) _ (upd G14 m3 (.lst [V.ref t1, .ref t2, .ref t3, .ref t4, .ref t5, .ref t6, .ref t7, .ref t8])) _
    generalize upd G14 m3 (.lst [V.ref t1, .ref t2, .ref t3, .ref t4, .ref t5, .ref t6, .ref t7, .ref t8]) = G15 at s15 om3 ⊢
    have k15 : Same H G15 := k14.trans s15
    have P15 := PrsAt.same s15 P14
    refine ⟨_, rfl, _, rfl, c, v, _, _, _, rfl, mc, ep.same k15, fun u hu => hu, kP 6 _ (by decide) rfl, by show 2 ≤ sizeLine; decide, fun t9 n9 => ?_⟩
    have s16 := Same.new (o := .tup [.str "number", .bl (decide (i = 6))]) n9
    have o9 : upd G15 t9 (.tup [.str "number", .bl (decide (i = 6))]) t9 = some (.tup [.str "number", .bl (decide (i = 6))]) := upd_same
    generalize upd G15 t9 (.tup [V.str "number", .bl (decide (i = 6))]) = G16 at s16 o9
    have k16 : Same H G16 := k15.trans s16
    have P16 := PrsAt.same s16 P15
    replace P16 := P16.app (show PrsAt G16 [t9] [("number", decide (i = 6))] from .cons o9 .nil)
    have w16 := s16 _ _ om3
    refine ⟨by show 1 ≤ sizeLine; decide, fun l4 nl4 => ?_⟩
    have s17 := Same.new (o := .lst [.ref t9]) nl4
    have ol4 : upd G16 l4 (.lst [.ref t9]) l4 = some (.lst [.ref t9]) := upd_same
    generalize upd G16 l4 (.lst [V.ref t9]) = G17 at s17 ol4
    have k17 : Same H G17 := k16.trans s17
    have P17 := PrsAt.same s17 P16
    have w17 := s17 _ _ w16
    refine ⟨_, _, _, _, rfl, rfl, w17, ol4, by show 9 ≤ sizeLine; decide, fun m4 nm4 => ?_⟩
    have s18 := Same.new (o := .lst [.ref t1, .ref t2, .ref t3, .ref t4, .ref t5, .ref t6, .ref t7, .ref t8, .ref t9]) nm4
    have om4 : upd G17 m4 (.lst [.ref t1, .ref t2, .ref t3, .ref t4, .ref t5, .ref t6, .ref t7, .ref t8, .ref t9]) m4 = some (.lst [.ref t1, .ref t2, .ref t3, .ref t4, .ref t5, .ref t6, .ref t7, .ref t8, .ref t9]) := upd_same
    change gName 1 (V.ref m4) _ (upd G17 m4 (.lst [V.ref t1, .ref t2, .ref t3, .ref t4, .ref t5, .ref t6, .ref t7, .ref t8, .ref t9])) _
    generalize upd G17 m4 (.lst [V.ref t1, .ref t2, .ref t3, .ref t4, .ref t5, .ref t6, .ref t7, .ref t8, .ref t9]) = G18 at s18 om4 ⊢
    have k18 : Same H G18 := k17.trans s18
    have P18 := PrsAt.same s18 P17
    have PZ : PrsAt G18 [t1, t2, t3, t4, t5, t6, t7, t8, t9] (askedOf i) := P18
    refine ⟨_, rfl, m4, rfl, ⟨_, .inl (.inl om4)⟩, fun D nD => ?_⟩
    refine lc_list (K := K) (a := m4) (xs := [t1, t2, t3, t4, t5, t6, t7, t8, t9].map V.ref) (fun k G => Same G18 G ∧ G D = some (.lst (((((askedOf i).take k).filter (·.2)).map (·.1)).map V.str))) ⟨Same.new nD, upd_same⟩ (fun k G _ h => .inl (.inl (h.1 _ _ om4))) ?_ ?_
    · rintro k z G ez ⟨sm, oD⟩
      obtain ⟨t, et, rfl⟩ := map_get ez
      obtain ⟨pr, epr, ot⟩ := PZ.get et
      refine ⟨t, _, rfl, .inl (.inl (sm _ _ ot)), rfl, _, _, rfl, _, _, rfl, rfl, rfl, ?_⟩
      have tk1 : (askedOf i).take (k + 1) = (askedOf i).take k ++ [pr] := by rw [List.take_succ, epr]; rfl
      refine ⟨_, rfl, pr.2, rfl, ?_⟩
      have al : (((((askedOf i).take k).filter (·.2)).map (·.1)).map V.str).length < sizeLine := by
        rw [List.length_map, List.length_map]
        exact Nat.lt_of_le_of_lt (Nat.le_trans (List.length_filter_le _ _) (by rw [List.length_take]; exact Nat.min_le_right _ _)) (by show 9 < sizeLine; decide)
      rw [tk1, List.filter_append, List.map_append, List.map_append]
      cases e2 : pr.2 with
      | true =>
        have f1 : [pr].filter (·.2) = [pr] := by simp [e2]
        rw [f1]
        exact iteT ⟨_, rfl, _, oD, al, fun b o e => by rw [upd_ne (ne_of_none e nD)]; exact sm _ _ e, upd_same⟩
      | false =>
        have f1 : [pr].filter (·.2) = [] := by simp [e2]
        rw [f1]
        refine iteF ⟨sm, ?_⟩
        rw [List.map_nil, List.map_nil, List.append_nil]
        exact oD
    · rintro G ⟨sm, oD⟩
      have e9 : ((askedOf i).take ([t1, t2, t3, t4, t5, t6, t7, t8, t9].map V.ref).length) = askedOf i := rfl
      rw [e9, asked_one i1 i9] at oD
      have kz := k18.trans sm
      refine ⟨_, rfl, D, _, rfl, .inl (.inl (.inl oD)), rfl, true, rfl, iteT ?_⟩
      refine ⟨_, rfl, c, v, _, _, _, rfl, mc, ep.same kz, fun u hu => hu, X.subV i c ec, true, rfl, iteT ?_⟩
      refine ⟨_, rfl, D, _, 0, _, rfl, rfl, .inl (.inl oD), atI_nat (j := 0) rfl, _, rfl, c, v, rfl, mc, ep.same kz, by show 2 ≤ sizeLine; decide, fun t nt => ?_⟩
      exact q t _ (kz.trans (Same.new nt)) (by
        cases z : H t with
        | none => rfl
        | some o => rw [kz _ _ z] at nt; cases nt) upd_same
end

end Pk09
namespace Pk09
open PySem PySem.Spec PyProof.Rows L2 Gd
section
variable {P : Program} {w : World} {K : PySem.W.Frag} {mg : Str → Option Value} {base : Heap}
set_option maxHeartbeats 8000000 in
-- _check_systemE: level 3; builtins ['enumerate']; cells []; slots: 0 names, 1 rules, 2 earlier, 3 name, 4 number, 5 rule
theorem ok__check_systemE {c0 c1 c2 c3 c4 c5 c6 c7 c8 c9 fI : Addr} (X : ErrT K mg [c0, c1, c2, c3, c4, c5, c6, c7, c8, c9] ["RangeError", "InvalidRange", "InvalidName", "InvalidSystem", "InvalidRule", "UnknownName", "InvalidNumber", "InvalidMove", "NothingToUndo", "Unreadable"] fI) (h : At K mg "_check_system" s__check_systemE ["names", "rules"]) (D_RangeError___init__ : DnI P w K mg base 1 fI "RangeError.__init__" s_RangeError___init__ ["self", "value"] (spIni K)) (kI_value : ∀ fd, Fun K "__init__" "RangeError.__init__" s_RangeError___init__ fI fd → ∀ (s : Shared) (a u : Value), BindsTo s fd ⟨[a], [("value", u)]⟩ ((["self", "value"] : List Str).zip [a, u])) (D_is_faulty : Dn P w K mg base 2 "is_faulty" s_is_faulty ["rule", "names"] (sp_is_faulty K)) (D_is_name : Dn P w K mg base 1 "is_name" s_is_name ["text"] (sp_is_name K)) (m_enumerate : mg "enumerate" = none) : DnN P w K mg base 3 "_check_system" s__check_systemE ["names", "rules"] (sp__check_systemE K [c0, c1, c2, c3, c4, c5, c6, c7, c8, c9]) := by
  refine .mk' h fun f fd F => okN F sc__check_systemE (fun vs H Q E h => ?_) (fun cdv A outer s H vs Q E hr h => ?_)
  · obtain ⟨a, b, ns, xs, rs, rfl, ha, hb, dr, hs, hc, ln, lr, q, eN, eR⟩ := h
    rfl
  · obtain ⟨a, b, ns, xs, rs, rfl, ha, hb, dr, hs, hc, ln, lr, q, eN, eR⟩ := h
    refine ⟨_, (pss_cons (ps_set (i := 2) sc__check_systemE.nd rfl (.inl rfl) pe_dnewK)
      (pss_cons (ps_for PassesOwn.leaving rfl (pi_list (pv 0)) (pg_name (i := 3) sc__check_systemE.nd rfl (.inl rfl))
        (pss_cons (ps_if (PW.pt (pw_or (pt_cmp (pc_din (hu_of hr) (pv 3) (pv 2))) (pw_or1 (pt_not (pt_val (pe_c D_is_name hr (by rfl) (pa_cons (pv 3) pa_nil)))))))
          (pss_one (ps_raiseN rfl (X.t 2 _ _ rfl rfl) D_RangeError___init__ hr (L2N.takes_of rfl rfl rfl rfl) (by rfl) (pa_cons (pv 3) pa_nil)))
          pss_nil)
        (pss_one (ps_dput (hu_of hr) (pv 2) (pv 3) pe_bl rfl))))
      (pss_one (ps_for PassesOwn.leaving rfl (pi_enum (by rfl) m_enumerate (pa_cons (pv 1) pa_nil)) (pg_tup (by rfl) (pgs_cons (pg_name (i := 4) sc__check_systemE.nd rfl (.inl rfl)) (pgs_cons (pg_name (i := 5) sc__check_systemE.nd rfl (.inl rfl)) pgs_nil)))
        (pss_one (ps_if (pt_val (pe_c D_is_faulty hr (by rfl) (pa_cons (pv 5) (pa_cons (pv 0) pa_nil))))
          (pss_one (ps_raiseN rfl (X.t 3 _ _ rfl rfl) D_RangeError___init__ hr (L2N.takes_of rfl rfl rfl rfl) (by rfl) (pa_cons (pv 4) pa_nil)))
          pss_nil)))))), ?_⟩
    have T2 := X.t 2 _ _ rfl rfl
    have T3 := X.t 3 _ _ rfl rfl
    refine fun d nd => ⟨_, rfl, a, rfl, ⟨_, (Same.new nd).seq ha⟩, for_list (xs := ns.map V.str) (fun i σ H' => Same H H' ∧ firstN (ns.take i) (ns.drop i) = firstN [] ns ∧ H' d = some (.dK (keyT (ns.take i))) ∧ ∃ y, σ = [some (.ref a), some (.ref b), some (.ref d), y, none, none])
      ⟨Same.new nd, rfl, upd_same, none, rfl⟩ (fun i σ H' _ h => h.1.seq ha) ?_ ?_⟩
    · rintro i z σ H' hz ⟨k1, hf, hd, y, rfl⟩
      obtain ⟨x, ex, rfl⟩ := map_get hz
      have mx := List.mem_of_getElem? ex
      have fx := firstN_at ex
      rw [hf] at fx
      have raise : firstN [] ns = some x → ∀ H3, Same H H3 → ∀ a, H3 a = none → spIni K (.ref a :: ([.str x] ++ [])) (upd H3 a (exo a c2 none))
          (fun u H2 => u = .non ∧ ∃ (d : Addr) (fs : List (Str × V)), H2 a = some (exo a c2 (some d)) ∧ H2 d = some (exd d fs) ∧ H3 d = none ∧ E (.ref c2) (some d) (upd (del H2 a) d (.xd fs))) (fun _ _ _ => False) := fun e H3 k3 => by
        obtain ⟨c, ec, e⟩ := eN x e
        obtain rfl := Option.some.inj ec
        exact mk_raise T2.ox T2.nV fun d' H4 k4 nd' hd' => e d' H4 (k3.trans k4) (same_none k3 nd') hd'
      by_cases mem : x ∈ ns.take i
      · obtain ⟨v, nv⟩ := valV_keyT_in mem
        refine ⟨_, rfl, _, rfl, d, _, rfl, DGet.k (k := Sum.inr x) hd, true, ?_, iteT ?_⟩
        · rw [nv]
          rfl
        exact ⟨_, rfl, by show 1 ≤ 1000; decide, raise (by rw [fx, if_pos (.inl mem)]) _ k1⟩
      · have nv : valV (keyT (ns.take i)) (Sum.inr x) = none := valV_keyT mem
        refine ⟨_, rfl, _, rfl, d, _, rfl, DGet.k (k := Sum.inr x) hd, false, ?_, iteF ?_⟩
        · rw [nv]
          rfl
        refine ⟨_, rfl, x, rfl, hs x mx, fun H2 k2 => ?_⟩
        have k12 := k1.trans k2
        cases hx : nameOk x with
        | false => exact ⟨false, rfl, iteT ⟨_, rfl, by show 1 ≤ 1000; decide, raise (by rw [fx, if_pos (.inr hx)]) _ k12⟩⟩
        | true =>
          have lk : (keyT (ns.take i)).length < sizeLine := by
            unfold keyT
            rw [List.length_map, List.length_take]
            exact Nat.lt_of_le_of_lt (by omega : min i ns.length ≤ 100000) (by decide)
          refine ⟨true, rfl, iteF ⟨_, rfl, _, rfl, d, _, rfl, DPut.k (k := Sum.inr x) (k2 _ _ hd) lk, fun b' o e => ?_, ?_, ?_, _, rfl⟩⟩
          · rw [upd_ne (ne_of_none e nd)]
            exact k12 _ _ e
          · rw [fx, if_neg (fun z => z.elim mem (fun q => by rw [hx] at q; cases q))]
          · rw [upd_same, putK_new _ nv]
            have tk : keyT (ns.take (i + 1)) = keyT (ns.take i) ++ [(Sum.inr x, V.bl true)] := by
              unfold keyT
              rw [List.take_add_one, ex, List.map_append]
              rfl
            rw [tk]
    · rintro σ H' ⟨k1, hf, _, y, rfl⟩
      have e0 : (ns.map V.str).length = ns.length := List.length_map _
      have noN : firstN [] ns = none := by
        rw [← hf, e0, List.drop_length]
        rfl
      have lx : xs.length = rs.length := by rw [dpa_len dr, List.length_map]
      refine ⟨_, rfl, b, xs, rfl, k1.seq hb, for_it walk_enum (fun i σ G => Same H G ∧ firstR ns i (rs.drop i) = firstR ns 0 rs ∧ ∃ y4 y5, σ = [some (.ref a), some (.ref b), some (.ref d), y, y4, y5]) ⟨k1, rfl, none, none, rfl⟩ (fun i σ G _ h => h.1.seq hb) ?_ ?_⟩
      · rintro i z σ G G' hi ⟨k, hg, y4, y5, rfl⟩ ⟨T, u, w, rfl, nT, rfl, eu, ew⟩
        obtain rfl := Option.some.inj eu
        obtain ⟨r, er, dw⟩ := dpa_map_get (dpa_same k dr) ew
        have k' : Same H (upd G T (.tup [.int (i : Nat), w])) := k.trans (Same.new nT)
        have mr := List.mem_of_getElem? er
        have fr := firstR_at (ns := ns) er
        rw [hg] at fr
        refine ⟨T, _, rfl, .inl (.inl upd_same), rfl, _, _, rfl, _, _, rfl, rfl, ?_⟩
        refine ⟨_, rfl, _, rfl, w, r, a, ns, rfl, dp_same (Same.new nT) dw, hc r mr, k'.seq ha, fun H3 k3 => ?_⟩
        have k13 := k'.trans k3
        cases hx : r.faulty ns with
        | true =>
          refine ⟨true, rfl, iteT ⟨_, rfl, by show 1 ≤ 1000; decide, ?_⟩⟩
          obtain ⟨c, ec, e⟩ := eR i noN (by rw [fr, if_pos hx])
          obtain rfl := Option.some.inj ec
          exact mk_raise T3.ox T3.nV fun d' H4 k4 nd' hd' => e d' H4 (k13.trans k4) (same_none k13 nd') hd'
        | false => exact ⟨false, rfl, iteF ⟨k13, by rw [fr, if_neg (by rw [hx]; decide)], _, _, rfl⟩⟩
      · rintro σ G ⟨k, hg, _⟩
        refine q noN ?_ G k
        rw [← hg, lx, List.drop_length]
        rfl
end

end Pk09
namespace Pk09
open PySem PySem.Spec PyProof.Rows L2 Gd
section
variable {P : Program} {w : World} {K : PySem.W.Frag} {mg : Str → Option Value} {base : Heap}
set_option maxHeartbeats 8000000 in
-- System.__initE__: level 4; builtins ['list', 'sorted']; cells []; slots: 0 self, 1 names, 2 rules
theorem ok_System___initE__ {C : Addr} (T : SysT K mg C) {c0 c1 c2 c3 c4 c5 c6 c7 c8 c9 fI : Addr} (X : ErrT K mg [c0, c1, c2, c3, c4, c5, c6, c7, c8, c9] ["RangeError", "InvalidRange", "InvalidName", "InvalidSystem", "InvalidRule", "UnknownName", "InvalidNumber", "InvalidMove", "NothingToUndo", "Unreadable"] fI) (h : AtM K C "__init__" "System.__init__" s_System___initE__ ["self", "names", "rules"]) (D__check_systemE : DnN P w K mg base 3 "_check_system" s__check_systemE ["names", "rules"] (sp__check_systemE K [c0, c1, c2, c3, c4, c5, c6, c7, c8, c9])) (m_list : mg "list" = none) (m_sorted : mg "sorted" = none) : MtN P w K mg base 4 C "__init__" "System.__init__" s_System___initE__ ["self", "names", "rules"] (sp_System___initE__ K C [c0, c1, c2, c3, c4, c5, c6, c7, c8, c9]) := by
  refine .mk' h fun f fd F => okN F sc_System___initE__ (fun vs H Q E h => ?_) (fun cdv A outer s H vs Q E hr h => ?_)
  · obtain ⟨o, dx, a, b, ns, xs, rs, rfl, ho, ha, hb, dr, hs, hc, ln, lr, q, eN, eR⟩ := h
    rfl
  · obtain ⟨o, dx, a, b, ns, xs, rs, rfl, ho, ha, hb, dr, hs, hc, ln, lr, q, eN, eR⟩ := h
    refine ⟨_, (pss_cons (ps_expr (pe_cN (L2N.takes_of rfl rfl rfl rfl) D__check_systemE hr (by rfl) (pa_cons (pv 1) (pa_cons (pv 2) pa_nil))))
      (pss_cons (ps_fld (pv 0) (pe_callB cr_sortedS (by rfl) m_sorted (by decide +kernel) (pa_cons (pv 1) pa_nil)) rfl)
      (pss_one (ps_fld (pv 0) (pe_callTy call_list_of (by rfl) m_list (by decide +kernel) (pa_cons (pv 2) pa_nil)) rfl)))), ?_⟩
    refine ⟨_, rfl, _, rfl, a, b, ns, xs, rs, rfl, ha, hb, dr, hs, hc, ln, lr, fun n1 n2 H1 k1 => ?_, eN, eR⟩
    replace q := q n1 n2
    refine ⟨_, rfl, a, ns, rfl, k1.seq ha, ln, fun ss p pm so np => ⟨_, rfl, o, C, dx, [], rfl, ?_, T.ck.cl, T.nN, by decide, ?_⟩⟩
    · exact (Same.new np) _ _ (k1 _ _ ho)
    have k2 : Same H1 (upd H1 p (.lst (ss.map V.str))) := Same.new np
    have ep : upd H1 p (.lst (ss.map V.str)) p = some (.lst (ss.map V.str)) := upd_same
    generalize upd H1 p (.lst (ss.map V.str)) = H2 at k2 ep
    have k02 := k1.trans k2
    have eo : H2 o = some (.ins C dx []) := k02 _ _ ho
    have po : p ≠ o := ne_of ep eo (fun z => by cases z)
    have ki : Ki o H2 (upd H2 o (.ins C dx (putF "_names" (.ref p) []))) := ⟨⟨C, dx, [], eo⟩, Kp.at⟩
    have eo3 : upd H2 o (.ins C dx (putF "_names" (.ref p) [])) o = some (.ins C dx (putF "_names" (.ref p) [])) := upd_same
    generalize upd H2 o (.ins C dx (putF "_names" (.ref p) [])) = H3 at ki eo3
    have hb3 := SqL.ki ki (k02.seq hb)
    refine ⟨_, rfl, b, xs, rfl, .inl hb3, fun l nl => ⟨_, rfl, o, C, dx, _, rfl, (Same.new nl) _ _ eo3, T.ck.cl, T.nR, (by show (1 : Nat) < 1000; decide), ?_⟩⟩
    have k4 : Same H3 (upd H3 l (.lst xs)) := Same.new nl
    have el : upd H3 l (.lst xs) l = some (.lst xs) := upd_same
    generalize upd H3 l (.lst xs) = H4 at k4 el
    have eo4 := k4 _ _ eo3
    have lo : l ≠ o := ne_of el eo4 (fun z => by cases z)
    have ki4 : Ki o H4 (upd H4 o (.ins C dx (putF "_rules" (.ref l) (putF "_names" (.ref p) [])))) := ⟨⟨C, dx, _, eo4⟩, Kp.at⟩
    have np0 : H p = none := by
      cases e : H p with
      | none => rfl
      | some u => rw [k1 _ _ e] at np; cases np
    have nl0 : H l = none := by
      cases e : H l with
      | none => rfl
      | some u =>
        have z : l ≠ o := lo
        rw [ki.2 _ _ z (k02 _ _ e)] at nl
        cases nl
    refine q _ p l ss pm so (((Kp.of k02).trans ki.2).trans ((Kp.of k4).trans Kp.at)) np0 nl0 ?_
    refine ⟨dx, _, xs, upd_same, ?_, ?_, ?_, ?_, dpa_ki ki4 (dpa_same k4 (dpa_ki ki (dpa_same k02 dr))), fun m m1 m2 => ?_⟩
    · rw [lookup_putF, if_neg (by decide), lookup_putF, if_pos rfl]
    · rw [lookup_putF, if_pos rfl]
    · exact ki4.2 _ _ po (k4 _ _ (ki.2 _ _ po ep))
    · exact ki4.2 _ _ lo el
    · rw [lookup_putF, if_neg m2, lookup_putF, if_neg m1]
      rfl
end

end Pk09
namespace Pk09
open PySem PySem.Spec PyProof.Rows L2 Gd
section
variable {P : Program} {w : World} {K : PySem.W.Frag} {mg : Str → Option Value} {base : Heap}
set_option maxHeartbeats 8000000 in
-- System.without: level 6; builtins ['enumerate']; cells ['numbers']; slots: 0 self, 1 numbers, 2 number, 3 at, 4 rule
theorem ok_System_without {C : Addr} (T : SysT K mg C) {c0 c1 c2 c3 c4 c5 c6 c7 c8 c9 fI : Addr} (X : ErrT K mg [c0, c1, c2, c3, c4, c5, c6, c7, c8, c9] ["RangeError", "InvalidRange", "InvalidName", "InvalidSystem", "InvalidRule", "UnknownName", "InvalidNumber", "InvalidMove", "NothingToUndo", "Unreadable"] fI) (h : AtM K C "without" "System.without" s_System_without ["self", "numbers"]) (D_System___init__ : Mt P w K mg base 4 C "__init__" "System.__init__" s_System___init__ ["self", "names", "rules"] (sp_System___init__ K C)) (D_check_number : DnN P w K mg base 3 "check_number" s_check_number ["system", "number"] (sp_check_number K C [c0, c1, c2, c3, c4, c5, c6, c7, c8, c9])) (m_enumerate : mg "enumerate" = none) : MtN P w K mg base 6 C "without" "System.without" s_System_without ["self", "numbers"] (sp_System_without K C [c0, c1, c2, c3, c4, c5, c6, c7, c8, c9]) := by
  refine .mk' h fun f fd F => okN F sc_System_without (fun vs H Q E h => ?_) (fun cdv A outer s H vs Q E hr h => ?_)
  · obtain ⟨a, l, p, b, ns, rs, ms, rfl, ss, hl, ok, q, qE⟩ := h
    rfl
  · obtain ⟨a, l, p, b, ns, rs, ms, rfl, ss, hl, ok, q, qE⟩ := h
    refine ⟨_, (pss_cons (ps_for PassesOwn.leaving rfl (pi_list (pv 1)) (pg_name (i := 2) sc_System_without.nd rfl (.inl rfl))
        (pss_one (ps_expr (pe_cN (L2N.takes_of rfl rfl rfl rfl) D_check_number hr (by rfl) (pa_cons (pv 0) (pa_cons (pv 2) pa_nil))))))
      (pss_one (ps_ret (pe_new T.ck D_System___init__ hr (by rfl) (pa_cons (pe_fld (pv 0) rfl) (pa_cons (pe_lc (own := [("at", 3), ("rule", 4)]) (g := (gTup K 2 (gCons (gName 3) (gCons (gName 4) gNil)))) rfl sc_System_without.nd (pi_enum (by rfl) m_enumerate (pa_cons (pe_fld (pv 0) rfl) pa_nil)) (blkOk_by (N := ["self", "numbers", "number", "at", "rule"]) (sc := defScope s_System_without) (by decide +kernel)) (fun _ _ _ _ _ => (pg_tup (by rfl) (pgs_cons (pg_name (i := 3) sc_System_without.nd rfl (.inl rfl)) (pgs_cons (pg_name (i := 4) sc_System_without.nd rfl (.inl rfl)) pgs_nil)))) (fun _ _ _ _ _ => pts_one (pt_cmpR (r := rIn K true) op_notIn_seq (pv 3) (pv 1) (by rfl))) (fun _ _ _ _ _ => (pv 4))) pa_nil)))))), ?_⟩
    refine ⟨_, rfl, l, rfl, ⟨_, hl⟩, for_list (xs := ms.map V.int) (fun i σ G => Same H G ∧ (∀ m ∈ ms.take i, (!decide (0 ≤ m ∧ m < (rs.length : Int))) = false) ∧ ∃ y, σ = [some (.ref a), some (.ref l), y, none, none]) ⟨fun _ _ e => e, (fun _ m => nomatch m), none, rfl⟩ (fun _ _ _ _ h => h.1.seq hl) ?_ ?_⟩
    · rintro i z σ G hz ⟨k, gm, y, rfl⟩
      obtain ⟨m, em, rfl⟩ := map_get hz
      refine ⟨_, rfl, _, rfl, a, p, b, ns, rs, m, rfl, ss.same k, ok.lr, fun c => ?_, fun c => ?_⟩
      · exact ⟨k, take_all gm em (by rw [decide_eq_true c]; rfl), _, rfl⟩
      · exact (qE m (find_first gm em (by rw [decide_eq_false c]; rfl))).same k
    · rintro σ G ⟨k, gm, y, rfl⟩
      rw [List.length_map, List.take_length] at gm
      replace q := q (find_none gm)
      obtain ⟨dx, fs, xs, h1, h2, h3, h4, h5, h6, h7⟩ := ss.same k
      have lx : xs.length = rs.length := by rw [dpa_len h6, List.length_map]
      have lr := ok.lr
      refine ⟨_, rfl, a, C, dx, fs, _, rfl, h1, T.ck.cl, T.nN, h2, ?_⟩
      refine ⟨_, rfl, a, C, dx, fs, _, rfl, h1, T.ck.cl, T.nR, h3, b, xs, rfl, .inl (.inl h5), fun D nD => ?_⟩
      refine lc_it walk_enum (fun i G' => Same G G' ∧ ∃ acc, G' D = some (.lst acc) ∧ DpAll K G' acc ((dropTo rs ms i).map Rl.d)) ⟨Same.new nD, [], upd_same, .nil⟩ (fun i G' _ h => h.1.seq (.inl (.inl h5))) ?_ ?_
      · rintro i x G1 G2 hi ⟨s1, acc, oD, da⟩ ⟨T1, u, w, rfl, nT, rfl, eu, ew⟩
        obtain rfl := Option.some.inj eu
        obtain ⟨r, er, dw⟩ := dpa_map_get (dpa_same s1 h6) ew
        have sT : Same G1 (upd G1 T1 (.tup [.int (i : Nat), w])) := Same.new nT
        have la : acc.length ≤ i := by
          rw [dpa_len da, List.length_map]
          exact dropTo_len
        refine ⟨T1, _, rfl, .inl (.inl upd_same), rfl, _, _, rfl, _, _, rfl, rfl, rfl, ?_⟩
        refine ⟨_, rfl, _, rfl, l, _, rfl, .inl (((k.trans s1).trans sT).seq hl), rfl, flat_ints ms, ?_⟩
        rw [if_pos rfl, inV_ints]
        have oD2 := sT _ _ oD
        by_cases c : ((i : Nat) : Int) ∈ ms
        · refine ⟨false, by rw [decide_eq_true c]; rfl, ?_⟩
          show (fun G3 => Same G G3 ∧ ∃ acc, G3 D = some (.lst acc) ∧ DpAll K G3 acc ((dropTo rs ms (i + 1)).map Rl.d)) _
          refine ⟨s1.trans sT, acc, oD2, ?_⟩
          rw [dropTo_succ er, if_pos c, List.append_nil]
          exact dpa_same sT da
        · refine ⟨true, by rw [decide_eq_false c]; rfl, ?_⟩
          refine iteT ⟨_, rfl, acc, oD2, Nat.lt_of_le_of_lt (by omega : acc.length ≤ 100000) (by decide), ?_⟩
          have kD : Kl D (upd G1 T1 (.tup [.int (i : Nat), w])) (upd (upd G1 T1 (.tup [.int (i : Nat), w])) D (.lst (acc ++ [w]))) := ⟨⟨_, oD2⟩, Kp.at⟩
          refine ⟨fun b' o e => ?_, acc ++ [w], upd_same, ?_⟩
          · rw [upd_ne (ne_of_none e nD)]
            exact sT _ _ (s1 _ _ e)
          · rw [dropTo_succ er, if_neg c, List.map_append]
            exact dpa_app (dpa_kl kD (dpa_same sT da) (noL_rls _)) (dpa_one (dp_kl kD (dp_same sT dw) (noL_rl r)))
      · rintro G1 ⟨s1, acc, oD, da⟩
        rw [lx] at da
        refine mk_sys (.inl (.inl (s1 _ _ h4))) (.inl (.inl oD)) da (ok.sub (fun r m => dropTo_mem m) (Nat.le_trans dropTo_len lr)) (fun o G2 p' q' ss' pm so' s2 no np nq at' => ?_)
        exact q G2 o ((k.trans s1).trans s2)
end

end Pk09
namespace Pk09
open PySem PySem.Spec PyProof.Rows L2 Gd
section
variable {P : Program} {w : World} {K : PySem.W.Frag} {mg : Str → Option Value} {base : Heap}
set_option maxHeartbeats 8000000 in
-- System.with_rule: level 6; builtins []; cells []; slots: 0 self, 1 rule
theorem ok_System_with_rule {C : Addr} (T : SysT K mg C) {c0 c1 c2 c3 c4 c5 c6 c7 c8 c9 fI : Addr} (X : ErrT K mg [c0, c1, c2, c3, c4, c5, c6, c7, c8, c9] ["RangeError", "InvalidRange", "InvalidName", "InvalidSystem", "InvalidRule", "UnknownName", "InvalidNumber", "InvalidMove", "NothingToUndo", "Unreadable"] fI) (h : AtM K C "with_rule" "System.with_rule" s_System_with_rule ["self", "rule"]) (D_System___initE__ : MtN P w K mg base 4 C "__init__" "System.__init__" s_System___initE__ ["self", "names", "rules"] (sp_System___initE__ K C [c0, c1, c2, c3, c4, c5, c6, c7, c8, c9])) : MtN P w K mg base 6 C "with_rule" "System.with_rule" s_System_with_rule ["self", "rule"] (sp_System_with_rule K C [c0, c1, c2, c3, c4, c5, c6, c7, c8, c9]) := by
  refine .mk' h fun f fd F => okN F sc_System_with_rule (fun vs H Q E h => ?_) (fun cdv A outer s H vs Q E hr h => ?_)
  · obtain ⟨a, v, p, b, ns, rs, r, rfl, ss, hv, ok, lc, lr, q, qE⟩ := h
    rfl
  · obtain ⟨a, v, p, b, ns, rs, r, rfl, ss, hv, ok, lc, lr, q, qE⟩ := h
    refine ⟨_, (pss_one (ps_ret (pe_newN (L2N.takes_of rfl rfl rfl rfl) T.ck D_System___initE__ hr (by rfl) (pa_cons (pe_fld (pv 0) rfl) (pa_cons (pe_op op_cat (pe_fld (pv 0) rfl) (pe_lst (pa_cons (pv 1) pa_nil))) pa_nil))))), ?_⟩
    obtain ⟨dx, fs, xs, h1, h2, h3, h4, h5, h6, h7⟩ := ss
    have lx : xs.length = rs.length := by rw [dpa_len h6, List.length_map]
    refine ⟨_, rfl, a, C, dx, fs, _, rfl, h1, T.ck.cl, T.nN, h2, ?_⟩
    refine ⟨_, rfl, a, C, dx, fs, _, rfl, h1, T.ck.cl, T.nR, h3, _, rfl, by show 1 ≤ sizeLine; decide, fun l2 n2 => ?_⟩
    have s1 : Same H (upd H l2 (.lst [v])) := Same.new n2
    have o2 : upd H l2 (.lst [v]) l2 = some (.lst [v]) := upd_same
    generalize upd H l2 (.lst [v]) = H1 at s1 o2
    refine ⟨b, l2, _, _, rfl, rfl, s1 _ _ h5, o2, Nat.le_trans (by show xs.length + 1 ≤ 100000; omega) (by decide), fun l3 n3 => ?_⟩
    have s2 : Same H1 (upd H1 l3 (.lst (xs ++ [v]))) := Same.new n3
    have o3 : upd H1 l3 (.lst (xs ++ [v])) l3 = some (.lst (xs ++ [v])) := upd_same
    generalize upd H1 l3 (.lst (xs ++ [v])) = H2 at s2 o3
    have s12 := s1.trans s2
    have da : DpAll K H2 (xs ++ [v]) ((rs ++ [r]).map Rl.d) := by
      rw [List.map_append]
      exact dpa_app (dpa_same s12 h6) (dpa_one (dp_same s12 hv))
    refine mk_sysE (.inl (.inl (s12 _ _ h4))) (.inl (.inl o3)) da (fun x m => Nat.le_trans (nameOk_size (ok.ok x m)) (by decide)) (fun q mq => ?_) ok.ln (by rw [List.length_append]; show rs.length + 1 ≤ 1000; omega) (fun e1 e2 o G k => ?_) (fun x e => ?_) (fun i e1 e2 => ?_)
    · rcases List.mem_append.mp mq with mq | mq
      · exact ok.cs q mq
      · rw [List.mem_singleton.mp mq]
        exact lc
    · rw [firstR_one ok.nf] at e2
      cases c : r.faulty ns with
      | true => rw [c, if_pos rfl] at e2; cases e2
      | false => exact q c G o (s12.trans k)
    · rw [firstN_none ok.nd ok.ok] at e
      cases e
    · rw [firstR_one ok.nf] at e2
      cases c : r.faulty ns with
      | true =>
        rw [c, if_pos rfl] at e2
        obtain rfl := Option.some.inj e2
        exact (qE c).same s12
      | false => rw [c, if_neg Bool.false_ne_true] at e2; cases e2
end

end Pk09
namespace Pk09
open PySem PySem.Spec PyProof.Rows L2 Gd
section
variable {P : Program} {w : World} {K : PySem.W.Frag} {mg : Str → Option Value} {base : Heap}
set_option maxHeartbeats 8000000 in
-- System.beside: level 6; builtins []; cells []; slots: 0 self, 1 other
theorem ok_System_beside {C : Addr} (T : SysT K mg C) {c0 c1 c2 c3 c4 c5 c6 c7 c8 c9 fI : Addr} (X : ErrT K mg [c0, c1, c2, c3, c4, c5, c6, c7, c8, c9] ["RangeError", "InvalidRange", "InvalidName", "InvalidSystem", "InvalidRule", "UnknownName", "InvalidNumber", "InvalidMove", "NothingToUndo", "Unreadable"] fI) (h : AtM K C "beside" "System.beside" s_System_beside ["self", "other"]) (D_System___initE__ : MtN P w K mg base 4 C "__init__" "System.__init__" s_System___initE__ ["self", "names", "rules"] (sp_System___initE__ K C [c0, c1, c2, c3, c4, c5, c6, c7, c8, c9])) (D_System_names : Pt P w K mg base 1 C "names" "System.names" s_System_names ["self"] (sp_System_names K C)) (D_System_rules : Pt P w K mg base 1 C "rules" "System.rules" s_System_rules ["self"] (sp_System_rules K C)) : MtN P w K mg base 6 C "beside" "System.beside" s_System_beside ["self", "other"] (sp_System_beside K C [c0, c1, c2, c3, c4, c5, c6, c7, c8, c9]) := by
  refine .mk' h fun f fd F => okN F sc_System_beside (fun vs H Q E h => ?_) (fun cdv A outer s H vs Q E hr h => ?_)
  · obtain ⟨a, p, b, ns, rs, a2, p2, b2, ns2, rfl, ss, ss2, ok, ok2, ll, lr, nf, q, qE⟩ := h
    rfl
  · obtain ⟨a, p, b, ns, rs, a2, p2, b2, ns2, rfl, ss, ss2, ok, ok2, ll, lr, nf, q, qE⟩ := h
    refine ⟨_, (pss_one (ps_ret (pe_newN (L2N.takes_of rfl rfl rfl rfl) T.ck D_System___initE__ hr (by rfl) (pa_cons (pe_op op_cat (pe_fld (pv 0) rfl) (pe_p T.ck D_System_names hr (pv 1))) (pa_cons (pe_op op_cat (pe_fld (pv 0) rfl) (pe_p T.ck D_System_rules hr (pv 1))) pa_nil))))), ?_⟩
    obtain ⟨dx, fs, xs, h1, h2, h3, h4, h5, h6, h7⟩ := ss
    obtain ⟨dx2, fs2, e2⟩ := ss2.ins
    have lx : xs.length = rs.length := by rw [dpa_len h6, List.length_map]
    refine ⟨_, rfl, a, C, dx, fs, _, rfl, h1, T.ck.cl, T.nN, h2, _, rfl, a2, dx2, fs2, rfl, e2, a2, p2, b2, ns2, [], rfl, ss2, fun l1 n1 => ?_⟩
    have s1 : Same H (upd H l1 (.lst (ns2.map V.str))) := Same.new n1
    have o1 : upd H l1 (.lst (ns2.map V.str)) l1 = some (.lst (ns2.map V.str)) := upd_same
    generalize upd H l1 (.lst (ns2.map V.str)) = H1 at s1 o1
    refine ⟨p, l1, _, _, rfl, rfl, s1 _ _ h4, o1, ?_, fun l2 n2 => ?_⟩
    · rw [List.length_map, List.length_map]
      exact Nat.le_trans (by omega : _ ≤ 100000) (by decide)
    have s2 : Same H1 (upd H1 l2 (.lst (ns.map V.str ++ ns2.map V.str))) := Same.new n2
    have o2 : upd H1 l2 (.lst (ns.map V.str ++ ns2.map V.str)) l2 = some (.lst ((ns ++ ns2).map V.str)) := by rw [upd_same, List.map_append]
    generalize upd H1 l2 (.lst (ns.map V.str ++ ns2.map V.str)) = H2 at s2 o2
    have s12 := s1.trans s2
    refine ⟨_, rfl, a, C, dx, fs, _, rfl, s12 _ _ h1, T.ck.cl, T.nR, h3, _, rfl, a2, dx2, fs2, rfl, s12 _ _ e2, a2, p2, b2, ns2, [], rfl, ss2.same s12, fun l3 xs2 n3 d2 => ?_⟩
    have lx2 : xs2.length = 0 := by rw [dpa_len d2]; rfl
    have s3 : Same H2 (upd H2 l3 (.lst xs2)) := Same.new n3
    have o3 : upd H2 l3 (.lst xs2) l3 = some (.lst xs2) := upd_same
    replace d2 := dpa_same s3 d2
    generalize upd H2 l3 (.lst xs2) = H3 at s3 o3 d2
    have s13 := s12.trans s3
    refine ⟨b, l3, _, _, rfl, rfl, s13 _ _ h5, o3, Nat.le_trans (by omega : xs.length + xs2.length ≤ 100000) (by decide), fun l4 n4 => ?_⟩
    have s4 : Same H3 (upd H3 l4 (.lst (xs ++ xs2))) := Same.new n4
    have o4 : upd H3 l4 (.lst (xs ++ xs2)) l4 = some (.lst (xs ++ xs2)) := upd_same
    replace d2 := dpa_same s4 d2
    replace o2 := s4 _ _ (s3 _ _ o2)
    generalize upd H3 l4 (.lst (xs ++ xs2)) = H4 at s4 o4 d2 o2
    have s14 := s13.trans s4
    have da : DpAll K H4 (xs ++ xs2) ((rs ++ []).map Rl.d) := by
      rw [List.map_append]
      exact dpa_app (dpa_same s14 h6) d2
    rw [List.append_nil] at da
    have fN := firstN_two ok.nd ok.ok ok2.nd ok2.ok
    have fR := firstR_none nf
    refine mk_sysE (.inl (.inl o2)) (.inl (.inl o4)) da (fun x m => ?_) ok.cs (by rw [List.length_append]; omega) (by omega) (fun e1 _ o G k => ?_) (fun x e => ?_) (fun i e1 e2 => ?_)
    · rcases List.mem_append.mp m with m | m
      · exact Nat.le_trans (nameOk_size (ok.ok x m)) (by decide)
      · exact Nat.le_trans (nameOk_size (ok2.ok x m)) (by decide)
    · rw [fN] at e1
      exact q e1 G o (s14.trans k)
    · rw [fN] at e
      exact (qE x e).same s14
    · rw [fR] at e2
      cases e2
end

end Pk09
namespace Pk09
open PySem PySem.Spec PyProof.Rows L2 Gd
section
variable {P : Program} {w : World} {K : PySem.W.Frag} {mg : Str → Option Value} {base : Heap}
set_option maxHeartbeats 8000000 in
-- System.moved: level 7; builtins ['sorted']; cells []; slots: 0 self, 1 shifts, 2 name
theorem ok_System_moved {C : Addr} (T : SysT K mg C) {c0 c1 c2 c3 c4 c5 c6 c7 c8 c9 fI : Addr} (X : ErrT K mg [c0, c1, c2, c3, c4, c5, c6, c7, c8, c9] ["RangeError", "InvalidRange", "InvalidName", "InvalidSystem", "InvalidRule", "UnknownName", "InvalidNumber", "InvalidMove", "NothingToUndo", "Unreadable"] fI) (h : AtM K C "moved" "System.moved" s_System_moved ["self", "shifts"]) (D_System__changed : Mt P w K mg base 6 C "_changed" "System._changed" s_System__changed ["self", "times", "shifts"] (sp_System__changed K C)) (D_check_name : DnN P w K mg base 3 "check_name" s_check_name ["system", "name"] (sp_check_name K C [c0, c1, c2, c3, c4, c5, c6, c7, c8, c9])) (m_sorted : mg "sorted" = none) : MtN P w K mg base 7 C "moved" "System.moved" s_System_moved ["self", "shifts"] (sp_System_moved K C [c0, c1, c2, c3, c4, c5, c6, c7, c8, c9]) := by
  refine .mk' h fun f fd F => okN F sc_System_moved (fun vs H Q E h => ?_) (fun cdv A outer s H vs Q E hr h => ?_)
  · obtain ⟨a, p, b, ns, rs, d, ks, zs, sh, rfl, ss, so, Y, Y2, hs, hd, lk, pz, sz, q, qE⟩ := h
    rfl
  · obtain ⟨a, p, b, ns, rs, d, ks, zs, sh, rfl, ss, so, Y, Y2, hs, hd, lk, pz, sz, q, qE⟩ := h
    refine ⟨_, (pss_cons (ps_for PassesOwn.leaving rfl (pi_list (pe_callB (call_sortedD rfl) (by rfl) m_sorted (by decide +kernel) (pa_cons (pv 1) pa_nil))) (pg_name (i := 2) sc_System_moved.nd rfl (.inl rfl))
        (pss_one (ps_expr (pe_cN (L2N.takes_of rfl rfl rfl rfl) D_check_name hr (by rfl) (pa_cons (pv 0) (pa_cons (pv 2) pa_nil))))))
      (pss_one (ps_ret (pe_m T.ck D_System__changed hr (pv 0) (pa_cons pe_int (pa_cons (pv 1) pa_nil)))))), ?_⟩
    refine ⟨_, rfl, d, fK ks (fun x => .int (sh x)), ks, rfl, .inl hd.1, by unfold fK; rw [List.map_map]; rfl, lk, fun zs2 l pz2 sz2 nl => ?_⟩
    obtain rfl := sorted_unique (pz2.trans pz.symm) sz2 sz
    have s1 : Same H (upd H l (.lst (zs2.map V.str))) := Same.new nl
    have o1 : upd H l (.lst (zs2.map V.str)) l = some (.lst (zs2.map V.str)) := upd_same
    generalize upd H l (HO.lst (zs2.map V.str)) = H1 at s1 o1
    refine ⟨l, rfl, ⟨_, .inl (.inl o1)⟩, for_list (xs := zs2.map V.str) (fun i σ G => Same H1 G ∧ (∀ x ∈ zs2.take i, (!decide (x ∈ ns)) = false) ∧ ∃ y, σ = [some (.ref a), some (.ref d), y]) ⟨fun _ _ e => e, (fun _ m => nomatch m), none, rfl⟩ (fun _ _ _ _ h => .inl (.inl (h.1 _ _ o1))) ?_ ?_⟩
    · rintro i z σ G hz ⟨k, gm, y, rfl⟩
      obtain ⟨x, ex, rfl⟩ := map_get hz
      refine ⟨_, rfl, _, rfl, a, p, b, ns, rs, x, rfl, ss.same (s1.trans k), fun mx H' k' => ?_, fun mx => ?_⟩
      · exact ⟨k.trans k', take_all gm ex (by rw [decide_eq_true mx]; rfl), _, rfl⟩
      · exact (qE x (find_first gm ex (by rw [decide_eq_false mx]; rfl))).same (s1.trans k)
    · rintro σ G ⟨k, gm, y, rfl⟩
      rw [List.length_map, List.take_length] at gm
      have sk := s1.trans k
      obtain ⟨dx, fs, e, no⟩ := (ss.same sk).insM
      exact ⟨_, rfl, a, dx, fs, rfl, e, no _ (by decide) (by decide), _, rfl, a, p, b, ns, rs, 1, d, ks, sh, rfl, ss.same sk, so, Y, Y2, by decide, hs, hd.same sk, fun H' o p' q' k' no' np nq at' => q (find_none gm) H' o (sk.trans k')⟩
end

end Pk09
namespace Pk09
open PySem PySem.Spec PyProof.Rows L2 Gd
section
variable {P : Program} {w : World} {K : PySem.W.Frag} {mg : Str → Option Value} {base : Heap}
set_option maxHeartbeats 8000000 in
-- System.stretched: level 7; builtins []; cells []; slots: 0 self, 1 times
theorem ok_System_stretched {C : Addr} (T : SysT K mg C) {c0 c1 c2 c3 c4 c5 c6 c7 c8 c9 fI : Addr} (X : ErrT K mg [c0, c1, c2, c3, c4, c5, c6, c7, c8, c9] ["RangeError", "InvalidRange", "InvalidName", "InvalidSystem", "InvalidRule", "UnknownName", "InvalidNumber", "InvalidMove", "NothingToUndo", "Unreadable"] fI) (h : AtM K C "stretched" "System.stretched" s_System_stretched ["self", "times"]) (D_RangeError___init__ : DnI P w K mg base 1 fI "RangeError.__init__" s_RangeError___init__ ["self", "value"] (spIni K)) (kI_value : ∀ fd, Fun K "__init__" "RangeError.__init__" s_RangeError___init__ fI fd → ∀ (s : Shared) (a u : Value), BindsTo s fd ⟨[a], [("value", u)]⟩ ((["self", "value"] : List Str).zip [a, u])) (D_System__changed : Mt P w K mg base 6 C "_changed" "System._changed" s_System__changed ["self", "times", "shifts"] (sp_System__changed K C)) : MtN P w K mg base 7 C "stretched" "System.stretched" s_System_stretched ["self", "times"] (sp_System_stretched K C [c0, c1, c2, c3, c4, c5, c6, c7, c8, c9]) := by
  refine .mk' h fun f fd F => okN F sc_System_stretched (fun vs H Q E h => ?_) (fun cdv A outer s H vs Q E hr h => ?_)
  · obtain ⟨a, p, b, ns, rs, t, rfl, ss, so, Y, ht, q, qE⟩ := h
    rfl
  · obtain ⟨a, p, b, ns, rs, t, rfl, ss, so, Y, ht, q, qE⟩ := h
    refine ⟨_, (pss_cons (ps_if (pt_cmpR op_lt (pv 1) pe_int (nomark _))
        (pss_one (ps_raiseN rfl (X.t 6 _ _ rfl rfl) D_RangeError___init__ hr (L2N.takes_of rfl rfl rfl rfl) (by rfl) (pa_cons (pv 1) pa_nil)))
        pss_nil)
      (pss_one (ps_ret (pe_m T.ck D_System__changed hr (pv 0) (pa_cons (pv 1) (pa_cons pe_dnewK pa_nil)))))), ?_⟩
    by_cases c0 : t < 1
    · have T6 := X.t 6 _ _ rfl rfl
      refine ⟨_, rfl, _, _, rfl, rfl, true, by show V.bl (decide (t < 1)) = V.bl true; rw [decide_eq_true c0], iteT ?_⟩
      obtain ⟨c', ec, e'⟩ := qE c0
      obtain rfl := Option.some.inj ec
      exact ⟨_, rfl, by show 1 ≤ 1000; decide, mk_raise T6.ox T6.nV fun d' H4 k4 nd' hd' => e' d' H4 k4 nd' hd'⟩
    · refine ⟨_, rfl, _, _, rfl, rfl, false, by show V.bl (decide (t < 1)) = V.bl false; rw [decide_eq_false c0], iteF ?_⟩
      obtain ⟨Y2, q⟩ := q (by omega)
      obtain ⟨dx, fs, e, no⟩ := ss.insM
      refine ⟨_, rfl, a, dx, fs, rfl, e, no _ (by decide) (by decide), _, rfl, fun d nd => ?_⟩
      have s1 := Same.new (o := .dK []) nd
      have o1 : upd H d (.dK []) d = some (.dK []) := upd_same
      generalize upd H d (HO.dK []) = H1 at s1 o1
      exact ⟨a, p, b, ns, rs, t, d, [], fun _ => 0, rfl, ss.same s1, so, Y, Y2, ht, fun _ => by show (0 : Int).natAbs < _; decide, ⟨o1, fun _ _ => rfl⟩, fun H' o p' q' k' no' np nq at' => q H' o (s1.trans k')⟩
end

end Pk09
namespace Pk09
open PySem PySem.Spec PyProof.Rows L2 Gd
section
variable {P : Program} {w : World} {K : PySem.W.Frag} {mg : Str → Option Value} {base : Heap}
set_option maxHeartbeats 8000000 in
-- System.renamed: level 6; builtins ['sorted']; cells ['full', 'names']; slots: 0 self, 1 names, 2 old, 3 full, 4 told, 5 name, 6 rule
theorem ok_System_renamed {C : Addr} (T : SysT K mg C) {c0 c1 c2 c3 c4 c5 c6 c7 c8 c9 fI : Addr} (X : ErrT K mg [c0, c1, c2, c3, c4, c5, c6, c7, c8, c9] ["RangeError", "InvalidRange", "InvalidName", "InvalidSystem", "InvalidRule", "UnknownName", "InvalidNumber", "InvalidMove", "NothingToUndo", "Unreadable"] fI) (h : AtM K C "renamed" "System.renamed" s_System_renamed ["self", "names"]) (D_RangeError___init__ : DnI P w K mg base 1 fI "RangeError.__init__" s_RangeError___init__ ["self", "value"] (spIni K)) (kI_value : ∀ fd, Fun K "__init__" "RangeError.__init__" s_RangeError___init__ fI fd → ∀ (s : Shared) (a u : Value), BindsTo s fd ⟨[a], [("value", u)]⟩ ((["self", "value"] : List Str).zip [a, u])) (D_System___init__ : Mt P w K mg base 4 C "__init__" "System.__init__" s_System___init__ ["self", "names", "rules"] (sp_System___init__ K C)) (D_check_name : DnN P w K mg base 3 "check_name" s_check_name ["system", "name"] (sp_check_name K C [c0, c1, c2, c3, c4, c5, c6, c7, c8, c9])) (D_is_name : Dn P w K mg base 1 "is_name" s_is_name ["text"] (sp_is_name K)) (D_renamed_rule : Dn P w K mg base 1 "renamed_rule" s_renamed_rule ["rule", "names"] (sp_renamed_rule K)) (m_sorted : mg "sorted" = none) : MtN P w K mg base 6 C "renamed" "System.renamed" s_System_renamed ["self", "names"] (sp_System_renamed K C [c0, c1, c2, c3, c4, c5, c6, c7, c8, c9]) := by
  refine .mk' h fun f fd F => okN F sc_System_renamed (fun vs H Q E h => ?_) (fun cdv A outer s H vs Q E hr h => ?_)
  · obtain ⟨a, p, b, ns, rs, d, ks, zs, φ, rfl, ss, Y, hd, lk, pz, sz, hsz, eU, eN, q⟩ := h
    rfl
  · obtain ⟨a, p, b, ns, rs, d, ks, zs, φ, rfl, ss, Y, hd, lk, pz, sz, hsz, eU, eN, q⟩ := h
    refine ⟨_, (pss_cons (ps_for PassesOwn.leaving rfl (pi_list (pe_callB (call_sortedD rfl) (by rfl) m_sorted (by decide +kernel) (pa_cons (pv 1) pa_nil))) (pg_name (i := 2) sc_System_renamed.nd rfl (.inl rfl))
        (pss_one (ps_expr (pe_cN (L2N.takes_of rfl rfl rfl rfl) D_check_name hr (by rfl) (pa_cons (pv 0) (pa_cons (pv 2) pa_nil))))))
      (pss_cons (ps_set (i := 3) sc_System_renamed.nd rfl (.inr rfl) (pe_dc (own := [("name", 5)]) (g := gName 5) rfl sc_System_renamed.nd (pi_list (pe_fld (pv 0) rfl)) (blkOk_by (N := ["self", "names", "old", "full", "told", "name", "rule"]) (sc := defScope s_System_renamed) (by decide +kernel)) (fun _ _ _ _ _ => pg_name (i := 5) sc_System_renamed.nd rfl (Or.inl rfl)) (fun _ _ _ _ _ => pts_nil) (fun _ _ _ _ _ => (pv 5)) (fun _ _ _ _ _ => (pe_dget2 (hu_of hr) (pv 1) (pv 5) (pv 5) ⟨rfl, rfl, rfl, rfl⟩))))
      (pss_cons (ps_setLc (i := 4) (own := [("name", 5)]) (g := gName 5) rfl sc_System_renamed.nd rfl rfl (sw_true rfl rfl rfl (by decide +kernel)) (pi_list (pe_fld (pv 0) rfl)) (blkOk_by (N := ["self", "names", "old", "full", "told", "name", "rule"]) (sc := defScope s_System_renamed) (by decide +kernel)) (fun _ _ _ _ _ => pg_name (i := 5) sc_System_renamed.nd rfl (Or.inl rfl)) (fun _ _ _ _ _ => pts_nil) (fun _ _ _ _ _ => (pe_dget (hu_of hr) (pv 3) (pv 5) (fun _ _ => rfl))))
      (pss_cons (ps_for PassesOwn.leaving rfl (pi_list (pe_callB (call_sortedD rfl) (by rfl) m_sorted (by decide +kernel) (pa_cons (pv 1) pa_nil))) (pg_name (i := 2) sc_System_renamed.nd rfl (.inl rfl))
        (pss_one (ps_if (PW.pt (pw_or (pt_not (pt_val (pe_c D_is_name hr (by rfl) (pa_cons (pe_dget (hu_of hr) (pv 3) (pv 2) (fun _ _ => rfl)) pa_nil)))) (pw_or1 (pt_cmpR op_gt (pe_bm PySem.F.plainAttrs_list PySem.F.slot_list_count PySem.F.type_list_count mt_lcountS (pv 4) (pa_cons (pe_dget (hu_of hr) (pv 3) (pv 2) (fun _ _ => rfl)) pa_nil)) pe_int (nomark _)))))
          (pss_one (ps_raiseN rfl (X.t 2 _ _ rfl rfl) D_RangeError___init__ hr (L2N.takes_of rfl rfl rfl rfl) (by rfl) (pa_cons (pe_dget (hu_of hr) (pv 3) (pv 2) (fun _ _ => rfl)) pa_nil)))
          pss_nil)))
      (pss_one (ps_ret (pe_new T.ck D_System___init__ hr (by rfl) (pa_cons (pv 4) (pa_cons (pe_lc (own := [("rule", 6)]) (g := gName 6) rfl sc_System_renamed.nd (pi_list (pe_fld (pv 0) rfl)) (blkOk_by (N := ["self", "names", "old", "full", "told", "name", "rule"]) (sc := defScope s_System_renamed) (by decide +kernel)) (fun _ _ _ _ _ => pg_name (i := 6) sc_System_renamed.nd rfl (Or.inl rfl)) (fun _ _ _ _ _ => pts_nil) (fun _ _ _ _ _ => (pe_c D_renamed_rule hr (by rfl) (pa_cons (pv 6) (pa_cons (pv 3) pa_nil))))) pa_nil))))))))), ?_⟩
    have T2 := X.t 2 _ _ rfl rfl
    refine ⟨_, rfl, d, fK ks (fun x => .str (φ x)), ks, rfl, .inl hd.1, by unfold fK; rw [List.map_map]; rfl, lk, fun zs2 l pz2 sz2 nl => ?_⟩
    obtain rfl := sorted_unique (pz2.trans pz.symm) sz2 sz
    have s1 : Same H (upd H l (.lst (zs2.map V.str))) := Same.new nl
    have o1 : upd H l (.lst (zs2.map V.str)) l = some (.lst (zs2.map V.str)) := upd_same
    generalize upd H l (HO.lst (zs2.map V.str)) = H1 at s1 o1
    refine ⟨l, rfl, ⟨_, .inl (.inl o1)⟩, for_list (xs := zs2.map V.str) (fun i σ G => Same H1 G ∧ (∀ x ∈ zs2.take i, (!decide (x ∈ ns)) = false) ∧ ∃ y, σ = [some (.ref a), some (.ref d), y, none, none, none, none]) ⟨fun _ _ e => e, (fun _ m => nomatch m), none, rfl⟩ (fun _ _ _ _ h => .inl (.inl (h.1 _ _ o1))) ?_ ?_⟩
    · rintro i z σ G hz ⟨k, gm, y, rfl⟩
      obtain ⟨x, ex, rfl⟩ := map_get hz
      refine ⟨_, rfl, _, rfl, a, p, b, ns, rs, x, rfl, ss.same (s1.trans k), fun mx H' k' => ?_, fun mx => ?_⟩
      · exact ⟨k.trans k', take_all gm ex (by rw [decide_eq_true mx]; rfl), _, rfl⟩
      · exact (eU x (find_first gm ex (by rw [decide_eq_false mx]; rfl))).same (s1.trans k)
    rintro σ G ⟨k, gm, y, rfl⟩
    rw [List.length_map, List.take_length] at gm
    have f1 := find_none gm
    replace eN := eN f1
    have sk := s1.trans k
    obtain ⟨dx, fs, xs, h1, h2, h3, h4, h5, h6, h7⟩ := ss
    have lx : xs.length = rs.length := by rw [dpa_len h6, List.length_map]
    have lr := Y.lr
    have ln := Y.ln
    -- the whole dict
    refine ⟨_, rfl, a, C, dx, fs, _, rfl, sk _ _ h1, T.ck.cl, T.nN, h2, p, rfl, ⟨_, .inl (.inl (sk _ _ h4))⟩, fun F nF => ?_⟩
    refine dc_list (K := K) (a := p) (xs := ns.map V.str) (fun i G' => Same G G' ∧ DF G' F (ns.take i) (fun x => V.str (φ x))) ⟨Same.new nF, upd_same⟩ (fun i G' _ h => .inl (.inl (h.1 _ _ (sk _ _ h4)))) ?_ ?_
    · rintro i z G' ez ⟨sm, oF⟩
      obtain ⟨x, ex, rfl⟩ := map_get ez
      have nin : x ∉ ns.take i := nodup_take Y.nd ex
      obtain ⟨o, dg, eo⟩ := (hd.same (sk.trans sm)).getD x
      refine ⟨rfl, _, rfl, _, rfl, d, rfl, (hd.same (sk.trans sm)).isD, _, rfl, _, rfl, o, dg, ?_⟩
      rw [eo]
      refine ⟨_, .inr x, rfl, oF, ?_, fun b o e => ?_, ?_⟩
      · rw [fK_len, List.length_take]
        exact Nat.lt_of_le_of_lt (Nat.le_trans (Nat.min_le_right _ _) (by omega : ns.length ≤ 1000)) (by decide : 1000 < sizeLine)
      · rw [upd_ne (ne_of_none e nF)]
        exact sm _ _ e
      · show upd G' F _ F = _
        rw [upd_same, fK_new nin, take_succ ex, fK_snoc]
    rintro G' ⟨sm, oF⟩
    rw [List.length_map, List.take_length] at oF
    have s2 := sk.trans sm
    -- the new names
    refine ⟨_, rfl, a, C, dx, fs, _, rfl, s2 _ _ h1, T.ck.cl, T.nN, h2, p, rfl, ⟨_, .inl (.inl (s2 _ _ h4))⟩, fun L nL => ?_⟩
    refine lc_map (xs := ns.map V.str) (fun z => match z with | .str x => .str (φ x) | z => z) (.inl (.inl (s2 _ _ h4))) (by rw [List.length_map]; omega) nL (fun _ => rfl) ?_ ?_
    · intro z G2 R mz sG kq
      obtain ⟨x, mx, rfl⟩ := List.mem_map.mp mz
      exact ⟨_, rfl, _, rfl, F, _, rfl, (DF.same sG oF).get mx, kq⟩
    have sL := Same.new (o := .lst ((ns.map V.str).map fun z => match z with | .str x => V.str (φ x) | z => z)) nL
    have oL : upd G' L (.lst ((ns.map V.str).map fun z => match z with | .str x => V.str (φ x) | z => z)) L = some (.lst ((ns.map φ).map V.str)) := by
      rw [upd_same, List.map_map, List.map_map]
      rfl
    generalize upd G' L (.lst ((ns.map V.str).map fun z => match z with | .str x => V.str (φ x) | z => z)) = G3 at sL oL
    have s3 := s2.trans sL
    have oF3 := DF.same sL oF
    refine ⟨_, rfl, d, fK ks (fun x => .str (φ x)), ks, rfl, .inl ((hd.same s3).1), by unfold fK; rw [List.map_map]; rfl, lk, fun zs3 l2 pz3 sz3 nl2 => ?_⟩
    obtain rfl := sorted_unique (pz3.trans pz.symm) sz3 sz
    have s4 : Same G3 (upd G3 l2 (.lst (zs3.map V.str))) := Same.new nl2
    have o4 : upd G3 l2 (.lst (zs3.map V.str)) l2 = some (.lst (zs3.map V.str)) := upd_same
    generalize upd G3 l2 (HO.lst (zs3.map V.str)) = G4 at s4 o4
    refine ⟨l2, rfl, ⟨_, .inl (.inl o4)⟩, for_list (xs := zs3.map V.str) (fun i σ G => Same G4 G ∧ (∀ x ∈ zs3.take i, badNew ns φ x = false) ∧ ∃ y, σ = [some (.ref a), some (.ref d), y, some (.ref F), some (.ref L), none, none]) ⟨fun _ _ e => e, (fun _ m => nomatch m), y, rfl⟩ (fun _ _ _ _ h => .inl (.inl (h.1 _ _ o4))) ?_ ?_⟩
    · rintro i z σ G5 hz ⟨k5, gm2, y, rfl⟩
      obtain ⟨x, ex, rfl⟩ := map_get hz
      have mz := List.mem_of_getElem? ex
      have mx : x ∈ ns := by
        have := none_find f1 x mz
        simpa using this
      have oF5 := DF.same (s4.trans k5) oF3
      have raise : zs3.find? (badNew ns φ) = some x → ∀ H3, Same H H3 → ∀ a, H3 a = none → spIni K (.ref a :: ([.str (φ x)] ++ [])) (upd H3 a (exo a c2 none))
          (fun u H2 => u = .non ∧ ∃ (d : Addr) (fs : List (Str × V)), H2 a = some (exo a c2 (some d)) ∧ H2 d = some (exd d fs) ∧ H3 d = none ∧ E (.ref c2) (some d) (upd (del H2 a) d (.xd fs))) (fun _ _ _ => False) := fun e H3 k3 => by
        obtain ⟨c, ec, e⟩ := eN x e
        obtain rfl := Option.some.inj ec
        exact mk_raise T2.ox T2.nV fun d' H4 k4 nd' hd' => e d' H4 (k3.trans k4) (same_none k3 nd') hd'
      refine ⟨_, rfl, _, rfl, F, _, rfl, oF5.get mx, φ x, rfl, hsz x (pz.mem_iff.mp mz), fun G6 k6 => ?_⟩
      have k06 := (s3.trans s4).trans (k5.trans k6)
      have oF6 := DF.same k6 oF5
      have rz : badNew ns φ x = true → zs3.find? (badNew ns φ) = some x := fun e => find_first gm2 ex e
      cases hx : nameOk (φ x) with
      | false =>
        refine ⟨false, rfl, iteT ⟨_, rfl, _, rfl, F, _, rfl, oF6.get mx, by show 1 ≤ 1000; decide, raise (rz ?_) _ k06⟩⟩
        unfold badNew
        rw [hx]
        rfl
      | true =>
        have oL6 := (s4.trans (k5.trans k6)) _ _ oL
        refine ⟨true, rfl, iteF ?_⟩
        by_cases one : (ns.map φ).count (φ x) ≤ 1
        · refine ⟨_, rfl, ty_lst oL6, _, rfl, _, rfl, F, _, rfl, oF6.get mx, L, ns.map φ, φ x, rfl, rfl, .inl (.inl oL6), _, _, rfl, rfl, false, ?_, iteF ⟨k5.trans k6, take_all gm2 ex ?_, _, rfl⟩⟩
          · show V.bl (decide ((1 : Int) < _)) = V.bl false
            rw [decide_eq_false (by omega)]
          · unfold badNew
            rw [hx, decide_eq_true one]
            rfl
        · refine ⟨_, rfl, ty_lst oL6, _, rfl, _, rfl, F, _, rfl, oF6.get mx, L, ns.map φ, φ x, rfl, rfl, .inl (.inl oL6), _, _, rfl, rfl, true, ?_, iteT ⟨_, rfl, _, rfl, F, _, rfl, oF6.get mx, by show 1 ≤ 1000; decide, raise (rz ?_) _ k06⟩⟩
          · show V.bl (decide ((1 : Int) < _)) = V.bl true
            rw [decide_eq_true (by omega)]
          · unfold badNew
            rw [hx, decide_eq_false one]
            rfl
    rintro σ G5 ⟨k5, gm2, y, rfl⟩
    rw [List.length_map, List.take_length] at gm2
    have Y2 : Sy (ns.map φ) (renRs φ rs) := sy_new Y hd.2 (fun x m => by have := none_find f1 x (pz.mem_iff.mpr m); simpa using this) (fun x m => gm2 x (pz.mem_iff.mpr m))
    replace q := q f1 (find_none gm2)
    have s5 := (s3.trans s4).trans k5
    have oL5 := (s4.trans k5) _ _ oL
    have oF5 := DF.same (s4.trans k5) oF3
    have d5 := dpa_same s5 h6
    refine ⟨_, rfl, _, rfl, a, C, dx, fs, _, rfl, s5 _ _ h1, T.ck.cl, T.nR, h3, b, rfl, ⟨_, .inl (.inl (s5 _ _ h5))⟩, fun D nD => ?_⟩
    refine lc_rel (xs := xs) (fun i G y => ∃ r, rs[i]? = some r ∧ Dp K G y (renR φ r).d) (.inl (.inl (s5 _ _ h5))) (by omega) nD ?_ (fun _ => rfl) ?_ ?_
    · rintro i G G' y acc k ol ⟨r, er, h⟩
      exact ⟨r, er, dp_kl ⟨⟨_, ol⟩, k⟩ h (noL_rl _)⟩
    · intro i z G R ez sm k
      obtain ⟨r, er, dz⟩ := dpa_map_get (dpa_same sm d5) ez
      have RB := Y.rl r (List.mem_of_getElem? er)
      exact ⟨_, rfl, _, rfl, z, r, F, ns, φ, rfl, dz, RB.nm, RB.cs, DF.same sm oF5, fun v' G' k' dv => k v' G' k' ⟨r, er, dv⟩⟩
    intro G6 ys s6 oD lys hys
    have dy : DpAll K G6 ys ((renRs φ rs).map Rl.d) := by
      unfold renRs
      rw [List.map_map]
      exact dpa_at (by rw [lys, lx]) hys
    refine mk_sys (.inl (.inl (s6 _ _ oL5))) (.inl (.inl oD)) dy Y2.okS (fun o G7 p' q' ss' pm so s7 no np nq at' => ?_)
    exact q G7 o ((s5.trans s6).trans s7)
end

end Pk09
namespace Pk09
open PySem PySem.Spec PyProof.Rows L2 Gd
section
variable {P : Program} {w : World} {K : PySem.W.Frag} {mg : Str → Option Value} {base : Heap}
set_option maxHeartbeats 8000000 in
-- _law_raised: level 8; builtins []; cells []; slots: 0 door, 1 made, 2 given, 3 e
theorem ok__law_raised {C : Addr} (T : SysT K mg C) {c0 c1 c2 c3 c4 c5 c6 c7 c8 c9 fI : Addr} (X : ErrT K mg [c0, c1, c2, c3, c4, c5, c6, c7, c8, c9] ["RangeError", "InvalidRange", "InvalidName", "InvalidSystem", "InvalidRule", "UnknownName", "InvalidNumber", "InvalidMove", "NothingToUndo", "Unreadable"] fI) (h : At K mg "_law_raised" s__law_raised ["door", "made", "given"]) (D_System_beside : MtN P w K mg base 6 C "beside" "System.beside" s_System_beside ["self", "other"] (sp_System_beside K C [c0, c1, c2, c3, c4, c5, c6, c7, c8, c9])) (D_System_moved : MtN P w K mg base 7 C "moved" "System.moved" s_System_moved ["self", "shifts"] (sp_System_moved K C [c0, c1, c2, c3, c4, c5, c6, c7, c8, c9])) (D_System_renamed : MtN P w K mg base 6 C "renamed" "System.renamed" s_System_renamed ["self", "names"] (sp_System_renamed K C [c0, c1, c2, c3, c4, c5, c6, c7, c8, c9])) (D_System_stretched : MtN P w K mg base 7 C "stretched" "System.stretched" s_System_stretched ["self", "times"] (sp_System_stretched K C [c0, c1, c2, c3, c4, c5, c6, c7, c8, c9])) (D_System_with_rule : MtN P w K mg base 6 C "with_rule" "System.with_rule" s_System_with_rule ["self", "rule"] (sp_System_with_rule K C [c0, c1, c2, c3, c4, c5, c6, c7, c8, c9])) (D_System_without : MtN P w K mg base 6 C "without" "System.without" s_System_without ["self", "numbers"] (sp_System_without K C [c0, c1, c2, c3, c4, c5, c6, c7, c8, c9])) (D__law_caught : DnE P w K mg base 1 "_law_caught" s__law_caught ["e"] (sp__law_caught K [c0, c1, c2, c3, c4, c5, c6, c7, c8, c9])) : Dn P w K mg base 8 "_law_raised" s__law_raised ["door", "made", "given"] (sp__law_raised K C) := by
  refine .mk' h fun f fd F => F.ok sc__law_raised (fun vs H Q E h => ?_) (fun cdv A outer s H vs Q E hr h => ?_)
  · obtain ⟨door, a, p, q0, ns, rs, gv, due, rfl, sa, so, Y, ask, q⟩ := h
    rfl
  · obtain ⟨door, a, p, q0, ns, rs, gv, due, rfl, sa, so, Y, ask, q⟩ := h
    refine ⟨_, (pss_cons (L2N.ps_try_as (i := 3) rfl rfl sc__law_raised.nd rfl rfl ⟨rfl, by decide, .inl (X.t 0 _ _ rfl rfl).mg_⟩ takes0N (fun W pn xe tk own =>
        (pss_one (ps_if (pt_cmpR op_eq (pv 0) pe_int (nomark _))
          (pss_one (ps_expr (pe_mN tk T.ck D_System_without hr (pv 1) (pa_cons (pv 2) pa_nil))))
          (pss_one (ps_if (pt_cmpR op_eq (pv 0) pe_int (nomark _))
            (pss_one (ps_expr (pe_mN tk T.ck D_System_with_rule hr (pv 1) (pa_cons (pv 2) pa_nil))))
            (pss_one (ps_if (pt_cmpR op_eq (pv 0) pe_int (nomark _))
              (pss_one (ps_expr (pe_mN tk T.ck D_System_beside hr (pv 1) (pa_cons (pv 2) pa_nil))))
              (pss_one (ps_if (pt_cmpR op_eq (pv 0) pe_int (nomark _))
                (pss_one (ps_expr (pe_mN tk T.ck D_System_renamed hr (pv 1) (pa_cons (pv 2) pa_nil))))
                (pss_one (ps_if (pt_cmpR op_eq (pv 0) pe_int (nomark _))
                  (pss_one (ps_expr (pe_mN tk T.ck D_System_moved hr (pv 1) (pa_cons (pv 2) pa_nil))))
                  (pss_one (ps_expr (pe_mN tk T.ck D_System_stretched hr (pv 1) (pa_cons (pv 2) pa_nil))))))))))))))) (fun a oe cls d pn zn fl =>
        (pss_one (ps_ret (pe_cE rfl List.mem_cons_self zn fl D__law_caught (roomS hr) (by rfl) (pa_cons (pv 3) pa_nil))))))
      (pss_one (ps_ret pe_str))), ?_⟩
    have xInvalidName := errT_exm (i := 2) X rfl rfl (by decide)
    have xInvalidSystem := errT_exm (i := 3) X rfl rfl (by decide)
    have xInvalidRule := errT_exm (i := 4) X rfl rfl (by decide)
    have xUnknownName := errT_exm (i := 5) X rfl rfl (by decide)
    have xInvalidNumber := errT_exm (i := 6) X rfl rfl (by decide)
    have one : ∀ t w (y : V) (d : PyData) H', H' t = some (.tup [.str w, y]) → Dp K H' y d → Dp K H' (.ref t) (.tuple [.str w, d]) := fun t w y d H' e h => .tup (.inl (.inl e)) (.cons (.str _) (.cons h .nil))
    have ok := Y.okS
    have lr := Y.lr
    have ln := Y.ln
    obtain ⟨dx, fs, eO, no⟩ := sa.insM
    cases ask with
    | wo hl =>
      refine ⟨_, rfl, rfl, true, dIntT, iteT ⟨_, rfl, a, dx, fs, rfl, eO, no _ (by decide) (by decide), _, rfl, a, _, p, q0, ns, rs, _, rfl, sa, hl, ok, ?_, ?_⟩⟩
      · intro e H' o k
        rw [e] at q
        exact q _ _ k (.str _)
      · intro m e
        rw [e] at q
        refine ⟨c4, rfl, fun d H1 k1 nd' ed => ⟨true, xInvalidRule, fun _ e ne' => ⟨_, rfl, 4, c4, d, _, rfl, rfl, rfl, by decide, by decide, rfl, ed, fun t H2 k2 nt et => q _ _ (k1.trans k2) ?_⟩, fun q => nomatch q⟩⟩
        exact one _ _ _ _ _ et (.int _)
    | wr hv lc =>
      refine ⟨_, rfl, rfl, false, dIntF (by decide), iteF ⟨_, rfl, rfl, true, dIntT, iteT ⟨_, rfl, a, dx, fs, rfl, eO, no _ (by decide) (by decide), _, rfl, a, _, p, q0, ns, rs, _, rfl, sa, hv, ok, lc, by omega, ?_, ?_⟩⟩⟩
      · intro e H' o k
        rw [e, if_neg Bool.false_ne_true] at q
        exact q _ _ k (.str _)
      · intro e
        rw [e, if_pos rfl] at q
        refine ⟨c3, rfl, fun d H1 k1 nd' ed => ⟨true, xInvalidSystem, fun _ e ne' => ⟨_, rfl, 3, c3, d, _, rfl, rfl, rfl, by decide, by decide, rfl, ed, fun t H2 k2 nt et => q _ _ (k1.trans k2) ?_⟩, fun q => nomatch q⟩⟩
        exact one _ _ _ _ _ et (.int _)
    | be s2 ok2 ll nf =>
      refine ⟨_, rfl, rfl, false, dIntF (by decide), iteF ⟨_, rfl, rfl, false, dIntF (by decide), iteF ⟨_, rfl, rfl, true, dIntT, iteT ⟨_, rfl, a, dx, fs, rfl, eO, no _ (by decide) (by decide), _, rfl, a, p, q0, ns, rs, _, _, _, _, rfl, sa, s2, ok, ok2, ll, by omega, nf, ?_, ?_⟩⟩⟩⟩
      · intro e H' o k
        rw [e] at q
        exact q _ _ k (.str _)
      · intro x e
        rw [e] at q
        refine ⟨c2, rfl, fun d H1 k1 nd' ed => ⟨true, xInvalidName, fun _ e ne' => ⟨_, rfl, 2, c2, d, _, rfl, rfl, rfl, by decide, by decide, rfl, ed, fun t H2 k2 nt et => q _ _ (k1.trans k2) ?_⟩, fun q => nomatch q⟩⟩
        exact one _ _ _ _ _ et (.str _)
    | re hd lk pz sz hs =>
      refine ⟨_, rfl, rfl, false, dIntF (by decide), iteF ⟨_, rfl, rfl, false, dIntF (by decide), iteF ⟨_, rfl, rfl, false, dIntF (by decide), iteF ⟨_, rfl, rfl, true, dIntT, iteT ⟨_, rfl, a, dx, fs, rfl, eO, no _ (by decide) (by decide), _, rfl, a, p, q0, ns, rs, _, _, _, _, rfl, sa, Y, hd, lk, pz, sz, hs, ?_, ?_, ?_⟩⟩⟩⟩⟩
      · intro x e
        unfold dueN at q
        rw [e] at q
        refine ⟨c5, rfl, fun d H1 k1 nd' ed => ⟨true, xUnknownName, fun _ e ne' => ⟨_, rfl, 5, c5, d, _, rfl, rfl, rfl, by decide, by decide, rfl, ed, fun t H2 k2 nt et => q _ _ (k1.trans k2) ?_⟩, fun q => nomatch q⟩⟩
        exact one _ _ _ _ _ et (.str _)
      · intro e x e2
        unfold dueN at q
        rw [e, e2] at q
        refine ⟨c2, rfl, fun d H1 k1 nd' ed => ⟨true, xInvalidName, fun _ e ne' => ⟨_, rfl, 2, c2, d, _, rfl, rfl, rfl, by decide, by decide, rfl, ed, fun t H2 k2 nt et => q _ _ (k1.trans k2) ?_⟩, fun q => nomatch q⟩⟩
        exact one _ _ _ _ _ et (.str _)
      · intro e e2 H' o k
        unfold dueN at q
        rw [e, e2] at q
        exact q _ _ k (.str _)
    | mo Y2 hs hd lk pz sz =>
      refine ⟨_, rfl, rfl, false, dIntF (by decide), iteF ⟨_, rfl, rfl, false, dIntF (by decide), iteF ⟨_, rfl, rfl, false, dIntF (by decide), iteF ⟨_, rfl, rfl, false, dIntF (by decide), iteF ⟨_, rfl, rfl, true, dIntT, iteT ⟨_, rfl, a, dx, fs, rfl, eO, no _ (by decide) (by decide), _, rfl, a, p, q0, ns, rs, _, _, _, _, rfl, sa, so, Y, Y2, hs, hd, lk, pz, sz, ?_, ?_⟩⟩⟩⟩⟩⟩
      · intro e H' o k
        rw [e] at q
        exact q _ _ k (.str _)
      · intro x e
        rw [e] at q
        refine ⟨c5, rfl, fun d H1 k1 nd' ed => ⟨true, xUnknownName, fun _ e ne' => ⟨_, rfl, 5, c5, d, _, rfl, rfl, rfl, by decide, by decide, rfl, ed, fun t H2 k2 nt et => q _ _ (k1.trans k2) ?_⟩, fun q => nomatch q⟩⟩
        exact one _ _ _ _ _ et (.str _)
    | st ht Y2 =>
      refine ⟨_, rfl, rfl, false, dIntF (by decide), iteF ⟨_, rfl, rfl, false, dIntF (by decide), iteF ⟨_, rfl, rfl, false, dIntF (by decide), iteF ⟨_, rfl, rfl, false, dIntF (by decide), iteF ⟨_, rfl, rfl, false, dIntF (by decide), iteF ⟨_, rfl, a, dx, fs, rfl, eO, no _ (by decide) (by decide), _, rfl, a, p, q0, ns, rs, _, rfl, sa, so, Y, ht, ?_, ?_⟩⟩⟩⟩⟩⟩
      · intro e
        refine ⟨Y2 e, fun H' o k => ?_⟩
        rw [if_pos (by omega)] at q
        exact q _ _ k (.str _)
      · intro e
        rw [if_neg (by omega)] at q
        refine ⟨c6, rfl, fun d H1 k1 nd' ed => ⟨true, xInvalidNumber, fun _ e ne' => ⟨_, rfl, 6, c6, d, _, rfl, rfl, rfl, by decide, by decide, rfl, ed, fun t H2 k2 nt et => q _ _ (k1.trans k2) ?_⟩, fun q => nomatch q⟩⟩
        exact one _ _ _ _ _ et (.int _)
end

end Pk09
namespace Pk09
open PySem PySem.Spec PyProof.Rows L2 Gd
section
variable {P : Program} {w : World} {K : PySem.W.Frag} {mg : Str → Option Value} {base : Heap}
set_option maxHeartbeats 8000000 in
-- _law_renamed_due: level 1; builtins ['len', 'sorted']; cells ['turned']; slots: 0 words, 1 turned, 2 old, 3 later, 4 new, 5 odd, 6 word, 7 sign
theorem ok__law_renamed_due (h : At K mg "_law_renamed_due" s__law_renamed_due ["words", "turned"]) (m_len : mg "len" = none) (m_sorted : mg "sorted" = none) : Dn P w K mg base 1 "_law_renamed_due" s__law_renamed_due ["words", "turned"] (sp__law_renamed_due K) := by
  refine .mk' h fun f fd F => F.ok sc__law_renamed_due (fun vs H Q E h => ?_) (fun cdv A outer s H vs Q E hr h => ?_)
  · obtain ⟨W, d, ws, ns, ks, zs, φ, rfl, hW, pn, hd, lk, pz, sz, hsz, lw, q⟩ := h
    rfl
  · obtain ⟨W, d, ws, ns, ks, zs, φ, rfl, hW, pn, hd, lk, pz, sz, hsz, lw, q⟩ := h
    refine ⟨_, (pss_cons (ps_for PassesOwn.never rfl (pi_list (pe_callB (call_sortedD rfl) (by rfl) m_sorted (by decide +kernel) (pa_cons (pv 1) pa_nil))) (pg_name (i := 2) sc__law_renamed_due.nd rfl (.inl rfl))
        (pss_one (ps_if (pt_cmpR op_notIn_seq (pv 2) (pv 0) (by rfl))
          (pss_one (ps_ret (pe_tup (pa_cons pe_str (pa_cons (pv 2) pa_nil)))))
          pss_nil)))
      (pss_cons (ps_setLc (i := 3) (own := [("word", 6)]) (g := gName 6) rfl sc__law_renamed_due.nd rfl rfl (sw_true rfl rfl rfl (by decide +kernel)) (pi_list (pv 0)) (blkOk_by (N := ["words", "turned", "old", "later", "new", "odd", "word", "sign"]) (sc := defScope s__law_renamed_due) (by decide +kernel)) (fun _ _ _ _ _ => pg_name (i := 6) sc__law_renamed_due.nd rfl (Or.inl rfl)) (fun _ _ _ _ _ => pts_nil) (fun _ _ _ _ _ => (pe_dget2 (hu_of hr) (pv 1) (pv 6) (pv 6) ⟨rfl, rfl, rfl, rfl⟩)))
      (pss_cons (ps_for PassesOwn.never rfl (pi_list (pe_callB (call_sortedD rfl) (by rfl) m_sorted (by decide +kernel) (pa_cons (pv 1) pa_nil))) (pg_name (i := 2) sc__law_renamed_due.nd rfl (.inl rfl))
        (pss_cons (ps_set (i := 4) sc__law_renamed_due.nd rfl (.inl rfl) (pe_dget (hu_of hr) (pv 1) (pv 2) (fun _ _ => rfl)))
        (pss_cons (ps_setLc (i := 5) (own := [("sign", 7)]) (g := gName 7) rfl sc__law_renamed_due.nd rfl rfl (sw_true rfl rfl rfl (by decide +kernel)) (pi_str (pv 4)) (blkOk_by (N := ["words", "turned", "old", "later", "new", "odd", "word", "sign"]) (sc := defScope s__law_renamed_due) (by decide +kernel)) (fun _ _ _ _ _ => pg_name (i := 7) sc__law_renamed_due.nd rfl (Or.inl rfl)) (fun _ _ _ _ _ => pts_one (pt_cmpR op_notIn_sign (pv 7) pe_str (by rfl))) (fun _ _ _ _ _ => (pv 7)))
        (pss_one (ps_if (PW.pt (pw_or (pt_cmpR (op_neD hr.units) (pv 5) (pe_lst pa_nil) (nomark _)) (pw_or (pt_not (pt_chain op_le op_le pe_int (pe_callB call_len_str (by rfl) m_len PySem.boot_len (pa_cons (pv 4) pa_nil)) pe_int)) (pw_or1 (pt_cmpR op_gt (pe_bm PySem.F.plainAttrs_list PySem.F.slot_list_count PySem.F.type_list_count mt_lcountS (pv 3) (pa_cons (pv 4) pa_nil)) pe_int (nomark _))))))
          (pss_one (ps_ret (pe_tup (pa_cons pe_str (pa_cons (pv 4) pa_nil)))))
          pss_nil)))))
      (pss_one (ps_ret pe_str))))), ?_⟩
    refine ⟨_, rfl, d, fK ks (fun x => .str (φ x)), ks, rfl, .inl hd.1, by unfold fK; rw [List.map_map]; rfl, lk, fun zs2 l pz2 sz2 nl => ?_⟩
    obtain rfl := sorted_unique (pz2.trans pz.symm) sz2 sz
    have s1 : Same H (upd H l (.lst (zs2.map V.str))) := Same.new nl
    have o1 : upd H l (.lst (zs2.map V.str)) l = some (.lst (zs2.map V.str)) := upd_same
    generalize upd H l (HO.lst (zs2.map V.str)) = H1 at s1 o1
    refine ⟨l, rfl, ⟨_, .inl (.inl o1)⟩, for_list (xs := zs2.map V.str) (fun i σ G => Same H1 G ∧ (∀ x ∈ zs2.take i, (!decide (x ∈ ns)) = false) ∧ ∃ y, σ = [some (.ref W), some (.ref d), y, none, none, none, none, none]) ⟨fun _ _ e => e, (fun _ m => nomatch m), none, rfl⟩ (fun _ _ _ _ h => .inl (.inl (h.1 _ _ o1))) ?_ ?_⟩
    · rintro i z σ G hz ⟨k, gm, y, rfl⟩
      obtain ⟨x, ex, rfl⟩ := map_get hz
      refine ⟨_, rfl, _, rfl, W, _, rfl, .inl ((s1.trans k).seq hW), rfl, flat_strs ws, ?_⟩
      rw [if_pos rfl, inV_strs, ← mem_dec pn]
      by_cases c : x ∈ ns
      · rw [decide_eq_true c]
        exact ⟨false, rfl, iteF ⟨k, take_all gm ex (by rw [decide_eq_true c]; rfl), _, rfl⟩⟩
      · rw [decide_eq_false c]
        refine ⟨true, rfl, iteT ⟨_, rfl, by show 2 ≤ sizeLine; decide, fun t nt => q _ _ ((s1.trans k).trans (Same.new nt)) ?_⟩⟩
        unfold dueN
        rw [find_first gm ex (by rw [decide_eq_false c]; rfl)]
        exact .tup (.inl (.inl upd_same)) (.cons (.str _) (.cons (.str _) .nil))
    rintro σ G ⟨k, gm, y, rfl⟩
    rw [List.length_map, List.take_length] at gm
    have f1 := find_none gm
    have sk := s1.trans k
    have hd1 := hd.same sk
    have hW1 := sk.seq hW
    refine ⟨_, rfl, W, rfl, ⟨_, hW1⟩, fun L nL => ?_⟩
    refine lc_map (xs := ws.map V.str) (fun z => match z with | .str x => .str (φ x) | z => z) hW1 (by rw [List.length_map]; omega) nL (fun _ => rfl) ?_ ?_
    · intro z G2 R mz sG kq
      obtain ⟨x, mx, rfl⟩ := List.mem_map.mp mz
      obtain ⟨o, dg, eo⟩ := (hd1.same sG).getD x
      refine ⟨_, rfl, d, rfl, (hd1.same sG).isD, _, rfl, _, rfl, o, dg, ?_⟩
      rw [eo]
      exact kq
    have sL := Same.new (o := .lst ((ws.map V.str).map fun z => match z with | .str x => V.str (φ x) | z => z)) nL
    have oL : upd G L (.lst ((ws.map V.str).map fun z => match z with | .str x => V.str (φ x) | z => z)) L = some (.lst ((ws.map φ).map V.str)) := by
      rw [upd_same, List.map_map, List.map_map]
      rfl
    generalize upd G L (.lst ((ws.map V.str).map fun z => match z with | .str x => V.str (φ x) | z => z)) = G3 at sL oL
    have s3 := sk.trans sL
    refine ⟨_, rfl, d, fK ks (fun x => .str (φ x)), ks, rfl, .inl ((hd.same s3).1), by unfold fK; rw [List.map_map]; rfl, lk, fun zs3 l2 pz3 sz3 nl2 => ?_⟩
    obtain rfl := sorted_unique (pz3.trans pz.symm) sz3 sz
    have s4 : Same G3 (upd G3 l2 (.lst (zs3.map V.str))) := Same.new nl2
    have o4 : upd G3 l2 (.lst (zs3.map V.str)) l2 = some (.lst (zs3.map V.str)) := upd_same
    generalize upd G3 l2 (HO.lst (zs3.map V.str)) = G4 at s4 o4
    have s04 := s3.trans s4
    refine ⟨l2, rfl, ⟨_, .inl (.inl o4)⟩, for_list (xs := zs3.map V.str) (fun i σ G => Same G4 G ∧ (∀ x ∈ zs3.take i, badNew ns φ x = false) ∧ ∃ y y4 y5, σ = [some (.ref W), some (.ref d), y, some (.ref L), y4, y5, none, none]) ⟨fun _ _ e => e, (fun _ m => nomatch m), y, none, none, rfl⟩ (fun _ _ _ _ h => .inl (.inl (h.1 _ _ o4))) ?_ ?_⟩
    · rintro i z σ G5 hz ⟨k5, gm2, y, y4, y5, rfl⟩
      obtain ⟨x, ex, rfl⟩ := map_get hz
      have mk := pz.mem_iff.mp (List.mem_of_getElem? ex)
      obtain ⟨hx, so⟩ := hsz x mk
      have kk := s04.trans k5
      have retD : badNew ns φ x = true → ∀ (G : Hp) (t : Addr), Dp K (upd G t (.tup [.str "name", .str (φ x)])) (.ref t) (dueN ns zs3 φ) := fun e G t => by
        unfold dueN
        rw [f1, find_first gm2 ex e]
        exact .tup (.inl (.inl upd_same)) (.cons (.str _) (.cons (.str _) .nil))
      refine ⟨_, rfl, _, rfl, d, _, rfl, (hd.same kk).1.get mk, ?_⟩
      refine ⟨_, rfl, φ x, rfl, fun D nD => ?_⟩
      refine lc_it (walk_str (z := φ x)) (fun i G => Same G5 G ∧ G D = some (.lst ((((φ x).cps.toList.take i).filter fun c => !(decide (97 ≤ c) && decide (c ≤ 122))).map fun c => V.str ⟨#[c]⟩))) ⟨Same.new nD, upd_same⟩ (fun _ _ _ _ => trivial) ?_ ?_
      · rintro i z G G' hi ⟨sm, oD⟩ ⟨rfl, c, ec, rfl⟩
        have ec' : (φ x).cps.toList[i]? = some c := by rw [Array.getElem?_toList]; exact ec
        have tk : (φ x).cps.toList.take (i + 1) = (φ x).cps.toList.take i ++ [c] := by
          rw [List.take_add_one, ec']
          rfl
        have al : ((((φ x).cps.toList.take i).filter fun c => !(decide (97 ≤ c) && decide (c ≤ 122))).map fun c => V.str ⟨#[c]⟩).length < sizeLine := by
          rw [List.length_map]
          refine Nat.lt_of_le_of_lt (Nat.le_trans (List.length_filter_le _ _) ?_) (by decide : 1000 < sizeLine)
          rw [List.length_take]
          exact Nat.le_trans (Nat.min_le_right _ _) (by rw [Array.length_toList]; exact hx)
        rw [tk, List.filter_append, List.map_append]
        refine ⟨rfl, _, rfl, c, _, rfl, rfl, !(decide (97 ≤ c) && decide (c ≤ 122)), by rw [abc_in], ?_⟩
        cases g : !(decide (97 ≤ c) && decide (c ≤ 122)) with
        | true =>
          have f1 : ([c].filter fun c => !(decide (97 ≤ c) && decide (c ≤ 122))) = [c] := by rw [List.filter_cons, g]; rfl
          rw [f1]
          exact iteT ⟨_, rfl, _, oD, al, fun b o e => by rw [upd_ne (ne_of_none e nD)]; exact sm _ _ e, upd_same⟩
        | false =>
          have f1 : ([c].filter fun c => !(decide (97 ≤ c) && decide (c ≤ 122))) = [] := by rw [List.filter_cons, g]; rfl
          rw [f1]
          refine iteF ⟨sm, ?_⟩
          rw [List.map_nil, List.append_nil]
          exact oD
      rintro G6 ⟨sm, oD⟩
      have e0 : (φ x).cps.toList.take (φ x).cps.size = (φ x).cps.toList := by
        rw [← Array.length_toList, List.take_length]
      rw [e0] at oD
      refine ⟨_, rfl, by show 0 ≤ sizeLine; decide, fun N0 nN0 => ?_⟩
      have sN0 := Same.new (o := .lst []) nN0
      have oN0 : upd G6 N0 (.lst []) N0 = some (.lst []) := upd_same
      generalize upd G6 N0 (HO.lst ([] : List V)) = G7 at sN0 oN0
      have k57 := sm.trans sN0
      have kk7 := kk.trans k57
      have oL7 := (s4.trans (k5.trans k57)) _ _ oL
      refine ⟨_, .list [], .lst (.inl (.inl (sN0 _ _ oD))) (odd_dp _), .lst (.inl (.inl oN0)) .nil, (odd_ly so).shaped, rfl, ?_⟩
      have oE := odd_eq (x := φ x)
      unfold oddL at oE
      rw [oE]
      have bN : badNew ns φ x = !(((decide (1 ≤ (φ x).cps.size) && decide ((φ x).cps.size ≤ 8)) && (φ x).cps.toList.all fun c => decide (97 ≤ c) && decide (c ≤ 122)) && decide ((ns.map φ).count (φ x) ≤ 1)) := rfl
      cases hA : (φ x).cps.toList.all fun c => decide (97 ≤ c) && decide (c ≤ 122) with
      | false => exact ⟨true, rfl, iteT (iteT ⟨_, rfl, by show 2 ≤ sizeLine; decide, fun t nt => q _ _ (kk7.trans (Same.new nt)) (retD (by rw [bN, hA, Bool.and_false]; rfl) _ _)⟩)⟩
      | true =>
        refine ⟨false, rfl, iteF ?_⟩
        have hl : (φ x).length ≤ 1000 := hx
        refine ⟨_, rfl, φ x, rfl, Nat.le_trans (by omega : (φ x).length ≤ 100000) (by decide), _, _, rfl, rfl, _, rfl, ?_⟩
        rw [hA, Bool.and_true] at bN
        by_cases c1 : 1 ≤ (φ x).cps.size
        · rw [decide_eq_true (show (1 : Int) ≤ ((φ x).length : Int) from Int.ofNat_le.mpr c1)]
          rw [decide_eq_true c1, Bool.true_and] at bN
          refine iteT ⟨_, _, rfl, rfl, _, rfl, ?_⟩
          by_cases c2 : (φ x).cps.size ≤ 8
          · rw [decide_eq_true (show ((φ x).length : Int) ≤ 8 from Int.ofNat_le.mpr c2)]
            rw [decide_eq_true c2, Bool.true_and] at bN
            refine iteF ?_
            refine ⟨_, rfl, ty_lst oL7, _, rfl, L, ws.map φ, φ x, rfl, rfl, .inl (.inl oL7), _, _, rfl, rfl, ?_⟩
            rw [count_map_perm pn]
            by_cases one : (ns.map φ).count (φ x) ≤ 1
            · refine ⟨false, ?_, iteF ⟨k5.trans k57, take_all gm2 ex ?_, _, _, _, rfl⟩⟩
              · show V.bl (decide ((1 : Int) < _)) = V.bl false
                rw [decide_eq_false (by omega)]
              · rw [bN, decide_eq_true one]
                rfl
            · refine ⟨true, ?_, iteT ⟨_, rfl, by show 2 ≤ sizeLine; decide, fun t nt => q _ _ (kk7.trans (Same.new nt)) (retD ?_ _ _)⟩⟩
              · show V.bl (decide ((1 : Int) < _)) = V.bl true
                rw [decide_eq_true (by omega)]
              · rw [bN, decide_eq_false one]
                rfl
          · rw [decide_eq_false (show ¬ ((φ x).length : Int) ≤ 8 from fun z => c2 (Int.ofNat_le.mp z))]
            rw [decide_eq_false c2, Bool.false_and] at bN
            exact iteT (iteT ⟨_, rfl, by show 2 ≤ sizeLine; decide, fun t nt => q _ _ (kk7.trans (Same.new nt)) (retD bN _ _)⟩)
        · rw [decide_eq_false (show ¬ (1 : Int) ≤ ((φ x).length : Int) from fun z => c1 (Int.ofNat_le.mp z))]
          rw [decide_eq_false c1, Bool.false_and, Bool.false_and] at bN
          exact iteF ⟨_, rfl, iteT (iteT ⟨_, rfl, by show 2 ≤ sizeLine; decide, fun t nt => q _ _ (kk7.trans (Same.new nt)) (retD bN _ _)⟩)⟩
    · rintro σ G ⟨k5, gm2, y, y4, y5, rfl⟩
      rw [List.length_map, List.take_length] at gm2
      refine q _ _ (s04.trans k5) ?_
      unfold dueN
      rw [f1, find_none gm2]
      exact .str _
end

end Pk09
namespace Pk09
open PySem PySem.Spec PyProof.Rows L2 Gd
section
variable {P : Program} {w : World} {K : PySem.W.Frag} {mg : Str → Option Value} {base : Heap}
set_option maxHeartbeats 8000000 in
-- _law_beside_right: level 9; builtins ['len', 'sorted']; cells ['words']; slots: 0 rng, 1 made, 2 words, 3 free, 4 shared, 5 word
theorem ok__law_beside_right {C : Addr} (T : SysT K mg C) (h : At K mg "_law_beside_right" s__law_beside_right ["rng", "made", "words"]) (D_System___init__ : Mt P w K mg base 4 C "__init__" "System.__init__" s_System___init__ ["self", "names", "rules"] (sp_System___init__ K C)) (D__law_draw : Dn P w K mg base 1 "_law_draw" s__law_draw ["rng", "limit"] (sp__law_draw K)) (D__law_raised : Dn P w K mg base 8 "_law_raised" s__law_raised ["door", "made", "given"] (sp__law_raised K C)) (m_len : mg "len" = none) (m_sorted : mg "sorted" = none) : Dn P w K mg base 9 "_law_beside_right" s__law_beside_right ["rng", "made", "words"] (sp__law_beside_right K C) := by
  refine .mk' h fun f fd F => F.ok sc__law_beside_right (fun vs H Q E h => ?_) (fun cdv A outer s H vs Q E hr h => ?_)
  · obtain ⟨g, O, W, R, P1, R1, n, ws, ss, rr, xs, rfl, L, hn, Wg, Rg_, P1g, R1g, wok, gd, pm, so, wl, lr, q⟩ := h
    rfl
  · obtain ⟨g, O, W, R, P1, R1, n, ws, ss, rr, xs, rfl, L, hn, Wg, Rg_, P1g, R1g, wok, gd, pm, so, wl, lr, q⟩ := h
    refine ⟨_, (pss_cons (ps_set (i := 3) sc__law_beside_right.nd rfl (.inl rfl) (pe_op op_cat (pe_slice sl_list (pe_lst (pa_cons pe_str (pa_cons pe_str pa_nil))) po_none (po_some (pe_c D__law_draw hr (by rfl) (pa_cons (pv 0) (pa_cons pe_int pa_nil))))) (pe_slice sl_list (pv 2) po_none (po_some (pe_c D__law_draw hr (by rfl) (pa_cons (pv 0) (pa_cons pe_int pa_nil)))))))
      (pss_cons (ps_if (PW.pt (pw_or (pt_cmpR (op_eqD hr.units) (pv 3) (pe_lst pa_nil) (nomark _)) (pw_or1 (pt_cmpR op_gt (pe_op op_add (pe_callB call_len_seq (by rfl) m_len PySem.boot_len (pa_cons (pv 2) pa_nil)) (pe_callB call_len_seq (by rfl) m_len PySem.boot_len (pa_cons (pv 3) pa_nil))) pe_int (nomark _)))))
        (pss_one (ps_ret pe_bl))
        pss_nil)
      (pss_cons (ps_set (i := 4) sc__law_beside_right.nd rfl (.inl rfl) (pe_callB cr_sortedS (by rfl) m_sorted (by decide +kernel) (pa_cons (pe_lc (own := [("word", 5)]) (g := gName 5) rfl sc__law_beside_right.nd (pi_list (pv 3)) (blkOk_by (N := ["rng", "made", "words", "free", "shared", "word"]) (sc := defScope s__law_beside_right) (by decide +kernel)) (fun _ _ _ _ _ => pg_name (i := 5) sc__law_beside_right.nd rfl (Or.inl rfl)) (fun _ _ _ _ _ => pts_one (pt_cmpR (r := rIn K false) op_in_seq (pv 5) (pv 2) (by rfl))) (fun _ _ _ _ _ => (pv 5))) pa_nil)))
      (pss_one (ps_ret (pe_cmpR (op_eqD hr.units) (pe_c D__law_raised hr (by rfl) (pa_cons pe_int (pa_cons (pv 1) (pa_cons (pe_new T.ck D_System___init__ hr (by rfl) (pa_cons (pv 3) (pa_cons (pe_lst pa_nil) pa_nil))) pa_nil)))) (pe_ifExp (pt_cmpR (op_neD hr.units) (pv 4) (pe_lst pa_nil) (nomark _)) (pe_tup (pa_cons pe_str (pa_cons (pe_ix ix_list (pv 4) pe_int (fun _ _ => rfl)) pa_nil))) pe_str) (nomark _))))))), ?_⟩
    have Y : Sy ss rr := sy_of wok gd pm (by omega) (by omega)
    refine ⟨by show 2 ≤ sizeLine; decide, fun M0 nM0 => ?_⟩
    have sM0 := Same.new (o := .lst [.str "m", .str "n"]) nM0
    have oM0 : upd H M0 (.lst [.str "m", .str "n"]) M0 = some (.lst [.str "m", .str "n"]) := upd_same
    generalize upd H M0 (HO.lst ([.str "m", .str "n"] : List V)) = H1 at sM0 oM0
    have M0g : M0 ≠ g := L.rs.fresh nM0
    have L := L.same sM0
    refine ⟨_, rfl, g, 3, _, rfl, L.rs, by omega, by decide, by decide, fun d1 H2 d10 d11 k2 rs2 => ?_⟩
    have L := L.kg Wg Rg_ P1g R1g k2 rs2
    have oM := k2 _ _ M0g oM0
    obtain ⟨j1, rfl⟩ : ∃ j : Nat, d1 = (j : Int) := ⟨d1.toNat, by omega⟩
    refine ⟨_, rfl, slL (.inl (.inl oM)) fun F1 H3 k3 nF1 oF1 => ?_⟩
    have F1g : F1 ≠ g := rs2.fresh nF1
    have L := L.same k3
    rw [cut_upto] at oF1
    have e1 : List.take j1 [V.str "m", .str "n"] = (base5.take (min j1 2)).map V.str := by
      match j1, d11 with
      | 0, _ => rfl
      | 1, _ => rfl
      | 2, _ => rfl
    rw [e1] at oF1
    refine ⟨_, rfl, _, rfl, g, 3, _, rfl, L.rs, by omega, by decide, by decide, fun d2 H4 d20 d21 k4 rs4 => ?_⟩
    have L := L.kg Wg Rg_ P1g R1g k4 rs4
    have oF1 := k4 _ _ F1g oF1
    obtain ⟨j2, rfl⟩ : ∃ j : Nat, d2 = (j : Int) := ⟨d2.toNat, by omega⟩
    refine ⟨_, rfl, slL (.inl (.inl L.oW)) fun F2 H5 k5 nF2 oF2 => ?_⟩
    rw [cut_upto, ← List.map_take] at oF2
    have L := L.same k5
    refine catL (k5 _ _ oF1) oF2 (by rw [List.length_map, List.length_map, List.length_take, List.length_take]; omega) fun F H6 k6 nF oF => ?_
    rw [← List.map_append] at oF
    have L := L.same k6
    have frl : (base5.take (min j1 2) ++ ws.take j2).length ≤ 4 := by
      rw [List.length_append, List.length_take, List.length_take]
      omega
    obtain ⟨fnd, fok⟩ := free_nm wok (min j1 2) j2
    have kH : Kp g H H6 := ((((Kp.of sM0).trans k2).trans (Kp.of k3)).trans k4).trans (Kp.of (k5.trans k6))
    generalize base5.take (min j1 2) ++ ws.take j2 = fr at oF frl fnd fok
    clear oF1 oF2 oM e1 k2 k3 k4 k5 k6 rs2 rs4
    refine ⟨_, rfl, by show 0 ≤ sizeLine; decide, fun E0 nE0 => ?_⟩
    have sE0 := Same.new (o := .lst []) nE0
    have oE0 : upd H6 E0 (.lst []) E0 = some (.lst []) := upd_same
    generalize upd H6 E0 (HO.lst ([] : List V)) = H7 at sE0 oE0
    have lyf := ly_strs (ys := fr) fun x m => strOk_of (fok x m)
    refine ⟨_, _, .lst (.inl (.inl (sE0 _ _ oF))) (dpa_strs fr), .lst (.inl (.inl oE0)) .nil, lyf.shaped, by decide +kernel, ?_⟩
    rw [eqv_nil]
    have L := L.same sE0
    have oF := sE0 _ _ oF
    replace kH := kH.trans (Kp.of sE0)
    by_cases c : fr = []
    · subst c
      exact ⟨true, rfl, iteT (iteT (q _ kH (L.rs.mono (by omega))))⟩
    have c' : fr.map PyData.str ≠ [] := fun z => c (List.map_eq_nil_iff.mp z)
    refine ⟨false, by rw [decide_eq_false c'], iteF ?_⟩
    refine ⟨_, rfl, W, _, rfl, .inl (.inl (.inl L.oW)), _, rfl, F, _, rfl, .inl (.inl (.inl oF)), _, _, rfl, rfl, _, _, rfl, rfl, _, rfl, ite2 (fun c2 => ?_) (fun c2 => ?_)⟩
    · exact q _ kH (L.rs.mono (by omega))
    -- those in common
    refine ⟨_, rfl, F, rfl, ⟨_, .inl (.inl oF)⟩, fun D nD => ?_⟩
    refine lc_list (K := K) (a := F) (xs := fr.map V.str) (fun i G => Same H7 G ∧ G D = some (.lst (((fr.take i).filter fun x => decide (x ∈ ws)).map V.str))) ⟨Same.new nD, upd_same⟩ (fun i G _ h => .inl (.inl (h.1 _ _ oF))) ?_ ?_
    · rintro i z G ez ⟨sm, oD⟩
      obtain ⟨x, ex, rfl⟩ := map_get ez
      refine ⟨rfl, _, rfl, _, rfl, W, _, rfl, .inl (.inl (.inl (sm _ _ L.oW))), rfl, flat_strs ws, ?_⟩
      rw [if_neg Bool.false_ne_true, inV_strs, filter_take ex, List.map_append]
      by_cases cx : x ∈ ws
      · rw [decide_eq_true cx, if_pos rfl]
        refine ⟨true, rfl, iteT ⟨_, rfl, _, oD, ?_, fun b o e => by rw [upd_ne (ne_of_none e nD)]; exact sm _ _ e, upd_same⟩⟩
        rw [List.length_map]
        exact Nat.lt_of_le_of_lt (Nat.le_trans (List.length_filter_le _ _) (by rw [List.length_take]; omega : _ ≤ 1000)) (by decide)
      · rw [decide_eq_false cx, if_neg Bool.false_ne_true]
        refine ⟨false, rfl, iteF ⟨sm, ?_⟩⟩
        rw [List.map_nil, List.append_nil]
        exact oD
    rintro G ⟨sm, oD⟩
    rw [List.length_map, List.take_length] at oD
    refine ⟨D, _, rfl, .inl (.inl oD), Nat.lt_of_le_of_lt (Nat.le_trans (List.length_filter_le _ _) frl) (by decide), fun sh p psh ssh np => ?_⟩
    have sp_ := Same.new (o := .lst (sh.map V.str)) np
    have op : upd G p (.lst (sh.map V.str)) p = some (.lst (sh.map V.str)) := upd_same
    generalize upd G p (HO.lst (sh.map V.str)) = G2 at sp_ op
    have L := L.same (sm.trans sp_)
    have oF := sp_ _ _ (sm _ _ oF)
    replace kH := kH.trans (Kp.of (sm.trans sp_))
    refine ⟨_, rfl, _, rfl, by show 0 ≤ sizeLine; decide, fun E1 nE1 => ?_⟩
    have sE1 := Same.new (o := .lst []) nE1
    have oE1 : upd G2 E1 (.lst []) E1 = some (.lst []) := upd_same
    generalize upd G2 E1 (HO.lst ([] : List V)) = G3 at sE1 oE1
    have L := L.same sE1
    have okf : SysOk fr [] := ⟨fnd, fok, (fun r m => nomatch m), (fun r m => nomatch m), by omega, by decide⟩
    refine mk_sys (.inl (.inl (sE1 _ _ oF))) (.inl (.inl oE1)) .nil okf (fun O2 G4 P2 R2 ns2 pm2 so2 k4 nO2 nP2 nR2 made2 => ?_)
    have L := L.same k4
    have okn : SysOk ns2 [] := ⟨pm2.nodup_iff.mpr fnd, fun x m => fok x (pm2.mem_iff.mp m), (fun r m => nomatch m), (fun r m => nomatch m), by have := pm2.length_eq; omega, by decide⟩
    have lss : ss.length = ws.length := pm.length_eq
    have nf : ∀ r ∈ rr, r.faulty (ss ++ ns2) = false := fun r m => rlGd_faulty ((gd r m).mono fun x mx => List.mem_append_left _ (pm.mem_iff.mpr mx))
    refine ⟨2, O, P1, R1, ss, rr, .ref O2, _, rfl, L.made, so, Y, .be made2 okn (by have := pm2.length_eq; omega) nf, fun u G5 k5 du => ?_⟩
    have eh : (ns2.find? fun x => decide (x ∈ ss)) = sh.head? := by
      rw [show (fun x => decide (x ∈ ss)) = fun x => decide (x ∈ ws) from funext fun x => mem_dec pm x]
      exact head_sorted pm2 so2 psh ssh
    rw [eh] at du
    have L := L.same k5
    have k25 := (sE1.trans k4).trans k5
    replace kH := kH.trans (Kp.of k25)
    have op := k25 _ _ op
    have shok : ∀ x ∈ sh, PyData.strOk x = true := fun x m => strOk_of (fok x (List.mem_filter.mp (psh.mem_iff.mp m)).1)
    refine ⟨_, rfl, by show 0 ≤ sizeLine; decide, fun E2 nE2 => ?_⟩
    have sE2 := Same.new (o := .lst []) nE2
    have oE2 : upd G5 E2 (.lst []) E2 = some (.lst []) := upd_same
    generalize upd G5 E2 (HO.lst ([] : List V)) = G6 at sE2 oE2
    refine ⟨_, _, .lst (.inl (.inl (sE2 _ _ op))) (dpa_strs sh), .lst (.inl (.inl oE2)) .nil, (ly_strs shok).shaped, by decide +kernel, ?_⟩
    rw [eqv_nil]
    have L := L.same sE2
    replace kH := kH.trans (Kp.of sE2)
    have du := dp_same sE2 du
    have op := sE2 _ _ op
    cases sh with
    | nil =>
      refine ⟨false, rfl, iteF ?_⟩
      have ly := ly_str (x := "fine") (by decide +kernel)
      refine ⟨_, _, du, .str _, ly.shaped, ly.shaped, ?_⟩
      have e : PyData.eqv (dueO "name" (([] : List Str).head?.map PyData.str)) (.str "fine") = true := ly.eqv
      rw [e]
      exact q _ kH (L.rs.mono (by omega))
    | cons x t =>
      refine ⟨true, rfl, iteT ?_⟩
      refine ⟨_, rfl, p, _, 0, _, rfl, rfl, .inl (.inl op), atI_nat (j := 0) rfl, by show 2 ≤ sizeLine; decide, fun T8 nT8 => ?_⟩
      have sT8 := Same.new (o := .tup [.str "name", .str x]) nT8
      have oT8 : upd G6 T8 (.tup [.str "name", .str x]) T8 = some (.tup [.str "name", .str x]) := upd_same
      generalize upd G6 T8 (HO.tup ([.str "name", .str x] : List V)) = G7 at sT8 oT8
      have ly := due_ly (w := "name") (by decide +kernel) (ly_str (shok x List.mem_cons_self))
      refine ⟨_, .tuple [.str "name", .str x], dp_same sT8 du, .tup (.inl (.inl oT8)) (.cons (.str _) (.cons (.str _) .nil)), ly.shaped, ly.shaped, ?_⟩
      have e : PyData.eqv (dueO "name" ((x :: t).head?.map PyData.str)) (.tuple [.str "name", .str x]) = true := ly.eqv
      rw [e]
      exact q _ (kH.trans (Kp.of sT8)) (((L.same sT8).rs).mono (by omega))
end

end Pk09
namespace Pk09
open PySem PySem.Spec PyProof.Rows L2 Gd
section
variable {P : Program} {w : World} {K : PySem.W.Frag} {mg : Str → Option Value} {base : Heap}
set_option maxHeartbeats 8000000 in
-- _law_rules_right: level 9; builtins ['len', 'list', 'range']; cells ['made', 'rows']; slots: 0 rng, 1 made, 2 words, 3 rows, 4 far, 5 gone, 6 wrong, 7 word, 8 most, 9 odd, 10 told, 11 spot, 12 row
theorem ok__law_rules_right {C : Addr} (T : SysT K mg C) (h : At K mg "_law_rules_right" s__law_rules_right ["rng", "made", "words", "rows"]) (D__law_draw : Dn P w K mg base 1 "_law_draw" s__law_draw ["rng", "limit"] (sp__law_draw K)) (D__law_raised : Dn P w K mg base 8 "_law_raised" s__law_raised ["door", "made", "given"] (sp__law_raised K C)) (m_len : mg "len" = none) (m_list : mg "list" = none) (m_range : mg "range" = none) : Dn P w K mg base 9 "_law_rules_right" s__law_rules_right ["rng", "made", "words", "rows"] (sp__law_rules_right K C) := by
  refine .mk' h fun f fd F => F.ok sc__law_rules_right (fun vs H Q E h => ?_) (fun cdv A outer s H vs Q E hr h => ?_)
  · obtain ⟨g, O, W, R, P1, R1, n, ws, ss, rr, xs, rfl, L, hn, Wg, Rg_, P1g, R1g, wok, w0, gd, pm, so, wl, lr, q⟩ := h
    rfl
  · obtain ⟨g, O, W, R, P1, R1, n, ws, ss, rr, xs, rfl, L, hn, Wg, Rg_, P1g, R1g, wok, w0, gd, pm, so, wl, lr, q⟩ := h
    refine ⟨_, (pss_cons (ps_set (i := 4) sc__law_rules_right.nd rfl (.inl rfl) (pe_lst (pa_cons (pe_callB call_len_seq (by rfl) m_len PySem.boot_len (pa_cons (pv 3) pa_nil)) (pa_cons (pe_un un_neg pe_int) (pa_cons (pe_op op_powW pe_int pe_int) (pa_cons (pe_op op_sub pe_int (pe_op op_powW pe_int pe_int)) (pa_cons (pe_op op_add (pe_callB call_len_seq (by rfl) m_len PySem.boot_len (pa_cons (pv 3) pa_nil)) pe_int) pa_nil)))))))
      (C8.pss_cut (ps_set (i := 5) sc__law_rules_right.nd rfl (.inl rfl) (pe_op op_cat (pe_slice sl_list (pe_listRg rfl (by rfl) m_list (prg_1 (by rfl) m_range (pe_callB call_len_seq (by rfl) m_len PySem.boot_len (pa_cons (pv 3) pa_nil)))) po_none (po_some pe_int)) (pe_slice sl_list (pv 4) po_none (po_some (pe_c D__law_draw hr (by rfl) (pa_cons (pv 0) (pa_cons pe_int pa_nil)))))))
      (C8.pss_cut (ps_set (i := 5) sc__law_rules_right.nd rfl (.inl rfl) (pe_ifExp (pt_cmpR op_eq (pe_c D__law_draw hr (by rfl) (pa_cons (pv 0) (pa_cons pe_int pa_nil))) pe_int (nomark _)) (pe_revL (pv 5)) (pv 5)))
      (pss_cons (ps_setLc (i := 6) (own := [("spot", 11)]) (g := gName 11) rfl sc__law_rules_right.nd rfl rfl (sw_true rfl rfl rfl (by decide +kernel)) (pi_list (pv 5)) (blkOk_by (N := ["rng", "made", "words", "rows", "far", "gone", "wrong", "word", "most", "odd", "told", "spot", "row"]) (sc := defScope s__law_rules_right) (by decide +kernel)) (fun _ _ _ _ _ => pg_name (i := 11) sc__law_rules_right.nd rfl (Or.inl rfl)) (fun _ _ _ _ _ => pts_one (pt_not (pt_chain op_le op_lt pe_int (pv 11) (pe_callB (r := Gd.rLenS K) call_len_seq (by rfl) m_len PySem.boot_len (pa_cons (pv 3) pa_nil))))) (fun _ _ _ _ _ => (pv 11)))
      (C8.pss_cut (ps_if (pt_cmpR (op_neD hr.units) (pe_c D__law_raised hr (by rfl) (pa_cons pe_int (pa_cons (pv 1) (pa_cons (pv 5) pa_nil)))) (pe_ifExp (pt_cmpR (op_neD hr.units) (pv 6) (pe_lst pa_nil) (nomark _)) (pe_tup (pa_cons pe_str (pa_cons (pe_ix ix_list (pv 6) pe_int (fun _ _ => rfl)) pa_nil))) pe_str) (nomark _))
        (pss_one (ps_ret pe_bl))
        pss_nil)
      (pss_cons (ps_if (pt_cmpR op_gt (pe_callB call_len_seq (by rfl) m_len PySem.boot_len (pa_cons (pv 3) pa_nil)) pe_int (nomark _))
        (pss_one (ps_ret pe_bl))
        pss_nil)
      (pss_cons (ps_par (i := 7) (j := 8) rfl sc__law_rules_right.nd rfl rfl (by decide) rfl rfl (pa_cons (pe_ix ix_list (pv 2) pe_int (fun _ _ => rfl)) (pa_cons (pe_tup (pa_cons pe_non (pa_cons pe_non pa_nil))) pa_nil)) (by rfl))
      (pss_cons (ps_set (i := 9) sc__law_rules_right.nd rfl (.inl rfl) (pe_lst (pa_cons (pe_tup (pa_cons pe_str (pa_cons pe_str (pa_cons (pe_tup (pa_cons pe_int (pa_cons pe_int pa_nil))) (pa_cons (pe_tup pa_nil) pa_nil))))) (pa_cons (pe_tup (pa_cons pe_str (pa_cons (pv 7) (pa_cons pe_non (pa_cons (pe_tup pa_nil) pa_nil))))) (pa_cons (pe_tup (pa_cons pe_str (pa_cons (pv 7) (pa_cons (pe_tup (pa_cons pe_int (pa_cons pe_int pa_nil))) (pa_cons (pe_tup pa_nil) pa_nil))))) pa_nil)))))
      (pss_cons (ps_set (i := 9) sc__law_rules_right.nd rfl (.inl rfl) (pe_op op_cat (pv 9) (pe_lst (pa_cons (pe_tup (pa_cons pe_str (pa_cons (pv 7) (pa_cons pe_str (pa_cons pe_int (pa_cons pe_int (pa_cons (pv 8) (pa_cons (pe_tup pa_nil) pa_nil)))))))) (pa_cons (pe_tup (pa_cons pe_str (pa_cons (pv 7) (pa_cons (pv 7) (pa_cons pe_int (pa_cons pe_int (pa_cons (pv 8) (pa_cons (pe_tup pa_nil) pa_nil)))))))) pa_nil)))))
      (pss_cons (ps_set (i := 9) sc__law_rules_right.nd rfl (.inl rfl) (pe_op op_cat (pv 9) (pe_lst (pa_cons (pe_tup (pa_cons pe_str (pa_cons (pv 7) (pa_cons (pv 8) (pa_cons (pe_tup (pa_cons (pe_tup (pa_cons (pv 7) (pa_cons pe_non pa_nil))) pa_nil)) pa_nil))))) (pa_cons (pe_tup (pa_cons pe_str (pa_cons (pv 7) (pa_cons (pv 7) (pa_cons pe_int (pa_cons pe_int (pa_cons (pe_tup (pa_cons pe_int (pa_cons pe_int pa_nil))) (pa_cons (pe_tup pa_nil) pa_nil)))))))) pa_nil)))))
      (pss_cons (ps_set (i := 9) sc__law_rules_right.nd rfl (.inl rfl) (pe_op op_cat (pv 9) (pe_lst (pa_cons (pe_tup (pa_cons pe_str (pa_cons (pv 7) (pa_cons (pv 8) (pa_cons (pe_tup (pa_cons (pe_tup (pa_cons pe_str (pa_cons (pv 8) pa_nil))) pa_nil)) pa_nil))))) (pa_cons (pe_tup (pa_cons pe_str (pa_cons (pv 7) (pa_cons (pv 7) (pa_cons pe_int (pa_cons pe_int (pa_cons (pv 8) (pa_cons (pe_tup (pa_cons (pe_tup (pa_cons (pv 7) (pa_cons (pe_tup (pa_cons pe_int (pa_cons pe_int pa_nil))) pa_nil))) pa_nil)) pa_nil)))))))) pa_nil)))))
      (pss_cons (ps_setLc (i := 10) (own := [("row", 12)]) (g := gName 12) rfl sc__law_rules_right.nd rfl rfl (sw_true rfl rfl rfl (by decide +kernel)) (pi_list (pe_op op_cat (pv 9) (pe_lst (pa_cons (pe_tup (pa_cons pe_str (pa_cons (pv 7) (pa_cons (pv 8) (pa_cons (pe_tup pa_nil) pa_nil))))) pa_nil)))) (blkOk_by (N := ["rng", "made", "words", "rows", "far", "gone", "wrong", "word", "most", "odd", "told", "spot", "row"]) (sc := defScope s__law_rules_right) (by decide +kernel)) (fun _ _ _ _ _ => pg_name (i := 12) sc__law_rules_right.nd rfl (Or.inl rfl)) (fun _ _ _ _ _ => pts_nil) (fun _ _ _ _ _ => (pe_c D__law_raised hr (by rfl) (pa_cons pe_int (pa_cons (pv 1) (pa_cons (pv 12) pa_nil))))))
      (pss_one (ps_ret (pe_cmpR (op_eqD hr.units) (pv 10) (pe_op op_cat (pe_op op_rep (pe_lst (pa_cons (pe_tup (pa_cons pe_str (pa_cons (pe_callB call_len_seq (by rfl) m_len PySem.boot_len (pa_cons (pv 3) pa_nil)) pa_nil))) pa_nil)) pe_int) (pe_lst (pa_cons pe_str pa_nil))) (nomark _)))))))))))))))), ?_⟩
    have ten31 : CPowW 10 31 := ⟨by decide, by decide⟩
    have e31 : (10 : Int) ^ (31 : Int).toNat = 10000000000000000000000000000000 := by decide
    have Y : Sy ss rr := sy_of wok gd pm (by omega) (by omega)
    have lx : xs.length = rr.length := by rw [dpa_len L.dR, List.length_map]
    refine ⟨_, rfl, R, _, rfl, .inl (.inl (.inl L.oR)), _, rfl, _, _, rfl, rfl, ten31, _, _, rfl, rfl, ten31, _, _, rfl, rfl, _, rfl, R, _, rfl, .inl (.inl (.inl L.oR)), _, _, rfl, rfl, ?_⟩
    dsimp (config := { proj := false, iota := false, eta := false }) only
    rw [e31, lx]
    refine ⟨by show 5 ≤ sizeLine; decide, fun F0 nF0 => ?_⟩
    have sF0 := Same.new (o := .lst [.int (rr.length : Nat), .int (-1), .int 10000000000000000000000000000000, .int (0 - 10000000000000000000000000000000), .int ((rr.length : Nat) + 1)]) nF0
    have oF0 : upd H F0 (.lst [.int (rr.length : Nat), .int (-1), .int 10000000000000000000000000000000, .int (0 - 10000000000000000000000000000000), .int ((rr.length : Nat) + 1)]) F0 = some (.lst [.int (rr.length : Nat), .int (-1), .int 10000000000000000000000000000000, .int (0 - 10000000000000000000000000000000), .int ((rr.length : Nat) + 1)]) := upd_same
    generalize upd H F0 (HO.lst ([.int (rr.length : Nat), .int (-1), .int 10000000000000000000000000000000, .int (0 - 10000000000000000000000000000000), .int ((rr.length : Nat) + 1)] : List V)) = H1 at sF0 oF0
    have F0g : F0 ≠ g := L.rs.fresh nF0
    have L := L.same sF0
    obtain ⟨fs0, efs, lfs⟩ : ∃ fs0 : List Int, [V.int (rr.length : Nat), .int (-1), .int 10000000000000000000000000000000, .int (0 - 10000000000000000000000000000000), .int ((rr.length : Nat) + 1)] = fs0.map V.int ∧ fs0.length = 5 := ⟨[_, _, _, _, _], rfl, rfl⟩
    rw [efs] at oF0
    refine ⟨fun σ G => ∃ (A : Addr) (ms : List Int), σ = [some (.ref g), some (.ref O), some (.ref W), some (.ref R), some (.ref F0), some (.ref A), none, none, none, none, none, none, none] ∧ Lp K C g W R O P1 R1 ws ss rr xs (n + 1) G ∧ Kp g H G ∧ G A = some (.lst (ms.map V.int)) ∧ ms.length ≤ 8 ∧ A ≠ g, ?_, ?_⟩
    · refine ⟨_, rfl, R, _, rfl, .inl (.inl (.inl L.oR)), _, rfl, RgOk.of_le (by omega) (by omega) (by omega) (by omega), fun q1 nq1 => ?_⟩
      rw [rgV_rgI]
      have s1 := Same.new (o := .lst ((rgI 0 (xs.length : Nat)).map V.int)) nq1
      have o1 : upd H1 q1 (.lst ((rgI 0 (xs.length : Nat)).map V.int)) q1 = some (.lst ((rgI 0 (xs.length : Nat)).map V.int)) := upd_same
      generalize upd H1 q1 (HO.lst ((rgI 0 (xs.length : Nat)).map V.int)) = H2 at s1 o1
      have L := L.same s1
      have oF0 := s1 _ _ oF0
      refine ⟨_, rfl, slL (.inl (.inl o1)) fun q2 H3 k3 nq2 oq2 => ?_⟩
      rw [show cutV ((rgI 0 (xs.length : Nat)).map V.int) none (some 3) = ((rgI 0 (xs.length : Nat)).map V.int).take 3 from cut_upto _ 3, ← List.map_take] at oq2
      have q2g : q2 ≠ g := L.rs.fresh nq2
      have L := L.same k3
      refine ⟨_, rfl, _, rfl, g, 6, _, rfl, L.rs, by omega, by decide, by decide, fun d H4 d0 d1 k4 rs4 => ?_⟩
      have L := L.kg Wg Rg_ P1g R1g k4 rs4
      have oF0 := k4 _ _ F0g (k3 _ _ oF0)
      have oq2 := k4 _ _ q2g oq2
      obtain ⟨j, rfl⟩ : ∃ j : Nat, d = (j : Int) := ⟨d.toNat, by omega⟩
      refine ⟨_, rfl, slL (.inl (.inl oF0)) fun q3 H5 k5 nq3 oq3 => ?_⟩
      rw [cut_upto, ← List.map_take] at oq3
      have L := L.same k5
      refine catL (k5 _ _ oq2) oq3 (by rw [List.length_map, List.length_map, List.length_take, List.length_take]; omega) fun F H6 k6 nF oF => ?_
      rw [← List.map_append] at oF
      exact ⟨F, _, rfl, L.same k6, ((Kp.of ((sF0.trans s1).trans k3)).trans k4).trans (Kp.of (k5.trans k6)), oF, by rw [List.length_append, List.length_take, List.length_take]; omega, L.rs.fresh nF⟩
    rintro σ G0 ⟨A0, ms0, rfl, L, kH, oA, lm, A0g⟩
    refine ⟨fun σ G => ∃ (A : Addr) (ms : List Int), σ = [some (.ref g), some (.ref O), some (.ref W), some (.ref R), some (.ref F0), some (.ref A), none, none, none, none, none, none, none] ∧ Lp K C g W R O P1 R1 ws ss rr xs (n + 2) G ∧ Kp g H G ∧ G A = some (.lst (ms.map V.int)) ∧ ms.length ≤ 8 ∧ A ≠ g, ?_, ?_⟩
    · refine ⟨_, rfl, g, 2, _, rfl, L.rs, by omega, by decide, by decide, fun d H4 d0 d1 k4 rs4 => ?_⟩
      have L := L.kg Wg Rg_ P1g R1g k4 rs4
      have oA := k4 _ _ A0g oA
      refine ⟨rfl, _, rfl, ite2 (fun c => ?_) (fun c => ?_)⟩
      · refine ⟨_, rfl, A0, _, rfl, .inl (.inl oA), fun p np => ?_⟩
        exact ⟨p, ms0.reverse, rfl, L.same (Same.new np), (kH.trans k4).trans (Kp.of (Same.new np)), by rw [upd_same, List.map_reverse], by rw [List.length_reverse]; exact lm, L.rs.fresh np⟩
      · exact ⟨_, rfl, A0, ms0, rfl, L, kH.trans k4, oA, lm, A0g⟩
    clear L kH oA lm A0g oF0 efs lfs
    rintro σ G0 ⟨A, ms, rfl, L, kH, oA, lm, _⟩
    refine ⟨_, rfl, A, rfl, ⟨_, .inl (.inl oA)⟩, fun D nD => ?_⟩
    refine lc_list (K := K) (a := A) (xs := ms.map V.int) (fun i G => Same G0 G ∧ G D = some (.lst (((ms.take i).filter (badM rr.length)).map V.int))) ⟨Same.new nD, upd_same⟩ (fun i G _ h => .inl (.inl (h.1 _ _ oA))) ?_ ?_
    · rintro i z G ez ⟨sm, oD⟩
      obtain ⟨m, em, rfl⟩ := map_get ez
      rw [filter_take em, List.map_append]
      have al : (((ms.take i).filter (badM rr.length)).map V.int).length < sizeLine := by
        rw [List.length_map]
        exact Nat.lt_of_le_of_lt (Nat.le_trans (List.length_filter_le _ _) (by rw [List.length_take]; omega : _ ≤ 1000)) (by decide)
      have bad : badM rr.length m = true → ([m] : List Int) = if badM rr.length m = true then [m] else [] := fun e => by rw [if_pos e]
      refine ⟨rfl, _, rfl, _, _, rfl, rfl, _, rfl, ?_⟩
      by_cases c0 : 0 ≤ m
      case neg =>
        have e : badM rr.length m = true := by
          unfold badM
          rw [decide_eq_false fun z => c0 z.1]
          rfl
        rw [decide_eq_false c0, e, if_pos rfl]
        exact iteF ⟨_, rfl, iteT ⟨_, rfl, _, oD, al, fun b o e => by rw [upd_ne (ne_of_none e nD)]; exact sm _ _ e, upd_same⟩⟩
      rw [decide_eq_true c0]
      refine iteT ⟨_, rfl, R, _, rfl, .inl (.inl (.inl (sm _ _ L.oR))), _, _, rfl, rfl, _, rfl, ?_⟩
      rw [lx]
      by_cases c1 : m < (rr.length : Int)
      case neg =>
        have e : badM rr.length m = true := by
          unfold badM
          rw [decide_eq_false fun z => c1 z.2]
          rfl
        rw [decide_eq_false c1, e, if_pos rfl]
        exact iteT ⟨_, rfl, _, oD, al, fun b o e => by rw [upd_ne (ne_of_none e nD)]; exact sm _ _ e, upd_same⟩
      have e : badM rr.length m = false := by
        unfold badM
        rw [decide_eq_true ⟨c0, c1⟩]
        rfl
      rw [decide_eq_true c1, e, if_neg Bool.false_ne_true]
      refine iteF ⟨sm, ?_⟩
      rw [List.map_nil, List.append_nil]
      exact oD
    rintro G ⟨sm, oD⟩
    rw [List.length_map, List.take_length] at oD
    have L := L.same sm
    have oA := sm _ _ oA
    replace kH := kH.trans (Kp.of sm)
    refine ⟨fun σ G => σ = [some (.ref g), some (.ref O), some (.ref W), some (.ref R), some (.ref F0), some (.ref A), some (.ref D), none, none, none, none, none, none] ∧ Lp K C g W R O P1 R1 ws ss rr xs (n + 2) G ∧ Kp g H G, ?_, ?_⟩
    · refine ⟨_, rfl, _, rfl, 0, O, P1, R1, ss, rr, .ref A, _, rfl, L.made, so, Y, .wo (.inl (.inl oA)), fun u G5 k5 du => ?_⟩
      have eh : (ms.find? fun m => !decide (0 ≤ m ∧ m < (rr.length : Int))) = (ms.filter (badM rr.length)).head? := (List.head?_filter).symm
      rw [eh] at du
      have L := L.same k5
      have oD := k5 _ _ oD
      replace kH := kH.trans (Kp.of k5)
      generalize ms.filter (badM rr.length) = sh at oD du
      refine ⟨_, rfl, by show 0 ≤ sizeLine; decide, fun E2 nE2 => ?_⟩
      have sE2 := Same.new (o := .lst []) nE2
      have oE2 : upd G5 E2 (.lst []) E2 = some (.lst []) := upd_same
      generalize upd G5 E2 (HO.lst ([] : List V)) = G6 at sE2 oE2
      refine ⟨_, _, .lst (.inl (.inl (sE2 _ _ oD))) (dp_ints sh), .lst (.inl (.inl oE2)) .nil, (ly_ints sh).shaped, by decide +kernel, ?_⟩
      rw [eqv_nil]
      have L := L.same sE2
      replace kH := kH.trans (Kp.of sE2)
      have du := dp_same sE2 du
      have oD := sE2 _ _ oD
      cases sh with
      | nil =>
        refine ⟨false, rfl, iteF ?_⟩
        have ly := ly_str (x := "fine") (by decide +kernel)
        refine ⟨_, _, du, .str _, ly.shaped, ly.shaped, ?_⟩
        have e : PyData.eqv (dueO "rule" (([] : List Int).head?.map PyData.int)) (.str "fine") = true := ly.eqv
        rw [e]
        exact ⟨false, rfl, iteF ⟨rfl, L, kH⟩⟩
      | cons m t =>
        refine ⟨true, rfl, iteT ?_⟩
        refine ⟨_, rfl, D, _, 0, _, rfl, rfl, .inl (.inl oD), atI_nat (j := 0) rfl, by show 2 ≤ sizeLine; decide, fun T8 nT8 => ?_⟩
        have sT8 := Same.new (o := .tup [.str "rule", .int m]) nT8
        have oT8 : upd G6 T8 (.tup [.str "rule", .int m]) T8 = some (.tup [.str "rule", .int m]) := upd_same
        generalize upd G6 T8 (HO.tup ([.str "rule", .int m] : List V)) = G7 at sT8 oT8
        have ly := due_ly (w := "rule") (by decide +kernel) (Ly.int m)
        refine ⟨_, .tuple [.str "rule", .int m], dp_same sT8 du, .tup (.inl (.inl oT8)) (.cons (.str _) (.cons (.int _) .nil)), ly.shaped, ly.shaped, ?_⟩
        have e : PyData.eqv (dueO "rule" ((m :: t).head?.map PyData.int)) (.tuple [.str "rule", .int m]) = true := ly.eqv
        rw [e]
        exact ⟨false, rfl, iteF ⟨rfl, L.same sT8, kH.trans (Kp.of sT8)⟩⟩
    clear L kH oA oD sm nD
    rintro σ B0 ⟨rfl, L, kH⟩
    refine ⟨_, rfl, R, _, rfl, .inl (.inl (.inl L.oR)), _, _, rfl, rfl, _, rfl, ite2 (fun c => q _ kH (L.rs.mono (by omega))) (fun c => ?_)⟩
    clear c
    obtain ⟨w, rest, ews⟩ : ∃ w rest, ws = w :: rest := by
      cases ws with
      | nil => exact absurd rfl w0
      | cons w rest => exact ⟨w, rest, rfl⟩
    have ew : atI (ws.map V.str) 0 = some (.str w) := by rw [ews]; exact one_at
    have mw : w ∈ ss := pm.mem_iff.mpr (by rw [ews]; exact List.mem_cons_self)
    have nw : ("missing" : Str) ∉ ss := fun m => missing_not (wok.pl _ (pm.mem_iff.mp m))
    refine ⟨_, rfl, W, _, 0, _, rfl, rfl, .inl (.inl L.oW), ew, ?_⟩
    refine ⟨by show 2 ≤ sizeLine; decide, fun T1 nT1 => ?_⟩
    have sT1 := Same.new (o := .tup [.non, .non]) nT1
    have oT1 : upd B0 T1 (.tup [.non, .non]) T1 = some (.tup [.non, .non]) := upd_same
    generalize upd B0 T1 (HO.tup ([.non, .non] : List V)) = B1 at sT1 oT1
    refine ⟨_, _, rfl, ?_⟩
    refine ⟨by show 2 ≤ sizeLine; decide, fun T2 nT2 => ?_⟩
    have sT2 := Same.new (o := .tup [.int 0, .int 0]) nT2
    have oT2 : upd B1 T2 (.tup [.int 0, .int 0]) T2 = some (.tup [.int 0, .int 0]) := upd_same
    generalize upd B1 T2 (HO.tup ([.int 0, .int 0] : List V)) = B2 at sT2 oT2
    refine ⟨by show 0 ≤ sizeLine; decide, fun T3 nT3 => ?_⟩
    have sT3 := Same.new (o := .tup []) nT3
    have oT3 : upd B2 T3 (.tup []) T3 = some (.tup []) := upd_same
    generalize upd B2 T3 (HO.tup ([] : List V)) = B3 at sT3 oT3
    refine ⟨by show 4 ≤ sizeLine; decide, fun T4 nT4 => ?_⟩
    have sT4 := Same.new (o := .tup [.str "set", .str "missing", .ref T2, .ref T3]) nT4
    have oT4 : upd B3 T4 (.tup [.str "set", .str "missing", .ref T2, .ref T3]) T4 = some (.tup [.str "set", .str "missing", .ref T2, .ref T3]) := upd_same
    generalize upd B3 T4 (HO.tup ([.str "set", .str "missing", .ref T2, .ref T3] : List V)) = B4 at sT4 oT4
    refine ⟨_, rfl, by show 0 ≤ sizeLine; decide, fun T5 nT5 => ?_⟩
    have sT5 := Same.new (o := .tup []) nT5
    have oT5 : upd B4 T5 (.tup []) T5 = some (.tup []) := upd_same
    generalize upd B4 T5 (HO.tup ([] : List V)) = B5 at sT5 oT5
    refine ⟨by show 4 ≤ sizeLine; decide, fun T6 nT6 => ?_⟩
    have sT6 := Same.new (o := .tup [.str "set", .str w, .non, .ref T5]) nT6
    have oT6 : upd B5 T6 (.tup [.str "set", .str w, .non, .ref T5]) T6 = some (.tup [.str "set", .str w, .non, .ref T5]) := upd_same
    generalize upd B5 T6 (HO.tup ([.str "set", .str w, .non, .ref T5] : List V)) = B6 at sT6 oT6
    refine ⟨_, rfl, by show 2 ≤ sizeLine; decide, fun T7 nT7 => ?_⟩
    have sT7 := Same.new (o := .tup [.int 1, .int 0]) nT7
    have oT7 : upd B6 T7 (.tup [.int 1, .int 0]) T7 = some (.tup [.int 1, .int 0]) := upd_same
    generalize upd B6 T7 (HO.tup ([.int 1, .int 0] : List V)) = B7 at sT7 oT7
    refine ⟨by show 0 ≤ sizeLine; decide, fun T8 nT8 => ?_⟩
    have sT8 := Same.new (o := .tup []) nT8
    have oT8 : upd B7 T8 (.tup []) T8 = some (.tup []) := upd_same
    generalize upd B7 T8 (HO.tup ([] : List V)) = B8 at sT8 oT8
    refine ⟨by show 4 ≤ sizeLine; decide, fun T9 nT9 => ?_⟩
    have sT9 := Same.new (o := .tup [.str "set", .str w, .ref T7, .ref T8]) nT9
    have oT9 : upd B8 T9 (.tup [.str "set", .str w, .ref T7, .ref T8]) T9 = some (.tup [.str "set", .str w, .ref T7, .ref T8]) := upd_same
    generalize upd B8 T9 (HO.tup ([.str "set", .str w, .ref T7, .ref T8] : List V)) = B9 at sT9 oT9
    refine ⟨by show 3 ≤ sizeLine; decide, fun L10 nL10 => ?_⟩
    have sL10 := Same.new (o := .lst [.ref T4, .ref T6, .ref T9]) nL10
    have oL10 : upd B9 L10 (.lst [.ref T4, .ref T6, .ref T9]) L10 = some (.lst [.ref T4, .ref T6, .ref T9]) := upd_same
    generalize upd B9 L10 (HO.lst ([.ref T4, .ref T6, .ref T9] : List V)) = B10 at sL10 oL10
    refine ⟨_, rfl, _, rfl, _, rfl, by show 0 ≤ sizeLine; decide, fun T11 nT11 => ?_⟩
    have sT11 := Same.new (o := .tup []) nT11
    have oT11 : upd B10 T11 (.tup []) T11 = some (.tup []) := upd_same
    generalize upd B10 T11 (HO.tup ([] : List V)) = B11 at sT11 oT11
    refine ⟨by show 7 ≤ sizeLine; decide, fun T12 nT12 => ?_⟩
    have sT12 := Same.new (o := .tup [.str "step", .str w, .str "missing", .int 1, .int 0, .ref T1, .ref T11]) nT12
    have oT12 : upd B11 T12 (.tup [.str "step", .str w, .str "missing", .int 1, .int 0, .ref T1, .ref T11]) T12 = some (.tup [.str "step", .str w, .str "missing", .int 1, .int 0, .ref T1, .ref T11]) := upd_same
    generalize upd B11 T12 (HO.tup ([.str "step", .str w, .str "missing", .int 1, .int 0, .ref T1, .ref T11] : List V)) = B12 at sT12 oT12
    refine ⟨_, rfl, _, rfl, _, rfl, by show 0 ≤ sizeLine; decide, fun T13 nT13 => ?_⟩
    have sT13 := Same.new (o := .tup []) nT13
    have oT13 : upd B12 T13 (.tup []) T13 = some (.tup []) := upd_same
    generalize upd B12 T13 (HO.tup ([] : List V)) = B13 at sT13 oT13
    refine ⟨by show 7 ≤ sizeLine; decide, fun T14 nT14 => ?_⟩
    have sT14 := Same.new (o := .tup [.str "step", .str w, .str w, .int 0, .int 0, .ref T1, .ref T13]) nT14
    have oT14 : upd B13 T14 (.tup [.str "step", .str w, .str w, .int 0, .int 0, .ref T1, .ref T13]) T14 = some (.tup [.str "step", .str w, .str w, .int 0, .int 0, .ref T1, .ref T13]) := upd_same
    generalize upd B13 T14 (HO.tup ([.str "step", .str w, .str w, .int 0, .int 0, .ref T1, .ref T13] : List V)) = B14 at sT14 oT14
    refine ⟨by show 2 ≤ sizeLine; decide, fun L15 nL15 => ?_⟩
    have sL15 := Same.new (o := .lst [.ref T12, .ref T14]) nL15
    have oL15 : upd B14 L15 (.lst [.ref T12, .ref T14]) L15 = some (.lst [.ref T12, .ref T14]) := upd_same
    generalize upd B14 L15 (HO.lst ([.ref T12, .ref T14] : List V)) = B15 at sL15 oL15
    refine catL (((((sT11.trans sT12).trans sT13).trans sT14).trans sL15) _ _ oL10) oL15 (by show 3 + 2 ≤ 100000; decide) fun L16 B16 kL16 nL16 oL16 => ?_
    replace oL16 : B16 L16 = some (.lst [V.ref T4, .ref T6, .ref T9, .ref T12, .ref T14]) := oL16
    refine ⟨_, rfl, _, rfl, _, rfl, _, rfl, by show 2 ≤ sizeLine; decide, fun T17 nT17 => ?_⟩
    have sT17 := Same.new (o := .tup [.str w, .non]) nT17
    have oT17 : upd B16 T17 (.tup [.str w, .non]) T17 = some (.tup [.str w, .non]) := upd_same
    generalize upd B16 T17 (HO.tup ([.str w, .non] : List V)) = B17 at sT17 oT17
    refine ⟨by show 1 ≤ sizeLine; decide, fun T18 nT18 => ?_⟩
    have sT18 := Same.new (o := .tup [.ref T17]) nT18
    have oT18 : upd B17 T18 (.tup [.ref T17]) T18 = some (.tup [.ref T17]) := upd_same
    generalize upd B17 T18 (HO.tup ([.ref T17] : List V)) = B18 at sT18 oT18
    refine ⟨by show 4 ≤ sizeLine; decide, fun T19 nT19 => ?_⟩
    have sT19 := Same.new (o := .tup [.str "set", .str w, .ref T1, .ref T18]) nT19
    have oT19 : upd B18 T19 (.tup [.str "set", .str w, .ref T1, .ref T18]) T19 = some (.tup [.str "set", .str w, .ref T1, .ref T18]) := upd_same
    generalize upd B18 T19 (HO.tup ([.str "set", .str w, .ref T1, .ref T18] : List V)) = B19 at sT19 oT19
    refine ⟨_, rfl, _, rfl, by show 2 ≤ sizeLine; decide, fun T20 nT20 => ?_⟩
    have sT20 := Same.new (o := .tup [.int 5, .int 4]) nT20
    have oT20 : upd B19 T20 (.tup [.int 5, .int 4]) T20 = some (.tup [.int 5, .int 4]) := upd_same
    generalize upd B19 T20 (HO.tup ([.int 5, .int 4] : List V)) = B20 at sT20 oT20
    refine ⟨by show 0 ≤ sizeLine; decide, fun T21 nT21 => ?_⟩
    have sT21 := Same.new (o := .tup []) nT21
    have oT21 : upd B20 T21 (.tup []) T21 = some (.tup []) := upd_same
    generalize upd B20 T21 (HO.tup ([] : List V)) = B21 at sT21 oT21
    refine ⟨by show 7 ≤ sizeLine; decide, fun T22 nT22 => ?_⟩
    have sT22 := Same.new (o := .tup [.str "step", .str w, .str w, .int 1, .int 0, .ref T20, .ref T21]) nT22
    have oT22 : upd B21 T22 (.tup [.str "step", .str w, .str w, .int 1, .int 0, .ref T20, .ref T21]) T22 = some (.tup [.str "step", .str w, .str w, .int 1, .int 0, .ref T20, .ref T21]) := upd_same
    generalize upd B21 T22 (HO.tup ([.str "step", .str w, .str w, .int 1, .int 0, .ref T20, .ref T21] : List V)) = B22 at sT22 oT22
    refine ⟨by show 2 ≤ sizeLine; decide, fun L23 nL23 => ?_⟩
    have sL23 := Same.new (o := .lst [.ref T19, .ref T22]) nL23
    have oL23 : upd B22 L23 (.lst [.ref T19, .ref T22]) L23 = some (.lst [.ref T19, .ref T22]) := upd_same
    generalize upd B22 L23 (HO.lst ([.ref T19, .ref T22] : List V)) = B23 at sL23 oL23
    refine catL (((((((sT17.trans sT18).trans sT19).trans sT20).trans sT21).trans sT22).trans sL23) _ _ oL16) oL23 (by show 5 + 2 ≤ 100000; decide) fun L24 B24 kL24 nL24 oL24 => ?_
    replace oL24 : B24 L24 = some (.lst [V.ref T4, .ref T6, .ref T9, .ref T12, .ref T14, .ref T19, .ref T22]) := oL24
    refine ⟨_, rfl, _, rfl, _, rfl, _, rfl, by show 2 ≤ sizeLine; decide, fun T25 nT25 => ?_⟩
    have sT25 := Same.new (o := .tup [.str "missing", .ref T1]) nT25
    have oT25 : upd B24 T25 (.tup [.str "missing", .ref T1]) T25 = some (.tup [.str "missing", .ref T1]) := upd_same
    generalize upd B24 T25 (HO.tup ([.str "missing", .ref T1] : List V)) = B25 at sT25 oT25
    refine ⟨by show 1 ≤ sizeLine; decide, fun T26 nT26 => ?_⟩
    have sT26 := Same.new (o := .tup [.ref T25]) nT26
    have oT26 : upd B25 T26 (.tup [.ref T25]) T26 = some (.tup [.ref T25]) := upd_same
    generalize upd B25 T26 (HO.tup ([.ref T25] : List V)) = B26 at sT26 oT26
    refine ⟨by show 4 ≤ sizeLine; decide, fun T27 nT27 => ?_⟩
    have sT27 := Same.new (o := .tup [.str "set", .str w, .ref T1, .ref T26]) nT27
    have oT27 : upd B26 T27 (.tup [.str "set", .str w, .ref T1, .ref T26]) T27 = some (.tup [.str "set", .str w, .ref T1, .ref T26]) := upd_same
    generalize upd B26 T27 (HO.tup ([.str "set", .str w, .ref T1, .ref T26] : List V)) = B27 at sT27 oT27
    refine ⟨_, rfl, _, rfl, _, rfl, _, rfl, by show 2 ≤ sizeLine; decide, fun T28 nT28 => ?_⟩
    have sT28 := Same.new (o := .tup [.int 1, .int 0]) nT28
    have oT28 : upd B27 T28 (.tup [.int 1, .int 0]) T28 = some (.tup [.int 1, .int 0]) := upd_same
    generalize upd B27 T28 (HO.tup ([.int 1, .int 0] : List V)) = B28 at sT28 oT28
    refine ⟨by show 2 ≤ sizeLine; decide, fun T29 nT29 => ?_⟩
    have sT29 := Same.new (o := .tup [.str w, .ref T28]) nT29
    have oT29 : upd B28 T29 (.tup [.str w, .ref T28]) T29 = some (.tup [.str w, .ref T28]) := upd_same
    generalize upd B28 T29 (HO.tup ([.str w, .ref T28] : List V)) = B29 at sT29 oT29
    refine ⟨by show 1 ≤ sizeLine; decide, fun T30 nT30 => ?_⟩
    have sT30 := Same.new (o := .tup [.ref T29]) nT30
    have oT30 : upd B29 T30 (.tup [.ref T29]) T30 = some (.tup [.ref T29]) := upd_same
    generalize upd B29 T30 (HO.tup ([.ref T29] : List V)) = B30 at sT30 oT30
    refine ⟨by show 7 ≤ sizeLine; decide, fun T31 nT31 => ?_⟩
    have sT31 := Same.new (o := .tup [.str "step", .str w, .str w, .int 1, .int 0, .ref T1, .ref T30]) nT31
    have oT31 : upd B30 T31 (.tup [.str "step", .str w, .str w, .int 1, .int 0, .ref T1, .ref T30]) T31 = some (.tup [.str "step", .str w, .str w, .int 1, .int 0, .ref T1, .ref T30]) := upd_same
    generalize upd B30 T31 (HO.tup ([.str "step", .str w, .str w, .int 1, .int 0, .ref T1, .ref T30] : List V)) = B31 at sT31 oT31
    refine ⟨by show 2 ≤ sizeLine; decide, fun L32 nL32 => ?_⟩
    have sL32 := Same.new (o := .lst [.ref T27, .ref T31]) nL32
    have oL32 : upd B31 L32 (.lst [.ref T27, .ref T31]) L32 = some (.lst [.ref T27, .ref T31]) := upd_same
    generalize upd B31 L32 (HO.lst ([.ref T27, .ref T31] : List V)) = B32 at sL32 oL32
    refine catL ((((((((sT25.trans sT26).trans sT27).trans sT28).trans sT29).trans sT30).trans sT31).trans sL32) _ _ oL24) oL32 (by show 7 + 2 ≤ 100000; decide) fun L33 B33 kL33 nL33 oL33 => ?_
    replace oL33 : B33 L33 = some (.lst [V.ref T4, .ref T6, .ref T9, .ref T12, .ref T14, .ref T19, .ref T22, .ref T27, .ref T31]) := oL33
    refine ⟨_, rfl, _, rfl, _, rfl, by show 0 ≤ sizeLine; decide, fun T34 nT34 => ?_⟩
    have sT34 := Same.new (o := .tup []) nT34
    have oT34 : upd B33 T34 (.tup []) T34 = some (.tup []) := upd_same
    generalize upd B33 T34 (HO.tup ([] : List V)) = B34 at sT34 oT34
    refine ⟨by show 4 ≤ sizeLine; decide, fun T35 nT35 => ?_⟩
    have sT35 := Same.new (o := .tup [.str "set", .str w, .ref T1, .ref T34]) nT35
    have oT35 : upd B34 T35 (.tup [.str "set", .str w, .ref T1, .ref T34]) T35 = some (.tup [.str "set", .str w, .ref T1, .ref T34]) := upd_same
    generalize upd B34 T35 (HO.tup ([.str "set", .str w, .ref T1, .ref T34] : List V)) = B35 at sT35 oT35
    refine ⟨by show 1 ≤ sizeLine; decide, fun L36 nL36 => ?_⟩
    have sL36 := Same.new (o := .lst [.ref T35]) nL36
    have oL36 : upd B35 L36 (.lst [.ref T35]) L36 = some (.lst [.ref T35]) := upd_same
    generalize upd B35 L36 (HO.lst ([.ref T35] : List V)) = B36 at sL36 oL36
    refine catL (((sT34.trans sT35).trans sL36) _ _ oL33) oL36 (by show 9 + 1 ≤ 100000; decide) fun L37 B37 kL37 nL37 oL37 => ?_
    replace oL37 : B37 L37 = some (.lst [V.ref T4, .ref T6, .ref T9, .ref T12, .ref T14, .ref T19, .ref T22, .ref T27, .ref T31, .ref T35]) := oL37
    have zB37 := Same.refl B37
    have zB36 := kL37.trans zB37
    have zB35 := sL36.trans zB36
    have zB34 := sT35.trans zB35
    have zB33 := sT34.trans zB34
    have zB32 := kL33.trans zB33
    have zB31 := sL32.trans zB32
    have zB30 := sT31.trans zB31
    have zB29 := sT30.trans zB30
    have zB28 := sT29.trans zB29
    have zB27 := sT28.trans zB28
    have zB26 := sT27.trans zB27
    have zB25 := sT26.trans zB26
    have zB24 := sT25.trans zB25
    have zB23 := kL24.trans zB24
    have zB22 := sL23.trans zB23
    have zB21 := sT22.trans zB22
    have zB20 := sT21.trans zB21
    have zB19 := sT20.trans zB20
    have zB18 := sT19.trans zB19
    have zB17 := sT18.trans zB18
    have zB16 := sT17.trans zB17
    have zB15 := kL16.trans zB16
    have zB14 := sL15.trans zB15
    have zB13 := sT14.trans zB14
    have zB12 := sT13.trans zB13
    have zB11 := sT12.trans zB12
    have zB10 := sT11.trans zB11
    have zB9 := sL10.trans zB10
    have zB8 := sT9.trans zB9
    have zB7 := sT8.trans zB8
    have zB6 := sT7.trans zB7
    have zB5 := sT6.trans zB6
    have zB4 := sT5.trans zB5
    have zB3 := sT4.trans zB4
    have zB2 := sT3.trans zB3
    have zB1 := sT2.trans zB2
    have zB0 := sT1.trans zB1
    have most_ : Dp K B37 (.ref T1) (rgD (some (none, none))) := .tup (.inl (.inl (zB1 _ _ oT1))) (.cons .non (.cons .non .nil))
    have d0 : Dp K B37 (.ref T4) ((oddRow w 0).d) := .tup (.inl (.inl (zB4 _ _ oT4))) (.cons (.str _) (.cons (.str _) (.cons (.tup (.inl (.inl (zB2 _ _ oT2))) (.cons (.int _) (.cons (.int _) .nil))) (.cons (.tup (.inl (.inl (zB3 _ _ oT3))) .nil) .nil))))
    have d1 : Dp K B37 (.ref T6) ((oddRow w 1).d) := .tup (.inl (.inl (zB6 _ _ oT6))) (.cons (.str _) (.cons (.str _) (.cons .non (.cons (.tup (.inl (.inl (zB5 _ _ oT5))) .nil) .nil))))
    have d2 : Dp K B37 (.ref T9) ((oddRow w 2).d) := .tup (.inl (.inl (zB9 _ _ oT9))) (.cons (.str _) (.cons (.str _) (.cons (.tup (.inl (.inl (zB7 _ _ oT7))) (.cons (.int _) (.cons (.int _) .nil))) (.cons (.tup (.inl (.inl (zB8 _ _ oT8))) .nil) .nil))))
    have d3 : Dp K B37 (.ref T12) ((oddRow w 3).d) := .tup (.inl (.inl (zB12 _ _ oT12))) (.cons (.str _) (.cons (.str _) (.cons (.str _) (.cons (.int _) (.cons (.int _) (.cons most_ (.cons (.tup (.inl (.inl (zB11 _ _ oT11))) .nil) .nil)))))))
    have d4 : Dp K B37 (.ref T14) ((oddRow w 4).d) := .tup (.inl (.inl (zB14 _ _ oT14))) (.cons (.str _) (.cons (.str _) (.cons (.str _) (.cons (.int _) (.cons (.int _) (.cons most_ (.cons (.tup (.inl (.inl (zB13 _ _ oT13))) .nil) .nil)))))))
    have d5 : Dp K B37 (.ref T19) ((oddRow w 5).d) := .tup (.inl (.inl (zB19 _ _ oT19))) (.cons (.str _) (.cons (.str _) (.cons most_ (.cons (.tup (.inl (.inl (zB18 _ _ oT18))) (.cons (.tup (.inl (.inl (zB17 _ _ oT17))) (.cons (.str _) (.cons .non .nil))) .nil)) .nil))))
    have d6 : Dp K B37 (.ref T22) ((oddRow w 6).d) := .tup (.inl (.inl (zB22 _ _ oT22))) (.cons (.str _) (.cons (.str _) (.cons (.str _) (.cons (.int _) (.cons (.int _) (.cons (.tup (.inl (.inl (zB20 _ _ oT20))) (.cons (.int _) (.cons (.int _) .nil))) (.cons (.tup (.inl (.inl (zB21 _ _ oT21))) .nil) .nil)))))))
    have d7 : Dp K B37 (.ref T27) ((oddRow w 7).d) := .tup (.inl (.inl (zB27 _ _ oT27))) (.cons (.str _) (.cons (.str _) (.cons most_ (.cons (.tup (.inl (.inl (zB26 _ _ oT26))) (.cons (.tup (.inl (.inl (zB25 _ _ oT25))) (.cons (.str _) (.cons most_ .nil))) .nil)) .nil))))
    have d8 : Dp K B37 (.ref T31) ((oddRow w 8).d) := .tup (.inl (.inl (zB31 _ _ oT31))) (.cons (.str _) (.cons (.str _) (.cons (.str _) (.cons (.int _) (.cons (.int _) (.cons most_ (.cons (.tup (.inl (.inl (zB30 _ _ oT30))) (.cons (.tup (.inl (.inl (zB29 _ _ oT29))) (.cons (.str _) (.cons (.tup (.inl (.inl (zB28 _ _ oT28))) (.cons (.int _) (.cons (.int _) .nil))) .nil))) .nil)) .nil)))))))
    have d9 : Dp K B37 (.ref T35) ((oddRow w 9).d) := .tup (.inl (.inl (zB35 _ _ oT35))) (.cons (.str _) (.cons (.str _) (.cons most_ (.cons (.tup (.inl (.inl (zB34 _ _ oT34))) .nil) .nil))))
    have dA : DpAll K B37 [V.ref T4, .ref T6, .ref T9, .ref T12, .ref T14, .ref T19, .ref T22, .ref T27, .ref T31, .ref T35] ((oddRows w).map Rl.d) := .cons d0 (.cons d1 (.cons d2 (.cons d3 (.cons d4 (.cons d5 (.cons d6 (.cons d7 (.cons d8 (.cons d9 .nil)))))))))
    have kF : Same B0 B37 := zB0
    replace kH := kH.trans (Kp.of kF)
    have L := L.same kF
    refine ⟨L37, rfl, ⟨_, .inl (.inl oL37)⟩, fun D nD => ?_⟩
    have eT : [V.ref T4, .ref T6, .ref T9, .ref T12, .ref T14, .ref T19, .ref T22, .ref T27, .ref T31, .ref T35].length = 10 := rfl
    refine lc_list (K := K) (a := L37) (xs := [V.ref T4, .ref T6, .ref T9, .ref T12, .ref T14, .ref T19, .ref T22, .ref T27, .ref T31, .ref T35]) (fun j G' => Same B37 G' ∧ ∃ acc, G' D = some (.lst acc) ∧ DpAll K G' acc (((oddRows w).take j).map (dueRow ss rr.length))) ⟨Same.new nD, [], upd_same, .nil⟩ (fun j G' _ h => .inl (.inl (h.1 _ _ oL37))) ?_ ?_
    · rintro j z G ez ⟨sm, acc, oD, da⟩
      obtain ⟨r, er, dz⟩ := dpa_map_get (dpa_same sm dA) ez
      have lj : j < 10 := (List.getElem?_eq_some_iff.mp er).1
      refine ⟨rfl, _, rfl, _, rfl, 1, O, P1, R1, ss, rr, z, _, rfl, L.made.same sm, so, Y, .wr dz (odd_cs r (List.mem_of_getElem? er)), fun v' G2 k2 dv => ?_⟩
      obtain ⟨p1, p2, p3, p4, p5⟩ := push_due dueRow_nol nD sm k2 oD da er dv
      exact ⟨acc, p1, by rw [p2]; exact Nat.lt_of_le_of_lt (by omega : _ ≤ 1000) (by decide), p3, _, p4, p5⟩
    rintro G ⟨sm, acc, oD, da⟩
    have e10 : (oddRows w).take [V.ref T4, .ref T6, .ref T9, .ref T12, .ref T14, .ref T19, .ref T22, .ref T27, .ref T31, .ref T35].length = oddRows w := rfl
    rw [e10, odd_due mw nw] at da
    have L := L.same sm
    replace kH := kH.trans (Kp.of sm)
    refine ⟨_, rfl, _, rfl, R, _, rfl, .inl (.inl (.inl L.oR)), by show 2 ≤ sizeLine; decide, fun T40 nT40 => ?_⟩
    have sT40 := Same.new (o := .tup [.str "system", .int (xs.length : Nat)]) nT40
    have oT40 : upd G T40 (.tup [.str "system", .int (xs.length : Nat)]) T40 = some (.tup [.str "system", .int (xs.length : Nat)]) := upd_same
    generalize upd G T40 (HO.tup ([.str "system", .int (xs.length : Nat)] : List V)) = G1 at sT40 oT40
    refine ⟨by show 1 ≤ sizeLine; decide, fun L41 nL41 => ?_⟩
    have sL41 := Same.new (o := .lst [.ref T40]) nL41
    have oL41 : upd G1 L41 (.lst [.ref T40]) L41 = some (.lst [.ref T40]) := upd_same
    generalize upd G1 L41 (HO.lst ([.ref T40] : List V)) = G2 at sL41 oL41
    refine ⟨L41, 9, _, rfl, rfl, oL41, by decide, by decide, by show 1 * 9 ≤ sizeLine; decide, fun L42 nL42 => ?_⟩
    have e9 : (List.replicate (9 : Int).toNat [V.ref T40]).flatten = List.replicate 9 (V.ref T40) := rfl
    rw [e9]
    have sL42 := Same.new (o := .lst (List.replicate 9 (V.ref T40))) nL42
    have oL42 : upd G2 L42 (.lst (List.replicate 9 (V.ref T40))) L42 = some (.lst (List.replicate 9 (V.ref T40))) := upd_same
    generalize upd G2 L42 (HO.lst (List.replicate 9 (V.ref T40))) = G3 at sL42 oL42
    refine ⟨by show 1 ≤ sizeLine; decide, fun L43 nL43 => ?_⟩
    have sL43 := Same.new (o := .lst [.str "fine"]) nL43
    have oL43 : upd G3 L43 (.lst [.str "fine"]) L43 = some (.lst [.str "fine"]) := upd_same
    generalize upd G3 L43 (HO.lst ([.str "fine"] : List V)) = G4 at sL43 oL43
    refine catL (sL43 _ _ oL42) oL43 (by rw [List.length_replicate]; show 9 + 1 ≤ 100000; decide) fun L44 G5 kL44 nL44 oL44 => ?_
    have k15 := ((sL41.trans sL42).trans sL43).trans kL44
    have k05 := sT40.trans k15
    have dT : Dp K G5 (.ref T40) (.tuple [.str "system", .int (rr.length : Nat)]) := by
      refine .tup (.inl (.inl (k15 _ _ oT40))) (.cons (.str _) (.cons ?_ .nil))
      rw [lx]
      exact .int _
    have dR : DpAll K G5 (List.replicate 9 (V.ref T40) ++ [.str "fine"]) (List.replicate 9 (.tuple [.str "system", .int (rr.length : Nat)]) ++ [.str "fine"]) := .cons dT (.cons dT (.cons dT (.cons dT (.cons dT (.cons dT (.cons dT (.cons dT (.cons dT (.cons (.str _) .nil)))))))))
    have ly : Ly 5 (.list (List.replicate 9 (.tuple [.str "system", .int (rr.length : Nat)]) ++ [.str "fine"])) := (Ly.list (k := 3) (lyA_of fun d m => by
      rcases List.mem_append.mp m with m | m
      · rw [(List.mem_replicate.mp m).2]
        exact due_ly (by decide +kernel) (Ly.int _)
      · rw [List.mem_singleton.mp m]
        exact (ly_str (by decide +kernel)).mono (by decide))).mono (by decide)
    refine ⟨_, _, .lst (.inl (.inl (k05 _ _ oD))) (dpa_same k05 da), .lst (.inl (.inl oL44)) dR, ly.shaped, ly.shaped, ?_⟩
    rw [ly.eqv]
    exact q _ (kH.trans (Kp.of k05)) (((L.same k05).rs).mono (by omega))
end

end Pk09
namespace Pk09
open PySem PySem.Spec PyProof.Rows L2 Gd
section
variable {P : Program} {w : World} {K : PySem.W.Frag} {mg : Str → Option Value} {base : Heap}
set_option maxHeartbeats 8000000 in
-- law: level 10; builtins ['dict', 'len', 'min', 'range', 'sorted']; cells ['words']; slots: 0 script, 1 rng, 2 lap, 3 words, 4 rows, 5 made, 6 kept, 7 turn, 8 turned, 9 more, 10 old, 11 odd, 12 steps, 13 size
theorem ok_law {C : Addr} (T : SysT K mg C) (h : At K mg "law" s_law ["script"]) (D_System___init__ : Mt P w K mg base 4 C "__init__" "System.__init__" s_System___init__ ["self", "names", "rules"] (sp_System___init__ K C)) (D__law_beside_right : Dn P w K mg base 9 "_law_beside_right" s__law_beside_right ["rng", "made", "words"] (sp__law_beside_right K C)) (D__law_draw : Dn P w K mg base 1 "_law_draw" s__law_draw ["rng", "limit"] (sp__law_draw K)) (D__law_raised : Dn P w K mg base 8 "_law_raised" s__law_raised ["door", "made", "given"] (sp__law_raised K C)) (D__law_renamed_due : Dn P w K mg base 1 "_law_renamed_due" s__law_renamed_due ["words", "turned"] (sp__law_renamed_due K)) (D__law_rng : Dn P w K mg base 1 "_law_rng" s__law_rng ["script"] (sp__law_rng K)) (D__law_rows : Dn P w K mg base 5 "_law_rows" s__law_rows ["rng", "words", "most"] (sp__law_rows K)) (D__law_rules_right : Dn P w K mg base 9 "_law_rules_right" s__law_rules_right ["rng", "made", "words", "rows"] (sp__law_rules_right K C)) (D__law_shown : DnG P w K mg base 3 "_law_shown" s__law_shown ["made"] (sp__law_shown K C)) (D__law_words : Dn P w K mg base 2 "_law_words" s__law_words ["rng", "many"] (sp__law_words K)) (m_dict : mg "dict" = none) (m_len : mg "len" = none) (m_min : mg "min" = none) (m_range : mg "range" = none) (m_sorted : mg "sorted" = none) : DnG P w K mg base 10 "law" s_law ["script"] (sp_law K) := by
  refine .mk' h fun f fd F => okG F sc_law (fun vs H Q E h => ?_) (fun cdv A outer s H vs Q E hgd hr h => ?_)
  · obtain ⟨a, ns, rfl, hS, hn, q⟩ := h
    rfl
  · obtain ⟨a, ns, rfl, hS, hn, q⟩ := h
    refine ⟨_, (pss_cons (ps_set (i := 1) sc_law.nd rfl (.inl rfl) (pe_c D__law_rng hr (by rfl) (pa_cons (pv 0) pa_nil)))
      (pss_cons (ps_for PassesOwn.never rfl (pi_range1 (by rfl) m_range (pa_cons (pe_op op_add pe_int (pe_callB (call_min2 rfl) (by rfl) m_min (by decide +kernel) (pa_cons pe_int (pa_cons (pe_callB call_len_seq (by rfl) m_len PySem.boot_len (pa_cons (pv 0) pa_nil)) pa_nil)))) pa_nil)) (pg_name (i := 2) sc_law.nd rfl (.inl rfl))
        (pss_cons (ps_set (i := 3) sc_law.nd rfl (.inr rfl) (pe_c D__law_words hr (by rfl) (pa_cons (pv 1) (pa_cons (pe_op op_add pe_int (pe_c D__law_draw hr (by rfl) (pa_cons (pv 1) (pa_cons pe_int pa_nil)))) pa_nil))))
        (pss_cons (ps_set (i := 4) sc_law.nd rfl (.inl rfl) (pe_c D__law_rows hr (by rfl) (pa_cons (pv 1) (pa_cons (pv 3) (pa_cons pe_int pa_nil)))))
        (pss_cons (ps_set (i := 5) sc_law.nd rfl (.inl rfl) (pe_new T.ck D_System___init__ hr (by rfl) (pa_cons (pv 3) (pa_cons (pv 4) pa_nil))))
        (pss_cons (ps_set (i := 6) sc_law.nd rfl (.inl rfl) (pe_cG hgd D__law_shown hr (by rfl) (pa_cons (pv 5) pa_nil)))
        (pss_cons (ps_if (PW.pt (pw_or (pt_not (pt_val (pe_c D__law_rules_right hr (by rfl) (pa_cons (pv 1) (pa_cons (pv 5) (pa_cons (pv 3) (pa_cons (pv 4) pa_nil))))))) (pw_or1 (pt_not (pt_val (pe_c D__law_beside_right hr (by rfl) (pa_cons (pv 1) (pa_cons (pv 5) (pa_cons (pv 3) pa_nil)))))))))
          (pss_one (ps_ret pe_bl))
          pss_nil)
        (pss_cons (ps_for PassesOwn.never rfl (pi_range1 (by rfl) m_range (pa_cons pe_int pa_nil)) (pg_name (i := 7) sc_law.nd rfl (.inl rfl))
          (pss_cons (ps_set (i := 8) sc_law.nd rfl (.inl rfl) pe_dnewK)
          (pss_cons (ps_set (i := 9) sc_law.nd rfl (.inl rfl) (pe_ix ix_list (pe_lst (pa_cons (pe_lst (pa_cons pe_str (pa_cons pe_str pa_nil))) (pa_cons (pe_lst (pa_cons pe_str (pa_cons pe_str pa_nil))) pa_nil))) (pe_c D__law_draw hr (by rfl) (pa_cons (pv 1) (pa_cons pe_int pa_nil))) (fun _ _ => rfl)))
          (pss_cons (ps_for PassesOwn.never rfl (pi_list (pe_slice sl_list (pe_slice sl_list (pe_op op_cat (pv 3) (pv 9)) (po_some (pe_c D__law_draw hr (by rfl) (pa_cons (pv 1) (pa_cons pe_int pa_nil)))) po_none) po_none (po_some (pe_op op_add pe_int (pe_c D__law_draw hr (by rfl) (pa_cons (pv 1) (pa_cons pe_int pa_nil))))))) (pg_name (i := 10) sc_law.nd rfl (.inl rfl))
            (pss_one (ps_dput (hu_of hr) (pv 8) (pv 10) (pe_ix ix_list (pe_op op_cat (pe_lst (pa_cons pe_str (pa_cons pe_str (pa_cons pe_str (pa_cons pe_str (pa_cons pe_str pa_nil)))))) (pv 3)) (pe_c D__law_draw hr (by rfl) (pa_cons (pv 1) (pa_cons (pe_op op_add pe_int (pe_callB call_len_seq (by rfl) m_len PySem.boot_len (pa_cons (pv 3) pa_nil))) pa_nil))) (fun _ _ => rfl)) rfl)))
          (pss_cons (ps_if (pt_cmpR (op_neD hr.units) (pe_c D__law_raised hr (by rfl) (pa_cons pe_int (pa_cons (pv 5) (pa_cons (pv 8) pa_nil)))) (pe_c D__law_renamed_due hr (by rfl) (pa_cons (pv 3) (pa_cons (pv 8) pa_nil))) (nomark _))
            (pss_one (ps_ret pe_bl))
            pss_nil)
          (pss_cons (ps_set (i := 11) sc_law.nd rfl (.inl rfl) (pe_callB cr_sortedS (by rfl) m_sorted (by decide +kernel) (pa_cons (pe_lock (pe_lc (own := [("old", 10)]) (g := gName 10) rfl sc_law.nd (pi_keys (pv 8)) (blkOk_by (N := ["script", "rng", "lap", "words", "rows", "made", "kept", "turn", "turned", "more", "old", "odd", "steps", "size"]) (sc := defScope s_law) (by decide +kernel)) (fun _ _ _ _ _ => pg_name (i := 10) sc_law.nd rfl (Or.inl rfl)) (fun _ _ _ _ _ => pts_one (pt_cmpR (r := rIn K true) op_notIn_seq (pv 10) (pv 3) (by rfl))) (fun _ _ _ _ _ => (pv 10)))) pa_nil)))
          (pss_cons (ps_set (i := 12) sc_law.nd rfl (.inl rfl) (pe_callTy (call_dictP rfl) (by rfl) m_dict (by decide +kernel) (pa_cons (pe_lock (pe_lc (own := [("old", 10)]) (g := gName 10) rfl sc_law.nd (pi_keys (pv 8)) (blkOk_by (N := ["script", "rng", "lap", "words", "rows", "made", "kept", "turn", "turned", "more", "old", "odd", "steps", "size"]) (sc := defScope s_law) (by decide +kernel)) (fun _ _ _ _ _ => pg_name (i := 10) sc_law.nd rfl (Or.inl rfl)) (fun _ _ _ _ _ => pts_nil) (fun _ _ _ _ _ => (pe_tup (pa_cons (pv 10) (pa_cons pe_int pa_nil)))))) pa_nil)))
          (pss_one (ps_if (pt_cmpR (op_neD hr.units) (pe_c D__law_raised hr (by rfl) (pa_cons pe_int (pa_cons (pv 5) (pa_cons (pv 12) pa_nil)))) (pe_ifExp (pt_cmpR (op_neD hr.units) (pv 11) (pe_lst pa_nil) (nomark _)) (pe_tup (pa_cons pe_str (pa_cons (pe_ix ix_list (pv 11) pe_int (fun _ _ => rfl)) pa_nil))) pe_str) (nomark _))
            (pss_one (ps_ret pe_bl))
            pss_nil)))))))))
        (pss_cons (ps_for PassesOwn.never rfl (pi_tup (pe_tup (pa_cons pe_int (pa_cons (pe_un un_neg pe_int) (pa_cons (pe_op op_sub pe_int (pe_op op_powW pe_int pe_int)) (pa_cons pe_int (pa_cons (pe_op op_powW pe_int pe_int) pa_nil))))))) (pg_name (i := 13) sc_law.nd rfl (.inl rfl))
          (pss_one (ps_if (pt_cmpR (op_neD hr.units) (pe_c D__law_raised hr (by rfl) (pa_cons pe_int (pa_cons (pv 5) (pa_cons (pv 13) pa_nil)))) (pe_ifExp (pt_cmpR op_gt (pv 13) pe_int (nomark _)) pe_str (pe_tup (pa_cons pe_str (pa_cons (pv 13) pa_nil)))) (nomark _))
            (pss_one (ps_ret pe_bl))
            pss_nil)))
        (pss_one (ps_if (pt_cmpR op_ne (pe_cG hgd D__law_shown hr (by rfl) (pa_cons (pv 5) pa_nil)) (pv 6) (nomark _))
          (pss_one (ps_ret pe_bl))
          pss_nil))))))))))
      (pss_one (ps_ret pe_bl)))), ?_⟩
    have TT := T
    have ten31 : CPowW 10 31 := ⟨by decide, by decide⟩
    have e31 : (10 : Int) ^ (31 : Int).toNat = 10000000000000000000000000000000 := by decide
    have big : ((8 : Int) + (if (((ns.map V.int).length : Nat) : Int) < 10 then (((ns.map V.int).length : Nat) : Int) else 10)) ≤ 18 ∧ 0 ≤ ((8 : Int) + (if (((ns.map V.int).length : Nat) : Int) < 10 then (((ns.map V.int).length : Nat) : Int) else 10)) := by
      rw [List.length_map]
      split <;> omega
    refine ⟨_, rfl, a, ns, rfl, hS, hn, fun g H1 sm1 ng rs => ?_⟩
    refine ⟨_, rfl, a, _, rfl, .inl (sm1.seq hS), _, _, rfl, _, _, rfl, rfl, _, rfl, ?_, ?_, ?_⟩
    · exact Int.le_trans (by decide) big.2
    · exact Int.lt_of_le_of_lt big.1 (by decide)
    refine for_range (fun i σ H' => RS (4000 * i) H' g ∧ ∃ y2 y3 y4 y5 y6 y7 y8 y9 y10 y11 y12 y13, σ = [some (.ref a), some (.ref g), y2, y3, y4, y5, y6, y7, y8, y9, y10, y11, y12, y13]) ⟨rs, _, _, _, _, _, _, _, _, _, _, _, _, rfl⟩ ?_ ?_
    rotate_left
    · rintro σ H' ⟨_, y2, y3, y4, y5, y6, y7, y8, y9, y10, y11, y12, y13, rfl⟩
      exact q _
    intro i σ H2 hi hw
    have hi2 : i < 19 := by
      have := big.1
      omega
    obtain ⟨rs2, y2, y3, y4, y5, y6, y7, y8, y9, y10, y11, y12, y13, rfl⟩ := hw
    refine ⟨_, rfl, _, rfl, g, 4, 4000 * i, rfl, rs2, by omega, by decide, by decide, fun d H3 d0 d1 k3 rs3 => ⟨_, _, rfl, rfl, ?_⟩⟩
    refine ⟨g, _, 4000 * i + 1, rfl, rs3, by omega, by omega, by omega, fun W H4 ws k4 rs4 nW oW wok lw => ?_⟩
    have Wg : W ≠ g := rs3.fresh nW
    have w0 : ws ≠ [] := fun z => by
      rw [z, List.length_nil] at lw
      omega
    have wl : ws.length ≤ 4 := by omega
    refine ⟨_, rfl, _, rfl, g, W, 12, 4000 * i + 8, ws, rfl, rs4, by omega, by decide, by decide, Wg, .inl (.inl oW), w0, by omega, fun R H5 xs rr gd lr k5 rs5 nR oR dR => ?_⟩
    have Rg_ : R ≠ g := rs4.fresh nR
    have oW5 := k5 _ _ Wg oW
    have lr2 : rr.length ≤ 12 := by omega
    have ndw := wok.nd
    refine ⟨_, rfl, _, rfl, mk_sys (.inl (.inl oW5)) (.inl (.inl oR)) dR (sysOk_of wok gd (by omega) (by omega)) (fun O H6 P1 R1 ss pm so sm6 nO nP nR1 made => ?_)⟩
    have P1g : P1 ≠ g := rs5.fresh nP
    have R1g : R1 ≠ g := rs5.fresh nR1
    have L : Lp K C g W R O P1 R1 ws ss rr xs (4000 * i + 1600) H6 := ⟨sm6 _ _ oW5, sm6 _ _ oR, dpa_same sm6 dR, made, (rs5.same sm6).mono (by omega)⟩
    clear oW5 oW oR dR made rs5 rs4 rs3 k3 k4 k5 sm6 nO nP nR1 nW nR
    have Y : Sy ss rr := sy_of wok gd pm (by omega) (by omega)
    have gds : RowsGd ss rr := fun r m => (gd r m).mono fun x mx => pm.mem_iff.mpr mx
    have ok0 : ShownOk ss rr := shown_ok Y.nok gds (List.Perm.refl _) (by have := pm.length_eq; omega) (by omega)
    refine ⟨_, rfl, O, P1, R1, ss, rr, rfl, L.made, ok0, fun H7 ka => ?_⟩
    have L := L.same ka
    clear ka
    refine ⟨_, rfl, _, rfl, _, rfl, _, rfl, g, O, W, R, P1, R1, _, ws, ss, rr, xs, rfl, L, by omega, Wg, Rg_, P1g, R1g, wok, w0, gd, pm, so, by omega, lr2, fun H8 k8 rs8 => ?_⟩
    have L := L.kg Wg Rg_ P1g R1g k8 rs8
    refine ⟨true, rfl, iteF ?_⟩
    refine ⟨_, rfl, _, rfl, _, rfl, g, O, W, R, P1, R1, _, ws, ss, rr, xs, rfl, L, by omega, Wg, Rg_, P1g, R1g, wok, gd, pm, so, by omega, lr2, fun H9 k9 rs9 => ?_⟩
    have L := L.kg Wg Rg_ P1g R1g k9 rs9
    refine ⟨true, rfl, iteF ?_⟩
    clear k8 rs8 k9 rs9
    refine ⟨_, rfl, (by decide : -(2 ^ 62 : Int) ≤ 5), (by decide : (5 : Int) < 2 ^ 62), ?_⟩
    refine for_range (fun j σ G => Lp K C g W R O P1 R1 ws ss rr xs (4000 * i + 1620 + 20 * j) G ∧ ∃ z7 z8 z9 z10 z11 z12 z13, σ = [some (.ref a), some (.ref g), some (.int (0 + (i : Nat))), some (.ref W), some (.ref R), some (.ref O), some (.str (toldD ss rr).shown), z7, z8, z9, z10, z11, z12, z13]) ⟨L, _, _, _, _, _, _, _, rfl⟩ ?_ ?_
    · rintro j σ G0 hj ⟨L, z7, z8, z9, z10, z11, z12, z13, rfl⟩
      have hj2 : j ≤ 4 := by
        have : ((5 : Int)).toNat = 5 := rfl
        omega
      refine fun T nT => ?_
      have Tg : T ≠ g := L.rs.fresh nT
      have sT0 := Same.new (o := .dK []) nT
      have oT0 : upd G0 T (.dK []) T = some (.dK []) := upd_same
      generalize upd G0 T (HO.dK []) = G1 at sT0 oT0
      refine ⟨by show 2 ≤ sizeLine; decide, fun ma nma => ?_⟩
      have sma := Same.new (o := .lst [.str "missing", .str "other"]) nma
      have oma : upd G1 ma (.lst [.str "missing", .str "other"]) ma = some (.lst [.str "missing", .str "other"]) := upd_same
      generalize upd G1 ma (HO.lst ([.str "missing", .str "other"] : List V)) = G2 at sma oma
      refine ⟨by show 2 ≤ sizeLine; decide, fun mb nmb => ?_⟩
      have smb := Same.new (o := .lst [.str "other", .str "missing"]) nmb
      have omb : upd G2 mb (.lst [.str "other", .str "missing"]) mb = some (.lst [.str "other", .str "missing"]) := upd_same
      generalize upd G2 mb (HO.lst ([.str "other", .str "missing"] : List V)) = G3 at smb omb
      refine ⟨by show 2 ≤ sizeLine; decide, fun mm nmm => ?_⟩
      have smm := Same.new (o := .lst [.ref ma, .ref mb]) nmm
      have omm : upd G3 mm (.lst [.ref ma, .ref mb]) mm = some (.lst [.ref ma, .ref mb]) := upd_same
      generalize upd G3 mm (HO.lst ([.ref ma, .ref mb] : List V)) = G4 at smm omm
      have s04 := ((sT0.trans sma).trans smb).trans smm
      have rs4 := L.rs.same s04
      have mag : ma ≠ g := (L.rs.same sT0).fresh nma
      have mbg : mb ≠ g := ((L.rs.same sT0).same sma).fresh nmb
      have mmg : mm ≠ g := (((L.rs.same sT0).same sma).same smb).fresh nmm
      refine ⟨_, rfl, g, 2, _, rfl, rs4, by omega, by decide, by decide, fun r1 G5 r10 r11 k5 rs5 => ?_⟩
      obtain ⟨M, mo, ev, oM, Mg, mok, mnd⟩ : ∃ (M : Addr) (mo : List Str), atI [V.ref ma, .ref mb] r1 = some (.ref M) ∧ G4 M = some (.lst (mo.map V.str)) ∧ M ≠ g ∧ (∀ x ∈ mo, x ∈ (["missing", "other"] : List Str)) ∧ mo.Nodup := by
        obtain ⟨v, ev, mv⟩ := pick_mem (xs := [V.ref ma, .ref mb]) r10 r11
        simp only [List.mem_cons, List.not_mem_nil, or_false] at mv
        rcases mv with rfl | rfl
        · exact ⟨ma, ["missing", "other"], ev, (smb.trans smm) _ _ oma, mag, fun x m => m, more_nd⟩
        · exact ⟨mb, ["other", "missing"], ev, smm _ _ omb, mbg, fun x m => by simp only [List.mem_cons, List.not_mem_nil, or_false] at m ⊢; exact m.symm, by decide +kernel⟩
      refine ⟨mm, _, r1, _, rfl, rfl, Kp.lst k5 mmg (.inl (.inl omm)), ev, ?_⟩
      have oM := k5 _ _ Mg oM
      have k05 : Kp g G0 G5 := (Kp.of s04).trans k5
      have oT5 : G5 T = some (.dK []) := k5 _ _ Tg (((sma.trans smb).trans smm) _ _ oT0)
      clear ev oma omb omm nma nmb nmm sma smb smm sT0 oT0 rs4
      -- the old names
      have ndall : (ws ++ mo).Nodup := List.nodup_append.mpr ⟨ndw, mnd, fun x mx z mz e => more_not x (wok.pl x mx) (mok x (e ▸ mz))⟩
      refine ⟨_, rfl, _, rfl, catL (k05 _ _ Wg L.oW) oM (by rw [List.length_map, List.length_map]; have := mnd.length_le_of_subset mok; have : (["missing", "other"] : List Str).length = 2 := rfl; omega) fun q1 G6 k6 nq1 oq1 => ?_⟩
      rw [← List.map_append] at oq1
      have q1g : q1 ≠ g := rs5.fresh nq1
      refine ⟨_, rfl, g, 5, _, rfl, rs5.same k6, by omega, by decide, by decide, fun r2 G7 r20 r21 k7 rs7 => ?_⟩
      obtain ⟨n1, rfl⟩ : ∃ k : Nat, r2 = (k : Int) := ⟨r2.toNat, by omega⟩
      have oq1 := k7 _ _ q1g oq1
      refine ⟨_, rfl, ?_⟩
      refine slLn (.inl (.inl oq1)) fun q2 G8 k8 nq2 oq2 => ?_
      rw [cut_from, ← List.map_drop] at oq2
      have q2g : q2 ≠ g := rs7.fresh nq2
      refine ⟨_, rfl, g, 3, _, rfl, rs7.same k8, by omega, by decide, by decide, fun r3 G9 r30 r31 k9 rs9 => ?_⟩
      have oq2 := k9 _ _ q2g oq2
      obtain ⟨n2, en2⟩ : ∃ k : Nat, 1 + r3 = (k : Int) := ⟨(1 + r3).toNat, by omega⟩
      refine ⟨_, _, rfl, rfl, _, rfl, ?_⟩
      rw [en2]
      refine slL (.inl (.inl oq2)) fun q3 Ga ka nq3 oq3 => ?_
      rw [cut_upto, ← List.map_take] at oq3
      have q3g : q3 ≠ g := rs9.fresh nq3
      have k5a : Kp g G5 Ga := ((((Kp.of k6).trans k7).trans (Kp.of k8)).trans k9).trans (Kp.of ka)
      have k0a : Kp g G0 Ga := k05.trans k5a
      have oTa := k5a _ _ Tg oT5
      have rsa := rs9.same ka
      have tsl : (((ws ++ mo).drop n1).take n2).Sublist (ws ++ mo) := (List.take_sublist _ _).trans (List.drop_sublist _ _)
      have ndt := ndall.sublist tsl
      have tok : ∀ x ∈ ((ws ++ mo).drop n1).take n2, PyData.strOk x = true := fun x m => by
        rcases List.mem_append.mp (tsl.subset m) with m | m
        · exact strOk_of (pool_ok x (wok.pl x m))
        · exact more_ok x (mok x m)
      have tl : (((ws ++ mo).drop n1).take n2).length ≤ 3 := by rw [List.length_take]; omega
      generalize ((ws ++ mo).drop n1).take n2 = ts at oq3 ndt tok tl
      clear tsl oq2 oq1 k6 k7 k8 k9 ka rs5 rs7 rs9 oM nq1 nq2 en2
      have q3T : q3 ≠ T := fun z => by rw [z, oTa] at oq3; cases oq3
      refine ⟨q3, rfl, ⟨_, .inl (.inl oq3)⟩, for_list (xs := ts.map V.str) (fun m σ G => Kp g G0 G ∧ RS (4000 * i + 1620 + 20 * j + 3 + m) G g ∧ G q3 = some (.lst (ts.map V.str)) ∧ ∃ (φ : Str → Str) (z10 : Option V), DF G T (ts.take m) (fun x => V.str (φ x)) ∧ (∀ x, x ∉ ts.take m → φ x = x) ∧ (∀ x ∈ ts.take m, (φ x).cps.size ≤ 1000 ∧ PyData.strOk (φ x) = true) ∧ σ = [some (.ref a), some (.ref g), some (.int (0 + (i : Nat))), some (.ref W), some (.ref R), some (.ref O), some (.str (toldD ss rr).shown), some (.int (0 + (j : Nat))), some (.ref T), some (.ref M), z10, z11, z12, z13]) ⟨k0a, rsa.mono (by omega), oq3, fun x => x, _, oTa, fun x _ => rfl, (fun x m => nomatch m), rfl⟩ (fun m σ G _ h => .inl (.inl h.2.2.1)) ?_ ?_⟩
      · rintro m z σ G hz ⟨kp, rsm, oq, φ, z10, oD, off, fo, rfl⟩
        obtain ⟨x, ex, rfl⟩ := map_get hz
        have nx : x ∉ ts.take m := not_take ndt ex
        have lm : m < ts.length := (List.getElem?_eq_some_iff.mp ex).1
        refine ⟨by show 5 ≤ sizeLine; decide, fun V0 nV0 => ?_⟩
        have sV0 := Same.new (o := .lst [.str "u", .str "B", .str "", .str "abcdefghi", .str "abcdefgh"]) nV0
        have oV0 : upd G V0 (.lst [.str "u", .str "B", .str "", .str "abcdefghi", .str "abcdefgh"]) V0 = some (.lst [.str "u", .str "B", .str "", .str "abcdefghi", .str "abcdefgh"]) := upd_same
        generalize upd G V0 (HO.lst ([.str "u", .str "B", .str "", .str "abcdefghi", .str "abcdefgh"] : List V)) = Gb at sV0 oV0
        have rsb := rsm.same sV0
        refine ⟨_, rfl, catL oV0 (sV0 _ _ (kp _ _ Wg L.oW)) (by rw [List.length_map]; show 5 + ws.length ≤ 100000; omega) fun V1 Gc kc nV1 oV1 => ?_⟩
        have V1g : V1 ≠ g := rsb.fresh nV1
        have rsc := rsb.same kc
        have e5 : [V.str "u", .str "B", .str "", .str "abcdefghi", .str "abcdefgh"] ++ ws.map V.str = (fiveV ++ ws).map V.str := by
          rw [List.map_append]
          rfl
        rw [e5] at oV1
        have kbc := sV0.trans kc
        refine ⟨_, rfl, _, rfl, W, _, rfl, .inl (.inl (.inl (kbc _ _ (kp _ _ Wg L.oW)))), _, _, rfl, rfl, g, _, _, rfl, rsc, by omega, by rw [List.length_map]; omega, by rw [List.length_map]; omega, fun r4 Gd' r40 r41 kd rsd => ?_⟩
        obtain ⟨y, ev, hy⟩ : ∃ y : Str, atI ((fiveV ++ ws).map V.str) r4 = some (.str y) ∧ (y.cps.size ≤ 1000 ∧ PyData.strOk y = true) := by
          obtain ⟨v, ev, mv⟩ := pick_mem (xs := (fiveV ++ ws).map V.str) r40 (by
            rw [List.length_map] at r41 ⊢
            rw [List.length_append]
            show r4 < ((5 + ws.length : Nat) : Int)
            omega)
          obtain ⟨y, my, rfl⟩ := List.mem_map.mp mv
          refine ⟨y, ev, ?_⟩
          rcases List.mem_append.mp my with my | my
          · exact five_ok y my
          · have o := pool_ok y (wok.pl y my)
            exact ⟨Nat.le_trans (nameOk_size o) (by decide), strOk_of o⟩
        refine ⟨V1, _, r4, _, rfl, rfl, Kp.lst kd V1g (.inl (.inl oV1)), ev, ?_⟩
        have kall : Kp g G Gd' := (Kp.of kbc).trans kd
        have oD2 : Gd' T = some (.dK (fK (ts.take m) (fun x => V.str (φ x)))) := kall _ _ Tg oD
        have oq2 := kall _ _ q3g oq
        have lk : (fK (ts.take m) (fun x => V.str (φ x))).length < sizeLine := by
          rw [fK_len, List.length_take]
          exact Nat.lt_of_le_of_lt (by omega : _ ≤ 1000) (by decide)
        refine ⟨_, rfl, _, rfl, T, _, rfl, DPut.k (k := Sum.inr x) oD2 lk, ?_⟩
        rw [fK_new nx]
        have kT : ∀ c o, c ≠ T → Gd' c = some o → upd Gd' T (.dK (fK (ts.take m) (fun x => V.str (φ x)) ++ [(Sum.inr x, V.str y)])) c = some o := fun c o hc e => by
          rw [upd_ne hc]
          exact e
        refine ⟨fun c o hc e => kT _ _ (ne_of_none e nT) (kall _ _ hc (kp _ _ hc e)), (RS.kd (Ne.symm Tg) kT rsd).mono (by omega), kT _ _ q3T oq2, put1 φ x y, _, ?_, fun u mu => ?_, fun u mu => ?_, rfl⟩
        · show upd Gd' T _ T = _
          rw [upd_same, take_succ ex, strF_put, fK_putN nx]
        · rw [take_succ ex] at mu
          have n1 : u ∉ ts.take m := fun z => mu (List.mem_append_left _ z)
          have n2 : u ≠ x := fun z => mu (List.mem_append_right _ (by rw [z]; exact List.mem_cons_self))
          unfold put1
          rw [if_neg n2]
          exact off u n1
        · unfold put1
          by_cases c : u = x
          · rw [if_pos c]
            exact hy
          · rw [if_neg c]
            rw [take_succ ex] at mu
            rcases List.mem_append.mp mu with mu | mu
            · exact fo u mu
            · exact absurd (List.mem_singleton.mp mu) c
      · rintro σ G ⟨kp, rsm, oq, φ, z10, oD, off, fo, rfl⟩
        rw [List.length_map] at rsm
        rw [List.length_map, List.take_length] at oD off fo
        have L := (L.kg Wg Rg_ P1g R1g kp rsm).mono (show 4000 * i + 1620 + 20 * j + 3 + ts.length ≤ 4000 * i + 1620 + 20 * (j + 1) by omega)
        obtain ⟨zs, pz, sz⟩ := sorted_ex ts
        have nm : NmD G T ts φ := ⟨oD, off⟩
        have lk : ts.length < 64 := by omega
        have lss : ss.length = ws.length := pm.length_eq
        have zok : ∀ x ∈ zs, PyData.strOk x = true := fun x m => tok x (pz.mem_iff.mp m)
        clear kp rsm oq q3T q3g k0a oTa oT5 k5a k05 oq3 rsa
        refine ⟨_, rfl, _, rfl, 3, O, P1, R1, ss, rr, .ref T, _, rfl, L.made, so, Y, .re nm lk pz sz (fun x m => (fo x m).1), fun u G2 k2 du => ?_⟩
        have L := L.same k2
        have nm := nm.same k2
        refine ⟨_, rfl, _, rfl, W, T, ws, ss, ts, zs, φ, rfl, .inl (.inl L.oW), pm, nm, lk, pz, sz, fo, by omega, fun v G3 k3 dv => ?_⟩
        have L := L.same k3
        have nm := nm.same k3
        have lyN := due_lyN (ns := ss) (zs := zs) (φ := φ) zok fun x m => (fo x (pz.mem_iff.mp m)).2
        refine ⟨_, _, dp_same k3 du, dv, lyN.shaped, lyN.shaped, ?_⟩
        rw [lyN.eqv]
        refine ⟨false, rfl, iteF ?_⟩
        clear du dv k2 k3
        -- those that are not there
        have hdict : G3 T = some (.dK (fK ts (fun x => V.str (φ x)))) := nm.1
        refine ⟨T, .dK (fK ts (fun x => V.str (φ x))), hdict, trivial, fun od => ?_⟩
        refine ⟨_, rfl, T, od, rfl, .inl ⟨fK ts (fun x => V.str (φ x)), upd_same, fun D nD => ?_⟩⟩
        have Da : D ≠ T := fun z => by rw [z, upd_same] at nD; cases nD
        have nD0 : G3 D = none := by rw [upd_ne Da] at nD; exact nD
        have WT : W ≠ T := fun z => by
          have e := L.oW
          rw [z, hdict] at e
          cases e
        have oW3 := L.oW
        refine lc_it walk_keys (fun m G' => (∀ c o, c ≠ T → G3 c = some o → G' c = some o) ∧ G' T = some (.frz od (.dK (fK ts (fun x => V.str (φ x))))) ∧ G' D = some (.lst (((ts.take m).filter fun x => !decide (x ∈ ws)).map V.str))) ⟨fun c o cd e => ?_, ?_, upd_same⟩ (fun m G' _ h => h.2.1) ?_ ?_
        · rw [upd_ne (ne_of_none e nD0), upd_ne cd]
          exact e
        · rw [upd_ne (Ne.symm Da), upd_same]
        · rintro m z Gx G' hm ⟨k1, kd, oL⟩ ⟨rfl, k, v, ek, ezz⟩
          obtain ⟨x, ex, rfl, rfl⟩ := fK_at2 ek
          have ezz : z = V.str x := ezz
          subst ezz
          refine ⟨rfl, _, rfl, _, rfl, W, _, rfl, .inl (.inl (.inl (k1 _ _ WT oW3))), rfl, flat_strs ws, ?_⟩
          rw [if_pos rfl, inV_strs, filter_take ex, List.map_append]
          have lj : m < ts.length := (List.getElem?_eq_some_iff.mp ex).1
          by_cases cx : x ∈ ws
          · rw [decide_eq_true cx]
            refine ⟨false, rfl, iteF ⟨k1, kd, ?_⟩⟩
            show _ = some (HO.lst (_ ++ List.map V.str []))
            rw [List.map_nil, List.append_nil]
            exact oL
          · rw [decide_eq_false cx]
            refine ⟨true, rfl, iteT ⟨_, rfl, _, oL, ?_, fun c o cd e => ?_, ?_, upd_same⟩⟩
            · rw [List.length_map]
              exact Nat.lt_of_le_of_lt (Nat.le_trans (List.length_filter_le _ _) (by rw [List.length_take]; omega : _ ≤ 1000)) (by decide)
            · rw [upd_ne (ne_of_none e nD0)]
              exact k1 _ _ cd e
            · rw [upd_ne (Ne.symm Da)]
              exact kd
        rintro G4 ⟨k1, kd, oL⟩
        rw [fK_len, List.take_length] at oL
        have k3 : Same G3 (upd G4 T (.dK (fK ts (fun x => V.str (φ x))))) := fun c o e => by
          by_cases cd : c = T
          · rw [cd, upd_same, ← hdict, ← cd]
            exact e
          · rw [upd_ne cd]
            exact k1 _ _ cd e
        have oL3 : upd G4 T (.dK (fK ts (fun x => V.str (φ x)))) D = some (.lst ((ts.filter fun x => !decide (x ∈ ws)).map V.str)) := by rw [upd_ne Da]; exact oL
        refine ⟨kd, ?_⟩
        generalize upd G4 T (HO.dK (fK ts (fun x => V.str (φ x)))) = G5 at k3 oL3
        refine ⟨D, _, rfl, .inl (.inl oL3), Nat.lt_of_le_of_lt (Nat.le_trans (List.length_filter_le _ _) tl) (by decide), fun sh p psh ssh np => ?_⟩
        have sp_ := Same.new (o := .lst (sh.map V.str)) np
        have op : upd G5 p (.lst (sh.map V.str)) p = some (.lst (sh.map V.str)) := upd_same
        generalize upd G5 p (HO.lst (sh.map V.str)) = G6 at sp_ op
        have k36 := k3.trans sp_
        have L := L.same k36
        have nm := nm.same k36
        have eh : (zs.find? fun x => !decide (x ∈ ss)) = sh.head? := by
          rw [show (fun x => !decide (x ∈ ss)) = fun x => !decide (x ∈ ws) from funext fun x => by rw [mem_dec pm x]]
          exact head_sorted pz sz psh ssh
        have shok : ∀ x ∈ sh, PyData.strOk x = true := fun x m => tok x (List.mem_filter.mp (psh.mem_iff.mp m)).1
        clear k36 k3 oL3 oL kd k1 WT oW3 nD nD0 Da hdict sp_ np
        -- five for each
        have hdict : G6 T = some (.dK (fK ts (fun x => V.str (φ x)))) := nm.1
        refine ⟨T, .dK (fK ts (fun x => V.str (φ x))), hdict, trivial, fun od => ?_⟩
        refine ⟨_, rfl, T, od, rfl, .inl ⟨fK ts (fun x => V.str (φ x)), upd_same, fun D nD => ?_⟩⟩
        have Da : D ≠ T := fun z => by rw [z, upd_same] at nD; cases nD
        have nD0 : G6 D = none := by rw [upd_ne Da] at nD; exact nD
        refine lc_it walk_keys (fun m G' => (∀ c o, c ≠ T → G6 c = some o → G' c = some o) ∧ G' T = some (.frz od (.dK (fK ts (fun x => V.str (φ x))))) ∧ ∃ ps : List Addr, G' D = some (.lst (ps.map V.ref)) ∧ PrL K G' ps (fK (ts.take m) (fun _ => V.int 5))) ⟨fun c o cd e => ?_, ?_, [], upd_same, .nil⟩ (fun m G' _ h => h.2.1) ?_ ?_
        · rw [upd_ne (ne_of_none e nD0), upd_ne cd]
          exact e
        · rw [upd_ne (Ne.symm Da), upd_same]
        · rintro m z Gx G' hm ⟨k1, kd, ps, oL, pr⟩ ⟨rfl, k, v, ek, ezz⟩
          obtain ⟨x, ex, rfl, rfl⟩ := fK_at2 ek
          have ezz : z = V.str x := ezz
          subst ezz
          have lj : m < ts.length := (List.getElem?_eq_some_iff.mp ex).1
          refine ⟨rfl, ?_⟩
          refine ⟨_, rfl, by show 2 ≤ sizeLine; decide, fun T5 nT5 => ?_⟩
          have sT5 := Same.new (o := .tup [.str x, .int 5]) nT5
          have oT5 : upd G' T5 (.tup [.str x, .int 5]) T5 = some (.tup [.str x, .int 5]) := upd_same
          generalize upd G' T5 (HO.tup ([.str x, .int 5] : List V)) = Gy at sT5 oT5
          have oL2 := sT5 _ _ oL
          have lps : ps.length = m := by
            have := PySem.Paired.length pr
            rw [this, fK_len, List.length_take]
            omega
          refine ⟨_, oL2, by rw [List.length_map, lps]; exact Nat.lt_of_le_of_lt (by omega : _ ≤ 1000) (by decide), fun c o cd e => ?_, ?_, ps ++ [T5], by rw [upd_same, List.map_append]; rfl, ?_⟩
          · rw [upd_ne (ne_of_none e nD0)]
            exact sT5 _ _ (k1 _ _ cd e)
          · rw [upd_ne (Ne.symm Da)]
            exact sT5 _ _ kd
          · rw [fK_const ex]
            exact prl_snoc (kv := (Sum.inr x, V.int 5)) (SqT.kpl Kp.at oL2 (.inl (.inl oT5))) (prl_mono (fun p xs s => SqT.kpl Kp.at oL2 (SqT.same sT5 s)) pr)
        rintro G4 ⟨k1, kd, ps, oL, pr⟩
        rw [fK_len, List.take_length] at pr
        have k3 : Same G6 (upd G4 T (.dK (fK ts (fun x => V.str (φ x))))) := fun c o e => by
          by_cases cd : c = T
          · rw [cd, upd_same, ← hdict, ← cd]
            exact e
          · rw [upd_ne cd]
            exact k1 _ _ cd e
        have oL3 : upd G4 T (.dK (fK ts (fun x => V.str (φ x)))) D = some (.lst (ps.map V.ref)) := by rw [upd_ne Da]; exact oL
        have pr3 := prl_mono (fun p xs s => sq_open kd s) pr
        refine ⟨kd, ?_⟩
        generalize upd G4 T (HO.dK (fK ts (fun x => V.str (φ x)))) = G7 at k3 oL3 pr3
        refine ⟨D, ps, fK ts (fun _ => V.int 5), rfl, .inl (.inl oL3), pr3, fun ST nST => ?_⟩
        rw [mergeK0 ndt]
        have sST := Same.new (o := .dK (fK ts (fun _ => V.int 5))) nST
        have oST : upd G7 ST (.dK (fK ts (fun _ => V.int 5))) ST = some (.dK (fK ts (fun _ => V.int 5))) := upd_same
        generalize upd G7 ST (HO.dK (fK ts (fun _ => V.int 5))) = G8 at sST oST
        have k68 := k3.trans sST
        have L := L.same k68
        have op := k68 _ _ op
        clear pr3 oL3 k3 pr oL kd k1 nD nD0 Da hdict sST nST k68
        have hST : ShD G8 ST ts (fun x => if x ∈ ts then 5 else 0) := by
          refine ⟨?_, fun x n => if_neg n⟩
          have e : fK ts (fun x => V.int (if x ∈ ts then 5 else 0)) = fK ts (fun _ => V.int 5) := fK_congr fun x m => by rw [if_pos m]
          show G8 ST = some (.dK _)
          rw [e]
          exact oST
        have bsh : ∀ x : Str, (if x ∈ ts then (5 : Int) else 0).natAbs ≤ 5 := fun x => by
          by_cases c : x ∈ ts
          · rw [if_pos c]; decide
          · rw [if_neg c]; decide
        have Yv : Sy ss (movRs 1 (fun x => if x ∈ ts then 5 else 0) rr) := sy_mov Y gds (by decide) (by decide) (fun x => Nat.lt_of_le_of_lt (bsh x) (by decide))
        refine ⟨_, rfl, _, rfl, 4, O, P1, R1, ss, rr, .ref ST, _, rfl, L.made, so, Y, .mo Yv (fun x => Nat.lt_of_le_of_lt (bsh x) (by decide)) hST lk pz sz, fun u G9 k9 du => ?_⟩
        rw [eh] at du
        have L := L.same k9
        have op := k9 _ _ op
        refine ⟨_, rfl, by show 0 ≤ sizeLine; decide, fun E2 nE2 => ?_⟩
        have sE2 := Same.new (o := .lst []) nE2
        have oE2 : upd G9 E2 (.lst []) E2 = some (.lst []) := upd_same
        generalize upd G9 E2 (HO.lst ([] : List V)) = Ga at sE2 oE2
        refine ⟨_, _, .lst (.inl (.inl (sE2 _ _ op))) (dpa_strs sh), .lst (.inl (.inl oE2)) .nil, (ly_strs shok).shaped, by decide +kernel, ?_⟩
        rw [eqv_nil]
        have L := L.same sE2
        have du := dp_same sE2 du
        have op := sE2 _ _ op
        cases sh with
        | nil =>
          refine ⟨false, rfl, iteF ?_⟩
          have ly := ly_str (x := "fine") (by decide +kernel)
          refine ⟨_, _, du, .str _, ly.shaped, ly.shaped, ?_⟩
          have e : PyData.eqv (dueO "unknown" (([] : List Str).head?.map PyData.str)) (.str "fine") = true := ly.eqv
          rw [e]
          exact ⟨false, rfl, iteF ⟨L, _, _, _, _, _, _, _, rfl⟩⟩
        | cons x t =>
          refine ⟨true, rfl, iteT ?_⟩
          refine ⟨_, rfl, p, _, 0, _, rfl, rfl, .inl (.inl op), atI_nat (j := 0) rfl, by show 2 ≤ sizeLine; decide, fun T8 nT8 => ?_⟩
          have sT8 := Same.new (o := .tup [.str "unknown", .str x]) nT8
          have oT8 : upd Ga T8 (.tup [.str "unknown", .str x]) T8 = some (.tup [.str "unknown", .str x]) := upd_same
          generalize upd Ga T8 (HO.tup ([.str "unknown", .str x] : List V)) = Gb at sT8 oT8
          have ly := due_ly (w := "unknown") (by decide +kernel) (ly_str (shok x List.mem_cons_self))
          refine ⟨_, .tuple [.str "unknown", .str x], dp_same sT8 du, .tup (.inl (.inl oT8)) (.cons (.str _) (.cons (.str _) .nil)), ly.shaped, ly.shaped, ?_⟩
          have e : PyData.eqv (dueO "unknown" ((x :: t).head?.map PyData.str)) (.tuple [.str "unknown", .str x]) = true := ly.eqv
          rw [e]
          exact ⟨false, rfl, iteF ⟨L.same sT8, _, _, _, _, _, _, _, rfl⟩⟩
    · rintro σ G0 ⟨L, z7, z8, z9, z10, z11, z12, z13, rfl⟩
      have L := L.mono (show 4000 * i + 1620 + 20 * (5 : Int).toNat ≤ 4000 * i + 1800 by have : (5 : Int).toNat = 5 := rfl; omega)
      refine ⟨_, rfl, _, _, rfl, rfl, ten31, _, _, rfl, rfl, _, _, rfl, rfl, ten31, ?_⟩
      dsimp (config := { proj := false, iota := false, eta := false }) only
      rw [e31]
      refine ⟨by show 5 ≤ sizeLine; decide, fun tq ntq => ?_⟩
      have stq := Same.new (o := .tup [.int 0, .int (-1), .int (0 - 10000000000000000000000000000000), .int 1, .int 10000000000000000000000000000000]) ntq
      have otq : upd G0 tq (.tup [.int 0, .int (-1), .int (0 - 10000000000000000000000000000000), .int 1, .int 10000000000000000000000000000000]) tq = some (.tup [.int 0, .int (-1), .int (0 - 10000000000000000000000000000000), .int 1, .int 10000000000000000000000000000000]) := upd_same
      generalize upd G0 tq (HO.tup ([.int 0, .int (-1), .int (0 - 10000000000000000000000000000000), .int 1, .int 10000000000000000000000000000000] : List V)) = G2 at stq otq
      have L := L.same stq
      refine ⟨tq, rfl, ⟨_, .inl (.inl otq)⟩, for_tup (xs := [V.int 0, .int (-1), .int (0 - 10000000000000000000000000000000), .int 1, .int 10000000000000000000000000000000]) (fun m σ G => Same G2 G ∧ ∃ z7 z8 z9 z10 z11 z12 z13, σ = [some (.ref a), some (.ref g), some (.int (0 + (i : Nat))), some (.ref W), some (.ref R), some (.ref O), some (.str (toldD ss rr).shown), z7, z8, z9, z10, z11, z12, z13]) ⟨Same.refl _, _, _, _, _, _, _, _, rfl⟩ (fun m σ G _ h => .inl (.inl (h.1 _ _ otq))) ?_ ?_⟩
      · rintro m z σ G ez ⟨sm0, y7, y8, y9, y10, y11, y12, y13, rfl⟩
        obtain ⟨t, rfl, ht⟩ : ∃ t : Int, z = .int t ∧ t.natAbs ≤ 10 ^ 31 := by
          have mz := List.mem_of_getElem? ez
          simp only [List.mem_cons, List.not_mem_nil, or_false] at mz
          rcases mz with rfl | rfl | rfl | rfl | rfl
          · exact ⟨_, rfl, by decide⟩
          · exact ⟨_, rfl, by decide⟩
          · exact ⟨_, rfl, by decide⟩
          · exact ⟨_, rfl, by decide⟩
          · exact ⟨_, rfl, by decide⟩
        have L := L.same sm0
        refine ⟨_, rfl, _, rfl, 5, O, P1, R1, ss, rr, .int t, _, rfl, L.made, so, Y, .st (Nat.lt_of_le_of_lt ht (by decide)) (fun t1 => sy_movL Y gds (by omega) ht (fun _ => by show (0 : Int).natAbs ≤ _; decide)), fun u G3 k3 du => ?_⟩
        have k23 := sm0.trans k3
        refine ⟨_, rfl, _, _, rfl, rfl, _, rfl, ite2 (fun c => ?_) (fun c => ?_)⟩
        · have c' : 0 < t := of_decide_eq_true c
          rw [if_pos c'] at du
          have ly := ly_str (x := "fine") (by decide +kernel)
          refine ⟨_, _, du, .str _, ly.shaped, ly.shaped, ?_⟩
          rw [ly.eqv]
          exact ⟨false, rfl, iteF ⟨k23, _, _, _, _, _, _, _, rfl⟩⟩
        · have c' : ¬ 0 < t := of_decide_eq_false (by simpa using c)
          rw [if_neg c'] at du
          refine ⟨_, rfl, by show 2 ≤ sizeLine; decide, fun T8 nT8 => ?_⟩
          have sT8 := Same.new (o := .tup [.str "number", .int t]) nT8
          have oT8 : upd G3 T8 (.tup [.str "number", .int t]) T8 = some (.tup [.str "number", .int t]) := upd_same
          generalize upd G3 T8 (HO.tup ([.str "number", .int t] : List V)) = G4 at sT8 oT8
          have ly := due_ly (w := "number") (by decide +kernel) (Ly.int t)
          refine ⟨_, _, dp_same sT8 du, .tup (.inl (.inl oT8)) (.cons (.str _) (.cons (.int _) .nil)), ly.shaped, ly.shaped, ?_⟩
          rw [ly.eqv]
          exact ⟨false, rfl, iteF ⟨k23.trans sT8, _, _, _, _, _, _, _, rfl⟩⟩
      · rintro σ G ⟨sm0, y7, y8, y9, y10, y11, y12, y13, rfl⟩
        have L := L.same sm0
        refine ⟨_, rfl, O, P1, R1, ss, rr, rfl, L.made, ok0, fun G4 k4 => ?_⟩
        exact ⟨_, rfl, rfl, false, sNeF, iteF ⟨((L.same k4).rs).mono (by omega), _, _, _, _, _, _, _, _, _, _, _, _, rfl⟩⟩
end

end Pk09
namespace Pk09
open PySem PySem.Spec PyProof.Rows L2 Gd
set_option maxHeartbeats 8000000
variable {P : Program} {w : World} {K : PySem.W.Frag} {mg : Str → Option Value}
theorem at_mk {x : Str} {st : Stmt} {ps : List Str} {h : Heap} {f : Addr} {oc : Value} {od an : Option Addr} {sl : Array (Option Value)} {kV dc pm cd ct : Value} (X : K.In h) (G : h.Ns mainGlobals mg) (a : PySem.W.nsIn K mainGlobals x = some (some (.ref f))) (l : K.lookup f = some ⟨oc, od, .func (PySem.W.fnOf x x (defArgs st) (defBody st) (defScope st) .none kV dc pm an cd ct), sl⟩) (c : PySem.W.codeIn K cd x = true) (k : PySem.W.keepIn K (.ref f) = true)
    (b : ∀ (kV doc pm : Value) (an : Option Addr) (cdv ct : Value) (us : List Value), us.length = ps.length → bindArgs (PySem.W.fnOf x x (defArgs st) (defBody st) (defScope st) .none kV doc pm an cdv ct) ⟨us, []⟩ = pure (ps.zip us)) : At K mg x st ps :=
  ⟨f, _, fun_mk l c k, (fun_mk l c k).binds b, PySem.W.mg_of X G a⟩
theorem all_mk {l : PySem.W.OpenLaw} {h : Heap} {fa : Addr} (X : K.In h) (G : h.Ns mainGlobals mg) (hfa : mg "law" = some (.ref fa))
    {f0 f1 f2 f3 f4 f5 f6 f7 f8 f9 f10 f11 f12 f13 f14 f15 f16 f17 f18 f19 f20 f21 f22 f23 f24 f25 f26 f27 f28 f29 f30 f31 f32 f33 f34 f35 f36 f37 f38 f39 f40 f41 f42 : Addr} {od0 an0 od1 an1 od2 an2 od3 an3 od4 an4 od5 an5 od6 an6 od7 an7 od8 an8 od9 an9 od10 an10 od11 an11 od12 an12 od13 an13 od14 an14 od15 an15 od16 an16 od17 an17 od18 an18 od19 an19 od20 an20 od21 an21 od22 an22 od23 an23 od24 an24 od25 an25 od26 an26 od27 an27 od28 an28 od29 an29 od30 an30 od31 an31 od32 an32 od33 an33 od34 an34 od35 an35 od36 an36 od37 an37 od38 an38 od39 an39 od40 an40 od41 an41 od42 an42 : Option Addr} {sl0 sl1 sl2 sl3 sl4 sl5 sl6 sl7 sl8 sl9 sl10 sl11 sl12 sl13 sl14 sl15 sl16 sl17 sl18 sl19 sl20 sl21 sl22 sl23 sl24 sl25 sl26 sl27 sl28 sl29 sl30 sl31 sl32 sl33 sl34 sl35 sl36 sl37 sl38 sl39 sl40 sl41 sl42 : Array (Option Value)} {oc0 kV0 dc0 pm0 cd0 ct0 oc1 kV1 dc1 pm1 cd1 ct1 oc2 kV2 dc2 pm2 cd2 ct2 oc3 kV3 dc3 pm3 cd3 ct3 oc4 kV4 dc4 pm4 cd4 ct4 oc5 kV5 dc5 pm5 cd5 ct5 oc6 kV6 dc6 pm6 cd6 ct6 oc7 kV7 dc7 pm7 cd7 ct7 oc8 kV8 dc8 pm8 cd8 ct8 oc9 kV9 dc9 pm9 cd9 ct9 oc10 kV10 dc10 pm10 cd10 ct10 oc11 kV11 dc11 pm11 cd11 ct11 oc12 kV12 dc12 pm12 cd12 ct12 oc13 kV13 dc13 pm13 cd13 ct13 oc14 kV14 dc14 pm14 cd14 ct14 oc15 kV15 dc15 pm15 cd15 ct15 oc16 kV16 dc16 pm16 cd16 ct16 oc17 kV17 dc17 pm17 cd17 ct17 oc18 kV18 dc18 pm18 cd18 ct18 oc19 kV19 dc19 pm19 cd19 ct19 oc20 kV20 dc20 pm20 cd20 ct20 oc21 kV21 dc21 pm21 cd21 ct21 oc22 kV22 dc22 pm22 cd22 ct22 oc23 kV23 dc23 pm23 cd23 ct23 oc24 kV24 dc24 pm24 cd24 ct24 oc25 kV25 dc25 pm25 cd25 ct25 oc26 kV26 dc26 pm26 cd26 ct26 oc27 kV27 dc27 pm27 cd27 ct27 oc28 kV28 dc28 pm28 cd28 ct28 oc29 kV29 dc29 pm29 cd29 ct29 oc30 kV30 dc30 pm30 cd30 ct30 oc31 kV31 dc31 pm31 cd31 ct31 oc32 kV32 dc32 pm32 cd32 ct32 oc33 kV33 dc33 pm33 cd33 ct33 oc34 kV34 dc34 pm34 cd34 ct34 oc35 kV35 dc35 pm35 cd35 ct35 oc36 kV36 dc36 pm36 cd36 ct36 oc37 kV37 dc37 pm37 cd37 ct37 oc38 kV38 dc38 pm38 cd38 ct38 oc39 kV39 dc39 pm39 cd39 ct39 oc40 kV40 dc40 pm40 cd40 ct40 oc41 kV41 dc41 pm41 cd41 ct41 oc42 kV42 dc42 pm42 cd42 ct42 : Value}
    {C : Addr} {pp13 pp14 : Addr} {rest13 rest14 : List Value}
    {e0 eN0 e1 eN1 e2 eN2 e3 eN3 e4 eN4 e5 eN5 e6 eN6 e7 eN7 e8 eN8 e9 eN9 : Addr} {en0 eq0 en1 eq1 en2 eq2 en3 eq3 en4 eq4 en5 eq5 en6 eq6 en7 eq7 en8 eq8 en9 eq9 : Str} {ebs0 ebm0 esub0 ebs1 ebm1 esub1 ebs2 ebm2 esub2 ebs3 ebm3 esub3 ebs4 ebm4 esub4 ebs5 ebm5 esub5 ebs6 ebm6 esub6 ebs7 ebm7 esub7 ebs8 ebm8 esub8 ebs9 ebm9 esub9 : List Value} {esn0 esn1 esn2 esn3 esn4 esn5 esn6 esn7 esn8 esn9 : List Str} {eab0 eab1 eab2 eab3 eab4 eab5 eab6 eab7 eab8 eab9 : Bool} {ecol0 ecol1 ecol2 ecol3 ecol4 ecol5 ecol6 ecol7 ecol8 ecol9 : Option Bool} {edd0 edd1 edd2 edd3 edd4 edd5 edd6 edd7 edd8 edd9 : Option Addr} {ek00 ek10 ek20 ek30 ek50 ek01 ek11 ek21 ek31 ek51 ek02 ek12 ek22 ek32 ek52 ek03 ek13 ek23 ek33 ek53 ek04 ek14 ek24 ek34 ek54 ek05 ek15 ek25 ek35 ek55 ek06 ek16 ek26 ek36 ek56 ek07 ek17 ek27 ek37 ek57 ek08 ek18 ek28 ek38 ek58 ek09 ek19 ek29 ek39 ek59 : Option Value}
    (aC : PySem.W.nsIn K mainGlobals "System" = some (some (.ref C)))
    (pg : PySem.W.plainGet K C Str.empty = true)
    (hd : PySem.W.hasDictIn K C = true)
    (po : PySem.W.plainOver K C = true)
    (sa : PySem.W.findIn K (.ref C) "__setattr__" = some (some (.builtin "object.__setattr__")))
    (mk : PySem.W.makesIn K C = true)
    (kc : PySem.W.keepIn K (.ref C) = true)
    (nN : PySem.W.findIn K (.ref C) "_names" = some none)
    (nR : PySem.W.findIn K (.ref C) "_rules" = some none)
    (ha : PySem.W.findIn K (.ref C) "__class__" = some (some (.builtin "object.__class__")))
    (hn : PySem.W.specialIn K (.builtin "object.__class__") "__get__" = some (some (.builtin "getset_descriptor.__get__")))
    (ht : PySem.W.takesIn K (.builtin "object.__class__") = some true)
    (hm : PySem.W.mroIn K C (.type "object") = some true)
    (ki : PySem.W.isClsIn K C = true)
    (ty : PySem.W.typeIn K (.ref C) = some (.type "type"))
    (xn0 : PySem.W.nsIn K mainGlobals "RangeError" = some (some (.ref e0)))
    (xl0 : K.lookup e0 = some (excClassObj en0 eq0 e0 eN0 ebs0 ebm0 true esn0 esub0 eab0 ecol0 edd0 ek00 ek10 ek20 ek30 ek50 "ValueError.__new__"))
    (xr0 : PySem.HandSPX.refsVE ebm0 = true)
    (xn1 : PySem.W.nsIn K mainGlobals "InvalidRange" = some (some (.ref e1)))
    (xl1 : K.lookup e1 = some (excClassObj en1 eq1 e1 eN1 ebs1 ebm1 true esn1 esub1 eab1 ecol1 edd1 ek01 ek11 ek21 ek31 ek51 "ValueError.__new__"))
    (xr1 : PySem.HandSPX.refsVE ebm1 = true)
    (xn2 : PySem.W.nsIn K mainGlobals "InvalidName" = some (some (.ref e2)))
    (xl2 : K.lookup e2 = some (excClassObj en2 eq2 e2 eN2 ebs2 ebm2 true esn2 esub2 eab2 ecol2 edd2 ek02 ek12 ek22 ek32 ek52 "ValueError.__new__"))
    (xr2 : PySem.HandSPX.refsVE ebm2 = true)
    (xn3 : PySem.W.nsIn K mainGlobals "InvalidSystem" = some (some (.ref e3)))
    (xl3 : K.lookup e3 = some (excClassObj en3 eq3 e3 eN3 ebs3 ebm3 true esn3 esub3 eab3 ecol3 edd3 ek03 ek13 ek23 ek33 ek53 "ValueError.__new__"))
    (xr3 : PySem.HandSPX.refsVE ebm3 = true)
    (xn4 : PySem.W.nsIn K mainGlobals "InvalidRule" = some (some (.ref e4)))
    (xl4 : K.lookup e4 = some (excClassObj en4 eq4 e4 eN4 ebs4 ebm4 true esn4 esub4 eab4 ecol4 edd4 ek04 ek14 ek24 ek34 ek54 "ValueError.__new__"))
    (xr4 : PySem.HandSPX.refsVE ebm4 = true)
    (xn5 : PySem.W.nsIn K mainGlobals "UnknownName" = some (some (.ref e5)))
    (xl5 : K.lookup e5 = some (excClassObj en5 eq5 e5 eN5 ebs5 ebm5 true esn5 esub5 eab5 ecol5 edd5 ek05 ek15 ek25 ek35 ek55 "ValueError.__new__"))
    (xr5 : PySem.HandSPX.refsVE ebm5 = true)
    (xn6 : PySem.W.nsIn K mainGlobals "InvalidNumber" = some (some (.ref e6)))
    (xl6 : K.lookup e6 = some (excClassObj en6 eq6 e6 eN6 ebs6 ebm6 true esn6 esub6 eab6 ecol6 edd6 ek06 ek16 ek26 ek36 ek56 "ValueError.__new__"))
    (xr6 : PySem.HandSPX.refsVE ebm6 = true)
    (xn7 : PySem.W.nsIn K mainGlobals "InvalidMove" = some (some (.ref e7)))
    (xl7 : K.lookup e7 = some (excClassObj en7 eq7 e7 eN7 ebs7 ebm7 true esn7 esub7 eab7 ecol7 edd7 ek07 ek17 ek27 ek37 ek57 "ValueError.__new__"))
    (xr7 : PySem.HandSPX.refsVE ebm7 = true)
    (xn8 : PySem.W.nsIn K mainGlobals "NothingToUndo" = some (some (.ref e8)))
    (xl8 : K.lookup e8 = some (excClassObj en8 eq8 e8 eN8 ebs8 ebm8 true esn8 esub8 eab8 ecol8 edd8 ek08 ek18 ek28 ek38 ek58 "ValueError.__new__"))
    (xr8 : PySem.HandSPX.refsVE ebm8 = true)
    (xn9 : PySem.W.nsIn K mainGlobals "Unreadable" = some (some (.ref e9)))
    (xl9 : K.lookup e9 = some (excClassObj en9 eq9 e9 eN9 ebs9 ebm9 true esn9 esub9 eab9 ecol9 edd9 ek09 ek19 ek29 ek39 ek59 "ValueError.__new__"))
    (xr9 : PySem.HandSPX.refsVE ebm9 = true)
    (xi : PySem.W.findIn K (.ref e0) "__init__" = some (some (.ref f28)))
    (xb0 : errB K e0 f28 = true)
    (xk0 : kitB K e0 0 0 [e0, e1, e2, e3, e4, e5, e6, e7, e8, e9] = true)
    (xb1 : errB K e1 f28 = true)
    (xk1 : kitB K e1 1 0 [e0, e1, e2, e3, e4, e5, e6, e7, e8, e9] = true)
    (xb2 : errB K e2 f28 = true)
    (xk2 : kitB K e2 2 0 [e0, e1, e2, e3, e4, e5, e6, e7, e8, e9] = true)
    (xb3 : errB K e3 f28 = true)
    (xk3 : kitB K e3 3 0 [e0, e1, e2, e3, e4, e5, e6, e7, e8, e9] = true)
    (xb4 : errB K e4 f28 = true)
    (xk4 : kitB K e4 4 0 [e0, e1, e2, e3, e4, e5, e6, e7, e8, e9] = true)
    (xb5 : errB K e5 f28 = true)
    (xk5 : kitB K e5 5 0 [e0, e1, e2, e3, e4, e5, e6, e7, e8, e9] = true)
    (xb6 : errB K e6 f28 = true)
    (xk6 : kitB K e6 6 0 [e0, e1, e2, e3, e4, e5, e6, e7, e8, e9] = true)
    (xb7 : errB K e7 f28 = true)
    (xk7 : kitB K e7 7 0 [e0, e1, e2, e3, e4, e5, e6, e7, e8, e9] = true)
    (xb8 : errB K e8 f28 = true)
    (xk8 : kitB K e8 8 0 [e0, e1, e2, e3, e4, e5, e6, e7, e8, e9] = true)
    (xb9 : errB K e9 f28 = true)
    (xk9 : kitB K e9 9 0 [e0, e1, e2, e3, e4, e5, e6, e7, e8, e9] = true)
    (xj : initB K f28 = true)
    (a0 : PySem.W.nsIn K mainGlobals "is_upside_down" = some (some (.ref f0))) (l0 : K.lookup f0 = some ⟨oc0, od0, .func (PySem.W.fnOf "is_upside_down" "is_upside_down" (defArgs s_is_upside_down) (defBody s_is_upside_down) (defScope s_is_upside_down) .none kV0 dc0 pm0 an0 cd0 ct0), sl0⟩) (c0 : PySem.W.codeIn K cd0 "is_upside_down" = true) (k0 : PySem.W.keepIn K (.ref f0) = true)
    (a1 : PySem.W.nsIn K mainGlobals "check_range" = some (some (.ref f1))) (l1 : K.lookup f1 = some ⟨oc1, od1, .func (PySem.W.fnOf "check_range" "check_range" (defArgs s_check_range) (defBody s_check_range) (defScope s_check_range) .none kV1 dc1 pm1 an1 cd1 ct1), sl1⟩) (c1 : PySem.W.codeIn K cd1 "check_range" = true) (k1 : PySem.W.keepIn K (.ref f1) = true)
    (a2 : PySem.W.nsIn K mainGlobals "_taken" = some (some (.ref f2))) (l2 : K.lookup f2 = some ⟨oc2, od2, .func (PySem.W.fnOf "_taken" "_taken" (defArgs s__taken) (defBody s__taken) (defScope s__taken) .none kV2 dc2 pm2 an2 cd2 ct2), sl2⟩) (c2 : PySem.W.codeIn K cd2 "_taken" = true) (k2 : PySem.W.keepIn K (.ref f2) = true)
    (a3 : PySem.W.nsIn K mainGlobals "stepped" = some (some (.ref f3))) (l3 : K.lookup f3 = some ⟨oc3, od3, .func (PySem.W.fnOf "stepped" "stepped" (defArgs s_stepped) (defBody s_stepped) (defScope s_stepped) .none kV3 dc3 pm3 an3 cd3 ct3), sl3⟩) (c3 : PySem.W.codeIn K cd3 "stepped" = true) (k3 : PySem.W.keepIn K (.ref f3) = true)
    (a4 : PySem.W.nsIn K mainGlobals "_law_draw" = some (some (.ref f4))) (l4 : K.lookup f4 = some ⟨oc4, od4, .func (PySem.W.fnOf "_law_draw" "_law_draw" (defArgs s__law_draw) (defBody s__law_draw) (defScope s__law_draw) .none kV4 dc4 pm4 an4 cd4 ct4), sl4⟩) (c4 : PySem.W.codeIn K cd4 "_law_draw" = true) (k4 : PySem.W.keepIn K (.ref f4) = true)
    (a5 : PySem.W.nsIn K mainGlobals "_law_rng" = some (some (.ref f5))) (l5 : K.lookup f5 = some ⟨oc5, od5, .func (PySem.W.fnOf "_law_rng" "_law_rng" (defArgs s__law_rng) (defBody s__law_rng) (defScope s__law_rng) .none kV5 dc5 pm5 an5 cd5 ct5), sl5⟩) (c5 : PySem.W.codeIn K cd5 "_law_rng" = true) (k5 : PySem.W.keepIn K (.ref f5) = true)
    (a6 : PySem.W.nsIn K mainGlobals "_names_of" = some (some (.ref f6))) (l6 : K.lookup f6 = some ⟨oc6, od6, .func (PySem.W.fnOf "_names_of" "_names_of" (defArgs s__names_of) (defBody s__names_of) (defScope s__names_of) .none kV6 dc6 pm6 an6 cd6 ct6), sl6⟩) (c6 : PySem.W.codeIn K cd6 "_names_of" = true) (k6 : PySem.W.keepIn K (.ref f6) = true)
    (a7 : PySem.W.nsIn K mainGlobals "_ranges_of" = some (some (.ref f7))) (l7 : K.lookup f7 = some ⟨oc7, od7, .func (PySem.W.fnOf "_ranges_of" "_ranges_of" (defArgs s__ranges_of) (defBody s__ranges_of) (defScope s__ranges_of) .none kV7 dc7 pm7 an7 cd7 ct7), sl7⟩) (c7 : PySem.W.codeIn K cd7 "_ranges_of" = true) (k7 : PySem.W.keepIn K (.ref f7) = true)
    (a8 : PySem.W.nsIn K mainGlobals "is_faulty" = some (some (.ref f8))) (l8 : K.lookup f8 = some ⟨oc8, od8, .func (PySem.W.fnOf "is_faulty" "is_faulty" (defArgs s_is_faulty) (defBody s_is_faulty) (defScope s_is_faulty) .none kV8 dc8 pm8 an8 cd8 ct8), sl8⟩) (c8 : PySem.W.codeIn K cd8 "is_faulty" = true) (k8 : PySem.W.keepIn K (.ref f8) = true)
    (a9 : PySem.W.nsIn K mainGlobals "is_name" = some (some (.ref f9))) (l9 : K.lookup f9 = some ⟨oc9, od9, .func (PySem.W.fnOf "is_name" "is_name" (defArgs s_is_name) (defBody s_is_name) (defScope s_is_name) .none kV9 dc9 pm9 an9 cd9 ct9), sl9⟩) (c9 : PySem.W.codeIn K cd9 "is_name" = true) (k9 : PySem.W.keepIn K (.ref f9) = true)
    (a10 : PySem.W.nsIn K mainGlobals "_check_system" = some (some (.ref f10))) (l10 : K.lookup f10 = some ⟨oc10, od10, .func (PySem.W.fnOf "_check_system" "_check_system" (defArgs s__check_system) (defBody s__check_system) (defScope s__check_system) .none kV10 dc10 pm10 an10 cd10 ct10), sl10⟩) (c10 : PySem.W.codeIn K cd10 "_check_system" = true) (k10 : PySem.W.keepIn K (.ref f10) = true)
    (a11 : PySem.W.findIn K (.ref C) "__init__" = some (some (.ref f11))) (i11 : PySem.W.isFn K (.ref f11) = true) (l11 : K.lookup f11 = some ⟨oc11, od11, .func (PySem.W.fnOf "__init__" "System.__init__" (defArgs s_System___init__) (defBody s_System___init__) (defScope s_System___init__) .none kV11 dc11 pm11 an11 cd11 ct11), sl11⟩) (c11 : PySem.W.codeIn K cd11 "System.__init__" = true) (k11 : PySem.W.keepIn K (.ref f11) = true)
    (a12 : PySem.W.findIn K (.ref C) "__len__" = some (some (.ref f12))) (i12 : PySem.W.isFn K (.ref f12) = true) (l12 : K.lookup f12 = some ⟨oc12, od12, .func (PySem.W.fnOf "__len__" "System.__len__" (defArgs s_System___len__) (defBody s_System___len__) (defScope s_System___len__) .none kV12 dc12 pm12 an12 cd12 ct12), sl12⟩) (c12 : PySem.W.codeIn K cd12 "System.__len__" = true) (k12 : PySem.W.keepIn K (.ref f12) = true)
    (a13 : PySem.W.findIn K (.ref C) "names" = some (some (.ref pp13))) (g13 : PySem.W.specialIn K (.ref pp13) "__get__" = some (some (.builtin "property.__get__"))) (t13 : PySem.W.takesIn K (.ref pp13) = some true) (r13 : PySem.W.recIn K pp13 "property" = some (.ref f13 :: rest13)) (l13 : K.lookup f13 = some ⟨oc13, od13, .func (PySem.W.fnOf "names" "System.names" (defArgs s_System_names) (defBody s_System_names) (defScope s_System_names) .none kV13 dc13 pm13 an13 cd13 ct13), sl13⟩) (c13 : PySem.W.codeIn K cd13 "System.names" = true) (k13 : PySem.W.keepIn K (.ref f13) = true)
    (a14 : PySem.W.findIn K (.ref C) "rules" = some (some (.ref pp14))) (g14 : PySem.W.specialIn K (.ref pp14) "__get__" = some (some (.builtin "property.__get__"))) (t14 : PySem.W.takesIn K (.ref pp14) = some true) (r14 : PySem.W.recIn K pp14 "property" = some (.ref f14 :: rest14)) (l14 : K.lookup f14 = some ⟨oc14, od14, .func (PySem.W.fnOf "rules" "System.rules" (defArgs s_System_rules) (defBody s_System_rules) (defScope s_System_rules) .none kV14 dc14 pm14 an14 cd14 ct14), sl14⟩) (c14 : PySem.W.codeIn K cd14 "System.rules" = true) (k14 : PySem.W.keepIn K (.ref f14) = true)
    (a15 : PySem.W.findIn K (.ref C) "__eq__" = some (some (.ref f15))) (i15 : PySem.W.isFn K (.ref f15) = true) (l15 : K.lookup f15 = some ⟨oc15, od15, .func (PySem.W.fnOf "__eq__" "System.__eq__" (defArgs s_System___eq__) (defBody s_System___eq__) (defScope s_System___eq__) .none kV15 dc15 pm15 an15 cd15 ct15), sl15⟩) (c15 : PySem.W.codeIn K cd15 "System.__eq__" = true) (k15 : PySem.W.keepIn K (.ref f15) = true)
    (a16 : PySem.W.nsIn K mainGlobals "_law_words" = some (some (.ref f16))) (l16 : K.lookup f16 = some ⟨oc16, od16, .func (PySem.W.fnOf "_law_words" "_law_words" (defArgs s__law_words) (defBody s__law_words) (defScope s__law_words) .none kV16 dc16 pm16 an16 cd16 ct16), sl16⟩) (c16 : PySem.W.codeIn K cd16 "_law_words" = true) (k16 : PySem.W.keepIn K (.ref f16) = true)
    (a17 : PySem.W.nsIn K mainGlobals "_law_end" = some (some (.ref f17))) (l17 : K.lookup f17 = some ⟨oc17, od17, .func (PySem.W.fnOf "_law_end" "_law_end" (defArgs s__law_end) (defBody s__law_end) (defScope s__law_end) .none kV17 dc17 pm17 an17 cd17 ct17), sl17⟩) (c17 : PySem.W.codeIn K cd17 "_law_end" = true) (k17 : PySem.W.keepIn K (.ref f17) = true)
    (a18 : PySem.W.nsIn K mainGlobals "_law_within" = some (some (.ref f18))) (l18 : K.lookup f18 = some ⟨oc18, od18, .func (PySem.W.fnOf "_law_within" "_law_within" (defArgs s__law_within) (defBody s__law_within) (defScope s__law_within) .none kV18 dc18 pm18 an18 cd18 ct18), sl18⟩) (c18 : PySem.W.codeIn K cd18 "_law_within" = true) (k18 : PySem.W.keepIn K (.ref f18) = true)
    (a19 : PySem.W.nsIn K mainGlobals "_law_rule" = some (some (.ref f19))) (l19 : K.lookup f19 = some ⟨oc19, od19, .func (PySem.W.fnOf "_law_rule" "_law_rule" (defArgs s__law_rule) (defBody s__law_rule) (defScope s__law_rule) .none kV19 dc19 pm19 an19 cd19 ct19), sl19⟩) (c19 : PySem.W.codeIn K cd19 "_law_rule" = true) (k19 : PySem.W.keepIn K (.ref f19) = true)
    (a20 : PySem.W.nsIn K mainGlobals "_law_rows" = some (some (.ref f20))) (l20 : K.lookup f20 = some ⟨oc20, od20, .func (PySem.W.fnOf "_law_rows" "_law_rows" (defArgs s__law_rows) (defBody s__law_rows) (defScope s__law_rows) .none kV20 dc20 pm20 an20 cd20 ct20), sl20⟩) (c20 : PySem.W.codeIn K cd20 "_law_rows" = true) (k20 : PySem.W.keepIn K (.ref f20) = true)
    (a21 : PySem.W.nsIn K mainGlobals "_law_shown" = some (some (.ref f21))) (l21 : K.lookup f21 = some ⟨oc21, od21, .func (PySem.W.fnOf "_law_shown" "_law_shown" (defArgs s__law_shown) (defBody s__law_shown) (defScope s__law_shown) .none kV21 dc21 pm21 an21 cd21 ct21), sl21⟩) (c21 : PySem.W.codeIn K cd21 "_law_shown" = true) (k21 : PySem.W.keepIn K (.ref f21) = true)
    (a22 : PySem.W.nsIn K mainGlobals "check_number" = some (some (.ref f22))) (l22 : K.lookup f22 = some ⟨oc22, od22, .func (PySem.W.fnOf "check_number" "check_number" (defArgs s_check_number) (defBody s_check_number) (defScope s_check_number) .none kV22 dc22 pm22 an22 cd22 ct22), sl22⟩) (c22 : PySem.W.codeIn K cd22 "check_number" = true) (k22 : PySem.W.keepIn K (.ref f22) = true)
    (a23 : PySem.W.nsIn K mainGlobals "check_name" = some (some (.ref f23))) (l23 : K.lookup f23 = some ⟨oc23, od23, .func (PySem.W.fnOf "check_name" "check_name" (defArgs s_check_name) (defBody s_check_name) (defScope s_check_name) .none kV23 dc23 pm23 an23 cd23 ct23), sl23⟩) (c23 : PySem.W.codeIn K cd23 "check_name" = true) (k23 : PySem.W.keepIn K (.ref f23) = true)
    (a24 : PySem.W.nsIn K mainGlobals "_changed_range" = some (some (.ref f24))) (l24 : K.lookup f24 = some ⟨oc24, od24, .func (PySem.W.fnOf "_changed_range" "_changed_range" (defArgs s__changed_range) (defBody s__changed_range) (defScope s__changed_range) .none kV24 dc24 pm24 an24 cd24 ct24), sl24⟩) (c24 : PySem.W.codeIn K cd24 "_changed_range" = true) (k24 : PySem.W.keepIn K (.ref f24) = true)
    (a25 : PySem.W.nsIn K mainGlobals "changed_rule" = some (some (.ref f25))) (l25 : K.lookup f25 = some ⟨oc25, od25, .func (PySem.W.fnOf "changed_rule" "changed_rule" (defArgs s_changed_rule) (defBody s_changed_rule) (defScope s_changed_rule) .none kV25 dc25 pm25 an25 cd25 ct25), sl25⟩) (c25 : PySem.W.codeIn K cd25 "changed_rule" = true) (k25 : PySem.W.keepIn K (.ref f25) = true)
    (a26 : PySem.W.findIn K (.ref C) "_changed" = some (some (.ref f26))) (i26 : PySem.W.isFn K (.ref f26) = true) (l26 : K.lookup f26 = some ⟨oc26, od26, .func (PySem.W.fnOf "_changed" "System._changed" (defArgs s_System__changed) (defBody s_System__changed) (defScope s_System__changed) .none kV26 dc26 pm26 an26 cd26 ct26), sl26⟩) (c26 : PySem.W.codeIn K cd26 "System._changed" = true) (k26 : PySem.W.keepIn K (.ref f26) = true)
    (a27 : PySem.W.nsIn K mainGlobals "renamed_rule" = some (some (.ref f27))) (l27 : K.lookup f27 = some ⟨oc27, od27, .func (PySem.W.fnOf "renamed_rule" "renamed_rule" (defArgs s_renamed_rule) (defBody s_renamed_rule) (defScope s_renamed_rule) .none kV27 dc27 pm27 an27 cd27 ct27), sl27⟩) (c27 : PySem.W.codeIn K cd27 "renamed_rule" = true) (k27 : PySem.W.keepIn K (.ref f27) = true)
    (l28 : K.lookup f28 = some ⟨oc28, od28, .func (PySem.W.fnOf "__init__" "RangeError.__init__" (defArgs s_RangeError___init__) (defBody s_RangeError___init__) (defScope s_RangeError___init__) .none kV28 dc28 pm28 an28 cd28 ct28), sl28⟩) (c28 : PySem.W.codeIn K cd28 "RangeError.__init__" = true) (k28 : PySem.W.keepIn K (.ref f28) = true)
    (a29 : PySem.W.nsIn K mainGlobals "_law_caught" = some (some (.ref f29))) (l29 : K.lookup f29 = some ⟨oc29, od29, .func (PySem.W.fnOf "_law_caught" "_law_caught" (defArgs s__law_caught) (defBody s__law_caught) (defScope s__law_caught) .none kV29 dc29 pm29 an29 cd29 ct29), sl29⟩) (c29 : PySem.W.codeIn K cd29 "_law_caught" = true) (k29 : PySem.W.keepIn K (.ref f29) = true)
    (a30 : PySem.W.nsIn K mainGlobals "_check_system" = some (some (.ref f30))) (l30 : K.lookup f30 = some ⟨oc30, od30, .func (PySem.W.fnOf "_check_system" "_check_system" (defArgs s__check_systemE) (defBody s__check_systemE) (defScope s__check_systemE) .none kV30 dc30 pm30 an30 cd30 ct30), sl30⟩) (c30 : PySem.W.codeIn K cd30 "_check_system" = true) (k30 : PySem.W.keepIn K (.ref f30) = true)
    (a31 : PySem.W.findIn K (.ref C) "__init__" = some (some (.ref f31))) (i31 : PySem.W.isFn K (.ref f31) = true) (l31 : K.lookup f31 = some ⟨oc31, od31, .func (PySem.W.fnOf "__init__" "System.__init__" (defArgs s_System___initE__) (defBody s_System___initE__) (defScope s_System___initE__) .none kV31 dc31 pm31 an31 cd31 ct31), sl31⟩) (c31 : PySem.W.codeIn K cd31 "System.__init__" = true) (k31 : PySem.W.keepIn K (.ref f31) = true)
    (a32 : PySem.W.findIn K (.ref C) "without" = some (some (.ref f32))) (i32 : PySem.W.isFn K (.ref f32) = true) (l32 : K.lookup f32 = some ⟨oc32, od32, .func (PySem.W.fnOf "without" "System.without" (defArgs s_System_without) (defBody s_System_without) (defScope s_System_without) .none kV32 dc32 pm32 an32 cd32 ct32), sl32⟩) (c32 : PySem.W.codeIn K cd32 "System.without" = true) (k32 : PySem.W.keepIn K (.ref f32) = true)
    (a33 : PySem.W.findIn K (.ref C) "with_rule" = some (some (.ref f33))) (i33 : PySem.W.isFn K (.ref f33) = true) (l33 : K.lookup f33 = some ⟨oc33, od33, .func (PySem.W.fnOf "with_rule" "System.with_rule" (defArgs s_System_with_rule) (defBody s_System_with_rule) (defScope s_System_with_rule) .none kV33 dc33 pm33 an33 cd33 ct33), sl33⟩) (c33 : PySem.W.codeIn K cd33 "System.with_rule" = true) (k33 : PySem.W.keepIn K (.ref f33) = true)
    (a34 : PySem.W.findIn K (.ref C) "beside" = some (some (.ref f34))) (i34 : PySem.W.isFn K (.ref f34) = true) (l34 : K.lookup f34 = some ⟨oc34, od34, .func (PySem.W.fnOf "beside" "System.beside" (defArgs s_System_beside) (defBody s_System_beside) (defScope s_System_beside) .none kV34 dc34 pm34 an34 cd34 ct34), sl34⟩) (c34 : PySem.W.codeIn K cd34 "System.beside" = true) (k34 : PySem.W.keepIn K (.ref f34) = true)
    (a35 : PySem.W.findIn K (.ref C) "moved" = some (some (.ref f35))) (i35 : PySem.W.isFn K (.ref f35) = true) (l35 : K.lookup f35 = some ⟨oc35, od35, .func (PySem.W.fnOf "moved" "System.moved" (defArgs s_System_moved) (defBody s_System_moved) (defScope s_System_moved) .none kV35 dc35 pm35 an35 cd35 ct35), sl35⟩) (c35 : PySem.W.codeIn K cd35 "System.moved" = true) (k35 : PySem.W.keepIn K (.ref f35) = true)
    (a36 : PySem.W.findIn K (.ref C) "stretched" = some (some (.ref f36))) (i36 : PySem.W.isFn K (.ref f36) = true) (l36 : K.lookup f36 = some ⟨oc36, od36, .func (PySem.W.fnOf "stretched" "System.stretched" (defArgs s_System_stretched) (defBody s_System_stretched) (defScope s_System_stretched) .none kV36 dc36 pm36 an36 cd36 ct36), sl36⟩) (c36 : PySem.W.codeIn K cd36 "System.stretched" = true) (k36 : PySem.W.keepIn K (.ref f36) = true)
    (a37 : PySem.W.findIn K (.ref C) "renamed" = some (some (.ref f37))) (i37 : PySem.W.isFn K (.ref f37) = true) (l37 : K.lookup f37 = some ⟨oc37, od37, .func (PySem.W.fnOf "renamed" "System.renamed" (defArgs s_System_renamed) (defBody s_System_renamed) (defScope s_System_renamed) .none kV37 dc37 pm37 an37 cd37 ct37), sl37⟩) (c37 : PySem.W.codeIn K cd37 "System.renamed" = true) (k37 : PySem.W.keepIn K (.ref f37) = true)
    (a38 : PySem.W.nsIn K mainGlobals "_law_raised" = some (some (.ref f38))) (l38 : K.lookup f38 = some ⟨oc38, od38, .func (PySem.W.fnOf "_law_raised" "_law_raised" (defArgs s__law_raised) (defBody s__law_raised) (defScope s__law_raised) .none kV38 dc38 pm38 an38 cd38 ct38), sl38⟩) (c38 : PySem.W.codeIn K cd38 "_law_raised" = true) (k38 : PySem.W.keepIn K (.ref f38) = true)
    (a39 : PySem.W.nsIn K mainGlobals "_law_renamed_due" = some (some (.ref f39))) (l39 : K.lookup f39 = some ⟨oc39, od39, .func (PySem.W.fnOf "_law_renamed_due" "_law_renamed_due" (defArgs s__law_renamed_due) (defBody s__law_renamed_due) (defScope s__law_renamed_due) .none kV39 dc39 pm39 an39 cd39 ct39), sl39⟩) (c39 : PySem.W.codeIn K cd39 "_law_renamed_due" = true) (k39 : PySem.W.keepIn K (.ref f39) = true)
    (a40 : PySem.W.nsIn K mainGlobals "_law_beside_right" = some (some (.ref f40))) (l40 : K.lookup f40 = some ⟨oc40, od40, .func (PySem.W.fnOf "_law_beside_right" "_law_beside_right" (defArgs s__law_beside_right) (defBody s__law_beside_right) (defScope s__law_beside_right) .none kV40 dc40 pm40 an40 cd40 ct40), sl40⟩) (c40 : PySem.W.codeIn K cd40 "_law_beside_right" = true) (k40 : PySem.W.keepIn K (.ref f40) = true)
    (a41 : PySem.W.nsIn K mainGlobals "_law_rules_right" = some (some (.ref f41))) (l41 : K.lookup f41 = some ⟨oc41, od41, .func (PySem.W.fnOf "_law_rules_right" "_law_rules_right" (defArgs s__law_rules_right) (defBody s__law_rules_right) (defScope s__law_rules_right) .none kV41 dc41 pm41 an41 cd41 ct41), sl41⟩) (c41 : PySem.W.codeIn K cd41 "_law_rules_right" = true) (k41 : PySem.W.keepIn K (.ref f41) = true)
    (a42 : PySem.W.nsIn K mainGlobals "law" = some (some (.ref f42))) (l42 : K.lookup f42 = some ⟨oc42, od42, .func (PySem.W.fnOf "law" "law" (defArgs s_law) (defBody s_law) (defScope s_law) .none kV42 dc42 pm42 an42 cd42 ct42), sl42⟩) (c42 : PySem.W.codeIn K cd42 "law" = true) (k42 : PySem.W.keepIn K (.ref f42) = true)
    (z0 : PySem.W.nsIn K mainGlobals "ValueError" = some none)
    (z1 : PySem.W.nsIn K mainGlobals "abs" = some none)
    (z2 : PySem.W.nsIn K mainGlobals "all" = some none)
    (z3 : PySem.W.nsIn K mainGlobals "any" = some none)
    (z4 : PySem.W.nsIn K mainGlobals "dict" = some none)
    (z5 : PySem.W.nsIn K mainGlobals "enumerate" = some none)
    (z6 : PySem.W.nsIn K mainGlobals "int" = some none)
    (z7 : PySem.W.nsIn K mainGlobals "isinstance" = some none)
    (z8 : PySem.W.nsIn K mainGlobals "len" = some none)
    (z9 : PySem.W.nsIn K mainGlobals "list" = some none)
    (z10 : PySem.W.nsIn K mainGlobals "max" = some none)
    (z11 : PySem.W.nsIn K mainGlobals "min" = some none)
    (z12 : PySem.W.nsIn K mainGlobals "range" = some none)
    (z13 : PySem.W.nsIn K mainGlobals "repr" = some none)
    (z14 : PySem.W.nsIn K mainGlobals "sorted" = some none)
    (z15 : PySem.W.nsIn K mainGlobals "tuple" = some none)
    : ∃ fd : FuncData, (∀ (s : Shared) (v : Value), BindsTo s fd ⟨[v], []⟩ [("script", v)]) ∧ ∀ base : Heap, K.In base → base.Ns mainGlobals mg → FnGd l.prog w K mg base 10 fa fd ["script"] (sp_law K) := by
  have e := hfa.symm.trans (PySem.W.mg_of X G a42)
  cases e
  have T : SysT K mg C := ⟨⟨⟨pg, hd, po, sa⟩, mk, kc, PySem.W.mg_of X G aC⟩, nN, nR, ha, hn, ht, hm, ki, ty⟩
  have XE : ErrT K mg [e0, e1, e2, e3, e4, e5, e6, e7, e8, e9] ["RangeError", "InvalidRange", "InvalidName", "InvalidSystem", "InvalidRule", "UnknownName", "InvalidNumber", "InvalidMove", "NothingToUndo", "Unreadable"] f28 := by
    refine ⟨fun i C x hc hx => ?_, fun i j C D hc hd => ?_, fun i C hc => ?_, rfl⟩
    · match i, hc, hx with
      | 0, hc, hx => obtain rfl := Option.some.inj hc; obtain rfl := Option.some.inj hx; exact ext_mk ⟨_, _, _, _, _, _, _, _, _, _, _, _, _, _, _, xl0, xr0⟩ (PySem.W.mg_of X G xn0) xb0 xj
      | 1, hc, hx => obtain rfl := Option.some.inj hc; obtain rfl := Option.some.inj hx; exact ext_mk ⟨_, _, _, _, _, _, _, _, _, _, _, _, _, _, _, xl1, xr1⟩ (PySem.W.mg_of X G xn1) xb1 xj
      | 2, hc, hx => obtain rfl := Option.some.inj hc; obtain rfl := Option.some.inj hx; exact ext_mk ⟨_, _, _, _, _, _, _, _, _, _, _, _, _, _, _, xl2, xr2⟩ (PySem.W.mg_of X G xn2) xb2 xj
      | 3, hc, hx => obtain rfl := Option.some.inj hc; obtain rfl := Option.some.inj hx; exact ext_mk ⟨_, _, _, _, _, _, _, _, _, _, _, _, _, _, _, xl3, xr3⟩ (PySem.W.mg_of X G xn3) xb3 xj
      | 4, hc, hx => obtain rfl := Option.some.inj hc; obtain rfl := Option.some.inj hx; exact ext_mk ⟨_, _, _, _, _, _, _, _, _, _, _, _, _, _, _, xl4, xr4⟩ (PySem.W.mg_of X G xn4) xb4 xj
      | 5, hc, hx => obtain rfl := Option.some.inj hc; obtain rfl := Option.some.inj hx; exact ext_mk ⟨_, _, _, _, _, _, _, _, _, _, _, _, _, _, _, xl5, xr5⟩ (PySem.W.mg_of X G xn5) xb5 xj
      | 6, hc, hx => obtain rfl := Option.some.inj hc; obtain rfl := Option.some.inj hx; exact ext_mk ⟨_, _, _, _, _, _, _, _, _, _, _, _, _, _, _, xl6, xr6⟩ (PySem.W.mg_of X G xn6) xb6 xj
      | 7, hc, hx => obtain rfl := Option.some.inj hc; obtain rfl := Option.some.inj hx; exact ext_mk ⟨_, _, _, _, _, _, _, _, _, _, _, _, _, _, _, xl7, xr7⟩ (PySem.W.mg_of X G xn7) xb7 xj
      | 8, hc, hx => obtain rfl := Option.some.inj hc; obtain rfl := Option.some.inj hx; exact ext_mk ⟨_, _, _, _, _, _, _, _, _, _, _, _, _, _, _, xl8, xr8⟩ (PySem.W.mg_of X G xn8) xb8 xj
      | 9, hc, hx => obtain rfl := Option.some.inj hc; obtain rfl := Option.some.inj hx; exact ext_mk ⟨_, _, _, _, _, _, _, _, _, _, _, _, _, _, _, xl9, xr9⟩ (PySem.W.mg_of X G xn9) xb9 xj
      | n + 10, hc, _ => simp at hc
    · match i, hc with
      | 0, hc => obtain rfl := Option.some.inj hc; have z := (kitB_at xk0).1 j D hd; rw [Nat.zero_add] at z; exact z
      | 1, hc => obtain rfl := Option.some.inj hc; have z := (kitB_at xk1).1 j D hd; rw [Nat.zero_add] at z; exact z
      | 2, hc => obtain rfl := Option.some.inj hc; have z := (kitB_at xk2).1 j D hd; rw [Nat.zero_add] at z; exact z
      | 3, hc => obtain rfl := Option.some.inj hc; have z := (kitB_at xk3).1 j D hd; rw [Nat.zero_add] at z; exact z
      | 4, hc => obtain rfl := Option.some.inj hc; have z := (kitB_at xk4).1 j D hd; rw [Nat.zero_add] at z; exact z
      | 5, hc => obtain rfl := Option.some.inj hc; have z := (kitB_at xk5).1 j D hd; rw [Nat.zero_add] at z; exact z
      | 6, hc => obtain rfl := Option.some.inj hc; have z := (kitB_at xk6).1 j D hd; rw [Nat.zero_add] at z; exact z
      | 7, hc => obtain rfl := Option.some.inj hc; have z := (kitB_at xk7).1 j D hd; rw [Nat.zero_add] at z; exact z
      | 8, hc => obtain rfl := Option.some.inj hc; have z := (kitB_at xk8).1 j D hd; rw [Nat.zero_add] at z; exact z
      | 9, hc => obtain rfl := Option.some.inj hc; have z := (kitB_at xk9).1 j D hd; rw [Nat.zero_add] at z; exact z
      | n + 10, hc => simp at hc
    · match i, hc with
      | 0, hc => obtain rfl := Option.some.inj hc; exact (kitB_at xk0).2
      | 1, hc => obtain rfl := Option.some.inj hc; exact (kitB_at xk1).2
      | 2, hc => obtain rfl := Option.some.inj hc; exact (kitB_at xk2).2
      | 3, hc => obtain rfl := Option.some.inj hc; exact (kitB_at xk3).2
      | 4, hc => obtain rfl := Option.some.inj hc; exact (kitB_at xk4).2
      | 5, hc => obtain rfl := Option.some.inj hc; exact (kitB_at xk5).2
      | 6, hc => obtain rfl := Option.some.inj hc; exact (kitB_at xk6).2
      | 7, hc => obtain rfl := Option.some.inj hc; exact (kitB_at xk7).2
      | 8, hc => obtain rfl := Option.some.inj hc; exact (kitB_at xk8).2
      | 9, hc => obtain rfl := Option.some.inj hc; exact (kitB_at xk9).2
      | n + 10, hc => simp at hc
  have A0 : At K mg "is_upside_down" s_is_upside_down ["one"] := at_mk X G a0 l0 c0 k0 fun _ _ _ _ _ _ us hl => match us, hl with | [_], _ => rfl
  have A1 : At K mg "check_range" s_check_range ["one"] := at_mk X G a1 l1 c1 k1 fun _ _ _ _ _ _ us hl => match us, hl with | [_], _ => rfl
  have A2 : At K mg "_taken" s__taken ["bound", "factor", "add"] := at_mk X G a2 l2 c2 k2 fun _ _ _ _ _ _ us hl => match us, hl with | [_, _, _], _ => rfl
  have A3 : At K mg "stepped" s_stepped ["one", "factor", "add"] := at_mk X G a3 l3 c3 k3 fun _ _ _ _ _ _ us hl => match us, hl with | [_, _, _], _ => rfl
  have A4 : At K mg "_law_draw" s__law_draw ["rng", "limit"] := at_mk X G a4 l4 c4 k4 fun _ _ _ _ _ _ us hl => match us, hl with | [_, _], _ => rfl
  have A5 : At K mg "_law_rng" s__law_rng ["script"] := at_mk X G a5 l5 c5 k5 fun _ _ _ _ _ _ us hl => match us, hl with | [_], _ => rfl
  have A6 : At K mg "_names_of" s__names_of ["rule"] := at_mk X G a6 l6 c6 k6 fun _ _ _ _ _ _ us hl => match us, hl with | [_], _ => rfl
  have A7 : At K mg "_ranges_of" s__ranges_of ["rule"] := at_mk X G a7 l7 c7 k7 fun _ _ _ _ _ _ us hl => match us, hl with | [_], _ => rfl
  have A8 : At K mg "is_faulty" s_is_faulty ["rule", "names"] := at_mk X G a8 l8 c8 k8 fun _ _ _ _ _ _ us hl => match us, hl with | [_, _], _ => rfl
  have A9 : At K mg "is_name" s_is_name ["text"] := at_mk X G a9 l9 c9 k9 fun _ _ _ _ _ _ us hl => match us, hl with | [_], _ => rfl
  have A10 : At K mg "_check_system" s__check_system ["names", "rules"] := at_mk X G a10 l10 c10 k10 fun _ _ _ _ _ _ us hl => match us, hl with | [_, _], _ => rfl
  have A11 : AtM K C "__init__" "System.__init__" s_System___init__ ["self", "names", "rules"] := ⟨f11, _, a11, i11, fun_mk l11 c11 k11, (fun_mk l11 c11 k11).binds (fun _ _ _ _ _ _ us hl => match us, hl with | [_, _, _], _ => rfl)⟩
  have A12 : AtM K C "__len__" "System.__len__" s_System___len__ ["self"] := ⟨f12, _, a12, i12, fun_mk l12 c12 k12, (fun_mk l12 c12 k12).binds (fun _ _ _ _ _ _ us hl => match us, hl with | [_], _ => rfl)⟩
  have A13 : AtP K C "names" "System.names" s_System_names ["self"] := ⟨pp13, f13, _, ⟨a13, g13, t13, rest13, r13⟩, fun_mk l13 c13 k13, (fun_mk l13 c13 k13).binds (fun _ _ _ _ _ _ us hl => match us, hl with | [_], _ => rfl)⟩
  have A14 : AtP K C "rules" "System.rules" s_System_rules ["self"] := ⟨pp14, f14, _, ⟨a14, g14, t14, rest14, r14⟩, fun_mk l14 c14 k14, (fun_mk l14 c14 k14).binds (fun _ _ _ _ _ _ us hl => match us, hl with | [_], _ => rfl)⟩
  have A15 : AtM K C "__eq__" "System.__eq__" s_System___eq__ ["self", "other"] := ⟨f15, _, a15, i15, fun_mk l15 c15 k15, (fun_mk l15 c15 k15).binds (fun _ _ _ _ _ _ us hl => match us, hl with | [_, _], _ => rfl)⟩
  have A16 : At K mg "_law_words" s__law_words ["rng", "many"] := at_mk X G a16 l16 c16 k16 fun _ _ _ _ _ _ us hl => match us, hl with | [_, _], _ => rfl
  have A17 : At K mg "_law_end" s__law_end ["rng", "far"] := at_mk X G a17 l17 c17 k17 fun _ _ _ _ _ _ us hl => match us, hl with | [_, _], _ => rfl
  have A18 : At K mg "_law_within" s__law_within ["rng", "far"] := at_mk X G a18 l18 c18 k18 fun _ _ _ _ _ _ us hl => match us, hl with | [_, _], _ => rfl
  have A19 : At K mg "_law_rule" s__law_rule ["rng", "words", "far"] := at_mk X G a19 l19 c19 k19 fun _ _ _ _ _ _ us hl => match us, hl with | [_, _, _], _ => rfl
  have A20 : At K mg "_law_rows" s__law_rows ["rng", "words", "most"] := at_mk X G a20 l20 c20 k20 fun _ _ _ _ _ _ us hl => match us, hl with | [_, _, _], _ => rfl
  have A21 : At K mg "_law_shown" s__law_shown ["made"] := at_mk X G a21 l21 c21 k21 fun _ _ _ _ _ _ us hl => match us, hl with | [_], _ => rfl
  have A22 : At K mg "check_number" s_check_number ["system", "number"] := at_mk X G a22 l22 c22 k22 fun _ _ _ _ _ _ us hl => match us, hl with | [_, _], _ => rfl
  have A23 : At K mg "check_name" s_check_name ["system", "name"] := at_mk X G a23 l23 c23 k23 fun _ _ _ _ _ _ us hl => match us, hl with | [_, _], _ => rfl
  have A24 : At K mg "_changed_range" s__changed_range ["name", "one", "times", "shifts"] := at_mk X G a24 l24 c24 k24 fun _ _ _ _ _ _ us hl => match us, hl with | [_, _, _, _], _ => rfl
  have A25 : At K mg "changed_rule" s_changed_rule ["rule", "times", "shifts"] := at_mk X G a25 l25 c25 k25 fun _ _ _ _ _ _ us hl => match us, hl with | [_, _, _], _ => rfl
  have A26 : AtM K C "_changed" "System._changed" s_System__changed ["self", "times", "shifts"] := ⟨f26, _, a26, i26, fun_mk l26 c26 k26, (fun_mk l26 c26 k26).binds (fun _ _ _ _ _ _ us hl => match us, hl with | [_, _, _], _ => rfl)⟩
  have A27 : At K mg "renamed_rule" s_renamed_rule ["rule", "names"] := at_mk X G a27 l27 c27 k27 fun _ _ _ _ _ _ us hl => match us, hl with | [_, _], _ => rfl
  have A28 : AtI K f28 "RangeError.__init__" s_RangeError___init__ ["self", "value"] := ⟨_, fun_mk l28 c28 k28, (fun_mk l28 c28 k28).binds (fun _ _ _ _ _ _ us hl => match us, hl with | [_, _], _ => rfl)⟩
  have kI_value : ∀ fd, Fun K "__init__" "RangeError.__init__" s_RangeError___init__ f28 fd → ∀ (s : Shared) (a u : Value), BindsTo s fd ⟨[a], [("value", u)]⟩ ((["self", "value"] : List Str).zip [a, u]) := by
    intro fd F s a u
    obtain ⟨oc, od, kV, doc, pm, an, cdv, ct, osl, rfl, lk, hcd⟩ := F.ex
    exact .of_eq rfl
  have A29 : At K mg "_law_caught" s__law_caught ["e"] := at_mk X G a29 l29 c29 k29 fun _ _ _ _ _ _ us hl => match us, hl with | [_], _ => rfl
  have A30 : At K mg "_check_system" s__check_systemE ["names", "rules"] := at_mk X G a30 l30 c30 k30 fun _ _ _ _ _ _ us hl => match us, hl with | [_, _], _ => rfl
  have A31 : AtM K C "__init__" "System.__init__" s_System___initE__ ["self", "names", "rules"] := ⟨f31, _, a31, i31, fun_mk l31 c31 k31, (fun_mk l31 c31 k31).binds (fun _ _ _ _ _ _ us hl => match us, hl with | [_, _, _], _ => rfl)⟩
  have A32 : AtM K C "without" "System.without" s_System_without ["self", "numbers"] := ⟨f32, _, a32, i32, fun_mk l32 c32 k32, (fun_mk l32 c32 k32).binds (fun _ _ _ _ _ _ us hl => match us, hl with | [_, _], _ => rfl)⟩
  have A33 : AtM K C "with_rule" "System.with_rule" s_System_with_rule ["self", "rule"] := ⟨f33, _, a33, i33, fun_mk l33 c33 k33, (fun_mk l33 c33 k33).binds (fun _ _ _ _ _ _ us hl => match us, hl with | [_, _], _ => rfl)⟩
  have A34 : AtM K C "beside" "System.beside" s_System_beside ["self", "other"] := ⟨f34, _, a34, i34, fun_mk l34 c34 k34, (fun_mk l34 c34 k34).binds (fun _ _ _ _ _ _ us hl => match us, hl with | [_, _], _ => rfl)⟩
  have A35 : AtM K C "moved" "System.moved" s_System_moved ["self", "shifts"] := ⟨f35, _, a35, i35, fun_mk l35 c35 k35, (fun_mk l35 c35 k35).binds (fun _ _ _ _ _ _ us hl => match us, hl with | [_, _], _ => rfl)⟩
  have A36 : AtM K C "stretched" "System.stretched" s_System_stretched ["self", "times"] := ⟨f36, _, a36, i36, fun_mk l36 c36 k36, (fun_mk l36 c36 k36).binds (fun _ _ _ _ _ _ us hl => match us, hl with | [_, _], _ => rfl)⟩
  have A37 : AtM K C "renamed" "System.renamed" s_System_renamed ["self", "names"] := ⟨f37, _, a37, i37, fun_mk l37 c37 k37, (fun_mk l37 c37 k37).binds (fun _ _ _ _ _ _ us hl => match us, hl with | [_, _], _ => rfl)⟩
  have A38 : At K mg "_law_raised" s__law_raised ["door", "made", "given"] := at_mk X G a38 l38 c38 k38 fun _ _ _ _ _ _ us hl => match us, hl with | [_, _, _], _ => rfl
  have A39 : At K mg "_law_renamed_due" s__law_renamed_due ["words", "turned"] := at_mk X G a39 l39 c39 k39 fun _ _ _ _ _ _ us hl => match us, hl with | [_, _], _ => rfl
  have A40 : At K mg "_law_beside_right" s__law_beside_right ["rng", "made", "words"] := at_mk X G a40 l40 c40 k40 fun _ _ _ _ _ _ us hl => match us, hl with | [_, _, _], _ => rfl
  have A41 : At K mg "_law_rules_right" s__law_rules_right ["rng", "made", "words", "rows"] := at_mk X G a41 l41 c41 k41 fun _ _ _ _ _ _ us hl => match us, hl with | [_, _, _, _], _ => rfl
  have A42 : At K mg "law" s_law ["script"] := at_mk X G a42 l42 c42 k42 fun _ _ _ _ _ _ us hl => match us, hl with | [_], _ => rfl
  refine ⟨PySem.W.fnOf "law" "law" (defArgs s_law) (defBody s_law) (defScope s_law) .none kV42 dc42 pm42 an42 cd42 ct42, fun s v => .of_eq rfl, fun base _ _ => ?_⟩
  have m_ValueError := PySem.W.mg_none_of X G z0
  have m_abs := PySem.W.mg_none_of X G z1
  have m_all := PySem.W.mg_none_of X G z2
  have m_any := PySem.W.mg_none_of X G z3
  have m_dict := PySem.W.mg_none_of X G z4
  have m_enumerate := PySem.W.mg_none_of X G z5
  have m_int := PySem.W.mg_none_of X G z6
  have m_isinstance := PySem.W.mg_none_of X G z7
  have m_len := PySem.W.mg_none_of X G z8
  have m_list := PySem.W.mg_none_of X G z9
  have m_max := PySem.W.mg_none_of X G z10
  have m_min := PySem.W.mg_none_of X G z11
  have m_range := PySem.W.mg_none_of X G z12
  have m_repr := PySem.W.mg_none_of X G z13
  have m_sorted := PySem.W.mg_none_of X G z14
  have m_tuple := PySem.W.mg_none_of X G z15
  have D__names_of := ok__names_of (P := l.prog) (w := w) (mg := mg) (base := base) A6 m_list
  have D__ranges_of := ok__ranges_of (P := l.prog) (w := w) (mg := mg) (base := base) A7
  have D_is_upside_down := ok_is_upside_down (P := l.prog) (w := w) (mg := mg) (base := base) A0
  have D_is_faulty := ok_is_faulty (P := l.prog) (w := w) (mg := mg) (base := base) A8 D__names_of D__ranges_of D_is_upside_down m_any
  have D_is_name := ok_is_name (P := l.prog) (w := w) (mg := mg) (base := base) A9 m_all m_len
  have D__check_system := ok__check_system (P := l.prog) (w := w) (mg := mg) (base := base) A10 D_is_faulty D_is_name m_enumerate
  have D_System___init__ := ok_System___init__ (P := l.prog) (w := w) (mg := mg) (base := base) T A11 D__check_system m_list m_sorted
  have D__law_draw := ok__law_draw (P := l.prog) (w := w) (mg := mg) (base := base) A4 m_int
  have D_RangeError___init__ := ok_RangeError___init__ (P := l.prog) (w := w) (mg := mg) (base := base) A28
  have D__check_systemE := ok__check_systemE (P := l.prog) (w := w) (mg := mg) (base := base) XE A30 D_RangeError___init__ kI_value D_is_faulty D_is_name m_enumerate
  have D_System___initE__ := ok_System___initE__ (P := l.prog) (w := w) (mg := mg) (base := base) T XE A31 D__check_systemE m_list m_sorted
  have D_System_names := ok_System_names (P := l.prog) (w := w) (mg := mg) (base := base) T A13 m_list
  have D_System_rules := ok_System_rules (P := l.prog) (w := w) (mg := mg) (base := base) T A14 m_list
  have D_System_beside := ok_System_beside (P := l.prog) (w := w) (mg := mg) (base := base) T XE A34 D_System___initE__ D_System_names D_System_rules
  have D__taken := ok__taken (P := l.prog) (w := w) (mg := mg) (base := base) A2
  have D_check_range := ok_check_range (P := l.prog) (w := w) (mg := mg) (base := base) A1 D_is_upside_down
  have D_stepped := ok_stepped (P := l.prog) (w := w) (mg := mg) (base := base) A3 D__taken D_check_range
  have D__changed_range := ok__changed_range (P := l.prog) (w := w) (mg := mg) (base := base) A24 D_stepped
  have D_changed_rule := ok_changed_rule (P := l.prog) (w := w) (mg := mg) (base := base) A25 D__changed_range m_tuple
  have D_System__changed := ok_System__changed (P := l.prog) (w := w) (mg := mg) (base := base) T A26 D_System___init__ D_changed_rule
  have D_check_name := ok_check_name (P := l.prog) (w := w) (mg := mg) (base := base) T XE A23 D_RangeError___init__ kI_value D_System_names
  have D_System_moved := ok_System_moved (P := l.prog) (w := w) (mg := mg) (base := base) T XE A35 D_System__changed D_check_name m_sorted
  have D_renamed_rule := ok_renamed_rule (P := l.prog) (w := w) (mg := mg) (base := base) A27 m_tuple
  have D_System_renamed := ok_System_renamed (P := l.prog) (w := w) (mg := mg) (base := base) T XE A37 D_RangeError___init__ kI_value D_System___init__ D_check_name D_is_name D_renamed_rule m_sorted
  have D_System_stretched := ok_System_stretched (P := l.prog) (w := w) (mg := mg) (base := base) T XE A36 D_RangeError___init__ kI_value D_System__changed
  have D_System_with_rule := ok_System_with_rule (P := l.prog) (w := w) (mg := mg) (base := base) T XE A33 D_System___initE__
  have D_System___len__ := ok_System___len__ (P := l.prog) (w := w) (mg := mg) (base := base) T A12 m_len
  have D_check_number := ok_check_number (P := l.prog) (w := w) (mg := mg) (base := base) T XE A22 D_RangeError___init__ kI_value D_System___len__ m_len
  have D_System_without := ok_System_without (P := l.prog) (w := w) (mg := mg) (base := base) T XE A32 D_System___init__ D_check_number m_enumerate
  have D__law_caught := ok__law_caught (P := l.prog) (w := w) (mg := mg) (base := base) XE A29 m_ValueError m_isinstance m_len
  have D__law_raised := ok__law_raised (P := l.prog) (w := w) (mg := mg) (base := base) T XE A38 D_System_beside D_System_moved D_System_renamed D_System_stretched D_System_with_rule D_System_without D__law_caught
  have D__law_beside_right := ok__law_beside_right (P := l.prog) (w := w) (mg := mg) (base := base) T A40 D_System___init__ D__law_draw D__law_raised m_len m_sorted
  have D__law_renamed_due := ok__law_renamed_due (P := l.prog) (w := w) (mg := mg) (base := base) A39 m_len m_sorted
  have D__law_rng := ok__law_rng (P := l.prog) (w := w) (mg := mg) (base := base) A5 m_abs m_int
  have D__law_end := ok__law_end (P := l.prog) (w := w) (mg := mg) (base := base) A17 D__law_draw
  have D__law_within := ok__law_within (P := l.prog) (w := w) (mg := mg) (base := base) A18 D__law_end
  have D__law_rule := ok__law_rule (P := l.prog) (w := w) (mg := mg) (base := base) A19 D__law_draw D__law_within m_len m_max m_range m_tuple
  have D__law_rows := ok__law_rows (P := l.prog) (w := w) (mg := mg) (base := base) A20 D__law_draw D__law_rule m_len m_range
  have D__law_rules_right := ok__law_rules_right (P := l.prog) (w := w) (mg := mg) (base := base) T A41 D__law_draw D__law_raised m_len m_list m_range
  have D__law_shown := ok__law_shown (P := l.prog) (w := w) (mg := mg) (base := base) T A21 D_System___len__ D_System_names D_System_rules m_len m_repr
  have D__law_words := ok__law_words (P := l.prog) (w := w) (mg := mg) (base := base) A16 D__law_draw m_len m_range
  have D_law := ok_law (P := l.prog) (w := w) (mg := mg) (base := base) T A42 D_System___init__ D__law_beside_right D__law_draw D__law_raised D__law_renamed_due D__law_rng D__law_rows D__law_rules_right D__law_shown D__law_words m_dict m_len m_min m_range m_sorted
  obtain ⟨f, fd, F, _, g, ok⟩ := D_law.ex
  have e2 := (PySem.W.mg_of X G a42).symm.trans g
  cases e2
  obtain ⟨oc, od, kV, doc, pm, an, cdv, ct, osl, rfl, lk, _⟩ := F.ex
  rw [l42] at lk
  cases lk
  exact ok
end Pk09
open PySem PySem.W PyProof.Rows
set_option maxHeartbeats 0 in
theorem PySem.Challenge.cw_tightranges_k09_errors_of_systems_holds : PySem.Challenge.rw_tightranges_k09_errors_of_systems.Holds := by
  w_on; o_law; k_head; (case hw => w_witness2)
  k_fill
  refine Gd.walkG (l := PySem.Challenge.rw_tightranges_k09_errors_of_systems) (n := 63) (k := 10) (x := "script") (sp := fun w => Pk09.sp_law _) rfl (by decide) rfl ⟨rfl, by decide, by decide⟩ (fun w h Y => PySem.W.kIn_of Y) ?F (fun _ _ a ns hl _ hS => ⟨a, ns, rfl, hS, hl, fun _ => rfl⟩)
  case F =>
    intro w mg fa h KX G hmg
    refine' Pk09.all_mk KX G hmg ?aC ?pg ?hd ?po ?sa ?mk ?kc ?nN ?nR ?ha ?hn ?ht ?hm ?ki ?ty ?xn0 ?xl0 ?xr0 ?xn1 ?xl1 ?xr1 ?xn2 ?xl2 ?xr2 ?xn3 ?xl3 ?xr3 ?xn4 ?xl4 ?xr4 ?xn5 ?xl5 ?xr5 ?xn6 ?xl6 ?xr6 ?xn7 ?xl7 ?xr7 ?xn8 ?xl8 ?xr8 ?xn9 ?xl9 ?xr9 ?xi ?xb0 ?xk0 ?xb1 ?xk1 ?xb2 ?xk2 ?xb3 ?xk3 ?xb4 ?xk4 ?xb5 ?xk5 ?xb6 ?xk6 ?xb7 ?xk7 ?xb8 ?xk8 ?xb9 ?xk9 ?xj ?a0 ?l0 ?c0 ?k0 ?a1 ?l1 ?c1 ?k1 ?a2 ?l2 ?c2 ?k2 ?a3 ?l3 ?c3 ?k3 ?a4 ?l4 ?c4 ?k4 ?a5 ?l5 ?c5 ?k5 ?a6 ?l6 ?c6 ?k6 ?a7 ?l7 ?c7 ?k7 ?a8 ?l8 ?c8 ?k8 ?a9 ?l9 ?c9 ?k9 ?a10 ?l10 ?c10 ?k10 ?a11 ?i11 ?l11 ?c11 ?k11 ?a12 ?i12 ?l12 ?c12 ?k12 ?a13 ?g13 ?t13 ?r13 ?l13 ?c13 ?k13 ?a14 ?g14 ?t14 ?r14 ?l14 ?c14 ?k14 ?a15 ?i15 ?l15 ?c15 ?k15 ?a16 ?l16 ?c16 ?k16 ?a17 ?l17 ?c17 ?k17 ?a18 ?l18 ?c18 ?k18 ?a19 ?l19 ?c19 ?k19 ?a20 ?l20 ?c20 ?k20 ?a21 ?l21 ?c21 ?k21 ?a22 ?l22 ?c22 ?k22 ?a23 ?l23 ?c23 ?k23 ?a24 ?l24 ?c24 ?k24 ?a25 ?l25 ?c25 ?k25 ?a26 ?i26 ?l26 ?c26 ?k26 ?a27 ?l27 ?c27 ?k27 ?l28 ?c28 ?k28 ?a29 ?l29 ?c29 ?k29 ?a30 ?l30 ?c30 ?k30 ?a31 ?i31 ?l31 ?c31 ?k31 ?a32 ?i32 ?l32 ?c32 ?k32 ?a33 ?i33 ?l33 ?c33 ?k33 ?a34 ?i34 ?l34 ?c34 ?k34 ?a35 ?i35 ?l35 ?c35 ?k35 ?a36 ?i36 ?l36 ?c36 ?k36 ?a37 ?i37 ?l37 ?c37 ?k37 ?a38 ?l38 ?c38 ?k38 ?a39 ?l39 ?c39 ?k39 ?a40 ?l40 ?c40 ?k40 ?a41 ?l41 ?c41 ?k41 ?a42 ?l42 ?c42 ?k42 ?z0 ?z1 ?z2 ?z3 ?z4 ?z5 ?z6 ?z7 ?z8 ?z9 ?z10 ?z11 ?z12 ?z13 ?z14 ?z15
    (case aC => k_is); (case pg => k_is); (case hd => k_is); (case po => k_is); (case sa => k_is); (case mk => k_is); (case kc => k_is); (case nN => k_is); (case nR => k_is); (case ha => k_is); (case hn => k_is); (case ht => k_is); (case hm => k_is); (case ki => k_is); (case ty => k_is); (case xn0 => k_is); (case xl0 => k_is); (case xr0 => first | decide +kernel | rfl | k_is | trace_state); (case xn1 => k_is); (case xl1 => k_is); (case xr1 => first | decide +kernel | rfl | k_is | trace_state); (case xn2 => k_is); (case xl2 => k_is); (case xr2 => first | decide +kernel | rfl | k_is | trace_state); (case xn3 => k_is); (case xl3 => k_is); (case xr3 => first | decide +kernel | rfl | k_is | trace_state); (case xn4 => k_is); (case xl4 => k_is); (case xr4 => first | decide +kernel | rfl | k_is | trace_state); (case xn5 => k_is); (case xl5 => k_is); (case xr5 => first | decide +kernel | rfl | k_is | trace_state); (case xn6 => k_is); (case xl6 => k_is); (case xr6 => first | decide +kernel | rfl | k_is | trace_state); (case xn7 => k_is); (case xl7 => k_is); (case xr7 => first | decide +kernel | rfl | k_is | trace_state); (case xn8 => k_is); (case xl8 => k_is); (case xr8 => first | decide +kernel | rfl | k_is | trace_state); (case xn9 => k_is); (case xl9 => k_is); (case xr9 => first | decide +kernel | rfl | k_is | trace_state); (case xi => k_is); (case xb0 => first | decide +kernel | rfl | k_is | trace_state); (case xk0 => first | decide +kernel | rfl | k_is | trace_state); (case xb1 => first | decide +kernel | rfl | k_is | trace_state); (case xk1 => first | decide +kernel | rfl | k_is | trace_state); (case xb2 => first | decide +kernel | rfl | k_is | trace_state); (case xk2 => first | decide +kernel | rfl | k_is | trace_state); (case xb3 => first | decide +kernel | rfl | k_is | trace_state); (case xk3 => first | decide +kernel | rfl | k_is | trace_state); (case xb4 => first | decide +kernel | rfl | k_is | trace_state); (case xk4 => first | decide +kernel | rfl | k_is | trace_state); (case xb5 => first | decide +kernel | rfl | k_is | trace_state); (case xk5 => first | decide +kernel | rfl | k_is | trace_state); (case xb6 => first | decide +kernel | rfl | k_is | trace_state); (case xk6 => first | decide +kernel | rfl | k_is | trace_state); (case xb7 => first | decide +kernel | rfl | k_is | trace_state); (case xk7 => first | decide +kernel | rfl | k_is | trace_state); (case xb8 => first | decide +kernel | rfl | k_is | trace_state); (case xk8 => first | decide +kernel | rfl | k_is | trace_state); (case xb9 => first | decide +kernel | rfl | k_is | trace_state); (case xk9 => first | decide +kernel | rfl | k_is | trace_state); (case xj => first | decide +kernel | rfl | k_is | trace_state); (case a0 => k_is); (case l0 => k_is); (case c0 => k_is); (case k0 => k_is); (case a1 => k_is); (case l1 => k_is); (case c1 => k_is); (case k1 => k_is); (case a2 => k_is); (case l2 => k_is); (case c2 => k_is); (case k2 => k_is); (case a3 => k_is); (case l3 => k_is); (case c3 => k_is); (case k3 => k_is); (case a4 => k_is); (case l4 => k_is); (case c4 => k_is); (case k4 => k_is); (case a5 => k_is); (case l5 => k_is); (case c5 => k_is); (case k5 => k_is); (case a6 => k_is); (case l6 => k_is); (case c6 => k_is); (case k6 => k_is); (case a7 => k_is); (case l7 => k_is); (case c7 => k_is); (case k7 => k_is); (case a8 => k_is); (case l8 => k_is); (case c8 => k_is); (case k8 => k_is); (case a9 => k_is); (case l9 => k_is); (case c9 => k_is); (case k9 => k_is); (case a10 => k_is); (case l10 => k_is); (case c10 => k_is); (case k10 => k_is); (case a11 => k_is); (case i11 => k_is); (case l11 => k_is); (case c11 => k_is); (case k11 => k_is); (case a12 => k_is); (case i12 => k_is); (case l12 => k_is); (case c12 => k_is); (case k12 => k_is); (case a13 => k_is); (case g13 => k_is); (case t13 => k_is); (case r13 => k_is); (case l13 => k_is); (case c13 => k_is); (case k13 => k_is); (case a14 => k_is); (case g14 => k_is); (case t14 => k_is); (case r14 => k_is); (case l14 => k_is); (case c14 => k_is); (case k14 => k_is); (case a15 => k_is); (case i15 => k_is); (case l15 => k_is); (case c15 => k_is); (case k15 => k_is); (case a16 => k_is); (case l16 => k_is); (case c16 => k_is); (case k16 => k_is); (case a17 => k_is); (case l17 => k_is); (case c17 => k_is); (case k17 => k_is); (case a18 => k_is); (case l18 => k_is); (case c18 => k_is); (case k18 => k_is); (case a19 => k_is); (case l19 => k_is); (case c19 => k_is); (case k19 => k_is); (case a20 => k_is); (case l20 => k_is); (case c20 => k_is); (case k20 => k_is); (case a21 => k_is); (case l21 => k_is); (case c21 => k_is); (case k21 => k_is); (case a22 => k_is); (case l22 => k_is); (case c22 => k_is); (case k22 => k_is); (case a23 => k_is); (case l23 => k_is); (case c23 => k_is); (case k23 => k_is); (case a24 => k_is); (case l24 => k_is); (case c24 => k_is); (case k24 => k_is); (case a25 => k_is); (case l25 => k_is); (case c25 => k_is); (case k25 => k_is); (case a26 => k_is); (case i26 => k_is); (case l26 => k_is); (case c26 => k_is); (case k26 => k_is); (case a27 => k_is); (case l27 => k_is); (case c27 => k_is); (case k27 => k_is); (case l28 => k_is); (case c28 => k_is); (case k28 => k_is); (case a29 => k_is); (case l29 => k_is); (case c29 => k_is); (case k29 => k_is); (case a30 => k_is); (case l30 => k_is); (case c30 => k_is); (case k30 => k_is); (case a31 => k_is); (case i31 => k_is); (case l31 => k_is); (case c31 => k_is); (case k31 => k_is); (case a32 => k_is); (case i32 => k_is); (case l32 => k_is); (case c32 => k_is); (case k32 => k_is); (case a33 => k_is); (case i33 => k_is); (case l33 => k_is); (case c33 => k_is); (case k33 => k_is); (case a34 => k_is); (case i34 => k_is); (case l34 => k_is); (case c34 => k_is); (case k34 => k_is); (case a35 => k_is); (case i35 => k_is); (case l35 => k_is); (case c35 => k_is); (case k35 => k_is); (case a36 => k_is); (case i36 => k_is); (case l36 => k_is); (case c36 => k_is); (case k36 => k_is); (case a37 => k_is); (case i37 => k_is); (case l37 => k_is); (case c37 => k_is); (case k37 => k_is); (case a38 => k_is); (case l38 => k_is); (case c38 => k_is); (case k38 => k_is); (case a39 => k_is); (case l39 => k_is); (case c39 => k_is); (case k39 => k_is); (case a40 => k_is); (case l40 => k_is); (case c40 => k_is); (case k40 => k_is); (case a41 => k_is); (case l41 => k_is); (case c41 => k_is); (case k41 => k_is); (case a42 => k_is); (case l42 => k_is); (case c42 => k_is); (case k42 => k_is); (case z0 => k_is); (case z1 => k_is); (case z2 => k_is); (case z3 => k_is); (case z4 => k_is); (case z5 => k_is); (case z6 => k_is); (case z7 => k_is); (case z8 => k_is); (case z9 => k_is); (case z10 => k_is); (case z11 => k_is); (case z12 => k_is); (case z13 => k_is); (case z14 => k_is); (case z15 => k_is)
