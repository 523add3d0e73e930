import PyProof.Rows.All
import Wide.All
import OpenK.AllK
import Wide.FinOn
import HandS.ForMost
import HandS.Deep
import PyProof.ReprReads
import PyProof.ReprRoads
import KE.KDictPairs
import HandS.Strs
import KE.SortData
import HandS.SortOrd
import HandS.Lambda
import HandS.SortKw
import KE.SortKeyHeap
import KE.KSortKey
import KE.GoesMore
import PyProof.Draws
import HandS.Iter
import HandS.Walk
import KE.GoesZip
import KE.GoesEnum
import KE.KDictZip
import KE.KDictList
import PyProof.StrOps2
import HandS.Zip
import HandS.ExcInit
import HandS.Codes
import HandS.Dict
import HandS.ExcIs
import HandS.ExcField
import HandS.IsInst
import HandS.StrMore
import HandS.Text
import PyProof.ExcStrAll.ValueError
import KE.KEqNest
import HandS.TupAny
import HandS.TupMul
import HandS.Style
import KE.KRevSl
import PySem.Challenge.RW_everyversion_k00_errors_and_small_forms
import HandS.EndBits
set_option Elab.async false
set_option linter.all false
set_option maxRecDepth 100000
set_option maxHeartbeats 3999999
/-! defs that are called where no repr is under way; repr of data -/
namespace GG
open PySem PySem.Spec PyProof.Rows L2

/-- room for k calls, and nothing is being shown -/
structure Rm (k : Nat) (A : Around) : Prop where
  room : Room k A
  gu : A.guards = some []
theorem Rm.mono {j k : Nat} {A : Around} (r : Rm k A) (h : j ≤ k) : Rm j A := ⟨r.room.mono h, r.gu⟩
theorem Rm.into {k : Nat} {A : Around} (r : Rm (k + 1) A) (v : Env) : Rm k (A.deeper v) := ⟨r.room.deeper v, r.gu⟩

/-- the def at f keeps the promise wherever nothing is being shown -/
structure GFn (P : Program) (w : World) (K : PySem.W.Frag) (mg : Str → Option Value) (base : Heap) (CX : CXT) (k : Nat) (f : Addr) (fd : FuncData) (ps : List Str) (sp : Sp) : Prop where
  arity : ∀ vs H Q E, sp vs H Q E → vs.length = ps.length
  go : ∀ (A : Around) (out : List Env) (s : Shared) (H : Hp) (ar : Args) (us : List Value) (vs : List V) (Q : VK) (E : XK),
    Rm k A → Env0 P w K mg base A out s H → BindsTo s fd ar (ps.zip us) → Vals vs us → sp vs H Q E →
    codeAny (model P w) A (.call (.ref f) ar) (CR CX out P w H s Q E) s
section
variable {P : Program} {w : World} {K : PySem.W.Frag} {mg : Str → Option Value} {base : Heap} {CX : CXT} {k : Nat} {f : Addr} {fd : FuncData} {ps : List Str} {sp sp' : Sp}
theorem GFn.mono {j : Nat} (F : GFn P w K mg base CX j f fd ps sp) (h : j ≤ k) : GFn P w K mg base CX k f fd ps sp :=
  ⟨F.arity, fun A o s H ar us vs Q E r => F.go A o s H ar us vs Q E (r.mono h)⟩
theorem GFn.imp (F : GFn P w K mg base CX k f fd ps sp) (h : ∀ vs H Q E, sp' vs H Q E → sp vs H Q E) : GFn P w K mg base CX k f fd ps sp' :=
  ⟨fun vs H Q E q => F.arity vs H Q E (h _ _ _ _ q), fun A o s H ar us vs Q E r e b v q => F.go A o s H ar us vs Q E r e b v (h _ _ _ _ q)⟩

theorem gfn_of {name qual : Str} {prm : Arguments} {body : List Stmt} {sc : Scope} {dV kV dc pm cdv ct oc : Value} {an od : Option Addr} {osl : Array (Option Value)} {N : List Str}
    (lk : K.lookup f = some ⟨oc, od, .func (PySem.W.fnOf name qual prm body sc dV kV dc pm an cdv ct), osl⟩) (cd : PySem.W.codeIn K cdv qual = true) (S : FnScope N ps sc)
    (ar : ∀ vs H Q E, sp vs H Q E → vs.length = ps.length)
    (hb : ∀ (A : Around) (o : List Env) (s : Shared) (H : Hp) (vs : List V) (Q : VK) (E : XK), Rm k (A.deeper (envOfC qual sc s.heap.objs.size f cdv)) → sp vs H Q E →
      ∃ t, PSs (cxOf CX P w K mg base N qual sc f cdv A o s H E) body t ∧ t { nx := fun _ H' => Q .non H', rt := Q } (start N vs) H) :
    GFn P w K mg base CX (k + 1) f (PySem.W.fnOf name qual prm body sc dV kV dc pm an cdv ct) ps sp := by
  constructor
  · exact ar
  intro A o s H arg us vs Q E rm e0 hbind rel hsp
  have hlz := ar _ _ _ _ hsp
  have inKz : K.In s.heap := e0.mod.kin.keeps fun b ob e => (e0.bs b ob e).1
  have nolim : s.heap.NoLimit := e0.mod.nolimit.keeps fun b ob e => (e0.bs b ob e).1
  have kinds : ∀ y ∈ ps.zip us, sc.names.lookup y.1 = some .local ∨ (sc.names.lookup y.1 = some .cell ∧ ((cellsFrom (s.heap.objs.size + 1) sc.names []).lookup y.1).isSome = true) := by
    rintro ⟨n, v⟩ hy
    rcases S.par n (List.of_mem_zip hy).1 with z | z
    · exact Or.inl z
    · exact Or.inr ⟨z, PySem.W.cellsFrom_some _ _ _ (Or.inl z)⟩
  refine codeAny_call_function rm.room.depth (inKz _ _ lk) rfl S.co S.gen rfl (PySem.W.codeRec_of inKz cd) (hbind _ _ _ _ ?_)
  refine wpAny_newFunctionEnv_cells S.kind kinds fun env hE s1 ic => ?_
  subst hE
  refine ⟨nolim.keeps ic.toInCall.keep, codeAny_func ?_⟩
  obtain ⟨t, ht, hqz⟩ := hb A o s H vs Q E (rm.into _) hsp
  have I0 := inv_start (CX := CX) (E := E) S rm.room.hd e0 hlz rel ic
  refine wpAny_mono (ht.run [] s1 (start N vs) H _ I0 hqz) ?_ (fun _ _ z => z)
  intro fl s' hsv0
  cases fl with
  | ret u =>
    obtain ⟨v, σ', H', J, rvz, q⟩ := hsv0
    exact ⟨v, H', J.os, J.bare, J.base, J.hok, rvz, q⟩
  | next =>
    obtain ⟨σ', H', J, q⟩ := hsv0
    exact ⟨V.non, H', J.os, J.bare, J.base, J.hok, rfl, q⟩
  | brk =>
    obtain ⟨_, _, _, q⟩ := hsv0
    exact q.elim
  | cont =>
    obtain ⟨_, _, _, q⟩ := hsv0
    exact q.elim

/-- a def of the text, by itz body (no exception leaves it) -/
theorem okG {x qual : Str} {st : Stmt} {N : List Str} (F : L2.Fun K x qual st f fd) (S : FnScope N ps (defScope st)) (ar : ∀ vs H Q E, sp vs H Q E → vs.length = ps.length)
    (hb : ∀ (cdv : Value) (A : Around) (o : List Env) (s : Shared) (H : Hp) (vs : List V) (Q : VK) (E : XK), Rm k (A.deeper (envOfC qual (defScope st) s.heap.objs.size f cdv)) → sp vs H Q E →
      ∃ t, PSs (cxOf CX0 P w K mg base N qual (defScope st) f cdv A o s H E) (defBody st) t ∧ t { nx := fun _ H' => Q .non H', rt := Q } (start N vs) H) :
    GFn P w K mg base CX0 (k + 1) f fd ps sp := by
  obtain ⟨oc, od, kV, dc, pm, an, cdv, ct, osl, rfl, lk, cd⟩ := F.ex
  exact gfn_of lk cd S ar fun A o s H vs Q E => hb cdv A o s H vs Q E
end

section
variable {X : Cx} {CX : CXT} {k : Nat} {f : Addr} {fd : FuncData} {ps : List Str} {sp : Sp} {dvs : List V} {ds : List Value} {E : XK} {x : Str} {p pos : Pos} {e : Expr} {es : List Expr} {t : TA}
theorem run_g {pins : List (Addr × Obj)} {σ : L2.St} {H : Hp} {s : Shared} {Q : VK} {us : List Value} {vs : List V} (F : GFn X.prog X.w X.K X.mg X.base CX k f fd ps sp) (rm : Rm k X.A) (hb : Binds X.K fd ps ds) (hdz : Vals dvs ds) (hxz : Passes CX X E)
    (I : Inv X pins σ H s) (r : Vals vs us) (h : sp (vs ++ dvs) H Q E) : wpAny (model X.prog X.w) X.A (call (.ref f) us) (EP X pins σ Q) X.xe s := by
  have rr : Vals (vs ++ dvs) (us ++ ds) := r.append hdz
  have le : (us ++ ds).length = ps.length := rr.length ▸ F.arity _ _ _ _ h
  refine wpAny_call (codeAny_mono (F.go X.A X.stack s H ⟨us, []⟩ (us ++ ds) (vs ++ dvs) Q E rm I.env0 (hb s us I.kIn le) rr h) ?_)
  intro res s' hqz
  match res, hqz with
  | .error e, hqz => exact hxz pins σ H s e s' I hqz
  | .ok (.ret u), hqz => exact I.after hqz
  | .ok .next, hqz => exact hqz.elim
  | .ok .brk, hqz => exact hqz.elim
  | .ok .cont, hqz => exact hqz.elim
theorem pe_g (F : GFn X.prog X.w X.K X.mg X.base CX k f fd ps sp) (rm : Rm k X.A) (hgz : Gl X x) (hmz : X.mg x = some (.ref f)) (kp : PySem.W.keepIn X.K (.ref f) = true) (hb : Binds X.K fd ps ds) (hdz : Vals dvs ds) (hxz : Passes CX X E)
    (haz : PA X (e :: es) t) (nd : (x == ("__debug__" : Str)) = false := by decide) (st : starEach (e :: es) X.env = (false, eval e X.env) :: starEach es X.env := by rfl) (np : (backTo pos (starEach es X.env)).any (·.1) = false := by rfl) :
    PE X (.Call (.Name x p) (e :: es) [] pos) (tCall sp dvs E t) := by
  constructor
  intro pins s σ H Q I h
  refine wpAny_Call_Name_kw (ld_glob I hgz hmz ?_ nd)
  refine PySem.W.callWith_K (h₀ := X.base) I.ok.mod.kin kp (thn (haz.run pos pins s σ H _ I h) ?_) st np
  rintro us s1 ⟨vs, H1, Iz1, r, q⟩
  exact ⟨Iz1.kIn, run_g F rm hb hdz hxz Iz1 r q⟩
theorem pe_g0 (F : GFn X.prog X.w X.K X.mg X.base CX k f fd ps sp) (rm : Rm k X.A) (hgz : Gl X x) (hmz : X.mg x = some (.ref f)) (kp : PySem.W.keepIn X.K (.ref f) = true) (hb : Binds X.K fd ps ds) (hdz : Vals dvs ds) (hxz : Passes CX X E)
    (nd : (x == ("__debug__" : Str)) = false := by decide) : PE X (.Call (.Name x p) [] [] pos) (tCall sp dvs E tNil) := by
  constructor
  intro pins s σ H Q I h
  refine wpAny_Call_Name_kw (ld_glob I hgz hmz ?_ nd)
  exact PySem.W.callWith_K0 I.kIn kp (run_g (us := []) F rm hb hdz hxz I .nil h)
end

/-- repr(x) of data -/
def rRepr (K : PySem.W.Frag) : List V → Hp → VK → Prop := fun xs H Q => ∃ (x : V) (d : PyData), xs = [x] ∧ Dp K H x d ∧ d.showable = true ∧ d.hasDict = false ∧ d.depth ≤ 32 ∧ d.shown.length ≤ sizeLine ∧ Q (.str d.shown) H
theorem call_repr {X : Cx} {k : Nat} (rm : Rm k X.A) : CallR X (.builtin "repr") (rRepr X.K) := by
  intro pins s σ H xs us Q I r h
  obtain ⟨x, d, rfl, hdz, sh, nd, dp, sz, q⟩ := h
  obtain ⟨u, rfl, ru⟩ := vals1 r
  obtain ⟨as, rd⟩ := Dp.reads I d x u hdz ru
  have hu := rm.room.units
  cases hdz with
  | non =>
    obtain rfl : u = Value.none := ru
    refine P.repr_of_none ⟨.str "None", H, I.tok _, ⟨_, rfl⟩, ?_⟩
    simpa only [PyData.shown] using q
  | bl b =>
    obtain rfl : u = Value.bool b := ru
    refine P.repr_of_bool ⟨.str (if b then "True" else "False"), H, I.tok _, ⟨s.toks, ?_⟩, ?_⟩
    · cases b <;> rfl
    · simpa only [PyData.shown] using q
  | int i =>
    obtain ⟨t, rfl⟩ := ru
    refine P.repr_of_int (by simpa [PyData.showable] using sh) ⟨.str (toString i), H, I.tok _, ⟨_, rfl⟩, ?_⟩
    simpa only [PyData.shown] using q
  | str z =>
    obtain ⟨t, rfl⟩ := ru
    refine P.repr_of_str ⟨.str (reprText z), H, I.tok _, ⟨_, rfl⟩, ?_⟩ ?_
    · simpa only [PyData.shown] using q
    · simpa only [PyData.shown] using sz
  | lst hsv0 haz =>
    cases ru
    exact repr_of_reads' rd sh (fun e => by rw [nd] at e; cases e) rm.gu (by omega) (fun _ _ e => e) (fun h' u tk hk => ⟨.str _, H, I.kept hk, ⟨u, rfl⟩, q⟩) sz
  | tup hsv0 haz =>
    cases ru
    exact repr_of_reads' rd sh (fun e => by rw [nd] at e; cases e) rm.gu (by omega) (fun _ _ e => e) (fun h' u tk hk => ⟨.str _, H, I.kept hk, ⟨u, rfl⟩, q⟩) sz

/-! ### the end: the law's call from the heap behind the top -/
theorem g_call {P : Program} {w : World} {K : PySem.W.Frag} {mg mb : Str → Option Value} {k : Nat} {fa a : Addr} {fd : FuncData} {x : Str} {sp : Sp} {s1 : Shared} {vs : List Value} {ns : List Int}
    (inKz : K.In s1.heap) (gn : s1.heap.Ns mainGlobals mg) (bn : s1.heap.Ns builtinsNs mb) (bb : ∀ x : Str, x ≠ "__name__" → mb x = bootBuiltins x) (nl : s1.heap.NoLimit) (ng : s1.gens = #[])
    (saz : s1.heap.get? a = some { cls := .type "list", data := .seq vs.toArray }) (hi : IntsAre vs ns) (hlz0 : ns.length ≤ sizeLine) (rm : Rm k callerA)
    (F : ∀ base : Heap, K.In base → base.Ns mainGlobals mg → GFn P w K mg base CX0 k fa fd [x] sp) (hbind : ∀ (s : Shared) (u : Value), BindsTo s fd ⟨[u], []⟩ [(x, u)])
    (hsp : ∀ H : Hp, Only H → SqL K H a (ns.map V.int) → sp [.ref a] H (fun v _ => v = .bl true) fun _ _ _ => False) :
    codeAny (model P w) callerA (.call (.ref fa) ⟨[.ref a], []⟩) (fun r s' => r = .ok (.ret (.bool true)) ∧ OldK s1.heap s'.heap ∧ s'.os = s1.os ∧ AllBare s'.gens) s1 := by
  have rel := vals_ints hi
  have lv := hi.length
  suffices core : ∀ H : Hp, Only H → SqL K H a (ns.map V.int) → HOk P w H s1.heap → (∀ b, H b ≠ none → b = a) → (H a ≠ none → K.lookup a = none) →
      codeAny (model P w) callerA (.call (.ref fa) ⟨[.ref a], []⟩) (fun r s' => r = .ok (.ret (.bool true)) ∧ OldK s1.heap s'.heap ∧ s'.os = s1.os ∧ AllBare s'.gens) s1 by
    cases hk : K.lookup a with
    | some o =>
      have e := inKz a o hk
      rw [saz] at e
      obtain rfl := Option.some.inj e
      exact core (fun _ => none) (fun _ => Or.inl rfl) (Or.inr ⟨_, vs.toArray, _, hk, rfl, rfl, rfl, by rw [List.size_toArray, lv]; exact hlz0, by simpa using rel⟩) (fun _ _ z => nomatch z) (fun _ z => (z rfl).elim) fun z => (z rfl).elim
    | none =>
      let H1 : Hp := fun b => if b = a then some (.frz { cls := .type "list", data := .seq vs.toArray } (.lst (ns.map V.int))) else none
      have at_a : H1 a = some (.frz { cls := .type "list", data := .seq vs.toArray } (.lst (ns.map V.int))) := if_pos rfl
      have off : ∀ b, b ≠ a → H1 b = none := fun b hb => if_neg hb
      refine core H1 (fun b => ?_) (Or.inl (Or.inr ⟨_, at_a⟩)) (fun b u z => ?_) (fun b z => ?_) fun _ => hk
      · by_cases hb : b = a
        · exact Or.inr ⟨_, _, hb ▸ at_a⟩
        · exact Or.inl (off b hb)
      · by_cases hb : b = a
        · subst hb
          rw [at_a] at z
          obtain rfl := Option.some.inj z
          exact ⟨saz, by rw [List.length_map]; exact hlz0, vs, _, rel, saz⟩
        · rw [off b hb] at z
          cases z
      · by_cases hb : b = a
        · exact hb
        · exact (z (off b hb)).elim
  intro H hO hS hok only nk
  have keep0 : ∀ {b : Addr} {o : Obj}, s1.heap.get? b = some o → H b = none → (hidT s1.heap H).get? b = some o := fun e n => hidT_get e n
  have free0 : ∀ {b : Addr} {o : Obj} {es : Array DictEntry} {ep : Nat}, s1.heap.get? b = some o → o.data = .dict es ep → H b = none := by
    intro b o es ep e d
    cases q : H b with
    | none => rfl
    | some u =>
      obtain rfl : b = a := only b (by rw [q]; exact fun z => nomatch z)
      rw [saz] at e
      obtain rfl := Option.some.inj e
      cases (show Data.seq vs.toArray _ = Data.dict es ep from d)
  have ns0 : ∀ {b : Addr} {m : Str → Option Value}, s1.heap.Ns b m → (hidT s1.heap H).Ns b m := by
    rintro b m ⟨o, es, ep, e, d, r⟩
    exact ⟨o, es, ep, keep0 e (free0 e d), d, r⟩
  have in0 : K.In (hidT s1.heap H) := by
    intro b o e
    refine keep0 (inKz b o e) ?_
    cases q : H b with
    | none => rfl
    | some u =>
      have n : H b ≠ none := by rw [q]; exact fun z => nomatch z
      obtain rfl := only b n
      rw [nk n] at e
      cases e
  have m0 : Mod K mg (hidT s1.heap H) := by
    refine ⟨in0, ns0 gn, ⟨mb, ns0 bn, bb⟩, ?_⟩
    obtain ⟨mc, z1, z2⟩ := nl
    exact ⟨mc, ns0 z1, z2⟩
  have e0 : Env0 P w K mg (hidT s1.heap H) callerA [] s1 H := ⟨rfl, m0, fun _ _ e => of_hidT e, Nat.le_of_eq (hidT_size _ _), trivial, fun b z => absurd (show b ∈ ([] : List Addr) from z) (by simp), hok, .of_eq ng⟩
  refine codeAny_mono ((F _ in0 (ns0 gn)).go callerA [] s1 H ⟨[.ref a], []⟩ [.ref a] [.ref a] _ _ rm e0 (hbind s1 (.ref a)) (.cons rfl .nil) (hsp H hO hS)) ?_
  intro r s' z
  match r, z with
  | .error _, z => exact z.elim
  | .ok .next, z => exact z.elim
  | .ok .brk, z => exact z.elim
  | .ok .cont, z => exact z.elim
  | .ok (.ret u), z =>
    obtain ⟨v, H', os, bare, un, hok', rvz, q⟩ := z
    obtain rfl : v = .bl true := q
    obtain rfl : u = Value.bool true := rvz
    refine ⟨rfl, OldK.of_keep ?_, os, bare⟩
    intro b o e
    rcases hO b with n | ⟨ob, xs, n⟩
    · exact un.keep b o e n (fun z => absurd (show b ∈ ([] : List Addr) from z) (by simp)) (by simp)
    · obtain ⟨ez1, _⟩ := hok b _ n
      obtain ⟨ez2, _⟩ := hok' b _ (un.frzs b ob _ n)
      rw [e] at ez1
      obtain rfl := Option.some.inj ez1
      exact ez2
/-- what k_head leaves, from the law's promise -/
theorem walkG {l : PySem.W.OpenLaw} {n k : Nat} {q : Program} {loose : List Str} {XP : (Str → Option Value) → Heap → Prop} {YP : World → Heap → Prop} {d : DefRec} {K : Params → PySem.W.Frag} {sp : PySem.W.Frag → Sp} {x : Str}
    (hnz : l.most = some n) (hn2 : n ≤ sizeLine) (hdf : d.params.defaults = []) (rm : Rm k callerA) (hY : ∀ (w : World) (h : Heap), YP w h → (K w.params).In h)
    (F : ∀ (w : World) (mg : Str → Option Value) (fa : Addr) (h : Heap), (K w.params).In h → h.Ns mainGlobals mg → mg d.name = some (.ref fa) →
      ∃ fd : FuncData, (∀ (s : Shared) (u : Value), BindsTo s fd ⟨[u], []⟩ [(x, u)]) ∧
        ∀ base : Heap, (K w.params).In base → base.Ns mainGlobals mg → GFn l.prog w (K w.params) mg base CX0 k fa fd [x] (sp (K w.params)))
    (hsp : ∀ (K : PySem.W.Frag) (H : Hp) (a : Addr) (ns : List Int), ns.length ≤ n → Only H → SqL K H a (ns.map V.int) → sp K [.ref a] H (fun v _ => v = .bl true) fun _ _ _ => False) :
    PySem.W.WalkO q loose XP YP l.row.toRowW d [] (fun f vs => PySem.call f vs) := by
  refine Att.attach_call hnz hdf ?_
  intro w s0 s1 mg mb fa o pm cd doc a vs ns G Y hoz hdz hcd hmgz hobj hints hlz hgz
  have inKz := hY w _ Y
  obtain ⟨fd, hb, hF⟩ := F w mg fa _ inKz G.T.g hmgz
  exact g_call inKz G.T.g G.T.b G.T.builtins G.T.nolimit hgz hobj hints (Nat.le_trans hlz hn2) rm hF hb fun H hO hS => hsp _ H a ns hlz hO hS
end GG

set_option maxHeartbeats 3999999
/-! tuples whose objects are known to have no dict of their own: their methods, dict() of them -/
namespace GG
open PySem PySem.Spec PyProof.Rows L2
/-- at a stands a tuple of the values xs, no attributes of itz own -/
def TupD (K : PySem.W.Frag) (H : Hp) (a : Addr) (xs : List V) : Prop := (∃ o : Obj, H a = some (.frz o (.tup xs)) ∧ o.dict = none ∧ o.cls = .type "tuple") ∨
  ∃ (o : Obj) (itz : Array Value) (n : Nat), K.lookup a = some o ∧ o.cls = .type "tuple" ∧ o.dict = none ∧ o.data = .seq itz n ∧ itz.size ≤ sizeLine ∧ Vals xs itz.toList
theorem TupD.sq {K : PySem.W.Frag} {H : Hp} {a : Addr} {xs : List V} (t : TupD K H a xs) : SqT K H a xs := by
  rcases t with ⟨o, h, _⟩ | ⟨o, itz, n, h1, h2, h3, h4, h5, h6⟩
  · exact .inl (.inr ⟨o, h⟩)
  · exact .inr ⟨o, itz, n, h1, h2, h4, h5, h6⟩
theorem TupD.mono {K : PySem.W.Frag} {H H' : Hp} {a : Addr} {xs : List V} (s : Same H H') (t : TupD K H a xs) : TupD K H' a xs := by
  rcases t with ⟨o, h, d⟩ | t
  · exact .inl ⟨o, s _ _ h, d⟩
  · exact .inr t
section
variable {X : Cx} {pins : List (Addr × Obj)} {σ : L2.St} {H : Hp} {s : Shared}
/-- the object -/
theorem TupD.obj {a : Addr} {xs : List V} (t : TupD X.K H a xs) (I : Inv X pins σ H s) : ∃ (o : Obj) (itz : List Value) (n : Nat), s.heap.get? a = some o ∧ o.cls = .type "tuple" ∧ o.dict = none ∧ o.data = .seq itz.toArray n ∧ Vals xs itz ∧ xs.length ≤ sizeLine := by
  rcases t with ⟨o, h, d, c⟩ | ⟨o, itz, n, h1, h2, h3, h4, h5, h6⟩
  · obtain ⟨e, z, itz, r, o', e', c', n, dd⟩ := I.hok a _ h
    rw [e] at e'
    obtain rfl := Option.some.inj e'
    exact ⟨o, itz, n, e, c, d, dd, r, z⟩
  · refine ⟨o, itz.toList, n, I.kIn a o h1, h2, h3, by simpa using h4, h6, ?_⟩
    rw [h6.length, Array.length_toList]
    exact h5
end
section
variable {X : Cx} {es : List Expr} {t : TA} {pos : Pos}
def tTupZ (t : TA) : TE := fun σ H Q => t σ H fun xs H1 => xs.length ≤ sizeLine ∧ ∀ p (o : Obj), H1 p = none → o.dict = none → o.cls = .type "tuple" → Q (.ref p) (upd H1 p (.frz o (.tup xs)))
theorem pe_tupZ {x1} (h : PA X es t) : PE X (.Tuple es x1 pos) (tTupZ t) := by
  constructor
  intro pins s σ H Q I hqz
  refine wpAny_Tuple_spliced (thn (h.run pos pins s σ H _ I hqz) ?_)
  rintro us s1 ⟨xs, H1, Iz1, r, z, q⟩
  refine ⟨r.length ▸ z, ?_⟩
  have fr : H1 s1.heap.objs.size = none := Iz1.hok.fresh (Nat.le_refl _)
  exact ⟨.ref s1.heap.objs.size, _, Iz1.laid (t' := s1.toks) (o := .frz { cls := .type "tuple", data := .seq us.toArray } (.tup xs)) (fun b u e => Heap.get?_push_of_some _ e) (Nat.le_refl _)
    ⟨Heap.get?_push_size _ rfl, z, us, r, ⟨_, Heap.get?_push_size _ rfl, rfl, _, rfl⟩⟩, rfl, q _ _ fr rfl rfl⟩
/-- tuple(x) -/
def rTupZ (K : PySem.W.Frag) : List V → Hp → VK → Prop := fun xs H Q => ∃ p ys, xs = [.ref p] ∧ ((SqL K H p ys ∧ ∀ l (o : Obj), H l = none → o.dict = none → o.cls = .type "tuple" → Q (.ref l) (upd H l (.frz o (.tup ys)))) ∨ (SqT K H p ys ∧ Q (.ref p) H))
theorem call_tupZ : CallR X (.type "tuple") (rTupZ X.K) := by
  intro pins s σ H xs us Q I r h
  obtain ⟨p, ys, rfl, h⟩ := h
  obtain ⟨u, rfl, rxz⟩ := vals1 r
  cases rxz
  rcases h with ⟨hqz, q⟩ | ⟨hqz, q⟩
  · obtain ⟨itz, rvz, plz, hzz⟩ := I.list hqz
    have hlz0 := rvz.length
    refine call_tuple_list plz.isList (fun h' kp => ?_) (by simp only [List.size_toArray] <;> omega)
    have Iz1 : Inv X pins σ H { s with heap := h' } := I.kept (t' := s.toks) kp
    refine ⟨.ref h'.objs.size, _, Iz1.laid (t' := s.toks) (o := .frz { cls := .type "tuple", data := .seq itz.toArray } (.tup ys)) (fun b o e => Heap.get?_push_of_some _ e) (Nat.le_refl _) ?_, rfl, q _ _ (Iz1.hok.fresh (Nat.le_refl _)) rfl rfl⟩
    exact ⟨Heap.get?_push_size _ rfl, hzz, itz, rvz, IsTup.new _ _⟩
  · obtain ⟨itz, rvz, plz, hzz⟩ := I.tuple hqz
    exact call_tuple_same plz ⟨.ref p, H, I, rfl, q⟩
/-- t[a:b], a part that is not the whole -/
def rSlZ (K : PySem.W.Frag) : V → Option Int → Option Int → Hp → VK → Prop := fun x lo hi H Q => ∃ a xs, x = .ref a ∧ SqT K H a xs ∧
  ¬ (HT.sIx xs.length 0 lo = 0 ∧ HT.sIx xs.length xs.length hi = xs.length) ∧ ∀ p (o : Obj), H p = none → o.dict = none → o.cls = .type "tuple" → Q (.ref p) (upd H p (.frz o (.tup (cutV xs lo hi))))
theorem sl_tupZ : SlR X (rSlZ X.K) := by
  intro pins s σ H x v vl vu lo hi sl Q I rxz hsv0 plz pu h
  obtain ⟨a, xs, rfl, hxz, hw, q⟩ := h
  cases rxz
  obtain ⟨itz, r, ht, hzz⟩ := I.tuple hxz
  have hlz : itz.toArray.size = xs.length := by rw [List.size_toArray]; exact r.length.symm
  refine ⟨"tuple", _, PyProof.Rows.slot_tuple_getitem.lookup, ht.typeIs, ?_⟩
  refine HT.getItem_tuple_cut ht hsv0 plz pu (by rw [hlz]; exact hw) ?_ (by rw [hlz]; exact hzz)
  rw [hlz]
  have rc := (r.drop (HT.sIx xs.length 0 lo)).take (HT.sIx xs.length xs.length hi - HT.sIx xs.length 0 lo)
  refine ⟨.ref s.heap.objs.size, _, I.laid (t' := s.toks) (o := .frz { cls := .type "tuple", data := .seq ((itz.drop (HT.sIx xs.length 0 lo)).take (HT.sIx xs.length xs.length hi - HT.sIx xs.length 0 lo)).toArray } (.tup (cutV xs lo hi))) (fun b ob q => Heap.get?_push_of_some _ q) (Nat.le_refl _) ?_, rfl, q _ _ (I.hok.fresh (Nat.le_refl _)) rfl rfl⟩
  exact ⟨Heap.get?_push_size _ rfl, Nat.le_trans (cutV_length xs lo hi) hzz, _, rc, IsTup.new _ _⟩
/-- t + u, t not empty -/
def rCatZ (K : PySem.W.Frag) : R2 := fun x y H Q => ∃ a b xs ys, x = .ref a ∧ y = .ref b ∧ SqT K H a xs ∧ SqT K H b ys ∧ xs ≠ [] ∧ xs.length + ys.length ≤ sizeLine ∧
  (ys = [] → Q (.ref a) H) ∧ (ys ≠ [] → ∀ p (o : Obj), H p = none → o.dict = none → o.cls = .type "tuple" → Q (.ref p) (upd H p (.frz o (.tup (xs ++ ys)))))
theorem op_catZ : OpR X (binaryOp .Add) (rCatZ X.K) := by
  intro pins s σ H x y v u Q I rxz ryz h
  obtain ⟨a, b, xs, ys, rfl, rfl, haz, hb, hxz, hzz, q1, q2⟩ := h
  cases rxz
  cases ryz
  obtain ⟨itz, r1, p1, _⟩ := I.tuple haz
  obtain ⟨itz2, r2, p2, _⟩ := I.tuple hb
  refine HT.cat_tup p1 p2 (fun z => hxz (r1.nil_iff.mp z)) (fun z => ⟨.ref a, H, I, rfl, q1 (r2.nil_iff.mp z)⟩) (fun z => ?_) (by rw [← r1.length, ← r2.length]; exact hzz)
  refine ⟨.ref s.heap.objs.size, _, I.laid (t' := s.toks) (o := .frz { cls := .type "tuple", data := .seq (itz ++ itz2).toArray } (.tup (xs ++ ys))) (fun b ob q => Heap.get?_push_of_some _ q) (Nat.le_refl _) ?_, rfl, q2 (fun w => z (r2.nil_iff.mpr w)) _ _ (I.hok.fresh (Nat.le_refl _)) rfl rfl⟩
  exact ⟨Heap.get?_push_size _ rfl, by rw [List.length_append]; exact hzz, _, r1.append r2, IsTup.new _ _⟩
end
section
variable {X : Cx} {o e : Expr} {es : List Expr} {to : TE} {t : TA} {name : Str} {apos cpos : Pos} {id : String} {r : V → List V → Hp → VK → Prop}
/-- t.m(e, ..) of a tuple -/
def tBT (K : PySem.W.Frag) (r : V → List V → Hp → VK → Prop) (to : TE) (t : TA) : TE := fun σ H Q => to σ H fun x H1 => (∃ a xs, x = .ref a ∧ TupD K H1 a xs) ∧ t σ H1 fun xs H2 => r x xs H2 Q
theorem pe_bt (pa : PlainAttrs "tuple") (slot : Slot "tuple" name id) (hty : typeOf (.builtin id) = pure (.type "method_descriptor")) (hmz : MtR X id r) (hoz : PE X o to) (haz : PA X (e :: es) t)
    (hbase : attributeBase o name X.env (eval o X.env) = eval o X.env := by rfl)
    (few : ((backTo cpos (starEach (e :: es) X.env)).all (fun x => !x.1) && (backToKw cpos (keywordEach [] X.env)).all (fun x => x.1.isSome)
      && decide ((e :: es).length + ([] : List Keyword).length + (if ([] : List Keyword).isEmpty then 0 else 1) < 30)) = true := by rfl)
    (hline : (apos.endLine == cpos.line) = true := by rfl) (hsv0 : starEach (e :: es) X.env = (false, eval e X.env) :: starEach es X.env := by rfl) (np : (backTo cpos (starEach es X.env)).any (·.1) = false := by rfl) :
    PE X (.Call (.Attribute o name apos) (e :: es) [] cpos) (tBT X.K r to t) := by
  constructor
  intro pins s σ H Q I h
  refine wpAny_Call_method_late hbase few hline rfl (thn (hoz.run pins s σ H _ I h) ?_)
  rintro v s1 ⟨x, H1, Iz1, r1, ⟨a, xs, rfl, td⟩, q1⟩
  cases r1
  obtain ⟨ob, itz, n, eo, ec, ed, edt, _, _⟩ := td.obj Iz1
  refine ⟨"tuple", id, pa, slot, hty, ⟨ob, eo, ec⟩, fun a' e' => ?_, ?_⟩
  · cases e'
    exact ⟨ob, eo, ed⟩
  have hAz := haz.run cpos pins s1 σ H1 _ Iz1 q1
  rw [hsv0] at hAz ⊢
  refine Calls.callWith_builtin (by show (false || (backTo cpos (starEach es X.env)).any (·.1)) = false; rw [np] <;> rfl) (Calls.evalArgs_plain (thn hAz ?_))
  rintro us s2 ⟨vs, H2, Iz2, r2, q2⟩
  exact hmz pins s2 σ H2 (.ref a) vs _ us Q Iz2 rfl r2 q2
end
section
variable {X : Cx}
/-- dict(t), t a tuple of pairs -/
def rDictT (K : PySem.W.Frag) : List V → Hp → VK → Prop := fun xs H Q => ∃ (a : Addr) (ps : List Addr) (kvs : List (Key × V)), xs = [.ref a] ∧ TupD K H a (ps.map V.ref) ∧ Paired (fun p kv => SqT K H p [kV kv.1, kv.2]) ps kvs ∧
    ∀ p, H p = none → Q (.ref p) (upd H p (.dK (mergeK [] kvs)))
theorem two_of {pins : List (Addr × Obj)} {σ : L2.St} {H : Hp} {s : Shared} (I : Inv X pins σ H s) : ∀ {ps : List Addr} {kvs : List (Key × V)}, Paired (fun p kv => SqT X.K H p [kV kv.1, kv.2]) ps kvs →
    ∃ (prs : List (Key × Value)) (qs : List (Value × Value)), KV kvs prs ∧ prs.length = ps.length ∧ qs.length = ps.length ∧
      ∀ (j : Nat) (k v : Value), qs[j]? = some (k, v) → ∃ (b : Addr) (q : Key × Value), ps[j]? = some b ∧ prs[j]? = some q ∧ q.2 = v ∧ IsTup s.heap b #[k, v] ∧ keyIs q.1 k = true
  | _, _, .nil => ⟨[], [], .nil, rfl, rfl, fun j k v e => by simp at e⟩
  | _, _, .cons (a := p) (b := kv) h t => by
    obtain ⟨prs, qs, r, l1, l2, hpz⟩ := two_of I t
    obtain ⟨itz, rvz, ht, _⟩ := I.tuple h
    obtain ⟨u, y, rfl, ru, ryz⟩ := vals2 rvz
    refine ⟨(kv.1, y) :: prs, (u, y) :: qs, .cons ⟨rfl, ryz⟩ r, congrArg (· + 1) l1, congrArg (· + 1) l2, fun j k v e => ?_⟩
    cases j with
    | zero =>
      have e : (u, y) = (k, v) := Option.some.inj e
      obtain ⟨rfl, rfl⟩ := Prod.mk.inj e
      exact ⟨p, (kv.1, y), rfl, rfl, rfl, ht, kV_is (P := X.prog) (w := X.w) ru⟩
    | succ j => exact hpz j k v e
theorem call_dictT (calm : X.calm = true) : CallR X (.type "dict") (rDictT X.K) := by
  intro pins s σ H xs us Q I r q
  obtain ⟨a, ps, kvs, rfl, hqz, hpz, q⟩ := q
  obtain ⟨u, rfl, rxz⟩ := vals1 r
  cases rxz
  obtain ⟨o, itz, n, eo, ec, ed, edt, rvz, hzz⟩ := hqz.obj I
  obtain rfl := refs_at rvz
  rw [List.length_map] at hzz
  obtain ⟨prs, qs, rel, l1, l2, hpr⟩ := two_of I hpz
  have ok : PlainSeq "tuple" s.heap a (ps.map Value.ref).toArray ∧ PairItems s.heap (ps.map Value.ref).toArray (fun j => ps.getD j 0) qs := by
    refine ⟨⟨o, n, eo, ec, ed, edt⟩, by simp [l2], fun j k v e => ?_⟩
    obtain ⟨b, z, ez1, ez2, e3, e4, e5⟩ := hpr j k v e
    refine ⟨by simp [ez1, List.getD], .inl ?_⟩
    have eg : ps.getD j 0 = b := by rw [List.getD_eq_getElem?_getD, ez1]; rfl
    show s.heap.IsTuple (ps.getD j 0) #[k, v]
    rw [eg]
    exact e4
  refine PySem.call_dict_pairs (knd := mixKind X.prog X.w) (PairArg.tuple a _ _ qs) (I.ok.hd calm) ok (kvs := prs) ⟨l1.trans l2.symm, fun j k v e => ?_⟩ (by omega) ?_
  · obtain ⟨b, z, ez1, ez2, e3, e4, e5⟩ := hpr j k v e
    exact ⟨z.1, by rw [ez2, ← e3], e5⟩
  · intro h' tk hd' kp
    have kp' : ∀ b o, s.heap.get? b = some o → h'.get? b = some o := fun b o e => kp b o (by simp) e
    have hmz : (s.heap.objs.size == sysModules) = false := beq_eq_false_iff_ne.mpr (Nat.ne_of_gt I.big)
    have hlz : (mergeK [] kvs).length ≤ sizeLine := by
      have z := length_mergeK kvs []
      have z2 := rel.length
      rw [List.length_nil] at z
      omega
    exact ⟨.ref s.heap.objs.size, upd H s.heap.objs.size (.dK (mergeK [] kvs)), I.laid (t' := tk) kp' (Nat.le_refl _) (show ObjOk X.prog X.w _ _ _ (.dK (mergeK [] kvs)) from ⟨hlz, hmz, merged [] prs, KV.merge rel .nil, hd'⟩), rfl, q _ (I.hok.fresh (Nat.le_refl _))⟩
end
end GG

set_option maxHeartbeats 3999999
/-! sorted(xs): alike data; tuples that differ in their first text; x in a tuple of data -/
namespace GG
open PySem PySem.Spec PyProof.Rows L2
theorem dp_readsAll {X : Cx} {pins : List (Addr × Obj)} {σ : L2.St} {H : Hp} {s : Shared} (I : Inv X pins σ H s) {us : List V} {ds : List PyData} {vs : List Value} (h : L2.DpAll X.K H us ds) (r : Vals us vs) : ∃ as, ReadsAll s.heap vs ds as := Dp.readsAll I ds us vs h r
theorem dpAll_length {K : PySem.W.Frag} {H : Hp} : ∀ {us : List V} {ds : List PyData}, L2.DpAll K H us ds → us.length = ds.length
  | _, _, .nil => rfl
  | _, _, .cons _ t => congrArg (· + 1) (dpAll_length t)
/-- value by value: what is known of it, what it reads as -/
theorem each_zip {h : Heap} : ∀ {us : List V} {ds : List PyData} {vs : List Value} {as : List Addr}, Vals us vs → ReadsAll h vs ds as →
    PySem.W.EachIs (fun (v : Value) (p : V × PyData) => RelV p.1 v) vs (us.zip ds) ∧ PySem.W.EachIs (fun (v : Value) (p : V × PyData) => ∃ as, Reads h v p.2 as) vs (us.zip ds)
  | _, _, _, _, .nil, .nil => ⟨.nil, .nil⟩
  | _, _, _, _, .cons r rs, .cons q qs => by
    obtain ⟨ez1, ez2⟩ := each_zip rs qs
    exact ⟨.cons r ez1, .cons ⟨_, q⟩ ez2⟩
theorem each_vals : ∀ {vs : List Value} {zs : List (V × PyData)}, PySem.W.EachIs (fun (v : Value) (p : V × PyData) => RelV p.1 v) vs zs → Vals (zs.map Prod.fst) vs
  | _, _, .nil => .nil
  | _, _, .cons r rs => .cons r (each_vals rs)
def sortZ (us : List V) (ds : List PyData) : List (V × PyData) := (us.zip ds).mergeSort (PySem.W.dataLe false Prod.snd)
/-- sorted(xs) of alike data -/
def rSortA (K : PySem.W.Frag) : List V → Hp → VK → Prop := fun xs H Q => ∃ (a : Addr) (us : List V) (ds : List PyData), xs = [.ref a] ∧ SqL K H a us ∧ L2.DpAll K H us ds ∧ PySem.W.AllAlike ds ∧ PySem.W.Sortable ds ∧ (∀ d ∈ ds, d.depth ≤ 32) ∧
  ∀ p, H p = none → Q (.ref p) (upd H p (.lst ((sortZ us ds).map Prod.fst)))
theorem zip_snd {us : List V} {ds : List PyData} (h : us.length = ds.length) : (us.zip ds).map Prod.snd = ds := List.map_snd_zip (by omega)
theorem sortZ_len {us : List V} {ds : List PyData} (h : us.length = ds.length) : (sortZ us ds).length = us.length := by
  unfold sortZ
  rw [List.length_mergeSort, List.length_zip, h, Nat.min_self]
section
variable {X : Cx}
theorem call_sortA {k : Nat} (rm : Rm k X.A) : CallR X (.builtin "sorted") (rSortA X.K) := by
  intro pins s σ H xs us Q I r h
  obtain ⟨a, vs, ds, rfl, hqz, hdz, al, so, dp, q⟩ := h
  obtain ⟨u, rfl, rxz⟩ := vals1 r
  cases rxz
  obtain ⟨itz, rvz, plz, hzz⟩ := I.list hqz
  obtain ⟨as, ra⟩ := dp_readsAll I hdz rvz
  obtain ⟨ez1, ez2⟩ := each_zip rvz ra
  have hu := rm.room.units
  have hlz0 := dpAll_length hdz
  have zs := zip_snd hlz0
  refine PySem.W.sorted_data (enc := Prod.snd) (bs := vs.zip ds) plz.isList ez1 ez2 (by rw [zs]; exact al) (by rw [zs]; exact so) ?_ ?_ ?_
  · rw [List.length_zip, hlz0, Nat.min_self, ← hlz0]
    exact hzz
  · intro p hpz
    have hmz : p.2 ∈ ds := zs ▸ List.mem_map_of_mem hpz
    have := dp p.2 hmz
    omega
  · intro out hlz hez
    obtain ⟨e, hat⟩ := sortedAll_at s.heap itz out.toArray
    have hv := each_vals hez
    have fr : H (s.heap.objs.size + 1) = none := I.hok.fresh (Nat.le_succ _)
    refine ⟨.ref (s.heap.objs.size + 1), _, I.laid (t' := s.toks) (a := s.heap.objs.size + 1) (o := .lst ((sortZ vs ds).map Prod.fst)) (fun b o e => sortedAll_old e) (Nat.le_succ _) ?_, rfl, q _ fr⟩
    refine ⟨?_, out, e, hv, hat⟩
    rw [List.length_map, sortZ_len hlz0]
    exact hzz
end
/-! ### pairs, by their first text -/
/-- v is a pair of n and of data that reads as d -/
def NPair (h : Heap) (v : Value) (n : Str) (d : PyData) : Prop := ∃ a o t y m, v = .ref a ∧ h.get? a = some o ∧ o.cls = .type "tuple" ∧ o.data = .seq #[.str n t, y] m ∧ (∃ as, Reads h y d as) ∧ d.canLay0 = true ∧ d.depth ≤ 32 ∧ PyData.eqv d d = true
theorem NPair.one {h : Heap} {v : Value} {n m : Str} {d e : PyData} (p : NPair h v n d) (q : NPair h v m e) : n = m := by
  obtain ⟨a, o, t, y, k, rfl, ez1, _, d1, _⟩ := p
  obtain ⟨a', o', t', y', k', e0, ez2, _, d2, _⟩ := q
  cases e0
  rw [ez1] at ez2
  obtain rfl := Option.some.inj ez2
  rw [d1] at d2
  cases d2
  rfl
theorem NPair.keep {h h' : Heap} {v : Value} {n : Str} {d : PyData} (k : ∀ b o, h.get? b = some o → h'.get? b = some o) (p : NPair h v n d) : NPair h' v n d := by
  obtain ⟨a, o, t, y, m, e0, ez1, ez2, e3, ⟨as, r⟩, c⟩ := p
  exact ⟨a, o, t, y, m, e0, k _ _ ez1, ez2, e3, ⟨as, PyProof.Rows.Reads.keeps k r⟩, c⟩
open Classical in
noncomputable def firstOf (h : Heap) (v : Value) : List Nat := if p : ∃ n d, NPair h v n d then p.choose.cps.toList else []
theorem firstOf_is {h : Heap} {v : Value} {n : Str} {d : PyData} (p : NPair h v n d) : firstOf h v = n.cps.toList := by
  unfold firstOf
  rw [dif_pos ⟨n, d, p⟩]
  obtain ⟨e, q⟩ := Exists.choose_spec (⟨n, d, p⟩ : ∃ n d, NPair h v n d)
  exact congrArg (fun z : Str => z.cps.toList) (NPair.one q p)
noncomputable def byFirst (h : Heap) (v u : Value) : Bool := decide (firstOf h v < firstOf h u)
theorem swo_first (h : Heap) : SrtO.Swo (byFirst h) := by
  refine ⟨fun x y e => ?_, fun x y z ez1 ez2 => ?_⟩
  · exact decide_eq_false (List.lt_asymm (of_decide_eq_true e))
  · have a := of_decide_eq_false ez1
    have b := of_decide_eq_false ez2
    exact decide_eq_false fun c => a (List.lt_of_le_of_lt (List.not_lt.mp b) c)
section
variable {prog : Program} {w : World} {A : Around} {s : Shared}
theorem first_cmp {vs : List Value} {h0 : Heap} (hk : ∀ b o, h0.get? b = some o → s.heap.get? b = some o) (hu : A.units + 40 < cLine) (hpz : ∀ v ∈ vs, ∃ n d, NPair h0 v n d) (one : ∀ v ∈ vs, ∀ u ∈ vs, firstOf h0 v = firstOf h0 u → v = u) :
    SrtO.Cmp prog w A s (tuples' true) (fun p => p.1 ∈ vs) (SrtO.lt2 (byFirst h0)) := by
  intro p q hmz hm'
  obtain ⟨n1, d1, p1⟩ := hpz _ hmz
  obtain ⟨n2, d2, p2⟩ := hpz _ hm'
  have f1 := firstOf_is p1
  have f2 := firstOf_is p2
  have same := one _ hmz _ hm'
  show wpAny (model prog w) A (keyLt' (tuples' true) p.1 q.1) (fun r s' => s' = s ∧ r = byFirst h0 p.1 q.1) (fun _ _ => False) s
  unfold byFirst
  rw [f1, f2]
  rw [f1, f2] at same
  obtain ⟨a, o, t, y, m, e, hoz, hc, hdz, ⟨as, r1⟩, l1, dd1, v1⟩ := p1.keep hk
  obtain ⟨a', o', t', y', m', e', ho', hc', hd', ⟨as', r2⟩, l2, dd2, v2⟩ := p2.keep hk
  rw [e, e'] at same ⊢
  refine PySem.W.kat_lt hoz hdz ho' hd' ?_
  show PySem.W.KatLex prog w A true (decide (2 < 2)) _ [(.str n1 t, .str n2 t'), (y, y')] 0 s
  refine PySem.W.kat_cons (SeqAt.EqAt.str_str n1 t n2 t' prog w _ _ ?_)
  refine PySem.W.kat_go (fun ez1 => ?_) (fun ez1 => ?_)
  · have en : n1 = n2 := by simpa using ez1
    subst en
    have ea := same rfl
    cases ea
    rw [hoz] at ho'
    obtain rfl := Option.some.inj ho'
    rw [hdz] at hd'
    cases hd'
    refine PySem.W.kat_yes (PySem.W.kat_cons (SeqAt.eqAt_reads d1 d1 A s y y as as r1 r1 l1 l1 (by rw [Nat.min_self]; omega) prog w _ _ ?_))
    rw [v1]
    refine PySem.W.kat_yes (PySem.W.kat_nil ⟨rfl, ?_⟩)
    exact (decide_eq_false (List.lt_irrefl _)).symm
  · exact PySem.W.kat_no (oneLt_str ⟨rfl, rfl⟩)
theorem first_tups {h : Heap} : ∀ {vs : List Value}, (∀ v ∈ vs, ∃ n d, NPair h v n d) → ∃ fs : List Value, PySem.W.KatTups h vs fs ∧ fs.length = vs.length ∧ ∀ f ∈ fs, ∃ x t, f = Value.str x t
  | [], _ => ⟨[], PySem.W.KatTups.nil, rfl, fun _ hmz => by simp at hmz⟩
  | v :: vs, hpz => by
    obtain ⟨fs, h1, h2, h3⟩ := first_tups (vs := vs) fun v' hmz => hpz v' (List.mem_cons_of_mem _ hmz)
    obtain ⟨n, d, a, o, t, y, m, rfl, hoz, hc, hdz, _⟩ := hpz v List.mem_cons_self
    refine ⟨.str n t :: fs, PySem.W.KatTups.cons hoz hc hdz rfl h1, congrArg (· + 1) h2, fun f hmz => ?_⟩
    rcases List.mem_cons.mp hmz with rfl | hmz
    · exact ⟨n, t, rfl⟩
    · exact h3 f hmz
end
/-- a list that is a map's, in another order, is the map of the other order -/
theorem perm_map {α β : Type} {f : α → β} {l m : List β} (p : l.Perm m) : ∀ z : List α, z.map f = m → ∃ z' : List α, List.Perm z' z ∧ z'.map f = l := by
  induction p with
  | nil => intro z e; exact ⟨z, .refl _, e⟩
  | cons x p ih =>
    intro z e
    cases z with
    | nil => cases e
    | cons a z =>
      rw [List.map_cons] at e
      obtain ⟨e0, e⟩ := List.cons.inj e
      obtain ⟨z', p', e'⟩ := ih z e
      exact ⟨a :: z', .cons a p', by rw [List.map_cons, e', e0]⟩
  | swap x y l =>
    intro z e
    match z, e with
    | a :: c :: z, e =>
      rw [List.map_cons, List.map_cons] at e
      obtain ⟨e0, e⟩ := List.cons.inj e
      obtain ⟨ez1, ez2⟩ := List.cons.inj e
      exact ⟨c :: a :: z, .swap _ _ _, by rw [List.map_cons, List.map_cons, e0, ez1, ez2]⟩
  | trans p1 p2 i1 i2 =>
    intro z e
    obtain ⟨z2, q2, ez2⟩ := i2 z e
    obtain ⟨z1, q1, ez1⟩ := i1 z2 ez2
    exact ⟨z1, q1.trans q2, ez1⟩
/-- sorted(xs) of pairs (text, data) with unlike texts -/
def rSortN (K : PySem.W.Frag) : List V → Hp → VK → Prop := fun xs H Q => ∃ (a : Addr) (us : List V) (nd : List (Str × PyData)), xs = [.ref a] ∧ SqL K H a us ∧ L2.DpAll K H us (nd.map fun p => .tuple [.str p.1, p.2]) ∧ (nd.map Prod.fst).Nodup ∧
  (∀ p ∈ nd, p.2.canLay0 = true ∧ p.2.depth ≤ 32 ∧ PyData.eqv p.2 p.2 = true) ∧
  ∀ (out : List (V × (Str × PyData))), out.Perm (us.zip nd) → out.Pairwise (fun p q => p.2.1.cps.toList < q.2.1.cps.toList) → ∀ p, H p = none → Q (.ref p) (upd H p (.lst (out.map Prod.fst)))
theorem np_all {X : Cx} {pins : List (Addr × Obj)} {σ : L2.St} {H : Hp} {s : Shared} (I : Inv X pins σ H s) : ∀ {us : List V} {nd : List (Str × PyData)} {vs : List Value}, L2.DpAll X.K H us (nd.map fun p => .tuple [.str p.1, p.2]) → Vals us vs →
    (∀ p ∈ nd, p.2.canLay0 = true ∧ p.2.depth ≤ 32 ∧ PyData.eqv p.2 p.2 = true) → ∃ z : List (Value × (V × (Str × PyData))), z.map Prod.fst = vs ∧ z.map Prod.snd = us.zip nd ∧ ∀ q ∈ z, RelV q.2.1 q.1 ∧ NPair s.heap q.1 q.2.2.1 q.2.2.2
  | _, [], _, h, r, _ => by
    cases h
    cases r
    exact ⟨[], rfl, rfl, fun _ hmz => by simp at hmz⟩
  | _, p :: nd, _, h, r, hsv0 => by
    cases h with
    | cons h1 h2 =>
      cases r with
      | cons r1 r2 =>
        rename_i v us u vs
        obtain ⟨z, z1, z2, z3⟩ := np_all I h2 r2 fun q hqz => hsv0 q (List.mem_cons_of_mem _ hqz)
        refine ⟨(u, v, p) :: z, by rw [List.map_cons, z1], by rw [List.map_cons, z2]; rfl, fun q hqz => ?_⟩
        rcases List.mem_cons.mp hqz with rfl | hqz
        · refine ⟨r1, ?_⟩
          cases h1 with
          | tup ht haz =>
            cases r1
            obtain ⟨itz, rvz, ⟨o, hoz, hc, m, hdz⟩, _⟩ := I.tuple ht
            cases haz with
            | cons a1 a2 =>
              cases a2 with
              | cons a2 a3 =>
                cases a3
                obtain ⟨x1, x2, rfl, rx1, rx2⟩ := vals2 rvz
                cases a1
                obtain ⟨t, rfl⟩ := rx1
                obtain ⟨c1, c2, c3⟩ := hsv0 p List.mem_cons_self
                exact ⟨_, o, t, x2, m, rfl, hoz, hc, hdz, Dp.reads I p.2 _ x2 a2 rx2, c1, c2, c3⟩
        · exact z3 q hqz
theorem call_sortN {X : Cx} {k : Nat} (rm : Rm k X.A) : CallR X (.builtin "sorted") (rSortN X.K) := by
  intro pins s σ H xs us Q I r h
  obtain ⟨a, vs, nd, rfl, hqz, hdz, no, sm, q⟩ := h
  obtain ⟨u, rfl, rxz⟩ := vals1 r
  cases rxz
  obtain ⟨itz, rvz, plz, hzz⟩ := I.list hqz
  obtain ⟨z, z1, z2, z3⟩ := np_all I hdz rvz sm
  have hu := rm.room.units
  have hlz := rvz.length
  have l2 := dpAll_length hdz
  rw [List.length_map] at l2
  have hpz : ∀ v ∈ itz, ∃ n d, NPair s.heap v n d := fun v hv => by
    rw [← z1] at hv
    obtain ⟨p, hmz, rfl⟩ := List.mem_map.mp hv
    exact ⟨_, _, (z3 p hmz).2⟩
  have zn : (z.map fun p => p.2.2.1).Nodup := by
    have e : z.map (fun p => p.2.2.1) = nd.map Prod.fst := by
      have ez1 : z.map (fun p => p.2.2.1) = ((z.map Prod.snd).map Prod.snd).map Prod.fst := by rw [List.map_map, List.map_map]; rfl
      rw [ez1, z2, List.map_snd_zip (by omega)]
    rw [e]
    exact no
  have inj : ∀ p ∈ z, ∀ q ∈ z, p.2.2.1 = q.2.2.1 → p = q := by
    have : ∀ (l : List (Value × (V × (Str × PyData)))), (l.map fun p => p.2.2.1).Nodup → ∀ p ∈ l, ∀ q ∈ l, p.2.2.1 = q.2.2.1 → p = q := by
      intro l
      induction l with
      | nil => intro _ p hpz; simp at hpz
      | cons x l ih =>
        intro hnz p hpz q hqz e
        rw [List.map_cons, List.nodup_cons] at hnz
        rcases List.mem_cons.mp hpz with hp1 | hp1
        · rcases List.mem_cons.mp hqz with hq1 | hq1
          · rw [hp1, hq1]
          · exact (hnz.1 (List.mem_map.mpr ⟨q, hq1, by rw [← e, hp1]⟩)).elim
        · rcases List.mem_cons.mp hqz with hq1 | hq1
          · exact (hnz.1 (List.mem_map.mpr ⟨p, hp1, by rw [e, hq1]⟩)).elim
          · exact ih hnz.2 p hp1 q hq1 e
    exact this z zn
  have fo : ∀ p ∈ z, firstOf s.heap p.1 = p.2.2.1.cps.toList := fun p hmz => firstOf_is (z3 p hmz).2
  have cps_inj : ∀ x y : Str, x.cps.toList = y.cps.toList → x = y := fun x y e => PySem.W.str_of_cps e
  have one : ∀ v ∈ itz, ∀ u ∈ itz, firstOf s.heap v = firstOf s.heap u → v = u := fun v hv u hu' e => by
    rw [← z1] at hv hu'
    obtain ⟨p, hmz, rfl⟩ := List.mem_map.mp hv
    obtain ⟨q', hm', rfl⟩ := List.mem_map.mp hu'
    rw [fo p hmz, fo q' hm'] at e
    rw [inj p hmz q' hm' (cps_inj _ _ e)]
  refine SrtO.sorted_ord (swo_first s.heap) plz.isList (by omega) (fun h2 h₁ a₁ haz kk h' keep => ?_) fun out hsv0 hb => ?_
  · have kS : ∀ b o, s.heap.get? b = some o → h'.get? b = some o := fun b o e => keep b o (kk b o e).1 (kk b o e).2
    obtain ⟨fs, t1, t2, t3⟩ := first_tups (h := h') fun v hv => by
      obtain ⟨n, d, p⟩ := hpz v hv
      exact ⟨n, d, p.keep kS⟩
    refine ⟨tuples' true, fun Q E hqz => ?_, first_cmp (h0 := s.heap) kS (by show X.A.units + 1 + 1 + 40 < cLine; omega) hpz one⟩
    refine PySem.W.kat_kind (T := .type "str") t1 (by omega) (fun f hmz => ?_) (by rfl) ?_
    · obtain ⟨x, t, rfl⟩ := t3 f hmz
      exact PySem.W.Looks.now
    · have e : (Value.type "str" != Value.type "tuple") = true := by decide +kernel
      rw [e]
      exact hqz
  · obtain ⟨zo, zp, ze⟩ := perm_map hb.perm z z1
    obtain ⟨e, hat⟩ := sortedAll_at s.heap itz out.toArray
    have fr : H (s.heap.objs.size + 1) = none := I.hok.fresh (Nat.le_succ _)
    have hv : Vals ((zo.map Prod.snd).map Prod.fst) out := by
      have : ∀ l : List (Value × (V × (Str × PyData))), (∀ p ∈ l, p ∈ z) → Vals ((l.map Prod.snd).map Prod.fst) (l.map Prod.fst) := by
        intro l
        induction l with
        | nil => intro _; exact .nil
        | cons x l ih => intro hmz; exact .cons (z3 x (hmz x List.mem_cons_self)).1 (ih fun p hpz => hmz p (List.mem_cons_of_mem _ hpz))
      rw [← ze]
      exact this zo fun p hpz => zp.mem_iff.mp hpz
    refine ⟨.ref (s.heap.objs.size + 1), _, I.laid (t' := s.toks) (a := s.heap.objs.size + 1) (o := .lst ((zo.map Prod.snd).map Prod.fst)) (fun b o e => sortedAll_old e) (Nat.le_succ _) ?_, rfl, q (zo.map Prod.snd) ?_ ?_ _ fr⟩
    · have lo := hv.length
      have lp := hb.perm.length_eq
      exact ⟨by omega, out, e, hv, hat⟩
    · rw [← z2]
      exact zp.map _
    · rw [List.pairwise_map]
      have srt : zo.Pairwise fun p q => byFirst s.heap q.1 p.1 = false := by
        have hs' : out.Pairwise fun x y => byFirst s.heap y x = false := hsv0
        rw [← ze, List.pairwise_map] at hs'
        exact hs'
      have nd2 : (zo.map fun p => p.2.2.1).Nodup := (zp.map _).nodup_iff.mpr zn
      rw [List.Nodup, List.pairwise_map] at nd2
      refine (srt.and nd2).imp_of_mem ?_
      rintro p q' hp' hq' ⟨h1, h2⟩
      have b1 := fo p (zp.mem_iff.mp hp')
      have b2 := fo q' (zp.mem_iff.mp hq')
      unfold byFirst at h1
      rw [b1, b2] at h1
      have h1 := of_decide_eq_false h1
      rcases List.le_iff_lt_or_eq.mp (List.not_lt.mp h1) with z | z
      · exact z
      · exact (h2 (cps_inj _ _ z)).elim
/-! ### x in a tuple of data -/
def rInT (K : PySem.W.Frag) : R2 := fun x y H Q => ∃ d ds, L2.Dp K H x d ∧ L2.Dp K H y (.tuple ds) ∧ SeqAt.shaped d = true ∧ SeqAt.shaped (.tuple ds) = true ∧ Q (.bl (ds.any fun z => PyData.eqv z d)) H
theorem op_inT {X : Cx} (hu : X.A.units + 65 < cLine) : OpR X (compareOp .In) (rInT X.K) := by
  intro pins s σ H x y v u Q I rxz ryz h
  obtain ⟨d, ds, hdz, hez, sd, se, q⟩ := h
  obtain ⟨as, r1⟩ := Dp.reads I d x v hdz rxz
  obtain ⟨bs, r2⟩ := Dp.reads I (.tuple ds) y u hez ryz
  exact SeqAt.in_tuple_reads r2 r1 (SeqAt.canLay_of_shaped se) (SeqAt.canLay_of_shaped sd) (room_in_shaped sd hu) ⟨.bl _, H, I, rfl, q⟩
end GG

set_option maxHeartbeats 3999999
/-! sorted(xs, key=lambda pair: pair[0]) -/
namespace GG
open PySem PySem.Spec PyProof.Rows L2
/-- one call of the key -/
theorem key_turn {prog : Program} {w : World} {A : Around} {s : Shared} {E : Value → Shared → Prop} {f t c : Addr} {name qual x : Str} {params : Arguments} {scope : Scope} {cl : List (Str × Addr)} {pm ctv : Value} {j : Nat} {p1 cp pos : Pos} {itz : Array Value} {n : Str} {tk : Tok}
    (hfz : s.heap.get? f = some (PySem.W.kla_obj name qual params (.Subscript (.Name x p1) (.Constant (.int 0) j cp) pos) scope cl pm c ctv)) (hc : s.heap.CodeRec (.ref c) qual) (lim : s.heap.NoLimit) (dep : A.depth < recursionLimit)
    (bd : bindArgs (PySem.W.kla_fn name qual params (.Subscript (.Name x p1) (.Constant (.int 0) j cp) pos) scope cl pm (.ref c) ctv) ⟨[.ref t], []⟩ = pure [(x, .ref t)]) (lx : scope.names.lookup x = some .local)
    (k1 : scope.kind = .function) (k2 : scope.isCoroutine = false) (k3 : scope.isGenerator = false) (k4 : ∀ y ∈ scope.names, y.2 ≠ .cell) (ht : IsTup s.heap t itz) (h0 : itz[0]? = some (.str n tk)) (nd : (x == ("__debug__" : Str)) = false := by decide) :
    wpAny (model prog w) A (call (.ref f) [.ref t]) (PySem.W.KeyPure (.str n) s) E s := by
  refine wpAny_call ?_
  suffices h : codeAny (model prog w) A (.call (.ref f) ⟨[.ref t], []⟩) (fun r s' => ∃ u, r = .ok (.ret u) ∧ PySem.W.KeyPure (.str n) s u s') s by
    refine codeAny_mono h ?_
    rintro r s' ⟨u, rfl, q⟩
    exact q
  refine PySem.W.kla_callFunE dep hfz rfl k2 k3 rfl hc ?_
  rw [bd]
  refine wpAny_pure (wpAny_newFunctionEnv k4 ?_ (fun h₁ hns hsbz => ⟨lim.fresh _ hsbz, ?_⟩) k1)
  · intro y hy
    obtain rfl := List.mem_singleton.mp hy
    exact lx
  have kp : ∀ b o, s.heap.get? b = some o → h₁.get? b = some o := fun b o e => hsbz.extBut b o (Nat.ne_of_lt (Heap.lt_size e)) (Heap.get?_push_of_some _ e)
  refine PySem.W.kla_codeExpr (Subscript_ (wpAny_Name (wpAny_loadName_local k1 lx hns (v := .ref t) ?_ ?_) nd))
  · simp [List.lookup]
  refine wpAny_Constant_int ?_
  refine item_tuple (j := 0) (x := .str n tk) (ht.keeps kp) (by omega) (by omega) ?_ h0 ?_
  · have hzz : 0 < itz.size := by
      rcases Nat.lt_or_ge 0 itz.size with z | z
      · exact z
      · rw [Array.getElem?_eq_none (by omega)] at h0
        cases h0
    rw [seqIndex_of (Int.le_refl 0) (by omega)]
    rfl
  · exact ⟨_, rfl, h₁, _, rfl, kp, .str _ _⟩
/-- the lambda is made; what the tables are then -/
def Made (P : Addr) (q : Str) (H H1 : Hp) : Prop := H1 = H ∨ ∃ (ps more : Array Value) (c : Addr), H P = some (.tbl ps) ∧ H c = none ∧ H1 = upd (upd H P (.tbl (ps ++ more))) c (LamX.CodeO c q)
section
variable {X : Cx} {pins : List (Addr × Obj)} {σ : L2.St} {H : Hp} {s : Shared}
theorem lam_made {c P : Addr} {params : Arguments} {body : Expr} {scope : Scope} {pos : Pos} {Q E : Value → Shared → Prop} (I : Inv X pins σ H s) (tbz : LamX.TabB X.base X.mg c P) (hcode : X.env.code = .ref c) (ts : LamX.TabS H P (X.env.qual ++ "<lambda>"))
    (hdfz : defaultsOf params X.env = ([], [])) (free : ∀ y ∈ scope.names, y.2 = .free → ∃ c, X.env.cells.lookup y.1 = some c)
    (h : ∀ (f c1 : Addr) (pm ctv : Value) (H1 : Hp) (s1 : Shared), Inv X pins σ H1 s1 → Made P (X.env.qual ++ "<lambda>") H H1 → LamX.TabS H1 P (X.env.qual ++ "<lambda>") → s1.heap.CodeRec (.ref c1) (X.env.qual ++ "<lambda>") →
      s1.heap.get? f = some (PySem.W.kla_obj "<lambda>" (X.env.qual ++ "<lambda>") params body scope (cloFrom X.env.cells scope.names []) pm c1 ctv) → Q (.ref f) s1) :
    wpAny (model X.prog X.w) X.A (eval (.Lambda params body scope pos) X.env) Q E s := by
  obtain ⟨ps, hP, tr, am⟩ := ts
  refine PySem.W.kla_eval hdfz ?_
  have bP := tbz.bm.keeps I.bk
  have oP := I.hok P _ hP
  have rec_of : ∀ {c1 : Addr} {H1 : Hp} {s1 : Shared}, Inv X pins σ H1 s1 → H1 c1 = some (LamX.CodeO c1 (X.env.qual ++ "<lambda>")) → s1.heap.CodeRec (.ref c1) (X.env.qual ++ "<lambda>") := by
    intro c1 H1 s1 J e
    obtain ⟨⟨oc, vs, t, ez1, ez2, e3⟩, _⟩ := J.hok c1 _ e
    exact ⟨c1, oc, vs, t, rfl, ez1, ez2, e3⟩
  cases hc : codeAmong pos ps.toList with
  | some cv =>
    obtain ⟨c1, rfl, hco⟩ := am pos cv hc
    refine PySem.W.kla_makeFunctionHit (mg := X.mg) (c := c) (P := P) (ps := ps) (closure_ok free) I.ok.glob (I.mod.glob.keeps I.bk) hcode (tbz.code.keeps I.bk) oP tr hc bP ?_
    intro ctv h1 tk hxz hsz
    have J : Inv X pins σ H { s with heap := h1.push (PySem.W.kla_obj "<lambda>" (X.env.qual ++ "<lambda>") params body scope (cloFrom X.env.cells scope.names []) ((X.mg "__name__").getD .none) c1 ctv), toks := tk } :=
      I.kept fun b o e => Heap.get?_push_of_some _ (hxz b o e)
    exact h _ c1 _ ctv H _ J (.inl rfl) ⟨ps, hP, tr, am⟩ (rec_of J hco) (Heap.get?_push_size _ rfl)
  | none =>
    refine PySem.W.kla_makeFunction (mg := X.mg) (c := c) (P := P) (ps := ps) (closure_ok free) I.ok.glob (I.mod.glob.keeps I.bk) hcode (tbz.code.keeps I.bk) oP tr hc tbz.gP bP ?_
    rintro c1 ctv h1 tk hxz hge hlt ⟨c2, oc, vs, t, ez2, hocz, hdz, hv⟩ htb
    obtain rfl := Value.ref.inj ez2
    have nC : H c1 = none := I.hok.fresh hge
    have nPc : P ≠ c1 := ne_of_none hP nC
    have J := LamX.inv_table (t' := tk) (q := X.env.qual ++ "<lambda>") (more := #[rawInt pos.line, rawInt pos.col, .ref c1]) (h' := h1.push (PySem.W.kla_obj "<lambda>" (X.env.qual ++ "<lambda>") params body scope (cloFrom X.env.cells scope.names []) ((X.mg "__name__").getD .none) c1 ctv)) I hP
      (fun b o hb e => Heap.get?_push_of_some _ (hxz b o hb e)) (Heap.get?_push_of_some _ htb) hge ⟨oc, vs, t, Heap.get?_push_of_some _ hocz, hdz, hv⟩
    have eL : (ps ++ #[rawInt pos.line, rawInt pos.col, .ref c1]).toList = ps.toList ++ [rawInt pos.line, rawInt pos.col, .ref c1] := by simp
    refine h _ c1 _ ctv _ _ J (.inr ⟨ps, _, c1, hP, nC, rfl⟩) ?_ (rec_of J upd_same) (Heap.get?_push_size _ rfl)
    refine ⟨_, by rw [upd_ne nPc, upd_same], by rw [eL]; exact PySem.TriplesOk_snoc _ _ _ _ tr, fun p' cv hcv => ?_⟩
    rw [eL] at hcv
    rcases LamX.among_app _ tr hcv with z | rfl
    · obtain ⟨c0, ez1, e3⟩ := am p' cv z
      exact ⟨c0, ez1, by rw [upd_ne (ne_of_none e3 nC), upd_ne (ne_of e3 hP (LamX.codeO_ne _))]; exact e3⟩
    · exact ⟨c1, rfl, upd_same⟩
end

/-- the first text of a tuple -/
def firstD : PyData → PyData
  | .tuple (.str n :: _) => .str n
  | _ => .none
def sortKZ (us : List V) (ds : List PyData) : List (V × PyData) := (us.zip ds).mergeSort (PySem.W.dataLe false fun p => firstD p.2)
theorem sortKZ_len {us : List V} {ds : List PyData} (h : us.length = ds.length) : (sortKZ us ds).length = us.length := by
  unfold sortKZ
  rw [List.length_mergeSort, List.length_zip, h, Nat.min_self]
def IsNamed (d : PyData) : Prop := ∃ n r, d = .tuple (.str n :: r)
theorem each_both {h : Heap} : ∀ {us : List V} {ds : List PyData} {vs : List Value} {as : List Addr}, Vals us vs → ReadsAll h vs ds as →
    PySem.W.EachIs (fun (v : Value) (p : V × PyData) => RelV p.1 v ∧ ∃ as, Reads h v p.2 as) vs (us.zip ds)
  | _, _, _, _, .nil, .nil => .nil
  | _, _, _, _, .cons r rs, .cons q qs => .cons ⟨r, _, q⟩ (each_both rs qs)
theorem each_fst {h : Heap} : ∀ {vs : List Value} {zs : List (V × PyData)}, PySem.W.EachIs (fun (v : Value) (p : V × PyData) => RelV p.1 v ∧ ∃ as, Reads h v p.2 as) vs zs → Vals (zs.map Prod.fst) vs
  | _, _, .nil => .nil
  | _, _, .cons r rs => .cons r.1 (each_fst rs)
def tSortK (K : PySem.W.Frag) (P : Addr) (q : Str) (te : TE) : TE := fun σ H Q => te σ H fun x H1 => LamX.TabS H1 P q ∧ ∃ (a : Addr) (us : List V) (ds : List PyData), x = .ref a ∧ SqL K H1 a us ∧ L2.DpAll K H1 us ds ∧ (∀ d ∈ ds, IsNamed d) ∧
  ∀ H2 p, Made P q H1 H2 → LamX.TabS H2 P q → H2 p = none → Q (.ref p) (upd H2 p (.lst ((sortKZ us ds).map Prod.fst)))
theorem Made.same {P : Addr} {q : Str} {H H1 : Hp} (m : Made P q H H1) {b : Addr} {o : HO} (e : H b = some o) (n : ∀ ps, o ≠ .tbl ps) : H1 b = some o := by
  rcases m with rfl | ⟨ps, more, c, hP, nC, rfl⟩
  · exact e
  · rw [upd_ne (ne_of_none e nC), upd_ne (ne_of e hP (n ps))]
    exact e
theorem Made.list {P : Addr} {q : Str} {H H1 : Hp} (m : Made P q H H1) {K : PySem.W.Frag} {a : Addr} {us : List V} (h : SqL K H a us) : SqL K H1 a us := by
  rcases h with (h | ⟨o, h⟩) | h
  · exact .inl (.inl (m.same h (by intro _ z; cases z)))
  · exact .inl (.inr ⟨o, m.same h (by intro _ z; cases z)⟩)
  · exact .inr h
theorem Made.tupq {P : Addr} {q : Str} {H H1 : Hp} (m : Made P q H H1) {K : PySem.W.Frag} {a : Addr} {us : List V} (h : SqT K H a us) : SqT K H1 a us := by
  rcases h with (h | ⟨o, h⟩) | h
  · exact .inl (.inl (m.same h (by intro _ z; cases z)))
  · exact .inl (.inr ⟨o, m.same h (by intro _ z; cases z)⟩)
  · exact .inr h
mutual
theorem Made.data {P : Addr} {q : Str} {H H1 : Hp} (m : Made P q H H1) {K : PySem.W.Frag} : ∀ (d : PyData) (v : V), L2.Dp K H v d → L2.Dp K H1 v d
  | .none, _, h => by cases h; exact .non
  | .bool _, _, h => by cases h; exact .bl _
  | .int _, _, h => by cases h; exact .int _
  | .str _, _, h => by cases h; exact .str _
  | .list ds, _, h => by
    cases h with
    | lst hsv0 haz => exact .lst (m.list hsv0) (Made.datas m ds _ haz)
  | .tuple ds, _, h => by
    cases h with
    | tup hsv0 haz => exact .tup (m.tupq hsv0) (Made.datas m ds _ haz)
  | .dict _, _, h => by cases h
theorem Made.datas {P : Addr} {q : Str} {H H1 : Hp} (m : Made P q H H1) {K : PySem.W.Frag} : ∀ (ds : List PyData) (vs : List V), L2.DpAll K H vs ds → L2.DpAll K H1 vs ds
  | [], _, h => by cases h; exact .nil
  | d :: ds, _, h => by
    cases h with
    | cons h1 h2 => exact .cons (Made.data m d _ h1) (Made.datas m ds _ h2)
end
theorem pe_sortK {X : Cx} {k : Nat} {c P : Addr} {params : Arguments} {scope : Scope} {x : Str} {e : Expr} {te : TE} {j : Nat} {p1 cp bp lp kp np pos : Pos} (rm : Rm k X.A) (tbz : LamX.TabB X.base X.mg c P) (hcode : X.env.code = .ref c)
    (hgz : Gl X "sorted") (hmz : X.mg "sorted" = none) (haz : PA X [e] (tCons te tNil))
    (hdfz : defaultsOf params X.env = ([], []))
    (bd : ∀ (cl : List (Str × Addr)) (pm ctv : Value) (c1 t : Addr), bindArgs (PySem.W.kla_fn "<lambda>" (X.env.qual ++ "<lambda>") params (.Subscript (.Name x p1) (.Constant (.int 0) j cp) bp) scope cl pm (.ref c1) ctv) ⟨[.ref t], []⟩ = pure [(x, .ref t)])
    (lx : scope.names = [(x, .local)]) (k1 : scope.kind = .function) (k2 : scope.isCoroutine = false) (k3 : scope.isGenerator = false) (nd : (x == ("__debug__" : Str)) = false := by decide)
    (hsv0 : backTo pos (starEach [e] X.env) = (false, eval e X.env) :: backTo pos (starEach [] X.env) := by rfl) (hpl : (backTo pos (starEach [e] X.env)).any (·.1) = false := by rfl) :
    PE X (.Call (.Name "sorted" np) [e] [⟨some "key", .Lambda params (.Subscript (.Name x p1) (.Constant (.int 0) j cp) bp) scope lp, kp⟩] pos) (tSortK X.K P (X.env.qual ++ "<lambda>") te) := by
  refine ⟨fun pins s σ H Q I h => ?_⟩
  refine wpAny_Call_Name_kw (ld_blt I hgz hmz (u := .builtin "sorted") (by rfl) ?_)
  refine PyProof.Rows.callWith_kw (thn (haz.run pos pins s σ H (fun vs H1 => match vs with
    | [x] => LamX.TabS H1 P (X.env.qual ++ "<lambda>") ∧ ∃ (a : Addr) (us : List V) (ds : List PyData), x = .ref a ∧ SqL X.K H1 a us ∧ L2.DpAll X.K H1 us ds ∧ (∀ d ∈ ds, IsNamed d) ∧
    ∀ H2 p, Made P (X.env.qual ++ "<lambda>") H1 H2 → LamX.TabS H2 P (X.env.qual ++ "<lambda>") → H2 p = none → Q (.ref p) (upd H2 p (.lst ((sortKZ us ds).map Prod.fst)))
    | _ => False) I h) ?_) hsv0 hpl
  rintro vs1 s1 ⟨vs, H1, Iz1, r1, qq⟩
  match vs, qq, r1 with
  | [], qq, _ => exact qq.elim
  | _ :: _ :: _, qq, _ => exact qq.elim
  | [v], qq, r1 =>
  obtain ⟨ts, a, us, ds, rfl, hlz0, hdz, nm, q⟩ := qq
  obtain ⟨u, rfl, ru⟩ := vals1 r1
  obtain rfl : u = Value.ref a := ru
  have lxn : scope.names.lookup x = some .local := by rw [lx]; simp [List.lookup]
  refine wpAny_evalAll_cons (wpAny_bind (lam_made Iz1 tbz hcode ts hdfz (by rw [lx]; intro y hy; obtain rfl := List.mem_singleton.mp hy; intro z; cases z) ?_))
  intro f c1 pm ctv H2 s2 Iz2 md ts2 rec hfz
  refine wpAny_bind (wpAny_standAt (wpAny_pure (wpAny_evalAll_nil ?_)))
  obtain ⟨itz, rvz, plz, hzz⟩ := Iz2.list (md.list hlz0)
  obtain ⟨as, ra⟩ := dp_readsAll Iz2 (md.datas _ _ hdz) rvz
  have hlz := dpAll_length hdz
  have zs := zip_snd hlz
  have key_is : ∀ d, IsNamed d → ∃ n, firstD d = .str n := by
    rintro d ⟨n, r, rfl⟩
    exact ⟨n, rfl⟩
  have named : ∀ p ∈ us.zip ds, IsNamed p.2 := fun p hpz => nm p.2 (zs ▸ List.mem_map_of_mem hpz)
  refine PySem.W.sorted_key_data (b := false) (fun p : V × PyData => firstD p.2) plz.isList (each_both rvz ra) ?_ ?_ ?_ ?_ (ksk_s1 _ _) (fun _ => ksk_l1 _ _) (fun _ => ksk_t1 _ _) ?_ ?_
  · intro d hd1 d' hd2
    obtain ⟨p, hpz, rfl⟩ := List.mem_map.mp hd1
    obtain ⟨p', hp', rfl⟩ := List.mem_map.mp hd2
    obtain ⟨n, e⟩ := key_is _ (named p hpz)
    obtain ⟨n', e'⟩ := key_is _ (named p' hp')
    rw [e, e']
    simp [PySem.W.alike]
  · refine .inr fun d hd1 => ?_
    obtain ⟨p, hpz, rfl⟩ := List.mem_map.mp hd1
    obtain ⟨n, e⟩ := key_is _ (named p hpz)
    rw [e]
    exact ⟨(fun z => by cases z), (fun xs z => by cases z)⟩
  · rw [List.length_zip, hlz, Nat.min_self, ← hlz]
    exact hzz
  · intro p hpz
    obtain ⟨n, e⟩ := key_is _ (named p hpz)
    rw [e]
    have := rm.room.un
    simp only [PyData.depth]
    omega
  · rintro v p ⟨r, as, rd⟩ hpz h tk kp'
    obtain ⟨n, r', ep⟩ := named p hpz
    rw [ep] at rd ⊢
    cases rd with
    | tuple ez1 ez2 e3 e4 =>
      rename_i t o vs m
      cases hv : vs.toList with
      | nil =>
        rw [hv] at e4
        cases e4
      | cons v0 rest =>
        rw [hv] at e4
        cases e4 with
        | cons f1 f2 =>
          cases f1 with
          | str x tk' =>
            have h0 : vs[0]? = some (.str n tk') := by
              rw [← Array.getElem?_toList, hv]
              rfl
            obtain ⟨c0, oc, cs, tq, g1, g2, g3, g4⟩ := rec
            obtain rfl := Value.ref.inj g1
            exact key_turn (s := { s2 with heap := h, toks := tk }) (kp' _ _ hfz) ⟨c1, oc, cs, tq, rfl, kp' _ _ g2, g3, g4⟩ (Iz2.nolimit.keeps kp') rm.room.depth (bd _ _ _ _ _) lxn k1 k2 k3
              (by rw [lx]; intro y hy; obtain rfl := List.mem_singleton.mp hy; intro z; cases z) ⟨o, kp' _ _ ez1, ez2, m, e3⟩ h0 nd
  · intro out c' h' tk oldz fr hat hol he'
    have nw : H2 (s2.heap.objs.size + 1) = none := Iz2.hok.fresh (Nat.le_succ _)
    refine ⟨.ref (s2.heap.objs.size + 1), _, Iz2.laid (t' := tk) (a := s2.heap.objs.size + 1) (o := .lst ((sortKZ us ds).map Prod.fst)) (fun b o e => oldz b o e) (Nat.le_succ _) ?_, rfl, q _ _ md ts2 nw⟩
    refine ⟨?_, out, c', each_fst he', hat⟩
    rw [List.length_map, sortKZ_len hlz]
    exact hzz
end GG

set_option maxHeartbeats 3999999
/-! for i, x in enumerate(t), t a tuple -/
namespace PySem
set_option maxHeartbeats 1000000 in
theorem enum_new1 {v : Value} {o : Obj} {H : Heap → Prop} (B : Begins v o H) :
    Meets (Builtin.«enumerate.__new__» ⟨[.type "enumerate", v], []⟩) (fun _ R s => H s.heap ∧
      R (.ok (.ret (.ref (s.heap.push o).objs.size))) { s with heap := (s.heap.push o).push { cls := .type "enumerate", data := .fields #[.none, .bool false, .ref s.heap.objs.size, rawInt 0, .none, .none] } }) :=
  .of_wp fun prog w A R s h => by
    obtain ⟨hpz, g, d, tk, os⟩ := s
    obtain ⟨h1, h⟩ := h
    have hsub := sub_enumerate
    have it1 : ∀ {A' : Around} {E : Value → Shared → Prop} {Q : Value → Shared → Prop}, Q (.ref hpz.objs.size) ⟨hpz.push o, g, d, tk, os⟩ → wpAny (model prog w) A' (pyIter v) Q E ⟨hpz, g, d, tk, os⟩ := fun q => B.iter prog w _ _ ⟨hpz, g, d, tk, os⟩ _ h1 q
    wp_walk using it1
    refine wpAny_stack_any fun st => wpAny_pure ?_
    split
    · rename_i c _ _ _ _ _
      cases (c == Value.type "enumerate") <;> (wp_walk using it1; exact ⟨_, rfl, h⟩)
    · wp_walk using it1
      exact ⟨_, rfl, h⟩
end PySem
namespace GG
open PySem PySem.Spec PyProof.Rows L2
theorem call_enum1 {prog : Program} {w : World} {A : Around} {E : Value → Shared → Prop} {s : Shared} {v : Value} {o : Obj} {H : Heap → Prop} {Q : Value → Shared → Prop} (B : Begins v o H) (h1 : H s.heap)
    (h : ∀ h', IsEnum h' (s.heap.objs.size + 1) s.heap.objs.size 0 .none → h'.get? s.heap.objs.size = some o → (∀ b o, s.heap.get? b = some o → h'.get? b = some o) → Q (.ref (s.heap.objs.size + 1)) { s with heap := h' }) :
    wpAny (model prog w) A (call (.type "enumerate") [v]) Q E s := by
  refine callType_new F.called_enumerate (by decide) (F.typeCall_enumerate_1 _) (F.newCall_enumerate_1 _) (fun obj => F.args_object_init_2 obj _) F.entry_enumerate_new (enum_new1 B) ⟨h1, ?_⟩
  have hzz : (s.heap.push o).objs.size = s.heap.objs.size + 1 := Heap.size_push ..
  show _ ∧ _
  rw [hzz]
  have hez : IsEnum ((s.heap.push o).push { cls := .type "enumerate", data := .fields #[.none, .bool false, .ref s.heap.objs.size, rawInt 0, .none, .none] }) (s.heap.objs.size + 1) s.heap.objs.size 0 .none := by
    have q := Heap.get?_push_size (s.heap.push o) (o := { cls := .type "enumerate", data := .fields #[.none, .bool false, .ref s.heap.objs.size, rawInt 0, .none, .none] }) rfl
    rw [hzz] at q
    exact q
  exact ⟨⟨_, hez, rfl⟩, h _ hez (Heap.get?_push_of_some _ (Heap.get?_push_size _ B.free)) fun b o x => Heap.get?_push_of_some _ (Heap.get?_push_of_some _ x)⟩
/-- the tuple at a, each item in a new pair -/
def IteT (K : PySem.W.Frag) (a : Addr) : It where
  go := fun i H => ∃ (xs : List V) (x : V), SqT K H a xs ∧ xs[i]? = some x
  yld := fun i H v H' => ∃ T x, v = .ref T ∧ H T = none ∧ H' = upd H T (.tup [.int (i : Nat), x]) ∧ ∀ xs, SqT K H a xs → xs[i]? = some x
  stop := fun i H => ∃ xs : List V, SqT K H a xs ∧ xs.length = i
theorem apart {h : Heap} {e it a : Addr} {i : Int} {oldz : Value} {j : Nat} {itz : Array Value} (hez : IsEnum h e it i oldz) (hi : h.IsTupleIter it a j) (ht : h.IsTuple a itz) : a ≠ it ∧ e ≠ a := by
  obtain ⟨o1, q1, c1, _⟩ := hi
  obtain ⟨o2, q2, c2, _⟩ := ht
  refine ⟨fun z => ?_, fun z => ?_⟩
  · subst z
    rw [q1] at q2
    obtain rfl := Option.some.inj q2
    rw [c1] at c2
    injection c2 with c2
    exact absurd c2 (by decide)
  · subst z
    unfold IsEnum at hez
    rw [hez] at q2
    obtain rfl := Option.some.inj q2
    injection c2 with c2
    exact absurd c2 (by decide)
theorem turn_enumT {P : Program} {w : World} {K : PySem.W.Frag} {elts : List Expr} {kk : Nat} {tpos : Pos} (a e it : Addr) :
    Turn P w K (.Tuple elts kk tpos) (IteT K a) [e, it] e (fun i h => (∃ oldz, IsEnum h e it ((i : Nat) : Int) oldz) ∧ h.IsTupleIter it a i ∧ e ≠ it) where
  mem := by simp
  obj := fun i h st b hb => by
    obtain ⟨⟨oldz, hez⟩, ⟨o, hoz, hc, hdz⟩, _⟩ := st
    have hb' : b = e ∨ b = it := by simpa using hb
    rcases hb' with rfl | rfl
    · exact ⟨_, hez, fun v q => nomatch q⟩
    · exact ⟨o, hoz, fun v q => by rw [hdz] at q; cases q⟩
  keep := fun i h h' st k => by
    obtain ⟨⟨oldz, hez⟩, hi, hne⟩ := st
    exact ⟨⟨oldz, k e (by simp) _ hez⟩, hi.at fun o q => k it (by simp) o q, hne⟩
  item := by
    intro X hP hw hK hc i pins s σ H E I hfz st hgz
    subst hP hw hK
    obtain ⟨⟨oldz, hez⟩, hitz, hne⟩ := st
    obtain ⟨xs, x, hqz, hxz⟩ := hgz
    obtain ⟨itz, rvz, p, hzz⟩ := I.tuple hqz
    obtain ⟨u, hu, ru⟩ := rvz.get hxz
    have hel : e < s.heap.objs.size := Heap.lt_size hez
    have hil : it < s.heap.objs.size := by
      obtain ⟨_, q, _⟩ := hitz
      exact Heap.lt_size q
    have ht : s.heap.IsTuple a itz.toArray := p
    obtain ⟨n1, n2⟩ := apart hez hitz ht
    have hiz : i < itz.toArray.size := by
      have := (List.getElem?_eq_some_iff.mp hu).1
      simpa using this
    have D := Draws.tuple (prog := X.prog) (w := X.w) (A := X.A.in1) (I.ok.hd hc) it a n1 itz.toArray
    refine wpAny_pyNext_enum_itemD D hez ⟨hitz, ht⟩ hiz hne (by simp [n2, hne]) fun y h' tk py hoz st' hT hsz hk => ?_
    have ey : y = u := by
      have ez1 : itz[i]? = some y := by simpa using py
      rw [hu] at ez1
      exact (Option.some.inj ez1).symm
    subst ey
    refine ⟨_, rfl, wpAny_letOwnedTupleGo_enum (s := { s with heap := h', toks := tk + 1 }) hoz fun h'' he' sb => ?_⟩
    have hT2 : h''.get? s.heap.objs.size = some { cls := .type "tuple", data := .seq #[.int i tk, y] } := (sb.2 _ (Nat.ne_of_gt hel)).trans hT
    have new : ObjOk X.prog X.w (upd H s.heap.objs.size (.tup [.int (i : Nat), x])) h'' s.heap.objs.size (.tup [.int (i : Nat), x]) :=
      ⟨by show 2 ≤ sizeLine; decide, [.int i tk, y], .cons ⟨_, rfl⟩ (.cons ru .nil), ⟨_, hT2, rfl, _, rfl⟩⟩
    have Iz1 : Inv X pins σ (upd H s.heap.objs.size (.tup [.int (i : Nat), x])) { s with heap := h'', toks := tk + 1 } :=
      I.turnedNew (ch := [e, it]) (fun b ob hb q => (sb.2 b (fun z => hb (by simp [z]))).trans (hk b ob (fun z => hb (by simp [z])) (fun z => hb (by simp [z])) q)) hfz (Nat.le_refl _) new
    refine ⟨.ref s.heap.objs.size, _, Iz1, rfl, ⟨_, x, rfl, I.hok.fresh (Nat.le_refl _), rfl, fun ys hy => by rw [I.tuple_inj hy hqz]; exact hxz⟩, ⟨⟨y, ?_⟩, st'.1.at fun o q => (sb.2 it (Ne.symm hne)).trans q, hne⟩, fun b hb => ?_⟩
    · rw [show ((i + 1 : Nat) : Int) = (i : Int) + 1 by omega]
      exact he'
    · have hb' : b < s.heap.objs.size := by
        have q : b = e ∨ b = it := by simpa using hb
        rcases q with rfl | rfl
        · exact hel
        · exact hil
      rw [upd_ne (Nat.ne_of_lt hb')]
      exact (hfz b hb).1
  done := by
    intro X hP hw hK hc i pins s σ H E I hfz st hgz
    subst hP hw hK
    obtain ⟨⟨oldz, hez⟩, hitz, hne⟩ := st
    obtain ⟨xs, hqz, hxz⟩ := hgz
    obtain ⟨itz, rvz, p, hzz⟩ := I.tuple hqz
    obtain ⟨f0, f1, f2, f3, f4, f5⟩ := hfz it (by simp)
    have hlz0 := rvz.length
    have ht : s.heap.IsTuple a itz.toArray := p
    obtain ⟨n1, n2⟩ := apart hez hitz ht
    have D := Draws.tuple (prog := X.prog) (w := X.w) (A := X.A.in1) (I.ok.hd hc) it a n1 itz.toArray
    have ez : i = itz.toArray.size := by
      rw [List.size_toArray, ← hlz0, hxz]
    rw [ez] at hez hitz
    exact wpAny_pyNext_enum_endD D hez ⟨hitz, ht⟩ fun h' eb => ⟨rfl, I.turned (t' := s.toks) (fun b o hb e => eb b o hb e) f0 f1 f3 f4 f5⟩
  self := fun A i s Q E st h => by
    obtain ⟨⟨_, hez⟩, _⟩ := st
    exact wpAny_pyIter_enum hez h
def iEnumT (K : PySem.W.Frag) (ta : TA) : TI := fun σ H R => ta σ H fun vs H1 => ∃ a xs, vs = [.ref a] ∧ SqT K H1 a xs ∧ R (IteT K a) H1
theorem walk_enumT {K : PySem.W.Frag} {a : Addr} {xs : List V} : Walk (IteT K a) xs.length (fun H => SqT K H a xs) (YPair (fun i => some (.int (i : Nat))) (fun i => xs[i]?)) where
  goes := fun i H hi h => ⟨xs, xs[i], h, List.getElem?_eq_getElem hi⟩
  stops := fun H h => ⟨xs, h, rfl⟩
  yields := fun i H x H' hi h y => by
    obtain ⟨T, x, ez1, ez2, e3, e4⟩ := y
    exact ⟨T, _, x, ez1, ez2, e3, rfl, e4 xs h⟩
theorem pi_enumT {X : Cx} {e : Expr} {ta : TA} {p pos tpos : Pos} {elts : List Expr} {kk : Nat} (hgz : Gl X "enumerate") (hmz : X.mg "enumerate" = none) (haz : PA X [e] ta) (hsv0 : starEach [e] X.env = [(false, eval e X.env)] := by rfl) :
    PI X (.Tuple elts kk tpos) (.Call (.Name "enumerate" p) [e] [] pos) (iEnumT X.K ta) := by
  refine ⟨fun pins s σ H R I h => ?_⟩
  refine Call_ (ld_blt I hgz hmz boot_enumerate (PyProof.Rows.callWith_type1 (thn (haz.run pos pins s σ H _ I h) fun us s1 ⟨vs, H1, Iz1, r1, q1⟩ => ?_) hsv0 rfl))
  obtain ⟨a, xs, rfl, hqz, q⟩ := q1
  obtain ⟨u, rfl, ru⟩ := vals1 r1
  obtain rfl : u = Value.ref a := ru
  obtain ⟨itz, rvz, p', hzz⟩ := Iz1.tuple hqz
  have ht : s1.heap.IsTuple a itz.toArray := p'
  refine call_enum1 (begins_tuple a itz.toArray) ht fun h' hez hoz hk => wpAny_pyIter_enum hez ?_
  have Iz2 : Inv X pins σ H1 { s1 with heap := h' } := Iz1.kept (t' := s1.toks) hk
  refine ⟨s1.heap.objs.size + 1, [s1.heap.objs.size + 1, s1.heap.objs.size], _, _, H1, rfl, Iz2, turn_enumT a (s1.heap.objs.size + 1) s1.heap.objs.size, ⟨⟨.none, hez⟩, ⟨_, hoz, rfl, rfl⟩, Nat.succ_ne_self _⟩, fun b hb => ?_, q⟩
  have hb' : b = s1.heap.objs.size + 1 ∨ b = s1.heap.objs.size := by simpa using hb
  have hle : s1.heap.objs.size ≤ b := by
    rcases hb' with rfl | rfl
    · exact Nat.le_add_right _ _
    · exact Nat.le_refl _
  exact Iz1.fpOk hle (Iz1.hok.fresh hle)
end GG

set_option maxHeartbeats 3999999
/-! zip of a list and a tuple; dict(enumerate(t)) -/
namespace GG
open PySem PySem.Spec PyProof.Rows L2
/-- the list at a beside the tuple at c, in new pairs -/
def ItzLT (K : PySem.W.Frag) (a c : Addr) : It where
  go := fun i H => ∃ (xs ys : List V) (x y : V), SqL K H a xs ∧ SqT K H c ys ∧ xs[i]? = some x ∧ ys[i]? = some y
  yld := fun i H v H' => ∃ T x y, v = .ref T ∧ H T = none ∧ H' = upd H T (.tup [x, y]) ∧ (∀ xs, SqL K H a xs → xs[i]? = some x) ∧ ∀ ys, SqT K H c ys → ys[i]? = some y
  stop := fun i H => ∃ xs ys : List V, SqL K H a xs ∧ SqT K H c ys ∧ i = min xs.length ys.length
abbrev five (z TI TO i1 i2 : Addr) : List Addr := [z, TI, TO, i1, i2]
theorem mem_five {z TI TO i1 i2 m : Addr} (h : m ∈ five z TI TO i1 i2) : m = z ∨ m = TI ∨ m = TO ∨ m = i1 ∨ m = i2 := by simpa using h
theorem out_five {z TI TO i1 i2 m : Addr} (h : m ∉ five z TI TO i1 i2) : m ≠ z ∧ m ≠ TI ∧ m ≠ TO ∧ m ≠ i1 ∧ m ≠ i2 := by simpa using h
/-- an iterator is no tuple, no list, no zip .. : told by the class -/
theorem cls_apart {h : Heap} {a c : Addr} {o u : Obj} {T U : String} (ez1 : h.get? a = some o) (c1 : o.cls = .type T) (ez2 : h.get? c = some u) (c2 : u.cls = .type U) (d : T ≠ U) : a ≠ c := by
  rintro rfl
  rw [ez1] at ez2
  obtain rfl := Option.some.inj ez2
  rw [c1] at c2
  injection c2 with c2
  exact d c2
theorem turn_zipLT {P : Program} {w : World} {K : PySem.W.Frag} {elts : List Expr} {kk : Nat} {tpos : Pos} {a c z TI TO i1 i2 : Addr} (S : ZipSep2 z TI TO i1 i2 [i1, a] [i2, c]) :
    Turn P w K (.Tuple elts kk tpos) (ItzLT K a c) (five z TI TO i1 i2) z (fun i h => IsZip h z TI TO .none ∧ IsTupOf2 h TI (.ref i1) (.ref i2) ∧ (∃ p q, IsTupOf2 h TO p q) ∧ h.IsListIter i1 a i ∧ h.IsTupleIter i2 c i) where
  mem := by simp
  obj := fun i h st m hmz => by
    obtain ⟨g1, g2, ⟨p, q, g3⟩, ⟨o1, ez1, _, d1⟩, ⟨o2, ez2, _, d2⟩⟩ := st
    rcases mem_five hmz with j | j | j | j | j <;> subst j
    · exact ⟨_, g1, nofun⟩
    · exact ⟨_, g2, nofun⟩
    · exact ⟨_, g3, nofun⟩
    · refine ⟨o1, ez1, fun v j => ?_⟩
      rw [d1] at j
      cases j
    · refine ⟨o2, ez2, fun v j => ?_⟩
      rw [d2] at j
      cases j
  keep := fun i h h' st k => by
    obtain ⟨g1, g2, ⟨p, q, g3⟩, j1, j2⟩ := st
    have kz := k z (by simp)
    have kI := k TI (by simp)
    have kO := k TO (by simp)
    exact ⟨kz _ g1, kI _ g2, ⟨p, q, kO _ g3⟩, j1.at (fun o => k i1 (by simp) o), j2.at (fun o => k i2 (by simp) o)⟩
  item := by
    intro X hP hw hK hc i pins s σ H E I hfz st hgz
    subst hP hw hK
    obtain ⟨g1, g2, ⟨p0, q0, g3⟩, j1, j2⟩ := st
    obtain ⟨xs, ys, x, y, hxz, hy, ex, ey⟩ := hgz
    obtain ⟨itz, rvz, plz, _⟩ := I.list hxz
    obtain ⟨itz2, rv2, pt, _⟩ := I.tuple hy
    obtain ⟨u, hu, ru⟩ := rvz.get ex
    obtain ⟨u2, hu2, ru2⟩ := rv2.get ey
    have lz : z < s.heap.objs.size := Heap.lt_size g1
    have hD := I.ok.hd hc
    have D1 := Draws.list (prog := X.prog) (w := X.w) (A := X.A.in1) hD i1 a (fun q => by
      have := S.sep1_2
      obtain ⟨o1, ez1, c1, _⟩ := id j1
      obtain ⟨o2, n2, ez2, c2, _⟩ := id plz
      exact cls_apart ez2 c2 ez1 c1 (by decide) q) itz.toArray
    have D2 := Draws.tuple (prog := X.prog) (w := X.w) (A := X.A.in1) hD i2 c (fun q => by
      obtain ⟨o1, ez1, c1, _⟩ := id j2
      obtain ⟨o2, ez2, c2, _⟩ := id (show s.heap.IsTuple c itz2.toArray from pt)
      exact cls_apart ez2 c2 ez1 c1 (by decide) q) itz2.toArray
    have b1 : i < itz.toArray.size := by simpa using (List.getElem?_eq_some_iff.mp hu).1
    have b2 : i < itz2.toArray.size := by simpa using (List.getElem?_eq_some_iff.mp hu2).1
    refine wpAny_pyNext_zipD2_item S D1 D2 g1 g2 g3 ⟨j1, plz.isList⟩ ⟨j2, pt⟩ b1 b2 fun v1 v2 h' tk w1 w2 k1 k2 s1 s2 hT hsz hk => ?_
    obtain rfl : v1 = u := by
      have e := (show itz[i]? = some v1 by simpa using w1)
      rw [hu] at e
      exact (Option.some.inj e).symm
    obtain rfl : v2 = u2 := by
      have e := (show itz2[i]? = some v2 by simpa using w2)
      rw [hu2] at e
      exact (Option.some.inj e).symm
    refine ⟨_, rfl, wpAny_letOwnedTupleGo_zip (s := { s with heap := h', toks := tk }) k1 fun h'' k1' sb => ?_⟩
    have hT2 : h''.get? s.heap.objs.size = some { cls := .type "tuple", data := .seq #[v1, v2] } := (sb.2 _ (Nat.ne_of_gt lz)).trans hT
    have new : ObjOk X.prog X.w (upd H s.heap.objs.size (.tup [x, y])) h'' s.heap.objs.size (.tup [x, y]) :=
      ⟨(by decide : 2 ≤ sizeLine), _, .cons ru (.cons ru2 .nil), _, hT2, rfl, _, rfl⟩
    have Iz1 : Inv X pins σ (upd H s.heap.objs.size (.tup [x, y])) { s with heap := h'', toks := tk } := by
      refine I.turnedNew (ch := five z TI TO i1 i2) (fun m o hmz q => ?_) hfz (Nat.le_refl _) new
      obtain ⟨n1, n2, n3, n4, n5⟩ := out_five hmz
      exact (sb.2 m n1).trans (hk m o n1 n3 n4 n5 q)
    refine ⟨.ref s.heap.objs.size, _, Iz1, rfl, ⟨_, x, y, rfl, I.hok.fresh (Nat.le_refl _), rfl, fun l hlz0 => ?_, fun l hlz0 => ?_⟩, ⟨k1', ?_, ⟨v1, v2, ?_⟩, ?_, ?_⟩, fun m hmz => ?_⟩
    · rw [I.list_inj hlz0 hxz]
      exact ex
    · rw [I.tuple_inj hlz0 hy]
      exact ey
    · exact (sb.2 _ S.TIz).trans (hk _ _ S.TIz S.TITO S.TIi1 S.TIi2 g2)
    · exact (sb.2 _ S.TOz).trans k2
    · exact s1.1.at fun o q => (sb.2 _ S.zi1.symm).trans q
    · exact s2.1.at fun o q => (sb.2 _ S.zi2.symm).trans q
    · have lt : m < s.heap.objs.size := by
        obtain ⟨_, f1, _⟩ := j1
        obtain ⟨_, f2, _⟩ := j2
        rcases mem_five hmz with j | j | j | j | j <;> subst j
        · exact lz
        · exact Heap.lt_size g2
        · exact Heap.lt_size g3
        · exact Heap.lt_size f1
        · exact Heap.lt_size f2
      rw [upd_ne (Nat.ne_of_lt lt)]
      exact (hfz m hmz).1
  done := by
    intro X hP hw hK hc i pins s σ H E I hfz st hgz
    subst hP hw hK
    obtain ⟨g1, g2, ⟨p0, q0, g3⟩, j1, j2⟩ := st
    obtain ⟨xs, ys, hxz, hy, hi⟩ := hgz
    obtain ⟨itz, rvz, plz, _⟩ := I.list hxz
    obtain ⟨itz2, rv2, pt, _⟩ := I.tuple hy
    have l1 := rvz.length
    have l2 := rv2.length
    have hD := I.ok.hd hc
    have D1 := Draws.list (prog := X.prog) (w := X.w) (A := X.A.in1) hD i1 a (fun q => by
      obtain ⟨o1, ez1, c1, _⟩ := id j1
      obtain ⟨o2, n2, ez2, c2, _⟩ := id plz
      exact cls_apart ez2 c2 ez1 c1 (by decide) q) itz.toArray
    have D2 := Draws.tuple (prog := X.prog) (w := X.w) (A := X.A.in1) hD i2 c (fun q => by
      obtain ⟨o1, ez1, c1, _⟩ := id j2
      obtain ⟨o2, ez2, c2, _⟩ := id (show s.heap.IsTuple c itz2.toArray from pt)
      exact cls_apart ez2 c2 ez1 c1 (by decide) q) itz2.toArray
    have z1 : itz.toArray.size = xs.length := by rw [List.size_toArray, l1]
    have z2 : itz2.toArray.size = ys.length := by rw [List.size_toArray, l2]
    refine wpAny_pyNext_zipD2_end S D1 D2 g1 g2 g3 ⟨j1, plz.isList⟩ ⟨j2, pt⟩ (by omega) (by omega) (by omega) fun h' tk hk => ⟨rfl, ?_⟩
    refine I.turnedL (t' := tk) (ch := five z TI TO i1 i2) (fun m o hmz q => ?_) hfz
    obtain ⟨n1, n2, n3, n4, n5⟩ := out_five hmz
    exact hk m o n1 n3 n4 n5 q
  self := fun A i s Q E st h => wpAny_pyIter_zip st.1 h
def iZipLT (K : PySem.W.Frag) (ta : TA) : TI := fun σ H R => ta σ H fun vs H1 => ∃ a c xs ys, vs = [.ref a, .ref c] ∧ SqL K H1 a xs ∧ SqT K H1 c ys ∧ R (ItzLT K a c) H1
theorem walk_zipLT {K : PySem.W.Frag} {a c : Addr} {xs ys : List V} {n : Nat} (hnz : n = min xs.length ys.length) : Walk (ItzLT K a c) n (fun H => SqL K H a xs ∧ SqT K H c ys) (YPair (fun i => xs[i]?) (fun i => ys[i]?)) where
  goes := fun i H hi h => ⟨xs, ys, xs[i]'(by omega), ys[i]'(by omega), h.1, h.2, List.getElem?_eq_getElem _, List.getElem?_eq_getElem _⟩
  stops := fun H h => ⟨xs, ys, h.1, h.2, hnz⟩
  yields := fun i H v H' hi h y => by
    obtain ⟨T, p, q, ez1, ez2, e3, e4, e5⟩ := y
    exact ⟨T, p, q, ez1, ez2, e3, e4 xs h.1, e5 ys h.2⟩
theorem pi_zipLT {X : Cx} {e ez2 : Expr} {ta : TA} {p pos tpos : Pos} {elts : List Expr} {kk : Nat} (hgz : Gl X "zip") (hmz : X.mg "zip" = none) (haz : PA X [e, ez2] ta)
    (st : starEach [e, ez2] X.env = (false, eval e X.env) :: starEach [ez2] X.env := by rfl) (np : (backTo pos (starEach [ez2] X.env)).any (·.1) = false := by rfl) :
    PI X (.Tuple elts kk tpos) (.Call (.Name "zip" p) [e, ez2] [] pos) (iZipLT X.K ta) := by
  constructor
  intro pins s σ H R I h
  refine Call_ (ld_blt I hgz hmz boot_zip (PyProof.Rows.callWith_type1 (thn (haz.run pos pins s σ H _ I h) ?_) st np))
  rintro us s1 ⟨vs, H1, Iz1, r1, a, c, xs, ys, rfl, hxz, hy, q⟩
  obtain ⟨u1, u2, rfl, r, r'⟩ := vals2 r1
  cases r
  cases r'
  obtain ⟨itz, rvz, plz, _⟩ := Iz1.list hxz
  obtain ⟨itz2, rv2, pt, _⟩ := Iz1.tuple hy
  have la : a < s1.heap.objs.size := plz.lt
  have lc : c < s1.heap.objs.size := by
    obtain ⟨o, hoz, _⟩ := id (show s1.heap.IsTuple c itz2.toArray from pt)
    exact Heap.lt_size hoz
  refine zip_begins2 (begins_list a itz.toArray) (begins_tuple c itz2.toArray) plz.isList pt fun h' g1 g2 g3 k1 k2 hsz hk => wpAny_pyIter_zip g1 ?_
  have Iz2 : Inv X pins σ H1 { s1 with heap := h' } := Iz1.kept (t' := s1.toks) hk
  have S := zip_sep2 (N := s1.heap.objs.size) (fp1 := [a]) (fp2 := [c]) (by simpa using la) (by simpa using lc)
  refine ⟨_, five (s1.heap.objs.size + 4) (s1.heap.objs.size + 2) (s1.heap.objs.size + 3) s1.heap.objs.size (s1.heap.objs.size + 1), _, _, H1, rfl, Iz2, turn_zipLT S, ⟨g1, g2, ⟨_, _, g3⟩, ⟨_, k1, rfl, rfl⟩, ⟨_, k2, rfl, rfl⟩⟩, fun m hmz => ?_, q⟩
  have le : s1.heap.objs.size ≤ m := by
    rcases mem_five hmz with j | j | j | j | j <;> rw [j] <;> first | exact Nat.le_add_right _ _ | exact Nat.le_refl _
  exact Iz1.fpOk le (Iz1.hok.fresh le)
end GG
namespace GG
open PySem PySem.Spec PyProof.Rows L2
/-! ### dict(enumerate(t)) -/
section
variable {prog : Program} {w : World} {A : Around} {E : Value → Shared → Prop} {s : Shared} {e it T : Addr} {fp : List Addr} {n i : Nat} {P : Nat → Value → Prop} {St : Nat → Heap → Prop} {oldz : Value} {f : Bool} {oT : Obj}
/-- next while the pair that was handed out is still there, over what draws in any way -/
theorem enum_again {Q : Option Value → Shared → Prop} (D : Draws prog w A.in1 it fp n P St) (hez : IsEnumHeld s.heap e it i oldz T f) (hT : s.heap.get? T = some oT) (n1 : T ≠ e) (n2 : T ≠ it) (st : St i s.heap) (lt : i < n) (n3 : e ≠ it) (n4 : e ∉ fp)
    (k : ∀ y h' tk, P i y → IsEnumHeld h' e it ((i : Int) + 1) oldz T true → St (i + 1) h' → h'.get? s.heap.objs.size = some { cls := .type "tuple", data := .seq #[.int i tk, y] } →
      (∀ b o, b ≠ e → b ≠ it → s.heap.get? b = some o → h'.get? b = some o) → Q (some (.ref s.heap.objs.size)) { s with heap := h', toks := tk + 1 }) :
    wpAny (model prog w) A (pyNext (.ref e)) Q E s := by
  have ty : s.TypeIs (.ref e) "enumerate" := ⟨_, hez, rfl⟩
  unfold pyNext
  refine wpAny_bind (wpAny_attempt (wpAny_callSpecial?_slot (name := Str.ofString "__next__") ty F.slot_enumerate_next (wpAny_call_entry F.slot_enumerate_next ty F.entry_enumerate_next ?_ (F.args_enumerate_next_1 _))))
  obtain ⟨hpz, gs, dr, tk0, os⟩ := s
  have el : e < hpz.objs.size := Heap.lt_size hez
  show wpAny _ _ (bind (field (.ref e) 2) _) _ _ _
  refine wpAny_bind (wpAny_field hez rfl (x := .ref it) rfl ?_)
  refine wpAny_bind (D.item i _ _ _ lt st fun y a1 tk py saz b1 => ?_)
  have b1 : Heap.SameBut it hpz a1 := b1
  have c1 : IsEnumHeld a1 e it i oldz T f := (b1.2 e n3).trans hez
  show wpAny _ _ (bind (field (.ref e) 3) _) _ _ _
  refine wpAny_bind (wpAny_field c1 rfl (x := rawInt i) rfl ?_)
  show wpAny _ _ (bind (field (.ref e) 4) _) _ _ _
  refine wpAny_bind (wpAny_field c1 rfl (x := .none) rfl ?_)
  show wpAny _ _ (bind (mkInt i) _) _ _ _
  refine wpAny_bind (wpAny_mkInt ?_)
  show wpAny _ _ (bind (setField (.ref e) 3 (rawInt ((i : Int) + 1))) _) _ _ _
  refine wpAny_bind (wpAny_setField_rec c1 (by simp) fun a2 c2 b2 => ?_)
  have b2 : Heap.SameBut e a1 a2 := b2
  have c2 : IsEnumHeld a2 e it ((i : Int) + 1) oldz T f := c2
  show wpAny _ _ (bind (setField (.ref e) 4 .none) _) _ _ _
  refine wpAny_bind (wpAny_setField_rec c2 (by simp) fun a3 c3 b3 => ?_)
  have b3 : Heap.SameBut e a2 a3 := b3
  have c3 : IsEnumHeld a3 e it ((i : Int) + 1) oldz T f := c3
  show wpAny _ _ (bind (newTuple [.int i tk, y]) _) _ _ _
  refine wpAny_bind (wpAny_newTuple ?_)
  have zs : a3.objs.size = hpz.objs.size := by rw [b3.1, b2.1, b1.1]
  let a4 := a3.push { cls := .type "tuple", data := .seq #[.int i tk, y] }
  have c4 : IsEnumHeld a4 e it ((i : Int) + 1) oldz T f := Heap.get?_push_of_some _ c3
  have t4 : a4.get? hpz.objs.size = some { cls := .type "tuple", data := .seq #[.int i tk, y] } := by
    rw [← zs]
    exact Heap.get?_push_size _ rfl
  have k4 : ∀ b o, b ≠ e → b ≠ it → hpz.get? b = some o → a4.get? b = some o := fun b o m1 m2 q => Heap.get?_push_of_some _ (b3.extBut b o m1 (b2.extBut b o m1 (b1.extBut b o m2 q)))
  have s4 : St (i + 1) a4 := D.frame _ _ _ saz fun b hb o q => by
    have m : b ≠ e := fun z => n4 (z ▸ hb)
    exact Heap.get?_push_of_some _ (b3.extBut b o m (b2.extBut b o m q))
  show wpAny _ _ (bind (Builtin.SmallTypes.ownedTupleIsFree (.ref e)) _) _ _ _
  refine wpAny_bind (wpAny_tupleHeld_enum (s := ⟨a4, gs, dr, tk + 1, os⟩) c4 (k4 T oT n1 n2 hT) fun a5 c5 b5 => ?_)
  have b5 : Heap.SameBut e a4 a5 := b5
  have ez : Value.ref a3.objs.size = Value.ref hpz.objs.size := by rw [zs]
  simp only [Bool.false_eq_true, if_false]
  refine wpAny_pure ⟨_, rfl, wpAny_pure ?_⟩
  rw [ez]
  refine k y a5 tk py c5 (D.frame _ _ _ s4 fun b hb o q => b5.extBut b o (fun z => n4 (z ▸ hb)) q) (b5.extBut _ _ (Nat.ne_of_gt el) t4) fun b o m1 m2 q => b5.extBut b o m1 (k4 b o m1 m2 q)
theorem enum_last {Q : Option Value → Shared → Prop} {x : Value} {j : Int} {oe : Obj} {fs : Array Value} (D : Draws prog w A.in1 it fp n P St) (hez : s.heap.get? e = some oe) (hc : oe.cls = .type "enumerate") (hdz : oe.data = .fields fs) (h2 : fs[2]? = some (.ref it)) (st : St n s.heap)
    (k : ∀ h', Heap.ExtBut it s.heap h' → Q none { s with heap := h' }) : wpAny (model prog w) A (pyNext (.ref e)) Q E s := by
  have ty : s.TypeIs (.ref e) "enumerate" := ⟨_, hez, hc⟩
  unfold pyNext
  refine wpAny_bind (wpAny_attempt (wpAny_callSpecial?_slot (name := Str.ofString "__next__") ty F.slot_enumerate_next (wpAny_call_entry F.slot_enumerate_next ty F.entry_enumerate_next ?_ (F.args_enumerate_next_1 _))))
  show wpAny _ _ (bind (field (.ref e) 2) _) _ _ _
  refine wpAny_bind (wpAny_field hez hdz h2 ?_)
  refine wpAny_bind (D.done s _ _ st fun h' x b1 b2 => ?_)
  obtain ⟨o, hoz, co⟩ := b2
  exact wpAny_bind (wpAny_isInstance (T := "StopIteration") (b := true) ⟨o, hoz, co⟩ isSubtype_stop (wpAny_pure (k _ b1)))
end
end GG

set_option maxHeartbeats 3999999
namespace GG
open PySem PySem.Spec PyProof.Rows L2
/-! ### dict(enumerate(t)), list(d.values()) -/
section
variable {prog : Program} {w : World}
theorem enumT_arg (e it l : Addr) (n1 : e ≠ it) (n2 : l ≠ e) (n3 : l ≠ it) (items : Array Value) :
    PairArg prog w "enumerate" e [e, it, l] [e, it] items.size (fun i k v => (∃ t, k = .int i t) ∧ items[i]? = some v) (fun h => (∃ oldz, IsEnum h e it 0 oldz) ∧ h.IsTupleIter it l 0 ∧ h.IsTuple l items) where
  type := fun s ok => by
    obtain ⟨⟨_, g⟩, _⟩ := ok
    exact ⟨_, g, rfl⟩
  notDict := by decide
  keep := fun h h' ok k => by
    obtain ⟨⟨oldz, g⟩, g1, g2⟩ := ok
    exact ⟨⟨oldz, k _ _ g⟩, g1.at (fun o q => k _ o q), Heap.IsTuple.at g2 (fun o q => k _ o q)⟩
  there := fun h ok b hb => by
    obtain ⟨⟨oldz, g⟩, ⟨o1, g1, _⟩, ⟨o2, g2, _⟩⟩ := ok
    have hb : b = e ∨ b = it ∨ b = l := by simpa using hb
    rcases hb with rfl | rfl | rfl
    · exact ⟨_, g⟩
    · exact ⟨_, g1⟩
    · exact ⟨_, g2⟩
  sub := fun b hb => by
    have hb : b = e ∨ b = it := by simpa using hb
    rcases hb with rfl | rfl <;> simp
  noKeys := fun A s Q E hAz ok h => by
    obtain ⟨⟨_, g⟩, _⟩ := ok
    exact getAttrOr_miss_enumerate g rfl rfl rfl enumerate_no_keys (by decide +kernel) hAz h
  iter := fun A s d Q E hAz ok hdz hdf h => by
    obtain ⟨⟨oldz, g⟩, g1, g2⟩ := ok
    have hdf : d ≠ e ∧ d ≠ it ∧ d ≠ l := by simpa using hdf
    obtain ⟨d1, d2, d3⟩ := hdf
    have D := Draws.tuple (prog := prog) (w := w) (A := A.in1) hAz it l n3 items
    refine wpAny_pyIter_enum g (h e [e, it] (fun i h => (h.IsTupleIter it l i ∧ h.IsTuple l items) ∧ ((∃ oldz, IsEnum h e it i oldz) ∨ ∃ oldz T f oT, IsEnumHeld h e it i oldz T f ∧ h.get? T = some oT ∧ T ≠ e ∧ T ≠ it ∧ T ≠ d)) s.heap s.toks ?_
      ⟨⟨g1, g2⟩, .inl ⟨oldz, g⟩⟩ (fun _ _ q => q) fun b hb => .inl hb)
    refine ⟨?_, ?_, ?_, ?_⟩
    · intro hmz
      have hmz : d = e ∨ d = it := by simpa using hmz
      exact hmz.elim d1 d2
    · rintro i a b ⟨st, z⟩ k
      refine ⟨⟨st.1.at (fun o q => k _ o (Ne.symm d2) q), Heap.IsTuple.at st.2 (fun o q => k _ o (Ne.symm d3) q)⟩, ?_⟩
      rcases z with ⟨oldz, z⟩ | ⟨oldz, T, f, oT, z, zT, r1, r2, r3⟩
      · exact .inl ⟨oldz, k _ _ (Ne.symm d1) z⟩
      · exact .inr ⟨oldz, T, f, oT, k _ _ (Ne.symm d1) z, k _ _ r3 zT, r1, r2, r3⟩
    · rintro i s1 Q1 E1 hi ⟨st, z⟩ hds hQ
      have ei : ((i + 1 : Nat) : Int) = (i : Int) + 1 := by omega
      have nit : s1.heap.objs.size ≠ it := by
        obtain ⟨_, x, _⟩ := st.1
        exact Nat.ne_of_gt (Heap.lt_size x)
      rcases z with ⟨oldz, z⟩ | ⟨oldz, T, f, oT, z, zT, r1, r2, r3⟩
      · refine wpAny_pyNext_enum_itemD D z st hi n1 (by simp [n1, n2.symm]) fun y h' tk py hoz st' hT hsz hk => ?_
        refine hQ s1.heap.objs.size _ _ h' _ ⟨⟨_, rfl⟩, py⟩ (.inl ⟨_, hT, rfl, _, rfl⟩) ⟨st', .inr ⟨y, s1.heap.objs.size, false, _, ?_, hT, Nat.ne_of_gt (Heap.lt_size z), nit, Nat.ne_of_gt hds⟩⟩ fun b o hb x => ?_
        · rw [ei]
          exact hoz
        · have hb : b ≠ e ∧ b ≠ it := by simpa using hb
          exact hk b o hb.1 hb.2 x
      · refine enum_again D z zT r1 r2 st hi n1 (by simp [n1, n2.symm]) fun y h' tk py hoz st' hT hk => ?_
        refine hQ s1.heap.objs.size _ _ h' _ ⟨⟨_, rfl⟩, py⟩ (.inl ⟨_, hT, rfl, _, rfl⟩) ⟨st', .inr ⟨oldz, T, true, oT, ?_, hk _ _ r1 r2 zT, r1, r2, r3⟩⟩ fun b o hb x => ?_
        · rw [ei]
          exact hoz
        · have hb : b ≠ e ∧ b ≠ it := by simpa using hb
          exact hk b o hb.1 hb.2 x
    · rintro s1 Q1 E1 ⟨st, z⟩ hQ
      rcases z with ⟨oldz, z⟩ | ⟨oldz, T, f, oT, z, _⟩
      · refine enum_last (x := .none) (j := 0) D z rfl rfl rfl st fun h' x => hQ h' s1.toks fun b o hb q => x b o (fun y => hb (by simp [y])) q
      · refine enum_last (x := .none) (j := 0) D z rfl rfl rfl st fun h' x => hQ h' s1.toks fun b o hb q => x b o (fun y => hb (by simp [y])) q
end
/-- the pairs (0, x0), (1, x1), .. -/
def numK (xs : List V) : List (Key × V) := xs.mapIdx fun i x => ((.inl (i : Int) : Key), x)
theorem numK_kv : ∀ {xs : List V} {us : List Value} (f : Nat → Key), Vals xs us → KV (xs.mapIdx fun i x => (f i, x)) (us.mapIdx fun i u => (f i, u))
  | _, _, _, .nil => .nil
  | _, _, f, .cons r rs => by
    rw [List.mapIdx_cons, List.mapIdx_cons]
    exact .cons ⟨rfl, r⟩ (numK_kv (fun i => f (i + 1)) rs)
def tDictEnumT (K : PySem.W.Frag) (ta : TA) : TE := fun σ H Q => ta σ H fun vs H1 => ∃ a xs, vs = [.ref a] ∧ SqT K H1 a xs ∧ ∀ p, H1 p = none → Q (.ref p) (upd H1 p (.dK (mergeK [] (numK xs))))
theorem pe_dictEnumT {X : Cx} {e : Expr} {ta : TA} {p pos p2 pos2 : Pos} (hc : X.calm = true) (hgz : Gl X "dict") (hmz : X.mg "dict" = none) (hg2 : Gl X "enumerate") (hm2 : X.mg "enumerate" = none) (haz : PA X [e] ta)
    (hsv0 : starEach [e] X.env = [(false, eval e X.env)] := by rfl)
    (hs2 : starEach [.Call (.Name "enumerate" p2) [e] [] pos2] X.env = (false, eval (.Call (.Name "enumerate" p2) [e] [] pos2) X.env) :: starEach [] X.env := by rfl) (np : (backTo pos (starEach [] X.env)).any (·.1) = false := by rfl) :
    PE X (.Call (.Name "dict" p) [.Call (.Name "enumerate" p2) [e] [] pos2] [] pos) (tDictEnumT X.K ta) := by
  constructor
  intro pins s σ H Q I h
  refine wpAny_Call_Name_kw (ld_blt I hgz hmz boot_dict (PyProof.Rows.callWith_type1 ?_ hs2 np))
  rw [hs2]
  show wpAny _ _ (spliced ((false, eval (.Call (.Name "enumerate" p2) [e] [] pos2) X.env) :: backTo pos (starEach [] X.env))) _ _ s
  refine Calls.spliced_cons (wpAny_Call_Name_kw (ld_blt I hg2 hm2 boot_enumerate (PyProof.Rows.callWith_type1 (thn (haz.run pos2 pins s σ H _ I h) ?_) hsv0 rfl)))
  rintro us s1 ⟨vs, H1, Iz1, r1, a, xs, rfl, hqz, q⟩
  obtain ⟨u, rfl, ru⟩ := vals1 r1
  obtain rfl : u = Value.ref a := ru
  obtain ⟨itz, rvz, p', hzz⟩ := Iz1.tuple hqz
  have ht : s1.heap.IsTuple a itz.toArray := p'
  have la : a < s1.heap.objs.size := by
    obtain ⟨o, hoz, _⟩ := id ht
    exact Heap.lt_size hoz
  refine call_enum1 (begins_tuple a itz.toArray) ht fun h' hez hoz hk => Calls.spliced_nil ?_
  have Iz2 : Inv X pins σ H1 { s1 with heap := h' } := Iz1.kept (t' := s1.toks) hk
  have lh : s1.heap.objs.size + 1 < h'.objs.size := Heap.lt_size hez
  have hz' : itz.toArray.size ≤ sizeLine := by
    rw [List.size_toArray, ← rvz.length]
    exact hzz
  refine PySem.call_dict_pairs (s := { s1 with heap := h' }) (knd := mixKind X.prog X.w) (kvs := itz.mapIdx fun i u => ((.inl (i : Int) : Key), u)) (enumT_arg (s1.heap.objs.size + 1) s1.heap.objs.size a (Nat.succ_ne_self _) (Nat.ne_of_lt (Nat.lt_succ_of_lt la)) (Nat.ne_of_lt la) itz.toArray) (Iz1.ok.hd hc)
    ⟨⟨.none, hez⟩, ⟨_, hoz, rfl, rfl⟩, Heap.IsTuple.at ht (fun o q => hk _ o q)⟩ ⟨by simp, ?_⟩ hz' fun h'' tk hdz hk2 => ?_
  · rintro i k v ⟨⟨t, rfl⟩, ez2⟩
    have ez2 : itz[i]? = some v := by simpa using ez2
    refine ⟨.inl (i : Int), ?_, mixKind_int _ _ _ _⟩
    rw [List.getElem?_mapIdx, ez2]
    rfl
  · have hdz : h''.DictOf (mixKind X.prog X.w) h'.objs.size (merged [] (itz.mapIdx fun i u => ((.inl (i : Int) : Key), u))) := hdz
    have kv : KV (numK xs) (itz.mapIdx fun i u => ((.inl (i : Int) : Key), u)) := numK_kv (fun i => .inl (i : Int)) rvz
    have big := Iz2.big
    have hm' : (h'.objs.size == sysModules) = false := beq_eq_false_iff_ne.mpr (Nat.ne_of_gt big)
    have len : (mergeK [] (numK xs)).length ≤ sizeLine := by
      refine Nat.le_trans (length_mergeK (numK xs) []) ?_
      have ez1 : (numK xs).length = itz.length := by
        unfold numK
        rw [List.length_mapIdx, rvz.length]
      have ez2 : itz.toArray.size = itz.length := List.size_toArray
      rw [List.length_nil, Nat.zero_add, ez1, ← ez2]
      exact hz'
    have le : s1.heap.objs.size ≤ h'.objs.size := Nat.le_of_lt (Nat.lt_trans (Nat.lt_succ_self _) lh)
    have k3 : ∀ b o, s1.heap.get? b = some o → h''.get? b = some o := fun b o x => hk2 b o (fun z => by
      have z : b = s1.heap.objs.size + 1 ∨ b = s1.heap.objs.size := by simpa using z
      have lt : b < s1.heap.objs.size := Heap.lt_size x
      rcases z with z | z <;> rw [z] at lt
      · exact absurd lt (Nat.not_lt.mpr (Nat.le_succ _))
      · exact absurd lt (Nat.lt_irrefl _)) (hk b o x)
    exact ⟨.ref h'.objs.size, upd H1 h'.objs.size (.dK (mergeK [] (numK xs))), Iz1.laid (t' := tk) k3 le ⟨len, hm', _, KV.merge kv .nil, hdz⟩, rfl, q _ (Iz1.hok.fresh le)⟩
def tListVals (td : TE) : TE := fun σ H Q => td σ H fun x H1 => ∃ d kvs, x = .ref d ∧ Rd H1 d (.dK kvs) ∧ ∀ p, H1 p = none → Q (.ref p) (upd H1 p (.lst (kvs.map (·.2))))
theorem kv_vals {kvs : List (Key × V)} {rs : List (Key × Value)} (h : KV kvs rs) : Vals (kvs.map (·.2)) (rs.map (·.2)) := by
  unfold KV at h
  induction h with
  | nil => exact .nil
  | cons r _ ih => exact .cons r.2 ih
theorem pe_listVals {X : Cx} {e : Expr} {td : TE} {p pos apos cpos : Pos} (hc : X.calm = true) (hgz : Gl X "list") (hmz : X.mg "list" = none) (hez : PE X e td)
    (hb : attributeBase e "values" X.env (eval e X.env) = eval e X.env := by rfl) (hlz0 : (apos.endLine == cpos.line) = true := by rfl)
    (hsv0 : starEach [.Call (.Attribute e "values" apos) [] [] cpos] X.env = (false, eval (.Call (.Attribute e "values" apos) [] [] cpos) X.env) :: starEach [] X.env := by rfl) (np : (backTo pos (starEach [] X.env)).any (·.1) = false := by rfl) :
    PE X (.Call (.Name "list" p) [.Call (.Attribute e "values" apos) [] [] cpos] [] pos) (tListVals td) := by
  constructor
  intro pins s σ H Q I h
  refine wpAny_Call_Name_kw (ld_blt I hgz hmz boot_list (PyProof.Rows.callWith_type1 ?_ hsv0 np))
  rw [hsv0]
  show wpAny _ _ (spliced ((false, eval (.Call (.Attribute e "values" apos) [] [] cpos) X.env) :: backTo pos (starEach [] X.env))) _ _ s
  refine Calls.spliced_cons (wpAny_Call_method (T := "dict") (id := "dict.values") hb rfl hlz0 F.plainAttrs_dict F.slot_dict_values F.type_dict_values (thn (hez.run pins s σ H _ I h) ?_))
  rintro u s1 ⟨x, H1, Iz1, rxz, d, kvs, rfl, hdz, q⟩
  obtain rfl : u = Value.ref d := rxz
  obtain ⟨z, sm, vs, kv, dd⟩ := dk_rd Iz1.hok hdz
  obtain ⟨ep, da⟩ := dd.dictAt
  refine ⟨dd.typeIs, dd.mapOf.noDict, ?_⟩
  have Iz2 : Inv X pins σ H1 { s1 with heap := s1.heap.push { cls := .type "dict_values", data := .fields #[.ref d] } } := Iz1.kept (t' := s1.toks) fun b ob q => Heap.get?_push_of_some _ q
  refine method_meetsIn F.slot_dict_values F.entry_dict_values rfl (PySem.evalArgs_none ⟨rfl, dd.typeIs, F.args_dict_values_1 _, _, meets_dict_values (mixKind X.prog X.w) d sm, ⟨vs, dd⟩, ?_⟩)
  refine Calls.spliced_nil ?_
  refine PySem.W.kdl_call (s := { s1 with heap := s1.heap.push { cls := .type "dict_values", data := .fields #[.ref d] } }) (PySem.W.kdl_values (knd := mixKind X.prog X.w) (kvs := vs) (ep := ep)) (Iz1.ok.hd hc) ⟨⟨_, Heap.get?_push_size _ rfl, rfl, rfl⟩, da.push _⟩ (by rw [← Paired.length kv]; exact z) ?_
  intro h' tk acc c' hk hL hI
  have ea : acc.toList = vs.map (·.2) := PySem.W.kdl_vals_eq acc.toList (by rw [Array.length_toList]; exact hI.1) fun j v hj => hI.2 j v (by simpa using hj)
  have sz : (s1.heap.push { cls := .type "dict_values", data := .fields #[.ref d] }).objs.size = s1.heap.objs.size + 1 := Heap.size_push ..
  have hL : h'.get? (s1.heap.push { cls := .type "dict_values", data := .fields #[.ref d] }).objs.size = _ := hL
  rw [sz] at hL
  have eL : acc = (vs.map (·.2)).toArray := by rw [← ea]
  subst eL
  have ev : Value.ref (s1.heap.push { cls := .type "dict_values", data := .fields #[.ref d] }).objs.size = Value.ref (s1.heap.objs.size + 1) := by rw [sz]
  show EP X pins σ Q (Value.ref (s1.heap.push { cls := .type "dict_values", data := .fields #[.ref d] }).objs.size) _
  rw [ev]
  refine ⟨.ref (s1.heap.objs.size + 1), upd H1 (s1.heap.objs.size + 1) (.lst (kvs.map (·.2))), Iz1.laid (t' := tk) (fun b o x => hk b o (Heap.get?_push_of_some _ x)) (Nat.le_succ _) ?_, rfl, q _ (Iz1.hok.fresh (Nat.le_succ _))⟩
  exact ⟨by rw [List.length_map]; exact z, _, _, kv_vals kv, hL⟩
end GG

set_option maxHeartbeats 3999999
namespace GG
open PySem PySem.Spec PyProof.Rows L2
theorem Rm.make {k : Nat} {A : Around} (r : Rm (k + 1) A) (C : Addr) (us : List Value) : Rm k (A.under (.builtin "type.__call__" ⟨.ref C :: us, []⟩)) := ⟨r.room.make C us [], r.gu⟩
/-- C(): a new error object, itz __init__ keeping sp -/
def tErr0 (C : Addr) (sp : Sp) : TE := fun σ H Q => ∀ a, H a = none → sp [.ref a] (upd H a (exo a C none)) (fun v H2 => v = .non ∧ Q (.ref a) H2) fun _ _ _ => False
theorem pe_err0 {X : Cx} {CX : CXT} {x : Str} {C fI : Addr} {k : Nat} {fd : FuncData} {ps : List Str} {sp : Sp} {p pos : Pos} (T : OexC X.K C) (iC : PySem.W.findIn X.K (.ref C) "__init__" = some (some (.ref fI))) (tI : PySem.W.typeIn X.K (.ref fI) = some (.type "function"))
    (G : GFn X.prog X.w X.K X.mg X.base CX k fI fd ps sp) (rm : Rm (k + 1) X.A) (hb : Binds X.K fd ps []) (hxz : Passes CX X (fun _ _ _ => False)) (hgz : Gl X x) (hmz : X.mg x = some (.ref C)) (hdb : (x == ("__debug__" : Str)) = false := by decide) :
    PE X (.Call (.Name x p) [] [] pos) (tErr0 C sp) := by
  constructor
  intro pins s σ H Q I h
  obtain ⟨nm, q, N, bs, bm, sn, sub, ab, col, dd, k0, k1, k2, k3, k5, hC, hbm⟩ := T.cls
  refine wpAny_Call_Name_kw (ld_glob I hgz hmz ?_ hdb)
  refine PySem.W.callWith_K0 I.kIn T.kC ?_
  obtain ⟨hpz, g, dr, tk, os⟩ := s
  have le : hpz.objs.size ≤ hpz.objs.size + 1 := Nat.le_succ _
  have hnz : H (hpz.objs.size + 1) = none := I.hok.fresh le
  have hqz := h (hpz.objs.size + 1) hnz
  let h1 : Heap := (hpz.push (PySem.W.kdv_tup [])).push (PySem.HandSPX.excO C hpz.objs.size)
  have kk : ∀ b o, hpz.get? b = some o → h1.get? b = some o := fun b o e => Heap.get?_push_of_some _ (Heap.get?_push_of_some _ e)
  have hget : h1.get? (hpz.objs.size + 1) = some (PySem.HandSPX.excO C hpz.objs.size) := by
    show ((hpz.push (PySem.W.kdv_tup [])).push (PySem.HandSPX.excO C hpz.objs.size)).get? (hpz.objs.size + 1) = _
    heap_get
  have Iz2 : Inv X pins σ (upd H (hpz.objs.size + 1) (exo (hpz.objs.size + 1) C none)) ⟨h1, g, dr, tk, os⟩ := I.laid (t' := tk) kk le (exo_ok hget)
  have rr : Vals [V.ref (hpz.objs.size + 1)] [Value.ref (hpz.objs.size + 1)] := .cons rfl .nil
  have hlz0 : ([Value.ref (hpz.objs.size + 1)] ++ []).length = ps.length := by rw [← G.arity _ _ _ _ hqz]; rfl
  refine wpAny_call (PySem.HandSPX.call_own F.excBase_ValueError (fun Y => PySem.HandSPX.refsVE_contains Y bm hbm) (I.kIn _ _ hC) (PySem.W.looks_findIn I.kIn iC) (fun self => PySem.W.bind_fn I.kIn self tI) (by decide)
    (codeAny_mono (G.go _ X.stack ⟨h1, g, dr, tk, os⟩ _ ⟨[Value.ref (hpz.objs.size + 1)], []⟩ [Value.ref (hpz.objs.size + 1)] _ _ (fun _ _ _ => False) (rm.make C []) (Iz2.env0.make C [] []) (hb _ [Value.ref (hpz.objs.size + 1)] Iz2.kIn hlz0) rr hqz) fun r s' hq' => ?_))
  match r, hq' with
  | .error er, hq' => exact hxz pins σ _ _ er s' Iz2 hq'
  | .ok (.ret u), hq' =>
    obtain ⟨v, H', I3, rvz, ev, q3⟩ := Iz2.after hq'
    subst ev
    exact ⟨rvz, ⟨V.ref (hpz.objs.size + 1), H', I3, rfl, q3⟩⟩
  | .ok .next, hq' => exact hq'.elim
  | .ok .brk, hq' => exact hq'.elim
  | .ok .cont, hq' => exact hq'.elim
/-! ### a text times an int -/
def repS (x : Str) (n : Nat) : Str := ⟨(List.replicate n x.cps).foldl (· ++ ·) #[]⟩
def rRepS : R2 := fun x y H Q => ∃ (z : Str) (n : Nat), x = .str z ∧ y = .int (n : Int) ∧ 1 < n ∧ n < 2 ^ 30 ∧ z.length ≠ 0 ∧ z.length * n ≤ 2 ^ 20 ∧ Q (.str (repS z n)) H
theorem fold_size {α : Type} (x : Array α) : ∀ (n : Nat) (acc : Array α), ((List.replicate n x).foldl (· ++ ·) acc).size = acc.size + x.size * n
  | 0, acc => by simp
  | n + 1, acc => by
    rw [List.replicate_succ, List.foldl_cons, fold_size x n, Array.size_append, Nat.mul_succ]
    omega
theorem repS_len (z : Str) (n : Nat) : (repS z n).length = z.length * n := by
  show ((List.replicate n z.cps).foldl (· ++ ·) #[]).size = z.cps.size * n
  rw [fold_size]
  simp
theorem op_repS {X : Cx} : OpR X (binaryOp .Mult) rRepS := by
  intro pins s σ H x y v u Q I rxz ryz h
  obtain ⟨z, n, rfl, rfl, h1, h2, h3, h4, q⟩ := h
  obtain ⟨t, rfl⟩ := rxz
  obtain ⟨t', rfl⟩ := ryz
  have hsv0 : (2 ^ 20 : Nat) ≤ sizeLine := by rw [sizeLine_eq]; decide
  refine PySem.P.mul_str ?_ (fun _ _ => ?_) (fun _ _ => ?_) ?_
  · have ez1 : ¬ ((n : Int) < -(2 ^ 63 : Int)) := by omega
    have ez2 : ¬ ((n : Int) ≥ 2 ^ 63) := by omega
    rw [decide_eq_false ez1, decide_eq_false ez2]
    rfl
  · have e : (z.length : Int) ≤ (2 ^ 63 - 1) / (n : Int) := by
      rw [Int.le_ediv_iff_mul_le (by omega)]
      have : ((z.length * n : Nat) : Int) ≤ 2 ^ 20 := by exact_mod_cast h4
      rw [Int.natCast_mul] at this
      omega
    omega
  · rw [Int.toNat_natCast]
    show decide (z.length * n > sizeLine) = false
    exact decide_eq_false (by omega)
  · rw [if_neg (show ¬ ((n : Int) < 1) by omega)]
    have e : ((n : Int) == 1 || z.length == 0) = false := by
      have a1 : ((n : Int) == 1) = false := beq_eq_false_iff_ne.mpr (by omega)
      have a2 : (z.length == 0) = false := beq_eq_false_iff_ne.mpr h3
      rw [a1, a2]
      rfl
    rw [e, if_neg Bool.false_ne_true, Int.toNat_natCast]
    refine ⟨?_, .str (repS z n), H, I.tok _, ⟨_, rfl⟩, q⟩
    show (repS z n).length ≤ sizeLine
    rw [repS_len]
    omega
end GG

set_option maxHeartbeats 3999999
/-! data, mutable places, environments; what a reading is worth -/
namespace DD
open PySem PySem.Spec PyProof.Rows L2 GG
abbrev PD := PyData
abbrev LSt := L2.St

/-! ### data in a heap: tuples and lists as they are known -/
def keyD : Key → PyData
  | .inl i => .int i
  | .inr x => .str x
/-- what is shown of an error without arguments -/
def errTxt (cd : ClassData) : Str := Str.ofString ((cd.name.toString.cutAt '.').getLastD "") ++ tupleText []
/-- what the written part says of a class of errors, so that isinstance asks itz instances rightly -/
structure ObjC (K : PySem.W.Frag) (C : Addr) : Prop where
  exc : ExcC K C
  nint : PySem.W.kitOne K (.ref C) (.type "int") = some false
  nbool : PySem.W.kitOne K (.ref C) (.type "bool") = some false
  nstr : PySem.W.kitOne K (.ref C) (.type "str") = some false
  nlist : PySem.W.kitOne K (.ref C) (.type "list") = some false
  ntuple : PySem.W.kitOne K (.ref C) (.type "tuple") = some false
  ndict : PySem.W.kitOne K (.ref C) (.type "dict") = some false
  rp : PySem.W.findIn K (.ref C) "__repr__" = some (some (.builtin "BaseException.__repr__"))
  nm : ∃ cd, PySem.W.clsIn K C = some cd ∧ errTxt cd = "NoCommand()"
/-- an error object without attributes: itz arguments at t1 -/
def exoT (e C t1 : Addr) : HO := .ext fun h => h.get? e = some ({ cls := .ref C, dict := none, data := .fields #[.ref t1, .none, .none, .none, .bool false, .none] } : Obj)
/-- at a stands an error of the class at C -/
def ErrO (H : Hp) (a C : Addr) : Prop := (∃ t1, H a = some (exoT a C t1)) ∨ ∃ (dx : Addr) (fs : List (Str × V)), H a = some (exo a C (some dx)) ∧ H dx = some (exd dx fs)
/-- an error of the class at C, itz fields, as data: a dict that no program can make -/
def errQ (C : Addr) (ds : List (PyData × PyData)) : List (PyData × PyData) := (.none, .int ((C : Nat) : Int)) :: ds
/-- an error without fields -/
def errP : List (PyData × PyData) := [(.none, .none)]
/-- what stands at a, whatever it is -/
def opqD (a : Addr) : List (PyData × PyData) := [(.none, .str ""), (.none, .int ((a : Nat) : Int))]
/-- not a dict -/
def badK : List (PyData × PyData) → Bool
  | (.none, _) :: _ => true
  | _ => false
/-- a dict indeed -/
def noErr (kds : List (PyData × PyData)) : Prop := badK kds = false
/-- fields as pairs -/
def fldK (fs : List (Str × V)) : List (Key × V) := fs.map fun p => (.inr p.1, p.2)
/-- a list that is tracked -/
def SqH (H : Hp) (a : Addr) (vs : List V) : Prop := H a = some (.lst vs) ∨ ∃ o, H a = some (.frz o (.lst vs))
theorem SqH.mono {H H' : Hp} (e : Same H H') {a : Addr} {vs : List V} (h : SqH H a vs) : SqH H' a vs := h.imp (fun q => e _ _ q) fun ⟨o, q⟩ => ⟨o, e _ _ q⟩
theorem SqH.sq {K : PySem.W.Frag} {H : Hp} {a : Addr} {vs : List V} (h : SqH H a vs) : SqL K H a vs := .inl h
mutual
inductive Dq (K : PySem.W.Frag) (H : Hp) : V → PyData → Prop
  | non : Dq K H .non .none
  | bl (b : Bool) : Dq K H (.bl b) (.bool b)
  | int (i : Int) : Dq K H (.int i) (.int i)
  | str (x : Str) : Dq K H (.str x) (.str x)
  | lst {a : Addr} {vs : List V} {ds : List PyData} : SqH H a vs → DqAll K H vs ds → Dq K H (.ref a) (.list ds)
  | tup {a : Addr} {vs : List V} {ds : List PyData} : TupD K H a vs → DqAll K H vs ds → Dq K H (.ref a) (.tuple ds)
  | dict {a : Addr} {kvs : List (Key × V)} {ds : List (PyData × PyData)} : Rd H a (.dK kvs) → DqKv K H kvs ds → Dq K H (.ref a) (.dict ds)
  | err {a C t1 : Addr} {kvs : List (PyData × PyData)} : H a = some (exoT a C t1) → H t1 = some (.tup []) → ObjC K C → kvs = errP → Dq K H (.ref a) (.dict kvs)
  | errF {a C t1 : Addr} {kvs : List (PyData × PyData)} : H a = some (exoT a C t1) → ExcC K C → kvs = errQ C [] → Dq K H (.ref a) (.dict kvs)
  | errA {a C dx : Addr} {fs : List (Str × V)} {ds kvs : List (PyData × PyData)} : H a = some (exo a C (some dx)) → H dx = some (exd dx fs) → ExcC K C → DqKv K H (fldK fs) ds → kvs = errQ C ds → Dq K H (.ref a) (.dict kvs)
  | opq {a : Addr} {kvs : List (PyData × PyData)} : kvs = opqD a → Dq K H (.ref a) (.dict kvs)
inductive DqAll (K : PySem.W.Frag) (H : Hp) : List V → List PyData → Prop
  | nil : DqAll K H [] []
  | cons {v : V} {vs : List V} {d : PyData} {ds : List PyData} : Dq K H v d → DqAll K H vs ds → DqAll K H (v :: vs) (d :: ds)
inductive DqKv (K : PySem.W.Frag) (H : Hp) : List (Key × V) → List (PyData × PyData) → Prop
  | nil : DqKv K H [] []
  | cons {k : Key} {v : V} {kvs : List (Key × V)} {d : PyData} {ds : List (PyData × PyData)} : Dq K H v d → DqKv K H kvs ds → DqKv K H ((k, v) :: kvs) ((keyD k, d) :: ds)
end
mutual
theorem dq_dp {K : PySem.W.Frag} {H : Hp} : ∀ (d : PyData) (v : V), Dq K H v d → d.hasDict = false → L2.Dp K H v d
  | .none, _, h, _ => by cases h; exact .non
  | .bool _, _, h, _ => by cases h; exact .bl _
  | .int _, _, h, _ => by cases h; exact .int _
  | .str _, _, h, _ => by cases h; exact .str _
  | .list ds, _, h, n => by
    cases h with
    | lst hsv0 haz => exact .lst hsv0.sq (dqAll_dp ds _ haz (by simpa only [PyData.hasDict] using n))
  | .tuple ds, _, h, n => by
    cases h with
    | tup hsv0 haz => exact .tup hsv0.sq (dqAll_dp ds _ haz (by simpa only [PyData.hasDict] using n))
  | .dict _, _, _, n => by simp [PyData.hasDict] at n
theorem dqAll_dp {K : PySem.W.Frag} {H : Hp} : ∀ (ds : List PyData) (vs : List V), DqAll K H vs ds → PyData.hasDictAll ds = false → L2.DpAll K H vs ds
  | [], _, h, _ => by cases h; exact .nil
  | d :: ds, _, h, n => by
    simp only [PyData.hasDictAll, Bool.or_eq_false_iff] at n
    cases h with
    | cons h1 h2 => exact .cons (dq_dp d _ h1 n.1) (dqAll_dp ds _ h2 n.2)
end
/-! no dict within -/
mutual
theorem noD_lay : ∀ d : PyData, d.canLay0 = true → d.hasDict = false
  | .none, _ => rfl
  | .bool _, _ => rfl
  | .int _, _ => rfl
  | .str _, _ => rfl
  | .list ds, h => by
    simp only [PyData.hasDict]
    exact noDs_lay ds (by simpa only [PyData.canLay0] using h)
  | .tuple ds, h => by
    simp only [PyData.hasDict]
    exact noDs_lay ds (by simpa only [PyData.canLay0] using h)
  | .dict _, h => by simp [PyData.canLay0] at h
theorem noDs_lay : ∀ ds : List PyData, PyData.canLayAll0 ds = true → PyData.hasDictAll ds = false
  | [], _ => rfl
  | d :: ds, h => by
    simp only [PyData.canLayAll0, Bool.and_eq_true] at h
    simp only [PyData.hasDictAll, noD_lay d h.1, noDs_lay ds h.2, Bool.or_self]
end
theorem noD_shaped {d : PyData} (h : SeqAt.shaped d = true) : d.hasDict = false := noD_lay d (SeqAt.canLay_of_shaped h)
theorem noDs {ds : List PyData} (h : ∀ d ∈ ds, d.hasDict = false) : PyData.hasDictAll ds = false := by
  induction ds with
  | nil => rfl
  | cons d ds ih => simp only [PyData.hasDictAll, h d List.mem_cons_self, ih fun x hxz => h x (List.mem_cons_of_mem _ hxz), Bool.or_self]
theorem rd_mono {H H' : Hp} (e : Same H H') {a : Addr} {u : HO} (r : Rd H a u) : Rd H' a u := by
  rcases r with r | ⟨o, r⟩
  · exact .inl (e _ _ r)
  · exact .inr ⟨o, e _ _ r⟩
mutual
theorem dp_mono {K : PySem.W.Frag} {H H' : Hp} (e : Same H H') : ∀ (d : PyData) (v : V), Dq K H v d → Dq K H' v d
  | .none, _, h => by cases h; exact .non
  | .bool _, _, h => by cases h; exact .bl _
  | .int _, _, h => by cases h; exact .int _
  | .str _, _, h => by cases h; exact .str _
  | .list ds, _, h => by
    cases h with
    | lst hsv0 haz => exact .lst (hsv0.mono e) (dpAll_mono e ds _ haz)
  | .tuple ds, _, h => by
    cases h with
    | tup hsv0 haz =>
      exact .tup (hsv0.mono e) (dpAll_mono e ds _ haz)
  | .dict ds, _, h => by
    cases h with
    | dict hr hk => exact .dict (rd_mono e hr) (dpKv_mono e ds _ hk)
    | err h1 h2 h3 h4 => exact .err (e _ _ h1) (e _ _ h2) h3 h4
    | errF h1 h2 h3 => exact .errF (e _ _ h1) h2 h3
    | @errA _ _ _ fs ds1 _ h1 h2 h3 h4 h5 =>
      have hzz : sizeOf ds1 < sizeOf ds + 1 := by
        rw [h5]
        unfold errQ
        simp
        omega
      exact .errA (e _ _ h1) (e _ _ h2) h3 (dpKv_mono e ds1 _ h4) h5
    | opq h => exact .opq h
theorem dpAll_mono {K : PySem.W.Frag} {H H' : Hp} (e : Same H H') : ∀ (ds : List PyData) (vs : List V), DqAll K H vs ds → DqAll K H' vs ds
  | [], _, h => by cases h; exact .nil
  | d :: ds, _, h => by
    cases h with
    | cons h1 h2 => exact .cons (dp_mono e d _ h1) (dpAll_mono e ds _ h2)
theorem dpKv_mono {K : PySem.W.Frag} {H H' : Hp} (e : Same H H') : ∀ (ds : List (PyData × PyData)) (kvs : List (Key × V)), DqKv K H kvs ds → DqKv K H' kvs ds
  | [], _, h => by cases h; exact .nil
  | (kd, d) :: ds, _, h => by
    cases h with
    | cons h1 h2 => exact .cons (dp_mono e d _ h1) (dpKv_mono e ds _ h2)
end
theorem dpAll_len {K : PySem.W.Frag} {H : Hp} : ∀ {ds : List PyData} {vs : List V}, DqAll K H vs ds → vs.length = ds.length
  | [], _, h => by cases h; rfl
  | d :: ds, _, h => by
    cases h with
    | cons h1 h2 => exact congrArg (· + 1) (dpAll_len h2)
theorem dpAll_get {K : PySem.W.Frag} {H : Hp} : ∀ {ds : List PyData} {vs : List V} {i : Nat} {v : V}, DqAll K H vs ds → vs[i]? = some v → ∃ d, ds[i]? = some d ∧ Dq K H v d
  | [], _, _, _, h, e => by cases h; simp at e
  | d :: ds, _, 0, v, h, e => by
    cases h with
    | cons h1 h2 =>
      obtain rfl := Option.some.inj e
      exact ⟨d, rfl, h1⟩
  | d :: ds, _, i + 1, v, h, e => by
    cases h with
    | cons h1 h2 => exact dpAll_get (ds := ds) (i := i) h2 e
theorem dpAll_get' {K : PySem.W.Frag} {H : Hp} : ∀ {ds : List PyData} {vs : List V} {i : Nat} {d : PyData}, DqAll K H vs ds → ds[i]? = some d → ∃ v, vs[i]? = some v ∧ Dq K H v d
  | [], _, _, _, h, e => by simp at e
  | d :: ds, _, 0, v, h, e => by
    cases h with
    | cons h1 h2 =>
      obtain rfl := Option.some.inj e
      exact ⟨_, rfl, h1⟩
  | d :: ds, _, i + 1, v, h, e => by
    cases h with
    | cons h1 h2 => exact dpAll_get' (ds := ds) (i := i) h2 e
theorem dpAll_app {K : PySem.W.Frag} {H : Hp} : ∀ {ds es : List PyData} {vs us : List V}, DqAll K H vs ds → DqAll K H us es → DqAll K H (vs ++ us) (ds ++ es)
  | [], _, _, _, h, g => by cases h; exact g
  | d :: ds, _, _, _, h, g => by
    cases h with
    | cons h1 h2 => exact .cons h1 (dpAll_app h2 g)
theorem dpAll_take {K : PySem.W.Frag} {H : Hp} : ∀ {ds : List PyData} {vs : List V} (n : Nat), DqAll K H vs ds → DqAll K H (vs.take n) (ds.take n)
  | _, _, 0, _ => by rw [List.take_zero, List.take_zero]; exact .nil
  | [], _, n + 1, h => by cases h; exact .nil
  | d :: ds, _, n + 1, h => by
    cases h with
    | cons h1 h2 => exact .cons h1 (dpAll_take n h2)
theorem dpAll_drop {K : PySem.W.Frag} {H : Hp} : ∀ {ds : List PyData} {vs : List V} (n : Nat), DqAll K H vs ds → DqAll K H (vs.drop n) (ds.drop n)
  | _, _, 0, h => h
  | [], _, n + 1, h => by cases h; exact .nil
  | d :: ds, _, n + 1, h => by
    cases h with
    | cons h1 h2 => exact dpAll_drop n h2

/-! ### the heap without what may change -/
open Classical in
noncomputable def Fz (M : Addr → Prop) (H : Hp) : Hp := fun a => if M a then none else H a
theorem fz_iff {M : Addr → Prop} {H : Hp} {a : Addr} {o : HO} : Fz M H a = some o ↔ ¬ M a ∧ H a = some o := by
  unfold Fz
  by_cases h : M a
  · rw [if_pos h]
    exact ⟨(fun e => by cases e), (fun e => (e.1 h).elim)⟩
  · rw [if_neg h]
    exact ⟨fun e => ⟨h, e⟩, fun e => e.2⟩
theorem fz_same {M M' : Addr → Prop} {H H' : Hp} (h : ∀ a o, ¬ M a → H a = some o → ¬ M' a ∧ H' a = some o) : Same (Fz M H) (Fz M' H') := fun a o e => by
  obtain ⟨ez1, ez2⟩ := fz_iff.mp e
  exact fz_iff.mpr (h a o ez1 ez2)
theorem fz_sub {M : Addr → Prop} {H : Hp} : Same (Fz M H) H := fun a o e => (fz_iff.mp e).2
/-- the places of the bag and of itz cells -/
structure BP where
  x : Addr
  y : Addr
  /-- the place that also may change: the table of code objects (or the bag's again), and what is known of it -/
  z : Addr
  T : List (Addr × Str)
def Off (b : BP) (a : Addr) : Prop := a ≠ b.1 ∧ a ≠ b.3
def MB (b : BP) (M : Addr → Prop) : Prop := M b.1 ∧ M b.3
/-- all but the bag and the table stays -/
def Frm (b : BP) (H H' : Hp) : Prop := ∀ a o, Off b a → H a = some o → H' a = some o
theorem Frm.refl (b : BP) (H : Hp) : Frm b H H := fun _ _ _ e => e
theorem Frm.trans {b : BP} {H H1 H2 : Hp} (x : Frm b H H1) (y : Frm b H1 H2) : Frm b H H2 := fun a o n e => y a o n (x a o n e)
theorem Frm.new {b : BP} {p : Addr} {H : Hp} {o : HO} (n : H p = none) : Frm b H (upd H p o) := fun a u _ e => by
  rw [upd_ne (ne_of_none e n)]
  exact e
theorem Frm.free {b : BP} {a : Addr} {H H' : Hp} (x : Frm b H H') (n : H' a = none) (nb : Off b a) : H a = none := by
  cases q : H a with
  | none => rfl
  | some o =>
    rw [x a o nb q] at n
    cases n
theorem Frm.fz {b : BP} {M : Addr → Prop} {H H' : Hp} (x : Frm b H H') (mb : MB b M) : Same (Fz M H) (Fz M H') := fz_same fun a o n e => ⟨n, x a o ⟨fun z => n (z ▸ mb.1), fun z => n (z ▸ mb.2)⟩ e⟩

/-! ### the bag -/
/-- at b stands the bag: itz number, itz stir, itz place, itz cells -/
def Bag (b : BP) (H : Hp) : Prop := ∃ (z st n : Int) (cs : List Int), H b.1 = some (.lst [.int z, .int st, .int n, .ref b.2]) ∧ b.2 ≠ b.1 ∧ H b.2 = some (.lst (cs.map V.int)) ∧
  0 ≤ z ∧ 0 ≤ st ∧ st < 2147483647 ∧ 0 ≤ n ∧ cs.length ≤ 63 ∧ (∀ x ∈ cs, 0 ≤ x) ∧ H b.3 ≠ none ∧ LamX.Tabs b.4 H ∧ ∀ a ps, H a = some (.tbl ps) → a = b.3
theorem Bag.stay {b : BP} {H H' : Hp} (g : Bag b H) (h1 : H' b.1 = H b.1) (h2 : H' b.2 = H b.2) (h3 : H' b.3 ≠ none) (h4 : LamX.Tabs b.4 H → LamX.Tabs b.4 H') (h5 : ∀ a ps, H' a = some (.tbl ps) → H a = some (.tbl ps)) : Bag b H' := by
  obtain ⟨z, st, k, cs, ez1, ez2, e3, e4, e5, e6, e7, e8, e9, e10, e11, e12⟩ := g
  exact ⟨z, st, k, cs, h1.trans ez1, ez2, h2.trans e3, e4, e5, e6, e7, e8, e9, h3, h4 e11, fun a ps e => e12 a ps (h5 a ps e)⟩
theorem Bag.there {b : BP} {H : Hp} (g : Bag b H) : H b.1 ≠ none := by
  obtain ⟨z, st, k, cs, h1, _⟩ := g
  rw [h1]
  exact fun e => nomatch e
theorem Bag.there2 {b : BP} {H : Hp} (g : Bag b H) : H b.2 ≠ none := by
  obtain ⟨z, st, k, cs, _, _, h1, _⟩ := g
  rw [h1]
  exact fun e => nomatch e
theorem Bag.there3 {b : BP} {H : Hp} (g : Bag b H) : H b.3 ≠ none := by
  obtain ⟨z, st, k, cs, _, _, _, _, _, _, _, _, _, h, _⟩ := g
  exact h
theorem Bag.off {b : BP} {H : Hp} (g : Bag b H) {p : Addr} (n : H p = none) : Off b p := ⟨fun z => g.there (z ▸ n), fun z => g.there3 (z ▸ n)⟩
theorem Bag.ext {b : BP} {H H' : Hp} (g : Bag b H) (s : Same H H') (nt : ∀ a ps, H' a = some (.tbl ps) → H a = some (.tbl ps)) : Bag b H' := by
  obtain ⟨z, st, k, cs, ez1, ez2, e3, e4, e5, e6, e7, e8, e9, e10, e11, e12⟩ := g
  refine ⟨z, st, k, cs, s _ _ ez1, ez2, s _ _ e3, e4, e5, e6, e7, e8, e9, ?_, e11.ext s, fun a ps e => e12 a ps (nt a ps e)⟩
  cases q : H b.3 with
  | none => exact (e10 q).elim
  | some o =>
    rw [s _ _ q]
    exact fun z => nomatch z
theorem same_new {H : Hp} {p : Addr} {o : HO} (n : H p = none) : Same H (upd H p o) := fun a u e => by
  rw [upd_ne (ne_of_none e n)]
  exact e
/-- no table is new -/
theorem nt_upd {H : Hp} {p : Addr} {o : HO} (nt : ∀ ps, o ≠ .tbl ps) (a : Addr) (ps : Array Value) (e : upd H p o a = some (.tbl ps)) : H a = some (.tbl ps) := by
  by_cases ap : a = p
  · rw [ap, upd_same] at e
    exact (nt ps (Option.some.inj e)).elim
  · rw [upd_ne ap] at e
    exact e
theorem Bag.new {b : BP} {p : Addr} {H : Hp} {o : HO} (g : Bag b H) (n : H p = none) (nt : ∀ ps, o ≠ .tbl ps := by intro _ z; cases z) : Bag b (upd H p o) := g.ext (same_new n) (nt_upd nt)
/-- a list changes: no table, no code object -/
theorem tabs_lst {T : List (Addr × Str)} {H : Hp} {p : Addr} {vs us : List V} (h : H p = some (.lst vs)) (t : LamX.Tabs T H) : LamX.Tabs T (upd H p (.lst us)) := by
  intro q hqz
  obtain ⟨ps, ez1, ez2, e3⟩ := t q hqz
  refine ⟨ps, by rw [upd_ne (ne_of ez1 h (by intro z; cases z))]; exact ez1, ez2, fun pos cv hc => ?_⟩
  obtain ⟨c, c1, c2⟩ := e3 pos cv hc
  exact ⟨c, c1, by rw [upd_ne (ne_of c2 h (by intro z; unfold LamX.CodeO at z; cases z))]; exact c2⟩

/-! ### what a value is: data that stands still, a list that is read, the bag -/
inductive W where
  | d (x : PD)
  | l (xs : List PD)
  | bag
def RepW (K : PySem.W.Frag) (M : Addr → Prop) (b : BP) (H : Hp) (v : V) : W → Prop
  | .d x => Dq K (Fz M H) v x
  | .l xs => ∃ a vs, v = .ref a ∧ Off b a ∧ H a = some (.lst vs) ∧ DqAll K (Fz M H) vs xs
  | .bag => v = .ref b.1
/-- a new list -/
def RepF (K : PySem.W.Frag) (M : Addr → Prop) (H H' : Hp) (v : V) (xs : List PD) : Prop :=
  ∃ p vs, v = .ref p ∧ H p = none ∧ H' p = some (.lst vs) ∧ DqAll K (Fz (fun a => M a ∨ a = p) H') vs xs
theorem RepW.frm {K : PySem.W.Frag} {M : Addr → Prop} {b : BP} {H H' : Hp} {v : V} {w : W} (r : RepW K M b H v w) (x : Frm b H H') (mb : MB b M) : RepW K M b H' v w := by
  cases w with
  | d y => exact dp_mono (x.fz mb) _ _ r
  | l xs =>
    obtain ⟨a, vs, e, n, h, q⟩ := r
    exact ⟨a, vs, e, n, x a _ n h, dpAll_mono (x.fz mb) _ _ q⟩
  | bag => exact r
theorem RepF.frm {K : PySem.W.Frag} {M : Addr → Prop} {b : BP} {H H1 H2 : Hp} {v : V} {xs : List PD} (r : RepF K M H H1 v xs) (x : Frm b H1 H2) (mb : MB b M) (g : Bag b H) : RepF K M H H2 v xs := by
  obtain ⟨p, vs, e, n, h, q⟩ := r
  have np : Off b p := g.off n
  exact ⟨p, vs, e, n, x p _ np h, dpAll_mono (x.fz ⟨.inl mb.1, .inl mb.2⟩) _ _ q⟩
/-- made, it may stand still from now on -/
theorem RepF.still {K : PySem.W.Frag} {M : Addr → Prop} {H H' : Hp} {v : V} {xs : List PD} (r : RepF K M H H' v xs) (dom : ∀ a, M a → H a ≠ none) : Dq K (Fz M H') v (.list xs) := by
  obtain ⟨p, vs, rfl, n, h, q⟩ := r
  have np : ¬ M p := fun z => dom p z n
  exact .lst (.inl (fz_iff.mpr ⟨np, h⟩)) (dpAll_mono (fz_same fun a o z e => ⟨fun m => z (.inl m), e⟩) _ _ q)
/-- what a comparison, a repr reads -/
def W.py : W → Option PD
  | .d x => some x
  | .l xs => some (.list xs)
  | .bag => none
theorem RepW.pyq {K : PySem.W.Frag} {M : Addr → Prop} {b : BP} {H : Hp} {v : V} {w : W} {x : PD} (r : RepW K M b H v w) (e : w.py = some x) : Dq K H v x := by
  cases w with
  | d y =>
    obtain rfl := Option.some.inj e
    exact dp_mono fz_sub _ _ r
  | l xs =>
    obtain rfl := Option.some.inj e
    obtain ⟨a, vs, rfl, n, h, q⟩ := r
    exact .lst (.inl h) (dpAll_mono fz_sub _ _ q)
  | bag => cases e
theorem RepW.py {K : PySem.W.Frag} {M : Addr → Prop} {b : BP} {H : Hp} {v : V} {w : W} {x : PD} (r : RepW K M b H v w) (e : w.py = some x) (nd : x.hasDict = false) : L2.Dp K H v x := dq_dp _ _ (r.pyq e) nd
/-! ### the slots -/
inductive E where
  | un
  | v (w : W)
  | own (xs : List PD)
abbrev En := List E
abbrev MO (M O : Addr → Prop) : Addr → Prop := fun a => M a ∨ O a
def W.isL : W → Bool
  | .l _ => true
  | _ => false
/-- O: the lists of this def's own -/
def SlotOk (K : PySem.W.Frag) (M O : Addr → Prop) (b : BP) (H : Hp) (s : Option V) : E → Prop
  | .un => True
  | .v w => ∃ v, s = some v ∧ RepW K (MO M O) b H v w ∧ (w.isL = true → ∀ a, O a → v ≠ .ref a)
  | .own xs => ∃ p vs, s = some (.ref p) ∧ O p ∧ H p = some (.lst vs) ∧ DqAll K (Fz (MO M O) H) vs xs
structure ER (K : PySem.W.Frag) (M0 : Addr → Prop) (b : BP) (H0 : Hp) (O : Addr → Prop) (σ : LSt) (H : Hp) (env : En) : Prop where
  mb : MB b M0
  mc : M0 b.2
  dom : ∀ a, M0 a → H0 a ≠ none
  frm : Frm b H0 H
  bag : Bag b H
  len : σ.length = env.length
  own : ∀ a, O a → H0 a = none ∧ ∃ xs, H a = some (.lst xs)
  slot : ∀ (i : Nat) (s : Option V) (e : E), σ[i]? = some s → env[i]? = some e → SlotOk K M0 O b H s e
  uniq : ∀ (i j : Nat) (p : Addr) (xs ys : List PD), σ[i]? = some (some (V.ref p)) → σ[j]? = some (some (V.ref p)) → env[i]? = some (E.own xs) → env[j]? = some (E.own ys) → i = j

section
variable {K : PySem.W.Frag} {M0 M O : Addr → Prop} {b : BP} {H0 H H' : Hp} {σ : LSt} {env : En}
theorem SlotOk.frm {s : Option V} {e : E} (r : SlotOk K M O b H s e) (x : Frm b H H') (mb : MB b M) (nb : ∀ a, O a → Off b a) : SlotOk K M O b H' s e := by
  cases e with
  | un => trivial
  | v w =>
    obtain ⟨v, e, q, n⟩ := r
    exact ⟨v, e, q.frm x ⟨.inl mb.1, .inl mb.2⟩, n⟩
  | own xs =>
    obtain ⟨p, vs, e, o, h, q⟩ := r
    exact ⟨p, vs, e, o, x p _ (nb p o) h, dpAll_mono (x.fz ⟨.inl mb.1, .inl mb.2⟩) _ _ q⟩
theorem ER.nb (r : ER K M0 b H0 O σ H env) : ∀ a, O a → Off b a := fun a o => ⟨fun z => r.dom b.1 r.mb.1 (z ▸ (r.own a o).1), fun z => r.dom b.3 r.mb.2 (z ▸ (r.own a o).1)⟩
theorem ER.mbO (r : ER K M0 b H0 O σ H env) : MB b (MO M0 O) := ⟨.inl r.mb.1, .inl r.mb.2⟩
theorem ER.domO (r : ER K M0 b H0 O σ H env) : ∀ a, MO M0 O a → H a ≠ none := by
  rintro a (m | o)
  · by_cases e : a = b.1
    · subst e
      exact r.bag.there
    · by_cases e3 : a = b.3
      · subst e3
        exact r.bag.there3
      · cases q : H0 a with
        | none => exact (r.dom a m q).elim
        | some u =>
          rw [r.frm a u ⟨e, e3⟩ q]
          exact fun z => nomatch z
  · obtain ⟨xs, e⟩ := (r.own a o).2
    rw [e]
    exact fun z => nomatch z
/-- behind what changes the bag alone -/
theorem ER.after (r : ER K M0 b H0 O σ H env) (x : Frm b H H') (g : Bag b H') : ER K M0 b H0 O σ H' env := by
  refine ⟨r.mb, r.mc, r.dom, r.frm.trans x, g, r.len, fun a o => ⟨(r.own a o).1, ?_⟩, fun i s e ez1 ez2 => (r.slot i s e ez1 ez2).frm x r.mb r.nb, r.uniq⟩
  obtain ⟨xs, e⟩ := (r.own a o).2
  exact ⟨xs, x a _ (r.nb a o) e⟩
end
end DD

set_option maxHeartbeats 3999999
/-! readings of expressions, as data -/
namespace DD
open PySem PySem.Spec PyProof.Rows L2 GG
abbrev Wm := En → (W → Prop) → Prop
abbrev Wl := En → (List W → Prop) → Prop
abbrev Wf := En → (List PD → Prop) → Prop
abbrev Wt := En → (Bool → Prop) → Prop
section
variable (K : PySem.W.Frag) (b : BP)
/-- the reading t comes to what m says -/
def Snd (t : TE) (m : Wm) : Prop := ∀ (M0 : Addr → Prop) (H0 : Hp) (O : Addr → Prop) (σ : LSt) (H : Hp) (env : En), ER K M0 b H0 O σ H env → ∀ Qa : W → Prop, m env Qa →
  ∀ Q : VK, (∀ v w H', Frm b H H' → Bag b H' → RepW K (MO M0 O) b H' v w → Qa w → Q v H') → t σ H Q
/-- .. a new list -/
def SndF (t : TE) (m : Wf) : Prop := ∀ (M0 : Addr → Prop) (H0 : Hp) (O : Addr → Prop) (σ : LSt) (H : Hp) (env : En), ER K M0 b H0 O σ H env → ∀ Qa : List PD → Prop, m env Qa →
  ∀ Q : VK, (∀ v xs H', Frm b H H' → Bag b H' → RepF K (MO M0 O) H H' v xs → Qa xs → Q v H') → t σ H Q
/-- arguments -/
def SndA (t : TA) (m : Wl) : Prop := ∀ (M0 : Addr → Prop) (H0 : Hp) (O : Addr → Prop) (σ : LSt) (H : Hp) (env : En), ER K M0 b H0 O σ H env → ∀ Qa : List W → Prop, m env Qa →
  ∀ Q : List V → Hp → Prop, (∀ vs ws H', Frm b H H' → Bag b H' → Paired (RepW K (MO M0 O) b H') vs ws → Qa ws → Q vs H') → t σ H Q
/-- a test -/
def SndT (t : TT) (m : Wt) : Prop := ∀ (M0 : Addr → Prop) (H0 : Hp) (O : Addr → Prop) (σ : LSt) (H : Hp) (env : En), ER K M0 b H0 O σ H env → ∀ Qa : Bool → Prop, m env Qa →
  ∀ Q : Bool → Hp → Prop, (∀ c H', Frm b H H' → Bag b H' → Qa c → Q c H') → t σ H Q
end
section
variable {K : PySem.W.Frag} {b : BP} {t ta tbz te : TE} {tt uu : TT} {tas : TA} {m ma mb : Wm} {ms : Wl} {mt mu : Wt} {mf mg : Wf}
/-! what a name is worth -/
def rdE : Option E → Option W
  | some (.v w) => some w
  | some (.own xs) => some (.l xs)
  | _ => none
def varW (i : Nat) : Wm := fun env Q => ∃ w, rdE env[i]? = some w ∧ Q w
theorem snd_var {i : Nat} : Snd K b (tVar i) (varW i) := by
  intro M0 H0 O σ H env r Qa h Q k
  obtain ⟨w, e, q⟩ := h
  cases ee : env[i]? with
  | none =>
    rw [ee] at e
    cases e
  | some x =>
    rw [ee] at e
    have hi : i < σ.length := by
      rw [r.len]
      exact (List.getElem?_eq_some_iff.mp ee).1
    have so := r.slot i _ x (List.getElem?_eq_getElem hi) ee
    cases x with
    | un => cases e
    | v w' =>
      obtain rfl := Option.some.inj e
      obtain ⟨v, ev, rp, _⟩ := so
      exact ⟨v, by rw [List.getElem?_eq_getElem hi, ev], k v w' H (Frm.refl _ _) r.bag rp q⟩
    | own xs =>
      obtain rfl := Option.some.inj e
      obtain ⟨p, vs, ev, o, hpz, dp⟩ := so
      exact ⟨.ref p, by rw [List.getElem?_eq_getElem hi, ev], k _ (.l xs) H (Frm.refl _ _) r.bag ⟨p, vs, rfl, r.nb p o, hpz, dp⟩ q⟩
def conW (d : PD) : Wm := fun _ Q => Q (.d d)
theorem snd_int {i : Int} : Snd K b (tC (.int i)) (conW (.int i)) := fun _ _ _ _ H _ r _ h _ k => k _ (.d (.int i)) H (Frm.refl _ _) r.bag (Dq.int i) h
theorem snd_str {x : Str} : Snd K b (tC (.str x)) (conW (.str x)) := fun _ _ _ _ H _ r _ h _ k => k _ (.d (.str x)) H (Frm.refl _ _) r.bag (Dq.str x) h
theorem snd_bl {x : Bool} : Snd K b (tC (.bl x)) (conW (.bool x)) := fun _ _ _ _ H _ r _ h _ k => k _ (.d (.bool x)) H (Frm.refl _ _) r.bag (Dq.bl x) h
theorem snd_non : Snd K b (tC .non) (conW .none) := fun _ _ _ _ H _ r _ h _ k => k _ (.d .none) H (Frm.refl _ _) r.bag Dq.non h
/-! arguments -/
def nilW : Wl := fun _ Q => Q []
def consW (ma : Wm) (ms : Wl) : Wl := fun env Q => ma env fun w => ms env fun ws => Q (w :: ws)
theorem snd_nil : SndA K b tNil nilW := fun _ _ _ _ H _ r _ h _ k => k [] [] H (Frm.refl _ _) r.bag .nil h
theorem snd_cons (haz : Snd K b ta ma) (hsv0 : SndA K b tas ms) : SndA K b (tCons ta tas) (consW ma ms) := by
  intro M0 H0 O σ H env r Qa h Q k
  refine haz M0 H0 O σ H env r _ h _ ?_
  intro v w H1 f1 g1 r1 h1
  refine hsv0 M0 H0 O σ H1 env (r.after f1 g1) _ h1 _ ?_
  intro vs ws H2 f2 g2 r2 h2
  exact k _ _ H2 (f1.trans f2) g2 (.cons (r1.frm f2 r.mbO) r2) h2
/-- a new list, as data -/
def frzW (mf : Wf) : Wm := fun env Q => mf env fun xs => Q (.d (.list xs))
theorem snd_frz (h : SndF K b t mf) : Snd K b t (frzW mf) := by
  intro M0 H0 O σ H env r Qa hmz Q k
  refine h M0 H0 O σ H env r _ hmz _ ?_
  intro v xs H' f g rp q
  exact k v (.d (.list xs)) H' f g (rp.still r.domO) q
/-! displays -/
def allD : List W → Option (List PD)
  | [] => some []
  | .d x :: ws => (allD ws).map (x :: ·)
  | _ :: _ => none
theorem allD_rep {M : Addr → Prop} {H : Hp} : ∀ {vs : List V} {ws : List W} {ds : List PD}, Paired (RepW K M b H) vs ws → allD ws = some ds → DqAll K (Fz M H) vs ds
  | _, _, _, .nil, e => by
    obtain rfl := Option.some.inj e
    exact .nil
  | _, w :: ws, ds, .cons r s, e => by
    cases w with
    | d x =>
      cases q : allD ws with
      | none =>
        simp only [allD, q] at e
        cases e
      | some es =>
        simp only [allD, q] at e
        obtain rfl := Option.some.inj e
        exact .cons r (allD_rep s q)
    | l xs => cases e
    | bag => cases e
def tupW (ms : Wl) : Wm := fun env Q => ms env fun ws => ∃ ds, allD ws = some ds ∧ ds.length ≤ sizeLine ∧ Q (.d (.tuple ds))
theorem fz_new {M : Addr → Prop} {H : Hp} {p : Addr} {o : HO} (n : H p = none) : Same (Fz M H) (Fz M (upd H p o)) := fz_same fun a u z e => ⟨z, by rw [upd_ne (ne_of_none e n)]; exact e⟩
theorem TupD.of {M : Addr → Prop} {H : Hp} {p : Addr} {xs : List V} {o : Obj} (np : ¬ M p) (d : o.dict = none) (c : o.cls = .type "tuple") : TupD K (Fz M (upd H p (.frz o (.tup xs)))) p xs :=
  .inl ⟨o, fz_iff.mpr ⟨np, upd_same⟩, d, c⟩
theorem snd_tup (h : SndA K b tas ms) : Snd K b (tTupZ tas) (tupW ms) := by
  intro M0 H0 O σ H env r Qa hmz Q k
  refine h M0 H0 O σ H env r _ hmz _ ?_
  intro vs ws H' f g rp ⟨ds, e, hzz, q⟩
  have dp := allD_rep rp e
  refine ⟨by rw [dpAll_len dp]; exact hzz, fun p o hpz hdz hc => ?_⟩
  have np : ¬ MO M0 O p := fun z => (r.after f g).domO p z hpz
  exact k _ (.d (.tuple ds)) _ (f.trans (Frm.new hpz)) (g.new hpz) (Dq.tup (TupD.of np hdz hc) (dpAll_mono (fz_new hpz) _ _ dp)) q
def lstW (ms : Wl) : Wf := fun env Q => ms env fun ws => ∃ ds, allD ws = some ds ∧ ds.length ≤ sizeLine ∧ Q ds
theorem snd_lst (h : SndA K b tas ms) : SndF K b (tLst tas) (lstW ms) := by
  intro M0 H0 O σ H env r Qa hmz Q k
  refine h M0 H0 O σ H env r _ hmz _ ?_
  intro vs ws H' f g rp ⟨ds, e, hzz, q⟩
  have dp := allD_rep rp e
  refine ⟨by rw [dpAll_len dp]; exact hzz, fun p hpz => ?_⟩
  have pb : Off b p := g.off hpz
  refine k _ ds _ (f.trans (Frm.new hpz)) (g.new hpz) ⟨p, vs, rfl, f.free hpz pb, upd_same, ?_⟩ q
  refine dpAll_mono (fz_same ?_) _ _ dp
  intro a o z e
  have nap : a ≠ p := ne_of_none e hpz
  refine ⟨?_, by rw [upd_ne nap]; exact e⟩
  rintro (m | m)
  · exact z m
  · exact nap m
/-! two operands -/
def opW (f : W → W → (W → Prop) → Prop) (ma mb : Wm) : Wm := fun env Q => ma env fun x => mb env fun y => f x y Q
/-- an operation on values, as data: it changes nothing but new places -/
def RV2 (K : PySem.W.Frag) (b : BP) (r : R2) (f : W → W → (W → Prop) → Prop) : Prop := ∀ (M : Addr → Prop) (H : Hp) (x y : V) (wx wy : W), MB b M → (∀ a, M a → H a ≠ none) → Bag b H → RepW K M b H x wx → RepW K M b H y wy → ∀ Qa, f wx wy Qa →
  ∀ Q : VK, (∀ v w H', Frm b H H' → Bag b H' → RepW K M b H' v w → Qa w → Q v H') → r x y H Q
theorem snd_op {r2 : R2} {f : W → W → (W → Prop) → Prop} (hr : RV2 K b r2 f) (haz : Snd K b ta ma) (hb : Snd K b tbz mb) : Snd K b (tOp r2 ta tbz) (opW f ma mb) := by
  intro M0 H0 O σ H env r Qa h Q k
  refine haz M0 H0 O σ H env r _ h _ ?_
  intro v w H1 f1 g1 r1 h1
  refine hb M0 H0 O σ H1 env (r.after f1 g1) _ h1 _ ?_
  intro u w' H2 f2 g2 r2 h2
  refine hr (MO M0 O) H2 v u w w' r.mbO ((r.after f1 g1).after f2 g2).domO g2 (r1.frm f2 r.mbO) r2 _ h2 _ ?_
  intro z wz H3 f3 g3 r3 q
  exact k z wz H3 ((f1.trans f2).trans f3) g3 r3 q
/-- == at any depth -/
def eqF (x y : W) (Q : W → Prop) : Prop := ∃ d e, x.py = some d ∧ y.py = some e ∧ SeqAt.shaped d = true ∧ SeqAt.shaped e = true ∧ Q (.d (.bool (PyData.eqv d e)))
def neF (x y : W) (Q : W → Prop) : Prop := ∃ d e, x.py = some d ∧ y.py = some e ∧ SeqAt.shaped d = true ∧ SeqAt.shaped e = true ∧ Q (.d (.bool (!PyData.eqv d e)))
theorem rv_eqD : RV2 K b (rEqD K) eqF := by
  intro M H x y wx wy mb dom g rxz ryz Qa h Q k
  obtain ⟨d, e, ez1, ez2, s1, s2, q⟩ := h
  exact ⟨d, e, rxz.py ez1 (noD_shaped s1), ryz.py ez2 (noD_shaped s2), s1, s2, k _ (.d (.bool _)) H (Frm.refl _ _) g (Dq.bl _) q⟩
theorem rv_neD : RV2 K b (rNeD K) neF := by
  intro M H x y wx wy mb dom g rxz ryz Qa h Q k
  obtain ⟨d, e, ez1, ez2, s1, s2, q⟩ := h
  exact ⟨d, e, rxz.py ez1 (noD_shaped s1), ryz.py ez2 (noD_shaped s2), s1, s2, k _ (.d (.bool _)) H (Frm.refl _ _) g (Dq.bl _) q⟩
/-- on ints -/
def iiF (C : Int → Int → Prop) (f : Int → Int → PD) (x y : W) (Q : W → Prop) : Prop := ∃ i j, x = .d (.int i) ∧ y = .d (.int j) ∧ C i j ∧ Q (.d (f i j))
theorem repInt {M : Addr → Prop} {H : Hp} {v : V} {i : Int} (r : RepW K M b H v (.d (.int i))) : v = .int i := by
  have r' : Dq K (Fz M H) v (.int i) := r
  cases r'
  rfl
theorem rv_ii0 {g : Int → Int → V} {f : Int → Int → PD} (hdz : ∀ H i j, Dq K H (g i j) (f i j)) : RV2 K b (rI0 g) (iiF (fun _ _ => True) f) := by
  intro M H x y wx wy mb dom gb rxz ryz Qa h Q k
  obtain ⟨i, j, rfl, rfl, _, q⟩ := h
  exact ⟨i, j, repInt rxz, repInt ryz, k _ (.d (f i j)) H (Frm.refl _ _) gb (hdz _ i j) q⟩
theorem rv_ii {C : Int → Int → Prop} {g : Int → Int → V} {f : Int → Int → PD} (hdz : ∀ H i j, Dq K H (g i j) (f i j)) : RV2 K b (rI C g) (iiF C f) := by
  intro M H x y wx wy mb dom gb rxz ryz Qa h Q k
  obtain ⟨i, j, rfl, rfl, c, q⟩ := h
  exact ⟨i, j, repInt rxz, repInt ryz, c, k _ (.d (f i j)) H (Frm.refl _ _) gb (hdz _ i j) q⟩
/-! tests -/
def testW (m : Wm) : Wt := fun env Q => m env fun w => ∃ c, w = .d (.bool c) ∧ Q c
theorem repBool {M : Addr → Prop} {H : Hp} {v : V} {c : Bool} (r : RepW K M b H v (.d (.bool c))) : v = .bl c := by
  have r' : Dq K (Fz M H) v (.bool c) := r
  cases r'
  rfl
theorem snd_test (h : Snd K b te m) : SndT K b (tTest te) (testW m) := by
  intro M0 H0 O σ H env r Qa hmz Q k
  refine h M0 H0 O σ H env r _ hmz _ ?_
  rintro v w H' f g rp ⟨c, rfl, q⟩
  exact ⟨c, repBool rp, k c H' f g q⟩
theorem snd_tB (h : Snd K b te m) : SndT K b (tB te) (testW m) := by
  intro M0 H0 O σ H env r Qa hmz Q k
  refine h M0 H0 O σ H env r _ hmz _ ?_
  rintro v w H' f g rp ⟨c, rfl, q⟩
  exact ⟨c, repBool rp, k c H' f g q⟩
def andW (mt mu : Wt) : Wt := fun env Q => mt env fun c => if c = true then mu env Q else Q false
def orW (mt mu : Wt) : Wt := fun env Q => mt env fun c => if c = true then Q true else mu env Q
def notW (mt : Wt) : Wt := fun env Q => mt env fun c => Q (!c)
theorem snd_and (h1 : SndT K b tt mt) (h2 : SndT K b uu mu) : SndT K b (tAnd tt uu) (andW mt mu) := by
  intro M0 H0 O σ H env r Qa hmz Q k
  refine h1 M0 H0 O σ H env r _ hmz _ ?_
  intro c H1 f1 g1 q1
  cases c with
  | true => exact h2 M0 H0 O σ H1 env (r.after f1 g1) _ q1 _ fun c H2 f2 g2 q2 => k c H2 (f1.trans f2) g2 q2
  | false => exact k false H1 f1 g1 q1
theorem snd_or (h1 : SndT K b tt mt) (h2 : SndT K b uu mu) : SndT K b (tOr tt uu) (orW mt mu) := by
  intro M0 H0 O σ H env r Qa hmz Q k
  refine h1 M0 H0 O σ H env r _ hmz _ ?_
  intro c H1 f1 g1 q1
  cases c with
  | true => exact k true H1 f1 g1 q1
  | false => exact h2 M0 H0 O σ H1 env (r.after f1 g1) _ q1 _ fun c H2 f2 g2 q2 => k c H2 (f1.trans f2) g2 q2
theorem snd_not (h1 : SndT K b tt mt) : SndT K b (tNot tt) (notW mt) := by
  intro M0 H0 O σ H env r Qa hmz Q k
  exact h1 M0 H0 O σ H env r _ hmz _ fun c H1 f1 g1 q1 => k _ H1 f1 g1 q1
def ifW (mt : Wt) (ma mb : Wm) : Wm := fun env Q => mt env fun c => if c = true then ma env Q else mb env Q
theorem snd_if (h1 : SndT K b tt mt) (haz : Snd K b ta ma) (hb : Snd K b tbz mb) : Snd K b (tIf tt ta tbz) (ifW mt ma mb) := by
  intro M0 H0 O σ H env r Qa hmz Q k
  refine h1 M0 H0 O σ H env r _ hmz _ ?_
  intro c H1 f1 g1 q1
  cases c with
  | true => exact haz M0 H0 O σ H1 env (r.after f1 g1) _ q1 _ fun v w H2 f2 g2 r2 q2 => k v w H2 (f1.trans f2) g2 r2 q2
  | false => exact hb M0 H0 O σ H1 env (r.after f1 g1) _ q1 _ fun v w H2 f2 g2 r2 q2 => k v w H2 (f1.trans f2) g2 r2 q2
/-- True, False by `and`, `or`, `not` -/
def andVW (ma mb : Wm) : Wm := fun env Q => ma env fun x => ∃ c, x = .d (.bool c) ∧ if c = true then mb env Q else Q (.d (.bool false))
def orVW (ma mb : Wm) : Wm := fun env Q => ma env fun x => ∃ c, x = .d (.bool c) ∧ if c = true then Q (.d (.bool true)) else mb env Q
def notVW (ma : Wm) : Wm := fun env Q => ma env fun x => ∃ c, x = .d (.bool c) ∧ Q (.d (.bool !c))
theorem snd_andV (haz : Snd K b ta ma) (hb : Snd K b tbz mb) : Snd K b (tAndV ta tbz) (andVW ma mb) := by
  intro M0 H0 O σ H env r Qa hmz Q k
  refine haz M0 H0 O σ H env r _ hmz _ ?_
  rintro v w H1 f1 g1 r1 ⟨c, rfl, q1⟩
  refine ⟨c, repBool r1, ?_⟩
  cases c with
  | true => exact hb M0 H0 O σ H1 env (r.after f1 g1) _ q1 _ fun v w H2 f2 g2 r2 q2 => k v w H2 (f1.trans f2) g2 r2 q2
  | false => exact k _ (.d (.bool false)) H1 f1 g1 (Dq.bl _) q1
theorem snd_orV (haz : Snd K b ta ma) (hb : Snd K b tbz mb) : Snd K b (tOrV ta tbz) (orVW ma mb) := by
  intro M0 H0 O σ H env r Qa hmz Q k
  refine haz M0 H0 O σ H env r _ hmz _ ?_
  rintro v w H1 f1 g1 r1 ⟨c, rfl, q1⟩
  refine ⟨c, repBool r1, ?_⟩
  cases c with
  | true => exact k _ (.d (.bool true)) H1 f1 g1 (Dq.bl _) q1
  | false => exact hb M0 H0 O σ H1 env (r.after f1 g1) _ q1 _ fun v w H2 f2 g2 r2 q2 => k v w H2 (f1.trans f2) g2 r2 q2
theorem snd_notV (haz : Snd K b ta ma) : Snd K b (tNotV ta) (notVW ma) := by
  intro M0 H0 O σ H env r Qa hmz Q k
  refine haz M0 H0 O σ H env r _ hmz _ ?_
  rintro v w H1 f1 g1 r1 ⟨c, rfl, q1⟩
  exact ⟨c, repBool r1, k _ (.d (.bool !c)) H1 f1 g1 (Dq.bl _) q1⟩
end
end DD

set_option maxHeartbeats 3999999
/-! readings of statements and of calls, as data -/
namespace DD
open PySem PySem.Spec PyProof.Rows L2 GG
inductive Out where
  | nx (env : En)
  | rt (w : W)
  | rf (xs : List PD)
  | bk (env : En)
  | ct (env : En)
abbrev Ws := En → (Out → Prop) → Prop
/-- what follows, where all that stood still stands -/
def Nxt (K : PySem.W.Frag) (M0 : Addr → Prop) (b : BP) (H0 : Hp) (O : Addr → Prop) (H : Hp) (Qa : En → Prop) (P : LSt → Hp → Prop) : Prop :=
  ∀ O' σ' H' env', ER K M0 b H0 O' σ' H' env' → Same (Fz (MO M0 O) H) (Fz (MO M0 O') H') → Qa env' → P σ' H'
def SndS (K : PySem.W.Frag) (b : BP) (t : TS) (m : Ws) : Prop := ∀ (M0 : Addr → Prop) (H0 : Hp) (O : Addr → Prop) (σ : LSt) (H : Hp) (env : En), ER K M0 b H0 O σ H env → ∀ Qa : Out → Prop, m env Qa →
  ∀ D : Ends, Nxt K M0 b H0 O H (fun e => Qa (.nx e)) D.nx → Nxt K M0 b H0 O H (fun e => Qa (.bk e)) D.bk → Nxt K M0 b H0 O H (fun e => Qa (.ct e)) D.ct →
  (∀ v w H', Frm b H0 H' → Bag b H' → RepW K M0 b H' v w → Qa (.rt w) → D.rt v H') → (∀ v xs H', Frm b H0 H' → Bag b H' → RepF K M0 H0 H' v xs → Qa (.rf xs) → D.rt v H') → t D σ H
/-- what a loop hands on: data, or a new pair of data -/
inductive WI where
  | d (x : PD)
  | p (x y : PD)
def WI.parts : WI → Option (List PD)
  | .d (.tuple ds) => some ds
  | .p x y => some [x, y]
  | _ => none
def RepI (K : PySem.W.Frag) (M : Addr → Prop) (H : Hp) (v : V) : WI → Prop
  | .d x => Dq K (Fz M H) v x
  | .p x y => ∃ T vx vy, v = .ref T ∧ SqT K H T [vx, vy] ∧ Dq K (Fz M H) vx x ∧ Dq K (Fz M H) vy y
/-- a target that takes data -/
abbrev Wg := WI → En → (En → Prop) → Prop
abbrev Wgs := List PD → En → (En → Prop) → Prop
def SndG (K : PySem.W.Frag) (b : BP) (g : TG) (m : Wg) : Prop := ∀ (M0 : Addr → Prop) (H0 : Hp) (O : Addr → Prop) (σ : LSt) (H : Hp) (env : En) (v : V) (d : WI), ER K M0 b H0 O σ H env → RepI K (MO M0 O) H v d → ∀ Qa : En → Prop, m d env Qa →
  ∀ Q : LSt → Hp → Prop, (∀ σ' env', ER K M0 b H0 O σ' H env' → Qa env' → Q σ' H) → g v σ H Q
def SndGs (K : PySem.W.Frag) (b : BP) (g : TGs) (m : Wgs) : Prop := ∀ (M0 : Addr → Prop) (H0 : Hp) (O : Addr → Prop) (σ : LSt) (H : Hp) (env : En) (vs : List V) (ds : List PD), ER K M0 b H0 O σ H env → DqAll K (Fz (MO M0 O) H) vs ds → ∀ Qa : En → Prop, m ds env Qa →
  ∀ Q : LSt → Hp → Prop, (∀ σ' env', ER K M0 b H0 O σ' H env' → Qa env' → Q σ' H) → g vs σ H Q
section
variable {K : PySem.W.Frag} {b : BP} {M0 O : Addr → Prop} {H0 H H' : Hp} {σ : LSt} {env : En}
/-- a slot takes a value that is no own list -/
theorem ER.put (r : ER K M0 b H0 O σ H env) {v : V} {w : W} (i : Nat) (rp : RepW K (MO M0 O) b H v w) (nl : w.isL = false) : ER K M0 b H0 O (σ.set i (some v)) H (env.set i (.v w)) := by
  refine ⟨r.mb, r.mc, r.dom, r.frm, r.bag, by rw [List.length_set, List.length_set, r.len], r.own, ?_, ?_⟩
  · intro j s e h1 h2
    by_cases ij : i = j
    · subst ij
      have hi : i < σ.length := by
        have := (List.getElem?_eq_some_iff.mp h1).1
        rwa [List.length_set] at this
      rw [List.getElem?_set_self hi] at h1
      rw [List.getElem?_set_self (r.len ▸ hi)] at h2
      obtain rfl := Option.some.inj h1
      obtain rfl := Option.some.inj h2
      exact ⟨v, rfl, rp, fun z => by rw [nl] at z; cases z⟩
    · rw [List.getElem?_set_ne ij] at h1 h2
      exact r.slot j s e h1 h2
  · intro j k p xs ys h1 h2 h3 h4
    have other : ∀ (j : Nat) (zs : List PD), (env.set i (.v w))[j]? = some (.own zs) → i ≠ j := by
      intro j zs h e
      subst e
      by_cases hi : i < env.length
      · rw [List.getElem?_set_self hi] at h
        cases h
      · rw [List.getElem?_eq_none_iff.mpr (by rw [List.length_set]; omega)] at h
        cases h
    have nj := other j _ h3
    have nk := other k _ h4
    rw [List.getElem?_set_ne nj] at h1 h3
    rw [List.getElem?_set_ne nk] at h2 h4
    exact r.uniq j k p xs ys h1 h2 h3 h4
/-- a slot takes a new list: itz own from now on -/
theorem ER.make (r : ER K M0 b H0 O σ H env) {v : V} {xs : List PD} (i : Nat) (x : Frm b H H') (g : Bag b H') (rp : RepF K (MO M0 O) H H' v xs) :
    ∃ p, v = .ref p ∧ ER K M0 b H0 (fun a => O a ∨ a = p) (σ.set i (some v)) H' (env.set i (.own xs)) ∧ Same (Fz (MO M0 O) H) (Fz (MO M0 fun a => O a ∨ a = p) H') := by
  obtain ⟨p, vs, rfl, np, hpz, dp⟩ := rp
  refine ⟨p, rfl, ?_⟩
  have r' := r.after x g
  have pb : Off b p := r.bag.off np
  have n0 : H0 p = none := r.frm.free np pb
  have mo : ∀ a, MO (MO M0 O) (fun a => a = p) a ↔ MO M0 (fun a => O a ∨ a = p) a := fun a => or_assoc
  have fzs : Same (Fz (MO M0 O) H) (Fz (MO M0 fun a => O a ∨ a = p) H') := fz_same fun a o n e => by
    have nap : a ≠ p := ne_of_none e np
    refine ⟨?_, x a o ⟨fun z => n (.inl (z ▸ r.mb.1)), fun z => n (.inl (z ▸ r.mb.2))⟩ e⟩
    rintro (m | m | m)
    · exact n (.inl m)
    · exact n (.inr m)
    · exact nap m
  refine ⟨?_, fzs⟩
  -- what stood before H' at a slot
  have oldz : ∀ (s : Option V) (e : E), SlotOk K M0 O b H s e → SlotOk K M0 (fun a => O a ∨ a = p) b H' s e := by
    intro s e so
    cases e with
    | un => trivial
    | v w =>
      obtain ⟨v, e, rw', nl⟩ := so
      cases w with
      | d y => exact ⟨v, e, dp_mono fzs _ _ rw', fun z => by cases z⟩
      | l ys =>
        obtain ⟨a, us, ez1, nb, haz, da⟩ := rw'
        refine ⟨v, e, ⟨a, us, ez1, nb, x a _ nb haz, dpAll_mono fzs _ _ da⟩, fun _ c oc z => ?_⟩
        rcases oc with oc | oc
        · exact nl rfl c oc z
        · rw [ez1] at z
          obtain rfl := V.ref.inj z
          subst oc
          rw [np] at haz
          cases haz
      | bag => exact ⟨v, e, rw', fun z => by cases z⟩
    | own ys =>
      obtain ⟨q, us, ez1, oq, hqz, dq⟩ := so
      exact ⟨q, us, ez1, .inl oq, x q _ (r.nb q oq) hqz, dpAll_mono fzs _ _ dq⟩
  refine ⟨r.mb, r.mc, r.dom, r'.frm, g, by rw [List.length_set, List.length_set, r.len], ?_, ?_, ?_⟩
  · rintro a (o | rfl)
    · exact r'.own a o
    · exact ⟨n0, vs, hpz⟩
  · intro j s e h1 h2
    by_cases ij : i = j
    · subst ij
      have hi : i < σ.length := by
        have := (List.getElem?_eq_some_iff.mp h1).1
        rwa [List.length_set] at this
      rw [List.getElem?_set_self hi] at h1
      rw [List.getElem?_set_self (r.len ▸ hi)] at h2
      obtain rfl := Option.some.inj h1
      obtain rfl := Option.some.inj h2
      refine ⟨p, vs, rfl, .inr rfl, hpz, dpAll_mono (fz_same fun a o n e => ⟨fun z => n ((mo a).mpr z), e⟩) _ _ dp⟩
    · rw [List.getElem?_set_ne ij] at h1 h2
      exact oldz s e (r.slot j s e h1 h2)
  · have fresh : ∀ (j : Nat) (q : Addr) (zs : List PD), i ≠ j → σ[j]? = some (some (V.ref q)) → env[j]? = some (E.own zs) → q ≠ p := by
      intro j q zs ij h1 h2 e
      subst e
      obtain ⟨q', us, ez1, oq, hqz, dq⟩ := r.slot j _ _ h1 h2
      obtain rfl := V.ref.inj (Option.some.inj ez1)
      rw [np] at hqz
      cases hqz
    intro j k q ys zs h1 h2 h3 h4
    by_cases ij : i = j
    · subst ij
      by_cases ik : i = k
      · exact ik
      · have hi : i < σ.length := by
          have := (List.getElem?_eq_some_iff.mp h1).1
          rwa [List.length_set] at this
        rw [List.getElem?_set_self hi] at h1
        rw [List.getElem?_set_ne ik] at h2 h4
        have e : p = q := V.ref.inj (Option.some.inj (Option.some.inj h1))
        exact (fresh k q zs ik h2 h4 e.symm).elim
    · by_cases ik : i = k
      · subst ik
        have hi : i < σ.length := by
          have := (List.getElem?_eq_some_iff.mp h2).1
          rwa [List.length_set] at this
        rw [List.getElem?_set_self hi] at h2
        rw [List.getElem?_set_ne ij] at h1 h3
        have e : p = q := V.ref.inj (Option.some.inj (Option.some.inj h2))
        exact (fresh j q ys ij h1 h3 e.symm).elim
      · rw [List.getElem?_set_ne ij] at h1 h3
        rw [List.getElem?_set_ne ik] at h2 h4
        exact r.uniq j k q ys zs h1 h2 h3 h4
/-- an own list is changed -/
theorem ER.change (r : ER K M0 b H0 O σ H env) {i : Nat} {xs ys : List PD} {p : Addr} {us : List V} (hsv0 : σ[i]? = some (some (.ref p))) (hez : env[i]? = some (.own xs)) (dp : DqAll K (Fz (MO M0 O) H) us ys) : ER K M0 b H0 O σ (upd H p (.lst us)) (env.set i (.own ys)) ∧ Same (Fz (MO M0 O) H) (Fz (MO M0 O) (upd H p (.lst us))) := by
  obtain ⟨p', vs, ez1, op, hpz, _⟩ := r.slot i _ _ hsv0 hez
  obtain rfl := V.ref.inj (Option.some.inj ez1)
  have pb := r.nb p op
  have p0 := (r.own p op).1
  have pc : p ≠ b.2 := fun z => r.dom b.2 r.mc (z ▸ p0)
  have fzs : Same (Fz (MO M0 O) H) (Fz (MO M0 O) (upd H p (.lst us))) := fz_same fun a o n e => by
    have nap : a ≠ p := fun z => n (.inr (z ▸ op))
    exact ⟨n, by rw [upd_ne nap]; exact e⟩
  refine ⟨?_, fzs⟩
  refine ⟨r.mb, r.mc, r.dom, ?_, r.bag.stay (upd_ne pb.1.symm) (upd_ne pc.symm) (by rw [upd_ne pb.2.symm]; exact r.bag.there3) (tabs_lst hpz) (nt_upd (by intro _ z; cases z)), by rw [List.length_set, r.len], ?_, ?_, ?_⟩
  · intro a o n e
    rw [upd_ne (ne_of_none e p0)]
    exact r.frm a o n e
  · intro a o
    refine ⟨(r.own a o).1, ?_⟩
    by_cases ap : a = p
    · subst ap
      exact ⟨us, upd_same⟩
    · rw [upd_ne ap]
      exact (r.own a o).2
  · intro j s e h1 h2
    by_cases ij : i = j
    · subst ij
      rw [List.getElem?_set_self (List.getElem?_eq_some_iff.mp hez).1] at h2
      obtain rfl := Option.some.inj h2
      rw [hsv0] at h1
      obtain rfl := Option.some.inj h1
      exact ⟨p, us, rfl, op, upd_same, dpAll_mono fzs _ _ dp⟩
    · rw [List.getElem?_set_ne ij] at h2
      have so := r.slot j s e h1 h2
      cases e with
      | un => trivial
      | v w =>
        obtain ⟨v, e, rw', nl⟩ := so
        refine ⟨v, e, ?_, nl⟩
        cases w with
        | d y => exact dp_mono fzs _ _ rw'
        | l zs =>
          obtain ⟨a, vs', ez1, nb, haz, da⟩ := rw'
          have ap : a ≠ p := fun z => nl rfl p op (by rw [ez1, z])
          exact ⟨a, vs', ez1, nb, by rw [upd_ne ap]; exact haz, dpAll_mono fzs _ _ da⟩
        | bag => exact rw'
      | own zs =>
        obtain ⟨q, vs', es, oq, hqz, dq⟩ := so
        have qp : q ≠ p := fun z => by
          subst z
          rw [es] at h1
          exact ij (r.uniq i j q xs zs hsv0 h1 hez h2)
        exact ⟨q, vs', es, oq, by rw [upd_ne qp]; exact hqz, dpAll_mono fzs _ _ dq⟩
  · intro j k q ys' zs h1 h2 h3 h4
    have back : ∀ (j : Nat) (zs : List PD), (env.set i (.own ys))[j]? = some (.own zs) → ∃ zs', env[j]? = some (.own zs') := by
      intro j zs h
      by_cases ij : i = j
      · subst ij
        exact ⟨xs, hez⟩
      · rw [List.getElem?_set_ne ij] at h
        exact ⟨zs, h⟩
    obtain ⟨_, h3⟩ := back j _ h3
    obtain ⟨_, h4⟩ := back k _ h4
    exact r.uniq j k q _ _ h1 h2 h3 h4
/-- an own list stands still from now on -/
def relE : E → E
  | .own xs => .v (.d (.list xs))
  | e => e
theorem ER.release (r : ER K M0 b H0 O σ H env) (i : Nat) : ∃ O', ER K M0 b H0 O' σ H (env.modify i relE) ∧ Same (Fz (MO M0 O) H) (Fz (MO M0 O') H) := by
  cases hez : env[i]? with
  | none =>
    rw [List.modify_eq_self (List.getElem?_eq_none_iff.mp hez)]
    exact ⟨O, r, Same.refl _⟩
  | some e =>
    have hi := (List.getElem?_eq_some_iff.mp hez).1
    have eset : env.modify i relE = env.set i (relE e) := by
      apply List.ext_getElem?
      intro j
      rw [List.getElem?_modify]
      by_cases ij : i = j
      · subst ij
        rw [List.getElem?_set_self hi, hez]
        simp
      · rw [List.getElem?_set_ne ij]
        simp [ij]
    have stay : relE e = e → ∃ O', ER K M0 b H0 O' σ H (env.modify i relE) ∧ Same (Fz (MO M0 O) H) (Fz (MO M0 O') H) := fun q => by
      refine ⟨O, ?_, Same.refl _⟩
      rw [eset, q, (List.getElem?_eq_some_iff.mp hez).2.symm, List.set_getElem_self]
      exact r
    cases e with
    | un => exact stay rfl
    | v w => exact stay rfl
    | own xs =>
      have his : i < σ.length := r.len ▸ hi
      obtain ⟨p, vs, ez1, op, hpz, dp⟩ := r.slot i _ _ (List.getElem?_eq_getElem his) hez
      have hsv0 : σ[i]? = some (some (.ref p)) := by rw [List.getElem?_eq_getElem his, ez1]
      let O' : Addr → Prop := fun a => O a ∧ a ≠ p
      have fzs : Same (Fz (MO M0 O) H) (Fz (MO M0 O') H) := fz_same fun a o n e => ⟨fun z => n (z.elim .inl fun z => .inr z.1), e⟩
      have nm : ¬ MO M0 O' p := by
        rintro (m | ⟨_, m⟩)
        · exact r.dom p m (r.own p op).1
        · exact m rfl
      refine ⟨O', ?_, fzs⟩
      rw [eset]
      refine ⟨r.mb, r.mc, r.dom, r.frm, r.bag, by rw [List.length_set, r.len], fun a o => r.own a o.1, ?_, ?_⟩
      · intro j s e h1 h2
        by_cases ij : i = j
        · subst ij
          rw [List.getElem?_set_self hi] at h2
          obtain rfl := Option.some.inj h2
          rw [hsv0] at h1
          obtain rfl := Option.some.inj h1
          exact ⟨.ref p, rfl, Dq.lst (.inl (fz_iff.mpr ⟨nm, hpz⟩)) (dpAll_mono fzs _ _ dp), fun z => by cases z⟩
        · rw [List.getElem?_set_ne ij] at h2
          have so := r.slot j s e h1 h2
          cases e with
          | un => trivial
          | v w =>
            obtain ⟨v, e, rw', nl⟩ := so
            refine ⟨v, e, ?_, fun z a o => nl z a o.1⟩
            cases w with
            | d y => exact dp_mono fzs _ _ rw'
            | l zs =>
              obtain ⟨a, vs', ez1, nb, haz, da⟩ := rw'
              exact ⟨a, vs', ez1, nb, haz, dpAll_mono fzs _ _ da⟩
            | bag => exact rw'
          | own zs =>
            obtain ⟨q, vs', es, oq, hqz, dq⟩ := so
            have qp : q ≠ p := fun z => by
              subst z
              rw [es] at h1
              exact ij (r.uniq i j q xs zs hsv0 h1 hez h2)
            exact ⟨q, vs', es, ⟨oq, qp⟩, hqz, dpAll_mono fzs _ _ dq⟩
      · intro j k q ys zs h1 h2 h3 h4
        have back : ∀ (j : Nat) (zs : List PD), (env.set i (relE (.own xs)))[j]? = some (.own zs) → env[j]? = some (.own zs) := by
          intro j zs h
          by_cases ij : i = j
          · subst ij
            rw [List.getElem?_set_self hi] at h
            cases h
          · rw [List.getElem?_set_ne ij] at h
            exact h
        exact r.uniq j k q ys zs h1 h2 (back j _ h3) (back k _ h4)
end
end DD

set_option maxHeartbeats 3999999
namespace DD
open PySem PySem.Spec PyProof.Rows L2 GG
section
variable {K : PySem.W.Frag} {b : BP} {M0 O O1 : Addr → Prop} {H0 H H1 : Hp} {Qa : En → Prop} {P : LSt → Hp → Prop}
theorem Nxt.from (k : Nxt K M0 b H0 O H Qa P) (s : Same (Fz (MO M0 O) H) (Fz (MO M0 O1) H1)) : Nxt K M0 b H0 O1 H1 Qa P :=
  fun O' σ' H' env' r s' q => k O' σ' H' env' r (s.trans s') q
end
section
variable {K : PySem.W.Frag} {b : BP} {t u tbz : TS} {m m1 m2 : Ws} {te : TE} {me : Wm} {mf : Wf} {tt : TT} {mt : Wt} {g : TG} {gs : TGs} {mg : Wg} {mgs : Wgs}
/-! ### statements in a row -/
def nxtW : Ws := fun env Q => Q (.nx env)
def brkW : Ws := fun env Q => Q (.bk env)
def cntW : Ws := fun env Q => Q (.ct env)
theorem snd_next : SndS K b tNext nxtW := fun M0 H0 O σ H env r Qa h D k1 _ _ _ _ => k1 O σ H env r (Same.refl _) h
theorem snd_brk : SndS K b tBreak brkW := fun M0 H0 O σ H env r Qa h D _ k _ _ _ => k O σ H env r (Same.refl _) h
theorem snd_cnt : SndS K b tCont cntW := fun M0 H0 O σ H env r Qa h D _ _ k _ _ => k O σ H env r (Same.refl _) h
def thenW (m2 : Ws) (Q : Out → Prop) : Out → Prop
  | .nx e => m2 e Q
  | o => Q o
def seqW (m1 m2 : Ws) : Ws := fun env Q => m1 env (thenW m2 Q)
theorem snd_seq (h1 : SndS K b t m1) (h2 : SndS K b u m2) : SndS K b (tSeq t u) (seqW m1 m2) := by
  intro M0 H0 O σ H env r Qa h D k1 k2 k3 k4 k5
  refine h1 M0 H0 O σ H env r _ h _ ?_ k2 k3 k4 k5
  intro O' σ' H' env' r' s q
  exact h2 M0 H0 O' σ' H' env' r' _ q D (k1.from s) (k2.from s) (k3.from s) k4 k5
def iffW (mt : Wt) (m1 m2 : Ws) : Ws := fun env Q => mt env fun c => if c = true then m1 env Q else m2 env Q
theorem snd_ifS (hc : SndT K b tt mt) (h1 : SndS K b t m1) (h2 : SndS K b u m2) : SndS K b (tIfS tt t u) (iffW mt m1 m2) := by
  intro M0 H0 O σ H env r Qa h D k1 k2 k3 k4 k5
  refine hc M0 H0 O σ H env r _ h _ ?_
  intro c H1 f g q
  have s := f.fz (M := MO M0 O) r.mbO
  cases c with
  | true => exact h1 M0 H0 O σ H1 env (r.after f g) _ q D (k1.from s) (k2.from s) (k3.from s) k4 k5
  | false => exact h2 M0 H0 O σ H1 env (r.after f g) _ q D (k1.from s) (k2.from s) (k3.from s) k4 k5
/-! ### return -/
def retW (me : Wm) : Ws := fun env Q => me env fun w => w.isL = false ∧ Q (.rt w)
theorem snd_ret (h : Snd K b te me) : SndS K b (tRet te) (retW me) := by
  intro M0 H0 O σ H env r Qa hmz D k1 k2 k3 k4 k5
  refine h M0 H0 O σ H env r _ hmz _ ?_
  intro v w H' f g rp ⟨nl, q⟩
  refine k4 v w H' (r.frm.trans f) g ?_ q
  cases w with
  | d x => exact dp_mono (fz_same fun a o n e => ⟨fun z => n (.inl z), e⟩) _ _ rp
  | l xs => cases nl
  | bag => exact rp
theorem RepF.back {M O : Addr → Prop} {H0 H H' : Hp} {v : V} {xs : List PD} (f : Frm b H0 H) (g : Bag b H) (rp : RepF K (MO M O) H H' v xs) : RepF K M H0 H' v xs := by
  obtain ⟨p, vs, rfl, n, hpz, dp⟩ := rp
  have pb : Off b p := g.off n
  refine ⟨p, vs, rfl, f.free n pb, hpz, dpAll_mono (fz_same ?_) _ _ dp⟩
  intro a o z e
  refine ⟨?_, e⟩
  rintro (m | m)
  · exact z (.inl (.inl m))
  · exact z (.inr m)
def retFW (mf : Wf) : Ws := fun env Q => mf env fun xs => Q (.rf xs)
theorem snd_retF (h : SndF K b te mf) : SndS K b (tRet te) (retFW mf) := by
  intro M0 H0 O σ H env r Qa hmz D k1 k2 k3 k4 k5
  refine h M0 H0 O σ H env r _ hmz _ ?_
  intro v xs H' f g rp q
  exact k5 v xs H' (r.frm.trans f) g (rp.back r.frm r.bag) q
/-- return of a list of one's own -/
def retOW (i : Nat) : Ws := fun env Q => ∃ xs, env[i]? = some (.own xs) ∧ Q (.rf xs)
theorem snd_retO {i : Nat} : SndS K b (tRet (tVar i)) (retOW i) := by
  intro M0 H0 O σ H env r Qa hmz D k1 k2 k3 k4 k5
  obtain ⟨xs, e, q⟩ := hmz
  have hi : i < σ.length := r.len ▸ (List.getElem?_eq_some_iff.mp e).1
  obtain ⟨p, vs, ez1, op, hpz, dp⟩ := r.slot i _ _ (List.getElem?_eq_getElem hi) e
  refine ⟨.ref p, by rw [List.getElem?_eq_getElem hi, ez1], k5 _ xs H r.frm r.bag ⟨p, vs, rfl, (r.own p op).1, hpz, dpAll_mono (fz_same ?_) _ _ dp⟩ q⟩
  intro a o n e
  refine ⟨?_, e⟩
  rintro (m | rfl)
  · exact n (.inl m)
  · exact n (.inr op)
def retNW : Ws := fun _ Q => Q (.rt (.d .none))
theorem snd_retN : SndS K b tRetN retNW := fun M0 H0 O σ H env r Qa hmz D k1 k2 k3 k4 k5 => k4 .non (.d .none) H r.frm r.bag Dq.non hmz
/-! ### x = e -/
def setW (i : Nat) (me : Wm) : Ws := fun env Q => me env fun w => w.isL = false ∧ Q (.nx (env.set i (.v w)))
theorem snd_set {i : Nat} (h : Snd K b te me) : SndS K b (tAsg te (gName i)) (setW i me) := by
  intro M0 H0 O σ H env r Qa hmz D k1 k2 k3 k4 k5
  refine h M0 H0 O σ H env r _ hmz _ ?_
  intro v w H' f g rp ⟨nl, q⟩
  exact k1 O _ H' _ ((r.after f g).put i rp nl) (f.fz r.mbO) q
def setFW (i : Nat) (mf : Wf) : Ws := fun env Q => mf env fun xs => Q (.nx (env.set i (.own xs)))
theorem snd_setF {i : Nat} (h : SndF K b te mf) : SndS K b (tAsg te (gName i)) (setFW i mf) := by
  intro M0 H0 O σ H env r Qa hmz D k1 k2 k3 k4 k5
  refine h M0 H0 O σ H env r _ hmz _ ?_
  intro v xs H' f g rp q
  obtain ⟨p, rfl, r', s⟩ := r.make i f g rp
  exact k1 _ _ H' _ r' s q
/-! ### targets -/
def gnW (i : Nat) : Wg := fun wi env Q => ∃ d, wi = .d d ∧ Q (env.set i (.v (.d d)))
theorem sg_name {i : Nat} : SndG K b (gName i) (gnW i) := by
  rintro M0 H0 O σ H env v wi r dp Qa ⟨d, rfl, h⟩ Q k
  exact k _ _ (r.put i (w := .d d) dp rfl) h
def gnilW : Wgs := fun ds env Q => ds = [] ∧ Q env
theorem sg_nil : SndGs K b gNil gnilW := by
  intro M0 H0 O σ H env vs ds r dp Qa h Q k
  obtain ⟨rfl, q⟩ := h
  cases dp
  exact ⟨rfl, k σ env r q⟩
def gconsW (mg : Wg) (mgs : Wgs) : Wgs := fun ds env Q => ∃ d r, ds = d :: r ∧ mg (.d d) env fun env' => mgs r env' Q
theorem sg_cons (h1 : SndG K b g mg) (h2 : SndGs K b gs mgs) : SndGs K b (gCons g gs) (gconsW mg mgs) := by
  intro M0 H0 O σ H env vs ds r dp Qa h Q k
  obtain ⟨d, rs, rfl, h⟩ := h
  cases dp with
  | cons dp1 dp2 =>
    refine ⟨_, _, rfl, h1 M0 H0 O σ H env _ (.d d) r dp1 _ h _ ?_⟩
    intro σ' env' r' q
    exact h2 M0 H0 O σ' H env' _ rs r' dp2 _ q Q k
def gtupW (n : Nat) (mgs : Wgs) : Wg := fun wi env Q => ∃ ds, wi.parts = some ds ∧ ds.length = n ∧ mgs ds env Q
theorem sg_tup {n : Nat} (h : SndGs K b gs mgs) : SndG K b (gTup K n gs) (gtupW n mgs) := by
  intro M0 H0 O σ H env v wi r rp Qa hmz Q k
  obtain ⟨ds, e, hlz0, hmz⟩ := hmz
  cases wi with
  | d x =>
    cases x <;> try cases e
    have rp : Dq K (Fz (MO M0 O) H) v (.tuple ds) := rp
    cases rp with
    | tup hsv0 haz => exact ⟨_, _, rfl, (hsv0.mono fz_sub).sq, by rw [dpAll_len haz]; exact hlz0, h M0 H0 O σ H env _ ds r haz _ hmz Q k⟩
  | p x y =>
    obtain rfl := Option.some.inj e
    obtain ⟨T, vx, vy, rfl, hsv0, dx, dy⟩ := rp
    exact ⟨T, _, rfl, hsv0, hlz0, h M0 H0 O σ H env _ _ r (.cons dx (.cons dy .nil)) _ hmz Q k⟩
/-- a, b = e -/
def unpW (me : Wm) (mg : Wg) : Ws := fun env Q => me env fun w => ∃ d, w = .d d ∧ mg (.d d) env fun env' => Q (.nx env')
theorem snd_unp (h : Snd K b te me) (hgz : SndG K b g mg) : SndS K b (tAsg te g) (unpW me mg) := by
  intro M0 H0 O σ H env r Qa hmz D k1 k2 k3 k4 k5
  refine h M0 H0 O σ H env r _ hmz _ ?_
  rintro v w H' f g' rp ⟨d, rfl, q⟩
  refine hgz M0 H0 O σ H' env v (.d d) (r.after f g') rp _ q _ ?_
  intro σ' env' r' q
  exact k1 O σ' H' env' r' (f.fz r.mbO) q
/-! ### a list of one's own changed -/
theorem tyL {H : Hp} {p : Addr} {xs : List V} (h : H p = some (.lst xs)) : tyV K "list" (.ref p) H := .inl ⟨rfl, xs, SqL.of h⟩
def appW (i : Nat) (me : Wm) : Ws := fun env Q => ∃ xs, env[i]? = some (.own xs) ∧ me env fun w => ∃ d, w = .d d ∧ xs.length < sizeLine ∧ Q (.nx (env.set i (.own (xs ++ [d]))))
theorem snd_app {i : Nat} (h : Snd K b te me) : SndS K b (tDrop (tBM K "list" rAppend (tVar i) (tCons te tNil))) (appW i me) := by
  intro M0 H0 O σ H env r Qa hmz D k1 k2 k3 k4 k5
  obtain ⟨xs, e, hmz⟩ := hmz
  have hi : i < σ.length := r.len ▸ (List.getElem?_eq_some_iff.mp e).1
  obtain ⟨p, vs, ez1, op, hpz, dp⟩ := r.slot i _ _ (List.getElem?_eq_getElem hi) e
  have hsv0 : σ[i]? = some (some (.ref p)) := by rw [List.getElem?_eq_getElem hi, ez1]
  refine ⟨_, hsv0, tyL hpz, ?_⟩
  refine h M0 H0 O σ H env r _ hmz _ ?_
  rintro v w H' f g rp ⟨d, rfl, hzz, q⟩
  have r' := r.after f g
  have hp' := f p _ (r.nb p op) hpz
  have dp' := dpAll_mono (f.fz (M := MO M0 O) r.mbO) _ _ dp
  refine ⟨p, vs, v, rfl, rfl, hp', by rw [dpAll_len dp]; exact hzz, ?_⟩
  obtain ⟨r2, s2⟩ := r'.change hsv0 e (dpAll_app dp' (.cons rp .nil))
  exact k1 O σ _ _ r2 ((f.fz r.mbO).trans s2) q
def insW (i : Nat) (ma me : Wm) : Ws := fun env Q => ∃ xs, env[i]? = some (.own xs) ∧ ma env fun wi => me env fun w => ∃ (n : Int) (d : PD), wi = .d (.int n) ∧ w = .d d ∧ xs.length < sizeLine ∧ 0 ≤ n ∧ n < 2 ^ 63 ∧ Q (.nx (env.set i (.own (xs.take n.toNat ++ [d] ++ xs.drop n.toNat))))
theorem snd_ins {i : Nat} {ta : TE} {ma : Wm} (haz : Snd K b ta ma) (h : Snd K b te me) : SndS K b (tDrop (tBM K "list" (fun x vs H Q => ∃ (l : Addr) (xs : List V) (i : Int) (y : V), x = .ref l ∧ vs = [.int i, y] ∧ H l = some (.lst xs) ∧ xs.length < sizeLine ∧ 0 ≤ i ∧ i < 2 ^ 63 ∧
    Q .non (upd H l (.lst (xs.take i.toNat ++ [y] ++ xs.drop i.toNat)))) (tVar i) (tCons ta (tCons te tNil)))) (insW i ma me) := by
  intro M0 H0 O σ H env r Qa hmz D k1 k2 k3 k4 k5
  obtain ⟨xs, e, hmz⟩ := hmz
  have hi : i < σ.length := r.len ▸ (List.getElem?_eq_some_iff.mp e).1
  obtain ⟨p, vs, ez1, op, hpz, dp⟩ := r.slot i _ _ (List.getElem?_eq_getElem hi) e
  have hsv0 : σ[i]? = some (some (.ref p)) := by rw [List.getElem?_eq_getElem hi, ez1]
  refine ⟨_, hsv0, tyL hpz, ?_⟩
  refine haz M0 H0 O σ H env r _ hmz _ ?_
  intro v0 w0 H1 f1 g1 rp1 hm1
  refine h M0 H0 O σ H1 env (r.after f1 g1) _ hm1 _ ?_
  rintro v w H' f2 g2 rp ⟨n, d, rfl, rfl, hzz, h0, h63, q⟩
  have f := f1.trans f2
  have r' := r.after f g2
  have hp' := f p _ (r.nb p op) hpz
  have dp' := dpAll_mono (f.fz (M := MO M0 O) r.mbO) _ _ dp
  obtain rfl := repInt rp1
  refine ⟨p, vs, n, v, rfl, rfl, hp', by rw [dpAll_len dp]; exact hzz, h0, h63, ?_⟩
  obtain ⟨r2, s2⟩ := r'.change hsv0 e (dpAll_app (dpAll_app (dpAll_take n.toNat dp') (.cons rp .nil)) (dpAll_drop n.toNat dp'))
  exact k1 O σ _ _ r2 ((f.fz r.mbO).trans s2) q
/-- xs.extend(e), e a new list -/
def extW (i : Nat) (mf : Wf) : Ws := fun env Q => ∃ xs, env[i]? = some (.own xs) ∧ mf env fun ys => xs.length + ys.length ≤ sizeLine ∧ Q (.nx (env.set i (.own (xs ++ ys))))
theorem snd_ext {i : Nat} (h : SndF K b te mf) : SndS K b (tDrop (tBM K "list" rExtend (tVar i) (tCons te tNil))) (extW i mf) := by
  intro M0 H0 O σ H env r Qa hmz D k1 k2 k3 k4 k5
  obtain ⟨xs, e, hmz⟩ := hmz
  have hi : i < σ.length := r.len ▸ (List.getElem?_eq_some_iff.mp e).1
  obtain ⟨p, vs, ez1, op, hpz, dp⟩ := r.slot i _ _ (List.getElem?_eq_getElem hi) e
  have hsv0 : σ[i]? = some (some (.ref p)) := by rw [List.getElem?_eq_getElem hi, ez1]
  refine ⟨_, hsv0, tyL hpz, ?_⟩
  refine h M0 H0 O σ H env r _ hmz _ ?_
  rintro v ys H' f g ⟨a, us, rfl, na, haz, dq⟩ ⟨hzz, q⟩
  have r' := r.after f g
  have hp' := f p _ (r.nb p op) hpz
  have dp' := dpAll_mono (f.fz (M := MO M0 O) r.mbO) _ _ dp
  refine ⟨p, a, vs, us, rfl, rfl, hp', haz, by rw [dpAll_len dp, dpAll_len dq]; exact hzz, ?_⟩
  obtain ⟨r2, s2⟩ := r'.change hsv0 e (dpAll_app dp' (dpAll_mono (fz_same fun a o n e => ⟨fun z => n (.inl z), e⟩) _ _ dq))
  exact k1 O σ _ _ r2 ((f.fz r.mbO).trans s2) q
/-- a list of one's own stands still from now on -/
def relW (i : Nat) (m : Ws) : Ws := fun env Q => m (env.modify i relE) Q
theorem snd_rel (i : Nat) (h : SndS K b t m) : SndS K b t (relW i m) := by
  intro M0 H0 O σ H env r Qa hmz D k1 k2 k3 k4 k5
  obtain ⟨O', r', s⟩ := r.release i
  exact h M0 H0 O' σ H _ r' _ hmz D (k1.from s) (k2.from s) (k3.from s) k4 k5
/-- an expression alone -/
def dropW (me : Wm) : Ws := fun env Q => me env fun _ => Q (.nx env)
theorem snd_drop (h : Snd K b te me) : SndS K b (tDrop te) (dropW me) := by
  intro M0 H0 O σ H env r Qa hmz D k1 k2 k3 k4 k5
  refine h M0 H0 O σ H env r _ hmz _ ?_
  intro v w H' f g rp q
  exact k1 O σ H' env (r.after f g) (f.fz r.mbO) q
/-! ### for -/
def turnW (lp : En → (Out → Prop) → Prop) (Q : Out → Prop) : Out → Prop
  | .nx e => lp e Q
  | .ct e => lp e Q
  | .bk e => Q (.nx e)
  | o => Q o
abbrev Wi := En → (List WI → Prop) → Prop
def loopW (mg : Wg) (mb : Ws) : List WI → Ws
  | [], env, Q => Q (.nx env)
  | d :: ds, env, Q => mg d env fun env1 => mb env1 (turnW (loopW mg mb ds) Q)
/-- between two turns -/
def LInv (K : PySem.W.Frag) (b : BP) (M0 : Addr → Prop) (H0 : Hp) (O1 : Addr → Prop) (H1 : Hp) (mg : Wg) (mb : Ws) (ds : List WI) (Qa : Out → Prop) (i : Nat) (σ : LSt) (H : Hp) : Prop :=
  ∃ O env, ER K M0 b H0 O σ H env ∧ Same (Fz (MO M0 O1) H1) (Fz (MO M0 O) H) ∧ loopW mg mb (ds.drop i) env Qa
theorem sqL_sub {M : Addr → Prop} {H : Hp} {a : Addr} {xs : List V} (h : SqH (Fz M H) a xs) : SqL K H a xs := (h.mono fz_sub).sq
theorem sqT_mono {H H' : Hp} {a : Addr} {xs : List V} (s : Same H H') (h : SqT K H a xs) : SqT K H' a xs := by
  rcases h with (h | ⟨o, h⟩) | h
  · exact .inl (.inl (s _ _ h))
  · exact .inl (.inr ⟨o, s _ _ h⟩)
  · exact .inr h
/-- J walks over the data ds, as long as what stands in Fz M H stands -/
def IsW (K : PySem.W.Frag) (M : Addr → Prop) (H : Hp) (J : It) (ds : List WI) : Prop := ∃ (G : Hp → Prop) (Y : Nat → Hp → V → Hp → Prop), Walk J ds.length G Y ∧
  ∀ (M' : Addr → Prop) (H' : Hp), Same (Fz M H) (Fz M' H') → (∀ a, M' a → H' a ≠ none) → G H' ∧ ∀ i x Hx, i < ds.length → Y i H' x Hx → ∃ d, ds[i]? = some d ∧ Same H' Hx ∧ RepI K M' Hx x d ∧ ∀ a ps, Hx a = some (.tbl ps) → H' a = some (.tbl ps)
def SndI (K : PySem.W.Frag) (b : BP) (wi : TI) (m : Wi) : Prop := ∀ (M0 : Addr → Prop) (H0 : Hp) (O : Addr → Prop) (σ : LSt) (H : Hp) (env : En), ER K M0 b H0 O σ H env → ∀ Qa : List WI → Prop, m env Qa →
  ∀ R : It → Hp → Prop, (∀ J ds H', Frm b H H' → Bag b H' → IsW K (MO M0 O) H' J ds → Qa ds → R J H') → wi σ H R
theorem frm_of {b : BP} {H H' : Hp} (s : Same H H') : Frm b H H' := fun a o _ e => s a o e
theorem Same.to {H H' : Hp} (k : ∀ a, H a ≠ none → H' a = H a) : Same H H' := fun a o e => (k a (by rw [e]; exact fun z => nomatch z)).trans e
def forW (mi : Wi) (mg : Wg) (mb : Ws) : Ws := fun env Q => mi env fun ds => loopW mg mb ds env Q
theorem snd_for {wi : TI} {mi : Wi} (h : SndI K b wi mi) (hgz : SndG K b g mg) (hb : SndS K b tbz m) : SndS K b (tFor wi g tbz) (forW mi mg m) := by
  intro M0 H0 O σ H env r Qa hmz D k1 k2 k3 k4 k5
  refine h M0 H0 O σ H env r _ hmz _ ?_
  rintro J ds H1 f g' ⟨G, Y, wk, hw⟩ q
  have s1 := f.fz (M := MO M0 O) r.mbO
  have k1' := k1.from s1
  refine for_it wk (LInv K b M0 H0 O H1 mg m ds Qa) ⟨O, env, r.after f g', Same.refl _, q⟩ ?_ ?_ ?_
  · rintro i σ' H' _ ⟨O', env', r', s, _⟩
    exact (hw _ H' s r'.domO).1
  · rintro i x σ' H' Hx hi ⟨O', env', r', s, h⟩ hy
    obtain ⟨d, hdz, sx, dx, kx⟩ := (hw _ H' s r'.domO).2 i x Hx hi hy
    have e : ds.drop i = d :: ds.drop (i + 1) := by
      obtain ⟨hlz0, hd'⟩ := List.getElem?_eq_some_iff.mp hdz
      rw [List.drop_eq_getElem_cons hlz0, hd']
    rw [e] at h
    have rxz := r'.after (frm_of sx) (r'.bag.ext sx kx)
    have sf : Same (Fz (MO M0 O') H') (Fz (MO M0 O') Hx) := fz_same fun a o n e => ⟨n, sx a o e⟩
    refine hgz M0 H0 O' σ' Hx env' x d rxz dx _ h _ ?_
    intro σ2 env2 r2 h2
    refine hb M0 H0 O' σ2 Hx env2 r2 _ h2 _ ?_ ?_ ?_ k4 k5
    · intro O2 σ3 H3 env3 r3 s3 q
      exact ⟨O2, env3, r3, (s.trans sf).trans s3, q⟩
    · intro O2 σ3 H3 env3 r3 s3 q
      exact k1' O2 σ3 H3 env3 r3 ((s.trans sf).trans s3) q
    · intro O2 σ3 H3 env3 r3 s3 q
      exact ⟨O2, env3, r3, (s.trans sf).trans s3, q⟩
  · rintro σ' H' ⟨O', env', r', s, q'⟩
    rw [List.drop_length] at q'
    exact k1' O' σ' H' env' r' s q'
/-! what is walked -/
def itLW (me : Wm) : Wi := fun env Q => me env fun w => ∃ ds, w = .d (.list ds) ∧ Q (ds.map WI.d)
def itTW (me : Wm) : Wi := fun env Q => me env fun w => ∃ ds, w = .d (.tuple ds) ∧ Q (ds.map WI.d)
theorem si_list (h : Snd K b te me) : SndI K b (iList K te) (itLW me) := by
  intro M0 H0 O σ H env r Qa hmz R k
  refine h M0 H0 O σ H env r _ hmz _ ?_
  rintro v w H1 f g' rp ⟨ds, rfl, q⟩
  have rp : Dq K (Fz (MO M0 O) H1) v (.list ds) := rp
  cases rp with
  | lst hsv0 dp =>
    rename_i a vs
    refine ⟨a, rfl, ⟨vs, sqL_sub hsv0⟩, k _ _ H1 f g' ⟨_, _, by rw [List.length_map]; exact dpAll_len dp ▸ walk_list, ?_⟩ q⟩
    intro M' H' s dom
    refine ⟨sqL_sub (hsv0.mono s), ?_⟩
    rintro i x Hx hi ⟨rfl, e⟩
    obtain ⟨d, hdz, dx⟩ := dpAll_get dp e
    exact ⟨.d d, by rw [List.getElem?_map, hdz]; rfl, Same.refl _, dp_mono s _ _ dx, fun _ _ e => e⟩
theorem si_tup (h : Snd K b te me) : SndI K b (iTup K te) (itTW me) := by
  intro M0 H0 O σ H env r Qa hmz R k
  refine h M0 H0 O σ H env r _ hmz _ ?_
  rintro v w H1 f g' rp ⟨ds, rfl, q⟩
  have rp : Dq K (Fz (MO M0 O) H1) v (.tuple ds) := rp
  cases rp with
  | tup hsv0 dp =>
    rename_i a vs
    refine ⟨a, rfl, ⟨vs, (hsv0.mono fz_sub).sq⟩, k _ _ H1 f g' ⟨_, _, by rw [List.length_map]; exact dpAll_len dp ▸ walk_tup, ?_⟩ q⟩
    intro M' H' s dom
    refine ⟨((hsv0.mono s).mono fz_sub).sq, ?_⟩
    rintro i x Hx hi ⟨rfl, e⟩
    obtain ⟨d, hdz, dx⟩ := dpAll_get dp e
    exact ⟨.d d, by rw [List.getElem?_map, hdz]; rfl, Same.refl _, dp_mono s _ _ dx, fun _ _ e => e⟩
def itRW (me : Wm) : Wi := fun env Q => me env fun w => ∃ n : Int, w = .d (.int n) ∧ -(2 ^ 62) ≤ n ∧ n < 2 ^ 62 ∧ Q ((List.range n.toNat).map fun i => .d (.int (i : Nat)))
theorem si_range (h : Snd K b te me) : SndI K b (iRng1 (tCons te tNil)) (itRW me) := by
  intro M0 H0 O σ H env r Qa hmz R k
  refine h M0 H0 O σ H env r _ hmz _ ?_
  rintro v w H1 f g' rp ⟨n, rfl, h1, h2, q⟩
  obtain rfl := repInt rp
  refine ⟨n, rfl, h1, h2, k _ _ H1 f g' ⟨_, _, by rw [List.length_map, List.length_range]; exact walk_range, ?_⟩ q⟩
  intro M' H' s dom
  refine ⟨trivial, ?_⟩
  rintro i x Hx hi ⟨rfl, rfl⟩
  rw [List.length_map, List.length_range] at hi
  refine ⟨.d (.int (i : Nat)), by rw [List.getElem?_map, List.getElem?_range hi]; rfl, Same.refl _, ?_, fun _ _ e => e⟩
  show Dq K _ (V.int (0 + (i : Int))) (PyData.int (i : Int))
  rw [Int.zero_add]
  exact Dq.int _
/-- pairs (i, x) -/
def itEW (me : Wm) : Wi := fun env Q => me env fun w => ∃ ds, w = .d (.list ds) ∧ Q (ds.mapIdx fun i d => .p (.int (i : Nat)) d)
theorem si_enum (h : Snd K b te me) : SndI K b (iEnum K (tCons te tNil)) (itEW me) := by
  intro M0 H0 O σ H env r Qa hmz R k
  refine h M0 H0 O σ H env r _ hmz _ ?_
  rintro v w H1 f g' rp ⟨ds, rfl, q⟩
  have rp : Dq K (Fz (MO M0 O) H1) v (.list ds) := rp
  cases rp with
  | lst hsv0 dp =>
    rename_i a vs
    refine ⟨a, vs, rfl, sqL_sub hsv0, k _ _ H1 f g' ⟨_, _, by rw [List.length_mapIdx]; exact dpAll_len dp ▸ walk_enum, ?_⟩ q⟩
    intro M' H' s dom
    refine ⟨sqL_sub (hsv0.mono s), ?_⟩
    rintro i x Hx hi ⟨T, x1, x2, rfl, nT, rfl, ez1, ez2⟩
    obtain ⟨d, hdz, dx⟩ := dpAll_get dp ez2
    obtain rfl := Option.some.inj ez1
    refine ⟨.p (.int (i : Nat)) d, by rw [List.getElem?_mapIdx, hdz]; rfl, fun a o e => by rw [upd_ne (ne_of_none e nT)]; exact e, ?_, nt_upd (by intro _ z; cases z)⟩
    exact ⟨T, _, _, rfl, SqT.of upd_same, .int _, dp_mono (s.trans (fz_new nT)) _ _ dx⟩
end
end DD

set_option maxHeartbeats 3999999
/-! comprehensions, calls of defs -/
namespace DD
open PySem PySem.Spec PyProof.Rows L2 GG
theorem fz_congr {M M' : Addr → Prop} (h : ∀ a, M a ↔ M' a) (H : Hp) : Fz M H = Fz M' H := by
  have e : M = M' := funext fun a => propext (h a)
  rw [e]
/-! ### a def's promise -/
/-- f, on what the arguments are worth -/
abbrev Fm := List W → (W → Prop) → Prop
abbrev FmF := List W → (List PD → Prop) → Prop
def spD (K : PySem.W.Frag) (b : BP) (n : Nat) (f : Fm) : Sp := fun vs H Q _ => vs.length = n ∧ ∃ (M : Addr → Prop) (ws : List W) (Qa : W → Prop), MB b M ∧ M b.2 ∧ (∀ a, M a → H a ≠ none) ∧ Bag b H ∧ Paired (RepW K M b H) vs ws ∧ f ws Qa ∧
  ∀ v w H', Frm b H H' → Bag b H' → RepW K M b H' v w → Qa w → Q v H'
def spF (K : PySem.W.Frag) (b : BP) (n : Nat) (f : FmF) : Sp := fun vs H Q _ => vs.length = n ∧ ∃ (M : Addr → Prop) (ws : List W) (Qa : List PD → Prop), MB b M ∧ M b.2 ∧ (∀ a, M a → H a ≠ none) ∧ Bag b H ∧ Paired (RepW K M b H) vs ws ∧ f ws Qa ∧
  ∀ v xs H', Frm b H H' → Bag b H' → RepF K M H H' v xs → Qa xs → Q v H'
def env0 (n : Nat) (ws : List W) : En := ws.map E.v ++ List.replicate (n - ws.length) E.un
def outV (Q : W → Prop) : Out → Prop
  | .rt w => Q w
  | .nx _ => Q (.d .none)
  | _ => False
def outF (Q : List PD → Prop) : Out → Prop
  | .rf xs => Q xs
  | _ => False
def bodyW (n : Nat) (m : Ws) : Fm := fun ws Q => m (env0 n ws) (outV Q)
def bodyF (n : Nat) (m : Ws) : FmF := fun ws Q => m (env0 n ws) (outF Q)
theorem paired_get {α β : Type} {R : α → β → Prop} : ∀ {xs : List α} {ys : List β} {i : Nat} {x : α} {y : β}, Paired R xs ys → xs[i]? = some x → ys[i]? = some y → R x y
  | _, _, _, _, _, .nil, e, _ => by simp at e
  | _, _, 0, _, _, .cons r _, ez1, ez2 => by
    obtain rfl := Option.some.inj ez1
    obtain rfl := Option.some.inj ez2
    exact r
  | _, _, i + 1, _, _, .cons _ s, ez1, ez2 => paired_get (i := i) s ez1 ez2
theorem er0 {K : PySem.W.Frag} {b : BP} {M : Addr → Prop} {H : Hp} {vs : List V} {ws : List W} {N : List Str} (m1 : MB b M) (m2 : M b.2) (dom : ∀ a, M a → H a ≠ none) (g : Bag b H) (p : Paired (RepW K M b H) vs ws) :
    ER K M b H (fun _ => False) (L2.start N vs) H (env0 N.length ws) := by
  have plz := Paired.length p
  have mo : ∀ a, MO M (fun _ => False) a ↔ M a := fun a => ⟨fun z => z.elim id False.elim, .inl⟩
  refine ⟨m1, m2, dom, Frm.refl _ _, g, ?_, fun _ z => z.elim, ?_, ?_⟩
  · unfold L2.start env0
    rw [List.length_append, List.length_append, List.length_map, List.length_map, List.length_replicate, List.length_replicate, plz]
  · intro i s e h1 h2
    unfold L2.start at h1
    unfold env0 at h2
    by_cases hi : i < vs.length
    · rw [List.getElem?_append_left (by rw [List.length_map]; exact hi), List.getElem?_map] at h1
      rw [List.getElem?_append_left (by rw [List.length_map, ← plz]; exact hi), List.getElem?_map] at h2
      cases ev : vs[i]? with
      | none =>
        rw [ev] at h1
        cases h1
      | some v =>
        cases ew : ws[i]? with
        | none =>
          rw [ew] at h2
          cases h2
        | some w =>
          rw [ev] at h1
          rw [ew] at h2
          obtain rfl := Option.some.inj h1
          obtain rfl := Option.some.inj h2
          refine ⟨v, rfl, ?_, fun _ _ z => z.elim⟩
          have rp := paired_get p ev ew
          have fe : Fz (MO M fun _ => False) H = Fz M H := fz_congr mo H
          cases w with
          | d x => exact (show Dq K (Fz (MO M fun _ => False) H) v x from fe ▸ rp)
          | l xs =>
            obtain ⟨a, us, ez1, ez2, e3, e4⟩ := rp
            exact ⟨a, us, ez1, ez2, e3, fe ▸ e4⟩
          | bag => exact rp
    · rw [List.getElem?_append_right (by rw [List.length_map, ← plz]; omega), List.getElem?_replicate] at h2
      split at h2
      · obtain rfl := Option.some.inj h2
        trivial
      · cases h2
  · intro i j p' xs ys h1 h2 h3 h4
    have no : ∀ (i : Nat) (xs : List PD), (env0 N.length ws)[i]? ≠ some (.own xs) := by
      intro i xs h
      unfold env0 at h
      by_cases hi : i < (ws.map E.v).length
      · rw [List.getElem?_append_left hi, List.getElem?_map] at h
        cases e : ws[i]? with
        | none =>
          rw [e] at h
          cases h
        | some w =>
          rw [e] at h
          cases h
      · rw [List.getElem?_append_right (by omega), List.getElem?_replicate] at h
        split at h
        · cases h
        · cases h
    exact (no i xs h3).elim
section
variable {P : Program} {w : World} {K : PySem.W.Frag} {mg : Str → Option Value} {base : Heap} {k : Nat} {f : Addr} {fd : FuncData} {ps : List Str} {b : BP}
/-- THE RULE of a def -/
theorem def_ok {x qual : Str} {st : Stmt} {N : List Str} {m : Ws} (F : L2.Fun K x qual st f fd) (S : FnScope N ps (defScope st))
    (hb : ∀ (cdv : Value) (A : Around) (o : List Env) (s : Shared) (H : Hp) (E : XK), Rm k (A.deeper (envOfC qual (defScope st) s.heap.objs.size f cdv)) →
      ∃ t, PSs (cxOf CX0 P w K mg base N qual (defScope st) f cdv A o s H E) (defBody st) t ∧ SndS K b t m) : GFn P w K mg base CX0 (k + 1) f fd ps (spD K b ps.length (bodyW N.length m)) := by
  refine okG F S (fun vs H Q E h => h.1) ?_
  intro cdv A o s H vs Q E rm h
  obtain ⟨t, ht, hsv0⟩ := hb cdv A o s H E rm
  obtain ⟨_, M, ws, Qa, m1, m2, dom, g, p, hmz, k4⟩ := h
  refine ⟨t, ht, hsv0 M H _ _ H _ (er0 m1 m2 dom g p) _ hmz _ ?_ ?_ ?_ ?_ ?_⟩
  · intro O' σ' H' env' r _ q
    exact k4 .non (.d .none) H' r.frm r.bag Dq.non q
  · intro _ _ _ _ _ _ q
    exact q.elim
  · intro _ _ _ _ _ _ q
    exact q.elim
  · exact k4
  · intro _ _ _ _ _ _ q
    exact q.elim
theorem def_okF {x qual : Str} {st : Stmt} {N : List Str} {m : Ws} (F : L2.Fun K x qual st f fd) (S : FnScope N ps (defScope st))
    (hb : ∀ (cdv : Value) (A : Around) (o : List Env) (s : Shared) (H : Hp) (E : XK), Rm k (A.deeper (envOfC qual (defScope st) s.heap.objs.size f cdv)) →
      ∃ t, PSs (cxOf CX0 P w K mg base N qual (defScope st) f cdv A o s H E) (defBody st) t ∧ SndS K b t m) : GFn P w K mg base CX0 (k + 1) f fd ps (spF K b ps.length (bodyF N.length m)) := by
  refine okG F S (fun vs H Q E h => h.1) ?_
  intro cdv A o s H vs Q E rm h
  obtain ⟨t, ht, hsv0⟩ := hb cdv A o s H E rm
  obtain ⟨_, M, ws, Qa, m1, m2, dom, g, p, hmz, k4⟩ := h
  refine ⟨t, ht, hsv0 M H _ _ H _ (er0 m1 m2 dom g p) _ hmz _ ?_ ?_ ?_ ?_ ?_⟩
  · intro O' σ' H' env' r _ q
    exact q.elim
  · intro _ _ _ _ _ _ q
    exact q.elim
  · intro _ _ _ _ _ _ q
    exact q.elim
  · intro _ _ _ _ _ _ q
    exact q.elim
  · exact k4
end
section
variable {K : PySem.W.Frag} {b : BP} {t ta tbz te : TE} {tt uu : TT} {tas : TA} {m ma mb me : Wm} {ms : Wl} {mt mu : Wt} {mf : Wf}
/-! ### calls -/
def callW (n : Nat) (f : Fm) (ms : Wl) : Wm := fun env Q => ms env fun ws => ws.length = n ∧ f ws Q
theorem snd_call {n : Nat} {f : Fm} (h : SndA K b tas ms) : Snd K b (tCall (spD K b n f) [] E0 tas) (callW n f ms) := by
  intro M0 H0 O σ H env r Qa hmz Q k
  refine h M0 H0 O σ H env r _ hmz _ ?_
  rintro vs ws H' f' g rp ⟨hlz0, q⟩
  have r' := r.after f' g
  refine ⟨by rw [List.append_nil, Paired.length rp, hlz0], MO M0 O, ws, Qa, r.mbO, .inl r.mc, r'.domO, g, by rw [List.append_nil]; exact rp, q, ?_⟩
  intro v w H2 f2 g2 r2 q2
  exact k v w H2 (f'.trans f2) g2 r2 q2
def callF (n : Nat) (f : FmF) (ms : Wl) : Wf := fun env Q => ms env fun ws => ws.length = n ∧ f ws Q
theorem RepF.pre {M : Addr → Prop} {H H1 H2 : Hp} {v : V} {xs : List PD} (f : Frm b H H1) (g : Bag b H1) (rp : RepF K M H1 H2 v xs) : RepF K M H H2 v xs := by
  obtain ⟨p, vs, e, n, h, d⟩ := rp
  exact ⟨p, vs, e, f.free n (g.off n), h, d⟩
theorem snd_callF {n : Nat} {f : FmF} (h : SndA K b tas ms) : SndF K b (tCall (spF K b n f) [] E0 tas) (callF n f ms) := by
  intro M0 H0 O σ H env r Qa hmz Q k
  refine h M0 H0 O σ H env r _ hmz _ ?_
  rintro vs ws H' f' g rp ⟨hlz0, q⟩
  have r' := r.after f' g
  refine ⟨by rw [List.append_nil, Paired.length rp, hlz0], MO M0 O, ws, Qa, r.mbO, .inl r.mc, r'.domO, g, by rw [List.append_nil]; exact rp, q, ?_⟩
  intro v xs H2 f2 g2 r2 q2
  exact k v xs H2 (f'.trans f2) g2 (r2.pre f' g) q2
/-! a built-in by values -/
def RC (K : PySem.W.Frag) (b : BP) (r : List V → Hp → VK → Prop) (f : List W → (W → Prop) → Prop) : Prop := ∀ (M : Addr → Prop) (H : Hp) (vs : List V) (ws : List W), MB b M → (∀ a, M a → H a ≠ none) → Bag b H → Paired (RepW K M b H) vs ws → ∀ Qa, f ws Qa →
  ∀ Q : VK, (∀ v w H', Frm b H H' → Bag b H' → RepW K M b H' v w → Qa w → Q v H') → r vs H Q
def RCF (K : PySem.W.Frag) (b : BP) (r : List V → Hp → VK → Prop) (f : List W → (List PD → Prop) → Prop) : Prop := ∀ (M : Addr → Prop) (H : Hp) (vs : List V) (ws : List W), MB b M → (∀ a, M a → H a ≠ none) → Bag b H → Paired (RepW K M b H) vs ws → ∀ Qa, f ws Qa →
  ∀ Q : VK, (∀ v xs H', Frm b H H' → Bag b H' → RepF K M H H' v xs → Qa xs → Q v H') → r vs H Q
def cbW (f : List W → (W → Prop) → Prop) (ms : Wl) : Wm := fun env Q => ms env fun ws => f ws Q
def cbF (f : List W → (List PD → Prop) → Prop) (ms : Wl) : Wf := fun env Q => ms env fun ws => f ws Q
theorem snd_cb {r : List V → Hp → VK → Prop} {f : List W → (W → Prop) → Prop} (hr : RC K b r f) (h : SndA K b tas ms) : Snd K b (tCB r tas) (cbW f ms) := by
  intro M0 H0 O σ H env e Qa hmz Q k
  refine h M0 H0 O σ H env e _ hmz _ ?_
  intro vs ws H' f' g rp q
  refine hr (MO M0 O) H' vs ws e.mbO (e.after f' g).domO g rp _ q _ ?_
  intro v w H2 f2 g2 r2 q2
  exact k v w H2 (f'.trans f2) g2 r2 q2
theorem snd_cbF {r : List V → Hp → VK → Prop} {f : List W → (List PD → Prop) → Prop} (hr : RCF K b r f) (h : SndA K b tas ms) : SndF K b (tCB r tas) (cbF f ms) := by
  intro M0 H0 O σ H env e Qa hmz Q k
  refine h M0 H0 O σ H env e _ hmz _ ?_
  intro vs ws H' f' g rp q
  refine hr (MO M0 O) H' vs ws e.mbO (e.after f' g).domO g rp _ q _ ?_
  intro v xs H2 f2 g2 r2 q2
  exact k v xs H2 (f'.trans f2) g2 (r2.pre f' g) q2
/-! ### comprehensions -/
theorem wipe_set {σ : LSt} {i : Nat} {v : Option V} : ∀ {vs : List Nat}, i ∈ vs → wipe (σ.set i v) vs = wipe σ vs
  | [], h => by cases h
  | j :: vs, h => by
    unfold wipe
    by_cases hj : i ∈ vs
    · rw [wipe_set hj]
    · have e : i = j := (List.mem_cons.mp h).resolve_right hj
      subst e
      apply List.ext_getElem?
      intro n
      by_cases hnz : i = n
      · subst hnz
        rw [List.getElem?_set, List.getElem?_set, wipe_length, wipe_length, List.length_set, if_pos rfl, if_pos rfl]
      · rw [List.getElem?_set_ne hnz, List.getElem?_set_ne hnz]
        by_cases hv : n ∈ vs
        · have z : ∀ (τ : LSt) (us : List Nat), n ∈ us → n < τ.length → (wipe τ us)[n]? = some none := by
            intro τ us
            induction us with
            | nil => intro h; cases h
            | cons u us ih =>
              intro h hlz0
              unfold wipe
              by_cases un : u = n
              · subst un
                rw [List.getElem?_set_self (by rw [wipe_length]; exact hlz0)]
              · rw [List.getElem?_set_ne un]
                exact ih ((List.mem_cons.mp h).resolve_left (Ne.symm un)) hlz0
          by_cases hlz0 : n < σ.length
          · rw [z _ _ hv (by rw [List.length_set]; exact hlz0), z _ _ hv hlz0]
          · rw [List.getElem?_eq_none_iff.mpr (by rw [wipe_length, List.length_set]; omega), List.getElem?_eq_none_iff.mpr (by rw [wipe_length]; omega)]
        · rw [wipe_out hv, wipe_out hv, List.getElem?_set_ne hnz]
theorem wipe_wipe {σ : LSt} : ∀ {us vs : List Nat}, (∀ i ∈ us, i ∈ vs) → wipe (wipe σ us) vs = wipe σ vs
  | [], _, _ => rfl
  | u :: us, vs, h => by
    show wipe ((wipe σ us).set u none) vs = wipe σ vs
    rw [wipe_set (h u List.mem_cons_self), wipe_wipe fun i hi => h i (List.mem_cons_of_mem _ hi)]
/-- the target's slots -/
structure GIn (g : TG) (vs : List Nat) : Prop where
  mono : ∀ v σ H Q Q', (∀ σ' H', Q σ' H' → Q' σ' H') → g v σ H Q → g v σ H Q'
  wip : ∀ v σ H Q, g v σ H Q → g v σ H fun σ' H' => wipe σ' vs = wipe σ vs ∧ Q σ' H'
structure GIns (g : TGs) (vs : List Nat) : Prop where
  mono : ∀ us σ H Q Q', (∀ σ' H', Q σ' H' → Q' σ' H') → g us σ H Q → g us σ H Q'
  wip : ∀ us σ H Q, g us σ H Q → g us σ H fun σ' H' => wipe σ' vs = wipe σ vs ∧ Q σ' H'
theorem gin_name {i : Nat} {vs : List Nat} (h : i ∈ vs := by simp) : GIn (gName i) vs := ⟨fun v σ H Q Q' k q => k _ _ q, fun v σ H Q q => ⟨wipe_set h, q⟩⟩
theorem gin_nil {vs : List Nat} : GIns gNil vs := ⟨fun us σ H Q Q' k q => ⟨q.1, k _ _ q.2⟩, fun us σ H Q q => ⟨q.1, rfl, q.2⟩⟩
theorem gin_cons {g : TG} {gs : TGs} {vs : List Nat} (h1 : GIn g vs) (h2 : GIns gs vs) : GIns (gCons g gs) vs := by
  constructor
  · rintro us σ H Q Q' k ⟨v, r, rfl, q⟩
    exact ⟨v, r, rfl, h1.mono _ _ _ _ _ (fun σ' H' z => h2.mono _ _ _ _ _ k z) q⟩
  · rintro us σ H Q ⟨v, r, rfl, q⟩
    refine ⟨v, r, rfl, h1.mono _ _ _ _ _ ?_ (h1.wip _ _ _ _ q)⟩
    rintro σ' H' ⟨e, z⟩
    exact h2.mono _ _ _ _ _ (fun σ2 H2 z2 => ⟨z2.1.trans e, z2.2⟩) (h2.wip _ _ _ _ z)
theorem gin_tup {K : PySem.W.Frag} {n : Nat} {gs : TGs} {vs : List Nat} (h : GIns gs vs) : GIn (gTup K n gs) vs := by
  constructor
  · rintro v σ H Q Q' k ⟨a, xs, ez1, ez2, e3, q⟩
    exact ⟨a, xs, ez1, ez2, e3, h.mono _ _ _ _ _ k q⟩
  · rintro v σ H Q ⟨a, xs, ez1, ez2, e3, q⟩
    exact ⟨a, xs, ez1, ez2, e3, h.wip _ _ _ _ q⟩
/-! the environment within: lists are read alone, the names of the comprehension are not there yet -/
def wipeE (env : En) : List Nat → En
  | [] => env
  | v :: vs => (wipeE env vs).set v .un
def demE : E → E
  | .own xs => .v (.l xs)
  | e => e
def inE (vs : List Nat) (env : En) : En := (wipeE env vs).map demE
def yesW : Wt := fun _ Q => Q true
theorem snd_yes : SndT K b tYes yesW := fun _ _ _ _ H _ r _ h _ k => k true H (Frm.refl _ _) r.bag h
def lcW (mg : Wg) (mt : Wt) (me : Wm) (ez1 : En) : List WI → List PD → (List PD → Prop) → Prop
  | [], acc, Q => Q acc
  | d :: ds, acc, Q => mg d ez1 fun env1 => mt env1 fun c => if c = true then me env1 fun w => ∃ x, w = .d x ∧ acc.length < sizeLine ∧ lcW mg mt me ez1 ds (acc ++ [x]) Q else lcW mg mt me ez1 ds acc Q
def lcompW (vs : List Nat) (mi : Wi) (mg : Wg) (mt : Wt) (me : Wm) : Wf := fun env Q => mi env fun ds => lcW mg mt me (inE vs env) ds [] Q
theorem wipeE_len (env : En) : ∀ vs, (wipeE env vs).length = env.length
  | [] => rfl
  | v :: vs => by
    unfold wipeE
    rw [List.length_set, wipeE_len env vs]
/-- within: nothing is one's own, the list that is made at D may change -/
theorem ER.within {M0 O : Addr → Prop} {H0 H : Hp} {σ : LSt} {env : En} (r : ER K M0 b H0 O σ H env) (vs : List Nat) {D : Addr} {H1 : Hp} (f : Frm b H H1) (g : Bag b H1) (nD : H D = none) (hD : H1 D ≠ none) :
    ER K (fun a => MO M0 O a ∨ a = D) b H1 (fun _ => False) (wipe σ vs) H1 (inE vs env) := by
  have r1 := r.after f g
  have fzs : ∀ (M2 : Addr → Prop), (∀ a, M2 a ↔ MO M0 O a ∨ a = D) → Same (Fz (MO M0 O) H) (Fz M2 H1) := fun M2 hM => fz_same fun a o n e => by
    refine ⟨fun z => ((hM a).mp z).elim n fun z => ?_, f a o ⟨fun z => n (.inl (z ▸ r.mb.1)), fun z => n (.inl (z ▸ r.mb.2))⟩ e⟩
    rw [z, nD] at e
    cases e
  refine ⟨⟨.inl (.inl r.mb.1), .inl (.inl r.mb.2)⟩, .inl (.inl r.mc), ?_, Frm.refl _ _, g, by unfold inE; rw [wipe_length, List.length_map, wipeE_len, r.len], fun _ z => z.elim, ?_, ?_⟩
  · rintro a (m | rfl)
    · exact r1.domO a m
    · exact hD
  · intro i s e h1 h2
    unfold inE at h2
    rw [List.getElem?_map] at h2
    have key : ∀ (us : List Nat) (s : Option V) (e : E), (wipe σ us)[i]? = some s → (wipeE env us)[i]? = some e → SlotOk K (fun a => MO M0 O a ∨ a = D) (fun _ => False) b H1 s (demE e) := by
      intro us
      induction us with
      | nil =>
        intro s e h1 h2
        have so := r.slot i s e h1 h2
        have sm := fzs (MO (fun a => MO M0 O a ∨ a = D) fun _ => False) fun a => ⟨fun z => z.elim id False.elim, .inl⟩
        cases e with
        | un => trivial
        | v w =>
          obtain ⟨v, e, rp, nl⟩ := so
          refine ⟨v, e, ?_, fun _ _ z => z.elim⟩
          cases w with
          | d x => exact dp_mono sm _ _ rp
          | l xs =>
            obtain ⟨a, us, ez1, ez2, e3, e4⟩ := rp
            exact ⟨a, us, ez1, ez2, f a _ ez2 e3, dpAll_mono sm _ _ e4⟩
          | bag => exact rp
        | own xs =>
          obtain ⟨p, us, ez1, op, hpz, dp⟩ := so
          exact ⟨.ref p, ez1, ⟨p, us, rfl, r.nb p op, f p _ (r.nb p op) hpz, dpAll_mono sm _ _ dp⟩, fun _ _ z => z.elim⟩
      | cons u us ih =>
        intro s e h1 h2
        unfold wipe at h1
        unfold wipeE at h2
        by_cases un : u = i
        · subst un
          have hlz0 : u < (wipeE env us).length := by
            have := (List.getElem?_eq_some_iff.mp h2).1
            rwa [List.length_set] at this
          rw [List.getElem?_set_self hlz0] at h2
          obtain rfl := Option.some.inj h2
          trivial
        · rw [List.getElem?_set_ne un] at h1 h2
          exact ih s e h1 h2
    cases ez2 : (wipeE env vs)[i]? with
    | none =>
      rw [ez2] at h2
      cases h2
    | some x =>
      rw [ez2] at h2
      obtain rfl := Option.some.inj h2
      exact key vs s x h1 ez2
  · intro i j p xs ys h1 h2 h3 h4
    unfold inE at h3
    rw [List.getElem?_map] at h3
    cases e : (wipeE env vs)[i]? with
    | none =>
      rw [e] at h3
      cases h3
    | some x =>
      rw [e] at h3
      have h3 := Option.some.inj h3
      cases x <;> cases h3
theorem snd_lc {wi : TI} {g : TG} {mi : Wi} {mg : Wg} {vs : List Nat} (hi : SndI K b wi mi) (hgz : SndG K b g mg) (hv : GIn g vs) (ht : SndT K b tt mt) (hez : Snd K b te me) : SndF K b (tLc wi g tt te vs) (lcompW vs mi mg mt me) := by
  intro M0 H0 O σ H env r Qa hmz Q k
  refine hi M0 H0 O σ H env r _ hmz _ ?_
  rintro J ds H1 f g' ⟨G, Y, wk, hw⟩ q D hD
  have r1 := r.after f g'
  have nM : ¬ MO M0 O D := fun z => r1.domO D z hD
  have Db : Off b D := g'.off hD
  have Dc : D ≠ b.2 := fun z => g'.there2 (z ▸ hD)
  let M2 : Addr → Prop := fun a => MO M0 O a ∨ a = D
  let Pv : Nat → Hp → Prop := fun i H' => Frm b H1 H' ∧ Bag b H' ∧ ∃ acc us, H' D = some (.lst us) ∧ DqAll K (Fz M2 H') us acc ∧ lcW mg mt me (inE vs env) (ds.drop i) acc Qa
  have sameOf : ∀ {H' : Hp}, Frm b H1 H' → Same (Fz (MO M0 O) H1) (Fz M2 H') := fun {H'} ff => fz_same fun a o n e => by
    refine ⟨fun z => z.elim n fun z => ?_, ff a o ⟨fun z => n (.inl (z ▸ r.mb.1)), fun z => n (.inl (z ▸ r.mb.2))⟩ e⟩
    rw [z, hD] at e
    cases e
  have domOf : ∀ {H' : Hp} {us : List V}, Frm b H1 H' → Bag b H' → H' D = some (.lst us) → ∀ a, M2 a → H' a ≠ none := by
    rintro H' us ff gg hdz a (m | rfl)
    · exact (r1.after ff gg).domO a m
    · rw [hdz]
      exact fun z => nomatch z
  refine lc_it wk Pv ?_ ?_ ?_ ?_
  · refine ⟨Frm.new hD, g'.new hD, [], [], upd_same, .nil, q⟩
  · rintro i H' _ ⟨ff, gg, acc, us, hdz, _, _⟩
    exact (hw M2 H' (sameOf ff) (domOf ff gg hdz)).1
  · rintro i x H' Hx hlt ⟨ff, gg, acc, us, hdz, dp, h⟩ hy
    obtain ⟨d, hdd, sx, dx, kx⟩ := (hw M2 H' (sameOf ff) (domOf ff gg hdz)).2 i x Hx hlt hy
    have e : ds.drop i = d :: ds.drop (i + 1) := by
      obtain ⟨hlz0, hd'⟩ := List.getElem?_eq_some_iff.mp hdd
      rw [List.drop_eq_getElem_cons hlz0, hd']
    rw [e] at h
    have fx : Frm b H1 Hx := ff.trans (frm_of sx)
    have gx := gg.ext sx kx
    have hdx : Hx D = some (.lst us) := sx _ _ hdz
    have rin := r1.within vs (D := D) fx gx hD (by rw [hdx]; exact fun z => nomatch z)
    have fze : ∀ (HH : Hp), Fz (MO M2 fun _ => False) HH = Fz M2 HH := fun HH => fz_congr (fun a => ⟨fun z => z.elim id False.elim, .inl⟩) HH
    have riz : ∀ (HH : Hp) (x : V) (d : WI), RepI K M2 HH x d → RepI K (MO M2 fun _ => False) HH x d := fun HH x d z => by
      cases d with
      | d y =>
        have z : Dq K (Fz M2 HH) x y := z
        show Dq K (Fz (MO M2 fun _ => False) HH) x y
        rw [fze HH]
        exact z
      | p y1 y2 =>
        obtain ⟨T, vx, vy, ez1, ez2, e3, e4⟩ := z
        exact ⟨T, vx, vy, ez1, ez2, by rw [fze HH]; exact e3, by rw [fze HH]; exact e4⟩
    have inner : ∀ (σ2 : LSt) (env2 : En), ER K M2 b Hx (fun _ => False) σ2 Hx env2 →
        mt env2 (fun c => if c = true then me env2 fun w => ∃ x, w = .d x ∧ acc.length < sizeLine ∧ lcW mg mt me (inE vs env) (ds.drop (i + 1)) (acc ++ [x]) Qa else lcW mg mt me (inE vs env) (ds.drop (i + 1)) acc Qa) →
        tt σ2 Hx fun c H3 => if c = true then te σ2 H3 fun y H4 => ∃ acc, H4 D = some (.lst acc) ∧ acc.length < sizeLine ∧ Pv (i + 1) (upd H4 D (.lst (acc ++ [y]))) else Pv (i + 1) H3 := by
      intro σ2 env2 r2 h2
      refine ht _ _ _ σ2 Hx env2 r2 _ h2 _ ?_
      intro c H3 f3 g3 h3
      have f13 := fx.trans f3
      have d3 : H3 D = some (.lst us) := f3 D _ Db hdx
      have s3 : Same (Fz M2 H') (Fz M2 H3) := fz_same fun a o n e => ⟨n, f3 a o ⟨fun z => n (.inl (.inl (z ▸ r.mb.1))), fun z => n (.inl (.inl (z ▸ r.mb.2)))⟩ (sx a o e)⟩
      cases c with
      | true =>
        have h3 : me env2 fun w => ∃ x, w = .d x ∧ acc.length < sizeLine ∧ lcW mg mt me (inE vs env) (ds.drop (i + 1)) (acc ++ [x]) Qa := h3
        show te σ2 H3 _
        refine hez _ _ _ σ2 H3 env2 (r2.after f3 g3) _ h3 _ ?_
        rintro v w H4 f4 g4 rp ⟨x', rfl, hzz, h4⟩
        have rp : Dq K (Fz M2 H4) v x' := fze H4 ▸ rp
        have d4 : H4 D = some (.lst us) := f4 D _ Db d3
        have dp4 : DqAll K (Fz M2 H4) us acc := dpAll_mono (s3.trans (f4.fz ⟨.inl (.inl r.mb.1), .inl (.inl r.mb.2)⟩)) _ _ dp
        have sD : Same (Fz M2 H4) (Fz M2 (upd H4 D (.lst (us ++ [v])))) := fz_same fun a o n e => ⟨n, by rw [upd_ne fun z => n (.inr z)]; exact e⟩
        refine ⟨us, d4, by rw [dpAll_len dp]; exact hzz, ?_, g4.stay (upd_ne Db.1.symm) (upd_ne Dc.symm) (by rw [upd_ne Db.2.symm]; exact g4.there3) (tabs_lst d4) (nt_upd (by intro _ z; cases z)), acc ++ [x'], us ++ [v], upd_same, dpAll_mono sD _ _ (dpAll_app dp4 (.cons rp .nil)), h4⟩
        intro a o n e
        rw [upd_ne (ne_of_none e hD)]
        exact f4 a o n (f13 a o n e)
      | false =>
        exact ⟨f13, g3, acc, us, d3, dpAll_mono s3 _ _ dp, h3⟩
    have h' := hgz _ _ _ (wipe σ vs) Hx (inE vs env) x d rin (riz Hx x d dx) _ h (fun σ2 H2 => tt σ2 H2 fun c H3 => if c = true then te σ2 H3 fun y H4 => ∃ acc, H4 D = some (.lst acc) ∧ acc.length < sizeLine ∧ Pv (i + 1) (upd H4 D (.lst (acc ++ [y]))) else Pv (i + 1) H3) fun σ2 env2 r2 h2 => inner σ2 env2 r2 h2
    refine hv.mono _ _ _ _ _ ?_ (hv.wip _ _ _ _ h')
    rintro σ2 H2 ⟨ez1, ez2⟩
    exact ⟨ez1.trans (wipe_wipe fun _ z => z), ez2⟩
  · rintro H' ⟨ff, gg, acc, us, hdz, dp, h⟩
    rw [List.drop_length] at h
    exact k (.ref D) acc H' (f.trans ff) gg ⟨D, us, rfl, f.free hD Db, hdz, dp⟩ h
end
end DD

set_option maxHeartbeats 3999999
/-! operators, subscripts, slices, built-in calls -/
namespace DD
open PySem PySem.Spec PyProof.Rows L2 GG
section
variable {K : PySem.W.Frag} {b : BP} {t ta tbz te : TE} {tt uu : TT} {tas : TA} {m ma mb me : Wm} {ms : Wl} {mt mu : Wt} {mf mg : Wf} {M : Addr → Prop} {H H' : Hp} {v : V} {w : W}
/-- the items of a list -/
def W.lst : W → Option (List PD)
  | .l xs => some xs
  | .d (.list xs) => some xs
  | _ => none
def W.tup : W → Option (List PD)
  | .d (.tuple xs) => some xs
  | _ => none
theorem RepW.lst {xs : List PD} (r : RepW K M b H v w) (e : w.lst = some xs) : ∃ a vs, v = .ref a ∧ SqL K H a vs ∧ DqAll K (Fz M H) vs xs := by
  cases w with
  | l ys =>
    obtain rfl := Option.some.inj e
    obtain ⟨a, vs, ez1, _, h, d⟩ := r
    exact ⟨a, vs, ez1, SqL.of h, d⟩
  | d y =>
    have r : Dq K (Fz M H) v y := r
    cases y <;> try cases e
    cases r with
    | lst hsv0 d => exact ⟨_, _, rfl, (hsv0.mono fz_sub).sq, d⟩
  | bag => cases e
theorem RepW.tup {xs : List PD} (r : RepW K M b H v w) (e : w.tup = some xs) : ∃ a vs, v = .ref a ∧ SqT K H a vs ∧ DqAll K (Fz M H) vs xs ∧ TupD K H a vs := by
  cases w with
  | l ys => cases e
  | d y =>
    have r : Dq K (Fz M H) v y := r
    cases y <;> try cases e
    cases r with
    | tup hsv0 d => exact ⟨_, _, rfl, (hsv0.mono fz_sub).sq, d, hsv0.mono fz_sub⟩
  | bag => cases e
/-- a new list, to be read at once -/
def lW (mf : Wf) : Wm := fun env Q => mf env fun xs => Q (.l xs)
theorem snd_l (h : SndF K b t mf) : Snd K b t (lW mf) := by
  intro M0 H0 O σ H env r Qa hmz Q k
  refine h M0 H0 O σ H env r _ hmz _ ?_
  rintro v xs H' f g ⟨p, vs, rfl, n, hpz, dp⟩ q
  exact k _ (.l xs) H' f g ⟨p, vs, rfl, r.bag.off n, hpz, dpAll_mono (fz_same fun a o z e => ⟨fun y => z (.inl y), e⟩) _ _ dp⟩ q
/-! ### subscripts -/
theorem atI_rep {vs : List V} {xs : List PD} {i : Int} {d : PD} (dp : DqAll K H vs xs) (e : atI xs i = some d) : ∃ v, atI vs i = some v ∧ Dq K H v d := by
  unfold atI at e ⊢
  rw [dpAll_len dp]
  cases q : ixN xs.length i with
  | none =>
    rw [q] at e
    cases e
  | some j =>
    rw [q] at e
    exact dpAll_get' dp e
def ixD (x : W) (i : Int) : Option PD := match x with
  | .l xs => atI xs i
  | .d (.list xs) => atI xs i
  | .d (.tuple xs) => atI xs i
  | .d (.str z) => if z.length ≤ sizeLine then (atI z.cps.toList i).map fun c => .str ⟨#[c]⟩ else none
  | _ => none
def ixF (x y : W) (Q : W → Prop) : Prop := ∃ i d, y = .d (.int i) ∧ ixD x i = some d ∧ Q (.d d)
theorem rv_ix : RV2 K b (rIx K) ixF := by
  intro M H x y wx wy mb dom g rxz ryz Qa h Q k
  obtain ⟨i, d, rfl, e, q⟩ := h
  obtain rfl := repInt ryz
  have lst : ∀ xs, wx.lst = some xs → atI xs i = some d → rIx K x (.int i) H Q := by
    intro xs hxz hez
    obtain ⟨a, vs, rfl, hsv0, dp⟩ := rxz.lst hxz
    obtain ⟨v, hv, dv⟩ := atI_rep dp hez
    exact .inl ⟨a, vs, i, v, rfl, rfl, hsv0, hv, k v (.d d) H (Frm.refl _ _) g dv q⟩
  have tup : ∀ xs, wx.tup = some xs → atI xs i = some d → rIx K x (.int i) H Q := by
    intro xs hxz hez
    obtain ⟨a, vs, rfl, hsv0, dp, _⟩ := rxz.tup hxz
    obtain ⟨v, hv, dv⟩ := atI_rep dp hez
    exact .inr (.inl ⟨a, vs, i, v, rfl, rfl, hsv0, hv, k v (.d d) H (Frm.refl _ _) g dv q⟩)
  cases wx with
  | l xs => exact lst xs rfl e
  | bag => cases e
  | d z =>
    cases z with
    | list xs => exact lst xs rfl e
    | tuple xs => exact tup xs rfl e
    | str z =>
      have rxz : Dq K (Fz M H) x (.str z) := rxz
      cases rxz
      simp only [ixD] at e
      split at e
      · rename_i hzz
        cases q2 : atI z.cps.toList i with
        | none =>
          rw [q2] at e
          cases e
        | some c =>
          rw [q2] at e
          obtain rfl := Option.some.inj e
          exact .inr (.inr ⟨z, i, c, rfl, rfl, hzz, q2, k _ (.d (.str ⟨#[c]⟩)) H (Frm.refl _ _) g (Dq.str _) q⟩)
      · cases e
    | _ => cases e
/-! ### slices -/
abbrev Wo := En → (Option Int → Prop) → Prop
def SndO (K : PySem.W.Frag) (b : BP) (t : TO) (m : Wo) : Prop := ∀ (M0 : Addr → Prop) (H0 : Hp) (O : Addr → Prop) (σ : LSt) (H : Hp) (env : En), ER K M0 b H0 O σ H env → ∀ Qa : Option Int → Prop, m env Qa →
  ∀ Q : Option Int → Hp → Prop, (∀ o H', Frm b H H' → Bag b H' → Qa o → Q o H') → t σ H Q
def noW : Wo := fun _ Q => Q none
def partW (me : Wm) : Wo := fun env Q => me env fun w => ∃ i, w = .d (.int i) ∧ Q (some i)
theorem so_no : SndO K b tNoPart noW := fun _ _ _ _ H _ r _ h _ k => k none H (Frm.refl _ _) r.bag h
theorem so_part (h : Snd K b te me) : SndO K b (tPart te) (partW me) := by
  intro M0 H0 O σ H env r Qa hmz Q k
  refine h M0 H0 O σ H env r _ hmz _ ?_
  rintro v w H' f g rp ⟨i, rfl, q⟩
  exact ⟨i, repInt rp, k _ H' f g q⟩
def cutD (xs : List PD) (lo hi : Option Int) : List PD := (xs.drop (HT.sIx xs.length 0 lo)).take (HT.sIx xs.length xs.length hi - HT.sIx xs.length 0 lo)
theorem cut_rep {vs : List V} {xs : List PD} {lo hi : Option Int} (dp : DqAll K H vs xs) : DqAll K H (cutV vs lo hi) (cutD xs lo hi) := by
  unfold cutV cutD
  rw [dpAll_len dp]
  exact dpAll_take _ (dpAll_drop _ dp)
def slLF (me : Wm) (ml mh : Wo) : Wf := fun env Q => me env fun w => ml env fun lo => mh env fun hi => ∃ xs, w.lst = some xs ∧ Q (cutD xs lo hi)
theorem snd_slL {tl th : TO} {ml mh : Wo} (h : Snd K b te me) (hlz0 : SndO K b tl ml) (hh : SndO K b th mh) : SndF K b (tSl (rSlL K) te tl th) (slLF me ml mh) := by
  intro M0 H0 O σ H env r Qa hmz Q k
  refine h M0 H0 O σ H env r _ hmz _ ?_
  intro v w H1 f1 g1 rp hm1
  refine hlz0 M0 H0 O σ H1 env (r.after f1 g1) _ hm1 _ ?_
  intro lo H2 f2 g2 hm2
  refine hh M0 H0 O σ H2 env ((r.after f1 g1).after f2 g2) _ hm2 _ ?_
  rintro hi H3 f3 g3 ⟨xs, e, q⟩
  have r3 := ((r.after f1 g1).after f2 g2).after f3 g3
  obtain ⟨a, vs, rfl, hsv0, dp⟩ := (rp.frm (f2.trans f3) r.mbO).lst e
  refine ⟨a, vs, rfl, hsv0, fun p hpz => ?_⟩
  have ff := (f1.trans f2).trans f3
  have pb : Off b p := g3.off hpz
  refine k _ _ _ (ff.trans (Frm.new hpz)) (g3.new hpz) ⟨p, _, rfl, ff.free hpz pb, upd_same, dpAll_mono (fz_same fun a o z e => ?_) _ _ (cut_rep dp)⟩ q
  have nap := ne_of_none e hpz
  exact ⟨fun y => y.elim z nap, by rw [upd_ne nap]; exact e⟩
/-- a part of a tuple that is not the whole -/
def slTW (me : Wm) (ml mh : Wo) : Wm := fun env Q => me env fun w => ml env fun lo => mh env fun hi => ∃ xs, w.tup = some xs ∧ ¬ (HT.sIx xs.length 0 lo = 0 ∧ HT.sIx xs.length xs.length hi = xs.length) ∧ Q (.d (.tuple (cutD xs lo hi)))
theorem snd_slT {tl th : TO} {ml mh : Wo} (h : Snd K b te me) (hlz0 : SndO K b tl ml) (hh : SndO K b th mh) : Snd K b (tSl (rSlZ K) te tl th) (slTW me ml mh) := by
  intro M0 H0 O σ H env r Qa hmz Q k
  refine h M0 H0 O σ H env r _ hmz _ ?_
  intro v w H1 f1 g1 rp hm1
  refine hlz0 M0 H0 O σ H1 env (r.after f1 g1) _ hm1 _ ?_
  intro lo H2 f2 g2 hm2
  refine hh M0 H0 O σ H2 env ((r.after f1 g1).after f2 g2) _ hm2 _ ?_
  rintro hi H3 f3 g3 ⟨xs, e, nw, q⟩
  have r3 := ((r.after f1 g1).after f2 g2).after f3 g3
  obtain ⟨a, vs, rfl, hsv0, dp, _⟩ := (rp.frm (f2.trans f3) r.mbO).tup e
  refine ⟨a, vs, rfl, hsv0, by rw [dpAll_len dp]; exact nw, fun p o hpz od oc => ?_⟩
  have ff := (f1.trans f2).trans f3
  have np : ¬ MO M0 O p := fun z => r3.domO p z hpz
  refine k _ (.d (.tuple _)) _ (ff.trans (Frm.new hpz)) (g3.new hpz) (Dq.tup (TupD.of np od oc) (dpAll_mono (fz_new hpz) _ _ (cut_rep dp))) q
/-! ### + of lists, of tuples, of texts -/
def RV2F (K : PySem.W.Frag) (b : BP) (r : R2) (f : W → W → (List PD → Prop) → Prop) : Prop := ∀ (M : Addr → Prop) (H : Hp) (x y : V) (wx wy : W), MB b M → (∀ a, M a → H a ≠ none) → Bag b H → RepW K M b H x wx → RepW K M b H y wy → ∀ Qa, f wx wy Qa →
  ∀ Q : VK, (∀ v xs H', Frm b H H' → Bag b H' → RepF K M H H' v xs → Qa xs → Q v H') → r x y H Q
def opF (f : W → W → (List PD → Prop) → Prop) (ma mb : Wm) : Wf := fun env Q => ma env fun x => mb env fun y => f x y Q
theorem snd_opF {r2 : R2} {f : W → W → (List PD → Prop) → Prop} (hr : RV2F K b r2 f) (haz : Snd K b ta ma) (hb : Snd K b tbz mb) : SndF K b (tOp r2 ta tbz) (opF f ma mb) := by
  intro M0 H0 O σ H env r Qa h Q k
  refine haz M0 H0 O σ H env r _ h _ ?_
  intro v w H1 f1 g1 r1 h1
  refine hb M0 H0 O σ H1 env (r.after f1 g1) _ h1 _ ?_
  intro u w' H2 f2 g2 r2 h2
  refine hr (MO M0 O) H2 v u w w' r.mbO ((r.after f1 g1).after f2 g2).domO g2 (r1.frm f2 r.mbO) r2 _ h2 _ ?_
  intro z xs H3 f3 g3 r3 q
  exact k z xs H3 ((f1.trans f2).trans f3) g3 (r3.pre (f1.trans f2) g2) q
def catF (x y : W) (Q : List PD → Prop) : Prop := ∃ xs ys, x = .l xs ∧ y = .l ys ∧ xs.length + ys.length ≤ sizeLine ∧ Q (xs ++ ys)
theorem rv_cat : RV2F K b rCat catF := by
  intro M H x y wx wy mb dom g rxz ryz Qa h Q k
  obtain ⟨xs, ys, rfl, rfl, hzz, q⟩ := h
  obtain ⟨a, vs, rfl, na, haz, da⟩ := rxz
  obtain ⟨c, us, rfl, nc, hc, dc⟩ := ryz
  refine ⟨a, c, vs, us, rfl, rfl, haz, hc, by rw [dpAll_len da, dpAll_len dc]; exact hzz, fun p hpz => ?_⟩
  refine k _ _ _ (Frm.new hpz) (g.new hpz) ⟨p, _, rfl, hpz, upd_same, dpAll_mono (fz_same fun a o z e => ?_) _ _ (dpAll_app da dc)⟩ q
  have nap := ne_of_none e hpz
  exact ⟨fun y => y.elim z nap, by rw [upd_ne nap]; exact e⟩
def catTF (x y : W) (Q : W → Prop) : Prop := ∃ xs ys, x.tup = some xs ∧ y.tup = some ys ∧ xs ≠ [] ∧ xs.length + ys.length ≤ sizeLine ∧ Q (.d (.tuple (xs ++ ys)))
theorem rv_catT : RV2 K b (rCatZ K) catTF := by
  intro M H x y wx wy mb dom g rxz ryz Qa h Q k
  obtain ⟨xs, ys, ez1, ez2, nx, hzz, q⟩ := h
  cases wx with
  | l _ => cases ez1
  | bag => cases ez1
  | d z =>
    have rx0 : Dq K (Fz M H) x z := rxz
    obtain ⟨a, vs, rfl, hsv0, dp, _⟩ := rxz.tup ez1
    obtain ⟨c, us, rfl, hs2, dp2, _⟩ := ryz.tup ez2
    refine ⟨a, c, vs, us, rfl, rfl, hsv0, hs2, ?_, by rw [dpAll_len dp, dpAll_len dp2]; exact hzz, ?_, ?_⟩
    · intro z
      subst z
      cases xs with
      | nil => exact nx rfl
      | cons _ _ => cases dp
    · intro z
      subst z
      cases ys with
      | nil =>
        rw [List.append_nil] at q
        cases z <;> try cases ez1
        exact k _ (.d (.tuple _)) H (Frm.refl _ _) g rx0 q
      | cons _ _ => cases dp2
    · intro _ p o hpz od oc
      have np : ¬ M p := fun z => dom p z hpz
      exact k _ (.d (.tuple _)) _ (Frm.new hpz) (g.new hpz) (Dq.tup (TupD.of np od oc) (dpAll_mono (fz_new hpz) _ _ (dpAll_app dp dp2))) q
/-! ### len, tuple, list -/
def lenF (ws : List W) (Q : W → Prop) : Prop := ∃ w n, ws = [w] ∧ (w.lst.map List.length = some n ∨ w.tup.map List.length = some n ∨ ∃ z, w = .d (.str z) ∧ z.length ≤ sizeLine ∧ n = z.length) ∧ Q (.d (.int (n : Nat)))
theorem rc_len : RC K b (fun xs H Q => ∃ x n, xs = [x] ∧ LenV K x H n ∧ Q (.int n) H) lenF := by
  intro M H vs ws mb dom g p Qa h Q k
  obtain ⟨w, n, rfl, h, q⟩ := h
  cases p with
  | cons rxz rest =>
    cases rest
    rename_i x
    have fin : Q (.int (n : Nat)) H := k _ (.d (.int (n : Nat))) H (Frm.refl _ _) g (Dq.int _) q
    rcases h with h | h | ⟨z, rfl, hzz, rfl⟩
    · cases e : w.lst with
      | none =>
        rw [e] at h
        cases h
      | some xs =>
        rw [e] at h
        obtain rfl := Option.some.inj h
        obtain ⟨a, us, rfl, hsv0, dp⟩ := rxz.lst e
        exact ⟨_, _, rfl, .inl ⟨us, hsv0, (dpAll_len dp).symm⟩, fin⟩
    · cases e : w.tup with
      | none =>
        rw [e] at h
        cases h
      | some xs =>
        rw [e] at h
        obtain rfl := Option.some.inj h
        obtain ⟨a, us, rfl, hsv0, dp, _⟩ := rxz.tup e
        exact ⟨_, _, rfl, .inr ⟨us, hsv0, (dpAll_len dp).symm⟩, fin⟩
    · have rxz : Dq K (Fz M H) x (.str z) := rxz
      cases rxz
      exact ⟨_, _, rfl, ⟨hzz, rfl⟩, fin⟩
def tupF (ws : List W) (Q : W → Prop) : Prop := ∃ w xs, ws = [w] ∧ (w.lst = some xs ∨ w.tup = some xs) ∧ Q (.d (.tuple xs))
theorem rc_tup : RC K b (rTupZ K) tupF := by
  intro M H vs ws mb dom g p Qa h Q k
  obtain ⟨w, xs, rfl, h, q⟩ := h
  cases p with
  | cons rxz rest =>
    cases rest
    rcases h with h | h
    · obtain ⟨a, us, rfl, hsv0, dp⟩ := rxz.lst h
      refine ⟨a, us, rfl, .inl ⟨hsv0, fun l o hlz0 od oc => ?_⟩⟩
      have nl : ¬ M l := fun z => dom l z hlz0
      exact k _ (.d (.tuple xs)) _ (Frm.new hlz0) (g.new hlz0) (Dq.tup (TupD.of nl od oc) (dpAll_mono (fz_new hlz0) _ _ dp)) q
    · obtain ⟨a, us, rfl, hsv0, dp, _⟩ := rxz.tup h
      refine ⟨a, us, rfl, .inr ⟨hsv0, k _ (.d (.tuple xs)) H (Frm.refl _ _) g ?_ q⟩⟩
      cases w with
      | l _ => cases h
      | bag => cases h
      | d z =>
        cases z <;> try cases h
        exact rxz
def listF (ws : List W) (Q : List PD → Prop) : Prop := ∃ w xs, ws = [w] ∧ (w.lst = some xs ∨ w.tup = some xs) ∧ Q xs
theorem rc_list : RCF K b (fun xs H Q => ∃ p ys, xs = [.ref p] ∧ (SqL K H p ys ∨ SqT K H p ys) ∧ ∀ l, H l = none → Q (.ref l) (upd H l (.lst ys))) listF := by
  intro M H vs ws mb dom g p Qa h Q k
  obtain ⟨w, xs, rfl, h, q⟩ := h
  cases p with
  | cons rxz rest =>
    cases rest
    have fin : ∀ (us : List V), DqAll K (Fz M H) us xs → ∀ l, H l = none → Q (.ref l) (upd H l (.lst us)) := by
      intro us dp l hlz0
      refine k _ _ _ (Frm.new hlz0) (g.new hlz0) ⟨l, us, rfl, hlz0, upd_same, dpAll_mono (fz_same fun a o z e => ?_) _ _ dp⟩ q
      have nap := ne_of_none e hlz0
      exact ⟨fun y => y.elim z nap, by rw [upd_ne nap]; exact e⟩
    rcases h with h | h
    · obtain ⟨a, us, rfl, hsv0, dp⟩ := rxz.lst h
      exact ⟨a, us, rfl, .inl hsv0, fin us dp⟩
    · obtain ⟨a, us, rfl, hsv0, dp, _⟩ := rxz.tup h
      exact ⟨a, us, rfl, .inr hsv0, fin us dp⟩
/-! ### repr -/
def reprF (ws : List W) (Q : W → Prop) : Prop := ∃ w d, ws = [w] ∧ w.py = some d ∧ d.showable = true ∧ d.hasDict = false ∧ d.depth ≤ 32 ∧ d.shown.length ≤ sizeLine ∧ Q (.d (.str d.shown))
theorem rc_repr : RC K b (rRepr K) reprF := by
  intro M H vs ws mb dom g p Qa h Q k
  obtain ⟨w, d, rfl, e, h1, h2, h3, h4, q⟩ := h
  cases p with
  | cons rxz rest =>
    cases rest
    exact ⟨_, d, rfl, rxz.py e h2, h1, h2, h3, h4, k _ (.d (.str d.shown)) H (Frm.refl _ _) g (Dq.str _) q⟩
/-! ### x in (a, b, ..) of flat things -/
def flatD : PD → Bool
  | .none => true
  | .bool _ => true
  | .int _ => true
  | .str _ => true
  | _ => false
theorem flat_rep {d : PD} (r : Dq K H v d) (h : flatD d = true) : flatV v = true := by
  cases r <;> first | rfl | cases h
theorem eqv_rep {u : V} {d e : PD} (r1 : Dq K H v d) (r2 : Dq K H' u e) (h1 : flatD d = true) (h2 : flatD e = true) : eqV v u = PyData.eqv d e := by
  cases r1 <;> cases h1 <;> cases r2 <;> cases h2 <;> first | rfl | simp [eqV, PyData.eqv]
theorem flats_rep : ∀ {vs : List V} {ds : List PD}, DqAll K H vs ds → ds.all flatD = true → vs.all flatV = true
  | _, _, .nil, _ => rfl
  | _, _, .cons r rs, h => by
    rw [List.all_cons, Bool.and_eq_true] at h
    rw [List.all_cons, flat_rep r h.1, flats_rep rs h.2]
    rfl
theorem inV_rep {x : PD} (rxz : Dq K H' v x) (fx : flatD x = true) : ∀ {vs : List V} {ds : List PD}, DqAll K H vs ds → ds.all flatD = true → inV v vs = ds.any fun y => PyData.eqv y x
  | _, _, .nil, _ => rfl
  | _, _, .cons r rs, h => by
    rw [List.all_cons, Bool.and_eq_true] at h
    have ih := inV_rep rxz fx rs h.2
    unfold inV at ih ⊢
    rw [List.any_cons, List.any_cons, ih, eqv_rep r rxz h.1 fx]
def inF (neg : Bool) (x y : W) (Q : W → Prop) : Prop := ∃ d ds, x = .d d ∧ (y.lst = some ds ∨ y.tup = some ds) ∧ flatD d = true ∧ ds.all flatD = true ∧ Q (.d (.bool (if neg then !(ds.any fun z => PyData.eqv z d) else ds.any fun z => PyData.eqv z d)))
theorem rv_in {neg : Bool} : RV2 K b (rIn K neg) (inF neg) := by
  intro M H x y wx wy mb dom g rxz ryz Qa h Q k
  obtain ⟨d, ds, rfl, hy, fd, fds, q⟩ := h
  have rxz : Dq K (Fz M H) x d := rxz
  have main : ∀ (a : Addr) (us : List V), y = .ref a → (SqL K H a us ∨ SqT K H a us) → DqAll K (Fz M H) us ds → rIn K neg x y H Q := by
    intro a us e hsv0 dp
    refine ⟨a, us, e, hsv0, flat_rep rxz fd, flats_rep dp fds, ?_⟩
    rw [inV_rep rxz fd dp fds]
    exact k _ (.d (.bool _)) H (Frm.refl _ _) g (Dq.bl _) q
  rcases hy with hy | hy
  · obtain ⟨a, us, e, hsv0, dp⟩ := ryz.lst hy
    exact main a us e (.inl hsv0) dp
  · obtain ⟨a, us, e, hsv0, dp, _⟩ := ryz.tup hy
    exact main a us e (.inr hsv0) dp
/-! ### t.index(x), of texts -/
def strsOf : List PD → Option (List Str)
  | [] => some []
  | .str z :: ds => (strsOf ds).map (z :: ·)
  | _ :: _ => none
theorem strs_rep : ∀ {vs : List V} {ds : List PD} {zs : List Str}, DqAll K H vs ds → strsOf ds = some zs → vs = zs.map V.str
  | _, _, _, .nil, e => by
    obtain rfl := Option.some.inj e
    rfl
  | _, d :: ds, zs, .cons r rs, e => by
    cases d <;> try cases e
    rename_i z
    cases r
    cases q : strsOf ds with
    | none =>
      simp only [strsOf, q] at e
      cases e
    | some ys =>
      simp only [strsOf, q] at e
      obtain rfl := Option.some.inj e
      rw [strs_rep rs q]
      rfl
end
end DD

set_option maxHeartbeats 3999999
/-! sorted, as data -/
namespace DD
open PySem PySem.Spec PyProof.Rows L2 GG
section
variable {K : PySem.W.Frag} {b : BP} {t ta tbz te : TE} {tt uu : TT} {tas : TA} {m ma mb me mo : Wm} {ms : Wl} {mt mu : Wt} {mf mg : Wf} {M : Addr → Prop} {H H' : Hp} {v : V} {w : W}
theorem zip_rep {H : Hp} : ∀ {us : List V} {ds : List PD}, DqAll K H us ds → ∀ p ∈ us.zip ds, Dq K H p.1 p.2
  | _, _, .nil => fun p h => by cases h
  | _, _, .cons r rs => fun p h => by
    rcases List.mem_cons.mp h with rfl | h
    · exact r
    · exact zip_rep rs p h
theorem rep_zip {H : Hp} : ∀ {zs : List (V × PD)}, (∀ p ∈ zs, Dq K H p.1 p.2) → DqAll K H (zs.map Prod.fst) (zs.map Prod.snd)
  | [], _ => .nil
  | z :: zs, h => .cons (h z List.mem_cons_self) (rep_zip fun p hpz => h p (List.mem_cons_of_mem _ hpz))
theorem zip_snd' {us : List V} {ds : List PD} (h : us.length = ds.length) : (us.zip ds).map Prod.snd = ds := List.map_snd_zip (by omega)
/-- a new list of what stood in an oldz one -/
theorem new_list {M : Addr → Prop} {H : Hp} {vs : List V} {xs : List PD} (g : Bag b H) (dp : DqAll K (Fz M H) vs xs) {p : Addr} (hpz : H p = none) : Frm b H (upd H p (.lst vs)) ∧ Bag b (upd H p (.lst vs)) ∧ RepF K M H (upd H p (.lst vs)) (.ref p) xs := by
  refine ⟨Frm.new hpz, g.new hpz, p, vs, rfl, hpz, upd_same, dpAll_mono (fz_same fun a o z e => ?_) _ _ dp⟩
  have nap := ne_of_none e hpz
  exact ⟨fun y => y.elim z nap, by rw [upd_ne nap]; exact e⟩
theorem sortZ_snd {us : List V} {ds : List PD} (h : us.length = ds.length) : (sortZ us ds).map Prod.snd = ds.mergeSort (PySem.W.dataLe false id) := by
  unfold sortZ
  exact (List.map_mergeSort (r := PySem.W.dataLe false Prod.snd) (s := PySem.W.dataLe false id) (f := Prod.snd) (fun _ _ _ _ => rfl)).trans (by rw [zip_snd' h])
theorem sortKZ_snd {us : List V} {ds : List PD} (h : us.length = ds.length) : (sortKZ us ds).map Prod.snd = ds.mergeSort (PySem.W.dataLe false firstD) := by
  unfold sortKZ
  exact (List.map_mergeSort (r := PySem.W.dataLe false fun p : V × PD => firstD p.2) (s := PySem.W.dataLe false firstD) (f := Prod.snd) (fun _ _ _ _ => rfl)).trans (by rw [zip_snd' h])
mutual
theorem noD_alike : ∀ d : PyData, PySem.W.alike d d = true → d.hasDict = false
  | .none, _ => rfl
  | .bool _, _ => rfl
  | .int _, _ => rfl
  | .str _, _ => rfl
  | .list ds, h => by
    simp only [PyData.hasDict]
    exact noDs_alike ds (by simpa only [PySem.W.alike] using h)
  | .tuple ds, h => by
    simp only [PyData.hasDict]
    exact noDs_alike ds (by simpa only [PySem.W.alike] using h)
  | .dict _, h => by simp [PySem.W.alike] at h
theorem noDs_alike : ∀ ds : List PyData, PySem.W.alikeAll ds ds = true → PyData.hasDictAll ds = false
  | [], _ => rfl
  | d :: ds, h => by
    simp only [PySem.W.alikeAll, Bool.and_eq_true] at h
    simp only [PyData.hasDictAll, noD_alike d h.1, noDs_alike ds h.2, Bool.or_self]
end
/-- what sorted gives: alike data; named pairs -/
def srt (xs : List PD) : List PD := xs.mergeSort (PySem.W.dataLe false id)
def srtK (xs : List PD) : List PD := xs.mergeSort (PySem.W.dataLe false firstD)
def srtF (ws : List W) (Q : List PD → Prop) : Prop := ∃ w xs, ws = [w] ∧ w.lst = some xs ∧ PySem.W.AllAlike xs ∧ PySem.W.Sortable xs ∧ (∀ d ∈ xs, d.depth ≤ 32) ∧ Q (srt xs)
theorem rc_sortA : RCF K b (rSortA K) srtF := by
  intro M H vs ws mb dom g p Qa h Q k
  obtain ⟨w, xs, rfl, e, al, so, dp, q⟩ := h
  cases p with
  | cons rxz rest =>
    cases rest
    obtain ⟨a, us, rfl, hsv0, dd⟩ := rxz.lst e
    refine ⟨a, us, xs, rfl, hsv0, dqAll_dp _ _ (dpAll_mono fz_sub _ _ dd) (noDs fun d hdz => noD_alike d (al d hdz d hdz)), al, so, dp, fun p hpz => ?_⟩
    have dz : DqAll K (Fz M H) ((sortZ us xs).map Prod.fst) (srt xs) := by
      unfold srt
      rw [← sortZ_snd (dpAll_len dd)]
      exact rep_zip fun z hzz => zip_rep dd z (List.mem_mergeSort.mp hzz)
    obtain ⟨f1, g1, r1⟩ := new_list g dz hpz
    exact k _ _ _ f1 g1 r1 q
/-- pairs of a text and of data -/
def pairD (p : Str × PD) : PD := .tuple [.str p.1, p.2]
theorem noD_pair {nd : List (Str × PD)} (sm : ∀ p ∈ nd, p.2.canLay0 = true ∧ p.2.depth ≤ 32 ∧ PyData.eqv p.2 p.2 = true) {d : PD} (h : d ∈ nd.map pairD) : d.hasDict = false := by
  obtain ⟨p, hpz, rfl⟩ := List.mem_map.mp h
  simp [pairD, PyData.hasDict, PyData.hasDictAll, noD_lay _ (sm p hpz).1]
theorem named_pair (p : Str × PD) : IsNamed (pairD p) := ⟨p.1, [p.2], rfl⟩
theorem strict_one {α : Type} (f : α → List Nat) : ∀ {xs ys : List α}, xs.Perm ys → xs.Pairwise (fun p q => f p < f q) → ys.Pairwise (fun p q => f p ≤ f q) → xs = ys
  | [], ys, p, _, _ => (List.Perm.nil_eq p)
  | x :: xs, [], p, _, _ => by
    have := p.length_eq
    simp at this
  | x :: xs, y :: ys, p, h1, h2 => by
    obtain ⟨a1, a2⟩ := List.pairwise_cons.mp h1
    obtain ⟨b1, b2⟩ := List.pairwise_cons.mp h2
    have e : x = y := by
      have hy : y ∈ x :: xs := p.mem_iff.mpr List.mem_cons_self
      have hxz : x ∈ y :: ys := p.mem_iff.mp List.mem_cons_self
      rcases List.mem_cons.mp hy with z | z
      · exact z.symm
      · rcases List.mem_cons.mp hxz with z' | z'
        · exact z'
        · exact absurd (a1 y z) (List.not_lt.mpr (b1 x z'))
    subst e
    rw [strict_one f (p.cons_inv) a2 b2]
theorem srtK_pairs {us : List V} {nd : List (Str × PD)} {out : List (V × (Str × PD))} (h : us.length = nd.length) (p : out.Perm (us.zip nd)) (s : out.Pairwise fun p q => p.2.1.cps.toList < q.2.1.cps.toList) : out.map (fun p => pairD p.2) = srtK (nd.map pairD) := by
  have ez1 : srtK (nd.map pairD) = (nd.mergeSort fun p q => decide (p.1.cps.toList ≤ q.1.cps.toList)).map pairD := by
    unfold srtK
    refine (List.map_mergeSort (r := fun p q : Str × PD => decide (p.1.cps.toList ≤ q.1.cps.toList)) (s := PySem.W.dataLe false firstD) (f := pairD) ?_).symm
    intro x _ y _
    have := congrFun (congrFun (PySem.W.dataLe_str (β := Str × PD) fun p => p.1) x) y
    rw [← this]
    rfl
  have ez2 : (out.map Prod.snd).Perm nd := by
    have := p.map Prod.snd
    rwa [List.map_snd_zip (by omega)] at this
  have e3 : out.map Prod.snd = nd.mergeSort fun p q => decide (p.1.cps.toList ≤ q.1.cps.toList) := by
    refine strict_one (fun p : Str × PD => p.1.cps.toList) (ez2.trans (List.mergeSort_perm _ _).symm) (List.pairwise_map.mpr s) ?_
    refine List.Pairwise.imp (fun {a b} h => of_decide_eq_true h) (List.pairwise_mergeSort ?_ ?_ nd)
    · intro a b c h1 h2
      exact decide_eq_true (List.le_trans (of_decide_eq_true h1) (of_decide_eq_true h2))
    · intro a b
      rw [Bool.or_eq_true]
      rcases List.le_total a.1.cps.toList b.1.cps.toList with z | z
      · exact .inl (decide_eq_true z)
      · exact .inr (decide_eq_true z)
  rw [ez1, ← e3, List.map_map]
  rfl
def srtNF (ws : List W) (Q : List PD → Prop) : Prop := ∃ (w : W) (nd : List (Str × PD)), ws = [w] ∧ w.lst = some (nd.map pairD) ∧ (nd.map Prod.fst).Nodup ∧ (∀ p ∈ nd, p.2.canLay0 = true ∧ p.2.depth ≤ 32 ∧ PyData.eqv p.2 p.2 = true) ∧ Q (srtK (nd.map pairD))
theorem rc_sortN : RCF K b (rSortN K) srtNF := by
  intro M H vs ws mb dom g p Qa h Q k
  obtain ⟨w, nd, rfl, e, no, sm, q⟩ := h
  cases p with
  | cons rxz rest =>
    cases rest
    obtain ⟨a, us, rfl, hsv0, dd⟩ := rxz.lst e
    refine ⟨a, us, nd, rfl, hsv0, dqAll_dp _ _ (dpAll_mono fz_sub _ _ dd) (noDs fun d hdz => noD_pair sm hdz), no, sm, fun out hpz hs' p hnz => ?_⟩
    have hlz0 : us.length = nd.length := by rw [dpAll_len dd, List.length_map]
    have dz : DqAll K (Fz M H) (out.map Prod.fst) (srtK (nd.map pairD)) := by
      rw [← srtK_pairs hlz0 hpz hs']
      have zz : (us.zip (nd.map pairD)) = (us.zip nd).map fun p => (p.1, pairD p.2) := by
        rw [List.zip_map_right]
        rfl
      have := rep_zip (K := K) (H := Fz M H) (zs := out.map fun p => (p.1, pairD p.2)) fun z hzz => by
        obtain ⟨p, hp', rfl⟩ := List.mem_map.mp hzz
        refine zip_rep dd _ ?_
        rw [zz]
        exact List.mem_map_of_mem (hpz.mem_iff.mp hp')
      rw [List.map_map, List.map_map] at this
      exact this
    obtain ⟨f1, g1, r1⟩ := new_list g dz hnz
    exact k _ _ _ f1 g1 r1 q
/-- by a key -/
def srtKW (me : Wm) : Wf := fun env Q => me env fun w => ∃ xs, w.lst = some xs ∧ (∀ d ∈ xs, IsNamed d ∧ d.hasDict = false) ∧ Q (srtK xs)
theorem made_frm {q : Str} {H H1 : Hp} (g : Bag b H) (m : Made b.z q H H1) (ts : LamX.TabS H1 b.z q) (hT : b.T = [(b.z, q)]) : Frm b H H1 ∧ Bag b H1 := by
  obtain ⟨z, st, n, cs, ez1, ez2, e3, e4, e5, e6, e7, e8, e9, e10, e11, e12⟩ := g
  have keep : ∀ a o, a ≠ b.z → H a = some o → H1 a = some o := fun a o ne e => m.same e fun ps z => ne (e12 a ps (z ▸ e))
  have fr : Frm b H H1 := fun a o n e => keep a o n.2 e
  refine ⟨fr, z, st, n, cs, m.same ez1 (by intro _ z; cases z), ez2, m.same e3 (by intro _ z; cases z), e4, e5, e6, e7, e8, e9, ?_, ?_, ?_⟩
  · obtain ⟨ps, h, _⟩ := ts
    rw [h]
    exact fun z => nomatch z
  · intro p hpz
    rw [hT] at hpz
    obtain rfl := List.mem_singleton.mp hpz
    exact ts
  · intro a ps e
    rcases m with rfl | ⟨ps', more, c, hP, nC, rfl⟩
    · exact e12 a ps e
    · by_cases ac : a = c
      · rw [ac, upd_same] at e
        exact (LamX.codeO_ne ps (Option.some.inj e)).elim
      · rw [upd_ne ac] at e
        by_cases az : a = b.z
        · exact az
        · rw [upd_ne az] at e
          exact e12 a ps e
theorem snd_sortK {q : Str} (hT : b.T = [(b.z, q)]) (h : Snd K b te me) : SndF K b (tSortK K b.z q te) (srtKW me) := by
  intro M0 H0 O σ H env r Qa hmz Q k
  refine h M0 H0 O σ H env r _ hmz _ ?_
  rintro v w H1 f g rp ⟨xs, e, nm, q1⟩
  obtain ⟨a, us, rfl, hsv0, dd⟩ := rp.lst e
  have tabs : LamX.TabS H1 b.z q := by
    obtain ⟨_, _, _, _, _, _, _, _, _, _, _, _, _, _, t, _⟩ := g
    exact t (b.z, q) (by rw [hT]; exact List.mem_singleton.mpr rfl)
  refine ⟨tabs, a, us, xs, rfl, hsv0, dqAll_dp _ _ (dpAll_mono fz_sub _ _ dd) (noDs fun d hdz => (nm d hdz).2), fun d hdz => (nm d hdz).1, fun H2 p md ts hpz => ?_⟩
  obtain ⟨f2, g2⟩ := made_frm g md ts hT
  have dz : DqAll K (Fz (MO M0 O) H1) ((sortKZ us xs).map Prod.fst) (srtK xs) := by
    unfold srtK
    rw [← sortKZ_snd (dpAll_len dd)]
    exact rep_zip fun z hzz => zip_rep dd z (List.mem_mergeSort.mp hzz)
  obtain ⟨f3, g3, r3⟩ := new_list g2 (dpAll_mono (f2.fz r.mbO) _ _ dz) hpz
  exact k _ _ _ ((f.trans f2).trans f3) g3 (r3.pre (f.trans f2) g2) q1
end
end DD

set_option maxHeartbeats 3999999
/-! two loops in one comprehension; x in t, t.index(x), dict(t)[k] -/
namespace DD
open PySem PySem.Spec PyProof.Rows L2 GG
/-! ### two loops -/
def NoOwn (env : En) : Prop := ∀ (i : Nat) (xs : List PD), env[i]? ≠ some (.own xs)
/-- a target that gives no name a list of one's own -/
def GNo (mg : Wg) : Prop := ∀ d e Q, NoOwn e → mg d e Q → mg d e fun e' => NoOwn e' ∧ Q e'
def GNos (mg : Wgs) : Prop := ∀ d e Q, NoOwn e → mg d e Q → mg d e fun e' => NoOwn e' ∧ Q e'
theorem NoOwn.set {e : En} {i : Nat} {w : W} (h : NoOwn e) : NoOwn (e.set i (.v w)) := by
  intro j xs z
  by_cases ij : i = j
  · subst ij
    by_cases hi : i < e.length
    · rw [List.getElem?_set_self hi] at z
      cases z
    · rw [List.getElem?_eq_none_iff.mpr (by rw [List.length_set]; omega)] at z
      cases z
  · rw [List.getElem?_set_ne ij] at z
    exact h j xs z
theorem gno_name {i : Nat} : GNo (gnW i) := by
  rintro d e Q h ⟨x, rfl, q⟩
  exact ⟨x, rfl, h.set, q⟩
theorem gno_nil : GNos gnilW := by
  rintro d e Q h ⟨rfl, q⟩
  exact ⟨rfl, h, q⟩
/-- the weakest condition grows with what follows -/
def GMo (mg : Wg) : Prop := ∀ d e Q Q', (∀ e', Q e' → Q' e') → mg d e Q → mg d e Q'
def GMos (mg : Wgs) : Prop := ∀ d e Q Q', (∀ e', Q e' → Q' e') → mg d e Q → mg d e Q'
theorem gmo_name {i : Nat} : GMo (gnW i) := by
  rintro d e Q Q' k ⟨x, rfl, q⟩
  exact ⟨x, rfl, k _ q⟩
theorem gmo_nil : GMos gnilW := by
  rintro d e Q Q' k ⟨rfl, q⟩
  exact ⟨rfl, k _ q⟩
theorem gmo_cons {mg : Wg} {mgs : Wgs} (h1 : GMo mg) (h2 : GMos mgs) : GMos (gconsW mg mgs) := by
  rintro d e Q Q' k ⟨x, r, rfl, q⟩
  exact ⟨x, r, rfl, h1 _ _ _ _ (fun e' => h2 _ _ _ _ k) q⟩
theorem gmo_tup {n : Nat} {mgs : Wgs} (h : GMos mgs) : GMo (gtupW n mgs) := by
  rintro d e Q Q' k ⟨ds, ez1, ez2, q⟩
  exact ⟨ds, ez1, ez2, h _ _ _ _ k q⟩
theorem gno_cons {mg : Wg} {mgs : Wgs} (m1 : GMo mg) (h1 : GNo mg) (h2 : GNos mgs) : GNos (gconsW mg mgs) := by
  rintro d e Q no ⟨x, r, rfl, q⟩
  exact ⟨x, r, rfl, m1 _ _ _ _ (fun e' z => h2 _ _ _ z.1 z.2) (h1 _ _ _ no q)⟩
theorem gno_tup {n : Nat} {mgs : Wgs} (h : GNos mgs) : GNo (gtupW n mgs) := by
  rintro d e Q no ⟨ds, ez1, ez2, q⟩
  exact ⟨ds, ez1, ez2, h _ _ _ no q⟩
section
variable {K : PySem.W.Frag} {b : BP} {M0 O : Addr → Prop} {H0 H H1 H' : Hp} {σ : LSt} {env : En}
theorem inE_no (vs : List Nat) (env : En) : NoOwn (inE vs env) := by
  intro i xs z
  unfold inE at z
  rw [List.getElem?_map] at z
  cases e : (wipeE env vs)[i]? with
  | none =>
    rw [e] at z
    cases z
  | some x =>
    rw [e] at z
    have z := Option.some.inj z
    cases x <;> cases z
/-- an own list that no name is told to be -/
theorem ER.changeD (r : ER K M0 b H0 O σ H env) (no : NoOwn env) {p : Addr} {us : List V} (op : O p) : ER K M0 b H0 O σ (upd H p (.lst us)) env ∧ Same (Fz (MO M0 O) H) (Fz (MO M0 O) (upd H p (.lst us))) := by
  have pb := r.nb p op
  obtain ⟨p0, ys, hpz⟩ := r.own p op
  have pc : p ≠ b.2 := fun z => r.dom b.2 r.mc (z ▸ p0)
  have fzs : Same (Fz (MO M0 O) H) (Fz (MO M0 O) (upd H p (.lst us))) := fz_same fun a o n e => by
    have nap : a ≠ p := fun z => n (.inr (z ▸ op))
    exact ⟨n, by rw [upd_ne nap]; exact e⟩
  refine ⟨⟨r.mb, r.mc, r.dom, ?_, r.bag.stay (upd_ne pb.1.symm) (upd_ne pc.symm) (by rw [upd_ne pb.2.symm]; exact r.bag.there3) (tabs_lst hpz) (nt_upd (by intro _ z; cases z)), r.len, ?_, ?_, r.uniq⟩, fzs⟩
  · intro a o n e
    rw [upd_ne (ne_of_none e p0)]
    exact r.frm a o n e
  · intro a o
    refine ⟨(r.own a o).1, ?_⟩
    by_cases ap : a = p
    · subst ap
      exact ⟨us, upd_same⟩
    · rw [upd_ne ap]
      exact (r.own a o).2
  · intro j s e h1 h2
    have so := r.slot j s e h1 h2
    cases e with
    | un => trivial
    | v w =>
      obtain ⟨v, e, rw', nl⟩ := so
      refine ⟨v, e, ?_, nl⟩
      cases w with
      | d y => exact dp_mono fzs _ _ rw'
      | l zs =>
        obtain ⟨a, vs', ez1, nb, haz, da⟩ := rw'
        have ap : a ≠ p := fun z => nl rfl p op (by rw [ez1, z])
        exact ⟨a, vs', ez1, nb, by rw [upd_ne ap]; exact haz, dpAll_mono fzs _ _ da⟩
      | bag => exact rw'
    | own zs => exact (no j zs h2).elim
theorem slot_wipe {P : Option V → E → Prop} (hun : ∀ s, P s .un) {i : Nat} (h : ∀ s e, σ[i]? = some s → env[i]? = some e → P s e) : ∀ (us : List Nat) (s : Option V) (e : E), (wipe σ us)[i]? = some s → (wipeE env us)[i]? = some e → P s e
  | [], s, e, h1, h2 => h s e h1 h2
  | u :: us, s, e, h1, h2 => by
    unfold wipe at h1
    unfold wipeE at h2
    by_cases un : u = i
    · subst un
      have hlz0 : u < (wipeE env us).length := by
        have := (List.getElem?_eq_some_iff.mp h2).1
        rwa [List.length_set] at this
      rw [List.getElem?_set_self hlz0] at h2
      obtain rfl := Option.some.inj h2
      exact hun s
    · rw [List.getElem?_set_ne un] at h1 h2
      exact slot_wipe hun h us s e h1 h2
theorem NoOwn.wipe (no : NoOwn env) : ∀ vs, NoOwn (wipeE env vs)
  | [] => no
  | u :: us => by
    intro j xs z
    unfold wipeE at z
    by_cases un : u = j
    · subst un
      have hlz0 : u < (wipeE env us).length := by
        have := (List.getElem?_eq_some_iff.mp z).1
        rwa [List.length_set] at this
      rw [List.getElem?_set_self hlz0] at z
      cases z
    · rw [List.getElem?_set_ne un] at z
      exact NoOwn.wipe no us j xs z
theorem ER.wiped (r : ER K M0 b H0 O σ H env) (no : NoOwn env) (vs : List Nat) : ER K M0 b H0 O (wipe σ vs) H (wipeE env vs) := by
  refine ⟨r.mb, r.mc, r.dom, r.frm, r.bag, by rw [wipe_length, wipeE_len, r.len], r.own, fun i s e h1 h2 => ?_, fun i j p xs ys _ _ h3 _ => ?_⟩
  · exact slot_wipe (P := SlotOk K M0 O b H) (fun _ => trivial) (fun s e => r.slot i s e) vs s e h1 h2
  · exact (no.wipe vs i xs h3).elim
/-- within: the new list at D is one's own -/
theorem ER.inD (r : ER K M0 b H0 O σ H env) (vs : List Nat) {D : Addr} (f : Frm b H H1) (g : Bag b H1) (nD : H1 D = none) : ER K (MO M0 O) b H1 (fun a => a = D) (wipe σ vs) (upd H1 D (.lst [])) (inE vs env) := by
  have r1 := r.after f g
  have sm : Same (Fz (MO M0 O) H1) (Fz (MO (MO M0 O) fun a => a = D) (upd H1 D (.lst []))) := fz_same fun a o n e => by
    have nap : a ≠ D := ne_of_none e nD
    exact ⟨fun z => z.elim n nap, by rw [upd_ne nap]; exact e⟩
  refine ⟨r.mbO, .inl r.mc, r1.domO, Frm.new nD, g.new nD, by unfold inE; rw [wipe_length, List.length_map, wipeE_len, r.len], ?_, ?_, fun i j p xs ys _ _ h3 _ => (inE_no vs env i xs h3).elim⟩
  · rintro a rfl
    exact ⟨nD, [], upd_same⟩
  · intro i s e h1 h2
    unfold inE at h2
    rw [List.getElem?_map] at h2
    cases ez2 : (wipeE env vs)[i]? with
    | none =>
      rw [ez2] at h2
      cases h2
    | some x =>
      rw [ez2] at h2
      obtain rfl := Option.some.inj h2
      refine slot_wipe (P := fun s e => SlotOk K (MO M0 O) (fun a => a = D) b (upd H1 D (.lst [])) s (demE e)) (fun _ => trivial) ?_ vs s x h1 ez2
      intro s e q1 q2
      have so := r1.slot i s e q1 q2
      cases e with
      | un => trivial
      | v w =>
        obtain ⟨v, e, rp, nl⟩ := so
        cases w with
        | d x => exact ⟨v, e, dp_mono sm _ _ rp, fun z => by cases z⟩
        | l xs =>
          obtain ⟨a, us, ez1, e3, e4, e5⟩ := rp
          have nap : a ≠ D := ne_of_none e4 nD
          refine ⟨v, e, ⟨a, us, ez1, e3, by rw [upd_ne nap]; exact e4, dpAll_mono sm _ _ e5⟩, ?_⟩
          rintro _ c rfl z
          rw [ez1] at z
          exact nap (V.ref.inj z)
        | bag => exact ⟨v, e, rp, fun z => by cases z⟩
      | own xs =>
        obtain ⟨p, us, ez1, op, hpz, dp⟩ := so
        have nap : p ≠ D := ne_of_none hpz nD
        refine ⟨.ref p, ez1, ⟨p, us, rfl, r.nb p op, by rw [upd_ne nap]; exact hpz, dpAll_mono sm _ _ dp⟩, ?_⟩
        rintro _ c rfl z
        exact nap (V.ref.inj z)
end
def lc2W (mg : Wg) (mt : Wt) (mi1 : Wi) (mg1 : Wg) (mt1 : Wt) (me : Wm) (vs1 : List Nat) (ez1 : En) : List WI → List PD → (List PD → Prop) → Prop
  | [], acc, Q => Q acc
  | d :: ds, acc, Q => mg d ez1 fun env1 => mt env1 fun c => if c = true then mi1 env1 fun ds1 => lcW mg1 mt1 me (wipeE env1 vs1) ds1 acc fun acc' => lc2W mg mt mi1 mg1 mt1 me vs1 ez1 ds acc' Q
      else lc2W mg mt mi1 mg1 mt1 me vs1 ez1 ds acc Q
def lcomp2W (vs vs1 : List Nat) (mi : Wi) (mg : Wg) (mt : Wt) (mi1 : Wi) (mg1 : Wg) (mt1 : Wt) (me : Wm) : Wf := fun env Q => mi env fun ds => lc2W mg mt mi1 mg1 mt1 me vs1 (inE vs env) ds [] Q
section
variable {K : PySem.W.Frag} {b : BP} {te : TE} {tt tt1 : TT} {me : Wm} {mt mt1 : Wt} {wi wi1 : TI} {g g1 : TG} {mi mi1 : Wi} {mg mg1 : Wg} {vs vs1 : List Nat}
theorem drop_cons {α : Type} {ds : List α} {i : Nat} {d : α} (h : ds[i]? = some d) : ds.drop i = d :: ds.drop (i + 1) := by
  obtain ⟨hlz0, hdz⟩ := List.getElem?_eq_some_iff.mp h
  rw [List.drop_eq_getElem_cons hlz0, hdz]
theorem snd_lc2 (hi : SndI K b wi mi) (hgz : SndG K b g mg) (hv : GIn g vs) (hnz : GNo mg) (ht : SndT K b tt mt) (hi1 : SndI K b wi1 mi1) (hg1 : SndG K b g1 mg1) (hv1 : GIn g1 vs1) (ht1 : SndT K b tt1 mt1) (hez : Snd K b te me) :
    SndF K b (tLc2 wi g tt wi1 g1 tt1 te vs vs1) (lcomp2W vs vs1 mi mg mt mi1 mg1 mt1 me) := by
  intro M0 H0 O σ H env r Qa hmz Q k
  refine hi M0 H0 O σ H env r _ hmz _ ?_
  rintro J ds H1 f g' ⟨G, Y, wk, hw⟩ q D hD
  let M : Addr → Prop := MO M0 O
  let OD : Addr → Prop := fun a => a = D
  let L : List WI → List PD → (List PD → Prop) → Prop := lc2W mg mt mi1 mg1 mt1 me vs1 (inE vs env)
  let Pv : Nat → Hp → Prop := fun i H' => ER K M b H1 OD (wipe σ vs) H' (inE vs env) ∧ ∃ acc us, H' D = some (.lst us) ∧ DqAll K (Fz (MO M OD) H') us acc ∧ L (ds.drop i) acc Qa
  have sm : ∀ {H' : Hp}, Frm b H1 H' → Same (Fz M H1) (Fz (MO M OD) H') := fun {H'} ff => fz_same fun a o n e =>
    ⟨fun z => z.elim n (ne_of_none e hD), ff a o ⟨fun z => n (z ▸ r.mbO.1), fun z => n (z ▸ r.mbO.2)⟩ e⟩
  refine ⟨fun i m H' => m = ds.length - i ∧ i ≤ ds.length ∧ Pv i H', ⟨ds.length, by simp, Nat.zero_le _, r.inD vs f g' hD, [], [], upd_same, .nil, q⟩, ?_⟩
  rintro i m H' ⟨rfl, hle, r2, acc, us, hdz, dp, h⟩
  have gg := (hw (MO M OD) H' (sm r2.frm) r2.domO).1
  by_cases hlt : i < ds.length
  · refine .inr ⟨wk.goes i H' hlt gg, Pv (i + 1), fun H2 p => ⟨ds.length - (i + 1), by omega, rfl, hlt, p⟩, ?_⟩
    intro x Hx hy
    obtain ⟨d, hdd, sx, dx, kx⟩ := (hw (MO M OD) H' (sm r2.frm) r2.domO).2 i x Hx hlt (wk.yields i H' x Hx hlt gg hy)
    rw [drop_cons hdd] at h
    have rxz := r2.after (frm_of sx) (r2.bag.ext sx kx)
    have hdx : Hx D = some (.lst us) := sx _ _ hdz
    have s2x : Same (Fz (MO M OD) H') (Fz (MO M OD) Hx) := fz_same fun a o n e => ⟨n, sx a o e⟩
    have dpx := dpAll_mono s2x _ _ dp
    let Body : En → Prop := fun env1 => mt env1 fun c => if c = true then mi1 env1 fun ds1 => lcW mg1 mt1 me (wipeE env1 vs1) ds1 acc fun acc' => L (ds.drop (i + 1)) acc' Qa else L (ds.drop (i + 1)) acc Qa
    have h' := hgz M H1 OD (wipe σ vs) Hx (inE vs env) x d rxz dx _ (hnz _ _ _ (inE_no vs env) h) (fun σ2 H2 => H2 = Hx ∧ ∃ env1, ER K M b H1 OD σ2 Hx env1 ∧ NoOwn env1 ∧ Body env1) fun σ2 env1 r3 q3 => ⟨rfl, env1, r3, q3.1, q3.2⟩
    refine hv.mono _ _ _ _ _ ?_ (hv.wip _ _ _ _ h')
    rintro σ2 H2 ⟨ez1, rfl, env1, r3, no1, q3⟩
    refine ⟨ez1.trans (wipe_wipe fun _ z => z), ?_⟩
    refine ht M H1 OD σ2 H2 env1 r3 _ q3 _ ?_
    intro c H3 f3 g3 q4
    have r4 := r3.after f3 g3
    have rO := rxz.after f3 g3
    have d3 : H3 D = some (.lst us) := f3 D _ (rxz.nb D rfl) hdx
    have dp3 := dpAll_mono (f3.fz (M := MO M OD) rxz.mbO) _ _ dpx
    cases c with
    | false => exact ⟨rO, acc, us, d3, dp3, q4⟩
    | true =>
      have q4 : mi1 env1 fun ds1 => lcW mg1 mt1 me (wipeE env1 vs1) ds1 acc fun acc' => L (ds.drop (i + 1)) acc' Qa := q4
      show wi1 σ2 H3 _
      refine hi1 M H1 OD σ2 H3 env1 r4 _ q4 _ ?_
      rintro J1 ds1 H4 f4 g4 ⟨G1, Y1, wk1, hw1⟩ q5
      let Pv1 : Nat → Hp → Prop := fun j H' => ER K M b H1 OD (wipe σ vs) H' (inE vs env) ∧ ER K M b H1 OD (wipe σ2 vs1) H' (wipeE env1 vs1) ∧ Same (Fz (MO M OD) H4) (Fz (MO M OD) H') ∧ ∃ acc us, H' D = some (.lst us) ∧ DqAll K (Fz (MO M OD) H') us acc ∧
        lcW mg1 mt1 me (wipeE env1 vs1) (ds1.drop j) acc fun acc' => L (ds.drop (i + 1)) acc' Qa
      have rO4 := rO.after f4 g4
      have rI4 := (r4.after f4 g4).wiped no1 vs1
      have s4 := f4.fz (M := MO M OD) rxz.mbO
      refine ⟨fun j k H' => k = ds1.length - j ∧ j ≤ ds1.length ∧ Pv1 j H', ⟨ds1.length, by simp, Nat.zero_le _, rO4, rI4, Same.refl _, acc, us, f4 D _ (rxz.nb D rfl) d3, dpAll_mono s4 _ _ dp3, q5⟩, ?_⟩
      rintro j k1 H5 ⟨rfl, hle1, rO5, rI5, s5, acc5, us5, d5, dp5, q6⟩
      have gg1 := (hw1 (MO M OD) H5 s5 rI5.domO).1
      by_cases hlt1 : j < ds1.length
      · refine .inr ⟨wk1.goes j H5 hlt1 gg1, Pv1 (j + 1), fun H2 p => ⟨ds1.length - (j + 1), by omega, rfl, hlt1, p⟩, ?_⟩
        intro y Hy hyy
        obtain ⟨d1, hd1, sy, dy, ky⟩ := (hw1 (MO M OD) H5 s5 rI5.domO).2 j y Hy hlt1 (wk1.yields j H5 y Hy hlt1 gg1 hyy)
        rw [drop_cons hd1] at q6
        have rIy := rI5.after (frm_of sy) (rI5.bag.ext sy ky)
        have rOy := rO5.after (frm_of sy) (rI5.bag.ext sy ky)
        have s5y : Same (Fz (MO M OD) H5) (Fz (MO M OD) Hy) := fz_same fun a o n e => ⟨n, sy a o e⟩
        have dy5 : Hy D = some (.lst us5) := sy _ _ d5
        have dpy := dpAll_mono s5y _ _ dp5
        let Body1 : En → Prop := fun env2 => mt1 env2 fun c => if c = true then me env2 fun w => ∃ x, w = .d x ∧ acc5.length < sizeLine ∧ lcW mg1 mt1 me (wipeE env1 vs1) (ds1.drop (j + 1)) (acc5 ++ [x]) fun acc' => L (ds.drop (i + 1)) acc' Qa
          else lcW mg1 mt1 me (wipeE env1 vs1) (ds1.drop (j + 1)) acc5 fun acc' => L (ds.drop (i + 1)) acc' Qa
        have h1' := hg1 M H1 OD (wipe σ2 vs1) Hy (wipeE env1 vs1) y d1 rIy dy _ q6 (fun σ3 H6 => H6 = Hy ∧ ∃ env2, ER K M b H1 OD σ3 Hy env2 ∧ Body1 env2) fun σ3 env2 r6 q7 => ⟨rfl, env2, r6, q7⟩
        refine hv1.mono _ _ _ _ _ ?_ (hv1.wip _ _ _ _ h1')
        rintro σ3 H6 ⟨e3, rfl, env2, r6, q7⟩
        refine ⟨e3.trans (wipe_wipe fun _ z => z), ?_⟩
        refine ht1 M H1 OD σ3 H6 env2 r6 _ q7 _ ?_
        intro c H7 f7 g7 q8
        have d7 : H7 D = some (.lst us5) := f7 D _ (rxz.nb D rfl) dy5
        have s7 := f7.fz (M := MO M OD) rxz.mbO
        have dp7 := dpAll_mono s7 _ _ dpy
        have rO7 := rOy.after f7 g7
        have rI7 := rIy.after f7 g7
        cases c with
        | false => exact ⟨rO7, rI7, (s5.trans s5y).trans s7, acc5, us5, d7, dp7, q8⟩
        | true =>
          have q8 : me env2 fun w => ∃ x, w = .d x ∧ acc5.length < sizeLine ∧ lcW mg1 mt1 me (wipeE env1 vs1) (ds1.drop (j + 1)) (acc5 ++ [x]) fun acc' => L (ds.drop (i + 1)) acc' Qa := q8
          show te σ3 H7 _
          refine hez M H1 OD σ3 H7 env2 (r6.after f7 g7) _ q8 _ ?_
          rintro v w H8 f8 g8 rp ⟨x', rfl, hzz, q9⟩
          have rp : Dq K (Fz (MO M OD) H8) v x' := rp
          have s8 := f8.fz (M := MO M OD) rxz.mbO
          have d8 : H8 D = some (.lst us5) := f8 D _ (rxz.nb D rfl) d7
          have dp8 := dpAll_mono s8 _ _ dp7
          obtain ⟨rO9, s9⟩ := (rO7.after f8 g8).changeD (p := D) (us := us5 ++ [v]) (inE_no vs env) rfl
          obtain ⟨rI9, _⟩ := (rI7.after f8 g8).changeD (p := D) (us := us5 ++ [v]) (no1.wipe vs1) rfl
          exact ⟨us5, d8, by rw [dpAll_len dp8]; exact hzz, rO9, rI9, (((s5.trans s5y).trans s7).trans s8).trans s9, acc5 ++ [x'], us5 ++ [v], upd_same, dpAll_mono s9 _ _ (dpAll_app dp8 (.cons rp .nil)), q9⟩
      · have e : j = ds1.length := by omega
        subst e
        rw [List.drop_length] at q6
        exact .inl ⟨wk1.stops H5 gg1, rO5, acc5, us5, d5, dp5, q6⟩
  · have e : i = ds.length := by omega
    subst e
    rw [List.drop_length] at h
    refine .inl ⟨wk.stops H' gg, ?_⟩
    exact k _ _ _ (f.trans r2.frm) r2.bag ⟨D, us, rfl, f.free hD (g'.off hD), hdz, dp⟩ h
end
end DD

set_option maxHeartbeats 3999999
namespace DD
open PySem PySem.Spec PyProof.Rows L2 GG
section
variable {K : PySem.W.Frag} {b : BP} {t ta tbz te to ty : TE} {tt uu : TT} {tas : TA} {m ma mb me mo my : Wm} {ms : Wl} {mt mu : Wt} {mf mg : Wf} {M : Addr → Prop} {H H' : Hp} {v : V} {w : W}
/-! ### x in t, of data -/
def inTF (x y : W) (Q : W → Prop) : Prop := ∃ d ds, x.py = some d ∧ y.tup = some ds ∧ SeqAt.shaped d = true ∧ SeqAt.shaped (.tuple ds) = true ∧ Q (.d (.bool (ds.any fun z => PyData.eqv z d)))
theorem tup_py {ds : List PD} (e : w.tup = some ds) : w.py = some (.tuple ds) := by
  cases w with
  | l _ => cases e
  | bag => cases e
  | d z =>
    cases z <;> try cases e
    rfl
theorem rv_inT : RV2 K b (rInT K) inTF := by
  intro M H x y wx wy mb dom g rxz ryz Qa h Q k
  obtain ⟨d, ds, ez1, ez2, s1, s2, q⟩ := h
  exact ⟨d, ds, rxz.py ez1 (noD_shaped s1), ryz.py (tup_py ez2) (noD_shaped s2), s1, s2, k _ (.d (.bool _)) H (Frm.refl _ _) g (Dq.bl _) q⟩
/-! ### t.index(x) -/
abbrev rIndex (K : PySem.W.Frag) : V → List V → Hp → VK → Prop := fun x xs H Q => ∃ p, ∃ ys : List Str, ∃ z j, x = .ref p ∧ xs = [.str z] ∧ SqT K H p (ys.map V.str) ∧ ys[j]? = some z ∧ (∀ m, m < j → ys[m]? ≠ some z) ∧ Q (.int (j : Nat)) H
def indexW (mo : Wm) (ms : Wl) : Wm := fun env Q => mo env fun w => ∃ xs zs, w.tup = some xs ∧ strsOf xs = some zs ∧ ms env fun ws => ∃ z j, ws = [.d (.str z)] ∧ zs[j]? = some z ∧ (∀ m, m < j → zs[m]? ≠ some z) ∧ Q (.d (.int (j : Nat)))
theorem repStr {z : Str} (r : RepW K M b H v (.d (.str z))) : v = .str z := by
  have r' : Dq K (Fz M H) v (.str z) := r
  cases r'
  rfl
theorem snd_index (hoz : Snd K b to mo) (hsv0 : SndA K b tas ms) : Snd K b (tBT K (rIndex K) to tas) (indexW mo ms) := by
  intro M0 H0 O σ H env r Qa hmz Q k
  refine hoz M0 H0 O σ H env r _ hmz _ ?_
  rintro v w H1 f1 g1 r1 ⟨xs, zs, ez1, ez2, hm1⟩
  obtain ⟨a, vs, rfl, hqz, dp, td⟩ := r1.tup ez1
  refine ⟨⟨a, vs, rfl, td⟩, ?_⟩
  refine hsv0 M0 H0 O σ H1 env (r.after f1 g1) _ hm1 _ ?_
  rintro us ws H2 f2 g2 r2 ⟨z, j, rfl, e3, e4, q⟩
  cases r2 with
  | cons ru rest =>
    cases rest
    obtain rfl := repStr ru
    have dp2 := dpAll_mono (f2.fz (M := MO M0 O) r.mbO) _ _ dp
    have e := strs_rep dp2 ez2
    subst e
    obtain ⟨a', vs', e5, hq', dp', td'⟩ := (r1.frm f2 r.mbO).tup ez1
    obtain rfl := V.ref.inj e5
    have e6 := strs_rep dp' ez2
    rw [e6] at hq'
    exact ⟨a, zs, z, j, rfl, rfl, hq', e3, e4, k _ (.d (.int (j : Nat))) H2 (f1.trans f2) g2 (Dq.int _) q⟩
/-! ### dict(t)[x] -/
def dgetW (me my : Wm) : Wm := fun env Q => me env fun w => ∃ kds : List (Str × PD), w.tup = some (kds.map pairD) ∧ (kds.map Prod.fst).Nodup ∧ my env fun k => ∃ z d, k = .d (.str z) ∧ (z, d) ∈ kds ∧ Q (.d d)
theorem valV_merge {k : Key} {v : V} : ∀ {kvs acc : List (Key × V)}, ((k, v) ∈ kvs ∧ (kvs.map Prod.fst).Nodup ∨ k ∉ kvs.map Prod.fst ∧ valV acc k = some v) → valV (mergeK acc kvs) k = some v
  | [], acc, h => by
    rcases h with ⟨h, _⟩ | ⟨_, h⟩
    · cases h
    · exact h
  | (k1, v1) :: kvs, acc, h => by
    show valV (mergeK (putK acc k1 v1) kvs) k = some v
    refine valV_merge ?_
    rcases h with ⟨h, nd⟩ | ⟨n, h⟩
    · rw [List.map_cons, List.nodup_cons] at nd
      rcases List.mem_cons.mp h with e | h
      · obtain ⟨rfl, rfl⟩ := Prod.mk.inj e
        exact .inr ⟨nd.1, by rw [valV_put, if_pos rfl]⟩
      · exact .inl ⟨h, nd.2⟩
    · rw [List.map_cons, List.mem_cons, not_or] at n
      exact .inr ⟨n.2, by rw [valV_put, if_neg n.1]; exact h⟩
/-- the pairs of a tuple, in the heap -/
theorem pairs_rep : ∀ {kds : List (Str × PD)} {vs : List V}, DqAll K H vs (kds.map pairD) → ∃ (ps : List Addr) (kvs : List (Key × V)), vs = ps.map V.ref ∧ Paired (fun p kv => SqT K H p [kV kv.1, kv.2]) ps kvs ∧ kvs.map Prod.fst = kds.map (fun p => Sum.inr p.1) ∧
    ∀ z d, (z, d) ∈ kds → ∃ v, (Sum.inr z, v) ∈ kvs ∧ Dq K H v d
  | [], vs, h => by
    cases h
    exact ⟨[], [], rfl, .nil, rfl, fun _ _ h => by cases h⟩
  | (n, d) :: kds, vs, h => by
    cases h with
    | cons h1 h2 =>
      obtain ⟨ps, kvs, ez1, ez2, e3, e4⟩ := pairs_rep h2
      have h1 : Dq K H _ (.tuple [.str n, d]) := h1
      cases h1 with
      | tup hsv0 haz =>
        rename_i a us
        cases haz with
        | cons r1 rest =>
          cases rest with
          | cons r2 rest =>
            cases rest
            rename_i v1 v2
            have e : v1 = .str n := by
              cases r1
              rfl
            subst e
            refine ⟨a :: ps, (.inr n, v2) :: kvs, by rw [ez1]; rfl, .cons hsv0.sq ez2, by rw [List.map_cons, List.map_cons, e3], ?_⟩
            intro z d' hmz
            rcases List.mem_cons.mp hmz with e | hmz
            · obtain ⟨rfl, rfl⟩ := Prod.mk.inj e
              exact ⟨v2, List.mem_cons_self, r2⟩
            · obtain ⟨v, m1, m2⟩ := e4 z d' hmz
              exact ⟨v, List.mem_cons_of_mem _ m1, m2⟩
theorem nodup_map_inj {α β : Type} {f : α → β} (hfz : ∀ x y, f x = f y → x = y) : ∀ {xs : List α}, xs.Nodup → (xs.map f).Nodup
  | [], _ => List.nodup_nil
  | x :: xs, h => by
    rw [List.nodup_cons] at h
    rw [List.map_cons, List.nodup_cons]
    refine ⟨fun z => ?_, nodup_map_inj hfz h.2⟩
    obtain ⟨y, hy, e⟩ := List.mem_map.mp z
    exact h.1 (hfz _ _ e ▸ hy)
theorem paired_up {M : Addr → Prop} {H : Hp} : ∀ {ps : List Addr} {kvs : List (Key × V)}, Paired (fun p kv => SqT K (Fz M H) p [kV kv.1, kv.2]) ps kvs → Paired (fun p kv => SqT K H p [kV kv.1, kv.2]) ps kvs
  | _, _, .nil => .nil
  | _, _, .cons h t => .cons (sqT_mono fz_sub h) (paired_up t)
theorem snd_dget (h : Snd K b te me) (hy : Snd K b ty my) : Snd K b (tDGet (tCB (rDictT K) (tCons te tNil)) ty) (dgetW me my) := by
  intro M0 H0 O σ H env r Qa hmz Q k
  refine h M0 H0 O σ H env r _ hmz _ ?_
  rintro v w H1 f1 g1 r1 ⟨kds, ez1, nd, hm1⟩
  obtain ⟨a, vs, rfl, hqz, dp, td⟩ := r1.tup ez1
  obtain ⟨ps, kvs, rfl, pp, ek, em⟩ := pairs_rep dp
  refine ⟨a, ps, kvs, rfl, td, paired_up pp, fun p hpz => ?_⟩
  have pb : Off b p := g1.off hpz
  have np : ¬ MO M0 O p := fun z => (r.after f1 g1).domO p z hpz
  have fn : Frm b H1 (upd H1 p (.dK (mergeK [] kvs))) := Frm.new hpz
  have gn : Bag b (upd H1 p (.dK (mergeK [] kvs))) := g1.new hpz
  refine hy M0 H0 O σ _ env ((r.after f1 g1).after fn gn) _ hm1 _ ?_
  rintro y wy H2 f2 g2 r2 ⟨z, d, rfl, mem, q⟩
  obtain rfl := repStr r2
  obtain ⟨v, m1, m2⟩ := em z d mem
  have hdz : H2 p = some (.dK (mergeK [] kvs)) := f2 p _ pb upd_same
  refine ⟨p, v, rfl, .inl ⟨_, .inr z, .inl hdz, rfl, ?_⟩, ?_⟩
  · refine (valV_merge (.inl ⟨m1, ?_⟩)).symm
    rw [ek]
    have := nodup_map_inj (f := fun z : Str => (Sum.inr z : Key)) (fun x y e => Sum.inr.inj e) nd
    rw [List.map_map] at this
    exact this
  · exact k v (.d d) H2 ((f1.trans fn).trans f2) g2 (dp_mono ((fn.fz r.mbO).trans (f2.fz r.mbO)) _ _ m2) q
/-! ### abs, int -/
def absF (ws : List W) (Q : W → Prop) : Prop := ∃ i, ws = [.d (.int i)] ∧ Q (.d (.int (if i < 0 then -i else i)))
theorem rc_abs : RC K b (fun xs H Q => ∃ i, xs = [.int i] ∧ Q (.int (if i < 0 then -i else i)) H) absF := by
  intro M H vs ws mb dom g p Qa h Q k
  obtain ⟨i, rfl, q⟩ := h
  cases p with
  | cons rxz rest =>
    cases rest
    obtain rfl := repInt rxz
    exact ⟨i, rfl, k _ (.d (.int _)) H (Frm.refl _ _) g (Dq.int _) q⟩
end
end DD

set_option maxHeartbeats 3999999
namespace DD
open PySem PySem.Spec PyProof.Rows L2 GG
section
variable {K : PySem.W.Frag} {b : BP} {t ta tbz te to ty : TE} {tt uu : TT} {tas : TA} {m ma mb me mo my : Wm} {ms : Wl} {mt mu : Wt} {mf mg : Wf} {M : Addr → Prop} {H H' : Hp} {v : V} {w : W}
/-! ### enumerate(t) -/
def itETW (me : Wm) : Wi := fun env Q => me env fun w => ∃ ds, w.tup = some ds ∧ Q (ds.mapIdx fun i d => .p (.int (i : Nat)) d)
theorem si_enumT (h : Snd K b te me) : SndI K b (iEnumT K (tCons te tNil)) (itETW me) := by
  intro M0 H0 O σ H env r Qa hmz R k
  refine h M0 H0 O σ H env r _ hmz _ ?_
  rintro v w H1 f g' rp ⟨ds, e, q⟩
  have rp' : Dq K (Fz (MO M0 O) H1) v (.tuple ds) := by
    cases w with
    | l _ => cases e
    | bag => cases e
    | d z =>
      cases z <;> try cases e
      exact rp
  cases rp' with
  | tup hsv0 dp =>
    rename_i a vs
    refine ⟨a, vs, rfl, (hsv0.mono fz_sub).sq, k _ _ H1 f g' ⟨_, _, by rw [List.length_mapIdx]; exact dpAll_len dp ▸ walk_enumT, ?_⟩ q⟩
    intro M' H' s dom
    refine ⟨((hsv0.mono s).mono fz_sub).sq, ?_⟩
    rintro i x Hx hi ⟨T, x1, x2, rfl, nT, rfl, ez1, ez2⟩
    obtain ⟨d, hdz, dx⟩ := dpAll_get dp ez2
    obtain rfl := Option.some.inj ez1
    refine ⟨.p (.int (i : Nat)) d, by rw [List.getElem?_mapIdx, hdz]; rfl, fun a o e => by rw [upd_ne (ne_of_none e nT)]; exact e, ?_, nt_upd (by intro _ z; cases z)⟩
    exact ⟨T, _, _, rfl, SqT.of upd_same, .int _, dp_mono (s.trans (fz_new nT)) _ _ dx⟩
/-! ### -e -/
def negW (me : Wm) : Wm := fun env Q => me env fun w => ∃ i, w = .d (.int i) ∧ Q (.d (.int (-i)))
theorem snd_neg (h : Snd K b te me) : Snd K b (tUn (rU fun i => .int (-i)) te) (negW me) := by
  intro M0 H0 O σ H env r Qa hmz Q k
  refine h M0 H0 O σ H env r _ hmz _ ?_
  rintro v w H' f g rp ⟨i, rfl, q⟩
  obtain rfl := repInt rp
  exact ⟨i, rfl, k _ (.d (.int (-i))) H' f g (Dq.int _) q⟩
/-! ### x, y = (e, f) -/
def parW (i j : Nat) (ms : Wl) : Ws := fun env Q => ms env fun ws => ∃ x y, ws = [.d x, .d y] ∧ Q (.nx ((env.set i (.v (.d x))).set j (.v (.d y))))
theorem snd_par {i j : Nat} (h : SndA K b tas ms) : SndS K b (tPar i j tas) (parW i j ms) := by
  intro M0 H0 O σ H env r Qa hmz D k1 k2 k3 k4 k5
  refine h M0 H0 O σ H env r _ hmz _ ?_
  rintro vs ws H' f g rp ⟨x, y, rfl, q⟩
  cases rp with
  | cons r1 rest =>
    cases rest with
    | cons r2 rest =>
      cases rest
      rename_i v1 v2
      exact ⟨v1, v2, rfl, k1 O _ H' _ (((r.after f g).put i (w := .d x) r1 rfl).put j (w := .d y) r2 rfl) (f.fz r.mbO) q⟩
/-! ### texts compared -/
def eqSF (x y : W) (Q : W → Prop) : Prop := ∃ i j : Str, x = .d (.str i) ∧ y = .d (.str j) ∧ Q (.d (.bool (decide (i = j))))
def neSF (x y : W) (Q : W → Prop) : Prop := ∃ i j : Str, x = .d (.str i) ∧ y = .d (.str j) ∧ Q (.d (.bool (!decide (i = j))))
theorem dec_str {i j : Str} : decide (V.str i = V.str j) = decide (i = j) := by
  by_cases e : i = j
  · rw [decide_eq_true e, decide_eq_true (congrArg V.str e)]
  · rw [decide_eq_false e, decide_eq_false fun z => e (V.str.inj z)]
theorem rv_eqS : RV2 K b rEq eqSF := by
  intro M H x y wx wy mb dom g rxz ryz Qa h Q k
  obtain ⟨i, j, rfl, rfl, q⟩ := h
  obtain rfl := repStr rxz
  obtain rfl := repStr ryz
  refine ⟨rfl, ?_⟩
  rw [dec_str]
  exact k _ (.d (.bool _)) H (Frm.refl _ _) g (Dq.bl _) q
theorem rv_neS : RV2 K b rNe neSF := by
  intro M H x y wx wy mb dom g rxz ryz Qa h Q k
  obtain ⟨i, j, rfl, rfl, q⟩ := h
  obtain rfl := repStr rxz
  obtain rfl := repStr ryz
  refine ⟨rfl, ?_⟩
  rw [dec_str]
  exact k _ (.d (.bool _)) H (Frm.refl _ _) g (Dq.bl _) q
end
end DD

set_option maxHeartbeats 3999999
/-! while; x is None; a < b < c -/
namespace DD
open PySem PySem.Spec PyProof.Rows L2 GG
section
variable {K : PySem.W.Frag} {b : BP} {t ta tbz te tc : TE} {tt : TT} {ts : TS} {m ma mb me mc : Wm} {mt : Wt} {ms : Ws}
/-! ### while -/
/-- one turn's ends, with a measure that falls -/
def spinW (I : Nat → En → Prop) (n : Nat) (Q : Out → Prop) : Out → Prop
  | .nx e => ∃ k, k < n ∧ I k e
  | .ct e => ∃ k, k < n ∧ I k e
  | .bk e => Q (.nx e)
  | o => Q o
def whileW (mt : Wt) (ms : Ws) : Ws := fun env Q => ∃ I : Nat → En → Prop, (∃ n, I n env) ∧ ∀ n env, I n env → mt env fun c => if c = true then ms env (spinW I n Q) else Q (.nx env)
theorem snd_while (ht : SndT K b tt mt) (hb : SndS K b ts ms) : SndS K b (tWhile tt ts) (whileW mt ms) := by
  intro M0 H0 O σ H env r Qa hmz D k1 k2 k3 k4 k5
  obtain ⟨I, ⟨n, i0⟩, st⟩ := hmz
  refine ⟨fun n σ' H' => ∃ O' env', ER K M0 b H0 O' σ' H' env' ∧ Same (Fz (MO M0 O) H) (Fz (MO M0 O') H') ∧ I n env', ⟨n, O, env, r, Same.refl _, i0⟩, ?_⟩
  rintro n σ' H' ⟨O', env', r', s, i⟩
  refine ht M0 H0 O' σ' H' env' r' _ (st n env' i) _ ?_
  intro c H1 f1 g1 q
  have r1 := r'.after f1 g1
  have s1 := s.trans (f1.fz (M := MO M0 O') r'.mbO)
  cases c with
  | false => exact k1 O' σ' H1 env' r1 s1 q
  | true =>
    refine ⟨fun σ2 H2 => ∃ k, k < n ∧ ∃ O2 env2, ER K M0 b H0 O2 σ2 H2 env2 ∧ Same (Fz (MO M0 O) H) (Fz (MO M0 O2) H2) ∧ I k env2, fun σ2 H2 h => h, ?_⟩
    have q : ms env' (spinW I n Qa) := q
    refine hb M0 H0 O' σ' H1 env' r1 _ q _ ?_ ?_ ?_ k4 k5
    · rintro O2 σ2 H2 env2 r2 s2 ⟨k, hk, ik⟩
      exact ⟨k, hk, O2, env2, r2, s1.trans s2, ik⟩
    · intro O2 σ2 H2 env2 r2 s2 q2
      exact k1 O2 σ2 H2 env2 r2 (s1.trans s2) q2
    · rintro O2 σ2 H2 env2 r2 s2 ⟨k, hk, ik⟩
      exact ⟨k, hk, O2, env2, r2, s1.trans s2, ik⟩
/-! ### x is None -/
def isN : W → Bool
  | .d .none => true
  | _ => false
theorem isN_rep {M : Addr → Prop} {H : Hp} {v : V} {w : W} (r : RepW K M b H v w) : decide (v = .non) = isN w := by
  cases w with
  | l xs =>
    obtain ⟨a, vs, rfl, _⟩ := r
    rfl
  | bag =>
    have r : v = .ref b.1 := r
    subst r
    rfl
  | d x =>
    have r : Dq K (Fz M H) v x := r
    cases r <;> rfl
def isNW (me : Wm) : Wm := fun env Q => me env fun w => Q (.d (.bool (isN w)))
def notNW (me : Wm) : Wm := fun env Q => me env fun w => Q (.d (.bool (!isN w)))
theorem snd_isN (h : Snd K b te me) : Snd K b (tIsN te) (isNW me) := by
  intro M0 H0 O σ H env r Qa hmz Q k
  refine h M0 H0 O σ H env r _ hmz _ ?_
  intro v w H' f g rp q
  show Q (.bl (decide (v = .non))) H'
  rw [isN_rep rp]
  exact k _ (.d (.bool _)) H' f g (Dq.bl _) q
theorem snd_notN (h : Snd K b te me) : Snd K b (tNotN te) (notNW me) := by
  intro M0 H0 O σ H env r Qa hmz Q k
  refine h M0 H0 O σ H env r _ hmz _ ?_
  intro v w H' f g rp q
  show Q (.bl (!decide (v = .non))) H'
  rw [isN_rep rp]
  exact k _ (.d (.bool _)) H' f g (Dq.bl _) q
/-! ### a < b < c -/
def chainW (f g : W → W → (W → Prop) → Prop) (ma mb mc : Wm) : Wm := fun env Q => ma env fun x => mb env fun y => f x y fun z => ∃ c, z = .d (.bool c) ∧ if c = true then mc env fun w => g y w Q else Q (.d (.bool false))
theorem snd_chain {r r' : R2} {f g : W → W → (W → Prop) → Prop} (hr : RV2 K b r f) (hr' : RV2 K b r' g) (haz : Snd K b ta ma) (hb : Snd K b tbz mb) (hc : Snd K b tc mc) : Snd K b (tChain r r' ta tbz tc) (chainW f g ma mb mc) := by
  intro M0 H0 O σ H env e Qa h Q k
  refine haz M0 H0 O σ H env e _ h _ ?_
  intro v w H1 f1 g1 r1 h1
  refine hb M0 H0 O σ H1 env (e.after f1 g1) _ h1 _ ?_
  intro u w' H2 f2 g2 r2 h2
  have ez2 := (e.after f1 g1).after f2 g2
  refine hr (MO M0 O) H2 v u w w' e.mbO ez2.domO g2 (r1.frm f2 e.mbO) r2 _ h2 _ ?_
  rintro z wz H3 f3 g3 r3 ⟨c, rfl, q⟩
  have e3 := ez2.after f3 g3
  have f03 := (f1.trans f2).trans f3
  refine ⟨c, repBool r3, ?_⟩
  cases c with
  | false => exact k _ (.d (.bool false)) H3 f03 g3 (Dq.bl _) q
  | true =>
    have q : mc env fun w => g w' w Qa := q
    refine hc M0 H0 O σ H3 env e3 _ q _ ?_
    intro v4 w4 H4 f4 g4 r4 q4
    refine hr' (MO M0 O) H4 u v4 w' w4 e.mbO (e3.after f4 g4).domO g4 (r2.frm (f3.trans f4) e.mbO) r4 _ q4 _ ?_
    intro v5 w5 H5 f5 g5 r5 q5
    exact k v5 w5 H5 ((f03.trans f4).trans f5) g5 r5 q5
end
end DD

set_option maxHeartbeats 3999999
/-! errors as values: made, their fields read, their classes asked, shown -/
namespace GG
open PySem PySem.Spec PyProof.Rows L2 DD
theorem exoT_ok {P : Program} {w : World} {H : Hp} {h : Heap} {e C t1 : Addr} (hez : h.get? e = some ({ cls := .ref C, dict := none, data := .fields #[.ref t1, .none, .none, .none, .bool false, .none] } : Obj)) : ObjOk P w H h e (exoT e C t1) :=
  show ObjOk P w H h e (.ext fun h => h.get? e = some ({ cls := .ref C, dict := none, data := .fields #[.ref t1, .none, .none, .none, .bool false, .none] } : Obj)) from ⟨hez, ⟨_, hez⟩, fun _ _ z k => k _ z⟩
theorem exoT_at {P : Program} {w : World} {H : Hp} {h : Heap} {e C t1 : Addr} (hok : HOk P w H h) (hez : H e = some (exoT e C t1)) : h.get? e = some ({ cls := .ref C, dict := none, data := .fields #[.ref t1, .none, .none, .none, .bool false, .none] } : Obj) := by
  have x : ObjOk P w H h e (.ext fun h => h.get? e = some ({ cls := .ref C, dict := none, data := .fields #[.ref t1, .none, .none, .none, .bool false, .none] } : Obj)) := hok e _ hez
  exact x.1
theorem exoT_tbl {e C t1 : Addr} {ps : Array Value} : exoT e C t1 ≠ .tbl ps := fun z => by
  have z : HO.ext _ = HO.tbl ps := z
  cases z
section
open PySem.W PySem.Calls
variable {prog : Program} {w : World} {A : Around} {E : Value → Shared → Prop} {s : Shared} {K : Frag} {x D : Addr} {ox : Obj} {od : Option Obj}
theorem err_find {C : Addr} {nm : Str} {p q : Value} (u1 : (clsIn K C).isSome = true) (u2 : findIn K (.ref C) nm = some (some p)) (u3 : specialIn K p "__get__" = some (some q)) (u4 : takesIn K p = some true) : findObj K C od nm = some (.bind q p) := by
  obtain ⟨cd, e⟩ := Option.isSome_iff_exists.mp u1
  simp [findObj, e, u2, u3, u4]
/-- e.__class__ of an error of one's own, with attributes or without -/
theorem err_class {Q : Option Value → Shared → Prop} (c : ExcC K D) (Y : K.In s.heap) (J : InstAt s.heap x ox D od) (yes : Q (some (.ref D)) { s with toks := s.toks + 1 }) : wpAny (model prog w) A (getAttr? (.ref x) "__class__") Q E s := by
  have fnd : findObj K D od "__class__" = some (.bind (.builtin "getset_descriptor.__get__") (.builtin "object.__class__")) := err_find (by obtain ⟨cd, ec, _⟩ := any_some c.hd; rw [ec]; rfl) c.ha c.hn c.ht
  obtain ⟨h0, g0, d0, t0, o0⟩ := s
  have K0 := J.type (M := model prog w)
  have K1 := looks_findIn (M := model prog w) Y c.hg
  have K2 := looks_findIn (M := model prog w) Y c.hk
  have K3 := looks_find (M := model prog w) Y J fnd
  have isB : Looks (model prog w) h0 (isInstance (.ref x) (.type "BaseException")) true := K0.andThen (looks_subIn Y c.hs)
  have n0 : (false && onTheHeap (Value.builtin "BaseException.__getattribute__")) = false := rfl
  have n2 : (Value.builtin "BaseException.__getattribute__" == Value.builtin "object.__getattribute__") = false := by decide +kernel
  have n1 : (onTheHeap (Value.ref D) && Value.builtin "BaseException.__getattribute__" == Value.builtin "object.__getattribute__") = false := by rw [n2]; rfl
  unfold getAttr? getAttrBy? getAttrBy
  refine wpAny_bind (wpAny_mkText (wpAny_bind (wpAny_attempt (wpAny_holding (wpAny_bind (K0.at (wpAny_bind (K1.at ?_))))))))
  show wpAny _ _ (if (onTheHeap (Value.ref D) && Value.builtin "BaseException.__getattribute__" == Value.builtin "object.__getattribute__") = true then _ else _) _ _ _
  rw [n1, if_neg Bool.false_ne_true]; unfold getAttrByItsOwn hookBefore
  refine wpAny_bind ?_
  rw [if_pos (show onTheHeap (Value.ref D) = true from rfl)]; refine K2.at ?_
  refine wpAny_bind (wpAny_attempt (wpAny_holding ?_)); unfold callGetattribute
  rw [n0, if_neg Bool.false_ne_true]; unfold boundAndCalled
  rw [PySem.F.excAttr_ValueError.ga.bind (.ref x)]; refine wpAny_bind (wpAny_pure ?_)
  show wpAny _ _ (call (.builtin "BaseException.__getattribute__") [.ref x, .str "__class__" t0]) _ _ _
  refine wpAny_call (codeAny_call_builtin PySem.F.excAttr_ValueError.ga.plain PySem.F.entry_bexc_ga ?_)
  refine @check_slot (model prog w) _ _ ⟨h0, g0, d0, t0 + 1, o0⟩ "BaseException.__getattribute__" "BaseException" "__getattribute__" (.ref x) [.str "__class__" t0] [] _ (by decide +kernel) (by decide +kernel) isB (PySem.F.args_bexc_ga (.ref x) (.str "__class__" t0)) ?_
  unfold Builtin.«object.__getattribute__»
  refine wpAny_bind (wpAny_of_eq (a := ((Value.ref x : Value), [Value.str "__class__" t0])) (by first | rfl | (simp only [slotArgs]; rfl)) ?_)
  refine wpAny_bind (wpAny_pure (wpAny_bind (K0.at (wpAny_bind (K3.at ?_)))))
  show wpAny _ _ (holding [Value.builtin "object.__class__"] (call (.builtin "getset_descriptor.__get__") [.builtin "object.__class__", .ref x, .ref D]) >>= ret) _ _ _
  refine wpAny_bind (wpAny_holding (wpAny_call (class_get (s := ⟨h0, g0, d0, t0 + 1, o0⟩) (ox := ox) (od := od) Y J c.hm ?_)))
  refine wpAny_pure ?_; show wpAny _ _ (handedOut (.ref D)) _ _ _
  rw [handedOut_of (v := .ref D) rfl]
  first
    | exact wpAny_pure (wpAny_pure yes)
    | exact wpAny_pure yes
    | exact wpAny_pure (wpAny_bind (wpAny_pure (wpAny_pure yes)))
theorem kitx_err (c : ExcC K D) : KitX K (.ref x) (.ref D) (fun h => InstAt h x ox D od) where
  ty := fun _ _ _ J => J.type
  it := fun _ _ Y _ => by
    obtain ⟨cd, ec, _⟩ := any_some c.hd
    unfold clsIn at ec; split at ec
    · rename_i eo
      intro A' Q' E' s' k q
      unfold isType loadHead; exact wpAny_bind (wpAny_loadPart (k _ _ (Y _ _ eo)) (wpAny_pure q))
    · cases ec
  ne := (handS_kitx_exc (x := x) (ox := ox) c.hg c.hk c.hs c.hd c.ha c.hn c.ht c.hm).ne
  ca := fun Y J k => err_class c Y J k
end
/-- isinstance(e, c), e an error of one's own -/
def rIsErr (K : PySem.W.Frag) : List V → Hp → VK → Prop := fun xs H Q => ∃ (a C : Addr) (y : V) (cv : Value) (c : Bool), xs = [.ref a, y] ∧ ErrO H a C ∧ ExcC K C ∧ (∀ u, RelV y u → u = cv) ∧ PySem.W.kitOne K (.ref C) cv = some c ∧ Q (.bl c) H
theorem errO_inst {X : Cx} {pins : List (Addr × Obj)} {σ : L2.St} {H : Hp} {s : Shared} {a C : Addr} (I : Inv X pins σ H s) (h : ErrO H a C) : ∃ ox od, PySem.W.InstAt s.heap a ox C od := by
  rcases h with ⟨t1, h⟩ | ⟨dx, fs, h1, h2⟩
  · exact ⟨_, none, exoT_at I.hok h, rfl, rfl, trivial⟩
  · obtain ⟨t1, e⟩ := exo_at I.hok h1
    obtain ⟨mA, hnz, _⟩ := exd_at I.hok h2
    obtain ⟨od, hoz, _⟩ := lookIn_ns hnz
    exact ⟨_, some od, e, rfl, rfl, hoz⟩
theorem call_isErr {X : Cx} : CallR X (.builtin "isinstance") (rIsErr X.K) := by
  intro pins s σ H xs us Q I r h
  obtain ⟨a, C, y, cv, c, rfl, haz, hc, hy, e, q⟩ := h
  cases r with
  | cons rxz rr =>
    cases rr with
    | cons rt rr =>
      cases rr
      cases rxz
      obtain rfl := hy _ rt
      obtain ⟨ox, od, J⟩ := errO_inst I haz
      exact PySem.W.kia_one (kitx_err hc) I.kIn J e (fun z => nomatch z) fun tk => ⟨.bl c, H, I.tok _, rfl, q⟩
/-- e.f of an error of one's own -/
def tOat (K : PySem.W.Frag) (f : Str) (te : TE) : TE := fun σ H Q => te σ H fun x H1 => ∃ (a C dx : Addr) (fs : List (Str × V)) (v : V), x = .ref a ∧ XfC K C ∧ PySem.W.findIn K (.ref C) f = some none ∧ H1 a = some (exo a C (some dx)) ∧ H1 dx = some (exd dx fs) ∧ fs.lookup f = some v ∧ Q v H1
theorem pe_oat {X : Cx} {e : Expr} {te : TE} {pos : Pos} {n : Str} (hez : PE X e te) (hb : attributeBase e n X.env (eval e X.env) = eval e X.env := by rfl) : PE X (.Attribute e n pos) (tOat X.K n te) := by
  refine ⟨fun pins s σ H Q I h => ?_⟩
  refine attr_of hb (thn (hez.run pins s σ H _ I h) ?_)
  rintro u s1 ⟨x, H1, Iz1, rxz, a, C, dx, fs, v, rfl, T, hno, ea, ed, l, q⟩
  obtain rfl : u = Value.ref a := rxz
  obtain ⟨t1, eo⟩ := exo_at Iz1.hok ea
  obtain ⟨mA, hnz, hr⟩ := exd_at Iz1.hok ed
  obtain ⟨od, hoz, hlz0⟩ := lookIn_ns hnz
  obtain ⟨u, hu, ru⟩ := RelO.some_of (v := v) (o := mA n) (by rw [← l]; exact hr n)
  have J : PySem.W.InstAt s1.heap a _ C (some od) := ⟨eo, rfl, rfl, hoz⟩
  exact HandSPX.exc_get Iz1.kIn J T.ga T.gg T.exC (PySem.W.findObj_own T.hdC hno rfl (by rw [hlz0, hu])) (handed_of ru) ⟨v, H1, Iz1.tok _, ru, q⟩
/-- C(e, ..): a new error object, itz __init__ keeping sp -/
def tErrN (C : Addr) (sp : Sp) (ta : TA) : TE := fun σ H Q => ta σ H fun vs H1 => vs.length ≤ 1000 ∧ ∀ a, H1 a = none → sp (.ref a :: vs) (upd H1 a (exo a C none)) (fun v H2 => v = .non ∧ Q (.ref a) H2) fun _ _ _ => False
theorem pe_errN {X : Cx} {CX : CXT} {x : Str} {C fI : Addr} {k : Nat} {fd : FuncData} {ps : List Str} {sp : Sp} {e : Expr} {es : List Expr} {ta : TA} {p pos : Pos} (T : OexC X.K C) (iC : PySem.W.findIn X.K (.ref C) "__init__" = some (some (.ref fI))) (tI : PySem.W.typeIn X.K (.ref fI) = some (.type "function"))
    (G : GFn X.prog X.w X.K X.mg X.base CX k fI fd ps sp) (rm : Rm (k + 1) X.A) (hb : Binds X.K fd ps []) (hxz : Passes CX X (fun _ _ _ => False)) (hgz : Gl X x) (hmz : X.mg x = some (.ref C)) (haz : PA X (e :: es) ta) (hdb : (x == ("__debug__" : Str)) = false := by decide)
    (hez : starEach (e :: es) X.env = (false, eval e X.env) :: starEach es X.env := by rfl) (hpl : (backTo pos (starEach es X.env)).any (·.1) = false := by rfl) :
    PE X (.Call (.Name x p) (e :: es) [] pos) (tErrN C sp ta) := by
  constructor
  intro pins s σ H Q I h
  obtain ⟨nm, q, N, bs, bm, sn, sub, ab, col, dd, k0, k1, k2, k3, k5, hC, hbm⟩ := T.cls
  refine wpAny_Call_Name_kw (ld_glob I hgz hmz ?_ hdb)
  refine PySem.W.callWith_K (h₀ := X.base) I.ok.mod.kin T.kC (thn (haz.run pos pins s σ H _ I h) fun us s1 hh => ⟨?_, ?_⟩) hez hpl
  · obtain ⟨_, _, Iz1, _⟩ := hh
    exact Iz1.kIn
  obtain ⟨vs, H1, Iz1, r1, hzz, q1⟩ := hh
  show wpAny _ _ (call (.ref C) us) _ _ _
  obtain ⟨hpz, g, dr, tk, os⟩ := s1
  have le : hpz.objs.size ≤ hpz.objs.size + 1 := Nat.le_succ _
  have hnz : H1 (hpz.objs.size + 1) = none := Iz1.hok.fresh le
  have hqz := q1 (hpz.objs.size + 1) hnz
  let h1 : Heap := (hpz.push (PySem.W.kdv_tup us)).push (PySem.HandSPX.excO C hpz.objs.size)
  have kk : ∀ b o, hpz.get? b = some o → h1.get? b = some o := fun b o e => Heap.get?_push_of_some _ (Heap.get?_push_of_some _ e)
  have hget : h1.get? (hpz.objs.size + 1) = some (PySem.HandSPX.excO C hpz.objs.size) := by
    show ((hpz.push (PySem.W.kdv_tup us)).push (PySem.HandSPX.excO C hpz.objs.size)).get? (hpz.objs.size + 1) = _
    heap_get
  have Iz2 : Inv X pins σ (upd H1 (hpz.objs.size + 1) (exo (hpz.objs.size + 1) C none)) ⟨h1, g, dr, tk, os⟩ := Iz1.laid (t' := tk) kk le (exo_ok hget)
  have rr : Vals (V.ref (hpz.objs.size + 1) :: vs) (Value.ref (hpz.objs.size + 1) :: us) := .cons rfl r1
  have hlz0 : (Value.ref (hpz.objs.size + 1) :: us ++ []).length = ps.length := by rw [← G.arity _ _ _ _ hqz, List.append_nil]; exact (Paired.length rr).symm
  have hus : us.length ≤ sizeLine := by
    rw [← Paired.length r1, sizeLine_eq]; omega
  refine wpAny_call (PySem.HandSPX.call_own F.excBase_ValueError (fun Y => PySem.HandSPX.refsVE_contains Y bm hbm) (Iz1.kIn _ _ hC) (PySem.W.looks_findIn Iz1.kIn iC) (fun self => PySem.W.bind_fn Iz1.kIn self tI) hus
    (codeAny_mono (G.go _ X.stack ⟨h1, g, dr, tk, os⟩ _ ⟨Value.ref (hpz.objs.size + 1) :: us, []⟩ (Value.ref (hpz.objs.size + 1) :: us) _ _ (fun _ _ _ => False) (rm.make C us) (Iz2.env0.make C us []) (by have z := hb ⟨h1, g, dr, tk, os⟩ (Value.ref (hpz.objs.size + 1) :: us) Iz2.kIn hlz0; rwa [List.append_nil] at z) rr hqz) fun r s' hq' => ?_))
  match r, hq' with
  | .error er, hq' => exact hxz pins σ _ _ er s' Iz2 hq'
  | .ok (.ret u), hq' =>
    obtain ⟨v, H', I3, rvz, ev, q3⟩ := Iz2.after hq'
    subst ev
    exact ⟨rvz, ⟨V.ref (hpz.objs.size + 1), H', I3, rfl, q3⟩⟩
  | .ok .next, hq' => exact hq'.elim
  | .ok .brk, hq' => exact hq'.elim
  | .ok .cont, hq' => exact hq'.elim
/-- C(): .., itz arguments' tuple known -/
def tErrT (C : Addr) (sp : Sp) : TE := fun σ H Q => ∀ a t1, H a = none → H t1 = none → a ≠ t1 → sp [.ref a] (upd (upd H t1 (.tup [])) a (exoT a C t1)) (fun v H2 => v = .non ∧ Q (.ref a) H2) fun _ _ _ => False
theorem pe_errT {X : Cx} {CX : CXT} {x : Str} {C fI : Addr} {k : Nat} {fd : FuncData} {ps : List Str} {sp : Sp} {p pos : Pos} (T : OexC X.K C) (iC : PySem.W.findIn X.K (.ref C) "__init__" = some (some (.ref fI))) (tI : PySem.W.typeIn X.K (.ref fI) = some (.type "function"))
    (G : GFn X.prog X.w X.K X.mg X.base CX k fI fd ps sp) (rm : Rm (k + 1) X.A) (hb : Binds X.K fd ps []) (hxz : Passes CX X (fun _ _ _ => False)) (hgz : Gl X x) (hmz : X.mg x = some (.ref C)) (hdb : (x == ("__debug__" : Str)) = false := by decide) :
    PE X (.Call (.Name x p) [] [] pos) (tErrT C sp) := by
  constructor
  intro pins s σ H Q I h
  obtain ⟨nm, q, N, bs, bm, sn, sub, ab, col, dd, k0, k1, k2, k3, k5, hC, hbm⟩ := T.cls
  refine wpAny_Call_Name_kw (ld_glob I hgz hmz ?_ hdb)
  refine PySem.W.callWith_K0 I.kIn T.kC ?_
  obtain ⟨hpz, g, dr, tk, os⟩ := s
  have n0 : H hpz.objs.size = none := I.hok.fresh (Nat.le_refl _)
  have n1 : H (hpz.objs.size + 1) = none := I.hok.fresh (Nat.le_succ _)
  have hqz := h (hpz.objs.size + 1) hpz.objs.size n1 n0 (Nat.succ_ne_self _)
  have hget0 : (hpz.push (PySem.W.kdv_tup [])).get? hpz.objs.size = some (PySem.W.kdv_tup []) := Heap.get?_push_size _ rfl
  have Iz1 : Inv X pins σ (upd H hpz.objs.size (.tup [])) ⟨hpz.push (PySem.W.kdv_tup []), g, dr, tk, os⟩ := I.laid (t' := tk) (o := .tup []) (fun b u e => Heap.get?_push_of_some _ e) (Nat.le_refl _) ⟨Nat.zero_le _, [], .nil, IsTup.new _ _⟩
  have s1 : (hpz.push (PySem.W.kdv_tup [])).objs.size = hpz.objs.size + 1 := by simp [Heap.push]
  let h1 : Heap := (hpz.push (PySem.W.kdv_tup [])).push (PySem.HandSPX.excO C hpz.objs.size)
  have hget : h1.get? (hpz.objs.size + 1) = some (PySem.HandSPX.excO C hpz.objs.size) := by
    show ((hpz.push (PySem.W.kdv_tup [])).push (PySem.HandSPX.excO C hpz.objs.size)).get? (hpz.objs.size + 1) = _
    heap_get
  have Iz2 : Inv X pins σ (upd (upd H hpz.objs.size (.tup [])) (hpz.objs.size + 1) (exoT (hpz.objs.size + 1) C hpz.objs.size)) ⟨h1, g, dr, tk, os⟩ := Iz1.laid (t' := tk) (h' := h1) (fun b o e => Heap.get?_push_of_some _ e) (Nat.le_of_eq s1) (exoT_ok hget)
  have rr : Vals [V.ref (hpz.objs.size + 1)] [Value.ref (hpz.objs.size + 1)] := .cons rfl .nil
  have hlz0 : ([Value.ref (hpz.objs.size + 1)] ++ []).length = ps.length := by rw [← G.arity _ _ _ _ hqz]; rfl
  refine wpAny_call (PySem.HandSPX.call_own F.excBase_ValueError (fun Y => PySem.HandSPX.refsVE_contains Y bm hbm) (I.kIn _ _ hC) (PySem.W.looks_findIn I.kIn iC) (fun self => PySem.W.bind_fn I.kIn self tI) (by decide)
    (codeAny_mono (G.go _ X.stack ⟨h1, g, dr, tk, os⟩ _ ⟨[Value.ref (hpz.objs.size + 1)], []⟩ [Value.ref (hpz.objs.size + 1)] _ _ (fun _ _ _ => False) (rm.make C []) (Iz2.env0.make C [] []) (hb _ [Value.ref (hpz.objs.size + 1)] Iz2.kIn hlz0) rr hqz) fun r s' hq' => ?_))
  match r, hq' with
  | .error er, hq' => exact hxz pins σ _ _ er s' Iz2 hq'
  | .ok (.ret u), hq' =>
    obtain ⟨v, H', I3, rvz, ev, q3⟩ := Iz2.after hq'
    subst ev
    exact ⟨rvz, ⟨V.ref (hpz.objs.size + 1), H', I3, rfl, q3⟩⟩
  | .ok .next, hq' => exact hq'.elim
  | .ok .brk, hq' => exact hq'.elim
  | .ok .cont, hq' => exact hq'.elim
end GG

set_option maxHeartbeats 3999999
/-! dicts that stand still, read -/
namespace DD
open PySem PySem.Spec PyProof.Rows L2 GG
def isKey : Key → PD → Bool
  | .inl i, .int j => decide (j = i)
  | .inr x, .str y => decide (y = x)
  | _, _ => false
def lookD (k : Key) : List (PD × PD) → Option PD
  | [] => none
  | (kd, d) :: r => if isKey k kd = true then some d else lookD k r
theorem isKey_key (k k' : Key) : isKey k (keyD k') = decide (k' = k) := by
  cases k <;> cases k' <;> simp [isKey, keyD]
theorem look_rep {K : PySem.W.Frag} {H : Hp} (k : Key) : ∀ {kvs : List (Key × V)} {kds : List (PD × PD)}, DqKv K H kvs kds → (∀ d, lookD k kds = some d → ∃ v, valV kvs k = some v ∧ Dq K H v d) ∧ (lookD k kds = none → valV kvs k = none)
  | _, _, .nil => ⟨(fun d h => by cases h), (fun _ => rfl)⟩
  | _, _, .cons (k := k1) (v := v1) h1 h2 => by
    obtain ⟨a, b⟩ := look_rep k h2
    unfold lookD
    rw [isKey_key]
    by_cases e : k1 = k
    · rw [if_pos (decide_eq_true e)]
      refine ⟨fun d h => ?_, fun h => by cases h⟩
      obtain rfl := Option.some.inj h
      exact ⟨v1, valV_pos e, h1⟩
    · rw [if_neg (by simpa using e)]
      rw [valV_neg e]
      exact ⟨a, b⟩
def keyOf : W → Option Key
  | .d (.int i) => some (.inl i)
  | .d (.str x) => some (.inr x)
  | _ => none
section
variable {K : PySem.W.Frag} {b : BP} {t ta tbz te ty tx : TE} {m ma me my mx : Wm} {M : Addr → Prop} {H : Hp} {v : V} {w : W}
theorem keyOf_rep {k : Key} (r : RepW K M b H v w) (e : keyOf w = some k) : v = kV k := by
  cases w with
  | l xs => cases e
  | bag => cases e
  | d x =>
    cases x <;> try cases e
    · obtain rfl := repInt r
      rfl
    · obtain rfl := repStr r
      rfl
theorem dict_rep {kds : List (PD × PD)} (ne : noErr kds) (r : RepW K M b H v (.d (.dict kds))) : ∃ a kvs, v = .ref a ∧ Rd (Fz M H) a (.dK kvs) ∧ DqKv K (Fz M H) kvs kds := by
  have r : Dq K (Fz M H) v (.dict kds) := r
  cases r with
  | dict hr hk => exact ⟨_, _, rfl, hr, hk⟩
  | err _ _ _ e =>
    subst e
    cases ne
  | errF _ _ e =>
    subst e
    cases ne
  | errA _ _ _ _ e =>
    subst e
    cases ne
  | opq e =>
    subst e
    cases ne
theorem rd_fz {a : Addr} {u : HO} (r : Rd (Fz M H) a u) : Rd H a u := rd_mono fz_sub r
/-- d[k] -/
def dixW (me my : Wm) : Wm := fun env Q => me env fun w => ∃ kds, w = .d (.dict kds) ∧ noErr kds ∧ my env fun y => ∃ k d, keyOf y = some k ∧ lookD k kds = some d ∧ Q (.d d)
theorem snd_dix (h : Snd K b te me) (hy : Snd K b ty my) : Snd K b (tDGet te ty) (dixW me my) := by
  intro M0 H0 O σ H env r Qa hmz Q k
  refine h M0 H0 O σ H env r _ hmz _ ?_
  rintro v w H1 f1 g1 r1 ⟨kds, rfl, ne, hm1⟩
  refine hy M0 H0 O σ H1 env (r.after f1 g1) _ hm1 _ ?_
  rintro y wy H2 f2 g2 r2 ⟨kk, d, ez1, ez2, q⟩
  obtain ⟨a, kvs, rfl, hr, hk⟩ := dict_rep ne (r1.frm f2 r.mbO)
  obtain ⟨v, ev, dv⟩ := (look_rep kk hk).1 d ez2
  exact ⟨a, v, rfl, .inl ⟨kvs, kk, rd_fz hr, keyOf_rep r2 ez1, ev.symm⟩, k v (.d d) H2 (f1.trans f2) g2 dv q⟩
/-- d.get(k), d.get(k, x) -/
def getW1 (me my : Wm) : Wm := fun env Q => me env fun w => ∃ kds, w = .d (.dict kds) ∧ noErr kds ∧ my env fun y => ∃ k, keyOf y = some k ∧ Q (.d ((lookD k kds).getD .none))
def getW2 (me my mx : Wm) : Wm := fun env Q => me env fun w => ∃ kds, w = .d (.dict kds) ∧ noErr kds ∧ my env fun y => mx env fun z => ∃ k x, keyOf y = some k ∧ z = .d x ∧ Q (.d ((lookD k kds).getD x))
theorem isD_of {a : Addr} {kvs : List (Key × V)} (r : Rd H a (.dK kvs)) : IsD H a := .inl ⟨kvs, r⟩
theorem snd_get1 (h : Snd K b te me) (hy : Snd K b ty my) : Snd K b (tDGet1 te ty) (getW1 me my) := by
  intro M0 H0 O σ H env r Qa hmz Q k
  refine h M0 H0 O σ H env r _ hmz _ ?_
  rintro v w H1 f1 g1 r1 ⟨kds, rfl, ne, hm1⟩
  obtain ⟨a, kvs, rfl, hr, hk⟩ := dict_rep ne r1
  refine ⟨a, rfl, isD_of (rd_fz hr), ?_⟩
  refine hy M0 H0 O σ H1 env (r.after f1 g1) _ hm1 _ ?_
  rintro y wy H2 f2 g2 r2 ⟨kk, ez1, q⟩
  obtain ⟨a2, kvs2, ea, hr2, hk2⟩ := dict_rep ne (r1.frm f2 r.mbO)
  obtain rfl := V.ref.inj ea
  have f := f1.trans f2
  cases ez2 : lookD kk kds with
  | none =>
    rw [ez2] at q
    exact ⟨none, .inl ⟨kvs2, kk, rd_fz hr2, keyOf_rep r2 ez1, ((look_rep kk hk2).2 ez2).symm⟩, k .non (.d .none) H2 f g2 Dq.non q⟩
  | some d =>
    rw [ez2] at q
    obtain ⟨v, ev, dv⟩ := (look_rep kk hk2).1 d ez2
    exact ⟨some v, .inl ⟨kvs2, kk, rd_fz hr2, keyOf_rep r2 ez1, ev.symm⟩, k v (.d d) H2 f g2 dv q⟩
theorem snd_get2 (h : Snd K b te me) (hy : Snd K b ty my) (hxz : Snd K b tx mx) : Snd K b (tDGet2 te ty tx) (getW2 me my mx) := by
  intro M0 H0 O σ H env r Qa hmz Q k
  refine h M0 H0 O σ H env r _ hmz _ ?_
  rintro v w H1 f1 g1 r1 ⟨kds, rfl, ne, hm1⟩
  obtain ⟨a, kvs, rfl, hr, hk⟩ := dict_rep ne r1
  refine ⟨a, rfl, isD_of (rd_fz hr), ?_⟩
  refine hy M0 H0 O σ H1 env (r.after f1 g1) _ hm1 _ ?_
  intro y wy H2 f2 g2 r2 hm2
  have e2' := (r.after f1 g1).after f2 g2
  refine hxz M0 H0 O σ H2 env e2' _ hm2 _ ?_
  rintro z wz H3 f3 g3 r3 ⟨kk, x, ez1, rfl, q⟩
  obtain ⟨a2, kvs2, ea, hr2, hk2⟩ := dict_rep ne (r1.frm (f2.trans f3) r.mbO)
  obtain rfl := V.ref.inj ea
  have f := (f1.trans f2).trans f3
  have ek := keyOf_rep (r2.frm f3 r.mbO) ez1
  cases ez2 : lookD kk kds with
  | none =>
    rw [ez2] at q
    exact ⟨none, .inl ⟨kvs2, kk, rd_fz hr2, ek, ((look_rep kk hk2).2 ez2).symm⟩, k z (.d x) H3 f g3 r3 q⟩
  | some d =>
    rw [ez2] at q
    obtain ⟨v, ev, dv⟩ := (look_rep kk hk2).1 d ez2
    exact ⟨some v, .inl ⟨kvs2, kk, rd_fz hr2, ek, ev.symm⟩, k v (.d d) H3 f g3 dv q⟩
/-- k in d -/
def dinW (my me : Wm) : Wm := fun env Q => my env fun y => me env fun w => ∃ kds k, w = .d (.dict kds) ∧ noErr kds ∧ keyOf y = some k ∧ Q (.d (.bool (lookD k kds).isSome))
theorem snd_din (hy : Snd K b ty my) (h : Snd K b te me) : Snd K b (tDIn ty te) (dinW my me) := by
  intro M0 H0 O σ H env r Qa hmz Q k
  refine hy M0 H0 O σ H env r _ hmz _ ?_
  intro y wy H1 f1 g1 r1 hm1
  refine h M0 H0 O σ H1 env (r.after f1 g1) _ hm1 _ ?_
  rintro v w H2 f2 g2 r2 ⟨kds, kk, rfl, ne, ez1, q⟩
  obtain ⟨a, kvs, rfl, hr, hk⟩ := dict_rep ne r2
  have ek := keyOf_rep (r1.frm f2 r.mbO) ez1
  cases ez2 : lookD kk kds with
  | none =>
    rw [ez2] at q
    exact ⟨a, none, rfl, .inl ⟨kvs, kk, rd_fz hr, ek, ((look_rep kk hk).2 ez2).symm⟩, k _ (.d (.bool false)) H2 (f1.trans f2) g2 (Dq.bl _) q⟩
  | some d =>
    rw [ez2] at q
    obtain ⟨v, ev, dv⟩ := (look_rep kk hk).1 d ez2
    exact ⟨a, some v, rfl, .inl ⟨kvs, kk, rd_fz hr, ek, ev.symm⟩, k _ (.d (.bool true)) H2 (f1.trans f2) g2 (Dq.bl _) q⟩
end
end DD

set_option maxHeartbeats 3999999
/-! isinstance of data, one built-in class -/
namespace DD
open PySem PySem.Spec PyProof.Rows L2 GG
/-- isinstance of data, by the six built-in classes -/
def kindD : PD → String
  | .none => "NoneType"
  | .bool _ => "bool"
  | .int _ => "int"
  | .str _ => "str"
  | .list _ => "list"
  | .tuple _ => "tuple"
  | .dict _ => "dict"
def isErr : PD → Bool
  | .dict [(.none, .none)] => true
  | _ => false
def isErrQ : PD → Bool
  | .dict ds => badK ds
  | _ => false
def isCls (T : String) : Bool := T == "int" || T == "bool" || T == "str" || T == "list" || T == "tuple" || T == "dict"
def isinD (T : String) (x : PD) : Option Bool := if isErr x = true then (if isCls T = true then some false else none) else if isErrQ x = true then none else kitB (kindD x) T
def isinF (T : String) : W → Option Bool
  | .d x => isinD T x
  | .l _ => kitB "list" T
  | .bag => none
def rIsiG (K : PySem.W.Frag) : List V → Hp → VK → Prop := fun xs H Q => rIsi K xs H Q ∨ ∃ (a C : Addr) (T : String), xs = [.ref a, .ty T] ∧ ErrO H a C ∧ ExcC K C ∧ PySem.W.kitOne K (.ref C) (.type T) = some false ∧ Q (.bl false) H
theorem call_isiG {X : Cx} : CallR X (.builtin "isinstance") (rIsiG X.K) := by
  intro pins s σ H xs us Q I r h
  rcases h with h | ⟨a, C, T, rfl, haz, hc, e, q⟩
  · exact call_isi pins s σ H xs us Q I r h
  · cases r with
    | cons rxz rr =>
      cases rr with
      | cons rt rr =>
        cases rr
        cases rxz
        cases rt
        obtain ⟨ox, od, J⟩ := errO_inst I haz
        exact PySem.W.kia_one (kitx_err hc) I.kIn J e (fun z => nomatch z) fun tk => ⟨.bl false, H, I.tok _, rfl, q⟩
section
variable {K : PySem.W.Frag} {b : BP} {te : TE} {me : Wm} {M : Addr → Prop} {H : Hp} {v : V} {w : W}
theorem ty_list {a : Addr} {xs : List V} (h : SqL K H a xs) : TyX K H (.ref a) (.type "list") := by
  rcases h with (h | ⟨o, h⟩) | ⟨o, vs, n, h1, h2, _⟩
  · exact .base (.lst h)
  · exact .base (.frz h)
  · exact .kList h1 h2
theorem ty_tup {a : Addr} {xs : List V} (h : SqT K H a xs) : TyX K H (.ref a) (.type "tuple") := by
  rcases h with (h | ⟨o, h⟩) | ⟨o, vs, n, h1, h2, _⟩
  · exact .base (.tup h)
  · exact .fTuple h
  · exact .kTuple h1 h2
theorem ty_dict {a : Addr} {kvs : List (Key × V)} (h : Rd H a (.dK kvs)) : TyX K H (.ref a) (.type "dict") := by
  rcases h with h | ⟨o, h⟩
  · exact .base (.dK h)
  · exact .fDict h
theorem kv_bad {H : Hp} {kvs : List (Key × V)} {ds : List (PD × PD)} (h : DqKv K H kvs ds) : badK ds = false := by
  cases h with
  | nil => rfl
  | @cons k _ _ _ _ _ _ => cases k <;> rfl
/-- isinstance(e, T) -/
def isinW (T : String) (me : Wm) : Wm := fun env Q => me env fun w => ∃ c, isinF T w = some c ∧ Q (.d (.bool c))
theorem isin_rep {T : String} {c : Bool} {Q : VK} (r : RepW K M b H v w) (e : isinF T w = some c) (q : Q (.bl c) H) : rIsiG K [v, .ty T] H Q := by
  have fin : ∀ k, TyX K H v (.type k) → kitB k T = some c → rIsiG K [v, .ty T] H Q := fun k h1 h2 => .inl ⟨v, .ty T, _, _, c, rfl, .ty T, h1, kit_ty h2, q⟩
  cases w with
  | bag => cases e
  | l xs =>
    obtain ⟨a, vs, rfl, _, h, _⟩ := r
    exact fin "list" (ty_list (SqL.of h)) e
  | d x =>
    have r : Dq K (Fz M H) v x := r
    have e : isinD T x = some c := e
    unfold isinD at e
    cases r with
    | non => exact fin _ (.base .non) e
    | bl c => exact fin _ (.base (.bl c)) e
    | int i => exact fin _ (.base (.int i)) e
    | str z => exact fin _ (.base (.str z)) e
    | lst hsv0 _ => exact fin _ (ty_list (hsv0.mono fz_sub).sq) e
    | tup hsv0 _ => exact fin _ (ty_tup (hsv0.mono fz_sub).sq) e
    | dict hr hk =>
      split at e
      · rename_i h
        unfold isErr at h
        split at h
        · rename_i q
          obtain rfl := PyData.dict.inj q
          cases kv_bad hk
        · cases h
      · rw [if_neg (by show ¬ badK _ = true; rw [kv_bad hk]; exact Bool.false_ne_true)] at e
        exact fin _ (ty_dict (rd_fz hr)) e
    | errF _ _ h3 =>
      subst h3
      cases e
    | errA _ _ _ _ h3 =>
      subst h3
      cases e
    | opq h3 =>
      subst h3
      cases e
    | @err a C t1 kvs h1 h0 h2 h3 =>
      subst h3
      rw [if_pos (show isErr (.dict errP) = true from rfl)] at e
      split at e
      · rename_i hT
        obtain rfl := Option.some.inj e
        refine .inr ⟨a, C, T, rfl, .inl ⟨t1, fz_sub _ _ h1⟩, h2.exc, ?_, q⟩
        simp only [isCls, Bool.or_eq_true, beq_iff_eq] at hT
        rcases hT with ((((rfl | rfl) | rfl) | rfl) | rfl) | rfl
        · exact h2.nint
        · exact h2.nbool
        · exact h2.nstr
        · exact h2.nlist
        · exact h2.ntuple
        · exact h2.ndict
      · cases e
theorem snd_isin {T : String} (h : Snd K b te me) : Snd K b (tCB (rIsiG K) (tCons te (tCons (tC (.ty T)) tNil))) (isinW T me) := by
  intro M0 H0 O σ H env r Qa hmz Q k
  refine h M0 H0 O σ H env r _ hmz _ ?_
  rintro v w H' f g rp ⟨c, e, q⟩
  exact isin_rep rp e (k _ (.d (.bool c)) H' f g (Dq.bl _) q)
end
theorem kit_int_int : kitB "int" "int" = some true := by decide +kernel
theorem kit_bool_int : kitB "bool" "int" = some true := by decide +kernel
theorem kit_str_int : kitB "str" "int" = some false := by decide +kernel
theorem kit_none_int : kitB "NoneType" "int" = some false := by decide +kernel
theorem kit_tuple_int : kitB "tuple" "int" = some false := by decide +kernel
theorem kit_list_int : kitB "list" "int" = some false := by decide +kernel
theorem kit_dict_int : kitB "dict" "int" = some false := by decide +kernel
theorem kit_bool_bool : kitB "bool" "bool" = some true := by decide +kernel
theorem kit_int_bool : kitB "int" "bool" = some false := by decide +kernel
theorem kit_tuple_tuple : kitB "tuple" "tuple" = some true := by decide +kernel
theorem kit_str_str : kitB "str" "str" = some true := by decide +kernel
theorem kit_int_str : kitB "int" "str" = some false := by decide +kernel
end DD

set_option maxHeartbeats 3999999
namespace DD
open PySem PySem.Spec PyProof.Rows L2 GG
section
variable {K : PySem.W.Frag} {b : BP}
/-- {} -/
def noneW : Wm := fun _ Q => Q (.d (.dict []))
theorem snd_dnew : Snd K b tDNewK noneW := by
  intro M0 H0 O σ H env r Qa hmz Q k
  intro p hpz
  have np : ¬ MO M0 O p := fun z => r.domO p z hpz
  exact k _ (.d (.dict [])) _ (Frm.new hpz) (r.bag.new hpz) (Dq.dict (.inl (fz_iff.mpr ⟨np, upd_same⟩)) .nil) hmz
end
end DD
namespace DD
open PySem PySem.Spec PyProof.Rows L2 GG
section
variable {K : PySem.W.Frag} {b : BP} {ta tbz : TE} {ma mb : Wm}
/-! ### zip of two lists -/
def itZW (ma mb : Wm) : Wi := fun env Q => ma env fun x => mb env fun y => ∃ ds es, x = .d (.list ds) ∧ y = .d (.list es) ∧ Q ((ds.zip es).map fun p => WI.p p.1 p.2)
theorem si_zip (haz : Snd K b ta ma) (hb : Snd K b tbz mb) : SndI K b (iZip K (tCons ta (tCons tbz tNil))) (itZW ma mb) := by
  intro M0 H0 O σ H env r Qa hmz R k
  refine haz M0 H0 O σ H env r _ hmz _ ?_
  intro v w H1 f1 g1 rp1 hm1
  refine hb M0 H0 O σ H1 env (r.after f1 g1) _ hm1 _ ?_
  rintro u w' H2 f2 g2 rp2 ⟨ds, es, rfl, rfl, q⟩
  have rp1 : Dq K (Fz (MO M0 O) H2) v (.list ds) := rp1.frm f2 r.mbO
  have rp2 : Dq K (Fz (MO M0 O) H2) u (.list es) := rp2
  cases rp1 with
  | lst hs1 dp1 =>
    cases rp2 with
    | lst hs2 dp2 =>
      rename_i a1 vs1 a2 vs2
      refine ⟨a1, a2, vs1, vs2, rfl, sqL_sub hs1, sqL_sub hs2, k _ _ H2 (f1.trans f2) g2 ⟨_, _, walk_zip (xs := vs1) (ys := vs2) (n := ((ds.zip es).map fun p => WI.p p.1 p.2).length) (by rw [List.length_map, List.length_zip, dpAll_len dp1, dpAll_len dp2]), ?_⟩ q⟩
      intro M' H' s dom
      refine ⟨⟨sqL_sub (hs1.mono s), sqL_sub (hs2.mono s)⟩, ?_⟩
      rintro i x Hx hi ⟨T, x1, x2, rfl, nT, rfl, ez1, ez2⟩
      obtain ⟨d, hdz, dx⟩ := dpAll_get dp1 ez1
      obtain ⟨e, hez, ex⟩ := dpAll_get dp2 ez2
      refine ⟨.p d e, ?_, fun a o z => by rw [upd_ne (ne_of_none z nT)]; exact z, ?_, nt_upd (by intro _ z; cases z)⟩
      · have hpz : (ds.zip es)[i]? = some (d, e) := List.getElem?_zip_eq_some.mpr ⟨hdz, hez⟩
        rw [List.getElem?_map, hpz]
        rfl
      · exact ⟨T, _, _, rfl, SqT.of upd_same, dp_mono (s.trans (fz_new nT)) _ _ dx, dp_mono (s.trans (fz_new nT)) _ _ ex⟩
end
end DD
namespace DD
open PySem PySem.Spec PyProof.Rows L2 GG
section
variable {K : PySem.W.Frag} {b : BP}
/-! ### all of truth values -/
theorem bools_rep {H : Hp} : ∀ {bs : List Bool} {us : List V}, DqAll K H us (bs.map PyData.bool) → us = bs.map V.bl
  | [], _, h => by
    cases h
    rfl
  | c :: bs, _, h => by
    cases h with
    | cons h1 h2 =>
      cases h1
      rw [bools_rep h2]
      rfl
def allF (ws : List W) (Q : W → Prop) : Prop := ∃ (w : W) (bs : List Bool), ws = [w] ∧ w.lst = some (bs.map PyData.bool) ∧ Q (.d (.bool (bs.all id)))
theorem rc_all : RC K b (rAll K) allF := by
  intro M H vs ws mb dom g p Qa h Q k
  obtain ⟨w, bs, rfl, e, q⟩ := h
  cases p with
  | cons rxz rest =>
    cases rest
    obtain ⟨a, us, rfl, hsv0, dp⟩ := rxz.lst e
    obtain rfl := bools_rep dp
    exact ⟨a, bs, rfl, hsv0, k _ (.d (.bool _)) H (Frm.refl _ _) g (Dq.bl _) q⟩
end
end DD
namespace DD
open PySem PySem.Spec PyProof.Rows L2 GG
/-! ### dict(t), t a tuple of pairs with distinct names -/
theorem put_new {kvs : List (Key × V)} {k : Key} {v : V} (h : k ∉ kvs.map Prod.fst) : putK kvs k v = kvs ++ [(k, v)] := by
  unfold putK
  rw [if_neg]
  intro z
  obtain ⟨p, hpz, e⟩ := List.any_eq_true.mp z
  exact h (List.mem_map.mpr ⟨p, hpz, of_decide_eq_true e⟩)
theorem merge_new : ∀ {kvs acc : List (Key × V)}, ((acc ++ kvs).map Prod.fst).Nodup → mergeK acc kvs = acc ++ kvs
  | [], acc, _ => by
    rw [List.append_nil]
    rfl
  | (k, v) :: kvs, acc, h => by
    have hk : k ∉ acc.map Prod.fst := by
      intro z
      rw [List.map_append, List.nodup_append] at h
      exact h.2.2 k z k (by simp) rfl
    show mergeK (putK acc k v) kvs = acc ++ (k, v) :: kvs
    rw [put_new hk, merge_new (by rw [List.append_assoc]; exact h), List.append_assoc]
    rfl
section
variable {K : PySem.W.Frag} {b : BP}
theorem pairs_kv {H : Hp} : ∀ {kds : List (Str × PD)} {vs : List V}, DqAll K H vs (kds.map pairD) → ∃ (ps : List Addr) (kvs : List (Key × V)), vs = ps.map V.ref ∧ Paired (fun p kv => SqT K H p [kV kv.1, kv.2]) ps kvs ∧ kvs.map Prod.fst = kds.map (fun p => (Sum.inr p.1 : Key)) ∧
    DqKv K H kvs (kds.map fun p => (PyData.str p.1, p.2))
  | [], vs, h => by
    cases h
    exact ⟨[], [], rfl, .nil, rfl, .nil⟩
  | (n, d) :: kds, vs, h => by
    cases h with
    | cons h1 h2 =>
      obtain ⟨ps, kvs, ez1, ez2, e3, e4⟩ := pairs_kv h2
      have h1 : Dq K H _ (.tuple [.str n, d]) := h1
      cases h1 with
      | tup hsv0 haz =>
        rename_i a us
        cases haz with
        | cons r1 rest =>
          cases rest with
          | cons r2 rest =>
            cases rest
            rename_i v1 v2
            have e : v1 = .str n := by
              cases r1
              rfl
            subst e
            exact ⟨a :: ps, (.inr n, v2) :: kvs, by rw [ez1]; rfl, .cons hsv0.sq ez2, by rw [List.map_cons, List.map_cons, e3], DqKv.cons (k := .inr n) r2 e4⟩
def dictTF (ws : List W) (Q : W → Prop) : Prop := ∃ (w : W) (kds : List (Str × PD)), ws = [w] ∧ w.tup = some (kds.map pairD) ∧ (kds.map Prod.fst).Nodup ∧ Q (.d (.dict (kds.map fun p => (PyData.str p.1, p.2))))
theorem rc_dictT : RC K b (rDictT K) dictTF := by
  intro M H vs ws mb dom g p Qa h Q k
  obtain ⟨w, kds, rfl, e, nd, q⟩ := h
  cases p with
  | cons rxz rest =>
    cases rest
    obtain ⟨a, us, rfl, hsv0, dp, td⟩ := rxz.tup e
    obtain ⟨ps, kvs, rfl, pp, ek, kv⟩ := pairs_kv dp
    refine ⟨a, ps, kvs, rfl, td, paired_up pp, fun p hpz => ?_⟩
    have ndk : (kvs.map Prod.fst).Nodup := by
      rw [ek]
      have := nodup_map_inj (f := fun z : Str => (Sum.inr z : Key)) (fun x y e => Sum.inr.inj e) nd
      rw [List.map_map] at this
      exact this
    rw [merge_new (acc := []) ndk, List.nil_append]
    have np : ¬ M p := fun z => dom p z hpz
    exact k _ (.d (.dict _)) _ (Frm.new hpz) (g.new hpz) (Dq.dict (.inl (fz_iff.mpr ⟨np, upd_same⟩)) (dpKv_mono (fz_new hpz) _ _ kv)) q
end
end DD

set_option maxHeartbeats 3999999
namespace DD
open PySem PySem.Spec PyProof.Rows L2 GG
section
variable {K : PySem.W.Frag} {b : BP} {t ta tbz te tk tv to : TE} {tas : TA} {m ma mb me mk mv mo : Wm} {ms : Wl} {M : Addr → Prop} {H : Hp} {v : V} {w : W}
/-! ### C() of an error class -/
def errW : Wm := fun _ Q => Q (.d (.dict errP))
theorem snd_err {C : Addr} {sp : Sp} (hC : ObjC K C) (hI : ∀ a H Q E, Q V.non H → sp [.ref a] H Q E) : Snd K b (tErrT C sp) errW := by
  intro M0 H0 O σ H env r Qa hmz Q k a t1 haz ht na
  refine hI _ _ _ _ ⟨rfl, ?_⟩
  have na' : ¬ MO M0 O a := fun z => r.domO a z haz
  have nt' : ¬ MO M0 O t1 := fun z => r.domO t1 z ht
  have hu : upd H t1 (.tup []) a = none := by rw [upd_ne na]; exact haz
  have f1 : Frm b H (upd H t1 (.tup [])) := Frm.new ht
  have g1 : Bag b (upd H t1 (.tup [])) := r.bag.new ht
  refine k _ (.d (.dict errP)) _ (f1.trans (Frm.new hu)) (g1.new hu (fun ps z => ?_)) (Dq.err (fz_iff.mpr ⟨na', upd_same⟩) (fz_iff.mpr ⟨nt', by rw [upd_ne na.symm, upd_same]⟩) hC rfl) hmz
  exact exoT_tbl z
/-! ### {k: v} -/
theorem bag_put {H' : Hp} {p : Addr} {o u : HO} (g : Bag b H') (e : H' p = some o) (c : LamX.Tabs b.4 H' → LamX.Tabs b.4 (upd H' p u)) (n1 : p ≠ b.1) (n2 : p ≠ b.2) (n3 : p ≠ b.3) (nt : ∀ ps, u ≠ .tbl ps) : Bag b (upd H' p u) :=
  g.stay (upd_ne n1.symm) (upd_ne n2.symm) (by rw [upd_ne n3.symm]; exact g.there3) c (nt_upd nt)
theorem tabs_dk {T : List (Addr × Str)} {H : Hp} {p : Addr} {kvs kws : List (Key × V)} (h : H p = some (.dK kvs)) (t : LamX.Tabs T H) : LamX.Tabs T (upd H p (.dK kws)) := by
  intro q hqz
  obtain ⟨ps, ez1, ez2, e3⟩ := t q hqz
  refine ⟨ps, by rw [upd_ne (ne_of ez1 h (by intro z; cases z))]; exact ez1, ez2, fun pos cv hc => ?_⟩
  obtain ⟨c, c1, c2⟩ := e3 pos cv hc
  exact ⟨c, c1, by rw [upd_ne (ne_of c2 h (by intro z; unfold LamX.CodeO at z; cases z))]; exact c2⟩
theorem sqL_but {H H' : Hp} {a : Addr} {xs : List V} (s : ∀ a o, (∀ kvs, o ≠ .dK kvs) → H a = some o → H' a = some o) (h : SqL K H a xs) : SqL K H' a xs := by
  rcases h with (h | ⟨o, h⟩) | h
  · exact .inl (.inl (s _ _ (by intro _ z; cases z) h))
  · exact .inl (.inr ⟨o, s _ _ (by intro _ z; cases z) h⟩)
  · exact .inr h
theorem sqH_but {H H' : Hp} {a : Addr} {xs : List V} (s : ∀ a o, (∀ kvs, o ≠ .dK kvs) → H a = some o → H' a = some o) (h : SqH H a xs) : SqH H' a xs := by
  rcases h with h | ⟨o, h⟩
  · exact .inl (s _ _ (by intro _ z; cases z) h)
  · exact .inr ⟨o, s _ _ (by intro _ z; cases z) h⟩
theorem tupD_but {H H' : Hp} {a : Addr} {xs : List V} (s : ∀ a o, (∀ kvs, o ≠ .dK kvs) → H a = some o → H' a = some o) (h : TupD K H a xs) : TupD K H' a xs := by
  rcases h with ⟨o, h, r⟩ | h
  · exact .inl ⟨o, s _ _ (by intro _ z; cases z) h, r⟩
  · exact .inr h
mutual
/-- what has no dict stands where dicts change -/
theorem dq_but {H H' : Hp} (s : ∀ a o, (∀ kvs, o ≠ .dK kvs) → H a = some o → H' a = some o) : ∀ (d : PyData) (v : V), Dq K H v d → d.hasDict = false → Dq K H' v d
  | .none, _, h, _ => by cases h; exact .non
  | .bool _, _, h, _ => by cases h; exact .bl _
  | .int _, _, h, _ => by cases h; exact .int _
  | .str _, _, h, _ => by cases h; exact .str _
  | .list ds, _, h, n => by
    cases h with
    | lst hsv0 haz => exact .lst (sqH_but s hsv0) (dqAll_but s ds _ haz (by simpa only [PyData.hasDict] using n))
  | .tuple ds, _, h, n => by
    cases h with
    | tup hsv0 haz => exact .tup (tupD_but s hsv0) (dqAll_but s ds _ haz (by simpa only [PyData.hasDict] using n))
  | .dict _, _, _, n => by simp [PyData.hasDict] at n
theorem dqAll_but {H H' : Hp} (s : ∀ a o, (∀ kvs, o ≠ .dK kvs) → H a = some o → H' a = some o) : ∀ (ds : List PyData) (vs : List V), DqAll K H vs ds → PyData.hasDictAll ds = false → DqAll K H' vs ds
  | [], _, h, _ => by cases h; exact .nil
  | d :: ds, _, h, n => by
    simp only [PyData.hasDictAll, Bool.or_eq_false_iff] at n
    cases h with
    | cons h1 h2 => exact .cons (dq_but s d _ h1 n.1) (dqAll_but s ds _ h2 n.2)
end
def dis1W (mk mv : Wm) : Wm := fun env Q => mk env fun x => mv env fun y => ∃ k d, keyOf x = some k ∧ y = .d d ∧ d.hasDict = false ∧ Q (.d (.dict [(keyD k, d)]))
theorem snd_dis1 (hk : Snd K b tk mk) (hv : Snd K b tv mv) : Snd K b (tDisp [(tk, tv)]) (dis1W mk mv) := by
  intro M0 H0 O σ H env r Qa hmz Q k p hpz
  have f0 : Frm b H (upd H p (.dK [])) := Frm.new hpz
  have g0 : Bag b (upd H p (.dK [])) := r.bag.new hpz
  have np : ¬ MO M0 O p := fun z => r.domO p z hpz
  refine hk M0 H0 O σ (upd H p (.dK [])) env (r.after f0 g0) _ hmz _ ?_
  intro x wx H1 f1 g1 r1 hm1
  refine hv M0 H0 O σ H1 env ((r.after f0 g0).after f1 g1) _ hm1 _ ?_
  rintro y wy H2 f2 g2 r2 ⟨kk, d, ez1, rfl, nd, q⟩
  have pb := r.bag.off hpz
  have pc : p ≠ b.2 := fun z => r.bag.there2 (z ▸ hpz)
  have e0 : H2 p = some (.dK []) := (f1.trans f2) p _ pb upd_same
  refine ⟨e0, [(kk, y)], ?_, Nat.succ_le_succ (Nat.zero_le _), ?_⟩
  · rw [keyOf_rep (r1.frm f2 r.mbO) ez1]
    rfl
  · have fr : Frm b H (upd H2 p (.dK (mergeK [] [(kk, y)]))) := fun a o n e => by
      rw [upd_ne (ne_of_none e hpz)]
      exact ((f0.trans f1).trans f2) a o n e
    refine k _ (.d (.dict [(keyD kk, d)])) _ fr (bag_put g2 e0 (tabs_dk e0) pb.1 pc pb.2 (by intro _ z; cases z)) ?_ q
    refine Dq.dict (.inl (fz_iff.mpr ⟨np, upd_same⟩)) (.cons (dq_but (fun a o nk e => ?_) _ _ r2 nd) .nil)
    obtain ⟨n, e⟩ := fz_iff.mp e
    refine fz_iff.mpr ⟨n, ?_⟩
    rw [upd_ne (fun z => ?_)]
    · exact e
    · rw [z, e0] at e
      exact nk [] (Option.some.inj e).symm
end
end DD

set_option maxHeartbeats 3999999
namespace DD
open PySem PySem.Spec PyProof.Rows L2 GG
section
variable {K : PySem.W.Frag} {b : BP} {t ta tbz te tk tv to : TE} {tas : TA} {m ma mb me mk mv mo : Wm} {ms : Wl} {M : Addr → Prop} {H : Hp} {v : V} {w : W}
/-! ### list(d.values()) -/
theorem kv_all {H : Hp} : ∀ {kvs : List (Key × V)} {kds : List (PD × PD)}, DqKv K H kvs kds → DqAll K H (kvs.map (·.2)) (kds.map (·.2))
  | _, _, .nil => .nil
  | _, _, .cons h1 h2 => .cons h1 (kv_all h2)
def valsF (me : Wm) : Wf := fun env Q => me env fun w => ∃ kds, w = .d (.dict kds) ∧ noErr kds ∧ Q (kds.map (·.2))
theorem snd_vals (h : Snd K b te me) : SndF K b (tListVals te) (valsF me) := by
  intro M0 H0 O σ H env r Qa hmz Q k
  refine h M0 H0 O σ H env r _ hmz _ ?_
  rintro v w H' f g rp ⟨kds, rfl, ne, q⟩
  obtain ⟨a, kvs, rfl, hr, hk⟩ := dict_rep ne rp
  refine ⟨a, kvs, rfl, rd_fz hr, fun p hpz => ?_⟩
  have pb : Off b p := g.off hpz
  refine k _ _ _ (f.trans (Frm.new hpz)) (g.new hpz) ⟨p, _, rfl, f.free hpz pb, upd_same, dpAll_mono (fz_same fun a o z e => ?_) _ _ (kv_all hk)⟩ q
  have nap := ne_of_none e hpz
  exact ⟨fun y => y.elim z nap, by rw [upd_ne nap]; exact e⟩
/-! ### texts -/
/-- s.removeprefix(p) -/
def rmpW (me : Wm) (ms : Wl) : Wm := fun env Q => me env fun w => ∃ z : Str, w = .d (.str z) ∧ ms env fun ws => ∃ y : Str, ws = [.d (.str y)] ∧ z.length ≤ sizeLine ∧ Q (.d (.str (Txt.removeprefix z y)))
theorem snd_rmp (h : Snd K b te me) (hsv0 : SndA K b tas ms) : Snd K b (tBM K "str" (fun x xs H Q => ∃ a b, x = .str a ∧ xs = [.str b] ∧ a.length ≤ sizeLine ∧ Q (.str (Txt.removeprefix a b)) H) te tas) (rmpW me ms) := by
  intro M0 H0 O σ H env r Qa hmz Q k
  refine h M0 H0 O σ H env r _ hmz _ ?_
  rintro v w H1 f1 g1 r1 ⟨z, rfl, hm1⟩
  obtain rfl := repStr r1
  refine ⟨rfl, ?_⟩
  refine hsv0 M0 H0 O σ H1 env (r.after f1 g1) _ hm1 _ ?_
  rintro us ws H2 f2 g2 r2 ⟨y, rfl, hzz, q⟩
  cases r2 with
  | cons ru rest =>
    cases rest
    obtain rfl := repStr ru
    exact ⟨z, y, rfl, rfl, hzz, k _ (.d (.str _)) H2 (f1.trans f2) g2 (Dq.str _) q⟩
/-- for c in s -/
def chrD (c : Nat) : PD := .str ⟨#[c]⟩
def itSW (me : Wm) : Wi := fun env Q => me env fun w => ∃ z : Str, w = .d (.str z) ∧ Q (z.cps.toList.map fun c => .d (chrD c))
theorem si_str (h : Snd K b te me) : SndI K b (iStr te) (itSW me) := by
  intro M0 H0 O σ H env r Qa hmz R k
  refine h M0 H0 O σ H env r _ hmz _ ?_
  rintro v w H1 f g' rp ⟨z, rfl, q⟩
  obtain rfl := repStr rp
  refine ⟨z, rfl, k _ _ H1 f g' ⟨_, _, by rw [List.length_map, Array.length_toList]; exact walk_str, ?_⟩ q⟩
  intro M' H' s dom
  refine ⟨True.intro, ?_⟩
  rintro i x Hx hi ⟨rfl, c, hc, rfl⟩
  exact ⟨.d (chrD c), by rw [List.getElem?_map, Array.getElem?_toList, hc]; rfl, Same.refl _, Dq.str _, fun _ _ e => e⟩
/-- x in s, texts -/
def inS (x y : Str) : Bool := !(Builtin.Str.occurrences y x 0 y.length 1).isEmpty
def inSF (neg : Bool) (x y : W) (Q : W → Prop) : Prop := ∃ i j : Str, x = .d (.str i) ∧ y = .d (.str j) ∧ Q (.d (.bool (if neg = true then !(inS i j) else inS i j)))
theorem rv_inS : RV2 K b (fun x y H Q => ∃ i j, x = .str i ∧ y = .str j ∧ Q (.bl (!(Builtin.Str.occurrences j i 0 j.length 1).isEmpty)) H) (inSF false) := by
  intro M H x y wx wy mb dom g rxz ryz Qa h Q k
  obtain ⟨i, j, rfl, rfl, q⟩ := h
  exact ⟨i, j, repStr rxz, repStr ryz, k _ (.d (.bool _)) H (Frm.refl _ _) g (Dq.bl _) q⟩
theorem rv_notInS : RV2 K b (fun x y H Q => ∃ i j, x = .str i ∧ y = .str j ∧ Q (.bl (!(!(Builtin.Str.occurrences j i 0 j.length 1).isEmpty))) H) (inSF true) := by
  intro M H x y wx wy mb dom g rxz ryz Qa h Q k
  obtain ⟨i, j, rfl, rfl, q⟩ := h
  exact ⟨i, j, repStr rxz, repStr ryz, k _ (.d (.bool _)) H (Frm.refl _ _) g (Dq.bl _) q⟩
/-- s[lo:hi] -/
def slSW (me : Wm) (ml mh : Wo) : Wm := fun env Q => me env fun w => ml env fun lo => mh env fun hi => ∃ z : Str, w = .d (.str z) ∧ z.length ≤ sizeLine ∧ Q (.d (.str (Txt.slice z lo hi)))
theorem snd_slS {tl th : TO} {ml mh : Wo} (h : Snd K b te me) (hlz0 : SndO K b tl ml) (hh : SndO K b th mh) : Snd K b (tSl C8.rSlX te tl th) (slSW me ml mh) := by
  intro M0 H0 O σ H env r Qa hmz Q k
  refine h M0 H0 O σ H env r _ hmz _ ?_
  intro v w H1 f1 g1 rp hm1
  refine hlz0 M0 H0 O σ H1 env (r.after f1 g1) _ hm1 _ ?_
  intro lo H2 f2 g2 hm2
  refine hh M0 H0 O σ H2 env ((r.after f1 g1).after f2 g2) _ hm2 _ ?_
  rintro hi H3 f3 g3 ⟨z, rfl, hzz, q⟩
  exact ⟨z, repStr rp, hzz, k _ (.d (.str _)) H3 ((f1.trans f2).trans f3) g3 (Dq.str _) q⟩
/-- s + t, s * n -/
def catSF (x y : W) (Q : W → Prop) : Prop := ∃ i j : Str, x = .d (.str i) ∧ y = .d (.str j) ∧ i.length + j.length ≤ sizeLine ∧ Q (.d (.str (i ++ j)))
theorem rv_catS : RV2 K b (fun x y H Q => ∃ i j, x = .str i ∧ y = .str j ∧ i.length + j.length ≤ sizeLine ∧ Q (.str (i ++ j)) H) catSF := by
  intro M H x y wx wy mb dom g rxz ryz Qa h Q k
  obtain ⟨i, j, rfl, rfl, hzz, q⟩ := h
  exact ⟨i, j, repStr rxz, repStr ryz, hzz, k _ (.d (.str _)) H (Frm.refl _ _) g (Dq.str _) q⟩
def repSF (x y : W) (Q : W → Prop) : Prop := ∃ (z : Str) (n : Nat), x = .d (.str z) ∧ y = .d (.int (n : Int)) ∧ 1 < n ∧ n < 2 ^ 30 ∧ z.length ≠ 0 ∧ z.length * n ≤ 2 ^ 20 ∧ Q (.d (.str (repS z n)))
theorem rv_repS : RV2 K b rRepS repSF := by
  intro M H x y wx wy mb dom g rxz ryz Qa h Q k
  obtain ⟨z, n, rfl, rfl, h1, h2, h3, h4, q⟩ := h
  exact ⟨z, n, repStr rxz, repInt ryz, h1, h2, h3, h4, k _ (.d (.str _)) H (Frm.refl _ _) g (Dq.str _) q⟩
/-! ### int(s), int(i), str(i), sum -/
def intSF (ws : List W) (Q : W → Prop) : Prop := ∃ (z : Str) (n : Int), ws = [.d (.str z)] ∧ PySem.intText? z = some n ∧ z.length ≤ 640 ∧ Q (.d (.int n))
theorem rc_intS : RC K b (fun xs H Q => ∃ a n, xs = [.str a] ∧ PySem.intText? a = some n ∧ a.length ≤ 640 ∧ Q (.int n) H) intSF := by
  intro M H vs ws mb dom g p Qa h Q k
  obtain ⟨z, n, rfl, ez1, ez2, q⟩ := h
  cases p with
  | cons rxz rest =>
    cases rest
    obtain rfl := repStr rxz
    exact ⟨z, n, rfl, ez1, ez2, k _ (.d (.int n)) H (Frm.refl _ _) g (Dq.int _) q⟩
def intIF (ws : List W) (Q : W → Prop) : Prop := ∃ n : Int, ws = [.d (.int n)] ∧ Q (.d (.int n))
theorem rc_intI : RC K b (fun xs H Q => (∃ i, xs = [.int i] ∧ Q (.int i) H) ∨ ∃ k, xs = [.bl k] ∧ Q (.int (if k then 1 else 0)) H) intIF := by
  intro M H vs ws mb dom g p Qa h Q k
  obtain ⟨n, rfl, q⟩ := h
  cases p with
  | cons rxz rest =>
    cases rest
    obtain rfl := repInt rxz
    exact .inl ⟨n, rfl, k _ (.d (.int n)) H (Frm.refl _ _) g (Dq.int _) q⟩
def strIF (ws : List W) (Q : W → Prop) : Prop := ∃ n : Int, ws = [.d (.int n)] ∧ n.natAbs.log2 < 1920 ∧ Q (.d (.str (toString n)))
theorem rc_strI : RC K b (fun xs H Q => ∃ i, xs = [.int i] ∧ i.natAbs.log2 < 1920 ∧ Q (.str (toString i)) H) strIF := by
  intro M H vs ws mb dom g p Qa h Q k
  obtain ⟨n, rfl, hnz, q⟩ := h
  cases p with
  | cons rxz rest =>
    cases rest
    obtain rfl := repInt rxz
    exact ⟨n, rfl, hnz, k _ (.d (.str _)) H (Frm.refl _ _) g (Dq.str _) q⟩
theorem ints_rep {H : Hp} : ∀ {ns : List Int} {us : List V}, DqAll K H us (ns.map PyData.int) → us = ns.map V.int
  | [], _, h => by
    cases h
    rfl
  | n :: ns, _, h => by
    cases h with
    | cons h1 h2 =>
      cases h1
      rw [ints_rep h2]
      rfl
def sumF (ws : List W) (Q : W → Prop) : Prop := ∃ (w : W) (ns : List Int), ws = [w] ∧ w.lst = some (ns.map PyData.int) ∧ Q (.d (.int ns.sum))
theorem rc_sum : RC K b (rSum K) sumF := by
  intro M H vs ws mb dom g p Qa h Q k
  obtain ⟨w, ns, rfl, e, q⟩ := h
  cases p with
  | cons rxz rest =>
    cases rest
    obtain ⟨a, us, rfl, hsv0, dp⟩ := rxz.lst e
    obtain rfl := ints_rep dp
    exact ⟨a, ns, rfl, hsv0, k _ (.d (.int _)) H (Frm.refl _ _) g (Dq.int _) q⟩
/-! ### len(d) -/
def rLenD : List V → Hp → VK → Prop := fun xs H Q => ∃ a kvs, xs = [V.ref a] ∧ Rd H a (.dK kvs) ∧ Q (.int (kvs.length : Nat)) H
theorem call_lenRd {X : Cx} : CallR X (.builtin "len") rLenD := by
  intro pins s σ H xs us Q I r h
  obtain ⟨a, kvs, rfl, hr, q⟩ := h
  obtain ⟨u, rfl, ru⟩ := vals1 r
  cases ru
  exact d_len I hr fun t s' J => ⟨.int (kvs.length : Nat), H, J, ⟨t, rfl⟩, q⟩
theorem kv_len {H : Hp} : ∀ {kvs : List (Key × V)} {kds : List (PD × PD)}, DqKv K H kvs kds → kvs.length = kds.length
  | _, _, .nil => rfl
  | _, _, .cons _ h2 => congrArg (· + 1) (kv_len h2)
def lenDF (ws : List W) (Q : W → Prop) : Prop := ∃ kds, ws = [.d (.dict kds)] ∧ noErr kds ∧ Q (.d (.int (kds.length : Nat)))
theorem rc_lenD : RC K b rLenD lenDF := by
  intro M H vs ws mb dom g p Qa h Q k
  obtain ⟨kds, rfl, ne, q⟩ := h
  cases p with
  | cons rxz rest =>
    cases rest
    obtain ⟨a, kvs, rfl, hr, hk⟩ := dict_rep ne rxz
    refine ⟨a, kvs, rfl, rd_fz hr, ?_⟩
    rw [kv_len hk]
    exact k _ (.d (.int _)) H (Frm.refl _ _) g (Dq.int _) q
/-! ### dict(enumerate(t)) -/
def numD (n : Nat) : List PD → List (PD × PD)
  | [] => []
  | d :: ds => (.int (n : Nat), d) :: numD (n + 1) ds
theorem numK_go {H : Hp} : ∀ {xs : List V} {ds : List PD} (n : Nat), DqAll K H xs ds → DqKv K H (xs.mapIdx fun i x => ((.inl ((i + n : Nat) : Int) : Key), x)) (numD n ds)
  | _, _, _, .nil => .nil
  | _, _, n, .cons (v := v) (vs := vs) h1 h2 => by
    rw [List.mapIdx_cons]
    have e : (fun i x => ((.inl ((i + 1 + n : Nat) : Int) : Key), x)) = (fun (i : Nat) (x : V) => ((.inl ((i + (n + 1) : Nat) : Int) : Key), x)) := by
      funext i x
      rw [show i + 1 + n = i + (n + 1) by omega]
    rw [e]
    have e0 : ((0 + n : Nat) : Int) = (n : Int) := by omega
    rw [e0]
    exact .cons (k := .inl (n : Int)) h1 (numK_go (n + 1) h2)
theorem numK_nodup (xs : List V) : ((numK xs).map Prod.fst).Nodup := by
  have e : (numK xs).map Prod.fst = (List.range xs.length).map fun (i : Nat) => (Sum.inl (i : Int) : Key) := by
    unfold numK
    apply List.ext_getElem?
    intro i
    rw [List.getElem?_map, List.getElem?_mapIdx, List.getElem?_map]
    by_cases h : i < xs.length
    · rw [List.getElem?_eq_getElem h, List.getElem?_range h]
      rfl
    · rw [List.getElem?_eq_none (by omega), List.getElem?_eq_none (by rw [List.length_range]; omega)]
      rfl
  rw [e]
  refine nodup_map_inj (fun x y z => ?_) List.nodup_range
  have z : (x : Int) = (y : Int) := Sum.inl.inj z
  omega
def dictEnW (me : Wm) : Wm := fun env Q => me env fun w => ∃ ds, w.tup = some ds ∧ Q (.d (.dict (numD 0 ds)))
theorem snd_dictEn (h : Snd K b te me) : Snd K b (tDictEnumT K (tCons te tNil)) (dictEnW me) := by
  intro M0 H0 O σ H env r Qa hmz Q k
  refine h M0 H0 O σ H env r _ hmz _ ?_
  rintro v w H' f g rp ⟨ds, e, q⟩
  obtain ⟨a, vs, rfl, hsv0, dp, _⟩ := rp.tup e
  refine ⟨a, vs, rfl, hsv0, fun p hpz => ?_⟩
  have em : mergeK [] (numK vs) = numK vs := merge_new (acc := []) (numK_nodup vs)
  rw [em]
  have np : ¬ MO M0 O p := fun z => (r.after f g).domO p z hpz
  refine k _ (.d (.dict _)) _ (f.trans (Frm.new hpz)) (g.new hpz) (Dq.dict (.inl (fz_iff.mpr ⟨np, upd_same⟩)) (dpKv_mono (fz_new hpz) _ _ ?_)) q
  exact numK_go 0 dp
/-! ### zip of a list and a tuple -/
def itZLW (ma mb : Wm) : Wi := fun env Q => ma env fun x => mb env fun y => ∃ ds es, x = .d (.list ds) ∧ y = .d (.tuple es) ∧ Q ((ds.zip es).map fun p => WI.p p.1 p.2)
theorem si_zipL (haz : Snd K b ta ma) (hb : Snd K b tbz mb) : SndI K b (iZipLT K (tCons ta (tCons tbz tNil))) (itZLW ma mb) := by
  intro M0 H0 O σ H env r Qa hmz R k
  refine haz M0 H0 O σ H env r _ hmz _ ?_
  intro v w H1 f1 g1 rp1 hm1
  refine hb M0 H0 O σ H1 env (r.after f1 g1) _ hm1 _ ?_
  rintro u w' H2 f2 g2 rp2 ⟨ds, es, rfl, rfl, q⟩
  have rp1 : Dq K (Fz (MO M0 O) H2) v (.list ds) := rp1.frm f2 r.mbO
  have rp2 : Dq K (Fz (MO M0 O) H2) u (.tuple es) := rp2
  cases rp1 with
  | lst hs1 dp1 =>
    cases rp2 with
    | tup hs2 dp2 =>
      rename_i a1 vs1 a2 vs2
      refine ⟨a1, a2, vs1, vs2, rfl, sqL_sub hs1, (hs2.mono fz_sub).sq, k _ _ H2 (f1.trans f2) g2 ⟨_, _, walk_zipLT (xs := vs1) (ys := vs2) (n := ((ds.zip es).map fun p => WI.p p.1 p.2).length) (by rw [List.length_map, List.length_zip, dpAll_len dp1, dpAll_len dp2]), ?_⟩ q⟩
      intro M' H' s dom
      refine ⟨⟨sqL_sub (hs1.mono s), ((hs2.mono s).mono fz_sub).sq⟩, ?_⟩
      rintro i x Hx hi ⟨T, x1, x2, rfl, nT, rfl, ez1, ez2⟩
      obtain ⟨d, hdz, dx⟩ := dpAll_get dp1 ez1
      obtain ⟨e, hez, ex⟩ := dpAll_get dp2 ez2
      refine ⟨.p d e, ?_, fun a o z => by rw [upd_ne (ne_of_none z nT)]; exact z, ?_, nt_upd (by intro _ z; cases z)⟩
      · have hpz : (ds.zip es)[i]? = some (d, e) := List.getElem?_zip_eq_some.mpr ⟨hdz, hez⟩
        rw [List.getElem?_map, hpz]
        rfl
      · exact ⟨T, _, _, rfl, SqT.of upd_same, dp_mono (s.trans (fz_new nT)) _ _ dx, dp_mono (s.trans (fz_new nT)) _ _ ex⟩
end
end DD

set_option maxHeartbeats 3999999
/-! an error without arguments, shown -/
namespace GG
open PySem PySem.Spec PyProof.Rows L2 DD
section
open PySem.W PySem.Calls Builtin Builtin.Str Builtin.BaseException Builtin.Exceptions
variable {prog : Program} {w : World} {A : Around} {E : Value → Shared → Prop} {s : Shared} {K : Frag} {x C t1 : Addr} {ox ot : Obj} {od : Option Obj} {vs : Array Value} {n : Nat} {cd : ClassData}
theorem err_ifBound {M : Model} {Q : Option Value → Shared → Prop} (Y : K.In s.heap) (J : InstAt s.heap x ox C od) (hsv0 : findIn K (.ref C) "__repr__" = some (some (.builtin "BaseException.__repr__")))
    (h : wpAny M A (call (.builtin "BaseException.__repr__") [.ref x]) (fun v => Q (some v)) E s) : wpAny M A (callSpecialIfBound? (.ref x) (Str.ofString "__repr__") []) Q E s := by
  simp only [callSpecialIfBound?, bindSpecialIfBound?]
  refine wpAny_holding (wpAny_bind (wpAny_bind (wpAny_bind (J.type.here ((looks_findIn Y hsv0).here ?_)))))
  have stop : wpAny M A (call (.builtin "BaseException.__repr__") ([.ref x] ++ []) >>= fun v => pure (some v)) Q E s := wpAny_bind (wpAny_mono h (fun v s' z => wpAny_pure z) fun _ _ z => z)
  refine wpAny_bind (wpAny_askSetting (wpAny_ite ?_)); split
  · exact wpAny_bind (wpAny_of_eq (F.excStr_ValueError.repr.bind _) (wpAny_pure (by exact stop)))
  · exact wpAny_tryCatch (wpAny_bind (wpAny_of_eq (F.excStr_ValueError.repr.bind _) (wpAny_pure (by exact stop))))
theorem err_body {Q : Fin → Shared → Prop} (Y : K.In s.heap) (J : InstAt s.heap x ox C od) (hdz : ox.data = .fields vs) (h0 : vs[0]? = some (.ref t1)) (ht : s.heap.get? t1 = some ot) (hc : ot.cls = .type "tuple") (htd : ot.data = .seq #[] n)
    (hcd : clsIn K C = some cd) (hgz : A.guards = some []) (hu : A.units + 2 < cLine) (hzz : (errTxt cd).length ≤ sizeLine)
    (hQ : ∀ h' u tk, (∀ b o, s.heap.get? b = some o → h'.get? b = some o) → Q (.done (.ret (.str (errTxt cd) u))) { s with heap := h', toks := tk }) :
    wpAny (model prog w) A (bexcReprAt 0 ⟨[.ref x], []⟩) Q E s := by
  have ez1 : (Str.ofString ((cd.name.toString.cutAt '.').getLastD "")).length + (tupleText []).length ≤ sizeLine := by
    have z := hzz
    unfold errTxt at z
    rwa [strLen_append] at z
  have tn : ∀ {R : String → Shared → Prop}, R cd.name.toString s → wpAny (model prog w) A (typeNameOfWhole (.ref x)) R E s := fun {R} q => by
    unfold typeNameOfWhole shownTypeOf
    refine wpAny_bind (wpAny_bind (J.type.here ?_))
    show wpAny _ _ (if ((Value.ref C) == Value.type "builtin_function_or_method") = true then _ else _) _ _ _
    rw [if_neg (fun z => by cases (beq_iff_eq.mp z))]
    refine wpAny_pure ?_
    show wpAny _ _ (typeNameWhole (.ref C)) _ _ _
    unfold typeNameWhole
    exact wpAny_bind ((looks_clsIn Y hcd).here (wpAny_pure q))
  have ba : ∀ {R : Value × List Value → Shared → Prop}, R (.ref t1, []) s → wpAny (model prog w) A (bexcArgs (.ref x)) R E s := fun {R} q => by
    unfold bexcArgs
    exact wpAny_bind (wpAny_field J.at_ hdz h0 (wpAny_bind (wpAny_seqItems ht htd (wpAny_pure q))))
  unfold bexcReprAt
  refine wpAny_bind (wpAny_of_eq (a := ((Value.ref x : Value), ([] : List Value))) (by first | rfl | (simp only [slotArgs]; rfl)) ?_)
  refine wpAny_bind (tn ?_)
  refine wpAny_bind (ba ?_)
  dsimp only
  refine wpAny_bind ?_
  have rk : ReprK prog w [t1] s.heap 1 (.ref t1) (tupleText []) := ReprK.tuple (d := 0) ht hc htd (List.not_mem_nil) .nil
  refine rk _ (by have z := ez1; omega) A [] E s _ hgz (fun b _ => Clear.nil b) (by omega) (fun _ _ e => e) fun h' tk hk => ?_
  refine wpAny_bind (wpAny_mkStr ?_)
  exact wpAny_pure (hQ h' _ _ hk)
theorem err_repr {Q : Value → Shared → Prop} (Y : K.In s.heap) (J : InstAt s.heap x ox C od) (hdz : ox.data = .fields vs) (h0 : vs[0]? = some (.ref t1)) (ht : s.heap.get? t1 = some ot) (hc : ot.cls = .type "tuple") (htd : ot.data = .seq #[] n)
    (hcd : clsIn K C = some cd) (hsv0 : findIn K (.ref C) "__repr__" = some (some (.builtin "BaseException.__repr__"))) (hb : subIn K (.ref C) (.type "BaseException") = some true) (hgz : A.guards = some []) (hu : A.units + 6 < cLine) (hzz : (errTxt cd).length ≤ sizeLine)
    (hQ : ∀ h' u tk, (∀ b o, s.heap.get? b = some o → h'.get? b = some o) → Q (.str (errTxt cd) u) { s with heap := h', toks := tk }) :
    wpAny (model prog w) A (call (.builtin "repr") [.ref x]) Q E s := by
  refine call_function_entry F.kind_repr F.plain_repr F.entry_repr (F.args_repr1 _) ?_
  unfold Builtin.«repr»
  refine wpAny_bind (m := oneArg "repr" _) (wpAny_pure ?_)
  refine wpAny_bind (m := cRoomFor _ _) (wpAny_cRoomFor (by show A.units + 1 < cLine; omega) ?_)
  refine wpAny_bind ((J.type.andThen (looks_findIn Y hsv0)).here ?_)
  refine wpAny_bind (m := callSpecialIfBound? (.ref x) (Str.ofString "__repr__")) (err_ifBound Y J hsv0 ?_)
  refine wpAny_call (codeAny_call_builtin F.excStr_ValueError.repr.plain F.entry_bexc_repr ?_)
  refine @check_slot (model prog w) _ _ s "BaseException.__repr__" "BaseException" "__repr__" (.ref x) [] [] _ (by decide +kernel) (by decide +kernel) (J.type.andThen (looks_subIn Y hb)) (F.args_bexc_repr (.ref x)) ?_
  show wpAny _ _ (bexcReprAt 0 ⟨[.ref x], []⟩) _ _ _
  refine err_body Y J hdz h0 ht hc htd hcd ?_ ?_ hzz fun h' u tk hk => ?_
  · exact hgz
  · show A.units + 1 + 1 + 2 < cLine
    omega
  · refine wpAny_bind (wpAny_isInstance (T := "str") (b := true) rfl isSubtype_str_str ?_)
    exact wpAny_pure ⟨_, rfl, hQ h' u tk hk⟩
end
end GG

set_option maxHeartbeats 3999999
/-! equality and repr of data with dicts -/
namespace GG
open PySem PySem.Spec PyProof.Rows L2 DD
section
open PySem.W PySem.Calls PySem.SeqAt
variable {prog : Program} {w : World} {A : Around} {E : Value → Shared → Prop} {s : Shared} {l : Addr} {o : Obj}
theorem dict_no_str (Q' : Value → Shared → Prop) (b : Str) (u : Tok) (hoz : s.TypeIs (.ref l) "dict") (hqz : Q' .notImplemented s) : wpAny (model prog w) A (call (.builtin "dict.__eq__") [.ref l, .str b u]) Q' E s := by
  refine wpAny_call_entry PySem.F.slot_dict_eq hoz PySem.F.entry_dict_eq ?_ (PySem.F.args_dict_eq_2 _ _)
  show wpAny _ _ (Builtin.Dict.dictSlotArgs "__eq__" ⟨[.ref l, .str b u], []⟩ >>= _) _ _ s
  refine wpAny_bind ?_; unfold Builtin.Dict.dictSlotArgs
  refine wpAny_bind (wpAny_notOrdered_dict hoz ?_)
  show wpAny _ _ (pure (Value.ref l, Value.str b u)) _ _ s
  refine wpAny_pure (wpAny_bind (wpAny_isInstance (T := "str") (typeIs_str s b u) PySem.F.sub_str_dict ?_))
  simp only [Bool.not_false, if_true]
  repeat wp_step
  exact ⟨_, rfl, hqz⟩
theorem str_no_dict (Q' : Value → Shared → Prop) (b : Str) (u : Tok) (hoz : s.heap.get? l = some o) (hqz : Q' .notImplemented s) (hxz : ∃ es n, o.data = .dict es n) : wpAny (model prog w) A (call (.builtin "str.__eq__") [.str b u, .ref l]) Q' E s := by
  obtain ⟨es, n, hdz⟩ := hxz
  refine wpAny_call_entry PySem.F.slot_str_eq (typeIs_str s b u) PySem.F.entry_str_eq ?_ (PySem.F.args_str_eq_2 _ _)
  obtain ⟨hpz, g, d, tk, os⟩ := s
  unfold Builtin.«str.__eq__»
  repeat (first | wp_step | with_reducible refine wpAny_load hoz ?_ | with_reducible refine AutoSeq1.wpAny_loadPart' hoz ?_)
  rw [hdz]
  repeat wp_step
  exact ⟨_, rfl, hqz⟩
theorem rc_dict_str (b : Str) (u : Tok) (hoz : s.heap.get? l = some o) (hc : o.cls = .type "dict") (hxz : ∃ es n, o.data = .dict es n) (hu : A.units < cLine) (Q : Value → Shared → Prop) (hqz : Q (.bool false) s) : wpAny (model prog w) A (richCompare .Eq (.ref l) (.str b u)) Q E s :=
  rc_eq_decline_or (k := false) ⟨_, hoz, hc⟩ (typeIs_str s b u) (by decide) PySem.F.sub_str_dict PySem.F.slot_dict_eq PySem.F.slot_str_eq_refl
    (fun _ h => dict_no_str _ b u ⟨_, hoz, hc⟩ h) (fun _ h => str_no_dict _ b u hoz h hxz) (fun _ h => wpAny_of_eq (rfl : isSame (.ref l) (.str b u) = pure false) h) (.inr hu) hqz
theorem rc_str_dict (b : Str) (u : Tok) (hoz : s.heap.get? l = some o) (hc : o.cls = .type "dict") (hxz : ∃ es n, o.data = .dict es n) (hu : A.units < cLine) (Q : Value → Shared → Prop) (hqz : Q (.bool false) s) : wpAny (model prog w) A (richCompare .Eq (.str b u) (.ref l)) Q E s :=
  rc_eq_decline_or (k := false) (typeIs_str s b u) ⟨_, hoz, hc⟩ (by decide) PySem.F.sub_dict_str PySem.F.slot_str_eq PySem.F.slot_dict_eq_refl
    (fun _ h => str_no_dict _ b u hoz h hxz) (fun _ h => dict_no_str _ b u ⟨_, hoz, hc⟩ h) (fun _ h => wpAny_of_eq (rfl : isSame (.str b u) (.ref l) = pure false) h) (.inr hu) hqz
theorem at_str_dict (b : Str) (u : Tok) (hoz : s.heap.get? l = some o) (hc : o.cls = .type "dict") (hxz : ∃ es n, o.data = .dict es n) (hu : A.units < cLine) : EqAt A s (.str b u) (.ref l) false := fun prog w E Q h => by
  unfold eqBool
  exact wpAny_holding (wpAny_ite_split (fun z => absurd (eq_of_beq z) nofun) fun _ => wpAny_bind (rc_str_dict b u hoz hc hxz hu _ (wpAny_truthy_bool h)))
end
/-! data without errors -/
mutual
def okD : PyData → Bool
  | .list ds => okDs ds
  | .tuple ds => okDs ds
  | .dict kvs => okKv kvs
  | _ => true
def okDs : List PyData → Bool
  | [] => true
  | d :: ds => okD d && okDs ds
def okKv : List (PyData × PyData) → Bool
  | [] => true
  | (k, d) :: kvs => (match k with | .int _ => true | .str _ => true | _ => false) && okD d && okKv kvs
end
/-! what is read of a heap, no dict of it the modules' -/
mutual
inductive Rs (h : Heap) : Value → PyData → Prop
  | non : Rs h .none .none
  | bl (b : Bool) : Rs h (.bool b) (.bool b)
  | int (i : Int) (t : Tok) : Rs h (.int i t) (.int i)
  | str (x : Str) (t : Tok) : Rs h (.str x t) (.str x)
  | lst {a : Addr} {o : Obj} {vs : Array Value} {n : Nat} {xs : List PyData} : h.get? a = some o → o.cls = .type "list" → o.data = .seq vs n → Rss h vs.toList xs → Rs h (.ref a) (.list xs)
  | tup {a : Addr} {o : Obj} {vs : Array Value} {n : Nat} {xs : List PyData} : h.get? a = some o → o.cls = .type "tuple" → o.data = .seq vs n → Rss h vs.toList xs → Rs h (.ref a) (.tuple xs)
  | dict {a : Addr} {o : Obj} {es : Array DictEntry} {n : Nat} {kvs : List (PyData × PyData)} : (a == sysModules) = false → h.get? a = some o → o.cls = .type "dict" → o.data = .dict es n → Rss h (es.toList.map (·.key)) (kvs.map (·.1)) → Rss h (es.toList.map (·.val)) (kvs.map (·.2)) → Rs h (.ref a) (.dict kvs)
inductive Rss (h : Heap) : List Value → List PyData → Prop
  | nil : Rss h [] []
  | cons {v : Value} {vs : List Value} {d : PyData} {ds : List PyData} : Rs h v d → Rss h vs ds → Rss h (v :: vs) (d :: ds)
end
section
open PySem.W PySem.SeqAt
variable {X : Cx} {pins : List (Addr × Obj)} {σ : L2.St} {H : Hp} {s : Shared}
theorem pairs_keys {prog : Program} {w : World} {h : Heap} : ∀ {es : List DictEntry} {vs : List (Key × Value)}, Pairs (mixKind prog w) es vs → Rss h (es.map (·.key)) (vs.map fun p => keyD p.1)
  | _, _, .nil => .nil
  | _, _, .cons (e := e) (kv := kv) h1 h2 h3 => by
    have r := pairs_keys (h := h) h3
    have k1 : Rs h e.key (keyD kv.1) := by
      rcases keyIs_shape h1 with ⟨i, t, ez1, ez2⟩ | ⟨z, t, ez1, ez2⟩
      · rw [ez1, ez2]; exact .int i t
      · rw [ez1, ez2]; exact .str z t
    exact .cons k1 r
theorem pairs_vals {prog : Program} {w : World} : ∀ {es : List DictEntry} {vs : List (Key × Value)}, Pairs (mixKind prog w) es vs → es.map (·.val) = vs.map (·.2)
  | _, _, .nil => rfl
  | _, _, .cons h1 h2 h3 => by rw [List.map_cons, List.map_cons, h2, pairs_vals h3]
theorem kv_keys {K : PySem.W.Frag} : ∀ {kvs : List (Key × V)} {ds : List (PyData × PyData)}, DqKv K H kvs ds → ds.map (·.1) = kvs.map fun p => keyD p.1
  | _, _, .nil => rfl
  | _, _, .cons h1 h2 => by rw [List.map_cons, List.map_cons, kv_keys h2]
end
mutual
theorem Rs.reads {h : Heap} : ∀ {v : Value} {d : PyData}, Rs h v d → ∃ as, Reads h v d as
  | _, _, .non => ⟨_, .none⟩
  | _, _, .bl b => ⟨_, .bool b⟩
  | _, _, .int i t => ⟨_, .int i t⟩
  | _, _, .str x t => ⟨_, .str x t⟩
  | _, _, .lst g1 g2 g3 g4 => let ⟨_, q⟩ := g4.reads; ⟨_, .list g1 g2 g3 q⟩
  | _, _, .tup g1 g2 g3 g4 => let ⟨_, q⟩ := g4.reads; ⟨_, .tuple g1 g2 g3 q⟩
  | _, _, .dict _ g1 g2 g3 g4 g5 => let ⟨_, q⟩ := g4.reads; let ⟨_, q'⟩ := g5.reads; ⟨_, .dict g1 g2 g3 q q'⟩
theorem Rss.reads {h : Heap} : ∀ {vs : List Value} {ds : List PyData}, Rss h vs ds → ∃ as, ReadsAll h vs ds as
  | _, _, .nil => ⟨_, .nil⟩
  | _, _, .cons r rs => let ⟨_, q⟩ := r.reads; let ⟨_, q'⟩ := rs.reads; ⟨_, .cons q q'⟩
end
section
variable {prog : Program} {w : World} {h : Heap}
theorem kv_le1 {kvs : List (PyData × PyData)} (sz : (PyData.dict kvs).shown.length ≤ sizeLine) : ∀ t ∈ PyData.shownAll (kvs.map (·.1)), t.length ≤ sizeLine := fun t z => by
  have sz2 : (dictText (PyData.shownKv kvs)).length ≤ sizeLine := by simpa only [PyData.shown] using sz
  obtain ⟨p, z1, z2⟩ := PyData.shownKv_key_le kvs t z
  exact Nat.le_trans z2 (Nat.le_trans (dictText_mem_le z1) sz2)
theorem kv_le2 {kvs : List (PyData × PyData)} (sz : (PyData.dict kvs).shown.length ≤ sizeLine) : ∀ t ∈ PyData.shownAll (kvs.map (·.2)), t.length ≤ sizeLine := fun t z => by
  have sz2 : (dictText (PyData.shownKv kvs)).length ≤ sizeLine := by simpa only [PyData.shown] using sz
  obtain ⟨p, z1, z2⟩ := PyData.shownKv_val_le kvs t z
  exact Nat.le_trans z2 (Nat.le_trans (dictText_mem_le z1) sz2)
theorem rk_ents {a : Addr} {o : Obj} {es : Array DictEntry} {n : Nat} {kvs : List (PyData × PyData)} (g1 : h.get? a = some o) (g2 : o.cls = .type "dict") (g3 : o.data = .dict es n) (g4 : Rss h (es.toList.map (·.key)) (kvs.map (·.1))) (g5 : Rss h (es.toList.map (·.val)) (kvs.map (·.2)))
    (x1 : ∃ bs, ReadAtMost h (PyData.depthAll (kvs.map (·.1))) bs ∧ ReprAllK prog w bs h (PyData.depthAll (kvs.map (·.1))) (es.toList.map (·.key)) (PyData.shownAll (kvs.map (·.1))))
    (x2 : ∃ bs, ReadAtMost h (PyData.depthAll (kvs.map (·.2))) bs ∧ ReprAllK prog w bs h (PyData.depthAll (kvs.map (·.2))) (es.toList.map (·.val)) (PyData.shownAll (kvs.map (·.2)))) :
    ∃ bs, ReadAtMost h (PyData.depthKv kvs) bs ∧ a ∉ bs ∧ ReprEntriesK prog w bs h (PyData.depthKv kvs) es.toList (List.zipWith (fun k v : Str => k ++ ": " ++ v) (PyData.shownAll (kvs.map (·.1))) (PyData.shownAll (kvs.map (·.2)))) := by
  obtain ⟨b1, am1, k1⟩ := x1
  obtain ⟨b2, am2, k2⟩ := x2
  obtain ⟨as, q⟩ := g4.reads
  obtain ⟨as', q'⟩ := g5.reads
  have rr : Reads h (.ref a) (.dict kvs) _ := .dict g1 g2 g3 q q'
  have am : ReadAtMost h (PyData.depthKv kvs) (b1 ++ b2) := (am1.mono (PyData.depthAll_keys_le kvs)).append (am2.mono (PyData.depthAll_vals_le kvs))
  exact ⟨b1 ++ b2, am, not_mem_of_deeper rr (by simp only [PyData.depth]; omega) am, ReprEntriesK.of_two es.toList _ _
    (k1.more_le (fun b z => List.mem_append_left _ z) (PyData.depthAll_keys_le kvs)) (k2.more_le (fun b z => List.mem_append_right _ z) (PyData.depthAll_vals_le kvs))⟩
mutual
theorem Rs.rk : ∀ {v : Value} {d : PyData}, Rs h v d → d.showable = true → d.shown.length ≤ sizeLine → ∃ bs, ReadAtMost h d.depth bs ∧ ReprK prog w bs h d.depth v d.shown
  | _, _, .non, _, _ => ⟨[], (fun _ z => nomatch z), by simp only [PyData.shown]; exact .of_is ReprIs.none _ _ _⟩
  | _, _, .bl b, _, _ => ⟨[], (fun _ z => nomatch z), by simp only [PyData.shown]; exact .of_is (ReprIs.bool b) _ _ _⟩
  | _, _, .int i t, sh, _ => ⟨[], (fun _ z => nomatch z), by simp only [PyData.shown]; exact .of_is (ReprIs.int t (by simpa [PyData.showable] using sh)) _ _ _⟩
  | _, _, .str x t, _, sz => ⟨[], (fun _ z => nomatch z), by simp only [PyData.shown]; exact .of_is (ReprIs.str x t (by simpa only [PyData.shown] using sz)) _ _ _⟩
  | _, _, .lst (a := a) (vs := vs) (xs := xs) g1 g2 g3 g4, sh, sz => by
    have sz2 : (listText (PyData.shownAll xs)).length ≤ sizeLine := by simpa only [PyData.shown] using sz
    obtain ⟨bs, am, rk⟩ := g4.rk (by simpa [PyData.showable] using sh) (fun t z => Nat.le_trans (listText_mem_le z) sz2)
    obtain ⟨as, q⟩ := g4.reads
    have rr : Reads h (.ref a) (.list xs) _ := .list g1 g2 g3 q
    have na : a ∉ bs := not_mem_of_deeper rr (by simp only [PyData.depth]; omega) am
    refine ⟨a :: bs, ReadAtMost.cons rr (by simp only [PyData.depth]; omega) am, ?_⟩
    simp only [PyData.depth, PyData.shown]
    obtain ⟨l⟩ := vs
    cases l with
    | nil =>
      have g5 : Rss h [] xs := g4
      cases g5
      simp only [PyData.shownAll, listText_nil]; exact ReprK.listEmpty g1 g2 g3
    | cons x l => exact ReprK.list g1 g2 g3 na (by simpa using rk.length_eq) (fun i y e => rk.item i y (by simpa using e))
  | _, _, .tup (a := a) (xs := xs) g1 g2 g3 g4, sh, sz => by
    have sz2 : (tupleText (PyData.shownAll xs)).length ≤ sizeLine := by simpa only [PyData.shown] using sz
    obtain ⟨bs, am, rk⟩ := g4.rk (by simpa [PyData.showable] using sh) (fun t z => Nat.le_trans (tupleText_mem_le z) sz2)
    obtain ⟨as, q⟩ := g4.reads
    have rr : Reads h (.ref a) (.tuple xs) _ := .tuple g1 g2 g3 q
    have na : a ∉ bs := not_mem_of_deeper rr (by simp only [PyData.depth]; omega) am
    refine ⟨a :: bs, ReadAtMost.cons rr (by simp only [PyData.depth]; omega) am, ?_⟩
    simp only [PyData.depth, PyData.shown]; exact ReprK.tuple g1 g2 g3 na rk
  | _, _, .dict (a := a) (es := es) (kvs := kvs) g0 g1 g2 g3 g4 g5, sh, sz => by
    obtain ⟨sh1, sh2⟩ := PyData.showableKv_split kvs (by simpa [PyData.showable] using sh)
    obtain ⟨b, am, na, rk⟩ := rk_ents g1 g2 g3 g4 g5 (g4.rk sh1 (kv_le1 sz)) (g5.rk sh2 (kv_le2 sz))
    obtain ⟨as, q⟩ := g4.reads
    obtain ⟨as', q'⟩ := g5.reads
    have rr : Reads h (.ref a) (.dict kvs) _ := .dict g1 g2 g3 q q'
    refine ⟨a :: b, ReadAtMost.cons rr (by simp only [PyData.depth]; omega) am, ?_⟩
    simp only [PyData.depth, PyData.shown, PyData.shownKv_eq]; exact ReprK.dict g1 g2 g3 g0 na rk
theorem Rss.rk : ∀ {vs : List Value} {ds : List PyData}, Rss h vs ds → PyData.showableAll ds = true → (∀ t ∈ PyData.shownAll ds, t.length ≤ sizeLine) → ∃ bs, ReadAtMost h (PyData.depthAll ds) bs ∧ ReprAllK prog w bs h (PyData.depthAll ds) vs (PyData.shownAll ds)
  | _, _, .nil, _, _ => ⟨[], (fun _ z => nomatch z), by simp only [PyData.shownAll]; exact .nil⟩
  | _, _, .cons (d := d) (ds := ds) r rs, sh, sz => by
    have sh2 : d.showable = true ∧ PyData.showableAll ds = true := by simpa [PyData.showableAll] using sh
    obtain ⟨b1, am1, k1⟩ := r.rk sh2.1 (sz _ (by simp only [PyData.shownAll]; exact List.mem_cons_self ..))
    obtain ⟨b2, am2, k2⟩ := rs.rk sh2.2 (fun t z => sz t (by simp only [PyData.shownAll]; exact List.mem_cons_of_mem _ z))
    refine ⟨b1 ++ b2, ?_, ?_⟩
    · simp only [PyData.depthAll]
      exact (am1.mono (Nat.le_max_left _ _)).append (am2.mono (Nat.le_max_right _ _))
    · simp only [PyData.depthAll, PyData.shownAll]; exact .cons ((k1.more fun b z => List.mem_append_left _ z).level_le (Nat.le_max_left _ _)) (k2.more_le (fun b z => List.mem_append_right _ z) (Nat.le_max_right _ _))
end
variable {A : Around} {E : Value → Shared → Prop} {s : Shared} {a : Addr} {d : PyData}
theorem rs_repr {Q : Value → Shared → Prop} (r : Rs s.heap (.ref a) d) (sh : d.showable = true) (sz : d.shown.length ≤ sizeLine) (hgz : A.guards = some []) (hu : A.units + (d.depth + 1) < cLine)
    (hQ : ∀ h' u tk, (∀ b o, s.heap.get? b = some o → h'.get? b = some o) → Q (.str d.shown u) { s with heap := h', toks := tk }) : wpAny (model prog w) A (call (.builtin "repr") [.ref a]) Q E s := by
  have kk : ∀ b o, s.heap.get? b = some o → s.heap.get? b = some o := fun _ _ e => e
  cases r with
  | @lst _ o vs n xs g1 g2 g3 g4 =>
    have sz2 : (listText (PyData.shownAll xs)).length ≤ sizeLine := by simpa only [PyData.shown] using sz
    obtain ⟨bs, am, rk⟩ := g4.rk (prog := prog) (w := w) (by simpa [PyData.showable] using sh) (fun t z => Nat.le_trans (listText_mem_le z) sz2)
    obtain ⟨as, q⟩ := g4.reads
    have na : a ∉ bs := not_mem_of_deeper (.list g1 g2 g3 q) (by simp only [PyData.depth]; omega) am
    simp only [PyData.depth] at hu
    simp only [PyData.shown] at hQ
    refine call_repr_slot (by omega) ⟨o, g1, g2⟩ F.slot_list_repr.toG ?_
    obtain ⟨l⟩ := vs
    cases l with
    | nil =>
      have g5 : Rss s.heap [] xs := g4
      cases g5
      simp only [PyData.shownAll, listText_nil] at hQ
      exact call_list_repr_empty ⟨o, g1, g2⟩ g1 g3 ⟨_, _, rfl, hQ s.heap _ _ kk⟩
    | cons x l => exact call_list_reprK g1 g2 g3 na (by simpa using rk.length_eq) (fun i y e => rk.item i y (by simpa using e)) hgz (fun b _ => Clear.nil b) (by show A.units + 1 + _ < cLine; omega) kk (fun h' u tk z => ⟨_, _, rfl, hQ h' u tk z⟩) sz2
  | @tup _ o vs n xs g1 g2 g3 g4 =>
    have sz2 : (tupleText (PyData.shownAll xs)).length ≤ sizeLine := by simpa only [PyData.shown] using sz
    obtain ⟨bs, am, rk⟩ := g4.rk (prog := prog) (w := w) (by simpa [PyData.showable] using sh) (fun t z => Nat.le_trans (tupleText_mem_le z) sz2)
    obtain ⟨as, q⟩ := g4.reads
    have na : a ∉ bs := not_mem_of_deeper (.tuple g1 g2 g3 q) (by simp only [PyData.depth]; omega) am
    simp only [PyData.depth] at hu
    simp only [PyData.shown] at hQ
    refine call_repr_slot (by omega) ⟨o, g1, g2⟩ F.slot_tuple_repr ?_
    exact call_tuple_reprK g1 g2 g3 na rk hgz (fun b _ => Clear.nil b) (by show A.units + 1 + _ < cLine; omega) kk (fun h' u tk z => ⟨_, _, rfl, hQ h' u tk z⟩) sz2
  | @dict _ o es n kvs g0 g1 g2 g3 g4 g5 =>
    have sz2 : (dictText (PyData.shownKv kvs)).length ≤ sizeLine := by simpa only [PyData.shown] using sz
    obtain ⟨sh1, sh2⟩ := PyData.showableKv_split kvs (by simpa [PyData.showable] using sh)
    obtain ⟨b, am, na, rk⟩ := rk_ents g1 g2 g3 g4 g5 (g4.rk (prog := prog) (w := w) sh1 (kv_le1 sz)) (g5.rk (prog := prog) (w := w) sh2 (kv_le2 sz))
    simp only [PyData.depth] at hu
    simp only [PyData.shown, PyData.shownKv_eq] at hQ
    refine call_repr_slot (by omega) ⟨o, g1, g2⟩ F.slot_dict_repr ?_
    exact call_dict_reprK g1 g2 g3 g0 na rk hgz (fun b _ => Clear.nil b) (by show A.units + 1 + _ < cLine; omega) kk (fun h' u tk z => ⟨_, _, rfl, hQ h' u tk z⟩) (by rw [← PyData.shownKv_eq]; exact sz2)
end
section
variable {X : Cx} {pins : List (Addr × Obj)} {σ : L2.St} {H : Hp} {s : Shared}
mutual
theorem dq_rs (I : Inv X pins σ H s) : ∀ (d : PyData) (v : V) (u : Value), Dq X.K H v d → okD d = true → RelV v u → Rs s.heap u d
  | .none, _, _, h, _, r => by
    cases h
    cases r
    exact .non
  | .bool b, _, _, h, _, r => by
    cases h
    cases r
    exact .bl b
  | .int i, _, _, h, _, r => by
    cases h
    obtain ⟨t, rfl⟩ := r
    exact .int i t
  | .str x, _, _, h, _, r => by
    cases h
    obtain ⟨t, rfl⟩ := r
    exact .str x t
  | .list ds, _, _, h, o, r => by
    cases h with
    | lst hsv0 haz =>
      cases r
      obtain ⟨itz, rvz, ⟨ob, n, hoz, hc, _, hdz⟩, _⟩ := I.list (hsv0.sq (K := X.K))
      exact .lst hoz hc hdz (dqs_rs I ds _ itz haz (by simpa only [okD] using o) rvz)
  | .tuple ds, _, _, h, o, r => by
    cases h with
    | tup hsv0 haz =>
      cases r
      obtain ⟨itz, rvz, ⟨ob, hoz, hc, n, hdz⟩, _⟩ := I.tuple hsv0.sq
      exact .tup hoz hc hdz (dqs_rs I ds _ itz haz (by simpa only [okD] using o) rvz)
  | .dict kds, _, _, h, o, r => by
    cases h with
    | dict hr hk =>
      cases r
      obtain ⟨hzz, hnz, vs, kv, ob, es, ep, hoz, hxz, hdz, _, hpz, _⟩ := dk_rd I.hok hr
      have ez1 := kv_keys hk
      have ez2 : (vs.map fun p => keyD p.1) = kds.map (·.1) := by
        rw [ez1]
        have e3 := congrArg (List.map keyD) kv.keys
        rw [List.map_map, List.map_map] at e3
        exact e3.symm
      have k1 := pairs_keys (h := s.heap) hpz
      rw [ez2] at k1
      exact .dict hnz hoz hxz.1 hdz k1 (by rw [pairs_vals hpz]; exact dqkv_rs I kds _ _ hk (by simpa only [okD] using o) kv)
    | err _ _ _ e =>
      subst e
      simp [okD, okKv, errP] at o
    | errF _ _ e =>
      subst e
      simp [okD, okKv, errQ, opqD] at o
    | errA _ _ _ _ e =>
      subst e
      simp [okD, okKv, errQ, opqD] at o
    | opq e =>
      subst e
      simp [okD, okKv, errQ, opqD] at o
theorem dqs_rs (I : Inv X pins σ H s) : ∀ (ds : List PyData) (vs : List V) (us : List Value), DqAll X.K H vs ds → okDs ds = true → Vals vs us → Rss s.heap us ds
  | [], _, _, h, _, r => by
    cases h
    cases r
    exact .nil
  | d :: ds, _, _, h, o, r => by
    simp only [okDs, Bool.and_eq_true] at o
    cases h with
    | cons h1 h2 =>
      cases r with
      | cons r1 r2 => exact .cons (dq_rs I d _ _ h1 o.1 r1) (dqs_rs I ds _ _ h2 o.2 r2)
theorem dqkv_rs (I : Inv X pins σ H s) : ∀ (ds : List (PyData × PyData)) (kvs : List (Key × V)) (vs : List (Key × Value)), DqKv X.K H kvs ds → okKv ds = true → KV kvs vs → Rss s.heap (vs.map (·.2)) (ds.map (·.2))
  | [], _, _, h, _, r => by
    cases h
    cases r
    exact .nil
  | (k, d) :: ds, _, _, h, o, r => by
    simp only [okKv, Bool.and_eq_true] at o
    cases h with
    | cons h1 h2 =>
      cases r with
      | cons r1 r2 => exact .cons (dq_rs I d _ _ h1 o.1.2 r1.2) (dqkv_rs I ds _ _ h2 o.2 r2)
end
end
end GG

set_option maxHeartbeats 3999999
/-! equality of data with dicts, as rules -/
namespace GG
open PySem PySem.Spec PyProof.Rows L2 DD
theorem at_of_nodup {κ : Type} [DecidableEq κ] : ∀ {kb : List (κ × Value)} {j : Nat} {k : κ} {y : Value}, (kb.map (·.1)).Nodup → kb[j]? = some (k, y) → valueAt kb k = some y
  | [], _, _, _, _, h => by simp at h
  | (k', y') :: kb, 0, k, y, _, h => by
    obtain ⟨rfl, rfl⟩ := Prod.mk.inj (Option.some.inj h)
    simp [valueAt]
  | (k', y') :: kb, j + 1, k, y, n, h => by
    rw [List.map_cons, List.nodup_cons] at n
    have ih := at_of_nodup (j := j) n.2 h
    have m : k ∈ kb.map (·.1) := List.mem_map.mpr ⟨(k, y), List.mem_of_getElem? h, rfl⟩
    have ne : ¬ k' = k := fun e => n.1 (e ▸ m)
    unfold valueAt at ih ⊢
    rw [List.find?_cons_of_neg (by simpa using ne)]
    exact ih
theorem all_tt (n : Nat) : ((List.range n).all fun _ => true) = true := by
  rw [List.all_eq_true]
  intro _ _
  rfl
theorem keyD_inj {a b : Key} (h : keyD a = keyD b) : a = b := by
  cases a <;> cases b <;> simp_all [keyD]
section
open PySem.W PySem.SeqAt
variable {X : Cx} {pins : List (Addr × Obj)} {σ : L2.St} {H : Hp} {s : Shared}
mutual
theorem dq_same (I : Inv X pins σ H s) : ∀ (d : PyData) (v y : V) (u u' : Value) (n : Nat), Dq X.K H v d → Dq X.K H y d → okD d = true → d.depth ≤ n → RelV v u → RelV y u' → EqTree X.prog X.w s n u u' true
  | .none, _, _, _, _, _, h, g, _, _, r, r' => by
    cases h; cases g; cases r; cases r'
    exact .same
  | .bool b, _, _, _, _, _, h, g, _, _, r, r' => by
    cases h; cases g; cases r; cases r'
    exact .same
  | .int i, _, _, _, _, _, h, g, _, _, r, r' => by
    cases h; cases g
    obtain ⟨t, rfl⟩ := r
    obtain ⟨t', rfl⟩ := r'
    refine .leaf fun A hu => ?_
    have z := keq_flat (A := A) (s := s) (v := .int i t) (y := .int i t') (fun _ => .int i t) (fun _ => .int i t')
    simpa [PyData.eqv] using z
  | .str x, _, _, _, _, _, h, g, _, _, r, r' => by
    cases h; cases g
    obtain ⟨t, rfl⟩ := r
    obtain ⟨t', rfl⟩ := r'
    refine .leaf fun A hu => ?_
    have z := keq_flat (A := A) (s := s) (v := .str x t) (y := .str x t') (fun _ => .str x t) (fun _ => .str x t')
    simpa [PyData.eqv] using z
  | .list ds, _, _, _, _, n, h, g, o, dp, r, r' => by
    cases h with
    | @lst a _ _ hsv0 haz =>
      cases g with
      | @lst a' _ _ hs' ha' =>
        cases r; cases r'
        obtain ⟨itz, rvz, plz, _⟩ := I.list (hsv0.sq (K := X.K))
        obtain ⟨its', rv', pl', _⟩ := I.list (hs'.sq (K := X.K))
        by_cases e : a = a'
        · subst e
          exact .same
        · simp only [PyData.depth] at dp
          obtain ⟨m, rfl⟩ : ∃ m, n = m + 1 := ⟨n - 1, by omega⟩
          have l1 := (Paired.length rvz).symm.trans (dpAll_len haz)
          have l2 := (Paired.length rv').symm.trans (dpAll_len ha')
          have z := EqTree.lists (prog := X.prog) (w := X.w) (n := m) (e := fun _ => true) e plz.isList pl'.isList (by simp [l1, l2]) (fun j h1 h2 => dqs_same I ds _ _ itz its' m haz ha' (by simpa only [okD] using o) (by omega) rvz rv' j _ _ (by simp) (by simp))
          rw [all_tt] at z
          exact z
  | .tuple ds, _, _, _, _, n, h, g, o, dp, r, r' => by
    cases h with
    | @tup a _ _ hsv0 haz =>
      cases g with
      | @tup a' _ _ hs' ha' =>
        cases r; cases r'
        obtain ⟨itz, rvz, plz, _⟩ := I.tuple hsv0.sq
        obtain ⟨its', rv', pl', _⟩ := I.tuple hs'.sq
        by_cases e : a = a'
        · subst e
          exact .same
        · simp only [PyData.depth] at dp
          obtain ⟨m, rfl⟩ : ∃ m, n = m + 1 := ⟨n - 1, by omega⟩
          have l1 := (Paired.length rvz).symm.trans (dpAll_len haz)
          have l2 := (Paired.length rv').symm.trans (dpAll_len ha')
          have z := EqTree.tuples (prog := X.prog) (w := X.w) (n := m) (e := fun _ => true) e plz pl' (fun j h1 h2 => dqs_same I ds _ _ itz its' m haz ha' (by simpa only [okD] using o) (by omega) rvz rv' j _ _ (by simp) (by simp))
          have ez2 : (itz.toArray.size == its'.toArray.size) = true := by simp [l1, l2]
          rw [all_tt, ez2] at z
          exact z
  | .dict kds, _, _, _, _, n, h, g, o, dp, r, r' => by
    cases h with
    | @dict a kvs _ hr hk =>
      cases g with
      | @dict a' kvs' _ hr' hk' =>
        cases r; cases r'
        obtain ⟨_, hnz, ka, kv, dk⟩ := dk_rd I.hok hr
        obtain ⟨_, hn', kb, kv', dk'⟩ := dk_rd I.hok hr'
        by_cases e : a = a'
        · subst e
          exact .same
        · simp only [PyData.depth] at dp
          obtain ⟨m, rfl⟩ : ∃ m, n = m + 1 := ⟨n - 1, by omega⟩
          have dv := PyData.depthAll_vals_le kds
          obtain ⟨ek, es⟩ := dqkv_same I kds _ _ ka kb m hk hk' (by simpa only [okD] using o) (by omega) kv kv'
          have nd : (kb.map (·.1)).Nodup := by
            obtain ⟨_, _, _, _, _, _, _, _, z⟩ := dk'
            exact z
          have look : ∀ p ∈ ka, ∃ q, valueAt kb p.1 = some q ∧ EqTree X.prog X.w s m p.2 q true := by
            intro p hpz
            obtain ⟨j, hj, ez1⟩ := List.getElem_of_mem hpz
            have hj' : j < kb.length := by
              have := congrArg List.length ek
              simp only [List.length_map] at this
              omega
            have ez2 : kb[j].1 = p.1 := by
              have e3 : (ka.map (·.1))[j]? = (kb.map (·.1))[j]? := by rw [ek]
              rw [List.getElem?_map, List.getElem?_map, List.getElem?_eq_getElem hj, List.getElem?_eq_getElem hj', ez1] at e3
              exact (Option.some.inj e3).symm
            refine ⟨kb[j].2, at_of_nodup (j := j) nd ?_, es j _ _ (by rw [List.getElem?_eq_getElem hj, ez1]) (List.getElem?_eq_getElem hj')⟩
            rw [List.getElem?_eq_getElem hj', ← ez2]
          have z := EqTree.dicts (prog := X.prog) (w := X.w) (n := m) (e := fun _ => true) e hnz hn' dk dk' (fun k v y hmz hv => by
            obtain ⟨q, q1, q2⟩ := look _ hmz
            rw [q1] at hv
            obtain rfl := Option.some.inj hv
            exact q2)
          have fin : (ka.length == kb.length && ka.all fun p => (valueAt kb p.1).isSome && true) = true := by
            rw [Bool.and_eq_true, List.all_eq_true]
            constructor
            · have := congrArg List.length ek
              simpa using this
            · intro p hpz
              obtain ⟨q, q1, _⟩ := look p hpz
              rw [q1]
              rfl
          rw [fin] at z
          exact z
      | err _ _ _ e =>
        subst e
        simp [okD, okKv, errP] at o
      | errF _ _ e =>
        subst e
        simp [okD, okKv, errQ, opqD] at o
      | errA _ _ _ _ e =>
        subst e
        simp [okD, okKv, errQ, opqD] at o
      | opq e =>
        subst e
        simp [okD, okKv, errQ, opqD] at o
    | err _ _ _ e =>
      subst e
      simp [okD, okKv, errP] at o
    | errF _ _ e =>
      subst e
      simp [okD, okKv, errQ, opqD] at o
    | errA _ _ _ _ e =>
      subst e
      simp [okD, okKv, errQ, opqD] at o
    | opq e =>
      subst e
      simp [okD, okKv, errQ, opqD] at o
theorem dqs_same (I : Inv X pins σ H s) : ∀ (ds : List PyData) (vs ys : List V) (us us' : List Value) (n : Nat), DqAll X.K H vs ds → DqAll X.K H ys ds → okDs ds = true → PyData.depthAll ds ≤ n → Vals vs us → Vals ys us' → ∀ (j : Nat) (x y : Value), us[j]? = some x → us'[j]? = some y → EqTree X.prog X.w s n x y true
  | [], _, _, _, _, _, h, g, _, _, r, r', j, x, y, e, e' => by
    cases h; cases r
    simp at e
  | d :: ds, _, _, _, _, n, h, g, o, dp, r, r', j, x, y, e, e' => by
    simp only [okDs, Bool.and_eq_true] at o
    simp only [PyData.depthAll] at dp
    cases h with
    | cons h1 h2 =>
      cases g with
      | cons g1 g2 =>
        cases r with
        | cons r1 r2 =>
          cases r' with
          | cons q1 q2 =>
            cases j with
            | zero =>
              obtain rfl := Option.some.inj e
              obtain rfl := Option.some.inj e'
              exact dq_same I d _ _ _ _ n h1 g1 o.1 (by omega) r1 q1
            | succ j => exact dqs_same I ds _ _ _ _ n h2 g2 o.2 (by omega) r2 q2 j x y (by simpa using e) (by simpa using e')
theorem dqkv_same (I : Inv X pins σ H s) : ∀ (ds : List (PyData × PyData)) (kvs kvs' : List (Key × V)) (ka kb : List (Key × Value)) (n : Nat), DqKv X.K H kvs ds → DqKv X.K H kvs' ds → okKv ds = true → PyData.depthAll (ds.map (·.2)) ≤ n → KV kvs ka → KV kvs' kb →
    ka.map (·.1) = kb.map (·.1) ∧ ∀ (j : Nat) (p q : Key × Value), ka[j]? = some p → kb[j]? = some q → EqTree X.prog X.w s n p.2 q.2 true
  | [], _, _, _, _, _, h, g, _, _, r, r' => by
    cases h; cases g; cases r; cases r'
    exact ⟨rfl, fun j p q e => by simp at e⟩
  | (kd, d) :: ds, _, _, _, _, n, h, g, o, dp, r, r' => by
    simp only [okKv, Bool.and_eq_true] at o
    simp only [List.map_cons, PyData.depthAll] at dp
    generalize hkd : kd = kd' at h g
    cases h with
    | cons h1 h2 =>
      generalize hqz : DD.keyD _ = kq at g
      cases g with
      | cons g1 g2 =>
        have ek := keyD_inj hqz
        cases r with
        | cons r1 r2 =>
          cases r' with
          | cons q1 q2 =>
            obtain ⟨i1, i2⟩ := dqkv_same I ds _ _ _ _ n h2 g2 o.2 (by omega) r2 q2
            refine ⟨by rw [List.map_cons, List.map_cons, i1, ← r1.1, ← q1.1, ek], ?_⟩
            intro j p q e e'
            cases j with
            | zero =>
              obtain rfl := Option.some.inj e
              obtain rfl := Option.some.inj e'
              exact dq_same I d _ _ _ _ n h1 g1 o.1.2 (by omega) r1.2 q1.2
            | succ j => exact i2 j p q (by simpa using e) (by simpa using e')
end
end
end GG

set_option maxHeartbeats 3999999
/-! tuples: whole slices, turned about, empty ones put together, many times -/
namespace GG
open PySem PySem.Spec PyProof.Rows L2 DD
section
open HT
variable {prog : Program} {w : World} {A : Around} {E : Value → Shared → Prop} {s : Shared}
theorem adj_rev (n : Nat) : Builtin.Slice.sliceAdjust none none (-1) (n : Int) = ((n : Int) - 1, -1) := by
  unfold Builtin.Slice.sliceAdjust
  simp
theorem places_rev (n : Nat) : Builtin.Slice.slicePlaces ((n : Int) - 1) (-1) (-1) = n := by
  unfold Builtin.Slice.slicePlaces
  rw [if_neg (by decide)]
  by_cases h : (n : Int) - 1 > -1
  · rw [if_pos h]
    have e : ((n : Int) - 1 - -1 - 1) / (- -1) + 1 = (n : Int) := by
      rw [show (- -1 : Int) = 1 by decide, Int.ediv_one]
      omega
    rw [e]
    omega
  · rw [if_neg h]
    omega
theorem applied_rev {sl : Addr} {vs : Value} {n : Nat} {Q : Int × Int × Nat → Shared → Prop} (hsv0 : s.heap.IsSliceOf sl .none .none vs) (ps : IsPart vs (some (-1))) (h : Q ((n : Int) - 1, -1, n) s) :
    wpAny (model prog w) A (Builtin.Slice.sliceApplied (.ref sl) (pure (n : Int))) Q E s := by
  obtain ⟨o1, z1, z2, z3⟩ := id hsv0
  unfold Builtin.Slice.sliceApplied Builtin.Slice.sliceFields
  refine wpAny_bind (wpAny_bind (wpAny_field z1 z3 (x := .none) rfl (wpAny_bind (wpAny_field z1 z3 (x := .none) rfl (wpAny_bind (wpAny_field z1 z3 (x := vs) rfl (wpAny_pure ?_)))))))
  refine wpAny_bind (slicePart_ ps ?_)
  show wpAny _ _ (if ((-1 : Int) == 0) = true then _ else _) _ _ s
  rw [if_neg (by decide)]
  refine wpAny_bind (slicePart_none (wpAny_bind (slicePart_none (wpAny_bind (wpAny_pure ?_)))))
  show wpAny _ _ (match Builtin.Slice.sliceAdjust none none (-1) (n : Int) with | (lo, hi) => pure (lo, (-1 : Int), Builtin.Slice.slicePlaces lo hi (-1))) _ _ s
  rw [adj_rev n]
  show wpAny _ _ (pure ((n : Int) - 1, (-1 : Int), Builtin.Slice.slicePlaces ((n : Int) - 1) (-1) (-1))) _ _ s
  rw [places_rev]
  exact wpAny_pure h
theorem fmap_eq {α β : Type} {f g : α → Option β} : ∀ {l : List α}, (∀ x ∈ l, f x = g x) → l.filterMap f = l.filterMap g
  | [], _ => rfl
  | x :: l, h => by
    have ez1 := h x List.mem_cons_self
    have ez2 := fmap_eq (l := l) fun y hy => h y (List.mem_cons_of_mem _ hy)
    simp only [List.filterMap_cons, ez1, ez2]
theorem pick_rev (xs : Array Value) : ((List.range xs.size).filterMap fun (m : Nat) => xs[(((xs.size : Int) - 1) + (m : Int) * (-1)).toNat]?).toArray = xs.toList.reverse.toArray := by
  have e := PySem.W.krv_pick xs
  unfold slicePick at e
  rw [PySem.W.krv_bounds] at e
  have ez2 : ((sliceRange ((xs.size : Int) - 1) (-1) (-1)).filterMap (xs[·]?)).toArray = xs.toList.reverse.toArray := e
  rw [PySem.W.krv_sliceRange, List.filterMap_map] at ez2
  rw [← ez2]
  congr 1
  refine fmap_eq fun m hmz => ?_
  have := List.mem_range.mp hmz
  show xs[_]? = xs[_]?
  rw [show (((xs.size : Int) - 1) + (m : Int) * (-1)).toNat = xs.size - 1 - m by omega]
theorem getItem_rev {t sl : Addr} {items : Array Value} {vs : Value} {Q : Value → Shared → Prop} (ht : IsTup s.heap t items) (hsv0 : s.heap.IsSliceOf sl .none .none vs) (ps : IsPart vs (some (-1)))
    (h : Q (.ref s.heap.objs.size) { s with heap := s.heap.push { cls := .type "tuple", data := .seq items.toList.reverse.toArray } }) (hsz : items.size ≤ sizeLine) : wpAny (model prog w) A (getItem (.ref t) (.ref sl)) Q E s := by
  have ok : sizeOk (.seq items.toList.reverse.toArray) := by
    show items.toList.reverse.toArray.size ≤ sizeLine
    rw [List.size_toArray, List.length_reverse, Array.length_toList]; exact hsz
  obtain ⟨o1, z1, z2, z3⟩ := id hsv0
  have ts : s.TypeIs (.ref sl) "slice" := ⟨o1, z1, z2⟩
  unfold getItem
  try with_reducible refine wpAny_holding ?_
  first | refine wpAny_bind (wpAny_pure ?_) | skip
  refine wpAny_bind (wpAny_sequenceKey ht.typeIs (by decide) ?_)
  refine wpAny_bind (wpAny_callSpecial?_slot (name := Str.ofString "__getitem__") ht.typeIs PyProof.Rows.slot_tuple_getitem (wpAny_call_entry PyProof.Rows.slot_tuple_getitem ht.typeIs entry_tuple_getitem ?_ (args_tuple_getitem _ _)))
  show wpAny _ _ (Builtin.Tuple.tupleItemsOf (.ref t) >>= _) _ _ s
  refine wpAny_bind (tupleItemsOf_ ht (wpAny_bind (wpAny_typeOf ts ?_)))
  rw [if_pos (by decide)]
  refine wpAny_bind (applied_rev hsv0 ps ?_)
  show wpAny _ _ (if (((items.size : Int) - 1) == 0 && (-1 : Int) == 1 && items.size == items.size) = true then _ else _) _ _ s
  rw [if_neg (by simp), pick_rev]
  first
    | exact wpAny_bind (m := Builtin.Tuple.tupleExact _) (wpAny_newObj_type (wpAny_pure ⟨_, rfl, wpAny_pure h⟩) ok)
    | exact wpAny_bind (m := Builtin.Tuple.tupleExact _) (wpAny_newObj_type (wpAny_bind (wpAny_pure (wpAny_pure ⟨_, rfl, wpAny_pure h⟩))) ok)
    | exact wpAny_bind (wpAny_bind (m := Builtin.Tuple.tupleExact _) (wpAny_newObj_type (wpAny_pure (wpAny_pure ⟨_, rfl, wpAny_pure h⟩)) ok))
    | exact wpAny_bind (wpAny_bind (m := Builtin.Tuple.tupleExact _) (wpAny_newObj_type (wpAny_pure ⟨_, rfl, wpAny_pure h⟩) ok))
end
section
variable {X : Cx}
/-- t[lo:hi] -/
def rSlX (K : PySem.W.Frag) : V → Option Int → Option Int → Hp → VK → Prop := fun x lo hi H Q => ∃ a xs, x = .ref a ∧ SqT K H a xs ∧ ((HT.sIx xs.length 0 lo = 0 ∧ HT.sIx xs.length xs.length hi = xs.length) → Q (.ref a) H) ∧
  (¬ (HT.sIx xs.length 0 lo = 0 ∧ HT.sIx xs.length xs.length hi = xs.length) → ∀ p (o : Obj), H p = none → o.dict = none → o.cls = .type "tuple" → Q (.ref p) (upd H p (.frz o (.tup (cutV xs lo hi)))))
theorem sl_tupX : SlR X (rSlX X.K) := by
  intro pins s σ H x v vl vu lo hi sl Q I rxz hsv0 plz pu h
  obtain ⟨a, xs, rfl, hxz, q1, q2⟩ := h
  by_cases hw : HT.sIx xs.length 0 lo = 0 ∧ HT.sIx xs.length xs.length hi = xs.length
  · cases rxz
    obtain ⟨itz, r, ht, hzz⟩ := I.tuple hxz
    have hlz : itz.toArray.size = xs.length := by rw [List.size_toArray]; exact r.length.symm
    refine ⟨"tuple", _, PyProof.Rows.slot_tuple_getitem.lookup, ht.typeIs, ?_⟩
    exact getItem_tuple_whole ht hsv0 plz pu (by rw [hlz]; exact hw) ⟨.ref a, H, I, rfl, q1 hw⟩
  · exact sl_tupZ pins s σ H _ v vl vu lo hi sl Q I rxz hsv0 plz pu ⟨a, xs, rfl, hxz, hw, q2 hw⟩
/-- t + u -/
def rCatX (K : PySem.W.Frag) : R2 := fun x y H Q => ∃ a b xs ys, x = .ref a ∧ y = .ref b ∧ SqT K H a xs ∧ SqT K H b ys ∧ xs.length + ys.length ≤ sizeLine ∧ (xs = [] → Q (.ref b) H) ∧
  (xs ≠ [] → ys = [] → Q (.ref a) H) ∧ (xs ≠ [] → ys ≠ [] → ∀ p (o : Obj), H p = none → o.dict = none → o.cls = .type "tuple" → Q (.ref p) (upd H p (.frz o (.tup (xs ++ ys)))))
theorem op_catX : OpR X (binaryOp .Add) (rCatX X.K) := by
  intro pins s σ H x y v u Q I rxz ryz h
  obtain ⟨a, b, xs, ys, rfl, rfl, haz, hb, hzz, q1, q2, q3⟩ := h
  by_cases hxz : xs = []
  · subst hxz
    cases rxz
    cases ryz
    obtain ⟨itz, r1, p1, _⟩ := I.tuple haz
    obtain ⟨itz2, r2, p2, _⟩ := I.tuple hb
    cases r1
    exact cat_tup0 p1 p2 ⟨.ref b, H, I, rfl, q1 rfl⟩
  · exact op_catZ pins s σ H _ _ v u Q I rxz ryz ⟨a, b, xs, ys, rfl, rfl, haz, hb, hxz, hzz, q2 hxz, q3 hxz⟩
/-- t[::-1] -/
def tRevT (K : PySem.W.Frag) (te : TE) : TE := fun σ H Q => te σ H fun x H1 => ∃ a xs, x = .ref a ∧ SqT K H1 a xs ∧ ∀ p (o : Obj), H1 p = none → o.dict = none → o.cls = .type "tuple" → Q (.ref p) (upd H1 p (.frz o (.tup xs.reverse)))
theorem pe_revT {e : Expr} {te : TE} {k : Nat} {p1 p2 p3 pos : Pos} (hez : PE X e te) : PE X (.Subscript e (.Slice none none (some (.UnaryOp .USub (.Constant (.int 1) k p1) p2)) p3) pos) (tRevT X.K te) := by
  refine ⟨fun pins s σ H Q I h => ?_⟩
  refine Subscript_ (thn (hez.run pins s σ H _ I h) ?_)
  rintro v s1 ⟨x, H1, Iz1, r1, a, xs, rfl, hxz, q⟩
  cases r1
  have stp : PO X (some (.UnaryOp .USub (.Constant (.int 1) k p1) p2)) (tPart (tUn (rU fun i => .int (-i)) (tC (.int 1)))) := po_some (pe_un un_neg pe_int)
  refine wpAny_Slice (thn (po_none.run pins s1 σ H1 (fun o G => o = none ∧ G = H1) Iz1 ⟨rfl, rfl⟩) ?_)
  rintro vl s2 ⟨l, H2, Iz2, plz, rfl, rfl⟩
  refine thn (po_none.run pins s2 σ H2 (fun o G => o = none ∧ G = H2) Iz2 ⟨rfl, rfl⟩) ?_
  rintro vu s3 ⟨u, H3, I3, pu, rfl, rfl⟩
  refine thn (stp.run pins s3 σ H3 (fun o G => o = some (-1) ∧ G = H3) I3 ⟨1, rfl, -1, rfl, rfl, rfl⟩) ?_
  rintro vs s4 ⟨o, H4, I4, ps, rfl, rfl⟩
  cases plz
  cases pu
  have I5 : Inv X pins σ H4 { s4 with heap := s4.heap.push { cls := .type "slice", data := .fields #[.none, .none, vs] } } := I4.kept (t' := s4.toks) fun b ob z => Heap.get?_push_of_some _ z
  obtain ⟨itz, r, ht, hzz⟩ := I5.tuple hxz
  have hlz0 := r.length
  show wpAny (model X.prog X.w) X.A (subscriptTail e (.Slice none none (some (.UnaryOp .USub (.Constant (.int 1) k p1) p2)) p3) (.ref a) (.ref s4.heap.objs.size)) (EP X pins σ Q) X.xe { s4 with heap := s4.heap.push { cls := .type "slice", data := .fields #[.none, .none, vs] } }
  refine tail_any (ops := [.ref a, .ref s4.heap.objs.size]) ht.typeIs (PyProof.Rows.slot_tuple_getitem.lookup) ?_ (by with_unfolding_all rfl)
  refine getItem_rev ht (Heap.IsSliceOf.new _ .none .none vs) ps ?_ (by rw [List.size_toArray]; omega)
  refine ⟨.ref _, _, I5.laid (t' := s4.toks) (o := .frz { cls := .type "tuple", data := .seq itz.toArray.toList.reverse.toArray } (.tup xs.reverse)) (fun b ob z => Heap.get?_push_of_some _ z) (Nat.le_refl _) ?_, rfl, q _ _ (I5.hok.fresh (Nat.le_refl _)) rfl rfl⟩
  exact ⟨Heap.get?_push_size _ rfl, by rw [List.length_reverse]; exact hzz, _, (by simpa using r.reverse), IsTup.new _ _⟩
/-- t * n -/
def rRepZ (K : PySem.W.Frag) : R2 := fun x y H Q => ∃ l k xs, x = .ref l ∧ y = .int k ∧ SqT K H l xs ∧ xs ≠ [] ∧ 2 ≤ k ∧ k ≤ 2000 ∧ xs.length ≤ 500 ∧ ∀ p (o : Obj), H p = none → o.dict = none → o.cls = .type "tuple" → Q (.ref p) (upd H p (.frz o (.tup (List.replicate k.toNat xs).flatten)))
theorem op_repZ : OpR X (binaryOp .Mult) (rRepZ X.K) := by
  intro pins s σ H x y v u Q I rxz ryz h
  obtain ⟨l, k, xs, rfl, rfl, hT, hne, h1, h2, hzz, q⟩ := h
  cases rxz
  obtain ⟨t, rfl⟩ := ryz
  obtain ⟨itz, r, ⟨⟨cls, dd, data, sl⟩, hoz, hc, n, hdz⟩, hsv0⟩ := I.tuple hT
  simp only at hc hdz
  subst hc hdz
  have le : itz.length = xs.length := r.length.symm
  have nn : itz ≠ [] := fun e => hne (by
    rw [e] at le
    exact List.eq_nil_of_length_eq_zero le.symm)
  have ie : itz.toArray.isEmpty = false := by
    cases itz with
    | nil => exact absurd rfl nn
    | cons a b => rfl
  have se : itz.toArray.size = xs.length := by rw [List.size_toArray, le]
  have pm : ((itz.toArray.size : Nat) : Int) * k ≤ 1000000 := by
    rw [se]
    have a1 : ((xs.length : Nat) : Int) * k ≤ 500 * k := Int.mul_le_mul_of_nonneg_right (by omega) (by omega)
    omega
  have fl : (List.replicate k.toNat itz).flatten.length ≤ sizeLine := by
    rw [PyProof.Rows.lm_len_rep_flat, le, sizeLine_eq]
    have a1 : k.toNat * xs.length ≤ 2000 * 500 := Nat.mul_le_mul (by omega) hzz
    omega
  have d0 : (decide (k < -(2 ^ 63)) || decide (k ≥ 2 ^ 63)) = false := by rw [decide_eq_false (by omega), decide_eq_false (by omega)]; rfl
  have d1 : (itz.toArray.isEmpty || k == 1) = false := by rw [ie, Bool.false_or]; exact beq_eq_false_iff_ne.mpr (by omega)
  have d2 : (decide (k ≤ 0) || itz.toArray.isEmpty) = false := by rw [ie, Bool.or_false]; exact decide_eq_false (by omega)
  have d4 : Builtin.Tuple.tupleTooMany (((itz.toArray.size : Nat) : Int) * k) = false := by
    unfold Builtin.Tuple.tupleTooMany
    rw [sizeLine_eq]; exact decide_eq_false (by omega)
  refine wpAny_binaryOp_repeat_ref (T := "tuple") (U := "int") (by decide) ⟨_, hoz, rfl⟩ (fun s' => typeIs_int s' k t) noFill_tuple_mul F.fills_int_mul F.slot_int_rmul repeat_tuple F.slot_int_index.lookup
    (call_meets F.slot_int_rmul (typeIs_int s k t) F.entry_int_rmul (F.args_int_rmul_2 _ _) (int_rmul_tuple k t l itz.toArray n dd sl) ⟨hoz, rfl, ⟨_, hoz, rfl⟩, call_meets F.slot_tuple_mul ⟨_, hoz, rfl⟩ F.entry_tuple_mul (F.args_tuple_mul_2 _ _)
      (tuple_mulW l itz.toArray n dd sl k t d0 d1 d2 (by omega) d4 (by rw [size_rep, List.size_toArray]; exact fl)) ⟨hoz, ?_⟩⟩)
  rw [size_rep]
  refine ⟨.ref s.heap.objs.size, _, I.laid (t' := s.toks) (o := .frz { cls := .type "tuple", data := .seq (List.replicate k.toNat itz).flatten.toArray } (.tup (List.replicate k.toNat xs).flatten)) (fun b ob z => Heap.get?_push_of_some _ z) (Nat.le_refl _) ?_, rfl, q _ _ (I.hok.fresh (Nat.le_refl _)) rfl rfl⟩
  have rr : Vals (List.replicate k.toNat xs).flatten (List.replicate k.toNat itz).flatten := by
    generalize k.toNat = m
    induction m with
    | zero => exact .nil
    | succ m ih =>
      rw [List.replicate_succ, List.replicate_succ, List.flatten_cons, List.flatten_cons]
      exact r.append ih
  refine ⟨Heap.get?_push_size _ rfl, ?_, _, rr, IsTup.new _ _⟩
  rw [rr.length]
  exact fl
end
end GG

set_option maxHeartbeats 3999999
/-! rules: ==, in, repr of data with dicts -/
namespace GG
open PySem PySem.Spec PyProof.Rows L2 DD
section
variable {X : Cx}
/-- a == b: flat or nested data without dicts; lists of the same data; a dict and a text -/
def rEqX (K : PySem.W.Frag) : R2 := fun x y H Q => rEqD K x y H Q ∨ (∃ ds, Dq K H x (.list ds) ∧ Dq K H y (.list ds) ∧ okDs ds = true ∧ PyData.depthAll ds ≤ 32 ∧ Q (.bl true) H) ∨
  (∃ a kvs z, x = .ref a ∧ Rd H a (.dK kvs) ∧ y = .str z ∧ Q (.bl false) H) ∨ ∃ ds es, Dq K H x (.list ds) ∧ Dq K H y (.list es) ∧ ds.length ≠ es.length ∧ Q (.bl false) H
theorem op_eqX {k : Nat} (rm : Rm k X.A) : OpR X (compareOp .Eq) (rEqX X.K) := by
  have hu := rm.room.un
  intro pins s σ H x y v u Q I rxz ryz h
  rcases h with h | ⟨ds, h1, h2, o, dp, q⟩ | ⟨a, kvs, z, rfl, hr, rfl, q⟩ | ⟨ds, es, h1, h2, nl, q⟩
  · exact op_eqD (by omega) pins s σ H x y v u Q I rxz ryz h
  · cases h1 with
    | lst hsv0 haz =>
      cases h2 with
      | lst hs' ha' =>
        cases rxz; cases ryz
        obtain ⟨itz, rvz, plz, _⟩ := I.list (hsv0.sq (K := X.K))
        obtain ⟨its', rv', pl', _⟩ := I.list (hs'.sq (K := X.K))
        have l1 := (Paired.length rvz).symm.trans (dpAll_len haz)
        have l2 := (Paired.length rv').symm.trans (dpAll_len ha')
        refine PySem.W.eq_listsT (n := 32) (e := fun _ => true) plz.isList pl'.isList (by simp [l1, l2]) (fun j h1 h2 => dqs_same I ds _ _ itz its' 32 haz ha' o dp rvz rv' j _ _ (by simp) (by simp)) (by omega) ?_
        rw [all_tt]
        exact ⟨.bl true, H, I, rfl, q⟩
  · cases rxz
    obtain ⟨t, rfl⟩ := ryz
    obtain ⟨_, _, vs, kv, ob, es, ep, hoz, hxz, hdz, _⟩ := dk_rd I.hok hr
    exact rc_dict_str z t hoz hxz.1 ⟨es, ep, hdz⟩ (by omega) _ ⟨.bl false, H, I, rfl, q⟩
  · cases h1 with
    | lst hsv0 haz =>
      cases h2 with
      | lst hs' ha' =>
        cases rxz; cases ryz
        obtain ⟨itz, rvz, plz, _⟩ := I.list (hsv0.sq (K := X.K))
        obtain ⟨its', rv', pl', _⟩ := I.list (hs'.sq (K := X.K))
        have l1 := (Paired.length rvz).symm.trans (dpAll_len haz)
        have l2 := (Paired.length rv').symm.trans (dpAll_len ha')
        exact SeqAt.RcAt.lists_lengths plz.isList pl'.isList (by simpa [l1, l2] using nl) (by omega) _ _ _ _ ⟨.bl false, H, I, rfl, q⟩
/-- x in t: data without dicts; a dict in a tuple of texts -/
def rInX (K : PySem.W.Frag) : R2 := fun x y H Q => rInT K x y H Q ∨ ∃ (a : Addr) (kvs : List (Key × V)) (T : Addr) (zs : List Str), x = .ref a ∧ Rd H a (.dK kvs) ∧ y = .ref T ∧ SqT K H T (zs.map V.str) ∧ Q (.bl false) H
theorem op_inX {k : Nat} (rm : Rm k X.A) : OpR X (compareOp .In) (rInX X.K) := by
  have hu := rm.room.un
  intro pins s σ H x y v u Q I rxz ryz h
  rcases h with h | ⟨a, kvs, T, zs, rfl, hr, rfl, hT, q⟩
  · exact op_inT (by omega) pins s σ H x y v u Q I rxz ryz h
  · cases rxz; cases ryz
    obtain ⟨_, _, vs, kv, ob, es, ep, hoz, hxz, hdz, _⟩ := dk_rd I.hok hr
    obtain ⟨itz, r, ht, _⟩ := I.tuple hT
    refine SeqAt.in_tupleAt (fun _ => false) ht (fun y hy => ?_) ?_
    · have hy : y ∈ itz := by simpa using hy
      obtain ⟨j, hj, e⟩ := List.getElem_of_mem hy
      have hlz0 := Paired.length r
      obtain ⟨u, hu', ru⟩ := r.get (i := j) (x := (zs.map V.str)[j]'(by rw [hlz0]; exact hj)) (List.getElem?_eq_getElem _)
      rw [List.getElem?_eq_getElem hj, e] at hu'
      obtain rfl := Option.some.inj hu'
      rw [List.getElem_map] at ru
      obtain ⟨t, rfl⟩ := ru
      exact at_str_dict _ t hoz hxz.1 ⟨es, ep, hdz⟩ (by show X.A.units + 1 < cLine; omega)
    · have e : (itz.toArray.any fun _ => false) = false := by simp
      rw [e]
      exact ⟨.bl false, H, I, rfl, q⟩
/-- repr: data; an error without arguments -/
def rReprX (K : PySem.W.Frag) : List V → Hp → VK → Prop := fun xs H Q => ∃ x, xs = [x] ∧ ((∃ d, Dq K H x d ∧ okD d = true ∧ d.showable = true ∧ d.depth ≤ 32 ∧ d.shown.length ≤ sizeLine ∧ Q (.str d.shown) H) ∨
  ∃ a C t1, x = .ref a ∧ H a = some (exoT a C t1) ∧ H t1 = some (.tup []) ∧ ObjC K C ∧ Q (.str "NoCommand()") H)
theorem call_reprX {k : Nat} (rm : Rm k X.A) : CallR X (.builtin "repr") (rReprX X.K) := by
  have hu := rm.room.un
  intro pins s σ H xs us Q I r h
  obtain ⟨x, rfl, ⟨d, hdz, o, sh, dp, sz, q⟩ | ⟨a, C, t1, rfl, h1, h2, hC, q⟩⟩ := h
  · obtain ⟨u, rfl, ru⟩ := vals1 r
    have rs := dq_rs I d x u hdz o ru
    have big : ∀ a, u = .ref a → wpAny (model X.prog X.w) X.A (call (.builtin "repr") [u]) (EP X pins σ Q) X.xe s := by
      rintro a rfl
      exact rs_repr rs sh sz rm.gu (by omega) fun h' t tk hk => ⟨.str _, H, I.kept hk, ⟨t, rfl⟩, q⟩
    cases hdz with
    | non =>
      obtain rfl : u = Value.none := ru
      refine P.repr_of_none ⟨.str "None", H, I.tok _, ⟨_, rfl⟩, ?_⟩
      simpa only [PyData.shown] using q
    | bl b =>
      obtain rfl : u = Value.bool b := ru
      refine P.repr_of_bool ⟨.str (if b then "True" else "False"), H, I.tok _, ⟨s.toks, ?_⟩, ?_⟩
      · cases b <;> rfl
      · simpa only [PyData.shown] using q
    | int i =>
      obtain ⟨t, rfl⟩ := ru
      refine P.repr_of_int (by simpa [PyData.showable] using sh) ⟨.str (toString i), H, I.tok _, ⟨_, rfl⟩, ?_⟩
      simpa only [PyData.shown] using q
    | str z =>
      obtain ⟨t, rfl⟩ := ru
      refine P.repr_of_str ⟨.str (reprText z), H, I.tok _, ⟨_, rfl⟩, ?_⟩ ?_
      · simpa only [PyData.shown] using q
      · simpa only [PyData.shown] using sz
    | lst _ _ => exact big _ ru
    | tup _ _ => exact big _ ru
    | dict _ _ => exact big _ ru
    | err _ _ _ _ => exact big _ ru
    | errF _ _ _ => exact big _ ru
    | errA _ _ _ _ _ => exact big _ ru
    | opq _ => exact big _ ru
  · obtain ⟨u, rfl, ru⟩ := vals1 r
    obtain rfl : u = Value.ref a := ru
    have ez1 := exoT_at I.hok h1
    obtain ⟨z, itz, rvz, ⟨ot, eo, ec, n, ed⟩⟩ := I.hok t1 _ h2
    cases rvz
    have J : PySem.W.InstAt s.heap a _ C none := ⟨ez1, rfl, rfl, trivial⟩
    obtain ⟨cd, hcd, ht⟩ := hC.nm
    have q' : Q (.str (errTxt cd)) H := by rw [ht]; exact q
    refine err_repr I.kIn J rfl rfl eo ec ed hcd hC.rp hC.exc.hs rm.gu (by omega) (by rw [ht, sizeLine_eq]; decide) fun h' t tk hk => ⟨.str _, H, I.kept hk, ⟨t, rfl⟩, q'⟩
end
end GG

set_option maxHeartbeats 3999999
/-! data with dicts and errors: readings -/
namespace DD
open PySem PySem.Spec PyProof.Rows L2 GG
section
variable {K : PySem.W.Frag} {b : BP} {t ta tbz te : TE} {tt : TT} {mt : Wt} {tas : TA} {m ma mb me : Wm} {ms : Wl} {M : Addr → Prop} {H : Hp} {v : V} {w : W} {u1 u2 : TS} {m1 m2 : Ws}
/-! ### == -/
def eqXF (x y : W) (Q : W → Prop) : Prop := eqF x y Q ∨ (∃ ds, x.py = some (.list ds) ∧ y.py = some (.list ds) ∧ okDs ds = true ∧ PyData.depthAll ds ≤ 32 ∧ Q (.d (.bool true))) ∨
  (∃ kds z, x = .d (.dict kds) ∧ noErr kds ∧ y = .d (.str z) ∧ Q (.d (.bool false))) ∨ ∃ ds es, x.py = some (.list ds) ∧ y.py = some (.list es) ∧ ds.length ≠ es.length ∧ Q (.d (.bool false))
theorem rv_eqX : RV2 K b (rEqX K) eqXF := by
  intro M H x y wx wy mb dom g rxz ryz Qa h Q k
  rcases h with h | ⟨ds, ez1, ez2, o, dp, q⟩ | ⟨kds, z, rfl, ne, rfl, q⟩ | ⟨ds, es, ez1, ez2, nl, q⟩
  · exact .inl (rv_eqD M H x y wx wy mb dom g rxz ryz Qa h Q k)
  · exact .inr (.inl ⟨ds, rxz.pyq ez1, ryz.pyq ez2, o, dp, k _ (.d (.bool true)) H (Frm.refl _ _) g (Dq.bl _) q⟩)
  · obtain ⟨a, kvs, rfl, hr, hk⟩ := dict_rep ne rxz
    exact .inr (.inr (.inl ⟨a, kvs, z, rfl, rd_fz hr, repStr ryz, k _ (.d (.bool false)) H (Frm.refl _ _) g (Dq.bl _) q⟩))
  · exact .inr (.inr (.inr ⟨ds, es, rxz.pyq ez1, ryz.pyq ez2, nl, k _ (.d (.bool false)) H (Frm.refl _ _) g (Dq.bl _) q⟩))
/-! ### x in t -/
def inXF (x y : W) (Q : W → Prop) : Prop := inTF x y Q ∨ ∃ kds ds zs, x = .d (.dict kds) ∧ noErr kds ∧ y.tup = some ds ∧ strsOf ds = some zs ∧ Q (.d (.bool false))
theorem rv_inX : RV2 K b (rInX K) inXF := by
  intro M H x y wx wy mb dom g rxz ryz Qa h Q k
  rcases h with h | ⟨kds, ds, zs, rfl, ne, e, ez, q⟩
  · exact .inl (rv_inT M H x y wx wy mb dom g rxz ryz Qa h Q k)
  · obtain ⟨a, kvs, rfl, hr, hk⟩ := dict_rep ne rxz
    obtain ⟨T, us, rfl, hsv0, dp, _⟩ := ryz.tup e
    obtain rfl := strs_rep dp ez
    exact .inr ⟨a, kvs, T, zs, rfl, rd_fz hr, rfl, hsv0, k _ (.d (.bool false)) H (Frm.refl _ _) g (Dq.bl _) q⟩
/-! ### repr -/
def reprXF (ws : List W) (Q : W → Prop) : Prop := ∃ w d, ws = [w] ∧ w.py = some d ∧ ((okD d = true ∧ d.showable = true ∧ d.depth ≤ 32 ∧ d.shown.length ≤ sizeLine ∧ Q (.d (.str d.shown))) ∨ (d = .dict errP ∧ Q (.d (.str "NoCommand()"))))
theorem rc_reprX : RC K b (rReprX K) reprXF := by
  intro M H vs ws mb dom g p Qa h Q k
  obtain ⟨w, d, rfl, e, h⟩ := h
  cases p with
  | cons rxz rest =>
    cases rest
    have rq := rxz.pyq e
    rcases h with ⟨h1, h2, h3, h4, q⟩ | ⟨rfl, q⟩
    · exact ⟨_, rfl, .inl ⟨d, rq, h1, h2, h3, h4, k _ (.d (.str _)) H (Frm.refl _ _) g (Dq.str _) q⟩⟩
    · cases rq with
      | dict hr hk => cases kv_bad hk
      | err g1 g2 g3 _ => exact ⟨_, rfl, .inr ⟨_, _, _, rfl, g1, g2, g3, k _ (.d (.str _)) H (Frm.refl _ _) g (Dq.str _) q⟩⟩
      | errF _ _ e3 =>
        unfold errP errQ at e3
        cases e3
      | errA _ _ _ _ e3 =>
        unfold errP errQ at e3
        cases e3
      | opq e3 =>
        unfold errP opqD at e3
        cases e3
/-! ### tuples -/
def slXW (me : Wm) (ml mh : Wo) : Wm := fun env Q => me env fun w => ml env fun lo => mh env fun hi => ∃ xs, w.tup = some xs ∧ Q (.d (.tuple (if HT.sIx xs.length 0 lo = 0 ∧ HT.sIx xs.length xs.length hi = xs.length then xs else cutD xs lo hi)))
theorem snd_slX {tl th : TO} {ml mh : Wo} (h : Snd K b te me) (hlz0 : SndO K b tl ml) (hh : SndO K b th mh) : Snd K b (tSl (rSlX K) te tl th) (slXW me ml mh) := by
  intro M0 H0 O σ H env r Qa hmz Q k
  refine h M0 H0 O σ H env r _ hmz _ ?_
  intro v w H1 f1 g1 rp hm1
  refine hlz0 M0 H0 O σ H1 env (r.after f1 g1) _ hm1 _ ?_
  intro lo H2 f2 g2 hm2
  refine hh M0 H0 O σ H2 env ((r.after f1 g1).after f2 g2) _ hm2 _ ?_
  rintro hi H3 f3 g3 ⟨xs, e, q⟩
  have r3 := ((r.after f1 g1).after f2 g2).after f3 g3
  have rp3 := rp.frm (f2.trans f3) r.mbO
  have ew : w = .d (.tuple xs) := by
    cases w with
    | l _ => cases e
    | bag => cases e
    | d z =>
      cases z <;> try cases e
      rfl
  obtain ⟨a, vs, rfl, hsv0, dp, _⟩ := rp3.tup e
  have hlz0 := dpAll_len dp
  have ff := (f1.trans f2).trans f3
  refine ⟨a, vs, rfl, hsv0, fun z => ?_, fun z p o hpz od oc => ?_⟩
  · rw [hlz0] at z
    rw [if_pos z] at q
    subst ew
    exact k _ (.d (.tuple xs)) H3 ff g3 rp3 q
  · rw [hlz0] at z
    rw [if_neg z] at q
    have np : ¬ MO M0 O p := fun z => r3.domO p z hpz
    exact k _ (.d (.tuple _)) _ (ff.trans (Frm.new hpz)) (g3.new hpz) (Dq.tup (TupD.of np od oc) (dpAll_mono (fz_new hpz) _ _ (cut_rep dp))) q
def catXF (x y : W) (Q : W → Prop) : Prop := ∃ xs ys, x.tup = some xs ∧ y.tup = some ys ∧ xs.length + ys.length ≤ sizeLine ∧ Q (.d (.tuple (xs ++ ys)))
theorem tup_is {x : W} {xs : List PD} (e : x.tup = some xs) : x = .d (.tuple xs) := by
  cases x with
  | l _ => cases e
  | bag => cases e
  | d z =>
    cases z <;> try cases e
    rfl
theorem rv_catX : RV2 K b (rCatX K) catXF := by
  intro M H x y wx wy mb dom g rxz ryz Qa h Q k
  obtain ⟨xs, ys, ez1, ez2, hzz, q⟩ := h
  obtain rfl := tup_is ez1
  obtain rfl := tup_is ez2
  obtain ⟨a, vs, rfl, hsv0, dp, _⟩ := rxz.tup ez1
  obtain ⟨c, us, rfl, hs2, dp2, _⟩ := ryz.tup ez2
  have l1 := dpAll_len dp
  have l2 := dpAll_len dp2
  refine ⟨a, c, vs, us, rfl, rfl, hsv0, hs2, by rw [l1, l2]; exact hzz, fun z => ?_, fun z1 z => ?_, fun _ _ p o hpz od oc => ?_⟩
  · subst z
    have e : xs = [] := List.eq_nil_of_length_eq_zero l1.symm
    subst e
    exact k _ (.d (.tuple ys)) H (Frm.refl _ _) g ryz q
  · subst z
    have e : ys = [] := List.eq_nil_of_length_eq_zero l2.symm
    subst e
    rw [List.append_nil] at q
    exact k _ (.d (.tuple xs)) H (Frm.refl _ _) g rxz q
  · have np : ¬ M p := fun z => dom p z hpz
    exact k _ (.d (.tuple _)) _ (Frm.new hpz) (g.new hpz) (Dq.tup (TupD.of np od oc) (dpAll_mono (fz_new hpz) _ _ (dpAll_app dp dp2))) q
theorem dpAll_rev {H : Hp} : ∀ {ds : List PD} {vs : List V}, DqAll K H vs ds → DqAll K H vs.reverse ds.reverse
  | [], _, h => by
    cases h
    exact .nil
  | d :: ds, _, h => by
    cases h with
    | cons h1 h2 =>
      rw [List.reverse_cons, List.reverse_cons]
      exact dpAll_app (dpAll_rev h2) (.cons h1 .nil)
def revW (me : Wm) : Wm := fun env Q => me env fun w => ∃ xs, w.tup = some xs ∧ Q (.d (.tuple xs.reverse))
theorem snd_rev (h : Snd K b te me) : Snd K b (tRevT K te) (revW me) := by
  intro M0 H0 O σ H env r Qa hmz Q k
  refine h M0 H0 O σ H env r _ hmz _ ?_
  rintro v w H' f g rp ⟨xs, e, q⟩
  obtain ⟨a, vs, rfl, hsv0, dp, _⟩ := rp.tup e
  refine ⟨a, vs, rfl, hsv0, fun p o hpz od oc => ?_⟩
  have np : ¬ MO M0 O p := fun z => (r.after f g).domO p z hpz
  exact k _ (.d (.tuple _)) _ (f.trans (Frm.new hpz)) (g.new hpz) (Dq.tup (TupD.of np od oc) (dpAll_mono (fz_new hpz) _ _ (dpAll_rev dp))) q
def repZF (x y : W) (Q : W → Prop) : Prop := ∃ d k, x = .d (.tuple [d]) ∧ y = .d (.int k) ∧ 2 ≤ k ∧ k ≤ 2000 ∧ Q (.d (.tuple (List.replicate k.toNat d)))
theorem flat1 {α : Type} (x : α) : ∀ n : Nat, (List.replicate n [x]).flatten = List.replicate n x
  | 0 => rfl
  | n + 1 => by rw [List.replicate_succ, List.flatten_cons, flat1 x n, List.replicate_succ]; rfl
theorem dpAll_rep {H : Hp} {d : PD} (h : Dq K H v d) : ∀ n : Nat, DqAll K H (List.replicate n v) (List.replicate n d)
  | 0 => .nil
  | n + 1 => by
    rw [List.replicate_succ, List.replicate_succ]
    exact .cons h (dpAll_rep h n)
theorem rv_repZ : RV2 K b (rRepZ K) repZF := by
  intro M H x y wx wy mb dom g rxz ryz Qa h Q k
  obtain ⟨d, n, rfl, rfl, h1, h2, q⟩ := h
  obtain rfl := repInt ryz
  obtain ⟨a, vs, rfl, hsv0, dp, _⟩ := rxz.tup (xs := [d]) rfl
  cases dp with
  | cons d1 d2 =>
    cases d2
    refine ⟨a, n, _, rfl, rfl, hsv0, by simp, h1, h2, by simp, fun p o hpz od oc => ?_⟩
    rw [flat1]
    have np : ¬ M p := fun z => dom p z hpz
    exact k _ (.d (.tuple _)) _ (Frm.new hpz) (g.new hpz) (Dq.tup (TupD.of np od oc) (dpAll_mono (fz_new hpz) _ _ (dpAll_rep d1 _))) q
/-! ### s.upper() -/
def uppW (me : Wm) : Wm := fun env Q => me env fun w => ∃ z : Str, w = .d (.str z) ∧ z.length ≤ 5592405 ∧ Q (.d (.str (Txt.upper z)))
theorem snd_upp (h : Snd K b te me) : Snd K b (tM0 (fun x xs H Q => ∃ a, x = .str a ∧ xs = [] ∧ a.length ≤ 5592405 ∧ Q (.str (Txt.upper a)) H) te) (uppW me) := by
  intro M0 H0 O σ H env r Qa hmz Q k
  refine h M0 H0 O σ H env r _ hmz _ ?_
  rintro v w H' f g rp ⟨z, rfl, hzz, q⟩
  obtain rfl := repStr rp
  exact ⟨⟨z, rfl⟩, z, rfl, rfl, hzz, k _ (.d (.str _)) H' f g (Dq.str _) q⟩
/-! ### a tuple of the text -/
theorem snd_globT {a : Addr} {zs : List Str} (h : ∀ H, SqT K H a (zs.map V.str) → True) (hK : ∀ H, TupD K H a (zs.map V.str)) : Snd K b (tC (.ref a)) (conW (.tuple (zs.map PyData.str))) := by
  intro M0 H0 O σ H env r Qa hqz Q k
  have da : ∀ (H : Hp) (zs : List Str), DqAll K H (zs.map V.str) (zs.map PyData.str) := by
    intro H zs
    induction zs with
    | nil => exact .nil
    | cons z zs ih => exact .cons (Dq.str z) ih
  exact k _ (.d (.tuple _)) H (Frm.refl _ _) r.bag (Dq.tup (hK _) (da _ zs)) hqz
/-! ### isinstance(e, C) -/
def isinEW (K : PySem.W.Frag) (cv : Value) (me : Wm) : Wm := fun env Q => me env fun w => ∃ C ds c, w = .d (.dict (errQ C ds)) ∧ PySem.W.kitOne K (.ref C) cv = some c ∧ Q (.d (.bool c))
theorem errQ_inj {C C' : Addr} {ds ds' : List (PD × PD)} (h : errQ C ds = errQ C' ds') : C = C' ∧ ds = ds' := by
  unfold errQ at h
  injection h with h4 h7
  injection h4 with _ h5
  injection h5 with h6
  exact ⟨by exact_mod_cast h6, h7⟩
theorem dq_err {H : Hp} {v : V} {C : Addr} {ds : List (PD × PD)} (r : Dq K H v (.dict (errQ C ds))) : ∃ a, v = .ref a ∧ ErrO H a C ∧ ExcC K C := by
  generalize hdz : errQ C ds = kds at r
  cases r with
  | dict hr hk =>
    subst hdz
    cases kv_bad hk
  | err _ _ _ e3 =>
    rw [← hdz] at e3
    unfold errP errQ at e3
    cases e3
  | errF h1 h2 h3 =>
    obtain ⟨rfl, _⟩ := errQ_inj (hdz.trans h3)
    exact ⟨_, rfl, .inl ⟨_, h1⟩, h2⟩
  | errA h1 h2 h3 h4 h5 =>
    obtain ⟨rfl, _⟩ := errQ_inj (hdz.trans h5)
    exact ⟨_, rfl, .inr ⟨_, _, h1, h2⟩, h3⟩
  | opq e3 =>
    rw [← hdz] at e3
    unfold opqD errQ at e3
    cases e3
theorem snd_isinE {y : V} {cv : Value} (hy : ∀ u, RelV y u → u = cv) (h : Snd K b te me) : Snd K b (tCB (rIsErr K) (tCons te (tCons (tC y) tNil))) (isinEW K cv me) := by
  intro M0 H0 O σ H env r Qa hmz Q k
  refine h M0 H0 O σ H env r _ hmz _ ?_
  rintro v w H' f g rp ⟨C, ds, c, rfl, e, q⟩
  have rp : Dq K (Fz (MO M0 O) H') v (.dict (errQ C ds)) := rp
  obtain ⟨a, rfl, h1, h2⟩ := dq_err rp
  refine ⟨a, C, y, cv, c, rfl, h1.imp (fun ⟨t, q⟩ => ⟨t, fz_sub _ _ q⟩) fun ⟨dx, fs, q1, q2⟩ => ⟨dx, fs, fz_sub _ _ q1, fz_sub _ _ q2⟩, h2, hy, e, ?_⟩
  exact k _ (.d (.bool c)) H' f g (Dq.bl _) q
/-! ### a branch that is never taken -/
def iffNW (mt : Wt) (m2 : Ws) : Ws := fun env Q => mt env fun c => c = false ∧ m2 env Q
theorem snd_ifN (hc : SndT K b tt mt) (h2 : SndS K b u2 m2) : SndS K b (tIfS tt u1 u2) (iffNW mt m2) := by
  intro M0 H0 O σ H env r Qa h D k1 k2 k3 k4 k5
  refine hc M0 H0 O σ H env r _ h _ ?_
  rintro c H1 f g ⟨rfl, q⟩
  have s := f.fz (M := MO M0 O) r.mbO
  exact h2 M0 H0 O σ H1 env (r.after f g) _ q D (k1.from s) (k2.from s) (k3.from s) k4 k5
end
end DD

set_option maxHeartbeats 3999999
/-! errors with fields; what stands somewhere -/
namespace DD
open PySem PySem.Spec PyProof.Rows L2 GG
/-- __init__ with one field, with two -/
def spI1 (C : Addr) (f : Str) : Sp := fun vs H Q _ => ∃ a x, vs = [.ref a, x] ∧ H a = some (exo a C none) ∧ ∀ dx, H dx = none → dx ≠ a → Q V.non (upd (upd H dx (exd dx [(f, x)])) a (exo a C (some dx)))
def spI2 (C : Addr) (f g : Str) : Sp := fun vs H Q _ => ∃ a x y, vs = [.ref a, x, y] ∧ H a = some (exo a C none) ∧ ∀ dx, H dx = none → dx ≠ a → Q V.non (upd (upd (upd H dx (exd dx [(f, x)])) a (exo a C (some dx))) dx (exd dx [(g, y), (f, x)]))
theorem exd_tbl {e : Addr} {fs : List (Str × V)} {ps : Array Value} : exd e fs ≠ .tbl ps := fun z => by
  have z : HO.ext _ = HO.tbl ps := z
  cases z
section
variable {K : PySem.W.Frag} {b : BP} {te : TE} {tas : TA} {me : Wm} {ms : Wl} {M : Addr → Prop} {H : Hp} {v : V} {w : W}
theorem same_upd2 {H : Hp} {p q : Addr} {o u : HO} (hpz : H p = none) (hqz : H q = none) : Same H (upd (upd H p o) q u) := fun a z e => by
  rw [upd_ne (ne_of_none e hqz), upd_ne (ne_of_none e hpz)]
  exact e
def err1W (C : Addr) (f : Str) (ms : Wl) : Wm := fun env Q => ms env fun ws => ∃ d, ws = [.d d] ∧ Q (.d (.dict (errQ C [(.str f, d)])))
theorem snd_err1 {C : Addr} {f : Str} (hC : ExcC K C) (h : SndA K b tas ms) : Snd K b (tErrN C (spI1 C f) tas) (err1W C f ms) := by
  intro M0 H0 O σ H env r Qa hmz Q k
  refine h M0 H0 O σ H env r _ hmz _ ?_
  rintro vs ws H1 f1 g1 rp ⟨d, rfl, q⟩
  cases rp with
  | @cons v _ _ _ rvz rest =>
    cases rest
    refine ⟨by simp, fun a haz => ⟨a, v, rfl, upd_same, fun dx hdz nd => ⟨rfl, ?_⟩⟩⟩
    have rvz : Dq K (Fz (MO M0 O) H1) v d := rvz
    rw [upd_ne nd] at hdz
    have r1 := r.after f1 g1
    have na : ¬ MO M0 O a := fun z => r1.domO a z haz
    have nx : ¬ MO M0 O dx := fun z => r1.domO dx z hdz
    have sm : Same H1 (upd (upd (upd H1 a (exo a C none)) dx (exd dx [(f, v)])) a (exo a C (some dx))) := fun c o e => by
      rw [upd_ne (ne_of_none e haz), upd_ne (ne_of_none e hdz), upd_ne (ne_of_none e haz)]
      exact e
    have g2 := g1.ext sm fun c ps e => by
      have e := nt_upd (fun ps => exo_tbl) c ps e
      have e := nt_upd (fun ps => exd_tbl) c ps e
      exact nt_upd (fun ps => exo_tbl) c ps e
    refine k _ (.d (.dict _)) _ (f1.trans (frm_of sm)) g2 (Dq.errA (dx := dx) (fs := [(f, v)]) (fz_iff.mpr ⟨na, upd_same⟩) (fz_iff.mpr ⟨nx, by rw [upd_ne nd, upd_same]⟩) hC ?_ rfl) q
    exact .cons (k := .inr f) (dp_mono (fz_same fun c o n e => ⟨n, sm c o e⟩) _ _ rvz) .nil
def err2W (C : Addr) (f g : Str) (ms : Wl) : Wm := fun env Q => ms env fun ws => ∃ d e, ws = [.d d, .d e] ∧ Q (.d (.dict (errQ C [(.str g, e), (.str f, d)])))
theorem snd_err2 {C : Addr} {f g : Str} (hC : ExcC K C) (h : SndA K b tas ms) : Snd K b (tErrN C (spI2 C f g) tas) (err2W C f g ms) := by
  intro M0 H0 O σ H env r Qa hmz Q k
  refine h M0 H0 O σ H env r _ hmz _ ?_
  rintro vs ws H1 f1 g1 rp ⟨d, e, rfl, q⟩
  cases rp with
  | @cons v _ _ _ rvz rest =>
    cases rest with
    | @cons y _ _ _ ryz rest =>
      cases rest
      refine ⟨by simp, fun a haz => ⟨a, v, y, rfl, upd_same, fun dx hdz nd => ⟨rfl, ?_⟩⟩⟩
      have rvz : Dq K (Fz (MO M0 O) H1) v d := rvz
      have ryz : Dq K (Fz (MO M0 O) H1) y e := ryz
      rw [upd_ne nd] at hdz
      have r1 := r.after f1 g1
      have na : ¬ MO M0 O a := fun z => r1.domO a z haz
      have nx : ¬ MO M0 O dx := fun z => r1.domO dx z hdz
      have sm : Same H1 (upd (upd (upd (upd H1 a (exo a C none)) dx (exd dx [(f, v)])) a (exo a C (some dx))) dx (exd dx [(g, y), (f, v)])) := fun c o e => by
        rw [upd_ne (ne_of_none e hdz), upd_ne (ne_of_none e haz), upd_ne (ne_of_none e hdz), upd_ne (ne_of_none e haz)]
        exact e
      have g2 := g1.ext sm fun c ps e => by
        have e := nt_upd (fun ps => exd_tbl) c ps e
        have e := nt_upd (fun ps => exo_tbl) c ps e
        have e := nt_upd (fun ps => exd_tbl) c ps e
        exact nt_upd (fun ps => exo_tbl) c ps e
      have fs := fz_same (M := MO M0 O) (M' := MO M0 O) (H := H1) fun c o n e => ⟨n, sm c o e⟩
      refine k _ (.d (.dict _)) _ (f1.trans (frm_of sm)) g2 (Dq.errA (dx := dx) (fs := [(g, y), (f, v)]) (fz_iff.mpr ⟨na, by rw [upd_ne nd.symm, upd_same]⟩) (fz_iff.mpr ⟨nx, upd_same⟩) hC ?_ rfl) q
      exact .cons (k := .inr g) (dp_mono fs _ _ ryz) (.cons (k := .inr f) (dp_mono fs _ _ rvz) .nil)
/-- without fields -/
def err0W (C : Addr) : Wm := fun _ Q => Q (.d (.dict (errQ C [])))
theorem snd_err0 {C : Addr} {sp : Sp} (hC : ExcC K C) (hI : ∀ a H Q E, Q V.non H → sp [.ref a] H Q E) : Snd K b (tErrT C sp) (err0W C) := by
  intro M0 H0 O σ H env r Qa hmz Q k a t1 haz ht na
  refine hI _ _ _ _ ⟨rfl, ?_⟩
  have na' : ¬ MO M0 O a := fun z => r.domO a z haz
  have hu : upd H t1 (.tup []) a = none := by rw [upd_ne na]; exact haz
  refine k _ (.d (.dict _)) _ ((Frm.new ht).trans (Frm.new hu)) ((r.bag.new ht).new hu (fun ps z => exoT_tbl z)) (Dq.errF (fz_iff.mpr ⟨na', upd_same⟩) hC rfl) hmz
/-- e.f -/
theorem fld_look (f : Str) : ∀ fs : List (Str × V), fs.lookup f = valV (fldK fs) (.inr f)
  | [] => rfl
  | (g, v) :: fs => by
    rw [lookup_put]
    unfold fldK
    rw [List.map_cons]
    by_cases e : f = g
    · subst e
      rw [if_pos rfl, valV_pos rfl]
    · rw [if_neg e, valV_neg (fun z => e (Sum.inr.inj z).symm)]
      exact fld_look f fs
def oatW (K : PySem.W.Frag) (f : Str) (me : Wm) : Wm := fun env Q => me env fun w => ∃ C ds d, w = .d (.dict (errQ C ds)) ∧ PySem.W.findIn K (.ref C) f = some none ∧ lookD (.inr f) ds = some d ∧ Q (.d d)
theorem snd_oat {f : Str} (h : Snd K b te me) : Snd K b (tOat K f te) (oatW K f me) := by
  intro M0 H0 O σ H env r Qa hmz Q k
  refine h M0 H0 O σ H env r _ hmz _ ?_
  rintro v w H1 f1 g1 rp ⟨C, ds, d, rfl, hfz, e, q⟩
  have rp : Dq K (Fz (MO M0 O) H1) v (.dict (errQ C ds)) := rp
  generalize hdz : errQ C ds = kds at rp
  cases rp with
  | dict hr hk =>
    subst hdz
    cases kv_bad hk
  | err _ _ _ e3 =>
    rw [← hdz] at e3
    unfold errP errQ at e3
    cases e3
  | errF h1 h2 h3 =>
    obtain ⟨_, rfl⟩ := errQ_inj (hdz.trans h3)
    cases e
  | @errA a C' dx fs ds' _ h1 h2 h3 h4 h5 =>
    obtain ⟨rfl, rfl⟩ := errQ_inj (hdz.trans h5)
    obtain ⟨v, ev, dv⟩ := (look_rep (.inr f) h4).1 d e
    exact ⟨a, C, dx, fs, v, rfl, ⟨h3.hg, h3.hk, h3.hs, h3.hd⟩, hfz, fz_sub _ _ h1, fz_sub _ _ h2, (fld_look f fs).trans ev, k v (.d d) H1 f1 g1 dv q⟩
  | opq e3 =>
    rw [← hdz] at e3
    unfold opqD errQ at e3
    cases e3
end
/-! ### what stands somewhere, told -/
def isOpq (g : Addr) : List (PD × PD) → Bool
  | [(.none, .str _), (.none, .int n)] => n == ((g : Nat) : Int)
  | _ => false
mutual
def subD (g : Addr) (D : PD) : PD → PD
  | .list ds => .list (subDs g D ds)
  | .tuple ds => .tuple (subDs g D ds)
  | .dict kvs => if isOpq g kvs = true then D else .dict (subKv g D kvs)
  | d => d
def subDs (g : Addr) (D : PD) : List PD → List PD
  | [] => []
  | d :: ds => subD g D d :: subDs g D ds
def subKv (g : Addr) (D : PD) : List (PD × PD) → List (PD × PD)
  | [] => []
  | (k, d) :: kvs => (k, subD g D d) :: subKv g D kvs
end
theorem opq_bad {g : Addr} {kvs : List (PD × PD)} (h : isOpq g kvs = true) : badK kvs = true := by
  unfold isOpq at h
  split at h
  · rfl
  · cases h
theorem opq_no {g C : Addr} {ds : List (PD × PD)} : isOpq g (errQ C ds) = false := by
  unfold isOpq errQ
  split
  · rename_i h
    cases h
  · rfl
section
variable {K : PySem.W.Frag} {H : Hp} {g : Addr} {D : PD}
mutual
theorem dq_sub (hgz : Dq K H (.ref g) D) : ∀ (d : PD) (v : V), Dq K H v d → Dq K H v (subD g D d)
  | .none, _, h => by cases h; exact .non
  | .bool _, _, h => by cases h; exact .bl _
  | .int _, _, h => by cases h; exact .int _
  | .str _, _, h => by cases h; exact .str _
  | .list ds, _, h => by
    cases h with
    | lst hsv0 haz =>
      rw [subD]
      exact .lst hsv0 (dqs_sub hgz ds _ haz)
  | .tuple ds, _, h => by
    cases h with
    | tup hsv0 haz =>
      rw [subD]
      exact .tup hsv0 (dqs_sub hgz ds _ haz)
  | .dict kds, _, h => by
    rw [subD]
    cases h with
    | dict hr hk =>
      rw [if_neg (fun z => by have := opq_bad z; rw [kv_bad hk] at this; cases this)]
      exact .dict hr (dqkv_sub hgz kds _ hk)
    | err h1 h2 h3 h4 =>
      rw [if_neg (fun z => by rw [h4] at z; cases z)]
      refine .err h1 h2 h3 ?_
      rw [h4]
      simp [errP, subKv, subD]
    | errF h1 h2 h3 =>
      rw [if_neg (fun z => by rw [h3, opq_no] at z; cases z)]
      refine .errF h1 h2 ?_
      rw [h3]
      simp [errQ, subKv, subD]
    | @errA _ C _ fs ds1 _ h1 h2 h3 h4 h5 =>
      rw [if_neg (fun z => by rw [h5, opq_no] at z; cases z)]
      have hzz : sizeOf ds1 < sizeOf kds + 1 := by
        rw [h5]
        unfold errQ
        simp
        omega
      refine .errA (ds := subKv g D ds1) h1 h2 h3 (dqkv_sub hgz ds1 _ h4) ?_
      rw [h5]
      simp [errQ, subKv, subD]
    | @opq a _ h1 =>
      by_cases e : a = g
      · subst e
        rw [if_pos (by rw [h1]; simp [isOpq, opqD])]
        exact hgz
      · rw [if_neg (fun z => by
          rw [h1] at z
          simp only [isOpq, opqD, beq_iff_eq] at z
          exact e (by exact_mod_cast z))]
        refine .opq ?_
        rw [h1]
        simp [opqD, subKv, subD]
theorem dqs_sub (hgz : Dq K H (.ref g) D) : ∀ (ds : List PD) (vs : List V), DqAll K H vs ds → DqAll K H vs (subDs g D ds)
  | [], _, h => by cases h; rw [subDs]; exact .nil
  | d :: ds, _, h => by
    cases h with
    | cons h1 h2 =>
      rw [subDs]
      exact .cons (dq_sub hgz d _ h1) (dqs_sub hgz ds _ h2)
theorem dqkv_sub (hgz : Dq K H (.ref g) D) : ∀ (ds : List (PD × PD)) (kvs : List (Key × V)), DqKv K H kvs ds → DqKv K H kvs (subKv g D ds)
  | [], _, h => by cases h; rw [subKv]; exact .nil
  | (kd, d) :: ds, _, h => by
    cases h with
    | cons h1 h2 =>
      rw [subKv]
      exact .cons (dq_sub hgz d _ h1) (dqkv_sub hgz ds _ h2)
end
end
end DD

set_option maxHeartbeats 3999999
/-! a list that is handed on, then grown -/
namespace DD
open PySem PySem.Spec PyProof.Rows L2 GG
def startW (modd : Wm) (fR : FmF) (m : Ws) : Ws := fun env Q => modd env fun w => ∃ d, w = .d d ∧ 4 < env.length ∧ ∀ p : Addr, fR [.d (.dict (opqD p)), .d d] fun xs =>
  m (((env.set 2 (.v (.d d))).set 3 (.v (.d (.list [.int 0, d])))).set 4 (.v (.d (.list (subDs p (.list [.int 0, d]) xs))))) Q
theorem get_set3 {α : Type} {l : List α} {a b : α} (h : 3 < l.length) : ((l.set 2 a).set 3 b)[3]? = some b := by rw [List.getElem?_set_self (by rw [List.length_set]; exact h)]
theorem snd_start {K : PySem.W.Frag} {b : BP} {podd : TE} {modd : Wm} (hodd : Snd K b podd modd) {spR : Sp} {fR : FmF} (hR : ∀ vs H Q E, spF K b 2 fR vs H Q E → spR vs H Q E) {t : TS} {m : Ws} (ht : SndS K b t m) :
    SndS K b (tSeq (tPar 2 3 (tCons podd (tCons (tLst (tCons (tC (.int 0)) tNil)) tNil))) (tSeq (tAsg (tCall spR [] E0 (tCons (tVar 3) (tCons (tVar 2) tNil))) (gName 4)) (tSeq (tDrop (tBM K "list" rAppend (tVar 3) (tCons (tVar 2) tNil))) t))) (startW modd fR m) := by
  intro M0 H0 O σ H env r Qa hmz D k1 k2 k3 k4 k5
  refine hodd M0 H0 O σ H env r _ hmz _ ?_
  rintro v w H1 f1 g1 rvz ⟨d, rfl, hlz0, q⟩
  have rvz : Dq K (Fz (MO M0 O) H1) v d := rvz
  have r1 := r.after f1 g1
  have hsv0 : 4 < σ.length := by rw [r.len]; exact hlz0
  refine ⟨by simp [sizeLine_eq], fun p hpz => ⟨v, .ref p, rfl, ?_⟩⟩
  have np : ¬ MO M0 O p := fun z => r1.domO p z hpz
  have pb : Off b p := g1.off hpz
  have pc : p ≠ b.2 := fun z => g1.there2 (z ▸ hpz)
  have g2 : Bag b (upd H1 p (.lst [.int 0])) := g1.new hpz
  have f2 : Frm b H1 (upd H1 p (.lst [.int 0])) := Frm.new hpz
  let M' : Addr → Prop := fun a => MO M0 O a ∨ a = p
  have dv2 : Dq K (Fz M' (upd H1 p (.lst [.int 0]))) v d := dp_mono (fz_same fun a o n e => by
    have nap : a ≠ p := ne_of_none e hpz
    exact ⟨fun z => z.elim n nap, by rw [upd_ne nap]; exact e⟩) _ _ rvz
  -- rows
  have e3 : ((σ.set 2 (some v)).set 3 (some (.ref p)))[3]? = some (some (.ref p)) := get_set3 (by omega)
  have ez2 : ((σ.set 2 (some v)).set 3 (some (.ref p)))[2]? = some (some v) := by
    rw [List.getElem?_set_ne (by decide), List.getElem?_set_self (by omega)]
  refine ⟨.ref p, e3, v, ez2, ?_⟩
  refine hR _ _ _ _ ⟨rfl, M', [.d (.dict (opqD p)), .d d], _, ⟨.inl r1.mbO.1, .inl r1.mbO.2⟩, .inl (.inl r1.mc), ?_, g2, .cons (Dq.opq rfl) (.cons dv2 .nil), q p, ?_⟩
  · rintro a (z | rfl)
    · intro e
      by_cases ap : a = p
      · exact np (ap ▸ z)
      · rw [upd_ne ap] at e
        exact r1.domO a z e
    · rw [upd_same]
      exact fun z => nomatch z
  rintro u xs H3 f3 g3 ⟨c, us, rfl, nc, hc, dc⟩ qq
  have cp : c ≠ p := fun z => by
    rw [z, upd_same] at nc
    cases nc
  have nc1 : H1 c = none := by rwa [upd_ne cp] at nc
  have ncM : ¬ MO M0 O c := fun z => r1.domO c z nc1
  have h3p : H3 p = some (.lst [.int 0]) := f3 p _ pb upd_same
  have dv3 : Dq K (Fz M' H3) v d := dp_mono (f3.fz ⟨.inl r1.mbO.1, .inl r1.mbO.2⟩) _ _ dv2
  -- append
  have s3 : (((σ.set 2 (some v)).set 3 (some (.ref p))).set 4 (some (.ref c)))[3]? = some (some (.ref p)) := by
    rw [List.getElem?_set_ne (by decide)]; exact e3
  have s2 : (((σ.set 2 (some v)).set 3 (some (.ref p))).set 4 (some (.ref c)))[2]? = some (some v) := by
    rw [List.getElem?_set_ne (by decide)]; exact ez2
  refine ⟨.ref p, s3, tyL h3p, v, s2, p, [.int 0], v, rfl, rfl, h3p, by simp [sizeLine_eq], ?_⟩
  -- what stands then
  have sM : Same (Fz M' H3) (Fz (MO M0 O) (upd H3 p (.lst ([.int 0] ++ [v])))) := fz_same fun a o n e => by
    have nap : a ≠ p := fun z => n (.inr z)
    exact ⟨fun z => n (.inl z), by rw [upd_ne nap]; exact e⟩
  have dv4 := dp_mono sM _ _ dv3
  have dg : Dq K (Fz (MO M0 O) (upd H3 p (.lst ([.int 0] ++ [v])))) (.ref p) (.list [.int 0, d]) := .lst (.inl (fz_iff.mpr ⟨np, upd_same⟩)) (.cons (Dq.int 0) (.cons dv4 .nil))
  have dr : Dq K (Fz (MO M0 O) (upd H3 p (.lst ([.int 0] ++ [v])))) (.ref c) (.list (subDs p (.list [.int 0, d]) xs)) := by
    refine .lst (vs := us) (.inl (fz_iff.mpr ⟨ncM, by rw [upd_ne cp]; exact hc⟩)) (dqs_sub dg xs us (dpAll_mono (fz_same fun a o n e => ?_) _ _ dc))
    have nap : a ≠ p := fun z => n (.inl (.inr z))
    exact ⟨fun z => n (.inl (.inl z)), by rw [upd_ne nap]; exact e⟩
  have fr : Frm b H (upd H3 p (.lst ([.int 0] ++ [v]))) := fun a o n e => by
    have ez1 := f1 a o n e
    have nap : a ≠ p := ne_of_none ez1 hpz
    rw [upd_ne nap]
    exact f3 a o n (by rw [upd_ne nap]; exact ez1)
  have g4 : Bag b (upd H3 p (.lst ([.int 0] ++ [v]))) := g3.stay (upd_ne pb.1.symm) (upd_ne pc.symm) (by rw [upd_ne pb.2.symm]; exact g3.there3) (tabs_lst h3p) (nt_upd (by intro _ z; cases z))
  have r4 := ((((r.after fr g4).put 2 (w := .d d) dv4 rfl).put 3 (w := .d (.list [.int 0, d])) dg rfl).put 4 (w := .d (.list (subDs p (.list [.int 0, d]) xs))) dr rfl)
  have sf := fr.fz (M := MO M0 O) r.mbO
  exact ht M0 H0 O _ _ _ r4 _ qq D (k1.from sf) (k2.from sf) (k3.from sf) k4 k5
end DD

set_option maxHeartbeats 3999999
/-! the bag of a law, raw -/
namespace LL
open PySem PySem.Spec PyProof.Rows L2 GG DD
def top (i : Nat) : Stmt := PySem.Challenge.pw_everyversion_k00_errors_and_small_forms.main.body.getD i (.Pass ⟨0, 0, 0, 0⟩)
/-- xs[i] for the augmented assignment -/
theorem get_ix {X : Cx} : PGet X (fun o i H Q => ∃ p xs k v, o = .ref p ∧ i = .int k ∧ 0 ≤ k ∧ k < 64 ∧ SqL X.K H p xs ∧ xs[k.toNat]? = some v ∧ Q v H) := by
  intro pins s σ H o i ov iv Q I ro ri h
  obtain ⟨p, xs, k, v, rfl, rfl, k0, k1, hsv0, hv, q⟩ := h
  cases ro
  obtain ⟨t, rfl⟩ := ri
  obtain ⟨itz, r, plz, hzz⟩ := I.list hsv0
  obtain ⟨u, eu, ru⟩ := r.get hv
  exact getItem_listL plz.isList k0 (by omega) eu ⟨v, H, I, ru, q⟩
/-- the bag, itz numbers told -/
structure BagV (b : BP) (H : Hp) (z st n : Int) (cs : List Int) : Prop where
  x : H b.1 = some (.lst [.int z, .int st, .int n, .ref b.2])
  ne : b.2 ≠ b.1
  y : H b.2 = some (.lst (cs.map V.int))
  z0 : 0 ≤ z
  s0 : 0 ≤ st
  s1 : st < 2147483647
  n0 : 0 ≤ n
  len : cs.length ≤ 63
  c0 : ∀ x ∈ cs, 0 ≤ x
  t : H b.3 ≠ none
  tabs : LamX.Tabs b.4 H
  only : ∀ a ps, H a = some (.tbl ps) → a = b.3
theorem BagV.bag {b : BP} {H : Hp} {z st n : Int} {cs : List Int} (h : BagV b H z st n cs) : Bag b H := ⟨z, st, n, cs, h.x, h.ne, h.y, h.z0, h.s0, h.s1, h.n0, h.len, h.c0, h.t, h.tabs, h.only⟩
theorem bagv {b : BP} {H : Hp} (h : Bag b H) : ∃ z st n cs, BagV b H z st n cs := by
  obtain ⟨z, st, n, cs, h1, h2, h3, h4, h5, h6, h7, h8, h9, h10, h11, h12⟩ := h
  exact ⟨z, st, n, cs, h1, h2, h3, h4, h5, h6, h7, h8, h9, h10, h11, h12⟩
theorem BagV.put {b : BP} {H : Hp} {z st n : Int} {cs : List Int} (h : BagV b H z st n cs) {z' st' n' : Int} (z0 : 0 ≤ z') (s0 : 0 ≤ st') (s1 : st' < 2147483647) (n0 : 0 ≤ n') :
    BagV b (upd H b.1 (.lst [.int z', .int st', .int n', .ref b.2])) z' st' n' cs ∧ Frm b H (upd H b.1 (.lst [.int z', .int st', .int n', .ref b.2])) := by
  refine ⟨⟨upd_same, h.ne, by rw [upd_ne h.ne]; exact h.y, z0, s0, s1, n0, h.len, h.c0, ?_, tabs_lst h.x h.tabs, fun a ps e => h.only a ps (nt_upd (by intro _ z; cases z) a ps e)⟩, fun a o f e => by rw [upd_ne f.1]; exact e⟩
  by_cases e : b.3 = b.1
  · rw [e, upd_same]
    exact fun z => nomatch z
  · rw [upd_ne e]
    exact h.t
theorem BagV.new {b : BP} {H : Hp} {z st n : Int} {cs : List Int} (h : BagV b H z st n cs) {p : Addr} {o : HO} (hpz : H p = none) (nt : ∀ ps, o ≠ .tbl ps := by intro _ z; cases z) : BagV b (upd H p o) z st n cs ∧ Frm b H (upd H p o) := by
  have g := h.bag.new hpz nt
  refine ⟨⟨by rw [upd_ne (ne_of_none h.x hpz)]; exact h.x, h.ne, by rw [upd_ne (ne_of_none h.y hpz)]; exact h.y, h.z0, h.s0, h.s1, h.n0, h.len, h.c0, g.there3, ?_, ?_⟩, Frm.new hpz⟩
  · obtain ⟨_, _, _, _, _, _, _, _, _, _, _, _, _, _, t, _⟩ := g
    exact t
  · obtain ⟨_, _, _, _, _, _, _, _, _, _, _, _, _, _, _, t⟩ := g
    exact t
theorem cmulR {i j : Int} (h1 : -18446744073709551616 < j) (h2 : j < 18446744073709551616) : CMul i j := .inr ⟨by rw [show (2 : Int) ^ 64 = 18446744073709551616 by decide]; exact h1, by rw [show (2 : Int) ^ 64 = 18446744073709551616 by decide]; exact h2⟩
theorem cmulL {i j : Int} (h1 : -18446744073709551616 < i) (h2 : i < 18446744073709551616) : CMul i j := .inl ⟨by rw [show (2 : Int) ^ 64 = 18446744073709551616 by decide]; exact h1, by rw [show (2 : Int) ^ 64 = 18446744073709551616 by decide]; exact h2⟩
theorem modR {i j : Int} (h : 0 < j) : 0 ≤ i % j ∧ i % j < j := ⟨Int.emod_nonneg _ (by omega), Int.emod_lt_of_pos _ h⟩
theorem t_ix {K : PySem.W.Frag} {σ : LSt} {H : Hp} {Q : VK} {x : Addr} {ls : List V} {i : Int} {v : V} {j : Nat} (e : σ[j]? = some (some (.ref x))) (hxz : H x = some (.lst ls)) (hv : atI ls i = some v) (q : Q v H) : tOp (rIx K) (tVar j) (tC (.int i)) σ H Q :=
  ⟨_, e, .inl ⟨x, ls, i, v, rfl, rfl, SqL.of hxz, hv, q⟩⟩
theorem seq_of {t u : TS} {D : Ends} {σ : LSt} {H : Hp} (R : LSt → Hp → Prop) (tail : ∀ σ' H', R σ' H' → u D σ' H') (h : (∀ σ' H', R σ' H' → u D σ' H') → t { D with nx := u D } σ H) : tSeq t u D σ H := h tail
theorem cell_of {cs : List Int} {c : Int} (h0 : ∀ x ∈ cs, 0 ≤ x) (hc : 0 ≤ c) : ∃ x : Int, 0 ≤ x ∧ atI (cutV (cs.map V.int) (some c) none ++ [V.int 0]) 0 = some (V.int x) := by
  have e : ∃ ds : List Int, cutV (cs.map V.int) (some c) none = ds.map V.int ∧ ∀ x ∈ ds, 0 ≤ x := by
    unfold cutV
    exact ⟨(cs.drop (HT.sIx (cs.map V.int).length 0 (some c))).take (HT.sIx (cs.map V.int).length (cs.map V.int).length none - HT.sIx (cs.map V.int).length 0 (some c)), by rw [List.map_take, List.map_drop], fun x hxz => h0 x (List.mem_of_mem_drop (List.mem_of_mem_take hxz))⟩
  obtain ⟨ds, e, hdz⟩ := e
  rw [e]
  cases ds with
  | nil => exact ⟨0, Int.le_refl _, rfl⟩
  | cons d ds =>
    refine ⟨d, hdz d List.mem_cons_self, ?_⟩
    unfold atI ixN
    rw [if_pos (Int.le_refl 0), if_pos (by simp only [List.map_cons, List.cons_append, List.length_cons]; omega)]
    rfl
def takeF : Fm := fun ws Q => ∃ n : Int, ws = [.bag, .d (.int n)] ∧ 1 ≤ n ∧ n < 1073741824 ∧ ∀ v : Int, 0 ≤ v → v < n → Q (.d (.int v))
abbrev sTake : Stmt := top 27
theorem scTake : FnScope ["bag", "many", "cell", "stirred", "value", "begin", "second"] ["bag", "many"] (defScope sTake) := ⟨rfl, rfl, rfl, by decide +kernel, rfl, by decide +kernel, by decide +kernel⟩
section
variable {P : Program} {w : World} {K : PySem.W.Frag} {mg : Str → Option Value} {base : Heap}
theorem ok_take {f : Addr} {fd : FuncData} {b : BP} (F : L2.Fun K "_law_take" "_law_take" sTake f fd) (mI : mg "int" = none) : GFn P w K mg base CX0 1 f fd ["bag", "many"] (spD K b 2 takeF) := by
  refine okG F scTake (fun vs H Q E h => h.1) ?_
  intro cdv A o s H vs Q E rm h
  have c0 : ∀ X : Cx, IxR X (rIx X.K) := fun X => ix_seq
  refine ⟨_, pss_cons (ps_if (pt_cmpR op_eq (pe_ix ix_seq (pv 0) pe_int (fun _ _ => rfl)) pe_int (nomark _))
      (pss_cons (ps_set (i := 2) scTake.nd rfl (Or.inl rfl) (pe_ix ix_seq (pe_op op_cat (pe_slice sl_list (pe_ix ix_seq (pv 0) pe_int (fun _ _ => rfl)) (po_some (pe_ix ix_seq (pv 0) pe_int (fun _ _ => rfl))) po_none) (pe_lst (pa_cons pe_int pa_nil))) pe_int (fun _ _ => rfl)))
      (pss_cons (ps_augS (pv 0) pe_int get_ix pe_int ip_add set_list)
      (pss_cons (ps_if (pt_cmpR op_ge (pv 2) (pe_op op_pow pe_int pe_int) (nomark _)) (pss_one (ps_asg (pv 2) (pg_sub (pv 0) pe_int set_list))) pss_nil)
      (pss_cons (ps_set (i := 3) scTake.nd rfl (Or.inl rfl) (pe_op op_add (pe_op op_add (pe_op op_mul (pe_ix ix_seq (pv 0) pe_int (fun _ _ => rfl)) pe_int) (pe_op op_mod (pe_callTy call_int1 (by rfl) mI (by rfl) (pa_cons (pv 2) pa_nil)) pe_int)) (pe_op op_mul pe_int (pe_ix ix_seq (pv 0) pe_int (fun _ _ => rfl)))))
      (pss_one (ps_asg (pe_op op_mod (pe_callTy call_int1 (by rfl) mI (by rfl) (pa_cons (pv 3) pa_nil)) pe_int) (pg_sub (pv 0) pe_int set_list))))))) pss_nil)
    (pss_cons (ps_if (pt_cmpR op_gt (pe_ix ix_seq (pv 0) pe_int (fun _ _ => rfl)) pe_int (nomark _))
      (pss_cons (ps_set (i := 4) scTake.nd rfl (Or.inl rfl) (pe_op op_mod (pe_callTy call_int1 (by rfl) mI (by rfl) (pa_cons (pe_ix ix_seq (pv 0) pe_int (fun _ _ => rfl)) pa_nil)) (pv 1)))
      (pss_cons (ps_asg (pe_op op_fdivN (pe_callTy call_int1 (by rfl) mI (by rfl) (pa_cons (pe_ix ix_seq (pv 0) pe_int (fun _ _ => rfl)) pa_nil)) (pv 1)) (pg_sub (pv 0) pe_int set_list))
      (pss_one (ps_ret (pv 4))))) pss_nil)
    (pss_cons (ps_set (i := 5) scTake.nd rfl (Or.inl rfl) (pe_op op_mod (pe_callTy call_int1 (by rfl) mI (by rfl) (pa_cons (pe_op op_mul (pe_op op_add (pe_ix ix_seq (pv 0) pe_int (fun _ _ => rfl)) pe_int) pe_int) pa_nil)) pe_int))
    (pss_cons (ps_set (i := 6) scTake.nd rfl (Or.inl rfl) (pe_op op_mod (pe_callTy call_int1 (by rfl) mI (by rfl) (pa_cons (pe_op op_mul (pe_op op_mod (pe_callTy call_int1 (by rfl) mI (by rfl) (pa_cons (pe_op op_mul (pv 5) (pv 5)) pa_nil)) pe_int) pe_int) pa_nil)) pe_int))
    (pss_one (ps_ret (pe_op op_mod (pe_callTy call_int1 (by rfl) mI (by rfl) (pa_cons (pe_op op_fdiv (pv 6) pe_int) pa_nil)) (pv 1))))))), ?_⟩
  obtain ⟨hlz0, M, ws, Qa, m1, m2, dom, g, p, ⟨n, rfl, n1, n2, hqz⟩, k⟩ := h
  obtain ⟨z, st, c, cs, bv⟩ := bagv g
  cases p with
  | cons r1 rest =>
  cases rest with
  | cons r2 rest =>
  cases rest
  rename_i v1 v2
  obtain rfl := repInt r2
  obtain rfl : v1 = .ref b.1 := r1
  have n63 : (2 : Int) ^ 63 = 9223372036854775808 := by decide
  have n64 : (2 : Int) ^ 64 = 18446744073709551616 := by decide
  have fin : ∀ (H' : Hp) (v : Int), Frm b H H' → Bag b H' → 0 ≤ v → v < n → Q (.int v) H' := fun H' v f' g' h0 h1 => k _ (.d (.int v)) H' f' g' (Dq.int v) (hqz v h0 h1)
  refine seq_of (fun σ' H' => ∃ (z st c : Int) (s2 s3 : Option V), σ' = [some (.ref b.1), some (.int n), s2, s3, none, none, none] ∧ BagV b H' z st c cs ∧ Frm b H H') ?_ ?_
  · rintro σ' H1 ⟨z, st, c, s2, s3, rfl, bv, fr⟩
    refine seq_of (fun σ' H' => ∃ (s2 s3 : Option V), σ' = [some (.ref b.1), some (.int n), s2, s3, none, none, none] ∧ BagV b H' z st c cs ∧ Frm b H H') ?_ ?_
    · rintro σ' H2 ⟨s2, s3, rfl, bv, fr⟩
      refine t_ix rfl bv.x rfl ⟨_, _, rfl, rfl, _, _, rfl, rfl, cmulR (by decide) (by decide), .inl ⟨_, rfl, _, _, rfl, rfl, (show (0 : Int) < 1000000007 by decide), ?_⟩⟩
      obtain ⟨e0, ez1⟩ := modR (i := (st + 1) * 39373) (j := 1000000007) (by decide)
      refine ⟨_, rfl, _, rfl, _, _, rfl, rfl, cmulR (by omega) (by omega), .inl ⟨_, rfl, _, _, rfl, rfl, (show (0 : Int) < 998244353 by decide), _, _, rfl, rfl, cmulR (by decide) (by decide), .inl ⟨_, rfl, _, _, rfl, rfl, (show (0 : Int) < 998244353 by decide), ?_⟩⟩⟩
      refine ⟨_, rfl, _, _, rfl, rfl, ⟨by decide, by decide⟩, .inl ⟨_, rfl, _, rfl, _, _, rfl, rfl, (show 0 < n by omega), ?_⟩⟩
      exact fin _ _ fr bv.bag (modR (by omega)).1 (modR (by omega)).2
    · intro tail
      refine t_ix rfl bv.x rfl ⟨_, _, rfl, rfl, _, rfl, ?_⟩
      refine ite2 (fun hzz => ?_) (fun hzz => ?_)
      · have z1 : 0 < z := of_decide_eq_true hzz
        refine t_ix rfl bv.x rfl (.inl ⟨_, rfl, _, rfl, _, _, rfl, rfl, (show 0 < n by omega), ?_⟩)
        refine t_ix rfl bv.x rfl (.inl ⟨_, rfl, _, rfl, _, _, rfl, rfl, ⟨by omega, by omega⟩, ?_⟩)
        have dz : 0 ≤ z.fdiv n := by
          rw [Int.fdiv_eq_ediv_of_nonneg _ (by omega)]
          exact Int.ediv_nonneg (by omega) (by omega)
        obtain ⟨bv2, fr2⟩ := bv.put (n' := c) dz bv.s0 bv.s1 bv.n0
        refine ⟨_, rfl, _, _, _, 0, rfl, rfl, bv.x, rfl, ?_⟩
        refine ⟨_, rfl, ?_⟩
        exact fin _ _ (fr.trans fr2) bv2.bag (modR (by omega)).1 (modR (by omega)).2
      · exact tail _ _ ⟨s2, s3, rfl, bv, fr⟩
  · intro tail
    refine t_ix rfl bv.x rfl ⟨rfl, _, rfl, ?_⟩
    refine ite2 (fun hzz => ?_) (fun hzz => tail _ _ ⟨z, st, c, none, none, rfl, bv, Frm.refl _ _⟩)
    refine t_ix rfl bv.x rfl (t_ix rfl bv.x rfl ⟨c, rfl, ?_⟩)
    refine ⟨_, _, rfl, SqL.of bv.y, fun p1 h1 => ?_⟩
    obtain ⟨bv1, fr1⟩ := bv.new (o := .lst (cutV (cs.map V.int) (some c) none)) h1
    refine ⟨by rw [sizeLine_eq]; decide, fun p2 h2 => ?_⟩
    obtain ⟨bv2, fr2⟩ := bv1.new (o := .lst [.int 0]) h2
    have n12 : p1 ≠ p2 := ne_of_none upd_same h2
    refine ⟨p1, p2, _, _, rfl, rfl, by rw [upd_ne n12]; exact upd_same, upd_same, ?_, fun p3 h3 => ?_⟩
    · have l1 := cutV_length (cs.map V.int) (some c) none
      rw [List.length_map] at l1
      have l2 := bv.len
      rw [sizeLine_eq, List.length_singleton]
      omega
    obtain ⟨bv3, fr3⟩ := bv2.new (o := .lst (cutV (cs.map V.int) (some c) none ++ [.int 0])) h3
    obtain ⟨x, x0, hxz⟩ := cell_of (c := c) bv.c0 bv.n0
    refine .inl ⟨p3, _, 0, _, rfl, rfl, SqL.of upd_same, hxz, ?_⟩
    refine ⟨_, rfl, _, _, 2, _, rfl, rfl, by decide, by decide, SqL.of bv3.x, rfl, _, _, rfl, rfl, _, _, 2, 2, rfl, rfl, bv3.x, rfl, ?_⟩
    obtain ⟨bv4, fr4⟩ := bv3.put (z' := z) (st' := st) (n' := c + 1) bv.z0 bv.s0 bv.s1 (by have := bv.n0; omega)
    have f4 := ((fr1.trans fr2).trans fr3).trans fr4
    dsimp only
    refine seq_of (t := tIfS _ _ _) (fun σ' H' => ∃ z : Int, σ' = [some (.ref b.1), some (.int n), some (.int x), none, none, none, none] ∧ BagV b H' z st (c + 1) cs ∧ Frm b H H') ?_ ?_
    · rintro σ' H5 ⟨z, rfl, bv5, f5⟩
      refine t_ix rfl bv5.x rfl ⟨_, _, rfl, rfl, cmulR (by decide) (by decide), _, rfl, .inl ⟨_, rfl, _, _, rfl, rfl, (show (0 : Int) < 2147483647 by decide), _, _, rfl, rfl, ?_⟩⟩
      refine t_ix rfl bv5.x rfl ⟨_, _, rfl, rfl, cmulL (by decide) (by decide), _, _, rfl, rfl, ?_⟩
      refine ⟨_, rfl, .inl ⟨_, rfl, _, _, rfl, rfl, (show (0 : Int) < 2147483647 by decide), _, rfl, _, _, 1, 1, rfl, rfl, bv5.x, rfl, ?_⟩⟩
      obtain ⟨bv6, fr6⟩ := bv5.put (z' := z) (st' := (st * 48271 + x % 2147483647 + 7919 * (c + 1)) % 2147483647) (n' := c + 1) bv5.z0 (modR (by decide)).1 (modR (by decide)).2 bv5.n0
      exact tail _ _ ⟨_, _, _, _, _, rfl, bv6, f5.trans fr6⟩
    · intro tail2
      refine ⟨_, rfl, _, _, rfl, rfl, ⟨by decide, by decide, by decide⟩, _, _, rfl, rfl, _, rfl, ?_⟩
      refine ite2 (fun _ => ?_) (fun _ => tail2 _ _ ⟨z, rfl, bv4, f4⟩)
      refine ⟨_, rfl, _, rfl, _, _, 0, 0, rfl, rfl, bv4.x, rfl, ?_⟩
      obtain ⟨bv5, fr5⟩ := bv4.put (z' := x) (st' := st) (n' := c + 1) x0 bv.s0 bv.s1 bv4.n0
      exact tail2 _ _ ⟨x, rfl, bv5, f4.trans fr5⟩
end
end LL

set_option maxHeartbeats 3999999
/-! the defs, followed as data -/
namespace LL
open PySem PySem.Spec PyProof.Rows L2 GG DD
structure Nones (mg : Str → Option Value) : Prop where
  ztuple : mg "tuple" = none
  zdict : mg "dict" = none
  zlist : mg "list" = none
  zrepr : mg "repr" = none
  zlen : mg "len" = none
  zint : mg "int" = none
  zrange : mg "range" = none
  zenumerate : mg "enumerate" = none
  zabs : mg "abs" = none
  zisinstance : mg "isinstance" = none
  zbool : mg "bool" = none
  zall : mg "all" = none
  zstr : mg "str" = none
  zValueError : mg "ValueError" = none
  cDIGITS : ∃ t, mg "DIGITS" = some (.str "0123456789" t)
  cLETTERS : ∃ t, mg "LETTERS" = some (.str "abcdefghijklmnopqrstuvwxyz" t)
structure Dfn (P : Program) (w : World) (K : PySem.W.Frag) (mg : Str → Option Value) (base : Heap) (k : Nat) (f : Addr) (fd : FuncData) (x : Str) (ps : List Str) (sp : Sp) : Prop where
  gfn : GFn P w K mg base CX0 k f fd ps sp
  mg : mg x = some (.ref f)
  kp : PySem.W.keepIn K (.ref f) = true
  bi : Binds K fd ps []
/-- an error class whose __init__ does nothing -/
def spNil : Sp := fun vs H Q _ => vs.length = 1 ∧ Q V.non H
structure Err (P : Program) (w : World) (K : PySem.W.Frag) (mg : Str → Option Value) (base : Heap) (x : Str) (C f : Addr) (fd : FuncData) : Prop where
  T : OexC K C
  iC : PySem.W.findIn K (.ref C) "__init__" = some (some (.ref f))
  tI : PySem.W.typeIn K (.ref f) = some (.type "function")
  gfn : GFn P w K mg base CX0 1 f fd ["self"] spNil
  bi : Binds K fd ["self"] []
  mg : mg x = some (.ref C)
  oc : ObjC K C
/-- a class by itz name -/
structure Nm (mg : Str → Option Value) (x : Str) (C : Addr) : Prop where
  mg : mg x = some (.ref C)
/-- an error class -/
structure Cls (P : Program) (w : World) (K : PySem.W.Frag) (mg : Str → Option Value) (base : Heap) (x : Str) (C f : Addr) (fd : FuncData) (ps : List Str) (sp : Sp) : Prop where
  T : OexC K C
  iC : PySem.W.findIn K (.ref C) "__init__" = some (some (.ref f))
  tI : PySem.W.typeIn K (.ref f) = some (.type "function")
  gfn : GFn P w K mg base CX0 1 f fd ps sp
  bi : Binds K fd ps []
  mg : mg x = some (.ref C)
  ex : ExcC K C
/-- a tuple of texts by itz name -/
structure GTup (K : PySem.W.Frag) (mg : Str → Option Value) (x : Str) (a : Addr) (zs : List Str) : Prop where
  mg : mg x = some (.ref a)
  tup : ∀ H : Hp, TupD K H a (zs.map V.str)
def wordsT : List Str := List.map Str.ofString ["add", "and", "apart", "ask", "below", "by", "call", "change", "check", "column", "columns", "count", "drop", "end", "from", "int", "join", "key", "keys", "list", "may", "move", "need", "none", "not", "or", "over", "part", "plus", "put", "ref", "rest", "row", "rows", "same", "set", "split", "table", "tables", "take", "times", "to", "together", "total", "true", "turned", "via"]
theorem pss_dead {X : Cx} {body : List Stmt} : PSs X body (fun _ _ _ => False) := ⟨fun pins s σ H D I h => h.elim⟩
theorem pe_g0 {X : Cx} {CX : CXT} {x : Str} {f : Addr} {k : Nat} {fd : FuncData} {ps : List Str} {sp : Sp} {E : XK} {ds : List Value} {dvs : List V} {p pos : Pos} (F : GFn X.prog X.w X.K X.mg X.base CX k f fd ps sp) (rm : Rm k X.A) (hgz : Gl X x) (hmz : X.mg x = some (.ref f)) (kp : PySem.W.keepIn X.K (.ref f) = true) (hb : Binds X.K fd ps ds) (hdz : Vals dvs ds) (hxz : Passes CX X E) (nd : (x == ("__debug__" : Str)) = false := by decide) :
    PE X (.Call (.Name x p) [] [] pos) (tCall sp dvs E tNil) := by
  constructor
  intro pins s σ H Q I h
  refine wpAny_Call_Name_kw (ld_glob I hgz hmz ?_ nd)
  exact PySem.W.callWith_K0 I.kIn kp (run_g F rm hb hdz hxz I .nil h)
theorem _root_.GG.Rm.u64 {k : Nat} {A : Around} (r : Rm k A) : A.units + 64 < cLine := by have := r.room.un; omega
theorem _root_.GG.Rm.u65 {k : Nat} {A : Around} (r : Rm k A) : A.units + 65 < cLine := by have := r.room.un; omega
theorem _root_.GG.Rm.u1 {k : Nat} {A : Around} (r : Rm k A) : A.units + 1 < cLine := by have := r.room.un; omega
section
variable {P : Program} {w : World} {K : PySem.W.Frag} {mg : Str → Option Value} {base : Heap}

abbrev sis_integer : Stmt := top 4
theorem scis_integer : FnScope ["thing"] ["thing"] (defScope sis_integer) := ⟨rfl, rfl, rfl, by decide +kernel, rfl, by decide +kernel, by decide +kernel⟩
def mis_integer   : Ws := (retW (andVW (isinW "int" (varW 0)) (notVW (isinW "bool" (varW 0)))))
theorem okis_integer  {f : Addr} {fd : FuncData} {b : BP} (Z : Nones mg)   (F : L2.Fun K "is_integer" "is_integer" sis_integer f fd) : GFn P w K mg base CX0 (1) f fd ["thing"] (spD K b 1 (bodyW 1 (mis_integer  ))) := by

  refine def_ok F scis_integer ?_
  intro cdv A o s H E rm
  exact ⟨_, (pss_one (ps_ret (pe_and (pe_callB call_isiG (by rfl) Z.zisinstance (by rfl) (pa_cons (pv 0) (pa_cons (pe_bltn (v := .ty "int") (by rfl) Z.zint (by rfl) rfl) pa_nil))) (pe_one (pe_not (pe_callB call_isiG (by rfl) Z.zisinstance (by rfl) (pa_cons (pv 0) (pa_cons (pe_bltn (v := .ty "bool") (by rfl) Z.zbool (by rfl) rfl) pa_nil)))))))), (snd_ret (snd_andV (snd_isin snd_var) (snd_notV (snd_isin snd_var))))⟩
abbrev sis_many : Stmt := top 5
theorem scis_many : FnScope ["thing"] ["thing"] (defScope sis_many) := ⟨rfl, rfl, rfl, by decide +kernel, rfl, by decide +kernel, by decide +kernel⟩
def mis_many  (Fis_integer : Fm) : Ws := (retW (andVW (callW 1 Fis_integer (consW (varW 0) nilW)) (chainW (iiF (fun _ _ => True) fun i j => .bool (decide (i ≤ j))) (iiF (fun _ _ => True) fun i j => .bool (decide (i ≤ j))) (conW (.int 1)) (varW 0) (conW (.int 1000)))))
theorem okis_many (Fis_integer : Fm) {f : Addr} {fd : FuncData} {b : BP} (Z : Nones mg)  {fis_integer : Addr} {fdis_integer : FuncData} (Dis_integer : Dfn P w K mg base 1 fis_integer fdis_integer "is_integer" ["thing"] (spD K b 1 Fis_integer)) (F : L2.Fun K "is_many" "is_many" sis_many f fd) : GFn P w K mg base CX0 (2) f fd ["thing"] (spD K b 1 (bodyW 1 (mis_many  Fis_integer))) := by
  have Dis_integerle : 1 ≤ 1 := by omega
  refine def_ok F scis_many ?_
  intro cdv A o s H E rm
  exact ⟨_, (pss_one (ps_ret (pe_and (pe_g (Dis_integer.gfn.mono Dis_integerle) rm (by rfl) Dis_integer.mg Dis_integer.kp Dis_integer.bi .nil pass0 (pa_cons (pv 0) pa_nil)) (pe_one (pe_chain op_le op_le pe_int (pv 0) pe_int))))), (snd_ret (snd_andV (snd_call (snd_cons snd_var snd_nil)) (snd_chain (rv_ii0 (f := fun i j => .bool (decide (i ≤ j))) fun _ _ _ => Dq.bl _) (rv_ii0 (f := fun i j => .bool (decide (i ≤ j))) fun _ _ _ => Dq.bl _) snd_int snd_var snd_int)))⟩
abbrev sis_tuple_of : Stmt := top 6
theorem scis_tuple_of : FnScope ["thing", "many"] ["thing", "many"] (defScope sis_tuple_of) := ⟨rfl, rfl, rfl, by decide +kernel, rfl, by decide +kernel, by decide +kernel⟩
def mis_tuple_of   : Ws := (retW (andVW (isinW "tuple" (varW 0)) (opW eqXF (cbW lenF (consW (varW 0) nilW)) (varW 1))))
theorem okis_tuple_of  {f : Addr} {fd : FuncData} {b : BP} (Z : Nones mg)   (F : L2.Fun K "is_tuple_of" "is_tuple_of" sis_tuple_of f fd) : GFn P w K mg base CX0 (1) f fd ["thing", "many"] (spD K b 2 (bodyW 2 (mis_tuple_of  ))) := by

  refine def_ok F scis_tuple_of ?_
  intro cdv A o s H E rm
  exact ⟨_, (pss_one (ps_ret (pe_and (pe_callB call_isiG (by rfl) Z.zisinstance (by rfl) (pa_cons (pv 0) (pa_cons (pe_bltn (v := .ty "tuple") (by rfl) Z.ztuple (by rfl) rfl) pa_nil))) (pe_one (pe_cmpR (op_eqX rm) (pe_callB call_len (by rfl) Z.zlen (by rfl) (pa_cons (pv 0) pa_nil)) (pv 1) (nomark _)))))), (snd_ret (snd_andV (snd_isin snd_var) (snd_op rv_eqX (snd_cb rc_len (snd_cons snd_var snd_nil)) snd_var)))⟩
abbrev sis_name : Stmt := top 7
theorem scis_name : FnScope ["thing", "sign"] ["thing"] (defScope sis_name) := ⟨rfl, rfl, rfl, by decide +kernel, rfl, by decide +kernel, by decide +kernel⟩
def mis_name   : Ws := (seqW (iffW (orW (notW (testW (isinW "str" (varW 0)))) (orW (notW (testW (chainW (iiF (fun _ _ => True) fun i j => .bool (decide (i ≤ j))) (iiF (fun _ _ => True) fun i j => .bool (decide (i ≤ j))) (conW (.int 1)) (cbW lenF (consW (varW 0) nilW)) (conW (.int 12))))) (testW (opW (inF false) (varW 0) (conW (.tuple (wordsT.map PyData.str))))))) (retW (conW (.bool false))) nxtW) (retW (andVW (opW (inSF false) (opW ixF (varW 0) (conW (.int 0))) (conW (.str "abcdefghijklmnopqrstuvwxyz"))) (cbW allF (consW (lW (lcompW [1] (itSW (varW 0)) (gnW 1) yesW (opW (inSF false) (varW 1) (opW catSF (conW (.str "abcdefghijklmnopqrstuvwxyz")) (conW (.str "0123456789")))))) nilW)))))
theorem okis_name  {f : Addr} {fd : FuncData} {b : BP} (Z : Nones mg) {WA : Addr} (ZW : GTup K mg "WORDS" WA wordsT)  (F : L2.Fun K "is_name" "is_name" sis_name f fd) : GFn P w K mg base CX0 (1) f fd ["thing"] (spD K b 1 (bodyW 2 (mis_name  ))) := by

  refine def_ok F scis_name ?_
  intro cdv A o s H E rm
  exact ⟨_, (pss_cons (ps_if (pw_or (pt_not (pt_val (pe_callB call_isiG (by rfl) Z.zisinstance (by rfl) (pa_cons (pv 0) (pa_cons (pe_bltn (v := .ty "str") (by rfl) Z.zstr (by rfl) rfl) pa_nil))))) (pw_or (pt_not (pt_chain op_le op_le pe_int (pe_callB call_len (by rfl) Z.zlen (by rfl) (pa_cons (pv 0) pa_nil)) pe_int)) (pw_or1 (pt_cmpR op_in_seq (pv 0) (pe_glob (v := .ref WA) (by rfl) ZW.mg rfl) (by rfl))))).pt (pss_one (ps_ret pe_bl)) pss_nil) (pss_one (ps_ret (pe_and (pe_cmpR op_in_str (pe_ix ix_seq (pv 0) pe_int (fun _ _ => rfl)) (pe_glob (v := .str "abcdefghijklmnopqrstuvwxyz") (by rfl) Z.cLETTERS.choose_spec ⟨_, rfl⟩) (by rfl)) (pe_one (pe_callB (cr_all rfl) (by rfl) Z.zall (by rfl) (pa_cons (pe_lc (own := [("sign", 1)]) rfl scis_name.nd (pi_str (pv 0)) (blkOk_by (by show blkC ["thing", "sign"] (defScope sis_name) _ _ = true; decide +kernel)) (fun _ _ _ _ _ => (pg_name (i := 1) scis_name.nd rfl (by first | exact Or.inl rfl | exact Or.inr rfl))) (fun _ _ _ _ _ => pts_nil) (fun _ _ _ _ _ => (pe_cmpR op_in_str (pv 1) (pe_op op_add_str (pe_glob (v := .str "abcdefghijklmnopqrstuvwxyz") (by rfl) Z.cLETTERS.choose_spec ⟨_, rfl⟩) (pe_glob (v := .str "0123456789") (by rfl) Z.cDIGITS.choose_spec ⟨_, rfl⟩)) (by rfl)))) pa_nil))))))), (snd_seq (snd_ifS (snd_or (snd_not (snd_tB (snd_isin snd_var))) (snd_or (snd_not (snd_test (snd_chain (rv_ii0 (f := fun i j => .bool (decide (i ≤ j))) fun _ _ _ => Dq.bl _) (rv_ii0 (f := fun i j => .bool (decide (i ≤ j))) fun _ _ _ => Dq.bl _) snd_int (snd_cb rc_len (snd_cons snd_var snd_nil)) snd_int))) (snd_test (snd_op (rv_in (neg := false)) snd_var (snd_globT (zs := wordsT) (fun _ _ => trivial) ZW.tup))))) (snd_ret snd_bl) snd_next) (snd_ret (snd_andV (snd_op rv_inS (snd_op rv_ix snd_var snd_int) snd_str) (snd_cb rc_all (snd_cons (snd_l (snd_lc (si_str snd_var) sg_name gin_name snd_yes (snd_op rv_inS snd_var (snd_op rv_catS snd_str snd_str)))) snd_nil)))))⟩
abbrev sis_sort : Stmt := top 8
theorem scis_sort : FnScope ["thing"] ["thing"] (defScope sis_sort) := ⟨rfl, rfl, rfl, by decide +kernel, rfl, by decide +kernel, by decide +kernel⟩
def mis_sort  (Fis_tuple_of : Fm) (Fis_many : Fm) (Fis_name : Fm) : Ws := (seqW (iffW (testW (callW 2 Fis_tuple_of (consW (varW 0) (consW (conW (.int 1)) nilW)))) (retW (opW eqXF (opW ixF (varW 0) (conW (.int 0))) (conW (.str "int")))) nxtW) (seqW (iffW (notW (testW (callW 2 Fis_tuple_of (consW (varW 0) (consW (conW (.int 2)) nilW))))) (retW (conW (.bool false))) nxtW) (seqW (iffW (testW (opW eqXF (opW ixF (varW 0) (conW (.int 0))) (conW (.str "below")))) (retW (callW 1 Fis_many (consW (opW ixF (varW 0) (conW (.int 1))) nilW))) nxtW) (retW (andVW (opW inXF (opW ixF (varW 0) (conW (.int 0))) (tupW (consW (conW (.str "ref")) (consW (conW (.str "may")) nilW)))) (callW 1 Fis_name (consW (opW ixF (varW 0) (conW (.int 1))) nilW)))))))
theorem okis_sort (Fis_tuple_of : Fm) (Fis_many : Fm) (Fis_name : Fm) {f : Addr} {fd : FuncData} {b : BP} (Z : Nones mg)  {fis_tuple_of : Addr} {fdis_tuple_of : FuncData} (Dis_tuple_of : Dfn P w K mg base 1 fis_tuple_of fdis_tuple_of "is_tuple_of" ["thing", "many"] (spD K b 2 Fis_tuple_of)) {fis_many : Addr} {fdis_many : FuncData} (Dis_many : Dfn P w K mg base 2 fis_many fdis_many "is_many" ["thing"] (spD K b 1 Fis_many)) {fis_name : Addr} {fdis_name : FuncData} (Dis_name : Dfn P w K mg base 1 fis_name fdis_name "is_name" ["thing"] (spD K b 1 Fis_name)) (F : L2.Fun K "is_sort" "is_sort" sis_sort f fd) : GFn P w K mg base CX0 (3) f fd ["thing"] (spD K b 1 (bodyW 1 (mis_sort  Fis_tuple_of Fis_many Fis_name))) := by
  have Dis_tuple_ofle : 1 ≤ 2 := by omega
  have Dis_manyle : 2 ≤ 2 := by omega
  have Dis_namele : 1 ≤ 2 := by omega
  refine def_ok F scis_sort ?_
  intro cdv A o s H E rm
  exact ⟨_, (pss_cons (ps_if (pt_val (pe_g (Dis_tuple_of.gfn.mono Dis_tuple_ofle) rm (by rfl) Dis_tuple_of.mg Dis_tuple_of.kp Dis_tuple_of.bi .nil pass0 (pa_cons (pv 0) (pa_cons pe_int pa_nil)))) (pss_one (ps_ret (pe_cmpR (op_eqX rm) (pe_ix ix_seq (pv 0) pe_int (fun _ _ => rfl)) pe_str (nomark _)))) pss_nil) (pss_cons (ps_if (pt_not (pt_val (pe_g (Dis_tuple_of.gfn.mono Dis_tuple_ofle) rm (by rfl) Dis_tuple_of.mg Dis_tuple_of.kp Dis_tuple_of.bi .nil pass0 (pa_cons (pv 0) (pa_cons pe_int pa_nil))))) (pss_one (ps_ret pe_bl)) pss_nil) (pss_cons (ps_if (pt_cmpR (op_eqX rm) (pe_ix ix_seq (pv 0) pe_int (fun _ _ => rfl)) pe_str (nomark _)) (pss_one (ps_ret (pe_g (Dis_many.gfn.mono Dis_manyle) rm (by rfl) Dis_many.mg Dis_many.kp Dis_many.bi .nil pass0 (pa_cons (pe_ix ix_seq (pv 0) pe_int (fun _ _ => rfl)) pa_nil)))) pss_nil) (pss_one (ps_ret (pe_and (pe_cmpR (op_inX rm) (pe_ix ix_seq (pv 0) pe_int (fun _ _ => rfl)) (pe_tupZ (pa_cons pe_str (pa_cons pe_str pa_nil))) (by rfl)) (pe_one (pe_g (Dis_name.gfn.mono Dis_namele) rm (by rfl) Dis_name.mg Dis_name.kp Dis_name.bi .nil pass0 (pa_cons (pe_ix ix_seq (pv 0) pe_int (fun _ _ => rfl)) pa_nil))))))))), (snd_seq (snd_ifS (snd_tB (snd_call (snd_cons snd_var (snd_cons snd_int snd_nil)))) (snd_ret (snd_op rv_eqX (snd_op rv_ix snd_var snd_int) snd_str)) snd_next) (snd_seq (snd_ifS (snd_not (snd_tB (snd_call (snd_cons snd_var (snd_cons snd_int snd_nil))))) (snd_ret snd_bl) snd_next) (snd_seq (snd_ifS (snd_test (snd_op rv_eqX (snd_op rv_ix snd_var snd_int) snd_str)) (snd_ret (snd_call (snd_cons (snd_op rv_ix snd_var snd_int) snd_nil))) snd_next) (snd_ret (snd_andV (snd_op rv_inX (snd_op rv_ix snd_var snd_int) (snd_tup (snd_cons snd_str (snd_cons snd_str snd_nil)))) (snd_call (snd_cons (snd_op rv_ix snd_var snd_int) snd_nil)))))))⟩
abbrev sis_way : Stmt := top 9
theorem scis_way : FnScope ["thing", "x"] ["thing"] (defScope sis_way) := ⟨rfl, rfl, rfl, by decide +kernel, rfl, by decide +kernel, by decide +kernel⟩
def mis_way  (Fis_tuple_of : Fm) (Fis_integer : Fm) (Fis_many : Fm) : Ws := (seqW (iffW (testW (callW 2 Fis_tuple_of (consW (varW 0) (consW (conW (.int 1)) nilW)))) (retW (opW eqXF (opW ixF (varW 0) (conW (.int 0))) (conW (.str "turned")))) nxtW) (seqW (iffW (notW (testW (callW 2 Fis_tuple_of (consW (varW 0) (consW (conW (.int 2)) nilW))))) (retW (conW (.bool false))) nxtW) (seqW (iffW (testW (opW eqXF (opW ixF (varW 0) (conW (.int 0))) (conW (.str "plus")))) (retW (callW 1 Fis_integer (consW (opW ixF (varW 0) (conW (.int 1))) nilW))) nxtW) (seqW (iffW (testW (opW eqXF (opW ixF (varW 0) (conW (.int 0))) (conW (.str "list")))) (retW (andVW (isinW "tuple" (opW ixF (varW 0) (conW (.int 1)))) (andVW (callW 1 Fis_many (consW (cbW lenF (consW (opW ixF (varW 0) (conW (.int 1))) nilW)) nilW)) (cbW allF (consW (lW (lcompW [1] (itTW (opW ixF (varW 0) (conW (.int 1)))) (gnW 1) yesW (callW 1 Fis_integer (consW (varW 1) nilW)))) nilW))))) nxtW) (retW (andVW (opW inXF (opW ixF (varW 0) (conW (.int 0))) (tupW (consW (conW (.str "times")) (consW (conW (.str "over")) (consW (conW (.str "rest")) nilW))))) (callW 1 Fis_many (consW (opW ixF (varW 0) (conW (.int 1))) nilW))))))))
theorem okis_way (Fis_tuple_of : Fm) (Fis_integer : Fm) (Fis_many : Fm) {f : Addr} {fd : FuncData} {b : BP} (Z : Nones mg)  {fis_tuple_of : Addr} {fdis_tuple_of : FuncData} (Dis_tuple_of : Dfn P w K mg base 1 fis_tuple_of fdis_tuple_of "is_tuple_of" ["thing", "many"] (spD K b 2 Fis_tuple_of)) {fis_integer : Addr} {fdis_integer : FuncData} (Dis_integer : Dfn P w K mg base 1 fis_integer fdis_integer "is_integer" ["thing"] (spD K b 1 Fis_integer)) {fis_many : Addr} {fdis_many : FuncData} (Dis_many : Dfn P w K mg base 2 fis_many fdis_many "is_many" ["thing"] (spD K b 1 Fis_many)) (F : L2.Fun K "is_way" "is_way" sis_way f fd) : GFn P w K mg base CX0 (3) f fd ["thing"] (spD K b 1 (bodyW 2 (mis_way  Fis_tuple_of Fis_integer Fis_many))) := by
  have Dis_tuple_ofle : 1 ≤ 2 := by omega
  have Dis_integerle : 1 ≤ 2 := by omega
  have Dis_manyle : 2 ≤ 2 := by omega
  refine def_ok F scis_way ?_
  intro cdv A o s H E rm
  exact ⟨_, (pss_cons (ps_if (pt_val (pe_g (Dis_tuple_of.gfn.mono Dis_tuple_ofle) rm (by rfl) Dis_tuple_of.mg Dis_tuple_of.kp Dis_tuple_of.bi .nil pass0 (pa_cons (pv 0) (pa_cons pe_int pa_nil)))) (pss_one (ps_ret (pe_cmpR (op_eqX rm) (pe_ix ix_seq (pv 0) pe_int (fun _ _ => rfl)) pe_str (nomark _)))) pss_nil) (pss_cons (ps_if (pt_not (pt_val (pe_g (Dis_tuple_of.gfn.mono Dis_tuple_ofle) rm (by rfl) Dis_tuple_of.mg Dis_tuple_of.kp Dis_tuple_of.bi .nil pass0 (pa_cons (pv 0) (pa_cons pe_int pa_nil))))) (pss_one (ps_ret pe_bl)) pss_nil) (pss_cons (ps_if (pt_cmpR (op_eqX rm) (pe_ix ix_seq (pv 0) pe_int (fun _ _ => rfl)) pe_str (nomark _)) (pss_one (ps_ret (pe_g (Dis_integer.gfn.mono Dis_integerle) rm (by rfl) Dis_integer.mg Dis_integer.kp Dis_integer.bi .nil pass0 (pa_cons (pe_ix ix_seq (pv 0) pe_int (fun _ _ => rfl)) pa_nil)))) pss_nil) (pss_cons (ps_if (pt_cmpR (op_eqX rm) (pe_ix ix_seq (pv 0) pe_int (fun _ _ => rfl)) pe_str (nomark _)) (pss_one (ps_ret (pe_and (pe_callB call_isiG (by rfl) Z.zisinstance (by rfl) (pa_cons (pe_ix ix_seq (pv 0) pe_int (fun _ _ => rfl)) (pa_cons (pe_bltn (v := .ty "tuple") (by rfl) Z.ztuple (by rfl) rfl) pa_nil))) (pe_and (pe_g (Dis_many.gfn.mono Dis_manyle) rm (by rfl) Dis_many.mg Dis_many.kp Dis_many.bi .nil pass0 (pa_cons (pe_callB call_len (by rfl) Z.zlen (by rfl) (pa_cons (pe_ix ix_seq (pv 0) pe_int (fun _ _ => rfl)) pa_nil)) pa_nil)) (pe_one (pe_callB (cr_all rfl) (by rfl) Z.zall (by rfl) (pa_cons (pe_lc (own := [("x", 1)]) rfl scis_way.nd (pi_tup (pe_ix ix_seq (pv 0) pe_int (fun _ _ => rfl))) (blkOk_by (by show blkC ["thing", "x"] (defScope sis_way) _ _ = true; decide +kernel)) (fun _ _ _ _ _ => (pg_name (i := 1) scis_way.nd rfl (by first | exact Or.inl rfl | exact Or.inr rfl))) (fun _ _ _ _ _ => pts_nil) (fun _ _ _ _ _ => (pe_g (Dis_integer.gfn.mono Dis_integerle) rm (by rfl) Dis_integer.mg Dis_integer.kp Dis_integer.bi .nil pass0 (pa_cons (pv 1) pa_nil)))) pa_nil))))))) pss_nil) (pss_one (ps_ret (pe_and (pe_cmpR (op_inX rm) (pe_ix ix_seq (pv 0) pe_int (fun _ _ => rfl)) (pe_tupZ (pa_cons pe_str (pa_cons pe_str (pa_cons pe_str pa_nil)))) (by rfl)) (pe_one (pe_g (Dis_many.gfn.mono Dis_manyle) rm (by rfl) Dis_many.mg Dis_many.kp Dis_many.bi .nil pass0 (pa_cons (pe_ix ix_seq (pv 0) pe_int (fun _ _ => rfl)) pa_nil)))))))))), (snd_seq (snd_ifS (snd_tB (snd_call (snd_cons snd_var (snd_cons snd_int snd_nil)))) (snd_ret (snd_op rv_eqX (snd_op rv_ix snd_var snd_int) snd_str)) snd_next) (snd_seq (snd_ifS (snd_not (snd_tB (snd_call (snd_cons snd_var (snd_cons snd_int snd_nil))))) (snd_ret snd_bl) snd_next) (snd_seq (snd_ifS (snd_test (snd_op rv_eqX (snd_op rv_ix snd_var snd_int) snd_str)) (snd_ret (snd_call (snd_cons (snd_op rv_ix snd_var snd_int) snd_nil))) snd_next) (snd_seq (snd_ifS (snd_test (snd_op rv_eqX (snd_op rv_ix snd_var snd_int) snd_str)) (snd_ret (snd_andV (snd_isin (snd_op rv_ix snd_var snd_int)) (snd_andV (snd_call (snd_cons (snd_cb rc_len (snd_cons (snd_op rv_ix snd_var snd_int) snd_nil)) snd_nil)) (snd_cb rc_all (snd_cons (snd_l (snd_lc (si_tup (snd_op rv_ix snd_var snd_int)) sg_name gin_name snd_yes (snd_call (snd_cons snd_var snd_nil)))) snd_nil))))) snd_next) (snd_ret (snd_andV (snd_op rv_inX (snd_op rv_ix snd_var snd_int) (snd_tup (snd_cons snd_str (snd_cons snd_str (snd_cons snd_str snd_nil))))) (snd_call (snd_cons (snd_op rv_ix snd_var snd_int) snd_nil))))))))⟩
abbrev sis_barred : Stmt := top 23
theorem scis_barred : FnScope ["word"] ["word"] (defScope sis_barred) := ⟨rfl, rfl, rfl, by decide +kernel, rfl, by decide +kernel, by decide +kernel⟩
def mis_barred   : Ws := (retW (opW (inF false) (varW 0) (conW (.tuple (wordsT.map PyData.str)))))
theorem okis_barred  {f : Addr} {fd : FuncData} {b : BP} (Z : Nones mg) {WA : Addr} (ZW : GTup K mg "WORDS" WA wordsT)  (F : L2.Fun K "is_barred" "is_barred" sis_barred f fd) : GFn P w K mg base CX0 (1) f fd ["word"] (spD K b 1 (bodyW 1 (mis_barred  ))) := by

  refine def_ok F scis_barred ?_
  intro cdv A o s H E rm
  exact ⟨_, (pss_one (ps_ret (pe_cmpR op_in_seq (pv 0) (pe_glob (v := .ref WA) (by rfl) ZW.mg rfl) (by rfl)))), (snd_ret (snd_op (rv_in (neg := false)) snd_var (snd_globT (zs := wordsT) (fun _ _ => trivial) ZW.tup)))⟩
abbrev s_law_is_int : Stmt := top 25
theorem sc_law_is_int : FnScope ["thing"] ["thing"] (defScope s_law_is_int) := ⟨rfl, rfl, rfl, by decide +kernel, rfl, by decide +kernel, by decide +kernel⟩
def m_law_is_int   : Ws := (retW (andVW (isinW "int" (varW 0)) (notVW (isinW "bool" (varW 0)))))
theorem ok_law_is_int  {f : Addr} {fd : FuncData} {b : BP} (Z : Nones mg)   (F : L2.Fun K "_law_is_int" "_law_is_int" s_law_is_int f fd) : GFn P w K mg base CX0 (1) f fd ["thing"] (spD K b 1 (bodyW 1 (m_law_is_int  ))) := by

  refine def_ok F sc_law_is_int ?_
  intro cdv A o s H E rm
  exact ⟨_, (pss_one (ps_ret (pe_and (pe_callB call_isiG (by rfl) Z.zisinstance (by rfl) (pa_cons (pv 0) (pa_cons (pe_bltn (v := .ty "int") (by rfl) Z.zint (by rfl) rfl) pa_nil))) (pe_one (pe_not (pe_callB call_isiG (by rfl) Z.zisinstance (by rfl) (pa_cons (pv 0) (pa_cons (pe_bltn (v := .ty "bool") (by rfl) Z.zbool (by rfl) rfl) pa_nil)))))))), (snd_ret (snd_andV (snd_isin snd_var) (snd_notV (snd_isin snd_var))))⟩
abbrev s_law_some : Stmt := top 28
theorem sc_law_some : FnScope ["bag", "things"] ["bag", "things"] (defScope s_law_some) := ⟨rfl, rfl, rfl, by decide +kernel, rfl, by decide +kernel, by decide +kernel⟩
def m_law_some  (F_law_take : Fm) : Ws := (retW (opW ixF (varW 1) (callW 2 F_law_take (consW (varW 0) (consW (cbW lenF (consW (varW 1) nilW)) nilW)))))
theorem ok_law_some (F_law_take : Fm) {f : Addr} {fd : FuncData} {b : BP} (Z : Nones mg)  {f_law_take : Addr} {fd_law_take : FuncData} (D_law_take : Dfn P w K mg base 1 f_law_take fd_law_take "_law_take" ["bag", "many"] (spD K b 2 F_law_take)) (F : L2.Fun K "_law_some" "_law_some" s_law_some f fd) : GFn P w K mg base CX0 (2) f fd ["bag", "things"] (spD K b 2 (bodyW 2 (m_law_some  F_law_take))) := by
  have D_law_takele : 1 ≤ 1 := by omega
  refine def_ok F sc_law_some ?_
  intro cdv A o s H E rm
  exact ⟨_, (pss_one (ps_ret (pe_ix ix_seq (pv 1) (pe_g (D_law_take.gfn.mono D_law_takele) rm (by rfl) D_law_take.mg D_law_take.kp D_law_take.bi .nil pass0 (pa_cons (pv 0) (pa_cons (pe_callB call_len (by rfl) Z.zlen (by rfl) (pa_cons (pv 1) pa_nil)) pa_nil))) (fun _ _ => rfl)))), (snd_ret (snd_op rv_ix snd_var (snd_call (snd_cons snd_var (snd_cons (snd_cb rc_len (snd_cons snd_var snd_nil)) snd_nil)))))⟩
abbrev s_law_alike : Stmt := top 29
theorem sc_law_alike : FnScope ["found", "due"] ["found", "due"] (defScope s_law_alike) := ⟨rfl, rfl, rfl, by decide +kernel, rfl, by decide +kernel, by decide +kernel⟩
def m_law_alike   : Ws := (retW (andVW (opW eqXF (varW 0) (varW 1)) (opW eqSF (cbW reprXF (consW (varW 0) nilW)) (cbW reprXF (consW (varW 1) nilW)))))
theorem ok_law_alike  {f : Addr} {fd : FuncData} {b : BP} (Z : Nones mg)   (F : L2.Fun K "_law_alike" "_law_alike" s_law_alike f fd) : GFn P w K mg base CX0 (1) f fd ["found", "due"] (spD K b 2 (bodyW 2 (m_law_alike  ))) := by

  refine def_ok F sc_law_alike ?_
  intro cdv A o s H E rm
  exact ⟨_, (pss_one (ps_ret (pe_and (pe_cmpR (op_eqX rm) (pv 0) (pv 1) (nomark _)) (pe_one (pe_cmpR op_eq (pe_callB (call_reprX rm) (by rfl) Z.zrepr (by rfl) (pa_cons (pv 0) pa_nil)) (pe_callB (call_reprX rm) (by rfl) Z.zrepr (by rfl) (pa_cons (pv 1) pa_nil)) (nomark _)))))), (snd_ret (snd_andV (snd_op rv_eqX snd_var snd_var) (snd_op rv_eqS (snd_cb rc_reprX (snd_cons snd_var snd_nil)) (snd_cb rc_reprX (snd_cons snd_var snd_nil)))))⟩
abbrev s_law_barred : Stmt := top 30
theorem sc_law_barred : FnScope ["found"] [] (defScope s_law_barred) := ⟨rfl, rfl, rfl, by decide +kernel, rfl, by decide +kernel, by decide +kernel⟩
def m_law_barred   : Ws := (seqW (setFW 0 (lstW (consW (conW (.str "add")) (consW (conW (.str "and")) (consW (conW (.str "apart")) (consW (conW (.str "ask")) (consW (conW (.str "below")) (consW (conW (.str "by")) (consW (conW (.str "call")) (consW (conW (.str "change")) (consW (conW (.str "check")) (consW (conW (.str "column")) (consW (conW (.str "columns")) (consW (conW (.str "count")) nilW)))))))))))))) (seqW (setFW 0 (opF catF (varW 0) (lW (lstW (consW (conW (.str "drop")) (consW (conW (.str "end")) (consW (conW (.str "from")) (consW (conW (.str "int")) (consW (conW (.str "join")) (consW (conW (.str "key")) (consW (conW (.str "keys")) (consW (conW (.str "list")) (consW (conW (.str "may")) (consW (conW (.str "move")) (consW (conW (.str "need")) (consW (conW (.str "none")) (consW (conW (.str "not")) nilW))))))))))))))))) (seqW (setFW 0 (opF catF (varW 0) (lW (lstW (consW (conW (.str "or")) (consW (conW (.str "over")) (consW (conW (.str "part")) (consW (conW (.str "plus")) (consW (conW (.str "put")) (consW (conW (.str "ref")) (consW (conW (.str "rest")) (consW (conW (.str "row")) (consW (conW (.str "rows")) (consW (conW (.str "same")) (consW (conW (.str "set")) (consW (conW (.str "split")) (consW (conW (.str "table")) nilW))))))))))))))))) (retFW (opF catF (varW 0) (lW (lstW (consW (conW (.str "tables")) (consW (conW (.str "take")) (consW (conW (.str "times")) (consW (conW (.str "to")) (consW (conW (.str "together")) (consW (conW (.str "total")) (consW (conW (.str "true")) (consW (conW (.str "turned")) (consW (conW (.str "via")) nilW))))))))))))))))
theorem ok_law_barred  {f : Addr} {fd : FuncData} {b : BP} (Z : Nones mg)   (F : L2.Fun K "_law_barred" "_law_barred" s_law_barred f fd) : GFn P w K mg base CX0 (1) f fd [] (spF K b 0 (bodyF 1 (m_law_barred  ))) := by

  refine def_okF F sc_law_barred ?_
  intro cdv A o s H E rm
  exact ⟨_, (pss_cons (ps_set (i := 0) sc_law_barred.nd rfl (by first | exact Or.inl rfl | exact Or.inr rfl) (pe_lst (pa_cons pe_str (pa_cons pe_str (pa_cons pe_str (pa_cons pe_str (pa_cons pe_str (pa_cons pe_str (pa_cons pe_str (pa_cons pe_str (pa_cons pe_str (pa_cons pe_str (pa_cons pe_str (pa_cons pe_str pa_nil)))))))))))))) (pss_cons (ps_set (i := 0) sc_law_barred.nd rfl (by first | exact Or.inl rfl | exact Or.inr rfl) (pe_op op_cat (pv 0) (pe_lst (pa_cons pe_str (pa_cons pe_str (pa_cons pe_str (pa_cons pe_str (pa_cons pe_str (pa_cons pe_str (pa_cons pe_str (pa_cons pe_str (pa_cons pe_str (pa_cons pe_str (pa_cons pe_str (pa_cons pe_str (pa_cons pe_str pa_nil)))))))))))))))) (pss_cons (ps_set (i := 0) sc_law_barred.nd rfl (by first | exact Or.inl rfl | exact Or.inr rfl) (pe_op op_cat (pv 0) (pe_lst (pa_cons pe_str (pa_cons pe_str (pa_cons pe_str (pa_cons pe_str (pa_cons pe_str (pa_cons pe_str (pa_cons pe_str (pa_cons pe_str (pa_cons pe_str (pa_cons pe_str (pa_cons pe_str (pa_cons pe_str (pa_cons pe_str pa_nil)))))))))))))))) (pss_one (ps_ret (pe_op op_cat (pv 0) (pe_lst (pa_cons pe_str (pa_cons pe_str (pa_cons pe_str (pa_cons pe_str (pa_cons pe_str (pa_cons pe_str (pa_cons pe_str (pa_cons pe_str (pa_cons pe_str pa_nil)))))))))))))))), (snd_seq (snd_setF (snd_lst (snd_cons snd_str (snd_cons snd_str (snd_cons snd_str (snd_cons snd_str (snd_cons snd_str (snd_cons snd_str (snd_cons snd_str (snd_cons snd_str (snd_cons snd_str (snd_cons snd_str (snd_cons snd_str (snd_cons snd_str snd_nil)))))))))))))) (snd_seq (snd_setF (snd_opF rv_cat snd_var (snd_l (snd_lst (snd_cons snd_str (snd_cons snd_str (snd_cons snd_str (snd_cons snd_str (snd_cons snd_str (snd_cons snd_str (snd_cons snd_str (snd_cons snd_str (snd_cons snd_str (snd_cons snd_str (snd_cons snd_str (snd_cons snd_str (snd_cons snd_str snd_nil))))))))))))))))) (snd_seq (snd_setF (snd_opF rv_cat snd_var (snd_l (snd_lst (snd_cons snd_str (snd_cons snd_str (snd_cons snd_str (snd_cons snd_str (snd_cons snd_str (snd_cons snd_str (snd_cons snd_str (snd_cons snd_str (snd_cons snd_str (snd_cons snd_str (snd_cons snd_str (snd_cons snd_str (snd_cons snd_str snd_nil))))))))))))))))) (snd_retF (snd_opF rv_cat snd_var (snd_l (snd_lst (snd_cons snd_str (snd_cons snd_str (snd_cons snd_str (snd_cons snd_str (snd_cons snd_str (snd_cons snd_str (snd_cons snd_str (snd_cons snd_str (snd_cons snd_str snd_nil))))))))))))))))⟩
abbrev s_law_is_name : Stmt := top 31
theorem sc_law_is_name : FnScope ["thing", "letters", "figures", "sign"] ["thing"] (defScope s_law_is_name) := ⟨rfl, rfl, rfl, by decide +kernel, rfl, by decide +kernel, by decide +kernel⟩
def m_law_is_name  (F_law_barred : FmF) : Ws := (seqW (unpW (tupW (consW (conW (.str "abcdefghijklmnopqrstuvwxyz")) (consW (conW (.str "0123456789")) nilW))) (gtupW 2 (gconsW (gnW 1) (gconsW (gnW 2) gnilW)))) (seqW (iffW (orW (notW (testW (isinW "str" (varW 0)))) (orW (notW (testW (chainW (iiF (fun _ _ => True) fun i j => .bool (decide (i ≤ j))) (iiF (fun _ _ => True) fun i j => .bool (decide (i ≤ j))) (conW (.int 1)) (cbW lenF (consW (varW 0) nilW)) (conW (.int 12))))) (orW (testW (opW (inSF true) (opW ixF (varW 0) (conW (.int 0))) (varW 1))) (testW (opW (inF false) (varW 0) (lW (callF 0 F_law_barred nilW))))))) (retW (conW (.bool false))) nxtW) (retW (opW eqXF (lW (lcompW [3] (itSW (varW 0)) (gnW 3) (testW (opW (inSF true) (varW 3) (opW catSF (varW 1) (varW 2)))) (varW 3))) (lW (lstW nilW))))))
theorem ok_law_is_name (F_law_barred : FmF) {f : Addr} {fd : FuncData} {b : BP} (Z : Nones mg)  {f_law_barred : Addr} {fd_law_barred : FuncData} (D_law_barred : Dfn P w K mg base 1 f_law_barred fd_law_barred "_law_barred" [] (spF K b 0 F_law_barred)) (F : L2.Fun K "_law_is_name" "_law_is_name" s_law_is_name f fd) : GFn P w K mg base CX0 (2) f fd ["thing"] (spD K b 1 (bodyW 4 (m_law_is_name  F_law_barred))) := by
  have D_law_barredle : 1 ≤ 1 := by omega
  refine def_ok F sc_law_is_name ?_
  intro cdv A o s H E rm
  exact ⟨_, (pss_cons (ps_asg (pe_tupZ (pa_cons pe_str (pa_cons pe_str pa_nil))) (pg_tup rfl (pgs_cons (pg_name (i := 1) sc_law_is_name.nd rfl (by first | exact Or.inl rfl | exact Or.inr rfl)) (pgs_cons (pg_name (i := 2) sc_law_is_name.nd rfl (by first | exact Or.inl rfl | exact Or.inr rfl)) pgs_nil)))) (pss_cons (ps_if (pw_or (pt_not (pt_val (pe_callB call_isiG (by rfl) Z.zisinstance (by rfl) (pa_cons (pv 0) (pa_cons (pe_bltn (v := .ty "str") (by rfl) Z.zstr (by rfl) rfl) pa_nil))))) (pw_or (pt_not (pt_chain op_le op_le pe_int (pe_callB call_len (by rfl) Z.zlen (by rfl) (pa_cons (pv 0) pa_nil)) pe_int)) (pw_or (pt_cmpR op_notin_str (pe_ix ix_seq (pv 0) pe_int (fun _ _ => rfl)) (pv 1) (by rfl)) (pw_or1 (pt_cmpR op_in_seq (pv 0) (pe_g0 (D_law_barred.gfn.mono D_law_barredle) rm (by rfl) D_law_barred.mg D_law_barred.kp D_law_barred.bi .nil pass0) (by rfl)))))).pt (pss_one (ps_ret pe_bl)) pss_nil) (pss_one (ps_ret (pe_cmpR (op_eqX rm) (pe_lc (own := [("sign", 3)]) rfl sc_law_is_name.nd (pi_str (pv 0)) (blkOk_by (by show blkC ["thing", "letters", "figures", "sign"] (defScope s_law_is_name) _ _ = true; decide +kernel)) (fun _ _ _ _ _ => (pg_name (i := 3) sc_law_is_name.nd rfl (by first | exact Or.inl rfl | exact Or.inr rfl))) (fun _ _ _ _ _ => (pts_one (pt_cmpR op_notin_str (pv 3) (pe_op op_add_str (pv 1) (pv 2)) (by rfl)))) (fun _ _ _ _ _ => (pv 3))) (pe_lst pa_nil) (nomark _)))))), (snd_seq (snd_unp (snd_tup (snd_cons snd_str (snd_cons snd_str snd_nil))) (sg_tup (sg_cons sg_name (sg_cons sg_name sg_nil)))) (snd_seq (snd_ifS (snd_or (snd_not (snd_tB (snd_isin snd_var))) (snd_or (snd_not (snd_test (snd_chain (rv_ii0 (f := fun i j => .bool (decide (i ≤ j))) fun _ _ _ => Dq.bl _) (rv_ii0 (f := fun i j => .bool (decide (i ≤ j))) fun _ _ _ => Dq.bl _) snd_int (snd_cb rc_len (snd_cons snd_var snd_nil)) snd_int))) (snd_or (snd_test (snd_op rv_notInS (snd_op rv_ix snd_var snd_int) snd_var)) (snd_test (snd_op (rv_in (neg := false)) snd_var (snd_l (snd_callF snd_nil))))))) (snd_ret snd_bl) snd_next) (snd_ret (snd_op rv_eqX (snd_l (snd_lc (si_str snd_var) sg_name gin_name (snd_test (snd_op rv_notInS snd_var (snd_op rv_catS snd_var snd_var))) snd_var)) (snd_l (snd_lst snd_nil))))))⟩
abbrev s_law_is_headed : Stmt := top 32
theorem sc_law_is_headed : FnScope ["thing", "word", "size"] ["thing", "word", "size"] (defScope s_law_is_headed) := ⟨rfl, rfl, rfl, by decide +kernel, rfl, by decide +kernel, by decide +kernel⟩
def m_law_is_headed   : Ws := (retW (andVW (isinW "tuple" (varW 0)) (andVW (opW eqXF (cbW lenF (consW (varW 0) nilW)) (varW 2)) (andVW (isinW "str" (opW ixF (varW 0) (conW (.int 0)))) (opW eqSF (opW ixF (varW 0) (conW (.int 0))) (varW 1))))))
theorem ok_law_is_headed  {f : Addr} {fd : FuncData} {b : BP} (Z : Nones mg)   (F : L2.Fun K "_law_is_headed" "_law_is_headed" s_law_is_headed f fd) : GFn P w K mg base CX0 (1) f fd ["thing", "word", "size"] (spD K b 3 (bodyW 3 (m_law_is_headed  ))) := by

  refine def_ok F sc_law_is_headed ?_
  intro cdv A o s H E rm
  exact ⟨_, (pss_one (ps_ret (pe_and (pe_callB call_isiG (by rfl) Z.zisinstance (by rfl) (pa_cons (pv 0) (pa_cons (pe_bltn (v := .ty "tuple") (by rfl) Z.ztuple (by rfl) rfl) pa_nil))) (pe_and (pe_cmpR (op_eqX rm) (pe_callB call_len (by rfl) Z.zlen (by rfl) (pa_cons (pv 0) pa_nil)) (pv 2) (nomark _)) (pe_and (pe_callB call_isiG (by rfl) Z.zisinstance (by rfl) (pa_cons (pe_ix ix_seq (pv 0) pe_int (fun _ _ => rfl)) (pa_cons (pe_bltn (v := .ty "str") (by rfl) Z.zstr (by rfl) rfl) pa_nil))) (pe_one (pe_cmpR op_eq (pe_ix ix_seq (pv 0) pe_int (fun _ _ => rfl)) (pv 1) (nomark _)))))))), (snd_ret (snd_andV (snd_isin snd_var) (snd_andV (snd_op rv_eqX (snd_cb rc_len (snd_cons snd_var snd_nil)) snd_var) (snd_andV (snd_isin (snd_op rv_ix snd_var snd_int)) (snd_op rv_eqS (snd_op rv_ix snd_var snd_int) snd_var)))))⟩
abbrev s_law_is_from_one : Stmt := top 33
theorem sc_law_is_from_one : FnScope ["thing"] ["thing"] (defScope s_law_is_from_one) := ⟨rfl, rfl, rfl, by decide +kernel, rfl, by decide +kernel, by decide +kernel⟩
def m_law_is_from_one  (F_law_is_int : Fm) : Ws := (retW (andVW (callW 1 F_law_is_int (consW (varW 0) nilW)) (chainW (iiF (fun _ _ => True) fun i j => .bool (decide (i ≤ j))) (iiF (fun _ _ => True) fun i j => .bool (decide (i ≤ j))) (conW (.int 1)) (varW 0) (conW (.int 1000)))))
theorem ok_law_is_from_one (F_law_is_int : Fm) {f : Addr} {fd : FuncData} {b : BP} (Z : Nones mg)  {f_law_is_int : Addr} {fd_law_is_int : FuncData} (D_law_is_int : Dfn P w K mg base 1 f_law_is_int fd_law_is_int "_law_is_int" ["thing"] (spD K b 1 F_law_is_int)) (F : L2.Fun K "_law_is_from_one" "_law_is_from_one" s_law_is_from_one f fd) : GFn P w K mg base CX0 (2) f fd ["thing"] (spD K b 1 (bodyW 1 (m_law_is_from_one  F_law_is_int))) := by
  have D_law_is_intle : 1 ≤ 1 := by omega
  refine def_ok F sc_law_is_from_one ?_
  intro cdv A o s H E rm
  exact ⟨_, (pss_one (ps_ret (pe_and (pe_g (D_law_is_int.gfn.mono D_law_is_intle) rm (by rfl) D_law_is_int.mg D_law_is_int.kp D_law_is_int.bi .nil pass0 (pa_cons (pv 0) pa_nil)) (pe_one (pe_chain op_le op_le pe_int (pv 0) pe_int))))), (snd_ret (snd_andV (snd_call (snd_cons snd_var snd_nil)) (snd_chain (rv_ii0 (f := fun i j => .bool (decide (i ≤ j))) fun _ _ _ => Dq.bl _) (rv_ii0 (f := fun i j => .bool (decide (i ≤ j))) fun _ _ _ => Dq.bl _) snd_int snd_var snd_int)))⟩
abbrev s_law_is_sort : Stmt := top 34
theorem sc_law_is_sort : FnScope ["thing"] ["thing"] (defScope s_law_is_sort) := ⟨rfl, rfl, rfl, by decide +kernel, rfl, by decide +kernel, by decide +kernel⟩
def m_law_is_sort  (F_law_is_headed : Fm) (F_law_is_from_one : Fm) (F_law_is_name : Fm) : Ws := (seqW (iffW (testW (callW 3 F_law_is_headed (consW (varW 0) (consW (conW (.str "int")) (consW (conW (.int 1)) nilW))))) (retW (conW (.bool true))) nxtW) (seqW (iffW (testW (callW 3 F_law_is_headed (consW (varW 0) (consW (conW (.str "below")) (consW (conW (.int 2)) nilW))))) (retW (callW 1 F_law_is_from_one (consW (opW ixF (varW 0) (conW (.int 1))) nilW))) nxtW) (retW (andVW (orVW (callW 3 F_law_is_headed (consW (varW 0) (consW (conW (.str "ref")) (consW (conW (.int 2)) nilW)))) (callW 3 F_law_is_headed (consW (varW 0) (consW (conW (.str "may")) (consW (conW (.int 2)) nilW))))) (callW 1 F_law_is_name (consW (opW ixF (varW 0) (conW (.int 1))) nilW))))))
theorem ok_law_is_sort (F_law_is_headed : Fm) (F_law_is_from_one : Fm) (F_law_is_name : Fm) {f : Addr} {fd : FuncData} {b : BP} (Z : Nones mg)  {f_law_is_headed : Addr} {fd_law_is_headed : FuncData} (D_law_is_headed : Dfn P w K mg base 1 f_law_is_headed fd_law_is_headed "_law_is_headed" ["thing", "word", "size"] (spD K b 3 F_law_is_headed)) {f_law_is_from_one : Addr} {fd_law_is_from_one : FuncData} (D_law_is_from_one : Dfn P w K mg base 2 f_law_is_from_one fd_law_is_from_one "_law_is_from_one" ["thing"] (spD K b 1 F_law_is_from_one)) {f_law_is_name : Addr} {fd_law_is_name : FuncData} (D_law_is_name : Dfn P w K mg base 2 f_law_is_name fd_law_is_name "_law_is_name" ["thing"] (spD K b 1 F_law_is_name)) (F : L2.Fun K "_law_is_sort" "_law_is_sort" s_law_is_sort f fd) : GFn P w K mg base CX0 (3) f fd ["thing"] (spD K b 1 (bodyW 1 (m_law_is_sort  F_law_is_headed F_law_is_from_one F_law_is_name))) := by
  have D_law_is_headedle : 1 ≤ 2 := by omega
  have D_law_is_from_onele : 2 ≤ 2 := by omega
  have D_law_is_namele : 2 ≤ 2 := by omega
  refine def_ok F sc_law_is_sort ?_
  intro cdv A o s H E rm
  exact ⟨_, (pss_cons (ps_if (pt_val (pe_g (D_law_is_headed.gfn.mono D_law_is_headedle) rm (by rfl) D_law_is_headed.mg D_law_is_headed.kp D_law_is_headed.bi .nil pass0 (pa_cons (pv 0) (pa_cons pe_str (pa_cons pe_int pa_nil))))) (pss_one (ps_ret pe_bl)) pss_nil) (pss_cons (ps_if (pt_val (pe_g (D_law_is_headed.gfn.mono D_law_is_headedle) rm (by rfl) D_law_is_headed.mg D_law_is_headed.kp D_law_is_headed.bi .nil pass0 (pa_cons (pv 0) (pa_cons pe_str (pa_cons pe_int pa_nil))))) (pss_one (ps_ret (pe_g (D_law_is_from_one.gfn.mono D_law_is_from_onele) rm (by rfl) D_law_is_from_one.mg D_law_is_from_one.kp D_law_is_from_one.bi .nil pass0 (pa_cons (pe_ix ix_seq (pv 0) pe_int (fun _ _ => rfl)) pa_nil)))) pss_nil) (pss_one (ps_ret (pe_and (pe_or (pe_g (D_law_is_headed.gfn.mono D_law_is_headedle) rm (by rfl) D_law_is_headed.mg D_law_is_headed.kp D_law_is_headed.bi .nil pass0 (pa_cons (pv 0) (pa_cons pe_str (pa_cons pe_int pa_nil)))) (pe_one (pe_g (D_law_is_headed.gfn.mono D_law_is_headedle) rm (by rfl) D_law_is_headed.mg D_law_is_headed.kp D_law_is_headed.bi .nil pass0 (pa_cons (pv 0) (pa_cons pe_str (pa_cons pe_int pa_nil)))))) (pe_one (pe_g (D_law_is_name.gfn.mono D_law_is_namele) rm (by rfl) D_law_is_name.mg D_law_is_name.kp D_law_is_name.bi .nil pass0 (pa_cons (pe_ix ix_seq (pv 0) pe_int (fun _ _ => rfl)) pa_nil)))))))), (snd_seq (snd_ifS (snd_tB (snd_call (snd_cons snd_var (snd_cons snd_str (snd_cons snd_int snd_nil))))) (snd_ret snd_bl) snd_next) (snd_seq (snd_ifS (snd_tB (snd_call (snd_cons snd_var (snd_cons snd_str (snd_cons snd_int snd_nil))))) (snd_ret (snd_call (snd_cons (snd_op rv_ix snd_var snd_int) snd_nil))) snd_next) (snd_ret (snd_andV (snd_orV (snd_call (snd_cons snd_var (snd_cons snd_str (snd_cons snd_int snd_nil)))) (snd_call (snd_cons snd_var (snd_cons snd_str (snd_cons snd_int snd_nil))))) (snd_call (snd_cons (snd_op rv_ix snd_var snd_int) snd_nil))))))⟩
abbrev s_law_is_way : Stmt := top 35
theorem sc_law_is_way : FnScope ["thing", "one"] ["thing"] (defScope s_law_is_way) := ⟨rfl, rfl, rfl, by decide +kernel, rfl, by decide +kernel, by decide +kernel⟩
def m_law_is_way  (F_law_is_headed : Fm) (F_law_is_int : Fm) (F_law_is_from_one : Fm) : Ws := (seqW (iffW (testW (callW 3 F_law_is_headed (consW (varW 0) (consW (conW (.str "turned")) (consW (conW (.int 1)) nilW))))) (retW (conW (.bool true))) nxtW) (seqW (iffW (testW (callW 3 F_law_is_headed (consW (varW 0) (consW (conW (.str "plus")) (consW (conW (.int 2)) nilW))))) (retW (callW 1 F_law_is_int (consW (opW ixF (varW 0) (conW (.int 1))) nilW))) nxtW) (seqW (iffW (testW (callW 3 F_law_is_headed (consW (varW 0) (consW (conW (.str "list")) (consW (conW (.int 2)) nilW))))) (seqW (iffW (orW (notW (testW (isinW "tuple" (opW ixF (varW 0) (conW (.int 1)))))) (notW (testW (chainW (iiF (fun _ _ => True) fun i j => .bool (decide (i ≤ j))) (iiF (fun _ _ => True) fun i j => .bool (decide (i ≤ j))) (conW (.int 1)) (cbW lenF (consW (opW ixF (varW 0) (conW (.int 1))) nilW)) (conW (.int 1000)))))) (retW (conW (.bool false))) nxtW) (retW (opW eqXF (lW (lcompW [1] (itTW (opW ixF (varW 0) (conW (.int 1)))) (gnW 1) (notW (testW (callW 1 F_law_is_int (consW (varW 1) nilW)))) (varW 1))) (lW (lstW nilW))))) nxtW) (seqW (iffW (orW (notW (testW (isinW "tuple" (varW 0)))) (orW (testW (opW neF (cbW lenF (consW (varW 0) nilW)) (conW (.int 2)))) (notW (testW (isinW "str" (opW ixF (varW 0) (conW (.int 0)))))))) (retW (conW (.bool false))) nxtW) (retW (andVW (opW inXF (opW ixF (varW 0) (conW (.int 0))) (tupW (consW (conW (.str "times")) (consW (conW (.str "over")) (consW (conW (.str "rest")) nilW))))) (callW 1 F_law_is_from_one (consW (opW ixF (varW 0) (conW (.int 1))) nilW))))))))
theorem ok_law_is_way (F_law_is_headed : Fm) (F_law_is_int : Fm) (F_law_is_from_one : Fm) {f : Addr} {fd : FuncData} {b : BP} (Z : Nones mg)  {f_law_is_headed : Addr} {fd_law_is_headed : FuncData} (D_law_is_headed : Dfn P w K mg base 1 f_law_is_headed fd_law_is_headed "_law_is_headed" ["thing", "word", "size"] (spD K b 3 F_law_is_headed)) {f_law_is_int : Addr} {fd_law_is_int : FuncData} (D_law_is_int : Dfn P w K mg base 1 f_law_is_int fd_law_is_int "_law_is_int" ["thing"] (spD K b 1 F_law_is_int)) {f_law_is_from_one : Addr} {fd_law_is_from_one : FuncData} (D_law_is_from_one : Dfn P w K mg base 2 f_law_is_from_one fd_law_is_from_one "_law_is_from_one" ["thing"] (spD K b 1 F_law_is_from_one)) (F : L2.Fun K "_law_is_way" "_law_is_way" s_law_is_way f fd) : GFn P w K mg base CX0 (3) f fd ["thing"] (spD K b 1 (bodyW 2 (m_law_is_way  F_law_is_headed F_law_is_int F_law_is_from_one))) := by
  have D_law_is_headedle : 1 ≤ 2 := by omega
  have D_law_is_intle : 1 ≤ 2 := by omega
  have D_law_is_from_onele : 2 ≤ 2 := by omega
  refine def_ok F sc_law_is_way ?_
  intro cdv A o s H E rm
  exact ⟨_, (pss_cons (ps_if (pt_val (pe_g (D_law_is_headed.gfn.mono D_law_is_headedle) rm (by rfl) D_law_is_headed.mg D_law_is_headed.kp D_law_is_headed.bi .nil pass0 (pa_cons (pv 0) (pa_cons pe_str (pa_cons pe_int pa_nil))))) (pss_one (ps_ret pe_bl)) pss_nil) (pss_cons (ps_if (pt_val (pe_g (D_law_is_headed.gfn.mono D_law_is_headedle) rm (by rfl) D_law_is_headed.mg D_law_is_headed.kp D_law_is_headed.bi .nil pass0 (pa_cons (pv 0) (pa_cons pe_str (pa_cons pe_int pa_nil))))) (pss_one (ps_ret (pe_g (D_law_is_int.gfn.mono D_law_is_intle) rm (by rfl) D_law_is_int.mg D_law_is_int.kp D_law_is_int.bi .nil pass0 (pa_cons (pe_ix ix_seq (pv 0) pe_int (fun _ _ => rfl)) pa_nil)))) pss_nil) (pss_cons (ps_if (pt_val (pe_g (D_law_is_headed.gfn.mono D_law_is_headedle) rm (by rfl) D_law_is_headed.mg D_law_is_headed.kp D_law_is_headed.bi .nil pass0 (pa_cons (pv 0) (pa_cons pe_str (pa_cons pe_int pa_nil))))) (pss_cons (ps_if (pw_or (pt_not (pt_val (pe_callB call_isiG (by rfl) Z.zisinstance (by rfl) (pa_cons (pe_ix ix_seq (pv 0) pe_int (fun _ _ => rfl)) (pa_cons (pe_bltn (v := .ty "tuple") (by rfl) Z.ztuple (by rfl) rfl) pa_nil))))) (pw_or1 (pt_not (pt_chain op_le op_le pe_int (pe_callB call_len (by rfl) Z.zlen (by rfl) (pa_cons (pe_ix ix_seq (pv 0) pe_int (fun _ _ => rfl)) pa_nil)) pe_int)))).pt (pss_one (ps_ret pe_bl)) pss_nil) (pss_one (ps_ret (pe_cmpR (op_eqX rm) (pe_lc (own := [("one", 1)]) rfl sc_law_is_way.nd (pi_tup (pe_ix ix_seq (pv 0) pe_int (fun _ _ => rfl))) (blkOk_by (by show blkC ["thing", "one"] (defScope s_law_is_way) _ _ = true; decide +kernel)) (fun _ _ _ _ _ => (pg_name (i := 1) sc_law_is_way.nd rfl (by first | exact Or.inl rfl | exact Or.inr rfl))) (fun _ _ _ _ _ => (pts_one (pt_not (pt_val (pe_g (D_law_is_int.gfn.mono D_law_is_intle) rm (by rfl) D_law_is_int.mg D_law_is_int.kp D_law_is_int.bi .nil pass0 (pa_cons (pv 1) pa_nil)))))) (fun _ _ _ _ _ => (pv 1))) (pe_lst pa_nil) (nomark _))))) pss_nil) (pss_cons (ps_if (pw_or (pt_not (pt_val (pe_callB call_isiG (by rfl) Z.zisinstance (by rfl) (pa_cons (pv 0) (pa_cons (pe_bltn (v := .ty "tuple") (by rfl) Z.ztuple (by rfl) rfl) pa_nil))))) (pw_or (pt_cmpR (op_neD rm.u64) (pe_callB call_len (by rfl) Z.zlen (by rfl) (pa_cons (pv 0) pa_nil)) pe_int (nomark _)) (pw_or1 (pt_not (pt_val (pe_callB call_isiG (by rfl) Z.zisinstance (by rfl) (pa_cons (pe_ix ix_seq (pv 0) pe_int (fun _ _ => rfl)) (pa_cons (pe_bltn (v := .ty "str") (by rfl) Z.zstr (by rfl) rfl) pa_nil)))))))).pt (pss_one (ps_ret pe_bl)) pss_nil) (pss_one (ps_ret (pe_and (pe_cmpR (op_inX rm) (pe_ix ix_seq (pv 0) pe_int (fun _ _ => rfl)) (pe_tupZ (pa_cons pe_str (pa_cons pe_str (pa_cons pe_str pa_nil)))) (by rfl)) (pe_one (pe_g (D_law_is_from_one.gfn.mono D_law_is_from_onele) rm (by rfl) D_law_is_from_one.mg D_law_is_from_one.kp D_law_is_from_one.bi .nil pass0 (pa_cons (pe_ix ix_seq (pv 0) pe_int (fun _ _ => rfl)) pa_nil)))))))))), (snd_seq (snd_ifS (snd_tB (snd_call (snd_cons snd_var (snd_cons snd_str (snd_cons snd_int snd_nil))))) (snd_ret snd_bl) snd_next) (snd_seq (snd_ifS (snd_tB (snd_call (snd_cons snd_var (snd_cons snd_str (snd_cons snd_int snd_nil))))) (snd_ret (snd_call (snd_cons (snd_op rv_ix snd_var snd_int) snd_nil))) snd_next) (snd_seq (snd_ifS (snd_tB (snd_call (snd_cons snd_var (snd_cons snd_str (snd_cons snd_int snd_nil))))) (snd_seq (snd_ifS (snd_or (snd_not (snd_tB (snd_isin (snd_op rv_ix snd_var snd_int)))) (snd_not (snd_test (snd_chain (rv_ii0 (f := fun i j => .bool (decide (i ≤ j))) fun _ _ _ => Dq.bl _) (rv_ii0 (f := fun i j => .bool (decide (i ≤ j))) fun _ _ _ => Dq.bl _) snd_int (snd_cb rc_len (snd_cons (snd_op rv_ix snd_var snd_int) snd_nil)) snd_int)))) (snd_ret snd_bl) snd_next) (snd_ret (snd_op rv_eqX (snd_l (snd_lc (si_tup (snd_op rv_ix snd_var snd_int)) sg_name gin_name (snd_not (snd_tB (snd_call (snd_cons snd_var snd_nil)))) snd_var)) (snd_l (snd_lst snd_nil))))) snd_next) (snd_seq (snd_ifS (snd_or (snd_not (snd_tB (snd_isin snd_var))) (snd_or (snd_test (snd_op rv_neD (snd_cb rc_len (snd_cons snd_var snd_nil)) snd_int)) (snd_not (snd_tB (snd_isin (snd_op rv_ix snd_var snd_int)))))) (snd_ret snd_bl) snd_next) (snd_ret (snd_andV (snd_op rv_inX (snd_op rv_ix snd_var snd_int) (snd_tup (snd_cons snd_str (snd_cons snd_str (snd_cons snd_str snd_nil))))) (snd_call (snd_cons (snd_op rv_ix snd_var snd_int) snd_nil))))))))⟩
abbrev s_law_odd : Stmt := top 36
theorem sc_law_odd : FnScope ["bag", "some"] ["bag"] (defScope s_law_odd) := ⟨rfl, rfl, rfl, by decide +kernel, rfl, by decide +kernel, by decide +kernel⟩
def m_law_odd  (F_law_some : Fm) : Ws := (seqW (setFW 1 (lstW (consW (conW .none) (consW (conW (.bool true)) (consW (conW (.bool false)) (consW (conW (.int 0)) (consW (conW (.int 1)) (consW (negW (conW (.int 1))) (consW (opW (iiF CPow fun i j => .int (i ^ j.toNat)) (conW (.int 10)) (conW (.int 39))) (consW (conW (.str "")) (consW (conW (.str "x")) (consW (conW (.str "key")) (consW (conW (.str "A")) (consW (conW (.str "a1")) (consW (tupW nilW) (consW (frzW (lstW nilW)) (consW noneW (consW (tupW (consW (conW (.int 0)) nilW)) (consW (frzW (lstW (consW (conW (.int 0)) nilW))) (consW (tupW (consW (conW (.str "int")) nilW)) (consW (tupW (consW (conW (.str "key")) nilW)) nilW))))))))))))))))))))) (seqW (setFW 1 (opF catF (varW 1) (lW (lstW (consW (tupW (consW (conW (.str "true")) nilW)) (consW (tupW (consW (conW (.str "num")) (consW (conW (.int 1)) nilW))) (consW (tupW (consW (conW (.str "num")) (consW (conW (.bool true)) nilW))) (consW (tupW (consW (conW (.str "col")) (consW (conW (.str "end")) nilW))) (consW (tupW (consW (conW (.str "below")) (consW (conW (.int 0)) nilW))) (consW (tupW (consW (conW (.str "below")) (consW (conW (.int 1001)) nilW))) (consW (tupW (consW (conW (.str "ref")) (consW (conW (.str "to")) nilW))) nilW))))))))))) (seqW (setFW 1 (opF catF (varW 1) (lW (lstW (consW (tupW (consW (conW (.str "list")) (consW (tupW nilW) nilW))) (consW (tupW (consW (conW (.str "plus")) (consW (conW .none) nilW))) (consW (tupW (consW (conW (.str "by")) (consW (tupW (consW (conW (.str "turned")) nilW)) (consW (tupW (consW (conW (.str "key")) nilW)) nilW)))) (consW (tupW (consW (conW (.str "none")) nilW)) (consW (tupW (consW (conW (.str "take")) (consW (conW (.str "a")) nilW))) (consW (dis1W (conW (.int 0)) (tupW nilW)) nilW)))))))))) (retW (callW 2 F_law_some (consW (varW 0) (consW (lW (opF catF (varW 1) (lW (lstW (consW (tupW (consW (tupW nilW) (consW (tupW nilW) nilW))) nilW))))) nilW)))))))
theorem ok_law_odd (F_law_some : Fm) {f : Addr} {fd : FuncData} {b : BP} (Z : Nones mg)  {f_law_some : Addr} {fd_law_some : FuncData} (D_law_some : Dfn P w K mg base 2 f_law_some fd_law_some "_law_some" ["bag", "things"] (spD K b 2 F_law_some)) (F : L2.Fun K "_law_odd" "_law_odd" s_law_odd f fd) : GFn P w K mg base CX0 (3) f fd ["bag"] (spD K b 1 (bodyW 2 (m_law_odd  F_law_some))) := by
  have D_law_somele : 2 ≤ 2 := by omega
  refine def_ok F sc_law_odd ?_
  intro cdv A o s H E rm
  exact ⟨_, (pss_cons (ps_set (i := 1) sc_law_odd.nd rfl (by first | exact Or.inl rfl | exact Or.inr rfl) (pe_lst (pa_cons pe_non (pa_cons pe_bl (pa_cons pe_bl (pa_cons pe_int (pa_cons pe_int (pa_cons (pe_un un_neg pe_int) (pa_cons (pe_op op_pow pe_int pe_int) (pa_cons pe_str (pa_cons pe_str (pa_cons pe_str (pa_cons pe_str (pa_cons pe_str (pa_cons (pe_tupZ pa_nil) (pa_cons (pe_lst pa_nil) (pa_cons pe_dnewK (pa_cons (pe_tupZ (pa_cons pe_int pa_nil)) (pa_cons (pe_lst (pa_cons pe_int pa_nil)) (pa_cons (pe_tupZ (pa_cons pe_str pa_nil)) (pa_cons (pe_tupZ (pa_cons pe_str pa_nil)) pa_nil))))))))))))))))))))) (pss_cons (ps_set (i := 1) sc_law_odd.nd rfl (by first | exact Or.inl rfl | exact Or.inr rfl) (pe_op op_cat (pv 1) (pe_lst (pa_cons (pe_tupZ (pa_cons pe_str pa_nil)) (pa_cons (pe_tupZ (pa_cons pe_str (pa_cons pe_int pa_nil))) (pa_cons (pe_tupZ (pa_cons pe_str (pa_cons pe_bl pa_nil))) (pa_cons (pe_tupZ (pa_cons pe_str (pa_cons pe_str pa_nil))) (pa_cons (pe_tupZ (pa_cons pe_str (pa_cons pe_int pa_nil))) (pa_cons (pe_tupZ (pa_cons pe_str (pa_cons pe_int pa_nil))) (pa_cons (pe_tupZ (pa_cons pe_str (pa_cons pe_str pa_nil))) pa_nil)))))))))) (pss_cons (ps_set (i := 1) sc_law_odd.nd rfl (by first | exact Or.inl rfl | exact Or.inr rfl) (pe_op op_cat (pv 1) (pe_lst (pa_cons (pe_tupZ (pa_cons pe_str (pa_cons (pe_tupZ pa_nil) pa_nil))) (pa_cons (pe_tupZ (pa_cons pe_str (pa_cons pe_non pa_nil))) (pa_cons (pe_tupZ (pa_cons pe_str (pa_cons (pe_tupZ (pa_cons pe_str pa_nil)) (pa_cons (pe_tupZ (pa_cons pe_str pa_nil)) pa_nil)))) (pa_cons (pe_tupZ (pa_cons pe_str pa_nil)) (pa_cons (pe_tupZ (pa_cons pe_str (pa_cons pe_str pa_nil))) (pa_cons (pe_disp (pps_cons pe_int (pe_tupZ pa_nil) pps_nil) rfl rfl (by simp) (by decide)) pa_nil))))))))) (pss_one (ps_ret (pe_g (D_law_some.gfn.mono D_law_somele) rm (by rfl) D_law_some.mg D_law_some.kp D_law_some.bi .nil pass0 (pa_cons (pv 0) (pa_cons (pe_op op_cat (pv 1) (pe_lst (pa_cons (pe_tupZ (pa_cons (pe_tupZ pa_nil) (pa_cons (pe_tupZ pa_nil) pa_nil))) pa_nil))) pa_nil)))))))), (snd_seq (snd_setF (snd_lst (snd_cons snd_non (snd_cons snd_bl (snd_cons snd_bl (snd_cons snd_int (snd_cons snd_int (snd_cons (snd_neg snd_int) (snd_cons (snd_op (rv_ii (C := CPow) (f := fun i j => .int (i ^ j.toNat)) fun _ _ _ => Dq.int _) snd_int snd_int) (snd_cons snd_str (snd_cons snd_str (snd_cons snd_str (snd_cons snd_str (snd_cons snd_str (snd_cons (snd_tup snd_nil) (snd_cons (snd_frz (snd_lst snd_nil)) (snd_cons snd_dnew (snd_cons (snd_tup (snd_cons snd_int snd_nil)) (snd_cons (snd_frz (snd_lst (snd_cons snd_int snd_nil))) (snd_cons (snd_tup (snd_cons snd_str snd_nil)) (snd_cons (snd_tup (snd_cons snd_str snd_nil)) snd_nil))))))))))))))))))))) (snd_seq (snd_setF (snd_opF rv_cat snd_var (snd_l (snd_lst (snd_cons (snd_tup (snd_cons snd_str snd_nil)) (snd_cons (snd_tup (snd_cons snd_str (snd_cons snd_int snd_nil))) (snd_cons (snd_tup (snd_cons snd_str (snd_cons snd_bl snd_nil))) (snd_cons (snd_tup (snd_cons snd_str (snd_cons snd_str snd_nil))) (snd_cons (snd_tup (snd_cons snd_str (snd_cons snd_int snd_nil))) (snd_cons (snd_tup (snd_cons snd_str (snd_cons snd_int snd_nil))) (snd_cons (snd_tup (snd_cons snd_str (snd_cons snd_str snd_nil))) snd_nil))))))))))) (snd_seq (snd_setF (snd_opF rv_cat snd_var (snd_l (snd_lst (snd_cons (snd_tup (snd_cons snd_str (snd_cons (snd_tup snd_nil) snd_nil))) (snd_cons (snd_tup (snd_cons snd_str (snd_cons snd_non snd_nil))) (snd_cons (snd_tup (snd_cons snd_str (snd_cons (snd_tup (snd_cons snd_str snd_nil)) (snd_cons (snd_tup (snd_cons snd_str snd_nil)) snd_nil)))) (snd_cons (snd_tup (snd_cons snd_str snd_nil)) (snd_cons (snd_tup (snd_cons snd_str (snd_cons snd_str snd_nil))) (snd_cons (snd_dis1 snd_int (snd_tup snd_nil)) snd_nil)))))))))) (snd_ret (snd_call (snd_cons snd_var (snd_cons (snd_l (snd_opF rv_cat snd_var (snd_l (snd_lst (snd_cons (snd_tup (snd_cons (snd_tup snd_nil) (snd_cons (snd_tup snd_nil) snd_nil))) snd_nil))))) snd_nil)))))))⟩
abbrev s_law_bent : Stmt := top 37
theorem sc_law_bent : FnScope ["bag", "thing", "way", "odd", "at", "some", "names", "found", "near"] ["bag", "thing"] (defScope s_law_bent) := ⟨rfl, rfl, rfl, by decide +kernel, rfl, by decide +kernel, by decide +kernel⟩
def m_law_bent  (F_law_odd : Fm) (F_law_take : Fm) (F_law_bent : Fm) (F_law_some : Fm) (F_law_is_int : Fm) : Ws := (seqW (parW 2 3 (consW (callW 2 F_law_take (consW (varW 0) (consW (conW (.int 7)) nilW))) (consW (callW 1 F_law_odd (consW (varW 0) nilW)) nilW))) (seqW (iffW (andW (testW (isinW "tuple" (varW 1))) (andW (testW (opW neF (varW 1) (tupW nilW))) (testW (opW (iiF (fun _ _ => True) fun i j => .bool (decide (j < i))) (varW 2) (conW (.int 1)))))) (seqW (setW 4 (callW 2 F_law_take (consW (varW 0) (consW (cbW lenF (consW (varW 1) nilW)) nilW)))) (retW (opW catXF (opW catXF (slXW (varW 1) noW (partW (varW 4))) (tupW (consW (callW 2 F_law_bent (consW (varW 0) (consW (opW ixF (varW 1) (varW 4)) nilW))) nilW))) (slXW (varW 1) (partW (opW (iiF (fun _ _ => True) fun i j => .int (i + j)) (varW 4) (conW (.int 1)))) noW)))) nxtW) (seqW (iffW (testW (isinW "tuple" (varW 1))) (seqW (setFW 5 (lstW (consW (frzW (cbF listF (consW (varW 1) nilW))) (consW (slXW (varW 1) (partW (conW (.int 1))) noW) (consW (opW catXF (varW 1) (slXW (varW 1) noW (partW (conW (.int 1))))) (consW (revW (varW 1)) (consW (varW 3) (consW (opW catXF (varW 1) (tupW (consW (conW .none) nilW))) (consW (slXW (varW 1) noW (partW (negW (conW (.int 1))))) nilW))))))))) (retW (callW 2 F_law_some (consW (varW 0) (consW (varW 5) nilW))))) nxtW) (seqW (iffNW (testW (isinW "dict" (varW 1))) nxtW) (seqW (iffW (testW (callW 1 F_law_is_int (consW (varW 1) nilW))) (retW (callW 2 F_law_some (consW (varW 0) (consW (lW (lstW (consW (opW eqXF (varW 1) (conW (.int 1))) (consW (opW (iiF (fun _ _ => True) fun i j => .int (i + j)) (varW 1) (conW (.int 1))) (consW (negW (varW 1)) (consW (opW (iiF CPow fun i j => .int (i ^ j.toNat)) (conW (.int 10)) (conW (.int 39))) (consW (cbW strIF (consW (varW 1) nilW)) (consW (conW .none) (consW (varW 3) (consW (conW (.int 1000)) (consW (conW (.int 1001)) (consW (conW (.int 0)) (consW (conW (.int 1)) nilW))))))))))))) nilW)))) nxtW) (seqW (iffW (testW (isinW "str" (varW 1))) (seqW (setFW 8 (lstW (consW (opW catSF (varW 1) (conW (.str "s"))) (consW (slSW (varW 1) noW (partW (negW (conW (.int 1))))) (consW (uppW (varW 1)) (consW (opW catSF (varW 1) (conW (.str "1"))) (consW (opW catSF (conW (.str "1")) (varW 1)) (consW (opW catSF (varW 1) (conW (.str " "))) (consW (conW .none) (consW (varW 3) (consW (conW (.str "key")) (consW (conW (.str "int")) nilW)))))))))))) (seqW (setFW 8 (opF catF (varW 8) (lW (lstW (consW (conW (.str "below")) (consW (conW (.str "ref")) (consW (conW (.str "may")) (consW (conW (.str "num")) (consW (conW (.str "and")) (consW (conW (.str "add")) (consW (conW (.str "m")) (consW (conW (.str "n")) (consW (conW (.str "a")) (consW (conW (.str "bird")) (consW (opW repSF (conW (.str "a")) (conW (.int 12))) (consW (opW repSF (conW (.str "a")) (conW (.int 13))) nilW)))))))))))))))) (retW (callW 2 F_law_some (consW (varW 0) (consW (varW 8) nilW)))))) nxtW) (retW (varW 3))))))))
theorem ok_law_bent (F_law_odd : Fm) (F_law_take : Fm) (F_law_bent : Fm) (F_law_some : Fm) (F_law_is_int : Fm) {f : Addr} {fd : FuncData} {b : BP} (Z : Nones mg) {n : Nat} (hnz : 3 ≤ n)  {f_law_odd : Addr} {fd_law_odd : FuncData} (D_law_odd : Dfn P w K mg base 3 f_law_odd fd_law_odd "_law_odd" ["bag"] (spD K b 1 F_law_odd)) {f_law_take : Addr} {fd_law_take : FuncData} (D_law_take : Dfn P w K mg base 1 f_law_take fd_law_take "_law_take" ["bag", "many"] (spD K b 2 F_law_take)) {f_law_bent : Addr} {fd_law_bent : FuncData} (D_law_bent : Dfn P w K mg base n f_law_bent fd_law_bent "_law_bent" ["bag", "thing"] (spD K b 2 F_law_bent)) {f_law_some : Addr} {fd_law_some : FuncData} (D_law_some : Dfn P w K mg base 2 f_law_some fd_law_some "_law_some" ["bag", "things"] (spD K b 2 F_law_some)) {f_law_is_int : Addr} {fd_law_is_int : FuncData} (D_law_is_int : Dfn P w K mg base 1 f_law_is_int fd_law_is_int "_law_is_int" ["thing"] (spD K b 1 F_law_is_int)) (F : L2.Fun K "_law_bent" "_law_bent" s_law_bent f fd) : GFn P w K mg base CX0 (n + 1) f fd ["bag", "thing"] (spD K b 2 (bodyW 9 (m_law_bent  F_law_odd F_law_take F_law_bent F_law_some F_law_is_int))) := by
  have D_law_oddle : 3 ≤ n := by omega
  have D_law_takele : 1 ≤ n := by omega
  have D_law_bentle : n ≤ n := by omega
  have D_law_somele : 2 ≤ n := by omega
  have D_law_is_intle : 1 ≤ n := by omega
  refine def_ok F sc_law_bent ?_
  intro cdv A o s H E rm
  exact ⟨_, (pss_cons (ps_par (i := 2) (j := 3) rfl sc_law_bent.nd rfl rfl (by decide) rfl rfl (by exact (pa_cons (pe_g (D_law_take.gfn.mono D_law_takele) rm (by rfl) D_law_take.mg D_law_take.kp D_law_take.bi .nil pass0 (pa_cons (pv 0) (pa_cons pe_int pa_nil))) (pa_cons (pe_g (D_law_odd.gfn.mono D_law_oddle) rm (by rfl) D_law_odd.mg D_law_odd.kp D_law_odd.bi .nil pass0 (pa_cons (pv 0) pa_nil)) pa_nil))) rfl) (pss_cons (ps_if (pw_and (pt_val (pe_callB call_isiG (by rfl) Z.zisinstance (by rfl) (pa_cons (pv 1) (pa_cons (pe_bltn (v := .ty "tuple") (by rfl) Z.ztuple (by rfl) rfl) pa_nil)))) (pw_and (pt_cmpR (op_neD rm.u64) (pv 1) (pe_tupZ pa_nil) (nomark _)) (pw_and1 (pt_cmpR op_gt (pv 2) pe_int (nomark _))))).pt (pss_cons (ps_set (i := 4) sc_law_bent.nd rfl (by first | exact Or.inl rfl | exact Or.inr rfl) (pe_g (D_law_take.gfn.mono D_law_takele) rm (by rfl) D_law_take.mg D_law_take.kp D_law_take.bi .nil pass0 (pa_cons (pv 0) (pa_cons (pe_callB call_len (by rfl) Z.zlen (by rfl) (pa_cons (pv 1) pa_nil)) pa_nil)))) (pss_one (ps_ret (pe_op op_catX (pe_op op_catX (pe_slice sl_tupX (pv 1) po_none (po_some (pv 4))) (pe_tupZ (pa_cons (pe_g (D_law_bent.gfn.mono D_law_bentle) rm (by rfl) D_law_bent.mg D_law_bent.kp D_law_bent.bi .nil pass0 (pa_cons (pv 0) (pa_cons (pe_ix ix_seq (pv 1) (pv 4) (fun _ _ => rfl)) pa_nil))) pa_nil))) (pe_slice sl_tupX (pv 1) (po_some (pe_op op_add (pv 4) pe_int)) po_none))))) pss_nil) (pss_cons (ps_if (pt_val (pe_callB call_isiG (by rfl) Z.zisinstance (by rfl) (pa_cons (pv 1) (pa_cons (pe_bltn (v := .ty "tuple") (by rfl) Z.ztuple (by rfl) rfl) pa_nil)))) (pss_cons (ps_set (i := 5) sc_law_bent.nd rfl (by first | exact Or.inl rfl | exact Or.inr rfl) (pe_lst (pa_cons (pe_callTy call_list_of (by rfl) Z.zlist (by rfl) (pa_cons (pv 1) pa_nil)) (pa_cons (pe_slice sl_tupX (pv 1) (po_some pe_int) po_none) (pa_cons (pe_op op_catX (pv 1) (pe_slice sl_tupX (pv 1) po_none (po_some pe_int))) (pa_cons (pe_revT (pv 1)) (pa_cons (pv 3) (pa_cons (pe_op op_catX (pv 1) (pe_tupZ (pa_cons pe_non pa_nil))) (pa_cons (pe_slice sl_tupX (pv 1) po_none (po_some (pe_un un_neg pe_int))) pa_nil))))))))) (pss_one (ps_ret (pe_g (D_law_some.gfn.mono D_law_somele) rm (by rfl) D_law_some.mg D_law_some.kp D_law_some.bi .nil pass0 (pa_cons (pv 0) (pa_cons (pv 5) pa_nil)))))) pss_nil) (pss_cons (ps_if (pt_val (pe_callB call_isiG (by rfl) Z.zisinstance (by rfl) (pa_cons (pv 1) (pa_cons (pe_bltn (v := .ty "dict") (by rfl) Z.zdict (by rfl) rfl) pa_nil)))) pss_dead pss_nil) (pss_cons (ps_if (pt_val (pe_g (D_law_is_int.gfn.mono D_law_is_intle) rm (by rfl) D_law_is_int.mg D_law_is_int.kp D_law_is_int.bi .nil pass0 (pa_cons (pv 1) pa_nil))) (pss_one (ps_ret (pe_g (D_law_some.gfn.mono D_law_somele) rm (by rfl) D_law_some.mg D_law_some.kp D_law_some.bi .nil pass0 (pa_cons (pv 0) (pa_cons (pe_lst (pa_cons (pe_cmpR (op_eqX rm) (pv 1) pe_int (nomark _)) (pa_cons (pe_op op_add (pv 1) pe_int) (pa_cons (pe_un un_neg (pv 1)) (pa_cons (pe_op op_pow pe_int pe_int) (pa_cons (pe_callTy call_str_int (by rfl) Z.zstr (by rfl) (pa_cons (pv 1) pa_nil)) (pa_cons pe_non (pa_cons (pv 3) (pa_cons pe_int (pa_cons pe_int (pa_cons pe_int (pa_cons pe_int pa_nil)))))))))))) pa_nil))))) pss_nil) (pss_cons (ps_if (pt_val (pe_callB call_isiG (by rfl) Z.zisinstance (by rfl) (pa_cons (pv 1) (pa_cons (pe_bltn (v := .ty "str") (by rfl) Z.zstr (by rfl) rfl) pa_nil)))) (pss_cons (ps_set (i := 8) sc_law_bent.nd rfl (by first | exact Or.inl rfl | exact Or.inr rfl) (pe_lst (pa_cons (pe_op op_add_str (pv 1) pe_str) (pa_cons (pe_slice C8.sl_txt (pv 1) po_none (po_some (pe_un un_neg pe_int))) (pa_cons (pe_m0 PySem.F.slot_str_upper PySem.F.type_str_upper mt_upper (pv 1)) (pa_cons (pe_op op_add_str (pv 1) pe_str) (pa_cons (pe_op op_add_str pe_str (pv 1)) (pa_cons (pe_op op_add_str (pv 1) pe_str) (pa_cons pe_non (pa_cons (pv 3) (pa_cons pe_str (pa_cons pe_str pa_nil)))))))))))) (pss_cons (ps_set (i := 8) sc_law_bent.nd rfl (by first | exact Or.inl rfl | exact Or.inr rfl) (pe_op op_cat (pv 8) (pe_lst (pa_cons pe_str (pa_cons pe_str (pa_cons pe_str (pa_cons pe_str (pa_cons pe_str (pa_cons pe_str (pa_cons pe_str (pa_cons pe_str (pa_cons pe_str (pa_cons pe_str (pa_cons (pe_op op_repS pe_str pe_int) (pa_cons (pe_op op_repS pe_str pe_int) pa_nil))))))))))))))) (pss_one (ps_ret (pe_g (D_law_some.gfn.mono D_law_somele) rm (by rfl) D_law_some.mg D_law_some.kp D_law_some.bi .nil pass0 (pa_cons (pv 0) (pa_cons (pv 8) pa_nil))))))) pss_nil) (pss_one (ps_ret (pv 3))))))))), (snd_seq (snd_par (snd_cons (snd_call (snd_cons snd_var (snd_cons snd_int snd_nil))) (snd_cons (snd_call (snd_cons snd_var snd_nil)) snd_nil))) (snd_seq (snd_ifS (snd_and (snd_tB (snd_isin snd_var)) (snd_and (snd_test (snd_op rv_neD snd_var (snd_tup snd_nil))) (snd_test (snd_op (rv_ii0 (f := fun i j => .bool (decide (j < i))) fun _ _ _ => Dq.bl _) snd_var snd_int)))) (snd_seq (snd_set (snd_call (snd_cons snd_var (snd_cons (snd_cb rc_len (snd_cons snd_var snd_nil)) snd_nil)))) (snd_ret (snd_op rv_catX (snd_op rv_catX (snd_slX snd_var so_no (so_part snd_var)) (snd_tup (snd_cons (snd_call (snd_cons snd_var (snd_cons (snd_op rv_ix snd_var snd_var) snd_nil))) snd_nil))) (snd_slX snd_var (so_part (snd_op (rv_ii0 (f := fun i j => .int (i + j)) fun _ _ _ => Dq.int _) snd_var snd_int)) so_no)))) snd_next) (snd_seq (snd_ifS (snd_tB (snd_isin snd_var)) (snd_seq (snd_setF (snd_lst (snd_cons (snd_frz (snd_cbF rc_list (snd_cons snd_var snd_nil))) (snd_cons (snd_slX snd_var (so_part snd_int) so_no) (snd_cons (snd_op rv_catX snd_var (snd_slX snd_var so_no (so_part snd_int))) (snd_cons (snd_rev snd_var) (snd_cons snd_var (snd_cons (snd_op rv_catX snd_var (snd_tup (snd_cons snd_non snd_nil))) (snd_cons (snd_slX snd_var so_no (so_part (snd_neg snd_int))) snd_nil))))))))) (snd_ret (snd_call (snd_cons snd_var (snd_cons snd_var snd_nil))))) snd_next) (snd_seq (snd_ifN (snd_tB (snd_isin snd_var)) snd_next) (snd_seq (snd_ifS (snd_tB (snd_call (snd_cons snd_var snd_nil))) (snd_ret (snd_call (snd_cons snd_var (snd_cons (snd_l (snd_lst (snd_cons (snd_op rv_eqX snd_var snd_int) (snd_cons (snd_op (rv_ii0 (f := fun i j => .int (i + j)) fun _ _ _ => Dq.int _) snd_var snd_int) (snd_cons (snd_neg snd_var) (snd_cons (snd_op (rv_ii (C := CPow) (f := fun i j => .int (i ^ j.toNat)) fun _ _ _ => Dq.int _) snd_int snd_int) (snd_cons (snd_cb rc_strI (snd_cons snd_var snd_nil)) (snd_cons snd_non (snd_cons snd_var (snd_cons snd_int (snd_cons snd_int (snd_cons snd_int (snd_cons snd_int snd_nil))))))))))))) snd_nil)))) snd_next) (snd_seq (snd_ifS (snd_tB (snd_isin snd_var)) (snd_seq (snd_setF (snd_lst (snd_cons (snd_op rv_catS snd_var snd_str) (snd_cons (snd_slS snd_var so_no (so_part (snd_neg snd_int))) (snd_cons (snd_upp snd_var) (snd_cons (snd_op rv_catS snd_var snd_str) (snd_cons (snd_op rv_catS snd_str snd_var) (snd_cons (snd_op rv_catS snd_var snd_str) (snd_cons snd_non (snd_cons snd_var (snd_cons snd_str (snd_cons snd_str snd_nil)))))))))))) (snd_seq (snd_setF (snd_opF rv_cat snd_var (snd_l (snd_lst (snd_cons snd_str (snd_cons snd_str (snd_cons snd_str (snd_cons snd_str (snd_cons snd_str (snd_cons snd_str (snd_cons snd_str (snd_cons snd_str (snd_cons snd_str (snd_cons snd_str (snd_cons (snd_op rv_repS snd_str snd_int) (snd_cons (snd_op rv_repS snd_str snd_int) snd_nil)))))))))))))))) (snd_ret (snd_call (snd_cons snd_var (snd_cons snd_var snd_nil)))))) snd_next) (snd_ret snd_var)))))))⟩
def m_law_bentZ  (F_law_odd : Fm) (F_law_take : Fm) (F_law_some : Fm) (F_law_is_int : Fm) : Ws := (seqW (parW 2 3 (consW (callW 2 F_law_take (consW (varW 0) (consW (conW (.int 7)) nilW))) (consW (callW 1 F_law_odd (consW (varW 0) nilW)) nilW))) (seqW (iffNW (andW (testW (isinW "tuple" (varW 1))) (andW (testW (opW neF (varW 1) (tupW nilW))) (testW (opW (iiF (fun _ _ => True) fun i j => .bool (decide (j < i))) (varW 2) (conW (.int 1)))))) nxtW) (seqW (iffW (testW (isinW "tuple" (varW 1))) (seqW (setFW 5 (lstW (consW (frzW (cbF listF (consW (varW 1) nilW))) (consW (slXW (varW 1) (partW (conW (.int 1))) noW) (consW (opW catXF (varW 1) (slXW (varW 1) noW (partW (conW (.int 1))))) (consW (revW (varW 1)) (consW (varW 3) (consW (opW catXF (varW 1) (tupW (consW (conW .none) nilW))) (consW (slXW (varW 1) noW (partW (negW (conW (.int 1))))) nilW))))))))) (retW (callW 2 F_law_some (consW (varW 0) (consW (varW 5) nilW))))) nxtW) (seqW (iffNW (testW (isinW "dict" (varW 1))) nxtW) (seqW (iffW (testW (callW 1 F_law_is_int (consW (varW 1) nilW))) (retW (callW 2 F_law_some (consW (varW 0) (consW (lW (lstW (consW (opW eqXF (varW 1) (conW (.int 1))) (consW (opW (iiF (fun _ _ => True) fun i j => .int (i + j)) (varW 1) (conW (.int 1))) (consW (negW (varW 1)) (consW (opW (iiF CPow fun i j => .int (i ^ j.toNat)) (conW (.int 10)) (conW (.int 39))) (consW (cbW strIF (consW (varW 1) nilW)) (consW (conW .none) (consW (varW 3) (consW (conW (.int 1000)) (consW (conW (.int 1001)) (consW (conW (.int 0)) (consW (conW (.int 1)) nilW))))))))))))) nilW)))) nxtW) (seqW (iffW (testW (isinW "str" (varW 1))) (seqW (setFW 8 (lstW (consW (opW catSF (varW 1) (conW (.str "s"))) (consW (slSW (varW 1) noW (partW (negW (conW (.int 1))))) (consW (uppW (varW 1)) (consW (opW catSF (varW 1) (conW (.str "1"))) (consW (opW catSF (conW (.str "1")) (varW 1)) (consW (opW catSF (varW 1) (conW (.str " "))) (consW (conW .none) (consW (varW 3) (consW (conW (.str "key")) (consW (conW (.str "int")) nilW)))))))))))) (seqW (setFW 8 (opF catF (varW 8) (lW (lstW (consW (conW (.str "below")) (consW (conW (.str "ref")) (consW (conW (.str "may")) (consW (conW (.str "num")) (consW (conW (.str "and")) (consW (conW (.str "add")) (consW (conW (.str "m")) (consW (conW (.str "n")) (consW (conW (.str "a")) (consW (conW (.str "bird")) (consW (opW repSF (conW (.str "a")) (conW (.int 12))) (consW (opW repSF (conW (.str "a")) (conW (.int 13))) nilW)))))))))))))))) (retW (callW 2 F_law_some (consW (varW 0) (consW (varW 8) nilW)))))) nxtW) (retW (varW 3))))))))
theorem ok_law_bentZ (F_law_odd : Fm) (F_law_take : Fm) (F_law_some : Fm) (F_law_is_int : Fm) {f : Addr} {fd : FuncData} {b : BP} (Z : Nones mg)  {f_law_odd : Addr} {fd_law_odd : FuncData} (D_law_odd : Dfn P w K mg base 3 f_law_odd fd_law_odd "_law_odd" ["bag"] (spD K b 1 F_law_odd)) {f_law_take : Addr} {fd_law_take : FuncData} (D_law_take : Dfn P w K mg base 1 f_law_take fd_law_take "_law_take" ["bag", "many"] (spD K b 2 F_law_take)) {f_law_some : Addr} {fd_law_some : FuncData} (D_law_some : Dfn P w K mg base 2 f_law_some fd_law_some "_law_some" ["bag", "things"] (spD K b 2 F_law_some)) {f_law_is_int : Addr} {fd_law_is_int : FuncData} (D_law_is_int : Dfn P w K mg base 1 f_law_is_int fd_law_is_int "_law_is_int" ["thing"] (spD K b 1 F_law_is_int)) (F : L2.Fun K "_law_bent" "_law_bent" s_law_bent f fd) : GFn P w K mg base CX0 (4) f fd ["bag", "thing"] (spD K b 2 (bodyW 9 (m_law_bentZ  F_law_odd F_law_take F_law_some F_law_is_int))) := by
  have D_law_oddle : 3 ≤ 3 := by omega
  have D_law_takele : 1 ≤ 3 := by omega
  have D_law_somele : 2 ≤ 3 := by omega
  have D_law_is_intle : 1 ≤ 3 := by omega
  refine def_ok F sc_law_bent ?_
  intro cdv A o s H E rm
  exact ⟨_, (pss_cons (ps_par (i := 2) (j := 3) rfl sc_law_bent.nd rfl rfl (by decide) rfl rfl (by exact (pa_cons (pe_g (D_law_take.gfn.mono D_law_takele) rm (by rfl) D_law_take.mg D_law_take.kp D_law_take.bi .nil pass0 (pa_cons (pv 0) (pa_cons pe_int pa_nil))) (pa_cons (pe_g (D_law_odd.gfn.mono D_law_oddle) rm (by rfl) D_law_odd.mg D_law_odd.kp D_law_odd.bi .nil pass0 (pa_cons (pv 0) pa_nil)) pa_nil))) rfl) (pss_cons (ps_if (pw_and (pt_val (pe_callB call_isiG (by rfl) Z.zisinstance (by rfl) (pa_cons (pv 1) (pa_cons (pe_bltn (v := .ty "tuple") (by rfl) Z.ztuple (by rfl) rfl) pa_nil)))) (pw_and (pt_cmpR (op_neD rm.u64) (pv 1) (pe_tupZ pa_nil) (nomark _)) (pw_and1 (pt_cmpR op_gt (pv 2) pe_int (nomark _))))).pt pss_dead pss_nil) (pss_cons (ps_if (pt_val (pe_callB call_isiG (by rfl) Z.zisinstance (by rfl) (pa_cons (pv 1) (pa_cons (pe_bltn (v := .ty "tuple") (by rfl) Z.ztuple (by rfl) rfl) pa_nil)))) (pss_cons (ps_set (i := 5) sc_law_bent.nd rfl (by first | exact Or.inl rfl | exact Or.inr rfl) (pe_lst (pa_cons (pe_callTy call_list_of (by rfl) Z.zlist (by rfl) (pa_cons (pv 1) pa_nil)) (pa_cons (pe_slice sl_tupX (pv 1) (po_some pe_int) po_none) (pa_cons (pe_op op_catX (pv 1) (pe_slice sl_tupX (pv 1) po_none (po_some pe_int))) (pa_cons (pe_revT (pv 1)) (pa_cons (pv 3) (pa_cons (pe_op op_catX (pv 1) (pe_tupZ (pa_cons pe_non pa_nil))) (pa_cons (pe_slice sl_tupX (pv 1) po_none (po_some (pe_un un_neg pe_int))) pa_nil))))))))) (pss_one (ps_ret (pe_g (D_law_some.gfn.mono D_law_somele) rm (by rfl) D_law_some.mg D_law_some.kp D_law_some.bi .nil pass0 (pa_cons (pv 0) (pa_cons (pv 5) pa_nil)))))) pss_nil) (pss_cons (ps_if (pt_val (pe_callB call_isiG (by rfl) Z.zisinstance (by rfl) (pa_cons (pv 1) (pa_cons (pe_bltn (v := .ty "dict") (by rfl) Z.zdict (by rfl) rfl) pa_nil)))) pss_dead pss_nil) (pss_cons (ps_if (pt_val (pe_g (D_law_is_int.gfn.mono D_law_is_intle) rm (by rfl) D_law_is_int.mg D_law_is_int.kp D_law_is_int.bi .nil pass0 (pa_cons (pv 1) pa_nil))) (pss_one (ps_ret (pe_g (D_law_some.gfn.mono D_law_somele) rm (by rfl) D_law_some.mg D_law_some.kp D_law_some.bi .nil pass0 (pa_cons (pv 0) (pa_cons (pe_lst (pa_cons (pe_cmpR (op_eqX rm) (pv 1) pe_int (nomark _)) (pa_cons (pe_op op_add (pv 1) pe_int) (pa_cons (pe_un un_neg (pv 1)) (pa_cons (pe_op op_pow pe_int pe_int) (pa_cons (pe_callTy call_str_int (by rfl) Z.zstr (by rfl) (pa_cons (pv 1) pa_nil)) (pa_cons pe_non (pa_cons (pv 3) (pa_cons pe_int (pa_cons pe_int (pa_cons pe_int (pa_cons pe_int pa_nil)))))))))))) pa_nil))))) pss_nil) (pss_cons (ps_if (pt_val (pe_callB call_isiG (by rfl) Z.zisinstance (by rfl) (pa_cons (pv 1) (pa_cons (pe_bltn (v := .ty "str") (by rfl) Z.zstr (by rfl) rfl) pa_nil)))) (pss_cons (ps_set (i := 8) sc_law_bent.nd rfl (by first | exact Or.inl rfl | exact Or.inr rfl) (pe_lst (pa_cons (pe_op op_add_str (pv 1) pe_str) (pa_cons (pe_slice C8.sl_txt (pv 1) po_none (po_some (pe_un un_neg pe_int))) (pa_cons (pe_m0 PySem.F.slot_str_upper PySem.F.type_str_upper mt_upper (pv 1)) (pa_cons (pe_op op_add_str (pv 1) pe_str) (pa_cons (pe_op op_add_str pe_str (pv 1)) (pa_cons (pe_op op_add_str (pv 1) pe_str) (pa_cons pe_non (pa_cons (pv 3) (pa_cons pe_str (pa_cons pe_str pa_nil)))))))))))) (pss_cons (ps_set (i := 8) sc_law_bent.nd rfl (by first | exact Or.inl rfl | exact Or.inr rfl) (pe_op op_cat (pv 8) (pe_lst (pa_cons pe_str (pa_cons pe_str (pa_cons pe_str (pa_cons pe_str (pa_cons pe_str (pa_cons pe_str (pa_cons pe_str (pa_cons pe_str (pa_cons pe_str (pa_cons pe_str (pa_cons (pe_op op_repS pe_str pe_int) (pa_cons (pe_op op_repS pe_str pe_int) pa_nil))))))))))))))) (pss_one (ps_ret (pe_g (D_law_some.gfn.mono D_law_somele) rm (by rfl) D_law_some.mg D_law_some.kp D_law_some.bi .nil pass0 (pa_cons (pv 0) (pa_cons (pv 8) pa_nil))))))) pss_nil) (pss_one (ps_ret (pv 3))))))))), (snd_seq (snd_par (snd_cons (snd_call (snd_cons snd_var (snd_cons snd_int snd_nil))) (snd_cons (snd_call (snd_cons snd_var snd_nil)) snd_nil))) (snd_seq (snd_ifN (snd_and (snd_tB (snd_isin snd_var)) (snd_and (snd_test (snd_op rv_neD snd_var (snd_tup snd_nil))) (snd_test (snd_op (rv_ii0 (f := fun i j => .bool (decide (j < i))) fun _ _ _ => Dq.bl _) snd_var snd_int)))) snd_next) (snd_seq (snd_ifS (snd_tB (snd_isin snd_var)) (snd_seq (snd_setF (snd_lst (snd_cons (snd_frz (snd_cbF rc_list (snd_cons snd_var snd_nil))) (snd_cons (snd_slX snd_var (so_part snd_int) so_no) (snd_cons (snd_op rv_catX snd_var (snd_slX snd_var so_no (so_part snd_int))) (snd_cons (snd_rev snd_var) (snd_cons snd_var (snd_cons (snd_op rv_catX snd_var (snd_tup (snd_cons snd_non snd_nil))) (snd_cons (snd_slX snd_var so_no (so_part (snd_neg snd_int))) snd_nil))))))))) (snd_ret (snd_call (snd_cons snd_var (snd_cons snd_var snd_nil))))) snd_next) (snd_seq (snd_ifN (snd_tB (snd_isin snd_var)) snd_next) (snd_seq (snd_ifS (snd_tB (snd_call (snd_cons snd_var snd_nil))) (snd_ret (snd_call (snd_cons snd_var (snd_cons (snd_l (snd_lst (snd_cons (snd_op rv_eqX snd_var snd_int) (snd_cons (snd_op (rv_ii0 (f := fun i j => .int (i + j)) fun _ _ _ => Dq.int _) snd_var snd_int) (snd_cons (snd_neg snd_var) (snd_cons (snd_op (rv_ii (C := CPow) (f := fun i j => .int (i ^ j.toNat)) fun _ _ _ => Dq.int _) snd_int snd_int) (snd_cons (snd_cb rc_strI (snd_cons snd_var snd_nil)) (snd_cons snd_non (snd_cons snd_var (snd_cons snd_int (snd_cons snd_int (snd_cons snd_int (snd_cons snd_int snd_nil))))))))))))) snd_nil)))) snd_next) (snd_seq (snd_ifS (snd_tB (snd_isin snd_var)) (snd_seq (snd_setF (snd_lst (snd_cons (snd_op rv_catS snd_var snd_str) (snd_cons (snd_slS snd_var so_no (so_part (snd_neg snd_int))) (snd_cons (snd_upp snd_var) (snd_cons (snd_op rv_catS snd_var snd_str) (snd_cons (snd_op rv_catS snd_str snd_var) (snd_cons (snd_op rv_catS snd_var snd_str) (snd_cons snd_non (snd_cons snd_var (snd_cons snd_str (snd_cons snd_str snd_nil)))))))))))) (snd_seq (snd_setF (snd_opF rv_cat snd_var (snd_l (snd_lst (snd_cons snd_str (snd_cons snd_str (snd_cons snd_str (snd_cons snd_str (snd_cons snd_str (snd_cons snd_str (snd_cons snd_str (snd_cons snd_str (snd_cons snd_str (snd_cons snd_str (snd_cons (snd_op rv_repS snd_str snd_int) (snd_cons (snd_op rv_repS snd_str snd_int) snd_nil)))))))))))))))) (snd_ret (snd_call (snd_cons snd_var (snd_cons snd_var snd_nil)))))) snd_next) (snd_ret snd_var)))))))⟩
abbrev s_law_classes_of : Stmt := top 38
theorem sc_law_classes_of : FnScope ["error", "told", "k"] ["error"] (defScope s_law_classes_of) := ⟨rfl, rfl, rfl, by decide +kernel, rfl, by decide +kernel, by decide +kernel⟩
def m_law_classes_of (K : PySem.W.Frag) (CIsHome : Addr) (CNoCommand : Addr) (CNoPiece : Addr) (CNoText : Addr) (CNotEnd : Addr) (CNotMoved : Addr) (CNotNeighbour : Addr) (CNotTaken : Addr) (CRefused : Addr) (CWrong : Addr)  : Ws := (seqW (setFW 1 (lstW (consW (isinEW K (.ref CIsHome) (varW 0)) (consW (isinEW K (.ref CNoCommand) (varW 0)) (consW (isinEW K (.ref CNoPiece) (varW 0)) nilW))))) (seqW (extW 1 (lstW (consW (isinEW K (.ref CNoText) (varW 0)) (consW (isinEW K (.ref CNotEnd) (varW 0)) (consW (isinEW K (.ref CNotMoved) (varW 0)) nilW))))) (seqW (extW 1 (lstW (consW (isinEW K (.ref CNotNeighbour) (varW 0)) (consW (isinEW K (.ref CNotTaken) (varW 0)) (consW (isinEW K (.ref CRefused) (varW 0)) nilW))))) (seqW (appW 1 (isinEW K (.ref CWrong) (varW 0))) (retFW (lcompW [2] (itRW (conW (.int 10))) (gnW 2) (testW (opW ixF (varW 1) (varW 2))) (varW 2)))))))
theorem ok_law_classes_of  {f : Addr} {fd : FuncData} {b : BP} (Z : Nones mg) {CIsHome : Addr} (YIsHome : Nm mg "IsHome" CIsHome) {CNoCommand : Addr} (YNoCommand : Nm mg "NoCommand" CNoCommand) {CNoPiece : Addr} (YNoPiece : Nm mg "NoPiece" CNoPiece) {CNoText : Addr} (YNoText : Nm mg "NoText" CNoText) {CNotEnd : Addr} (YNotEnd : Nm mg "NotEnd" CNotEnd) {CNotMoved : Addr} (YNotMoved : Nm mg "NotMoved" CNotMoved) {CNotNeighbour : Addr} (YNotNeighbour : Nm mg "NotNeighbour" CNotNeighbour) {CNotTaken : Addr} (YNotTaken : Nm mg "NotTaken" CNotTaken) {CRefused : Addr} (YRefused : Nm mg "Refused" CRefused) {CWrong : Addr} (YWrong : Nm mg "Wrong" CWrong)  (F : L2.Fun K "_law_classes_of" "_law_classes_of" s_law_classes_of f fd) : GFn P w K mg base CX0 (1) f fd ["error"] (spF K b 1 (bodyF 3 (m_law_classes_of K CIsHome CNoCommand CNoPiece CNoText CNotEnd CNotMoved CNotNeighbour CNotTaken CRefused CWrong ))) := by

  refine def_okF F sc_law_classes_of ?_
  intro cdv A o s H E rm
  exact ⟨_, (pss_cons (ps_set (i := 1) sc_law_classes_of.nd rfl (by first | exact Or.inl rfl | exact Or.inr rfl) (pe_lst (pa_cons (pe_callB call_isErr (by rfl) Z.zisinstance (by rfl) (pa_cons (pv 0) (pa_cons (pe_glob (v := .ref CIsHome) (by rfl) YIsHome.mg rfl) pa_nil))) (pa_cons (pe_callB call_isErr (by rfl) Z.zisinstance (by rfl) (pa_cons (pv 0) (pa_cons (pe_glob (v := .ref CNoCommand) (by rfl) YNoCommand.mg rfl) pa_nil))) (pa_cons (pe_callB call_isErr (by rfl) Z.zisinstance (by rfl) (pa_cons (pv 0) (pa_cons (pe_glob (v := .ref CNoPiece) (by rfl) YNoPiece.mg rfl) pa_nil))) pa_nil))))) (pss_cons (ps_expr (pe_bm PySem.F.plainAttrs_list PySem.F.slot_list_extend PySem.F.type_list_extend mt_extend (pv 1) (pa_cons (pe_lst (pa_cons (pe_callB call_isErr (by rfl) Z.zisinstance (by rfl) (pa_cons (pv 0) (pa_cons (pe_glob (v := .ref CNoText) (by rfl) YNoText.mg rfl) pa_nil))) (pa_cons (pe_callB call_isErr (by rfl) Z.zisinstance (by rfl) (pa_cons (pv 0) (pa_cons (pe_glob (v := .ref CNotEnd) (by rfl) YNotEnd.mg rfl) pa_nil))) (pa_cons (pe_callB call_isErr (by rfl) Z.zisinstance (by rfl) (pa_cons (pv 0) (pa_cons (pe_glob (v := .ref CNotMoved) (by rfl) YNotMoved.mg rfl) pa_nil))) pa_nil)))) pa_nil))) (pss_cons (ps_expr (pe_bm PySem.F.plainAttrs_list PySem.F.slot_list_extend PySem.F.type_list_extend mt_extend (pv 1) (pa_cons (pe_lst (pa_cons (pe_callB call_isErr (by rfl) Z.zisinstance (by rfl) (pa_cons (pv 0) (pa_cons (pe_glob (v := .ref CNotNeighbour) (by rfl) YNotNeighbour.mg rfl) pa_nil))) (pa_cons (pe_callB call_isErr (by rfl) Z.zisinstance (by rfl) (pa_cons (pv 0) (pa_cons (pe_glob (v := .ref CNotTaken) (by rfl) YNotTaken.mg rfl) pa_nil))) (pa_cons (pe_callB call_isErr (by rfl) Z.zisinstance (by rfl) (pa_cons (pv 0) (pa_cons (pe_glob (v := .ref CRefused) (by rfl) YRefused.mg rfl) pa_nil))) pa_nil)))) pa_nil))) (pss_cons (ps_expr (pe_bm PySem.F.plainAttrs_list PySem.F.slot_list_append PySem.F.type_list_append mt_append (pv 1) (pa_cons (pe_callB call_isErr (by rfl) Z.zisinstance (by rfl) (pa_cons (pv 0) (pa_cons (pe_glob (v := .ref CWrong) (by rfl) YWrong.mg rfl) pa_nil))) pa_nil))) (pss_one (ps_ret (pe_lc (own := [("k", 2)]) rfl sc_law_classes_of.nd (pi_range1 (by rfl) Z.zrange (pa_cons pe_int pa_nil)) (blkOk_by (by show blkC ["error", "told", "k"] (defScope s_law_classes_of) _ _ = true; decide +kernel)) (fun _ _ _ _ _ => (pg_name (i := 2) sc_law_classes_of.nd rfl (by first | exact Or.inl rfl | exact Or.inr rfl))) (fun _ _ _ _ _ => (pts_one (pt_val (pe_ix ix_seq (pv 1) (pv 2) (fun _ _ => rfl))))) (fun _ _ _ _ _ => (pv 2))))))))), (snd_seq (snd_setF (snd_lst (snd_cons (snd_isinE (cv := .ref CIsHome) (fun _ h => h) snd_var) (snd_cons (snd_isinE (cv := .ref CNoCommand) (fun _ h => h) snd_var) (snd_cons (snd_isinE (cv := .ref CNoPiece) (fun _ h => h) snd_var) snd_nil))))) (snd_seq (snd_ext (snd_lst (snd_cons (snd_isinE (cv := .ref CNoText) (fun _ h => h) snd_var) (snd_cons (snd_isinE (cv := .ref CNotEnd) (fun _ h => h) snd_var) (snd_cons (snd_isinE (cv := .ref CNotMoved) (fun _ h => h) snd_var) snd_nil))))) (snd_seq (snd_ext (snd_lst (snd_cons (snd_isinE (cv := .ref CNotNeighbour) (fun _ h => h) snd_var) (snd_cons (snd_isinE (cv := .ref CNotTaken) (fun _ h => h) snd_var) (snd_cons (snd_isinE (cv := .ref CRefused) (fun _ h => h) snd_var) snd_nil))))) (snd_seq (snd_app (snd_isinE (cv := .ref CWrong) (fun _ h => h) snd_var)) (snd_retF (snd_lc (si_range snd_int) sg_name gin_name (snd_tB (snd_op rv_ix snd_var snd_var)) snd_var))))))⟩
abbrev s_law_error_rows : Stmt := top 39
theorem sc_law_error_rows : FnScope ["one", "two", "home", "piece", "text", "end", "moved", "near", "taken", "refused", "wrong", "rows"] ["one", "two"] (defScope s_law_error_rows) := ⟨rfl, rfl, rfl, by decide +kernel, rfl, by decide +kernel, by decide +kernel⟩
def m_law_error_rows (K : PySem.W.Frag) (CIsHome : Addr) (CNoCommand : Addr) (CNoPiece : Addr) (CNoText : Addr) (CNotEnd : Addr) (CNotMoved : Addr) (CNotNeighbour : Addr) (CNotTaken : Addr) (CRefused : Addr) (CWrong : Addr)  : Ws := (seqW (unpW (tupW (consW (err1W CIsHome "version" (consW (varW 0) nilW)) (consW (err1W CNoPiece "piece" (consW (varW 0) nilW)) (consW (err1W CNoText "line" (consW (varW 0) nilW)) (consW (err1W CNotEnd "version" (consW (varW 0) nilW)) (consW (err1W CNotMoved "piece" (consW (varW 0) nilW)) nilW)))))) (gtupW 5 (gconsW (gnW 2) (gconsW (gnW 3) (gconsW (gnW 4) (gconsW (gnW 5) (gconsW (gnW 6) gnilW))))))) (seqW (unpW (tupW (consW (err1W CNotNeighbour "version" (consW (varW 0) nilW)) (consW (err2W CNotTaken "word" "things" (consW (varW 0) (consW (varW 1) nilW))) (consW (err2W CRefused "index" "reason" (consW (varW 0) (consW (varW 1) nilW))) (consW (err1W CWrong "place" (consW (varW 0) nilW)) nilW))))) (gtupW 4 (gconsW (gnW 7) (gconsW (gnW 8) (gconsW (gnW 9) (gconsW (gnW 10) gnilW)))))) (seqW (setFW 11 (lstW (consW (tupW (consW (varW 2) (consW (frzW (lstW (consW (oatW K "version" (varW 2)) nilW))) nilW))) (consW (tupW (consW (err0W CNoCommand) (consW (frzW (lstW nilW)) nilW))) (consW (tupW (consW (varW 3) (consW (frzW (lstW (consW (oatW K "piece" (varW 3)) nilW))) nilW))) (consW (tupW (consW (varW 4) (consW (frzW (lstW (consW (oatW K "line" (varW 4)) nilW))) nilW))) nilW)))))) (seqW (extW 11 (lstW (consW (tupW (consW (varW 5) (consW (frzW (lstW (consW (oatW K "version" (varW 5)) nilW))) nilW))) (consW (tupW (consW (varW 6) (consW (frzW (lstW (consW (oatW K "piece" (varW 6)) nilW))) nilW))) (consW (tupW (consW (varW 7) (consW (frzW (lstW (consW (oatW K "version" (varW 7)) nilW))) nilW))) nilW))))) (seqW (extW 11 (lstW (consW (tupW (consW (varW 8) (consW (frzW (lstW (consW (oatW K "word" (varW 8)) (consW (oatW K "things" (varW 8)) nilW)))) nilW))) (consW (tupW (consW (varW 9) (consW (frzW (lstW (consW (oatW K "index" (varW 9)) (consW (oatW K "reason" (varW 9)) nilW)))) nilW))) nilW)))) (retFW (opF catF (varW 11) (lW (lstW (consW (tupW (consW (varW 10) (consW (frzW (lstW (consW (oatW K "place" (varW 10)) nilW))) nilW))) nilW))))))))))
theorem ok_law_error_rows  {f : Addr} {fd : FuncData} {b : BP} (Z : Nones mg) {CIsHome fIsHome : Addr} {fdIsHome : FuncData} (YIsHome : Cls P w K mg base "IsHome" CIsHome fIsHome fdIsHome ["self", "version"] (spI1 CIsHome "version")) {CNoCommand fNoCommand : Addr} {fdNoCommand : FuncData} (YNoCommand : Cls P w K mg base "NoCommand" CNoCommand fNoCommand fdNoCommand ["self"] spNil) {CNoPiece fNoPiece : Addr} {fdNoPiece : FuncData} (YNoPiece : Cls P w K mg base "NoPiece" CNoPiece fNoPiece fdNoPiece ["self", "piece"] (spI1 CNoPiece "piece")) {CNoText fNoText : Addr} {fdNoText : FuncData} (YNoText : Cls P w K mg base "NoText" CNoText fNoText fdNoText ["self", "line"] (spI1 CNoText "line")) {CNotEnd fNotEnd : Addr} {fdNotEnd : FuncData} (YNotEnd : Cls P w K mg base "NotEnd" CNotEnd fNotEnd fdNotEnd ["self", "version"] (spI1 CNotEnd "version")) {CNotMoved fNotMoved : Addr} {fdNotMoved : FuncData} (YNotMoved : Cls P w K mg base "NotMoved" CNotMoved fNotMoved fdNotMoved ["self", "piece"] (spI1 CNotMoved "piece")) {CNotNeighbour fNotNeighbour : Addr} {fdNotNeighbour : FuncData} (YNotNeighbour : Cls P w K mg base "NotNeighbour" CNotNeighbour fNotNeighbour fdNotNeighbour ["self", "version"] (spI1 CNotNeighbour "version")) {CNotTaken fNotTaken : Addr} {fdNotTaken : FuncData} (YNotTaken : Cls P w K mg base "NotTaken" CNotTaken fNotTaken fdNotTaken ["self", "word", "things"] (spI2 CNotTaken "word" "things")) {CRefused fRefused : Addr} {fdRefused : FuncData} (YRefused : Cls P w K mg base "Refused" CRefused fRefused fdRefused ["self", "index", "reason"] (spI2 CRefused "index" "reason")) {CWrong fWrong : Addr} {fdWrong : FuncData} (YWrong : Cls P w K mg base "Wrong" CWrong fWrong fdWrong ["self", "place"] (spI1 CWrong "place"))  (F : L2.Fun K "_law_error_rows" "_law_error_rows" s_law_error_rows f fd) : GFn P w K mg base CX0 (3) f fd ["one", "two"] (spF K b 2 (bodyF 12 (m_law_error_rows K CIsHome CNoCommand CNoPiece CNoText CNotEnd CNotMoved CNotNeighbour CNotTaken CRefused CWrong ))) := by

  refine def_okF F sc_law_error_rows ?_
  intro cdv A o s H E rm
  exact ⟨_, (pss_cons (ps_asg (pe_tupZ (pa_cons (pe_errN YIsHome.T YIsHome.iC YIsHome.tI YIsHome.gfn (rm.mono (by decide)) YIsHome.bi pass0 (by rfl) YIsHome.mg (pa_cons (pv 0) pa_nil)) (pa_cons (pe_errN YNoPiece.T YNoPiece.iC YNoPiece.tI YNoPiece.gfn (rm.mono (by decide)) YNoPiece.bi pass0 (by rfl) YNoPiece.mg (pa_cons (pv 0) pa_nil)) (pa_cons (pe_errN YNoText.T YNoText.iC YNoText.tI YNoText.gfn (rm.mono (by decide)) YNoText.bi pass0 (by rfl) YNoText.mg (pa_cons (pv 0) pa_nil)) (pa_cons (pe_errN YNotEnd.T YNotEnd.iC YNotEnd.tI YNotEnd.gfn (rm.mono (by decide)) YNotEnd.bi pass0 (by rfl) YNotEnd.mg (pa_cons (pv 0) pa_nil)) (pa_cons (pe_errN YNotMoved.T YNotMoved.iC YNotMoved.tI YNotMoved.gfn (rm.mono (by decide)) YNotMoved.bi pass0 (by rfl) YNotMoved.mg (pa_cons (pv 0) pa_nil)) pa_nil)))))) (pg_tup rfl (pgs_cons (pg_name (i := 2) sc_law_error_rows.nd rfl (by first | exact Or.inl rfl | exact Or.inr rfl)) (pgs_cons (pg_name (i := 3) sc_law_error_rows.nd rfl (by first | exact Or.inl rfl | exact Or.inr rfl)) (pgs_cons (pg_name (i := 4) sc_law_error_rows.nd rfl (by first | exact Or.inl rfl | exact Or.inr rfl)) (pgs_cons (pg_name (i := 5) sc_law_error_rows.nd rfl (by first | exact Or.inl rfl | exact Or.inr rfl)) (pgs_cons (pg_name (i := 6) sc_law_error_rows.nd rfl (by first | exact Or.inl rfl | exact Or.inr rfl)) pgs_nil))))))) (pss_cons (ps_asg (pe_tupZ (pa_cons (pe_errN YNotNeighbour.T YNotNeighbour.iC YNotNeighbour.tI YNotNeighbour.gfn (rm.mono (by decide)) YNotNeighbour.bi pass0 (by rfl) YNotNeighbour.mg (pa_cons (pv 0) pa_nil)) (pa_cons (pe_errN YNotTaken.T YNotTaken.iC YNotTaken.tI YNotTaken.gfn (rm.mono (by decide)) YNotTaken.bi pass0 (by rfl) YNotTaken.mg (pa_cons (pv 0) (pa_cons (pv 1) pa_nil))) (pa_cons (pe_errN YRefused.T YRefused.iC YRefused.tI YRefused.gfn (rm.mono (by decide)) YRefused.bi pass0 (by rfl) YRefused.mg (pa_cons (pv 0) (pa_cons (pv 1) pa_nil))) (pa_cons (pe_errN YWrong.T YWrong.iC YWrong.tI YWrong.gfn (rm.mono (by decide)) YWrong.bi pass0 (by rfl) YWrong.mg (pa_cons (pv 0) pa_nil)) pa_nil))))) (pg_tup rfl (pgs_cons (pg_name (i := 7) sc_law_error_rows.nd rfl (by first | exact Or.inl rfl | exact Or.inr rfl)) (pgs_cons (pg_name (i := 8) sc_law_error_rows.nd rfl (by first | exact Or.inl rfl | exact Or.inr rfl)) (pgs_cons (pg_name (i := 9) sc_law_error_rows.nd rfl (by first | exact Or.inl rfl | exact Or.inr rfl)) (pgs_cons (pg_name (i := 10) sc_law_error_rows.nd rfl (by first | exact Or.inl rfl | exact Or.inr rfl)) pgs_nil)))))) (pss_cons (ps_set (i := 11) sc_law_error_rows.nd rfl (by first | exact Or.inl rfl | exact Or.inr rfl) (pe_lst (pa_cons (pe_tupZ (pa_cons (pv 2) (pa_cons (pe_lst (pa_cons (pe_oat (pv 2)) pa_nil)) pa_nil))) (pa_cons (pe_tupZ (pa_cons (pe_errT YNoCommand.T YNoCommand.iC YNoCommand.tI YNoCommand.gfn (rm.mono (by decide)) YNoCommand.bi pass0 (by rfl) YNoCommand.mg) (pa_cons (pe_lst pa_nil) pa_nil))) (pa_cons (pe_tupZ (pa_cons (pv 3) (pa_cons (pe_lst (pa_cons (pe_oat (pv 3)) pa_nil)) pa_nil))) (pa_cons (pe_tupZ (pa_cons (pv 4) (pa_cons (pe_lst (pa_cons (pe_oat (pv 4)) pa_nil)) pa_nil))) pa_nil)))))) (pss_cons (ps_expr (pe_bm PySem.F.plainAttrs_list PySem.F.slot_list_extend PySem.F.type_list_extend mt_extend (pv 11) (pa_cons (pe_lst (pa_cons (pe_tupZ (pa_cons (pv 5) (pa_cons (pe_lst (pa_cons (pe_oat (pv 5)) pa_nil)) pa_nil))) (pa_cons (pe_tupZ (pa_cons (pv 6) (pa_cons (pe_lst (pa_cons (pe_oat (pv 6)) pa_nil)) pa_nil))) (pa_cons (pe_tupZ (pa_cons (pv 7) (pa_cons (pe_lst (pa_cons (pe_oat (pv 7)) pa_nil)) pa_nil))) pa_nil)))) pa_nil))) (pss_cons (ps_expr (pe_bm PySem.F.plainAttrs_list PySem.F.slot_list_extend PySem.F.type_list_extend mt_extend (pv 11) (pa_cons (pe_lst (pa_cons (pe_tupZ (pa_cons (pv 8) (pa_cons (pe_lst (pa_cons (pe_oat (pv 8)) (pa_cons (pe_oat (pv 8)) pa_nil))) pa_nil))) (pa_cons (pe_tupZ (pa_cons (pv 9) (pa_cons (pe_lst (pa_cons (pe_oat (pv 9)) (pa_cons (pe_oat (pv 9)) pa_nil))) pa_nil))) pa_nil))) pa_nil))) (pss_one (ps_ret (pe_op op_cat (pv 11) (pe_lst (pa_cons (pe_tupZ (pa_cons (pv 10) (pa_cons (pe_lst (pa_cons (pe_oat (pv 10)) pa_nil)) pa_nil))) pa_nil)))))))))), (snd_seq (snd_unp (snd_tup (snd_cons (snd_err1 YIsHome.ex (snd_cons snd_var snd_nil)) (snd_cons (snd_err1 YNoPiece.ex (snd_cons snd_var snd_nil)) (snd_cons (snd_err1 YNoText.ex (snd_cons snd_var snd_nil)) (snd_cons (snd_err1 YNotEnd.ex (snd_cons snd_var snd_nil)) (snd_cons (snd_err1 YNotMoved.ex (snd_cons snd_var snd_nil)) snd_nil)))))) (sg_tup (sg_cons sg_name (sg_cons sg_name (sg_cons sg_name (sg_cons sg_name (sg_cons sg_name sg_nil))))))) (snd_seq (snd_unp (snd_tup (snd_cons (snd_err1 YNotNeighbour.ex (snd_cons snd_var snd_nil)) (snd_cons (snd_err2 YNotTaken.ex (snd_cons snd_var (snd_cons snd_var snd_nil))) (snd_cons (snd_err2 YRefused.ex (snd_cons snd_var (snd_cons snd_var snd_nil))) (snd_cons (snd_err1 YWrong.ex (snd_cons snd_var snd_nil)) snd_nil))))) (sg_tup (sg_cons sg_name (sg_cons sg_name (sg_cons sg_name (sg_cons sg_name sg_nil)))))) (snd_seq (snd_setF (snd_lst (snd_cons (snd_tup (snd_cons snd_var (snd_cons (snd_frz (snd_lst (snd_cons (snd_oat snd_var) snd_nil))) snd_nil))) (snd_cons (snd_tup (snd_cons (snd_err0 YNoCommand.ex fun _ _ _ _ q => ⟨rfl, q⟩) (snd_cons (snd_frz (snd_lst snd_nil)) snd_nil))) (snd_cons (snd_tup (snd_cons snd_var (snd_cons (snd_frz (snd_lst (snd_cons (snd_oat snd_var) snd_nil))) snd_nil))) (snd_cons (snd_tup (snd_cons snd_var (snd_cons (snd_frz (snd_lst (snd_cons (snd_oat snd_var) snd_nil))) snd_nil))) snd_nil)))))) (snd_seq (snd_ext (snd_lst (snd_cons (snd_tup (snd_cons snd_var (snd_cons (snd_frz (snd_lst (snd_cons (snd_oat snd_var) snd_nil))) snd_nil))) (snd_cons (snd_tup (snd_cons snd_var (snd_cons (snd_frz (snd_lst (snd_cons (snd_oat snd_var) snd_nil))) snd_nil))) (snd_cons (snd_tup (snd_cons snd_var (snd_cons (snd_frz (snd_lst (snd_cons (snd_oat snd_var) snd_nil))) snd_nil))) snd_nil))))) (snd_seq (snd_ext (snd_lst (snd_cons (snd_tup (snd_cons snd_var (snd_cons (snd_frz (snd_lst (snd_cons (snd_oat snd_var) (snd_cons (snd_oat snd_var) snd_nil)))) snd_nil))) (snd_cons (snd_tup (snd_cons snd_var (snd_cons (snd_frz (snd_lst (snd_cons (snd_oat snd_var) (snd_cons (snd_oat snd_var) snd_nil)))) snd_nil))) snd_nil)))) (snd_retF (snd_opF rv_cat snd_var (snd_l (snd_lst (snd_cons (snd_tup (snd_cons snd_var (snd_cons (snd_frz (snd_lst (snd_cons (snd_oat snd_var) snd_nil))) snd_nil))) snd_nil))))))))))⟩
abbrev s_law_are_errors_right : Stmt := top 40
theorem sc_law_are_errors_right : FnScope ["one", "two", "k", "error", "fields"] ["one", "two"] (defScope s_law_are_errors_right) := ⟨rfl, rfl, rfl, by decide +kernel, rfl, by decide +kernel, by decide +kernel⟩
def m_law_are_errors_right (K : PySem.W.Frag) (CVersionError : Addr) (F_law_error_rows : FmF) (F_law_classes_of : FmF) (F_law_alike : Fm) : Ws := (seqW (forW (itEW (frzW (callF 2 F_law_error_rows (consW (varW 0) (consW (varW 1) nilW))))) (gtupW 2 (gconsW (gnW 2) (gconsW (gtupW 2 (gconsW (gnW 3) (gconsW (gnW 4) gnilW))) gnilW))) (seqW (iffW (orW (testW (opW neF (lW (callF 1 F_law_classes_of (consW (varW 3) nilW))) (lW (lstW (consW (varW 2) nilW))))) (orW (notW (testW (isinEW K (.ref CVersionError) (varW 3)))) (notW (testW (isinEW K (.type "ValueError") (varW 3)))))) (retW (conW (.bool false))) nxtW) (iffW (notW (testW (callW 2 F_law_alike (consW (varW 4) (consW (lW (slLF (lW (lstW (consW (varW 0) (consW (varW 1) nilW)))) noW (partW (cbW lenF (consW (varW 4) nilW))))) nilW))))) (retW (conW (.bool false))) nxtW))) (retW (conW (.bool true))))
theorem ok_law_are_errors_right (F_law_error_rows : FmF) (F_law_classes_of : FmF) (F_law_alike : Fm) {f : Addr} {fd : FuncData} {b : BP} (Z : Nones mg) {CVersionError : Addr} (YVersionError : Nm mg "VersionError" CVersionError) {f_law_error_rows : Addr} {fd_law_error_rows : FuncData} (D_law_error_rows : Dfn P w K mg base 3 f_law_error_rows fd_law_error_rows "_law_error_rows" ["one", "two"] (spF K b 2 F_law_error_rows)) {f_law_classes_of : Addr} {fd_law_classes_of : FuncData} (D_law_classes_of : Dfn P w K mg base 1 f_law_classes_of fd_law_classes_of "_law_classes_of" ["error"] (spF K b 1 F_law_classes_of)) {f_law_alike : Addr} {fd_law_alike : FuncData} (D_law_alike : Dfn P w K mg base 1 f_law_alike fd_law_alike "_law_alike" ["found", "due"] (spD K b 2 F_law_alike)) (F : L2.Fun K "_law_are_errors_right" "_law_are_errors_right" s_law_are_errors_right f fd) : GFn P w K mg base CX0 (4) f fd ["one", "two"] (spD K b 2 (bodyW 5 (m_law_are_errors_right K CVersionError F_law_error_rows F_law_classes_of F_law_alike))) := by
  have D_law_error_rowsle : 3 ≤ 3 := by omega
  have D_law_classes_ofle : 1 ≤ 3 := by omega
  have D_law_alikele : 1 ≤ 3 := by omega
  refine def_ok F sc_law_are_errors_right ?_
  intro cdv A o s H E rm
  exact ⟨_, (pss_cons (ps_for PassesOwn.leaving rfl (pi_enum (by rfl) Z.zenumerate (pa_cons (pe_g (D_law_error_rows.gfn.mono D_law_error_rowsle) rm (by rfl) D_law_error_rows.mg D_law_error_rows.kp D_law_error_rows.bi .nil pass0 (pa_cons (pv 0) (pa_cons (pv 1) pa_nil))) pa_nil)) (pg_tup rfl (pgs_cons (pg_name (i := 2) sc_law_are_errors_right.nd rfl (by first | exact Or.inl rfl | exact Or.inr rfl)) (pgs_cons (pg_tup rfl (pgs_cons (pg_name (i := 3) sc_law_are_errors_right.nd rfl (by first | exact Or.inl rfl | exact Or.inr rfl)) (pgs_cons (pg_name (i := 4) sc_law_are_errors_right.nd rfl (by first | exact Or.inl rfl | exact Or.inr rfl)) pgs_nil))) pgs_nil))) (pss_cons (ps_if (pw_or (pt_cmpR (op_neD rm.u64) (pe_g (D_law_classes_of.gfn.mono D_law_classes_ofle) rm (by rfl) D_law_classes_of.mg D_law_classes_of.kp D_law_classes_of.bi .nil pass0 (pa_cons (pv 3) pa_nil)) (pe_lst (pa_cons (pv 2) pa_nil)) (nomark _)) (pw_or (pt_not (pt_val (pe_callB call_isErr (by rfl) Z.zisinstance (by rfl) (pa_cons (pv 3) (pa_cons (pe_glob (v := .ref CVersionError) (by rfl) YVersionError.mg rfl) pa_nil))))) (pw_or1 (pt_not (pt_val (pe_callB call_isErr (by rfl) Z.zisinstance (by rfl) (pa_cons (pv 3) (pa_cons (pe_bltn (v := .ty "ValueError") (by rfl) Z.zValueError (by rfl) rfl) pa_nil)))))))).pt (pss_one (ps_ret pe_bl)) pss_nil) (pss_one (ps_if (pt_not (pt_val (pe_g (D_law_alike.gfn.mono D_law_alikele) rm (by rfl) D_law_alike.mg D_law_alike.kp D_law_alike.bi .nil pass0 (pa_cons (pv 4) (pa_cons (pe_slice sl_list (pe_lst (pa_cons (pv 0) (pa_cons (pv 1) pa_nil))) po_none (po_some (pe_callB call_len (by rfl) Z.zlen (by rfl) (pa_cons (pv 4) pa_nil)))) pa_nil))))) (pss_one (ps_ret pe_bl)) pss_nil)))) (pss_one (ps_ret pe_bl))), (snd_seq (snd_for (si_enum (snd_frz (snd_callF (snd_cons snd_var (snd_cons snd_var snd_nil))))) (sg_tup (sg_cons sg_name (sg_cons (sg_tup (sg_cons sg_name (sg_cons sg_name sg_nil))) sg_nil))) (snd_seq (snd_ifS (snd_or (snd_test (snd_op rv_neD (snd_l (snd_callF (snd_cons snd_var snd_nil))) (snd_l (snd_lst (snd_cons snd_var snd_nil))))) (snd_or (snd_not (snd_tB (snd_isinE (cv := .ref CVersionError) (fun _ h => h) snd_var))) (snd_not (snd_tB (snd_isinE (cv := .type "ValueError") (fun _ h => h) snd_var))))) (snd_ret snd_bl) snd_next) (snd_ifS (snd_not (snd_tB (snd_call (snd_cons snd_var (snd_cons (snd_l (snd_slL (snd_l (snd_lst (snd_cons snd_var (snd_cons snd_var snd_nil)))) so_no (so_part (snd_cb rc_len (snd_cons snd_var snd_nil))))) snd_nil))))) (snd_ret snd_bl) snd_next))) (snd_ret snd_bl))⟩
abbrev s_law_small_things : Stmt := top 41
theorem sc_law_small_things : FnScope ["bag", "word", "n", "names", "name", "found"] ["bag"] (defScope s_law_small_things) := ⟨rfl, rfl, rfl, by decide +kernel, rfl, by decide +kernel, by decide +kernel⟩
def m_law_small_things  (F_law_some : Fm) (F_law_barred : FmF) (F_law_take : Fm) : Ws := (seqW (parW 1 2 (consW (callW 2 F_law_some (consW (varW 0) (consW (lW (callF 0 F_law_barred nilW)) nilW))) (consW (callW 2 F_law_some (consW (varW 0) (consW (lW (lstW (consW (conW (.int 0)) (consW (conW (.int 1)) (consW (conW (.int 2)) (consW (conW (.int 999)) (consW (conW (.int 1000)) (consW (conW (.int 1001)) (consW (negW (conW (.int 1))) (consW (conW (.bool true)) nilW)))))))))) nilW))) nilW))) (seqW (setFW 3 (lstW (consW (conW (.str "a")) (consW (conW (.str "z9")) (consW (opW repSF (conW (.str "a")) (conW (.int 12))) (consW (opW repSF (conW (.str "a")) (conW (.int 13))) (consW (conW (.str "aB")) (consW (conW (.str "9a")) (consW (conW (.str "")) (consW (conW (.str "a_b")) (consW (conW (.str "a b")) (consW (conW (.str "a
")) (consW (varW 1) (consW (opW catSF (varW 1) (conW (.str "s"))) (consW (slSW (varW 1) noW (partW (negW (conW (.int 1))))) nilW))))))))))))))) (seqW (setW 4 (callW 2 F_law_some (consW (varW 0) (consW (varW 3) nilW)))) (seqW (setFW 5 (lstW (consW (varW 1) (consW (varW 4) (consW (varW 2) (consW (tupW (consW (conW (.str "int")) nilW)) (consW (tupW (consW (conW (.str "below")) (consW (varW 2) nilW))) (consW (tupW (consW (conW (.str "ref")) (consW (varW 4) nilW))) (consW (tupW (consW (conW (.str "may")) (consW (varW 4) nilW))) (consW (tupW (consW (conW (.str "plus")) (consW (varW 2) nilW))) (consW (tupW (consW (conW (.str "turned")) nilW)) nilW))))))))))) (seqW (setFW 5 (opF catF (varW 5) (lW (lstW (consW (tupW (consW (conW (.str "times")) (consW (varW 2) nilW))) (consW (tupW (consW (conW (.str "over")) (consW (varW 2) nilW))) (consW (tupW (consW (conW (.str "rest")) (consW (varW 2) nilW))) (consW (tupW (consW (conW (.str "list")) (consW (tupW (consW (varW 2) nilW)) nilW))) (consW (tupW (consW (conW (.str "list")) (consW (tupW nilW) nilW))) (consW (tupW (consW (conW (.str "list")) (consW (tupW (consW (conW (.int 3)) (consW (conW (.int 1)) (consW (negW (conW (.int 2))) nilW)))) nilW))) nilW)))))))))) (seqW (setFW 5 (opF catF (varW 5) (lW (lstW (consW (tupW (consW (conW (.str "list")) (consW (frzW (lstW (consW (conW (.int 1)) nilW))) nilW))) (consW (tupW (consW (conW (.str "int")) (consW (conW (.int 1)) nilW))) nilW)))))) (seqW (iffW (testW (opW eqXF (callW 2 F_law_take (consW (varW 0) (consW (conW (.int 8)) nilW))) (conW (.int 0)))) (appW 5 (tupW (consW (conW (.str "list")) (consW (opW repZF (tupW (consW (conW (.int 5)) nilW)) (callW 2 F_law_some (consW (varW 0) (consW (lW (lstW (consW (conW (.int 1000)) (consW (conW (.int 1001)) nilW)))) nilW)))) nilW)))) nxtW) (retOW 5))))))))
theorem ok_law_small_things (F_law_some : Fm) (F_law_barred : FmF) (F_law_take : Fm) {f : Addr} {fd : FuncData} {b : BP} (Z : Nones mg)  {f_law_some : Addr} {fd_law_some : FuncData} (D_law_some : Dfn P w K mg base 2 f_law_some fd_law_some "_law_some" ["bag", "things"] (spD K b 2 F_law_some)) {f_law_barred : Addr} {fd_law_barred : FuncData} (D_law_barred : Dfn P w K mg base 1 f_law_barred fd_law_barred "_law_barred" [] (spF K b 0 F_law_barred)) {f_law_take : Addr} {fd_law_take : FuncData} (D_law_take : Dfn P w K mg base 1 f_law_take fd_law_take "_law_take" ["bag", "many"] (spD K b 2 F_law_take)) (F : L2.Fun K "_law_small_things" "_law_small_things" s_law_small_things f fd) : GFn P w K mg base CX0 (3) f fd ["bag"] (spF K b 1 (bodyF 6 (m_law_small_things  F_law_some F_law_barred F_law_take))) := by
  have D_law_somele : 2 ≤ 2 := by omega
  have D_law_barredle : 1 ≤ 2 := by omega
  have D_law_takele : 1 ≤ 2 := by omega
  refine def_okF F sc_law_small_things ?_
  intro cdv A o s H E rm
  exact ⟨_, (pss_cons (ps_par (i := 1) (j := 2) rfl sc_law_small_things.nd rfl rfl (by decide) rfl rfl (by exact (pa_cons (pe_g (D_law_some.gfn.mono D_law_somele) rm (by rfl) D_law_some.mg D_law_some.kp D_law_some.bi .nil pass0 (pa_cons (pv 0) (pa_cons (pe_g0 (D_law_barred.gfn.mono D_law_barredle) rm (by rfl) D_law_barred.mg D_law_barred.kp D_law_barred.bi .nil pass0) pa_nil))) (pa_cons (pe_g (D_law_some.gfn.mono D_law_somele) rm (by rfl) D_law_some.mg D_law_some.kp D_law_some.bi .nil pass0 (pa_cons (pv 0) (pa_cons (pe_lst (pa_cons pe_int (pa_cons pe_int (pa_cons pe_int (pa_cons pe_int (pa_cons pe_int (pa_cons pe_int (pa_cons (pe_un un_neg pe_int) (pa_cons pe_bl pa_nil))))))))) pa_nil))) pa_nil))) rfl) (pss_cons (ps_set (i := 3) sc_law_small_things.nd rfl (by first | exact Or.inl rfl | exact Or.inr rfl) (pe_lst (pa_cons pe_str (pa_cons pe_str (pa_cons (pe_op op_repS pe_str pe_int) (pa_cons (pe_op op_repS pe_str pe_int) (pa_cons pe_str (pa_cons pe_str (pa_cons pe_str (pa_cons pe_str (pa_cons pe_str (pa_cons pe_str (pa_cons (pv 1) (pa_cons (pe_op op_add_str (pv 1) pe_str) (pa_cons (pe_slice C8.sl_txt (pv 1) po_none (po_some (pe_un un_neg pe_int))) pa_nil))))))))))))))) (pss_cons (ps_set (i := 4) sc_law_small_things.nd rfl (by first | exact Or.inl rfl | exact Or.inr rfl) (pe_g (D_law_some.gfn.mono D_law_somele) rm (by rfl) D_law_some.mg D_law_some.kp D_law_some.bi .nil pass0 (pa_cons (pv 0) (pa_cons (pv 3) pa_nil)))) (pss_cons (ps_set (i := 5) sc_law_small_things.nd rfl (by first | exact Or.inl rfl | exact Or.inr rfl) (pe_lst (pa_cons (pv 1) (pa_cons (pv 4) (pa_cons (pv 2) (pa_cons (pe_tupZ (pa_cons pe_str pa_nil)) (pa_cons (pe_tupZ (pa_cons pe_str (pa_cons (pv 2) pa_nil))) (pa_cons (pe_tupZ (pa_cons pe_str (pa_cons (pv 4) pa_nil))) (pa_cons (pe_tupZ (pa_cons pe_str (pa_cons (pv 4) pa_nil))) (pa_cons (pe_tupZ (pa_cons pe_str (pa_cons (pv 2) pa_nil))) (pa_cons (pe_tupZ (pa_cons pe_str pa_nil)) pa_nil))))))))))) (pss_cons (ps_set (i := 5) sc_law_small_things.nd rfl (by first | exact Or.inl rfl | exact Or.inr rfl) (pe_op op_cat (pv 5) (pe_lst (pa_cons (pe_tupZ (pa_cons pe_str (pa_cons (pv 2) pa_nil))) (pa_cons (pe_tupZ (pa_cons pe_str (pa_cons (pv 2) pa_nil))) (pa_cons (pe_tupZ (pa_cons pe_str (pa_cons (pv 2) pa_nil))) (pa_cons (pe_tupZ (pa_cons pe_str (pa_cons (pe_tupZ (pa_cons (pv 2) pa_nil)) pa_nil))) (pa_cons (pe_tupZ (pa_cons pe_str (pa_cons (pe_tupZ pa_nil) pa_nil))) (pa_cons (pe_tupZ (pa_cons pe_str (pa_cons (pe_tupZ (pa_cons pe_int (pa_cons pe_int (pa_cons (pe_un un_neg pe_int) pa_nil)))) pa_nil))) pa_nil))))))))) (pss_cons (ps_set (i := 5) sc_law_small_things.nd rfl (by first | exact Or.inl rfl | exact Or.inr rfl) (pe_op op_cat (pv 5) (pe_lst (pa_cons (pe_tupZ (pa_cons pe_str (pa_cons (pe_lst (pa_cons pe_int pa_nil)) pa_nil))) (pa_cons (pe_tupZ (pa_cons pe_str (pa_cons pe_int pa_nil))) pa_nil))))) (pss_cons (ps_if (pt_cmpR (op_eqX rm) (pe_g (D_law_take.gfn.mono D_law_takele) rm (by rfl) D_law_take.mg D_law_take.kp D_law_take.bi .nil pass0 (pa_cons (pv 0) (pa_cons pe_int pa_nil))) pe_int (nomark _)) (pss_one (ps_expr (pe_bm PySem.F.plainAttrs_list PySem.F.slot_list_append PySem.F.type_list_append mt_append (pv 5) (pa_cons (pe_tupZ (pa_cons pe_str (pa_cons (pe_op op_repZ (pe_tupZ (pa_cons pe_int pa_nil)) (pe_g (D_law_some.gfn.mono D_law_somele) rm (by rfl) D_law_some.mg D_law_some.kp D_law_some.bi .nil pass0 (pa_cons (pv 0) (pa_cons (pe_lst (pa_cons pe_int (pa_cons pe_int pa_nil))) pa_nil)))) pa_nil))) pa_nil)))) pss_nil) (pss_one (ps_ret (pv 5)))))))))), (snd_seq (snd_par (snd_cons (snd_call (snd_cons snd_var (snd_cons (snd_l (snd_callF snd_nil)) snd_nil))) (snd_cons (snd_call (snd_cons snd_var (snd_cons (snd_l (snd_lst (snd_cons snd_int (snd_cons snd_int (snd_cons snd_int (snd_cons snd_int (snd_cons snd_int (snd_cons snd_int (snd_cons (snd_neg snd_int) (snd_cons snd_bl snd_nil)))))))))) snd_nil))) snd_nil))) (snd_seq (snd_setF (snd_lst (snd_cons snd_str (snd_cons snd_str (snd_cons (snd_op rv_repS snd_str snd_int) (snd_cons (snd_op rv_repS snd_str snd_int) (snd_cons snd_str (snd_cons snd_str (snd_cons snd_str (snd_cons snd_str (snd_cons snd_str (snd_cons snd_str (snd_cons snd_var (snd_cons (snd_op rv_catS snd_var snd_str) (snd_cons (snd_slS snd_var so_no (so_part (snd_neg snd_int))) snd_nil))))))))))))))) (snd_seq (snd_set (snd_call (snd_cons snd_var (snd_cons snd_var snd_nil)))) (snd_seq (snd_setF (snd_lst (snd_cons snd_var (snd_cons snd_var (snd_cons snd_var (snd_cons (snd_tup (snd_cons snd_str snd_nil)) (snd_cons (snd_tup (snd_cons snd_str (snd_cons snd_var snd_nil))) (snd_cons (snd_tup (snd_cons snd_str (snd_cons snd_var snd_nil))) (snd_cons (snd_tup (snd_cons snd_str (snd_cons snd_var snd_nil))) (snd_cons (snd_tup (snd_cons snd_str (snd_cons snd_var snd_nil))) (snd_cons (snd_tup (snd_cons snd_str snd_nil)) snd_nil))))))))))) (snd_seq (snd_setF (snd_opF rv_cat snd_var (snd_l (snd_lst (snd_cons (snd_tup (snd_cons snd_str (snd_cons snd_var snd_nil))) (snd_cons (snd_tup (snd_cons snd_str (snd_cons snd_var snd_nil))) (snd_cons (snd_tup (snd_cons snd_str (snd_cons snd_var snd_nil))) (snd_cons (snd_tup (snd_cons snd_str (snd_cons (snd_tup (snd_cons snd_var snd_nil)) snd_nil))) (snd_cons (snd_tup (snd_cons snd_str (snd_cons (snd_tup snd_nil) snd_nil))) (snd_cons (snd_tup (snd_cons snd_str (snd_cons (snd_tup (snd_cons snd_int (snd_cons snd_int (snd_cons (snd_neg snd_int) snd_nil)))) snd_nil))) snd_nil)))))))))) (snd_seq (snd_setF (snd_opF rv_cat snd_var (snd_l (snd_lst (snd_cons (snd_tup (snd_cons snd_str (snd_cons (snd_frz (snd_lst (snd_cons snd_int snd_nil))) snd_nil))) (snd_cons (snd_tup (snd_cons snd_str (snd_cons snd_int snd_nil))) snd_nil)))))) (snd_seq (snd_ifS (snd_test (snd_op rv_eqX (snd_call (snd_cons snd_var (snd_cons snd_int snd_nil))) snd_int)) (snd_app (snd_tup (snd_cons snd_str (snd_cons (snd_op rv_repZ (snd_tup (snd_cons snd_int snd_nil)) (snd_call (snd_cons snd_var (snd_cons (snd_l (snd_lst (snd_cons snd_int (snd_cons snd_int snd_nil)))) snd_nil)))) snd_nil)))) snd_next) snd_retO)))))))⟩
end
end LL

set_option maxHeartbeats 3999999
namespace LL
open PySem PySem.Spec PyProof.Rows L2 GG DD
abbrev s_law_bag : Stmt := top 26
theorem sc_law_bag : FnScope ["script", "cell"] ["script"] (defScope s_law_bag) := ⟨rfl, rfl, rfl, by decide +kernel, rfl, by decide +kernel, by decide +kernel⟩
/-- a new bag: x, itz cells y -/
structure NewBag (H H' : Hp) (x y : Addr) (cs : List Int) : Prop where
  keep : Same H H'
  nx : H x = none
  ny : H y = none
  ne : y ≠ x
  ax : H' x = some (.lst [.int 0, .int 1234567891, .int 0, .ref y])
  ay : H' y = some (.lst (cs.map V.int))
  len : cs.length ≤ 63
  c0 : ∀ z ∈ cs, 0 ≤ z
  nt : ∀ c ps, H' c = some (.tbl ps) → H c = some (.tbl ps)
def spBag (K : PySem.W.Frag) : Sp := fun vs H Q _ => ∃ (a : Addr) (ns : List Int), vs = [.ref a] ∧ SqL K H a (ns.map V.int) ∧ ns.length ≤ 63 ∧ ∀ (x y : Addr) (cs : List Int) (H' : Hp), NewBag H H' x y cs → Q (.ref x) H'
theorem cut_ints {ns : List Int} {lo hi : Option Int} : ∃ ds : List Int, cutV (ns.map V.int) lo hi = ds.map V.int ∧ ds.length ≤ ns.length := by
  refine ⟨(ns.drop (HT.sIx (ns.map V.int).length 0 lo)).take (HT.sIx (ns.map V.int).length (ns.map V.int).length hi - HT.sIx (ns.map V.int).length 0 lo), ?_, ?_⟩
  · unfold cutV
    rw [List.map_take, List.map_drop]
  · rw [List.length_take, List.length_drop]
    omega
theorem upd_upd {H : Hp} {p : Addr} {o u : HO} : upd (upd H p o) p u = upd H p u := by
  funext a
  by_cases e : a = p
  · rw [e, upd_same, upd_same]
  · rw [upd_ne e, upd_ne e, upd_ne e]
section
variable {P : Program} {w : World} {K : PySem.W.Frag} {mg : Str → Option Value} {base : Heap}
theorem ok_law_bag {f : Addr} {fd : FuncData} (Z : Nones mg) (F : L2.Fun K "_law_bag" "_law_bag" s_law_bag f fd) : GFn P w K mg base CX0 1 f fd ["script"] (spBag K) := by
  refine okG F sc_law_bag ?_ ?_
  · rintro vs H Q E ⟨a, ns, rfl, _⟩
    rfl
  rintro cdv A o s H vs Q E rm ⟨a, ns, rfl, hsv0, hnz, k⟩
  refine ⟨_, pss_one (ps_ret (pe_lst (pa_cons pe_int (pa_cons pe_int (pa_cons pe_int (pa_cons (pe_lc (own := [("cell", 1)]) rfl sc_law_bag.nd (pi_list (pe_slice sl_list (pv 0) po_none (po_some pe_int))) (blkOk_by (by show blkC ["script", "cell"] (defScope s_law_bag) _ _ = true; decide +kernel))
    (fun _ _ _ _ _ => (pg_name (i := 1) sc_law_bag.nd rfl (by first | exact Or.inl rfl | exact Or.inr rfl))) (fun _ _ _ _ _ => pts_nil) (fun _ _ _ _ _ => (pe_callB call_abs (by rfl) Z.zabs (by rfl) (pa_cons (pv 1) pa_nil)))) pa_nil)))))), ?_⟩
  obtain ⟨ds, ed, hdz⟩ := cut_ints (ns := ns) (lo := none) (hi := some 63)
  refine ⟨_, rfl, _, rfl, _, _, rfl, hsv0, fun p1 h1 => ?_⟩
  rw [ed]
  refine ⟨p1, rfl, ⟨_, SqL.of upd_same⟩, fun D hD => ?_⟩
  have nD1 : D ≠ p1 := by
    intro z
    rw [z, upd_same] at hD
    cases hD
  have HD : H D = none := by
    rw [upd_ne nD1] at hD
    exact hD
  refine lc_it (walk_list (xs := ds.map V.int)) (fun i H' => ∃ acc : List Int, H' = upd (upd H p1 (.lst (ds.map V.int))) D (.lst (acc.map V.int)) ∧ acc.length = i ∧ ∀ z ∈ acc, 0 ≤ z) ⟨[], rfl, rfl, fun _ z => by cases z⟩ ?_ ?_ ?_
  · rintro i H' _ ⟨acc, rfl, _⟩
    exact SqL.of (by rw [upd_ne nD1.symm]; exact upd_same)
  · rintro i x H' Hx hi ⟨acc, rfl, hlz0, h0⟩ ⟨rfl, hxz⟩
    obtain ⟨n, rfl⟩ : ∃ n, x = V.int n := by
      rw [List.getElem?_map] at hxz
      cases e : ds[i]? with
      | none =>
        rw [e] at hxz
        cases hxz
      | some n =>
        rw [e] at hxz
        exact ⟨n, (Option.some.inj hxz).symm⟩
    refine ⟨rfl, ?_⟩
    unfold tYes
    dsimp only
    rw [if_pos rfl]
    refine ⟨_, rfl, _, rfl, _, upd_same, ?_, acc ++ [if n < 0 then -n else n], ?_, by rw [List.length_append, hlz0]; rfl, ?_⟩
    · rw [List.length_map] at hi ⊢
      rw [hlz0, sizeLine_eq]
      omega
    · rw [upd_upd, List.map_append]
      rfl
    · intro z hzz
      rcases List.mem_append.mp hzz with hzz | hzz
      · exact h0 z hzz
      · obtain rfl := List.mem_singleton.mp hzz
        split <;> omega
  · rintro H' ⟨acc, rfl, hlz0, h0⟩
    refine ⟨by rw [sizeLine_eq]; show 4 ≤ 16777216; omega, fun x hxz => ?_⟩
    have nxD : x ≠ D := by
      intro z
      rw [z, upd_same] at hxz
      cases hxz
    have nx1 : x ≠ p1 := by
      intro z
      rw [upd_ne nxD, z, upd_same] at hxz
      cases hxz
    have Hx : H x = none := by
      rw [upd_ne nxD, upd_ne nx1] at hxz
      exact hxz
    refine k x D acc _ ⟨?_, Hx, HD, nxD.symm, upd_same, by rw [upd_ne nxD.symm]; exact upd_same, ?_, h0, ?_⟩
    · intro c u e
      rw [upd_ne (ne_of_none e Hx), upd_ne (ne_of_none e HD), upd_ne (ne_of_none e h1)]
      exact e
    · rw [hlz0, List.length_map]
      omega
    · intro c ps e
      exact nt_upd (by intro _ z; cases z) c ps (nt_upd (by intro _ z; cases z) c ps (nt_upd (by intro _ z; cases z) c ps e))
end
end LL

set_option maxHeartbeats 3999999
namespace LL
open PySem PySem.Spec PyProof.Rows L2 GG DD
/-- a promise for whatever bag there is -/
def spX (K : PySem.W.Frag) (n : Nat) (f : Fm) : Sp := fun vs H Q E => ∃ b : BP, b.T = [] ∧ spD K b n f vs H Q E
theorem gfn_any {P : Program} {w : World} {K : PySem.W.Frag} {mg : Str → Option Value} {base : Heap} {k : Nat} {f : Addr} {fd : FuncData} {ps : List Str} {n : Nat} {g : Fm}
    (h : ∀ b : BP, b.T = [] → GFn P w K mg base CX0 k f fd ps (spD K b n g)) : GFn P w K mg base CX0 k f fd ps (spX K n g) := by
  constructor
  · rintro vs H Q E ⟨b, ez2, q⟩
    exact (h b ez2).arity vs H Q E q
  · rintro A o s H ar us vs Q E rm e0 bt rvz ⟨b, ez2, q⟩
    exact (h b ez2).go A o s H ar us vs Q E rm e0 bt rvz q
theorem snd_callX {K : PySem.W.Frag} {b : BP} {n : Nat} {f : Fm} {tas : TA} {ms : Wl} (ez2 : b.T = []) (h : SndA K b tas ms) : Snd K b (tCall (spX K n f) [] E0 tas) (callW n f ms) := by
  intro M0 H0 O σ H env r Qa hmz Q k
  refine h M0 H0 O σ H env r _ hmz _ ?_
  rintro vs ws H' f' g rp ⟨hlz0, q⟩
  have r' := r.after f' g
  refine ⟨b, ez2, by rw [List.append_nil, Paired.length rp, hlz0], MO M0 O, ws, Qa, r.mbO, .inl r.mc, r'.domO, g, by rw [List.append_nil]; exact rp, q, ?_⟩
  intro v w H2 f2 g2 r2 q2
  exact k v w H2 (f'.trans f2) g2 r2 q2
/-- .. of a new list -/
def spXF (K : PySem.W.Frag) (n : Nat) (f : FmF) : Sp := fun vs H Q E => ∃ b : BP, b.T = [] ∧ spF K b n f vs H Q E
theorem gfn_anyF {P : Program} {w : World} {K : PySem.W.Frag} {mg : Str → Option Value} {base : Heap} {k : Nat} {f : Addr} {fd : FuncData} {ps : List Str} {n : Nat} {g : FmF}
    (h : ∀ b : BP, b.T = [] → GFn P w K mg base CX0 k f fd ps (spF K b n g)) : GFn P w K mg base CX0 k f fd ps (spXF K n g) := by
  constructor
  · rintro vs H Q E ⟨b, ez2, q⟩
    exact (h b ez2).arity vs H Q E q
  · rintro A o s H ar us vs Q E rm e0 bt rvz ⟨b, ez2, q⟩
    exact (h b ez2).go A o s H ar us vs Q E rm e0 bt rvz q
theorem snd_callFX {K : PySem.W.Frag} {b : BP} {n : Nat} {f : FmF} {tas : TA} {ms : Wl} (ez2 : b.T = []) (h : SndA K b tas ms) : SndF K b (tCall (spXF K n f) [] E0 tas) (callF n f ms) := by
  intro M0 H0 O σ H env r Qa hmz Q k
  refine h M0 H0 O σ H env r _ hmz _ ?_
  rintro vs ws H' f' g rp ⟨hlz0, q⟩
  have r' := r.after f' g
  refine ⟨b, ez2, by rw [List.append_nil, Paired.length rp, hlz0], MO M0 O, ws, Qa, r.mbO, .inl r.mc, r'.domO, g, by rw [List.append_nil]; exact rp, q, ?_⟩
  intro v xs H2 f2 g2 r2 q2
  exact k v xs H2 (f'.trans f2) g2 (r2.pre f' g) q2
def spLaw (K : PySem.W.Frag) : Sp := fun vs H Q _ => ∃ (a : Addr) (ns : List Int), vs = [.ref a] ∧ SqL K H a (ns.map V.int) ∧ ns.length ≤ 63 ∧ (∀ c ps, H c ≠ some (.tbl ps)) ∧ ∀ H', Q (.bl true) H'
abbrev slaw : Stmt := top 42
theorem sclaw : FnScope ["script", "bag", "value", "grown", "rows", "error", "fields", "turn", "things", "k", "thing", "told", "kept", "due"] ["script"] (defScope slaw) := ⟨rfl, rfl, rfl, by decide +kernel, rfl, by decide +kernel, by decide +kernel⟩
def mlaw (K : PySem.W.Frag) (F_law_odd : Fm) (F_law_error_rows : FmF) (F_law_alike : Fm) (F_law_are_errors_right : Fm) (F_law_small_things : FmF) (F_law_bent : Fm) (F_law_some : Fm) (Fis_way : Fm) (Fis_sort : Fm) (Fis_name : Fm) (Fis_integer : Fm) (F_law_is_way : Fm) (F_law_is_sort : Fm) (F_law_is_name : Fm) (F_law_is_int : Fm) (F_law_barred : FmF) (Fis_barred : Fm) : Ws := (startW (callW 1 F_law_odd (consW (varW 1) nilW)) F_law_error_rows (seqW (forW (itLW (varW 4)) (gtupW 2 (gconsW (gnW 5) (gconsW (gnW 6) gnilW))) (iffW (notW (testW (callW 2 F_law_alike (consW (varW 6) (consW (lW (slLF (lW (lstW (consW (varW 3) (consW (varW 2) nilW)))) noW (partW (cbW lenF (consW (varW 6) nilW))))) nilW))))) (retW (conW (.bool false))) nxtW)) (seqW (iffW (orW (notW (testW (callW 2 F_law_are_errors_right (consW (varW 2) (consW (frzW (lstW (consW (varW 2) nilW))) nilW))))) (notW (testW (callW 2 F_law_are_errors_right (consW (frzW (lstW (consW (varW 2) nilW))) (consW (varW 2) nilW)))))) (retW (conW (.bool false))) nxtW) (seqW (forW (itRW (conW (.int 4))) (gnW 7) (seqW (setFW 8 (callF 1 F_law_small_things (consW (varW 1) nilW))) (seqW (setFW 8 (opF catF (lW (opF catF (varW 8) (lW (lcompW [9] (itRW (conW (.int 6))) (gnW 9) yesW (callW 2 F_law_bent (consW (varW 1) (consW (callW 2 F_law_some (consW (varW 1) (consW (varW 8) nilW))) nilW))))))) (lW (lstW (consW (callW 1 F_law_odd (consW (varW 1) nilW)) (consW errW nilW)))))) (relW 8 (forW (itLW (varW 8)) (gnW 10) (seqW (parW 11 12 (consW (frzW (lstW (consW (callW 1 Fis_integer (consW (varW 10) nilW)) (consW (callW 1 Fis_name (consW (varW 10) nilW)) (consW (callW 1 Fis_sort (consW (varW 10) nilW)) (consW (callW 1 Fis_way (consW (varW 10) nilW)) nilW)))))) (consW (cbW reprXF (consW (varW 10) nilW)) nilW))) (seqW (setFW 13 (lstW (consW (callW 1 F_law_is_int (consW (varW 10) nilW)) (consW (callW 1 F_law_is_name (consW (varW 10) nilW)) (consW (callW 1 F_law_is_sort (consW (varW 10) nilW)) (consW (callW 1 F_law_is_way (consW (varW 10) nilW)) nilW)))))) (seqW (iffW (orW (notW (testW (callW 2 F_law_alike (consW (varW 11) (consW (varW 13) nilW))))) (testW (opW neSF (cbW reprXF (consW (varW 10) nilW)) (varW 12)))) (retW (conW (.bool false))) nxtW) (iffW (andW (testW (isinW "str" (varW 10))) (notW (testW (callW 2 F_law_alike (consW (callW 1 Fis_barred (consW (varW 10) nilW)) (consW (opW (inF false) (varW 10) (lW (callF 0 F_law_barred nilW))) nilW)))))) (retW (conW (.bool false))) nxtW))))))))) (retW (conW (.bool true)))))))
def envlaw : En := [E.un, E.v W.bag, E.un, E.un, E.un, E.un, E.un, E.un, E.un, E.un, E.un, E.un, E.un, E.un]
section
variable {P : Program} {w : World} {K : PySem.W.Frag} {mg : Str → Option Value} {base : Heap}
theorem oklaw (F_law_odd : Fm) (F_law_error_rows : FmF) (F_law_alike : Fm) (F_law_are_errors_right : Fm) (F_law_small_things : FmF) (F_law_bent : Fm) (F_law_some : Fm) (Fis_way : Fm) (Fis_sort : Fm) (Fis_name : Fm) (Fis_integer : Fm) (F_law_is_way : Fm) (F_law_is_sort : Fm) (F_law_is_name : Fm) (F_law_is_int : Fm) (F_law_barred : FmF) (Fis_barred : Fm) {f : Addr} {fd : FuncData} (Z : Nones mg) {CN fN : Addr} {fdN : FuncData} (ZNoCommand : Err P w K mg base "NoCommand" CN fN fdN)
    {f_law_bag : Addr} {fd_law_bag : FuncData} (D_law_bag : Dfn P w K mg base 1 f_law_bag fd_law_bag "_law_bag" ["script"] (spBag K))
    {f_law_odd : Addr} {fd_law_odd : FuncData} (D_law_odd : Dfn P w K mg base 3 f_law_odd fd_law_odd "_law_odd" ["bag"] (spX K 1 F_law_odd))
    {f_law_error_rows : Addr} {fd_law_error_rows : FuncData} (D_law_error_rows : Dfn P w K mg base 3 f_law_error_rows fd_law_error_rows "_law_error_rows" ["one", "two"] (spXF K 2 F_law_error_rows))
    {f_law_alike : Addr} {fd_law_alike : FuncData} (D_law_alike : Dfn P w K mg base 1 f_law_alike fd_law_alike "_law_alike" ["found", "due"] (spX K 2 F_law_alike))
    {f_law_are_errors_right : Addr} {fd_law_are_errors_right : FuncData} (D_law_are_errors_right : Dfn P w K mg base 4 f_law_are_errors_right fd_law_are_errors_right "_law_are_errors_right" ["one", "two"] (spX K 2 F_law_are_errors_right))
    {f_law_small_things : Addr} {fd_law_small_things : FuncData} (D_law_small_things : Dfn P w K mg base 3 f_law_small_things fd_law_small_things "_law_small_things" ["bag"] (spXF K 1 F_law_small_things))
    {f_law_bent : Addr} {fd_law_bent : FuncData} (D_law_bent : Dfn P w K mg base 6 f_law_bent fd_law_bent "_law_bent" ["bag", "thing"] (spX K 2 F_law_bent))
    {f_law_some : Addr} {fd_law_some : FuncData} (D_law_some : Dfn P w K mg base 2 f_law_some fd_law_some "_law_some" ["bag", "things"] (spX K 2 F_law_some))
    {fis_way : Addr} {fdis_way : FuncData} (Dis_way : Dfn P w K mg base 3 fis_way fdis_way "is_way" ["thing"] (spX K 1 Fis_way))
    {fis_sort : Addr} {fdis_sort : FuncData} (Dis_sort : Dfn P w K mg base 3 fis_sort fdis_sort "is_sort" ["thing"] (spX K 1 Fis_sort))
    {fis_name : Addr} {fdis_name : FuncData} (Dis_name : Dfn P w K mg base 1 fis_name fdis_name "is_name" ["thing"] (spX K 1 Fis_name))
    {fis_integer : Addr} {fdis_integer : FuncData} (Dis_integer : Dfn P w K mg base 1 fis_integer fdis_integer "is_integer" ["thing"] (spX K 1 Fis_integer))
    {f_law_is_way : Addr} {fd_law_is_way : FuncData} (D_law_is_way : Dfn P w K mg base 3 f_law_is_way fd_law_is_way "_law_is_way" ["thing"] (spX K 1 F_law_is_way))
    {f_law_is_sort : Addr} {fd_law_is_sort : FuncData} (D_law_is_sort : Dfn P w K mg base 3 f_law_is_sort fd_law_is_sort "_law_is_sort" ["thing"] (spX K 1 F_law_is_sort))
    {f_law_is_name : Addr} {fd_law_is_name : FuncData} (D_law_is_name : Dfn P w K mg base 2 f_law_is_name fd_law_is_name "_law_is_name" ["thing"] (spX K 1 F_law_is_name))
    {f_law_is_int : Addr} {fd_law_is_int : FuncData} (D_law_is_int : Dfn P w K mg base 1 f_law_is_int fd_law_is_int "_law_is_int" ["thing"] (spX K 1 F_law_is_int))
    {f_law_barred : Addr} {fd_law_barred : FuncData} (D_law_barred : Dfn P w K mg base 1 f_law_barred fd_law_barred "_law_barred" [] (spXF K 0 F_law_barred))
    {fis_barred : Addr} {fdis_barred : FuncData} (Dis_barred : Dfn P w K mg base 1 fis_barred fdis_barred "is_barred" ["word"] (spX K 1 Fis_barred))
    (F : L2.Fun K "law" "law" slaw f fd) (math : mlaw K F_law_odd F_law_error_rows F_law_alike F_law_are_errors_right F_law_small_things F_law_bent F_law_some Fis_way Fis_sort Fis_name Fis_integer F_law_is_way F_law_is_sort F_law_is_name F_law_is_int F_law_barred Fis_barred envlaw (outV fun w => w = .d (.bool true))) : GFn P w K mg base CX0 7 f fd ["script"] (spLaw K) := by
  have D_law_oddle : 3 ≤ 6 := by decide
  have D_law_error_rowsle : 3 ≤ 6 := by decide
  have D_law_alikele : 1 ≤ 6 := by decide
  have D_law_are_errors_rightle : 4 ≤ 6 := by decide
  have D_law_small_thingsle : 3 ≤ 6 := by decide
  have D_law_bentle : 6 ≤ 6 := by decide
  have D_law_somele : 2 ≤ 6 := by decide
  have Dis_wayle : 3 ≤ 6 := by decide
  have Dis_sortle : 3 ≤ 6 := by decide
  have Dis_namele : 1 ≤ 6 := by decide
  have Dis_integerle : 1 ≤ 6 := by decide
  have D_law_is_wayle : 3 ≤ 6 := by decide
  have D_law_is_sortle : 3 ≤ 6 := by decide
  have D_law_is_namele : 2 ≤ 6 := by decide
  have D_law_is_intle : 1 ≤ 6 := by decide
  have D_law_barredle : 1 ≤ 6 := by decide
  have Dis_barredle : 1 ≤ 6 := by decide
  have D_law_bagle : 1 ≤ 6 := by decide
  refine okG F sclaw ?_ ?_
  · rintro vs H Q E ⟨a, ns, rfl, _⟩
    rfl
  rintro cdv A o s H vs Q E rm ⟨a, ns, rfl, hsv0, hnz, only, k⟩
  obtain ⟨t, hpz, hsnd⟩ : ∃ t, PSs (cxOf CX0 P w K mg base ["script", "bag", "value", "grown", "rows", "error", "fields", "turn", "things", "k", "thing", "told", "kept", "due"] "law" (defScope slaw) f cdv A o s H E) (defBody slaw).tail t ∧ ∀ b : BP, b.T = [] → SndS K b t (mlaw K F_law_odd F_law_error_rows F_law_alike F_law_are_errors_right F_law_small_things F_law_bent F_law_some Fis_way Fis_sort Fis_name Fis_integer F_law_is_way F_law_is_sort F_law_is_name F_law_is_int F_law_barred Fis_barred) :=
    ⟨_, (pss_cons (ps_par (i := 2) (j := 3) rfl sclaw.nd rfl rfl (by decide) rfl rfl (by exact (pa_cons (pe_g (D_law_odd.gfn.mono D_law_oddle) rm (by rfl) D_law_odd.mg D_law_odd.kp D_law_odd.bi .nil pass0 (pa_cons (pv 1) pa_nil)) (pa_cons (pe_lst (pa_cons pe_int pa_nil)) pa_nil))) rfl) (pss_cons (ps_set (i := 4) sclaw.nd rfl (by first | exact Or.inl rfl | exact Or.inr rfl) (pe_g (D_law_error_rows.gfn.mono D_law_error_rowsle) rm (by rfl) D_law_error_rows.mg D_law_error_rows.kp D_law_error_rows.bi .nil pass0 (pa_cons (pv 3) (pa_cons (pv 2) pa_nil)))) (pss_cons (ps_expr (pe_bm PySem.F.plainAttrs_list PySem.F.slot_list_append PySem.F.type_list_append mt_append (pv 3) (pa_cons (pv 2) pa_nil))) (pss_cons (ps_for PassesOwn.leaving rfl (pi_list (pv 4)) (pg_tup rfl (pgs_cons (pg_name (i := 5) sclaw.nd rfl (by first | exact Or.inl rfl | exact Or.inr rfl)) (pgs_cons (pg_name (i := 6) sclaw.nd rfl (by first | exact Or.inl rfl | exact Or.inr rfl)) pgs_nil))) (pss_one (ps_if (pt_not (pt_val (pe_g (D_law_alike.gfn.mono D_law_alikele) rm (by rfl) D_law_alike.mg D_law_alike.kp D_law_alike.bi .nil pass0 (pa_cons (pv 6) (pa_cons (pe_slice sl_list (pe_lst (pa_cons (pv 3) (pa_cons (pv 2) pa_nil))) po_none (po_some (pe_callB call_len (by rfl) Z.zlen (by rfl) (pa_cons (pv 6) pa_nil)))) pa_nil))))) (pss_one (ps_ret pe_bl)) pss_nil))) (pss_cons (ps_if (pw_or (pt_not (pt_val (pe_g (D_law_are_errors_right.gfn.mono D_law_are_errors_rightle) rm (by rfl) D_law_are_errors_right.mg D_law_are_errors_right.kp D_law_are_errors_right.bi .nil pass0 (pa_cons (pv 2) (pa_cons (pe_lst (pa_cons (pv 2) pa_nil)) pa_nil))))) (pw_or1 (pt_not (pt_val (pe_g (D_law_are_errors_right.gfn.mono D_law_are_errors_rightle) rm (by rfl) D_law_are_errors_right.mg D_law_are_errors_right.kp D_law_are_errors_right.bi .nil pass0 (pa_cons (pe_lst (pa_cons (pv 2) pa_nil)) (pa_cons (pv 2) pa_nil))))))).pt (pss_one (ps_ret pe_bl)) pss_nil) (pss_cons (ps_for PassesOwn.leaving rfl (pi_range1 (by rfl) Z.zrange (pa_cons pe_int pa_nil)) (pg_name (i := 7) sclaw.nd rfl (by first | exact Or.inl rfl | exact Or.inr rfl)) (pss_cons (ps_set (i := 8) sclaw.nd rfl (by first | exact Or.inl rfl | exact Or.inr rfl) (pe_g (D_law_small_things.gfn.mono D_law_small_thingsle) rm (by rfl) D_law_small_things.mg D_law_small_things.kp D_law_small_things.bi .nil pass0 (pa_cons (pv 1) pa_nil))) (pss_cons (ps_set (i := 8) sclaw.nd rfl (by first | exact Or.inl rfl | exact Or.inr rfl) (pe_op op_cat (pe_op op_cat (pv 8) (pe_lc (own := [("k", 9)]) rfl sclaw.nd (pi_range1 (by rfl) Z.zrange (pa_cons pe_int pa_nil)) (blkOk_by (by show blkC ["script", "bag", "value", "grown", "rows", "error", "fields", "turn", "things", "k", "thing", "told", "kept", "due"] (defScope slaw) _ _ = true; decide +kernel)) (fun _ _ _ _ _ => (pg_name (i := 9) sclaw.nd rfl (by first | exact Or.inl rfl | exact Or.inr rfl))) (fun _ _ _ _ _ => pts_nil) (fun _ _ _ _ _ => (pe_g (D_law_bent.gfn.mono D_law_bentle) rm (by rfl) D_law_bent.mg D_law_bent.kp D_law_bent.bi .nil pass0 (pa_cons (pv 1) (pa_cons (pe_g (D_law_some.gfn.mono D_law_somele) rm (by rfl) D_law_some.mg D_law_some.kp D_law_some.bi .nil pass0 (pa_cons (pv 1) (pa_cons (pv 8) pa_nil))) pa_nil)))))) (pe_lst (pa_cons (pe_g (D_law_odd.gfn.mono D_law_oddle) rm (by rfl) D_law_odd.mg D_law_odd.kp D_law_odd.bi .nil pass0 (pa_cons (pv 1) pa_nil)) (pa_cons (pe_errT ZNoCommand.T ZNoCommand.iC ZNoCommand.tI ZNoCommand.gfn (rm.mono (by decide)) ZNoCommand.bi pass0 (by rfl) ZNoCommand.mg) pa_nil))))) (pss_one (ps_for PassesOwn.leaving rfl (pi_list (pv 8)) (pg_name (i := 10) sclaw.nd rfl (by first | exact Or.inl rfl | exact Or.inr rfl)) (pss_cons (ps_par (i := 11) (j := 12) rfl sclaw.nd rfl rfl (by decide) rfl rfl (by exact (pa_cons (pe_lst (pa_cons (pe_g (Dis_integer.gfn.mono Dis_integerle) rm (by rfl) Dis_integer.mg Dis_integer.kp Dis_integer.bi .nil pass0 (pa_cons (pv 10) pa_nil)) (pa_cons (pe_g (Dis_name.gfn.mono Dis_namele) rm (by rfl) Dis_name.mg Dis_name.kp Dis_name.bi .nil pass0 (pa_cons (pv 10) pa_nil)) (pa_cons (pe_g (Dis_sort.gfn.mono Dis_sortle) rm (by rfl) Dis_sort.mg Dis_sort.kp Dis_sort.bi .nil pass0 (pa_cons (pv 10) pa_nil)) (pa_cons (pe_g (Dis_way.gfn.mono Dis_wayle) rm (by rfl) Dis_way.mg Dis_way.kp Dis_way.bi .nil pass0 (pa_cons (pv 10) pa_nil)) pa_nil))))) (pa_cons (pe_callB (call_reprX rm) (by rfl) Z.zrepr (by rfl) (pa_cons (pv 10) pa_nil)) pa_nil))) rfl) (pss_cons (ps_set (i := 13) sclaw.nd rfl (by first | exact Or.inl rfl | exact Or.inr rfl) (pe_lst (pa_cons (pe_g (D_law_is_int.gfn.mono D_law_is_intle) rm (by rfl) D_law_is_int.mg D_law_is_int.kp D_law_is_int.bi .nil pass0 (pa_cons (pv 10) pa_nil)) (pa_cons (pe_g (D_law_is_name.gfn.mono D_law_is_namele) rm (by rfl) D_law_is_name.mg D_law_is_name.kp D_law_is_name.bi .nil pass0 (pa_cons (pv 10) pa_nil)) (pa_cons (pe_g (D_law_is_sort.gfn.mono D_law_is_sortle) rm (by rfl) D_law_is_sort.mg D_law_is_sort.kp D_law_is_sort.bi .nil pass0 (pa_cons (pv 10) pa_nil)) (pa_cons (pe_g (D_law_is_way.gfn.mono D_law_is_wayle) rm (by rfl) D_law_is_way.mg D_law_is_way.kp D_law_is_way.bi .nil pass0 (pa_cons (pv 10) pa_nil)) pa_nil)))))) (pss_cons (ps_if (pw_or (pt_not (pt_val (pe_g (D_law_alike.gfn.mono D_law_alikele) rm (by rfl) D_law_alike.mg D_law_alike.kp D_law_alike.bi .nil pass0 (pa_cons (pv 11) (pa_cons (pv 13) pa_nil))))) (pw_or1 (pt_cmpR op_ne (pe_callB (call_reprX rm) (by rfl) Z.zrepr (by rfl) (pa_cons (pv 10) pa_nil)) (pv 12) (nomark _)))).pt (pss_one (ps_ret pe_bl)) pss_nil) (pss_one (ps_if (pw_and (pt_val (pe_callB call_isiG (by rfl) Z.zisinstance (by rfl) (pa_cons (pv 10) (pa_cons (pe_bltn (v := .ty "str") (by rfl) Z.zstr (by rfl) rfl) pa_nil)))) (pw_and1 (pt_not (pt_val (pe_g (D_law_alike.gfn.mono D_law_alikele) rm (by rfl) D_law_alike.mg D_law_alike.kp D_law_alike.bi .nil pass0 (pa_cons (pe_g (Dis_barred.gfn.mono Dis_barredle) rm (by rfl) Dis_barred.mg Dis_barred.kp Dis_barred.bi .nil pass0 (pa_cons (pv 10) pa_nil)) (pa_cons (pe_cmpR op_in_seq (pv 10) (pe_g0 (D_law_barred.gfn.mono D_law_barredle) rm (by rfl) D_law_barred.mg D_law_barred.kp D_law_barred.bi .nil pass0) (by rfl)) pa_nil))))))).pt (pss_one (ps_ret pe_bl)) pss_nil)))))))))) (pss_one (ps_ret pe_bl)))))))), fun b hTb => (snd_start (snd_callX hTb (snd_cons snd_var snd_nil)) (fun vs H Q E h => ⟨b, hTb, h⟩) (snd_seq (snd_for (si_list snd_var) (sg_tup (sg_cons sg_name (sg_cons sg_name sg_nil))) (snd_ifS (snd_not (snd_tB (snd_callX hTb (snd_cons snd_var (snd_cons (snd_l (snd_slL (snd_l (snd_lst (snd_cons snd_var (snd_cons snd_var snd_nil)))) so_no (so_part (snd_cb rc_len (snd_cons snd_var snd_nil))))) snd_nil))))) (snd_ret snd_bl) snd_next)) (snd_seq (snd_ifS (snd_or (snd_not (snd_tB (snd_callX hTb (snd_cons snd_var (snd_cons (snd_frz (snd_lst (snd_cons snd_var snd_nil))) snd_nil))))) (snd_not (snd_tB (snd_callX hTb (snd_cons (snd_frz (snd_lst (snd_cons snd_var snd_nil))) (snd_cons snd_var snd_nil)))))) (snd_ret snd_bl) snd_next) (snd_seq (snd_for (si_range snd_int) sg_name (snd_seq (snd_setF (snd_callFX hTb (snd_cons snd_var snd_nil))) (snd_seq (snd_setF (snd_opF rv_cat (snd_l (snd_opF rv_cat snd_var (snd_l (snd_lc (si_range snd_int) sg_name gin_name snd_yes (snd_callX hTb (snd_cons snd_var (snd_cons (snd_callX hTb (snd_cons snd_var (snd_cons snd_var snd_nil))) snd_nil))))))) (snd_l (snd_lst (snd_cons (snd_callX hTb (snd_cons snd_var snd_nil)) (snd_cons (snd_err ZNoCommand.oc fun _ _ _ _ q => ⟨rfl, q⟩) snd_nil)))))) (snd_rel 8 (snd_for (si_list snd_var) sg_name (snd_seq (snd_par (snd_cons (snd_frz (snd_lst (snd_cons (snd_callX hTb (snd_cons snd_var snd_nil)) (snd_cons (snd_callX hTb (snd_cons snd_var snd_nil)) (snd_cons (snd_callX hTb (snd_cons snd_var snd_nil)) (snd_cons (snd_callX hTb (snd_cons snd_var snd_nil)) snd_nil)))))) (snd_cons (snd_cb rc_reprX (snd_cons snd_var snd_nil)) snd_nil))) (snd_seq (snd_setF (snd_lst (snd_cons (snd_callX hTb (snd_cons snd_var snd_nil)) (snd_cons (snd_callX hTb (snd_cons snd_var snd_nil)) (snd_cons (snd_callX hTb (snd_cons snd_var snd_nil)) (snd_cons (snd_callX hTb (snd_cons snd_var snd_nil)) snd_nil)))))) (snd_seq (snd_ifS (snd_or (snd_not (snd_tB (snd_callX hTb (snd_cons snd_var (snd_cons snd_var snd_nil))))) (snd_test (snd_op rv_neS (snd_cb rc_reprX (snd_cons snd_var snd_nil)) snd_var))) (snd_ret snd_bl) snd_next) (snd_ifS (snd_and (snd_tB (snd_isin snd_var)) (snd_not (snd_tB (snd_callX hTb (snd_cons (snd_callX hTb (snd_cons snd_var snd_nil)) (snd_cons (snd_op (rv_in (neg := false)) snd_var (snd_l (snd_callFX hTb snd_nil))) snd_nil)))))) (snd_ret snd_bl) snd_next))))))))) (snd_ret snd_bl)))))⟩
  refine ⟨_, pss_cons (ps_set (i := 1) sclaw.nd rfl (by first | exact Or.inl rfl | exact Or.inr rfl) (pe_g (D_law_bag.gfn.mono D_law_bagle) rm (by rfl) D_law_bag.mg D_law_bag.kp D_law_bag.bi .nil pass0 (pa_cons (pv 0) pa_nil))) hpz, ?_⟩
  refine ⟨_, rfl, a, ns, rfl, hsv0, hnz, ?_⟩
  intro x y cs H' nb
  let b : BP := ⟨x, y, x, []⟩
  have hTb : b.T = [] := rfl
  have bag : Bag b H' := by
    refine ⟨0, 1234567891, 0, cs, nb.ax, nb.ne, nb.ay, by decide, by decide, by decide, by decide, nb.len, nb.c0, ?_, ?_, ?_⟩
    · show H' x ≠ none
      rw [nb.ax]
      exact fun e => nomatch e
    · intro p hpz
      cases hpz
    · intro c ps e
      exact (only c ps (nb.nt c ps e)).elim
  have snd := hsnd b hTb
  refine snd (fun c => c = x ∨ c = y) H' (fun _ => False) _ H' envlaw ?_ _ math _ ?_ ?_ ?_ ?_ ?_
  · refine ⟨⟨.inl rfl, .inl rfl⟩, .inr rfl, ?_, Frm.refl _ _, bag, rfl, fun _ q => q.elim, ?_, ?_⟩
    · rintro c (rfl | rfl)
      · rw [nb.ax]
        exact fun e => nomatch e
      · rw [nb.ay]
        exact fun e => nomatch e
    · intro i s e h1 h2
      match i, h1, h2 with
      | 0, _, h2 =>
        obtain rfl := Option.some.inj h2
        trivial
      | 1, h1, h2 =>
        obtain rfl := Option.some.inj h1
        obtain rfl := Option.some.inj h2
        exact ⟨_, rfl, rfl, fun q => by cases q⟩
      | j + 2, _, h2 =>
        have h2 : (List.replicate 12 DD.E.un)[j]? = some e := h2
        rw [List.getElem?_replicate] at h2
        split at h2
        · obtain rfl := Option.some.inj h2
          trivial
        · cases h2
    · intro i j p xs ys _ _ h3 _
      match i, h3 with
      | 0, h3 => cases h3
      | 1, h3 => cases h3
      | j + 2, h3 =>
        have h3 : (List.replicate 12 DD.E.un)[j]? = some (DD.E.own xs) := h3
        rw [List.getElem?_replicate] at h3
        split at h3
        · cases h3
        · cases h3
  · intro O' σ' H2 env' r _ q
    cases (show W.d PyData.none = W.d (.bool true) from q)
  · intro _ _ _ _ _ _ q
    exact q.elim
  · intro _ _ _ _ _ _ q
    exact q.elim
  · rintro v w H2 f2 g2 rp q
    obtain rfl : w = .d (.bool true) := q
    obtain rfl := repBool rp
    exact k H2
  · intro _ _ _ _ _ _ q
    exact q.elim
end
end LL

set_option maxHeartbeats 3999999
/-! the errors' __init__ -/
namespace LL
open PySem PySem.Spec PyProof.Rows L2 GG DD
def clsBody : Stmt → List Stmt
  | .ClassDef _ _ _ body _ _ _ _ _ _ _ => body
  | _ => []
section
variable {P : Program} {w : World} {K : PySem.W.Frag} {mg : Str → Option Value} {base : Heap}
abbrev sIIsHome : Stmt := (clsBody (top 12)).getD 0 (.Pass ⟨0, 0, 0, 0⟩)
theorem scIIsHome : FnScope ["self", "version"] ["self", "version"] (defScope sIIsHome) := ⟨rfl, rfl, rfl, by decide +kernel, rfl, by decide +kernel, by decide +kernel⟩
theorem okIIsHome {C f : Addr} {fd : FuncData} (T : OexC K C) (h1 : PySem.W.findIn K (.ref C) "version" = some none) (F : L2.Fun K "__init__" "IsHome.__init__" sIIsHome f fd) : GFn P w K mg base CX0 1 f fd ["self", "version"] (spI1 C "version") := by
  refine okG F scIIsHome ?_ ?_
  · rintro vs H Q E ⟨a, y, rfl, _⟩
    rfl
  rintro cdv A o s H vs Q E rm ⟨a, y, rfl, haz, k⟩
  exact ⟨_, pss_one (ps_ost (pv 0) (pv 1)), y, rfl, .ref a, rfl, a, C, rfl, T, h1, .inl ⟨haz, k⟩⟩
abbrev sINoCommand : Stmt := (clsBody (top 13)).getD 0 (.Pass ⟨0, 0, 0, 0⟩)
theorem scINoCommand : FnScope ["self"] ["self"] (defScope sINoCommand) := ⟨rfl, rfl, rfl, by decide +kernel, rfl, by decide +kernel, by decide +kernel⟩
theorem okINoCommand {f : Addr} {fd : FuncData} (F : L2.Fun K "__init__" "NoCommand.__init__" sINoCommand f fd) : GFn P w K mg base CX0 1 f fd ["self"] spNil :=
  okG F scINoCommand (fun vs H Q E h => h.1) fun cdv A o s H vs Q E rm h => ⟨_, pss_one ps_pass, h.2⟩
abbrev sINoPiece : Stmt := (clsBody (top 14)).getD 0 (.Pass ⟨0, 0, 0, 0⟩)
theorem scINoPiece : FnScope ["self", "piece"] ["self", "piece"] (defScope sINoPiece) := ⟨rfl, rfl, rfl, by decide +kernel, rfl, by decide +kernel, by decide +kernel⟩
theorem okINoPiece {C f : Addr} {fd : FuncData} (T : OexC K C) (h1 : PySem.W.findIn K (.ref C) "piece" = some none) (F : L2.Fun K "__init__" "NoPiece.__init__" sINoPiece f fd) : GFn P w K mg base CX0 1 f fd ["self", "piece"] (spI1 C "piece") := by
  refine okG F scINoPiece ?_ ?_
  · rintro vs H Q E ⟨a, y, rfl, _⟩
    rfl
  rintro cdv A o s H vs Q E rm ⟨a, y, rfl, haz, k⟩
  exact ⟨_, pss_one (ps_ost (pv 0) (pv 1)), y, rfl, .ref a, rfl, a, C, rfl, T, h1, .inl ⟨haz, k⟩⟩
abbrev sINoText : Stmt := (clsBody (top 15)).getD 0 (.Pass ⟨0, 0, 0, 0⟩)
theorem scINoText : FnScope ["self", "line"] ["self", "line"] (defScope sINoText) := ⟨rfl, rfl, rfl, by decide +kernel, rfl, by decide +kernel, by decide +kernel⟩
theorem okINoText {C f : Addr} {fd : FuncData} (T : OexC K C) (h1 : PySem.W.findIn K (.ref C) "line" = some none) (F : L2.Fun K "__init__" "NoText.__init__" sINoText f fd) : GFn P w K mg base CX0 1 f fd ["self", "line"] (spI1 C "line") := by
  refine okG F scINoText ?_ ?_
  · rintro vs H Q E ⟨a, y, rfl, _⟩
    rfl
  rintro cdv A o s H vs Q E rm ⟨a, y, rfl, haz, k⟩
  exact ⟨_, pss_one (ps_ost (pv 0) (pv 1)), y, rfl, .ref a, rfl, a, C, rfl, T, h1, .inl ⟨haz, k⟩⟩
abbrev sINotEnd : Stmt := (clsBody (top 16)).getD 0 (.Pass ⟨0, 0, 0, 0⟩)
theorem scINotEnd : FnScope ["self", "version"] ["self", "version"] (defScope sINotEnd) := ⟨rfl, rfl, rfl, by decide +kernel, rfl, by decide +kernel, by decide +kernel⟩
theorem okINotEnd {C f : Addr} {fd : FuncData} (T : OexC K C) (h1 : PySem.W.findIn K (.ref C) "version" = some none) (F : L2.Fun K "__init__" "NotEnd.__init__" sINotEnd f fd) : GFn P w K mg base CX0 1 f fd ["self", "version"] (spI1 C "version") := by
  refine okG F scINotEnd ?_ ?_
  · rintro vs H Q E ⟨a, y, rfl, _⟩
    rfl
  rintro cdv A o s H vs Q E rm ⟨a, y, rfl, haz, k⟩
  exact ⟨_, pss_one (ps_ost (pv 0) (pv 1)), y, rfl, .ref a, rfl, a, C, rfl, T, h1, .inl ⟨haz, k⟩⟩
abbrev sINotMoved : Stmt := (clsBody (top 17)).getD 0 (.Pass ⟨0, 0, 0, 0⟩)
theorem scINotMoved : FnScope ["self", "piece"] ["self", "piece"] (defScope sINotMoved) := ⟨rfl, rfl, rfl, by decide +kernel, rfl, by decide +kernel, by decide +kernel⟩
theorem okINotMoved {C f : Addr} {fd : FuncData} (T : OexC K C) (h1 : PySem.W.findIn K (.ref C) "piece" = some none) (F : L2.Fun K "__init__" "NotMoved.__init__" sINotMoved f fd) : GFn P w K mg base CX0 1 f fd ["self", "piece"] (spI1 C "piece") := by
  refine okG F scINotMoved ?_ ?_
  · rintro vs H Q E ⟨a, y, rfl, _⟩
    rfl
  rintro cdv A o s H vs Q E rm ⟨a, y, rfl, haz, k⟩
  exact ⟨_, pss_one (ps_ost (pv 0) (pv 1)), y, rfl, .ref a, rfl, a, C, rfl, T, h1, .inl ⟨haz, k⟩⟩
abbrev sINotNeighbour : Stmt := (clsBody (top 18)).getD 0 (.Pass ⟨0, 0, 0, 0⟩)
theorem scINotNeighbour : FnScope ["self", "version"] ["self", "version"] (defScope sINotNeighbour) := ⟨rfl, rfl, rfl, by decide +kernel, rfl, by decide +kernel, by decide +kernel⟩
theorem okINotNeighbour {C f : Addr} {fd : FuncData} (T : OexC K C) (h1 : PySem.W.findIn K (.ref C) "version" = some none) (F : L2.Fun K "__init__" "NotNeighbour.__init__" sINotNeighbour f fd) : GFn P w K mg base CX0 1 f fd ["self", "version"] (spI1 C "version") := by
  refine okG F scINotNeighbour ?_ ?_
  · rintro vs H Q E ⟨a, y, rfl, _⟩
    rfl
  rintro cdv A o s H vs Q E rm ⟨a, y, rfl, haz, k⟩
  exact ⟨_, pss_one (ps_ost (pv 0) (pv 1)), y, rfl, .ref a, rfl, a, C, rfl, T, h1, .inl ⟨haz, k⟩⟩
abbrev sINotTaken : Stmt := (clsBody (top 19)).getD 0 (.Pass ⟨0, 0, 0, 0⟩)
theorem scINotTaken : FnScope ["self", "word", "things"] ["self", "word", "things"] (defScope sINotTaken) := ⟨rfl, rfl, rfl, by decide +kernel, rfl, by decide +kernel, by decide +kernel⟩
theorem okINotTaken {C f : Addr} {fd : FuncData} (T : OexC K C) (h1 : PySem.W.findIn K (.ref C) "word" = some none) (h2 : PySem.W.findIn K (.ref C) "things" = some none) (F : L2.Fun K "__init__" "NotTaken.__init__" sINotTaken f fd) : GFn P w K mg base CX0 1 f fd ["self", "word", "things"] (spI2 C "word" "things") := by
  refine okG F scINotTaken ?_ ?_
  · rintro vs H Q E ⟨a, y, z, rfl, _⟩
    rfl
  rintro cdv A o s H vs Q E rm ⟨a, y, z, rfl, haz, k⟩
  exact ⟨_, pss_cons (ps_ost (pv 0) (pv 1)) (pss_one (ps_ost (pv 0) (pv 2))), y, rfl, .ref a, rfl, a, C, rfl, T, h1, .inl ⟨haz, fun dx hdz nd =>
    ⟨z, rfl, .ref a, rfl, a, C, rfl, T, h2, .inr ⟨dx, _, upd_same, by rw [upd_ne nd, upd_same], by simp, k dx hdz nd⟩⟩⟩⟩
abbrev sIRefused : Stmt := (clsBody (top 20)).getD 0 (.Pass ⟨0, 0, 0, 0⟩)
theorem scIRefused : FnScope ["self", "index", "reason"] ["self", "index", "reason"] (defScope sIRefused) := ⟨rfl, rfl, rfl, by decide +kernel, rfl, by decide +kernel, by decide +kernel⟩
theorem okIRefused {C f : Addr} {fd : FuncData} (T : OexC K C) (h1 : PySem.W.findIn K (.ref C) "index" = some none) (h2 : PySem.W.findIn K (.ref C) "reason" = some none) (F : L2.Fun K "__init__" "Refused.__init__" sIRefused f fd) : GFn P w K mg base CX0 1 f fd ["self", "index", "reason"] (spI2 C "index" "reason") := by
  refine okG F scIRefused ?_ ?_
  · rintro vs H Q E ⟨a, y, z, rfl, _⟩
    rfl
  rintro cdv A o s H vs Q E rm ⟨a, y, z, rfl, haz, k⟩
  exact ⟨_, pss_cons (ps_ost (pv 0) (pv 1)) (pss_one (ps_ost (pv 0) (pv 2))), y, rfl, .ref a, rfl, a, C, rfl, T, h1, .inl ⟨haz, fun dx hdz nd =>
    ⟨z, rfl, .ref a, rfl, a, C, rfl, T, h2, .inr ⟨dx, _, upd_same, by rw [upd_ne nd, upd_same], by simp, k dx hdz nd⟩⟩⟩⟩
abbrev sIWrong : Stmt := (clsBody (top 21)).getD 0 (.Pass ⟨0, 0, 0, 0⟩)
theorem scIWrong : FnScope ["self", "place"] ["self", "place"] (defScope sIWrong) := ⟨rfl, rfl, rfl, by decide +kernel, rfl, by decide +kernel, by decide +kernel⟩
theorem okIWrong {C f : Addr} {fd : FuncData} (T : OexC K C) (h1 : PySem.W.findIn K (.ref C) "place" = some none) (F : L2.Fun K "__init__" "Wrong.__init__" sIWrong f fd) : GFn P w K mg base CX0 1 f fd ["self", "place"] (spI1 C "place") := by
  refine okG F scIWrong ?_ ?_
  · rintro vs H Q E ⟨a, y, rfl, _⟩
    rfl
  rintro cdv A o s H vs Q E rm ⟨a, y, rfl, haz, k⟩
  exact ⟨_, pss_one (ps_ost (pv 0) (pv 1)), y, rfl, .ref a, rfl, a, C, rfl, T, h1, .inl ⟨haz, k⟩⟩
end
theorem kit_no {K : PySem.W.Frag} {C : Addr} {T : String} {b : Bool} (hmz : PySem.W.kitMeta T = true) (hsv0 : PySem.W.subIn K (.ref C) (.type T) = some b) : PySem.W.kitOne K (.ref C) (.type T) = some b := by
  unfold PySem.W.kitOne
  rw [if_neg (by show ¬ (Value.ref C == Value.type T) = true; exact fun z => by cases (beq_iff_eq.mp z))]
  unfold PySem.W.kitCls
  dsimp only
  rw [if_pos hmz]
  exact hsv0
theorem kit_ref {K : PySem.W.Frag} {C D : Addr} {b : Bool} (hD : PySem.W.hasDictIn K D = true) (ht : PySem.W.typeIn K (.ref D) = some (.type "type")) (hsv0 : PySem.W.subIn K (.ref C) (.ref D) = some b) (hb : b = true ∨ C ≠ D) : PySem.W.kitOne K (.ref C) (.ref D) = some b := by
  unfold PySem.W.kitOne
  by_cases e : C = D
  · subst e
    rw [if_pos (by simp)]
    rcases hb with rfl | hb
    · rfl
    · exact (hb rfl).elim
  · rw [if_neg (by show ¬ (Value.ref C == Value.ref D) = true; exact fun z => e (Value.ref.inj (beq_iff_eq.mp z)))]
    unfold PySem.W.kitCls
    obtain ⟨cd, ec, _⟩ := PySem.W.any_some hD
    dsimp only
    rw [if_pos (by rw [ec, ht]; rfl)]
    exact hsv0
end LL

set_option maxHeartbeats 3999999
/-! data whose leaves are short; loops -/
namespace MM
open PySem PySem.Spec PyProof.Rows L2 GG DD LL
/-! ### loops -/
theorem lc_over {α : Type} {mg : Wg} {mt : Wt} {me : Wm} {ez1 : En} (g : α → WI) (f : α → Option PD) : ∀ (xs : List α) (acc : List PD) (Q : List PD → Prop),
    (∀ a ∈ xs, ∀ Qx : Option PD → Prop, Qx (f a) → mg (g a) ez1 fun env1 => mt env1 fun c => if c = true then me env1 fun w => ∃ x, w = .d x ∧ Qx (some x) else Qx none) → acc.length + xs.length ≤ 1000000 → Q (acc ++ xs.filterMap f) → lcW mg mt me ez1 (xs.map g) acc Q
  | [], acc, Q, _, _, q => by
    rw [List.filterMap_nil, List.append_nil] at q
    exact q
  | a :: xs, acc, Q, h, hlz0, q => by
    rw [List.length_cons] at hlz0
    refine h a List.mem_cons_self (fun o => match o with
      | some x => acc.length < sizeLine ∧ lcW mg mt me ez1 (xs.map g) (acc ++ [x]) Q
      | none => lcW mg mt me ez1 (xs.map g) acc Q) ?_
    cases e : f a with
    | none =>
      rw [List.filterMap_cons_none e] at q
      exact lc_over g f xs acc Q (fun b hb => h b (List.mem_cons_of_mem _ hb)) (by omega) q
    | some x =>
      rw [List.filterMap_cons_some e] at q
      refine ⟨by rw [sizeLine_eq]; omega, lc_over g f xs (acc ++ [x]) Q (fun b hb => h b (List.mem_cons_of_mem _ hb)) (by rw [List.length_append, List.length_singleton]; omega) ?_⟩
      rw [List.append_assoc]
      exact q
theorem loop_over {α : Type} {mg : Wg} {mb : Ws} (g : α → WI) (I : Nat → En → Prop) : ∀ (xs : List α) (i : Nat) (env : En) (Q : Out → Prop),
    (∀ (j : Nat) (a : α) (env : En), xs[j]? = some a → I (i + j) env → ∀ Qo : Out → Prop, (∀ e, I (i + j + 1) e → Qo (.nx e)) → mg (g a) env fun env1 => mb env1 Qo) → I i env → (∀ env, I (i + xs.length) env → Q (.nx env)) → loopW mg mb (xs.map g) env Q
  | [], i, env, Q, _, hi, q => q env hi
  | a :: xs, i, env, Q, h, hi, q => by
    refine h 0 a env rfl hi _ ?_
    intro e hez
    refine loop_over g I xs (i + 1) e Q ?_ hez ?_
    · intro j b env' hb hi' Qo k
      have ez1 : i + 1 + j = i + (j + 1) := by omega
      rw [ez1] at hi' k
      exact h (j + 1) b env' (by simpa using hb) hi' Qo k
    · intro env' h'
      refine q env' ?_
      rw [List.length_cons]
      have ez1 : i + 1 + xs.length = i + (xs.length + 1) := by omega
      rw [ez1] at h'
      exact h'
theorem listText_le (ts : List Str) : (listText ts).length ≤ piled ts + 2 := by
  unfold listText
  cases ts with
  | nil => decide +kernel
  | cons t r =>
    have e : textFrom 0 "[" (t :: r) = textFrom 1 (("[" : Str) ++ ("" : Str) ++ t) r := rfl
    rw [e, Str.length_append, textFrom_length_pos _ _ _ (by decide), piled_cons, Str.length_append, Str.length_append]
    have h1 : ("[" : Str).length = 1 := by decide +kernel
    have h2 : ("]" : Str).length = 1 := by decide +kernel
    have h3 : ("" : Str).length = 0 := by decide +kernel
    omega
theorem tupleText_le (ts : List Str) : (tupleText ts).length ≤ piled ts + 3 := by
  unfold tupleText
  have h1 : ("(" : Str).length = 1 := by decide +kernel
  have h2 : (Str.ofString (if ts.length == 1 then ",)" else ")")).length ≤ 2 := by
    split <;> decide +kernel
  rw [Str.length_append, Str.length_append, h1]
  by_cases e : ts = []
  · subst e
    have h3 : (Str.join ", " []).length = 0 := by decide +kernel
    rw [h3]
    have := h2
    omega
  · have := join_length_add ts e
    omega
/-- a text of at most 60 plain signs -/
def lfT (z : Str) : Bool := decide (z.length ≤ 60) && z.cps.toList.all (· < 128)
mutual
def nc : PD → Bool
  | .none => true
  | .bool _ => true
  | .int i => decide (i.natAbs < 10 ^ 60)
  | .str z => lfT z
  | .list xs => ncs xs
  | .tuple xs => ncs xs
  | .dict [] => true
  | .dict [(.int 0, .tuple [])] => true
  | .dict _ => false
def ncs : List PD → Bool
  | [] => true
  | x :: xs => nc x && ncs xs
end
mutual
def wt : PD → Nat
  | .list xs => 1 + wts xs
  | .tuple xs => 1 + wts xs
  | _ => 1
def wts : List PD → Nat
  | [] => 0
  | x :: xs => wt x + wts xs
end
theorem lf_len {z : Str} (h : lfT z = true) : z.length ≤ 60 := by
  unfold lfT at h
  rw [Bool.and_eq_true] at h
  exact of_decide_eq_true h.1
theorem lf_asc {z : Str} (h : lfT z = true) : z.cps.toList.all (· < 128) = true := by
  unfold lfT at h
  rw [Bool.and_eq_true] at h
  exact h.2
theorem lf_ok {z : Str} (h : lfT z = true) : PyData.strOk z = true := by
  unfold PyData.strOk
  rw [Array.all_eq_true_iff_forall_mem]
  intro c hc
  have := of_decide_eq_true (List.all_eq_true.mp (lf_asc h) c (by simpa using hc))
  exact decide_eq_true (by omega)
theorem lf_repr {z : Str} (h : lfT z = true) : (reprText z).length ≤ 602 := by
  have e := PySem.StrLaws.reprText_len z fun c hc => by
    have := of_decide_eq_true (List.all_eq_true.mp (lf_asc h) c hc)
    have : (128 : Nat) ≤ 16 ^ 8 := by decide
    omega
  have := lf_len h
  omega
theorem int_len {i : Int} (h : i.natAbs < 10 ^ 60) : (Str.ofString (toString i)).length ≤ 61 := by
  rw [PySem.ofString_length]
  exact int_text_length_le10 (k := 60) (by decide) h
theorem int_show {i : Int} (h : i.natAbs < 10 ^ 60) : i.natAbs.log2 < 1920 := by
  by_cases z : i.natAbs = 0
  · rw [z]
    decide
  · refine (Nat.log2_lt z).mpr (Nat.lt_of_lt_of_le h ?_)
    exact (by decide +kernel : (10 : Nat) ^ 60 ≤ 2 ^ 1920)
def isNcD (kvs : List (PD × PD)) : Prop := kvs = [] ∨ kvs = [(.int 0, .tuple [])]
theorem ncd {kvs : List (PD × PD)} (h : nc (.dict kvs) = true) : isNcD kvs := by
  unfold nc at h
  split at h
  all_goals first
    | (rename_i e; cases e)
    | skip
  all_goals first
    | exact .inl rfl
    | exact .inr rfl
    | cases h
    | simp_all [isNcD]
mutual
theorem nc_show : ∀ d : PD, nc d = true → okD d = true ∧ d.showable = true ∧ d.shown.length + 2 ≤ 700 * wt d
  | .none, _ => ⟨rfl, rfl, by
    have h : (PyData.shown .none).length = 4 := by decide +kernel
    rw [h]
    simp only [wt]
    omega⟩
  | .bool b, _ => ⟨rfl, rfl, by
    have h : (PyData.shown (.bool b)).length ≤ 5 := by cases b <;> decide +kernel
    simp only [wt]
    omega⟩
  | .int i, h => by
    have h : i.natAbs < 10 ^ 60 := by simpa only [nc, decide_eq_true_eq] using h
    have e : (PyData.shown (.int i)).length ≤ 61 := int_len h
    refine ⟨rfl, decide_eq_true (int_show h), ?_⟩
    simp only [wt]
    omega
  | .str z, h => by
    have e : (PyData.shown (.str z)).length ≤ 602 := lf_repr (by simpa only [nc] using h)
    refine ⟨rfl, rfl, ?_⟩
    simp only [wt]
    omega
  | .list xs, h => by
    obtain ⟨a, b, c⟩ := nc_shows xs (by simpa only [nc] using h)
    have e : (PyData.shown (.list xs)).length ≤ piled (PyData.shownAll xs) + 2 := by
      simp only [PyData.shown]
      exact listText_le _
    refine ⟨by simp only [okD, a], by simp only [PyData.showable, b], ?_⟩
    simp only [wt]
    omega
  | .tuple xs, h => by
    obtain ⟨a, b, c⟩ := nc_shows xs (by simpa only [nc] using h)
    have e : (PyData.shown (.tuple xs)).length ≤ piled (PyData.shownAll xs) + 3 := by
      simp only [PyData.shown]
      exact tupleText_le _
    refine ⟨by simp only [okD, a], by simp only [PyData.showable, b], ?_⟩
    simp only [wt]
    omega
  | .dict kvs, h => by
    rcases ncd h with rfl | rfl
    · exact ⟨rfl, rfl, by decide +kernel⟩
    · exact ⟨rfl, rfl, by decide +kernel⟩
theorem nc_shows : ∀ xs : List PD, ncs xs = true → okDs xs = true ∧ PyData.showableAll xs = true ∧ piled (PyData.shownAll xs) ≤ 700 * wts xs
  | [], _ => ⟨rfl, rfl, by
    simp only [PyData.shownAll, piled_nil]
    exact Nat.zero_le _⟩
  | x :: xs, h => by
    simp only [ncs, Bool.and_eq_true] at h
    obtain ⟨a1, b1, c1⟩ := nc_show x h.1
    obtain ⟨a2, b2, c2⟩ := nc_shows xs h.2
    refine ⟨by simp only [okDs, a1, a2, Bool.and_self], by simp only [PyData.showableAll, b1, b2, Bool.and_self], ?_⟩
    simp only [PyData.shownAll, piled_cons, wts]
    omega
end
mutual
theorem nc_shaped : ∀ d : PD, nc d = true → d.hasDict = false → d.canLay0 = true
  | .none, _, _ => rfl
  | .bool _, _, _ => rfl
  | .int _, _, _ => rfl
  | .str x, h, _ => by
    simp only [PyData.canLay0]
    exact lf_ok (by simpa only [nc] using h)
  | .list xs, h, n => by
    simp only [PyData.canLay0]
    exact nc_shapeds xs (by simpa only [nc] using h) (by simpa only [PyData.hasDict] using n)
  | .tuple xs, h, n => by
    simp only [PyData.canLay0]
    exact nc_shapeds xs (by simpa only [nc] using h) (by simpa only [PyData.hasDict] using n)
  | .dict _, _, n => by simp [PyData.hasDict] at n
theorem nc_shapeds : ∀ xs : List PD, ncs xs = true → PyData.hasDictAll xs = false → PyData.canLayAll0 xs = true
  | [], _, _ => rfl
  | x :: xs, h, n => by
    simp only [ncs, Bool.and_eq_true] at h
    simp only [PyData.hasDictAll, Bool.or_eq_false_iff] at n
    simp only [PyData.canLayAll0, Bool.and_eq_true]
    exact ⟨nc_shaped x h.1 n.1, nc_shapeds xs h.2 n.2⟩
end
theorem shaped_of {d : PD} (h : nc d = true) (n : d.hasDict = false) (k : d.depth ≤ 32) : SeqAt.shaped d = true := by
  unfold SeqAt.shaped
  rw [nc_shaped d h n, Bool.true_and]
  exact decide_eq_true (by omega)
end MM

set_option maxHeartbeats 3999999
/-! kinds, integers, what equals a text -/
namespace MM
open PySem PySem.Spec PyProof.Rows L2 GG DD LL
theorem sz {n : Nat} (h : Nat.ble n 16777216 = true) : n ≤ sizeLine := by
  rw [sizeLine_eq]
  exact Nat.le_of_ble_eq_true h
theorem yt {A B : Prop} (h : A) : if true = true then A else B := by
  rw [if_pos rfl]
  exact h
theorem yes {A B : Prop} {c : Bool} (e : c = true) (h : A) : if c = true then A else B := by
  rw [if_pos e]
  exact h
theorem no {A B : Prop} {c : Bool} (e : c = false) (h : B) : if c = true then A else B := by
  rw [if_neg (by rw [e]; exact Bool.false_ne_true)]
  exact h
/-- what is looked at -/
def Nice (t : PD) : Prop := nc t = true ∨ t = .dict errP
def kindB (T : String) : PD → Bool
  | .none => false
  | .bool _ => T == "int" || T == "bool"
  | .int _ => T == "int"
  | .str _ => T == "str"
  | .list _ => T == "list"
  | .tuple _ => T == "tuple"
  | .dict d => T == "dict" && !badK d
theorem kits : ∀ T ∈ ["int", "bool", "str", "tuple", "dict"], kitB "NoneType" T = some false ∧ kitB "bool" T = some (T == "int" || T == "bool") ∧ kitB "int" T = some (T == "int") ∧ kitB "str" T = some (T == "str") ∧ kitB "list" T = some (T == "list") ∧ kitB "tuple" T = some (T == "tuple") ∧ kitB "dict" T = some (T == "dict") ∧ isCls T = true := by decide +kernel
theorem isin_of {T : String} (hT : T ∈ ["int", "bool", "str", "tuple", "dict"]) {t : PD} (h : Nice t) : isinD T t = some (kindB T t) := by
  obtain ⟨k1, k2, k3, k4, k5, k6, k7, k8⟩ := kits T hT
  rcases h with h | rfl
  · cases t with
    | none => exact k1
    | bool b => exact k2
    | int i => exact k3
    | str z => exact k4
    | list xs => exact k5
    | tuple xs => exact k6
    | dict kvs =>
      rcases ncd h with rfl | rfl
      · show kitB "dict" T = _
        rw [k7]
        simp [kindB, badK]
      · show kitB "dict" T = _
        rw [k7]
        simp [kindB, badK]
  · show (if isCls T = true then some false else none) = _
    rw [if_pos k8]
    simp [kindB, badK, errP]
def isI : PD → Bool
  | .int _ => true
  | _ => false
def fIsInt : Fm := fun ws Q => ∃ t, ws = [.d t] ∧ Nice t ∧ Q (.d (.bool (isI t)))
theorem w_isInt (ws Q) (h : fIsInt ws Q) : bodyW 1 mis_integer ws Q := by
  obtain ⟨t, rfl, n, q⟩ := h
  refine ⟨_, rfl, _, isin_of (by decide) n, _, rfl, ?_⟩
  cases t with
  | int i => exact yes rfl ⟨_, rfl, _, isin_of (T := "bool") (by decide) n, _, rfl, rfl, q⟩
  | bool c => exact yes rfl ⟨_, rfl, _, isin_of (T := "bool") (by decide) n, _, rfl, rfl, q⟩
  | none => exact no rfl ⟨rfl, q⟩
  | str x => exact no rfl ⟨rfl, q⟩
  | list x => exact no rfl ⟨rfl, q⟩
  | tuple x => exact no rfl ⟨rfl, q⟩
  | dict x => exact no rfl ⟨rfl, q⟩
theorem w_isInt2 (ws Q) (h : fIsInt ws Q) : bodyW 1 m_law_is_int ws Q := w_isInt ws Q h
def manyB : PD → Bool
  | .int i => decide (1 ≤ i) && decide (i ≤ 1000)
  | _ => false
def fMany : Fm := fun ws Q => ∃ t, ws = [.d t] ∧ Nice t ∧ Q (.d (.bool (manyB t)))
theorem w_chain {e : En} {m : Wm} {i : Int} {hi : Int} {Q : W → Prop} (hmz : ∀ Q : W → Prop, Q (.d (.int i)) → m e Q) (q : Q (.d (.bool (decide (1 ≤ i) && decide (i ≤ hi))))) :
    chainW (iiF (fun _ _ => True) fun i j => .bool (decide (i ≤ j))) (iiF (fun _ _ => True) fun i j => .bool (decide (i ≤ j))) (conW (.int 1)) m (conW (.int hi)) e Q := by
  refine hmz _ ?_
  refine ⟨_, _, rfl, rfl, trivial, _, rfl, ?_⟩
  by_cases h : 1 ≤ i
  · rw [decide_eq_true h] at q
    exact yes (decide_eq_true h) ⟨_, _, rfl, rfl, trivial, q⟩
  · rw [decide_eq_false h] at q
    exact no (decide_eq_false h) q
theorem w_many (ws Q) (h : fMany ws Q) : bodyW 1 (mis_many fIsInt) ws Q := by
  obtain ⟨t, rfl, n, q⟩ := h
  refine ⟨_, rfl, rfl, t, rfl, n, _, rfl, ?_⟩
  cases t with
  | int i => exact yes rfl (w_chain (fun Q q => ⟨_, rfl, q⟩) ⟨rfl, q⟩)
  | bool c => exact no rfl ⟨rfl, q⟩
  | none => exact no rfl ⟨rfl, q⟩
  | str x => exact no rfl ⟨rfl, q⟩
  | list x => exact no rfl ⟨rfl, q⟩
  | tuple x => exact no rfl ⟨rfl, q⟩
  | dict x => exact no rfl ⟨rfl, q⟩
theorem w_fromOne (ws Q) (h : fMany ws Q) : bodyW 1 (m_law_is_from_one fIsInt) ws Q := w_many ws Q h
/-! what equals a text -/
def isT (z : Str) : PD → Bool
  | .str y => y == z
  | _ => false
def Cmp (x : PD) : Prop := SeqAt.shaped x = true ∨ ∃ kds, x = .dict kds ∧ noErr kds
theorem eqv_txt (x : PD) (z : Str) : PyData.eqv x (.str z) = isT z x := by cases x <;> simp [PyData.eqv, isT]
theorem txt_eqv (x : PD) (z : Str) : PyData.eqv (.str z) x = isT z x := by
  cases x <;> simp [PyData.eqv, isT]
  rename_i y
  rw [Bool.eq_iff_iff, beq_iff_eq, beq_iff_eq]
  exact ⟨Eq.symm, Eq.symm⟩
theorem w_eqT {x : PD} {z : Str} {Q : W → Prop} (c : Cmp x) (hzz : PyData.strOk z = true) (q : Q (.d (.bool (isT z x)))) : eqXF (.d x) (.d (.str z)) Q := by
  rcases c with c | ⟨kds, rfl, ne⟩
  · refine .inl ⟨x, .str z, rfl, rfl, c, ?_, by rw [eqv_txt]; exact q⟩
    unfold SeqAt.shaped
    rw [show (PyData.str z).canLay0 = PyData.strOk z from rfl, hzz]
    rfl
  · exact .inr (.inr (.inl ⟨kds, z, rfl, ne, rfl, q⟩))
theorem strs_map : ∀ zs : List Str, strsOf (zs.map PyData.str) = some zs
  | [] => rfl
  | z :: zs => by
    rw [List.map_cons]
    show (strsOf (zs.map PyData.str)).map (z :: ·) = _
    rw [strs_map zs]
    rfl
theorem w_inT {x : PD} {zs : List Str} {Q : W → Prop} (c : Cmp x) (hzz : SeqAt.shaped (.tuple (zs.map PyData.str)) = true) (q : Q (.d (.bool (zs.any fun z => isT z x)))) : inXF (.d x) (.d (.tuple (zs.map PyData.str))) Q := by
  rcases c with c | ⟨kds, rfl, ne⟩
  · refine .inl ⟨x, _, rfl, rfl, c, hzz, ?_⟩
    rw [List.any_map]
    have e : (fun z => PyData.eqv z x) ∘ PyData.str = fun z => isT z x := by
      funext z
      exact txt_eqv x z
    rw [e]
    exact q
  · refine .inr ⟨kds, _, zs, rfl, ne, rfl, strs_map zs, ?_⟩
    have e : (zs.any fun z => isT z (.dict kds)) = false := by simp [isT]
    rw [e] at q
    exact q
/-! is_tuple_of -/
def tupB (t : PD) (n : Int) : Bool := match t with
  | .tuple xs => decide ((xs.length : Int) = n)
  | _ => false
theorem eqv_int (i j : Int) : PyData.eqv (.int i) (.int j) = decide (i = j) := by
  by_cases h : i = j <;> simp [PyData.eqv, h]
def fTupOf : Fm := fun ws Q => ∃ t n, ws = [.d t, .d (.int n)] ∧ Nice t ∧ Q (.d (.bool (tupB t n)))
theorem w_tupOf (ws Q) (h : fTupOf ws Q) : bodyW 2 mis_tuple_of ws Q := by
  obtain ⟨t, n, rfl, nt, q⟩ := h
  refine ⟨_, rfl, _, isin_of (by decide) nt, _, rfl, ?_⟩
  cases t with
  | tuple xs =>
    refine yes rfl ⟨_, rfl, _, xs.length, rfl, .inr (.inl rfl), _, rfl, .inl ⟨_, _, rfl, rfl, rfl, rfl, ?_⟩⟩
    rw [eqv_int]
    exact ⟨rfl, q⟩
  | int i => exact no rfl ⟨rfl, q⟩
  | bool c => exact no rfl ⟨rfl, q⟩
  | none => exact no rfl ⟨rfl, q⟩
  | str x => exact no rfl ⟨rfl, q⟩
  | list x => exact no rfl ⟨rfl, q⟩
  | dict x => exact no rfl ⟨rfl, q⟩
end MM

set_option maxHeartbeats 3999999
/-! names -/
namespace MM
open PySem PySem.Spec PyProof.Rows L2 GG DD LL
abbrev LET : Str := "abcdefghijklmnopqrstuvwxyz"
abbrev LD : Str := ("abcdefghijklmnopqrstuvwxyz" : Str) ++ ("0123456789" : Str)
def c1 (c : Nat) : Str := ⟨#[c]⟩
def hdB (z : Str) : Bool := match z.cps.toList with
  | [] => false
  | c :: _ => inS (c1 c) LET
def barB (z : Str) : Bool := wordsT.any fun y => PyData.eqv (.str y) (.str z)
def allB (z : Str) : Bool := z.cps.toList.all fun c => inS (c1 c) LD
def lenB (z : Str) : Bool := decide ((1 : Int) ≤ ((z.length : Nat) : Int)) && decide (((z.length : Nat) : Int) ≤ (12 : Int))
def nameS (z : Str) : Bool := lenB z && (!barB z && (hdB z && allB z))
def nameB : PD → Bool
  | .str z => nameS z
  | _ => false
theorem nc_len {z : Str} (h : Nice (.str z)) : z.length ≤ sizeLine := by
  rcases h with h | h
  · have := lf_len (z := z) (by simpa only [nc] using h)
    rw [sizeLine_eq]
    omega
  · cases h
theorem flat_words : (wordsT.map PyData.str).all flatD = true := by rfl
theorem bar_any (z : Str) : ((wordsT.map PyData.str).any fun y => PyData.eqv y (.str z)) = barB z := by
  rw [List.any_map]
  rfl
theorem hd_of {z : Str} (h : lenB z = true) : ∃ c cs, z.cps.toList = c :: cs := by
  unfold lenB at h
  rw [Bool.and_eq_true, decide_eq_true_eq] at h
  cases e : z.cps.toList with
  | nil =>
    have : z.length = 0 := by
      show z.cps.size = 0
      rw [← Array.length_toList, e]
      rfl
    omega
  | cons c cs => exact ⟨c, cs, rfl⟩
theorem w_first {z : Str} {env : En} {m : Wm} {c : Nat} {cs : List Nat} {Q : W → Prop} (hzz : z.length ≤ sizeLine) (e : z.cps.toList = c :: cs) (hmz : ∀ Q : W → Prop, Q (.d (.str z)) → m env Q) (q : Q (.d (.str (c1 c)))) : opW ixF m (conW (.int 0)) env Q := by
  refine hmz _ ⟨0, .str (c1 c), rfl, ?_, q⟩
  show (if z.length ≤ sizeLine then (atI z.cps.toList 0).map fun c => PyData.str ⟨#[c]⟩ else none) = _
  rw [if_pos hzz, e]
  unfold atI ixN
  rw [if_pos (Int.le_refl 0), if_pos (by simp only [List.length_cons]; omega)]
  rfl
theorem fm_map {α β : Type} (g : α → β) : ∀ l : List α, (l.filterMap fun c => some (g c)) = l.map g
  | [] => rfl
  | x :: l => by simp only [List.filterMap_cons, List.map_cons, fm_map g l]
theorem chr_list {f : Nat → Bool} : ∀ {cs : List Nat}, cs.all (· < 128) = true → ncs (cs.filterMap fun c => if f c = true then none else some (chrD c)) = true ∧ PyData.hasDictAll (cs.filterMap fun c => if f c = true then none else some (chrD c)) = false ∧
    PyData.depthAll (cs.filterMap fun c => if f c = true then none else some (chrD c)) ≤ 1 ∧ (cs.filterMap fun c => if f c = true then none else some (chrD c)).isEmpty = cs.all f
  | [], _ => ⟨rfl, rfl, by simp [PyData.depthAll], rfl⟩
  | c :: cs, h => by
    rw [List.all_cons, Bool.and_eq_true] at h
    obtain ⟨a1, a2, a3, a4⟩ := chr_list (f := f) h.2
    cases e : f c with
    | true =>
      rw [List.filterMap_cons_none (by rw [if_pos e]), List.all_cons, e, Bool.true_and]
      exact ⟨a1, a2, a3, a4⟩
    | false =>
      rw [List.filterMap_cons_some (b := chrD c) (by rw [if_neg (by rw [e]; exact Bool.false_ne_true)]), List.all_cons, e, Bool.false_and]
      have n1 : nc (chrD c) = true := by
        show lfT ⟨#[c]⟩ = true
        unfold lfT
        rw [Bool.and_eq_true]
        exact ⟨rfl, by simpa using h.1⟩
      refine ⟨by simp only [ncs, n1, a1, Bool.and_self], ?_, ?_, rfl⟩
      · simp only [PyData.hasDictAll, a2]
        rfl
      · simp only [PyData.depthAll]
        have : (chrD c).depth ≤ 1 := by
          show PyData.depth (.str _) ≤ 1
          simp [PyData.depth]
        omega
def fName : Fm := fun ws Q => ∃ t, ws = [.d t] ∧ Nice t ∧ Q (.d (.bool (nameB t)))
theorem w_len {z : Str} {env : En} {Q : W → Prop} (hzz : z.length ≤ sizeLine) (q : Q (.d (.int (z.length : Nat)))) : cbW lenF (consW (varW 0) nilW) (.v (.d (.str z)) :: env) Q := ⟨_, rfl, _, z.length, rfl, .inr (.inr ⟨z, rfl, hzz, rfl⟩), q⟩
theorem w_name (ws Q) (h : fName ws Q) : bodyW 2 mis_name ws Q := by
  obtain ⟨t, rfl, n, q⟩ := h
  refine ⟨_, rfl, _, isin_of (by decide) n, _, rfl, ?_⟩
  cases t with
  | str z =>
    have hzz := nc_len n
    refine no rfl ?_
    refine w_chain (fun Q q => w_len hzz q) ⟨_, rfl, ?_⟩
    have q : Q (.d (.bool (nameS z))) := q
    unfold nameS at q
    cases hlz0 : lenB z with
    | false =>
      rw [hlz0] at q
      exact yes (by show (!lenB z) = true; rw [hlz0]; rfl) (yt ⟨rfl, q⟩)
    | true =>
      rw [hlz0] at q
      refine no (by show (!lenB z) = false; rw [hlz0]; rfl) ?_
      refine ⟨_, rfl, .str z, _, rfl, .inr rfl, rfl, flat_words, _, rfl, ?_⟩
      rw [if_neg Bool.false_ne_true, bar_any]
      cases hb : barB z with
      | true =>
        rw [hb] at q
        exact yt ⟨rfl, q⟩
      | false =>
        rw [hb] at q
        refine no rfl ?_
        obtain ⟨c, cs, e⟩ := hd_of hlz0
        refine w_first (m := varW 0) hzz e ?_ ?_
        · intro Q q
          exact ⟨_, rfl, q⟩
        refine ⟨_, _, rfl, rfl, _, rfl, ?_⟩
        rw [if_neg Bool.false_ne_true]
        have eh : hdB z = inS (c1 c) LET := by
          unfold hdB
          rw [e]
        rw [eh] at q
        cases hh : inS (c1 c) LET with
        | false =>
          rw [hh] at q
          exact no rfl ⟨rfl, q⟩
        | true =>
          rw [hh] at q
          refine yes rfl ?_
          refine ⟨_, rfl, z, rfl, ?_⟩
          refine lc_over (fun c : Nat => WI.d (chrD c)) (fun c => some (.bool (inS (c1 c) LD))) z.cps.toList [] _ ?_ ?_ ?_
          · intro a _ Qx qx
            exact ⟨_, rfl, yt (B := Qx none) ⟨_, rfl, _, _, rfl, rfl, sz rfl, _, _, rfl, rfl, _, rfl, qx⟩⟩
          · have : z.cps.toList.length = z.length := Array.length_toList
            have h2 := hlz0
            unfold lenB at h2
            rw [Bool.and_eq_true, decide_eq_true_eq, decide_eq_true_eq] at h2
            rw [List.length_nil, this]
            omega
          · refine ⟨_, z.cps.toList.map fun c => inS (c1 c) LD, rfl, ?_, ?_⟩
            · show some _ = some _
              rw [List.nil_append, List.map_map]
              exact congrArg some (fm_map _ _)
            · have ez2 : ((z.cps.toList.map fun c => inS (c1 c) LD).all id) = allB z := by
                rw [List.all_map]
                rfl
              rw [ez2]
              exact ⟨rfl, q⟩
  | int i => exact yes rfl (yt ⟨rfl, q⟩)
  | bool c => exact yes rfl (yt ⟨rfl, q⟩)
  | none => exact yes rfl (yt ⟨rfl, q⟩)
  | list x => exact yes rfl (yt ⟨rfl, q⟩)
  | tuple x => exact yes rfl (yt ⟨rfl, q⟩)
  | dict x => exact yes (by show (!(kindB "str" (.dict x))) = true; rfl) (yt ⟨rfl, q⟩)
def fBarred : FmF := fun ws Q => ws = [] ∧ Q (wordsT.map PyData.str)
theorem w_barred (ws Q) (h : fBarred ws Q) : bodyF 1 m_law_barred ws Q := by
  obtain ⟨rfl, q⟩ := h
  exact ⟨_, rfl, sz rfl, _, rfl, _, rfl, sz rfl, _, _, rfl, rfl, sz rfl, _, rfl, _, rfl, sz rfl, _, _, rfl, rfl, sz rfl, _, rfl, _, rfl, sz rfl, _, _, rfl, rfl, sz rfl, q⟩
theorem w_lawName (ws Q) (h : fName ws Q) : bodyW 4 (m_law_is_name fBarred) ws Q := by
  obtain ⟨t, rfl, n, q⟩ := h
  refine ⟨_, rfl, sz rfl, _, rfl, _, rfl, rfl, _, _, rfl, _, rfl, _, _, rfl, _, rfl, rfl, ?_⟩
  refine ⟨_, rfl, _, isin_of (by decide) n, _, rfl, ?_⟩
  cases t with
  | str z =>
    have hzz := nc_len n
    refine no rfl ?_
    refine w_chain (fun Q q => w_len hzz q) ⟨_, rfl, ?_⟩
    have q : Q (.d (.bool (nameS z))) := q
    unfold nameS at q
    cases hlz0 : lenB z with
    | false =>
      rw [hlz0] at q
      exact yes (by show (!lenB z) = true; rw [hlz0]; rfl) (yt ⟨rfl, q⟩)
    | true =>
      rw [hlz0] at q
      refine no (by show (!lenB z) = false; rw [hlz0]; rfl) ?_
      obtain ⟨c, cs, e⟩ := hd_of hlz0
      refine w_first (m := varW 0) hzz e ?_ ?_
      · intro Q q
        exact ⟨_, rfl, q⟩
      refine ⟨_, rfl, _, _, rfl, rfl, _, rfl, ?_⟩
      rw [if_pos rfl]
      have eh : hdB z = inS (c1 c) LET := by
        unfold hdB
        rw [e]
      rw [eh] at q
      cases hh : inS (c1 c) LET with
      | false =>
        rw [hh, Bool.false_and, Bool.and_false] at q
        exact yes rfl (yt ⟨rfl, q⟩)
      | true =>
        rw [hh] at q
        refine no rfl ?_
        refine ⟨_, rfl, rfl, rfl, .str z, _, rfl, .inl rfl, rfl, flat_words, _, rfl, ?_⟩
        rw [if_neg Bool.false_ne_true, bar_any]
        cases hb : barB z with
        | true =>
          rw [hb] at q
          exact yt ⟨rfl, q⟩
        | false =>
          rw [hb] at q
          refine no rfl ?_
          refine ⟨_, rfl, z, rfl, ?_⟩
          refine lc_over (fun c : Nat => WI.d (chrD c)) (fun c => if inS (c1 c) LD = true then none else some (chrD c)) z.cps.toList [] _ ?_ ?_ ?_
          · intro a _ Qx qx
            refine ⟨_, rfl, ?_⟩
            refine ⟨_, rfl, _, rfl, _, rfl, _, _, rfl, rfl, sz rfl, _, _, rfl, rfl, _, rfl, ?_⟩
            rw [if_pos rfl]
            cases hsv0 : inS (c1 a) LD with
            | true =>
              rw [hsv0] at qx
              exact no (by show (!inS (c1 a) LD) = false; rw [hsv0]; rfl) qx
            | false =>
              rw [hsv0] at qx
              exact yes (by show (!inS (c1 a) LD) = true; rw [hsv0]; rfl) ⟨_, rfl, _, rfl, qx⟩
          · have : z.cps.toList.length = z.length := Array.length_toList
            have h2 := hlz0
            unfold lenB at h2
            rw [Bool.and_eq_true, decide_eq_true_eq, decide_eq_true_eq] at h2
            rw [List.length_nil, this]
            omega
          · have hnz : nc (.str z) = true := by
              rcases n with h | h
              · exact h
              · cases h
            obtain ⟨a1, a2, a3, a4⟩ := chr_list (f := fun c => inS (c1 c) LD) (lf_asc (z := z) (by simpa only [nc] using hnz))
            rw [List.nil_append]
            refine ⟨_, rfl, sz rfl, .inl ⟨_, _, rfl, rfl, shaped_of (by simpa only [nc] using a1) (by simpa only [PyData.hasDict] using a2) (by simp only [PyData.depth]; omega), rfl, rfl, ?_⟩⟩
            have e3 : PyData.eqv (.list (z.cps.toList.filterMap fun c => if inS (c1 c) LD = true then none else some (chrD c))) (.list []) = allB z := by
              unfold allB
              rw [← a4]
              cases (z.cps.toList.filterMap fun c => if inS (c1 c) LD = true then none else some (chrD c)) with
              | nil => rfl
              | cons x xs => simp [PyData.eqv, PyData.eqvAll]
            rw [e3]
            exact q
  | int i => exact yes rfl (yt ⟨rfl, q⟩)
  | bool c => exact yes rfl (yt ⟨rfl, q⟩)
  | none => exact yes rfl (yt ⟨rfl, q⟩)
  | list x => exact yes rfl (yt ⟨rfl, q⟩)
  | tuple x => exact yes rfl (yt ⟨rfl, q⟩)
  | dict x => exact yes (by show (!(kindB "str" (.dict x))) = true; rfl) (yt ⟨rfl, q⟩)
end MM

set_option maxHeartbeats 3999999
/-! sorts, ways -/
namespace MM
open PySem PySem.Spec PyProof.Rows L2 GG DD LL
/-- what the defs look at -/
structure Th (t : PD) : Prop where
  n : Nice t
  fst0 : ∀ x xs, t = .tuple (x :: xs) → Cmp x
  it : ∀ xs, t = .tuple xs → ∀ x ∈ xs, Nice x
  sm : ∀ xs, t = .tuple xs → ∀ ys : List PD, PyData.tuple ys ∈ xs → ys.length ≤ 500000 ∧ ∀ y ∈ ys, Nice y
theorem at0 {x : PD} {xs : List PD} : atI (x :: xs) 0 = some x := by
  unfold atI ixN
  rw [if_pos (Int.le_refl 0), if_pos (by simp only [List.length_cons]; omega)]
  rfl
theorem at1 {x y : PD} {xs : List PD} : atI (x :: y :: xs) 1 = some y := by
  unfold atI ixN
  rw [if_pos (by decide), if_pos (by simp only [List.length_cons]; omega)]
  rfl
theorem w_ix0 {x : PD} {xs : List PD} {env : En} {Q : W → Prop} (q : Q (.d x)) : opW ixF (varW 0) (conW (.int 0)) (.v (.d (.tuple (x :: xs))) :: env) Q := ⟨_, rfl, 0, x, rfl, at0, q⟩
theorem w_ix1 {x y : PD} {xs : List PD} {env : En} {Q : W → Prop} (q : Q (.d y)) : opW ixF (varW 0) (conW (.int 1)) (.v (.d (.tuple (x :: y :: xs))) :: env) Q := ⟨_, rfl, 1, y, rfl, at1, q⟩
theorem long1 {x y z : PD} {r : List PD} : tupB (.tuple (x :: y :: z :: r)) 1 = false := by
  show decide (((x :: y :: z :: r).length : Int) = 1) = false
  refine decide_eq_false ?_
  simp only [List.length_cons]
  omega
theorem long2 {x y z : PD} {r : List PD} : tupB (.tuple (x :: y :: z :: r)) 2 = false := by
  show decide (((x :: y :: z :: r).length : Int) = 2) = false
  refine decide_eq_false ?_
  simp only [List.length_cons]
  omega
def headB (t : PD) (z : Str) (n : Int) : Bool := match t with
  | .tuple (x :: xs) => decide (((x :: xs).length : Int) = n) && isT z x
  | _ => false
theorem head1 (x : PD) (z : Str) : headB (.tuple [x]) z 1 = isT z x ∧ headB (.tuple [x]) z 2 = false := by
  simp [headB]
theorem head2 (x y : PD) (z : Str) : headB (.tuple [x, y]) z 1 = false ∧ headB (.tuple [x, y]) z 2 = isT z x := by
  simp [headB]
theorem hlong {x y z : PD} {r : List PD} (w : Str) {n : Int} (h : n = 1 ∨ n = 2) : headB (.tuple (x :: y :: z :: r)) w n = false := by
  show (decide (((x :: y :: z :: r).length : Int) = n) && isT w x) = false
  rw [decide_eq_false (by simp only [List.length_cons]; omega), Bool.false_and]
def fHead : Fm := fun ws Q => ∃ t z n, ws = [.d t, .d (.str z), .d (.int n)] ∧ 1 ≤ n ∧ Th t ∧ Q (.d (.bool (headB t z n)))
theorem dec_beq (x y : Str) : decide (x = y) = (x == y) := by
  rw [Bool.eq_iff_iff, decide_eq_true_iff, beq_iff_eq]
theorem w_head (ws Q) (h : fHead ws Q) : bodyW 3 m_law_is_headed ws Q := by
  obtain ⟨t, z, n, rfl, hnz, th, q⟩ := h
  refine ⟨_, rfl, _, isin_of (by decide) th.n, _, rfl, ?_⟩
  cases t with
  | tuple xs =>
    refine yes rfl ⟨_, rfl, _, xs.length, rfl, .inr (.inl rfl), _, rfl, .inl ⟨_, _, rfl, rfl, rfl, rfl, ?_⟩⟩
    rw [eqv_int]
    refine ⟨_, rfl, ?_⟩
    cases xs with
    | nil =>
      refine no (decide_eq_false ?_) ?_
      · show ¬ (((0 : Nat) : Int) = n)
        omega
      · have e : decide ((([] : List PD).length : Int) = n) = false := decide_eq_false (by show ¬ (((0 : Nat) : Int) = n); omega)
        exact ⟨rfl, q⟩
    | cons x xs =>
      have q : Q (.d (.bool (decide (((x :: xs).length : Int) = n) && isT z x))) := q
      cases hdz : decide (((x :: xs).length : Int) = n) with
      | false =>
        rw [hdz] at q
        exact no rfl ⟨rfl, q⟩
      | true =>
        rw [hdz] at q
        refine yes rfl (w_ix0 ⟨_, isin_of (by decide) (th.it _ rfl x List.mem_cons_self), _, rfl, ?_⟩)
        cases x with
        | str y =>
          refine yes rfl (w_ix0 ⟨_, rfl, _, _, rfl, rfl, ?_⟩)
          rw [dec_beq]
          exact ⟨rfl, q⟩
        | int i => exact no rfl ⟨rfl, q⟩
        | bool c => exact no rfl ⟨rfl, q⟩
        | none => exact no rfl ⟨rfl, q⟩
        | list x => exact no rfl ⟨rfl, q⟩
        | tuple x => exact no rfl ⟨rfl, q⟩
        | dict x => exact no rfl ⟨rfl, q⟩
  | int i => exact no rfl ⟨rfl, q⟩
  | bool c => exact no rfl ⟨rfl, q⟩
  | none => exact no rfl ⟨rfl, q⟩
  | str x => exact no rfl ⟨rfl, q⟩
  | list x => exact no rfl ⟨rfl, q⟩
  | dict x => exact no rfl ⟨rfl, q⟩
/-! sorts -/
def sortB : PD → Bool
  | .tuple [x] => isT "int" x
  | .tuple [x, y] => if isT "below" x = true then manyB y else (isT "ref" x || isT "may" x) && nameB y
  | _ => false
def fSortB : Fm := fun ws Q => ∃ t, ws = [.d t] ∧ Th t ∧ Q (.d (.bool (sortB t)))
theorem w_sort (ws Q) (h : fSortB ws Q) : bodyW 1 (mis_sort fTupOf fMany fName) ws Q := by
  obtain ⟨t, rfl, th, q⟩ := h
  have rest : (∀ n, tupB t n = false) → bodyW 1 (mis_sort fTupOf fMany fName) [.d t] Q := fun hnz => by
    have e : sortB t = false := by
      unfold sortB
      split
      · exact absurd (hnz 1) (by simp [tupB])
      · exact absurd (hnz 2) (by simp [tupB])
      · rfl
    rw [e] at q
    refine ⟨_, rfl, rfl, _, _, rfl, th.n, _, rfl, no (hnz 1) ?_⟩
    exact ⟨_, rfl, rfl, _, _, rfl, th.n, _, rfl, yes (by rw [hnz 2]; rfl) ⟨rfl, q⟩⟩
  cases t with
  | tuple xs =>
    match xs with
    | [x] => exact ⟨_, rfl, rfl, _, _, rfl, th.n, _, rfl, yes rfl (w_ix0 (w_eqT (th.fst0 _ _ rfl) (by decide +kernel) ⟨rfl, q⟩))⟩
    | [x, y] =>
      have c := th.fst0 _ _ rfl
      have ny := th.it _ rfl y (by simp)
      refine ⟨_, rfl, rfl, _, _, rfl, th.n, _, rfl, no rfl ⟨_, rfl, rfl, _, _, rfl, th.n, _, rfl, no rfl ?_⟩⟩
      refine w_ix0 (w_eqT c (by decide +kernel) ⟨_, rfl, ?_⟩)
      have q : Q (.d (.bool (if isT "below" x = true then manyB y else (isT "ref" x || isT "may" x) && nameB y))) := q
      cases hb : isT "below" x with
      | true =>
        rw [if_pos hb] at q
        exact yes rfl (w_ix1 ⟨rfl, y, rfl, ny, rfl, q⟩)
      | false =>
        rw [if_neg (by rw [hb]; exact Bool.false_ne_true)] at q
        refine no rfl (w_ix0 ⟨_, rfl, sz rfl, w_inT (zs := ["ref", "may"]) c (by decide +kernel) ?_⟩)
        have e : (([("ref" : Str), ("may" : Str)] : List Str).any fun z => isT z x) = (isT "ref" x || isT "may" x) := by simp
        rw [e]
        refine ⟨_, rfl, ?_⟩
        cases hr : (isT "ref" x || isT "may" x) with
        | false =>
          rw [hr] at q
          exact no rfl ⟨rfl, q⟩
        | true =>
          rw [hr] at q
          exact yes rfl (w_ix1 ⟨rfl, y, rfl, ny, rfl, q⟩)
    | [] =>
      refine ⟨_, rfl, rfl, _, _, rfl, th.n, _, rfl, no rfl ⟨_, rfl, rfl, _, _, rfl, th.n, _, rfl, yes rfl ⟨rfl, q⟩⟩⟩
    | x :: y :: z :: r =>
      have ez1 : tupB (.tuple (x :: y :: z :: r)) 1 = false := long1
      have ez2 : tupB (.tuple (x :: y :: z :: r)) 2 = false := long2
      exact ⟨_, rfl, rfl, _, _, rfl, th.n, _, rfl, no ez1 ⟨_, rfl, rfl, _, _, rfl, th.n, _, rfl, yes (by rw [ez2]; rfl) ⟨rfl, q⟩⟩⟩
  | int i => exact rest fun _ => rfl
  | bool c => exact rest fun _ => rfl
  | none => exact rest fun _ => rfl
  | str x => exact rest fun _ => rfl
  | list x => exact rest fun _ => rfl
  | dict x => exact rest fun _ => rfl
theorem w_lawSort (ws Q) (h : fSortB ws Q) : bodyW 1 (m_law_is_sort fHead fMany fName) ws Q := by
  obtain ⟨t, rfl, th, q⟩ := h
  have none2 : (∀ z, headB t z 1 = false) → (∀ z, headB t z 2 = false) → sortB t = false → bodyW 1 (m_law_is_sort fHead fMany fName) [.d t] Q := fun h1 h2 hsv0 => by
    rw [hsv0] at q
    refine ⟨_, rfl, rfl, t, "int", 1, rfl, by decide, th, _, rfl, no (h1 _) ?_⟩
    refine ⟨_, rfl, rfl, t, "below", 2, rfl, by decide, th, _, rfl, no (h2 _) ?_⟩
    refine ⟨_, rfl, rfl, t, "ref", 2, rfl, by decide, th, _, rfl, no (h2 _) ?_⟩
    exact ⟨_, rfl, rfl, t, "may", 2, rfl, by decide, th, _, rfl, no (h2 _) ⟨rfl, q⟩⟩
  cases t with
  | tuple xs =>
    match xs with
    | [] => exact none2 (fun _ => rfl) (fun _ => rfl) rfl
    | [x] =>
      have h1 : headB (.tuple [x]) "int" 1 = isT "int" x := (head1 x _).1
      have h2 : ∀ z, headB (.tuple [x]) z 2 = false := fun z => (head1 x z).2
      have q : Q (.d (.bool (isT "int" x))) := q
      cases hxz : isT "int" x with
      | true =>
        rw [hxz] at q
        exact ⟨_, rfl, rfl, _, "int", 1, rfl, by decide, th, _, rfl, yes (h1.trans hxz) ⟨rfl, q⟩⟩
      | false =>
        rw [hxz] at q
        refine ⟨_, rfl, rfl, _, "int", 1, rfl, by decide, th, _, rfl, no (h1.trans hxz) ?_⟩
        refine ⟨_, rfl, rfl, _, "below", 2, rfl, by decide, th, _, rfl, no (h2 _) ?_⟩
        refine ⟨_, rfl, rfl, _, "ref", 2, rfl, by decide, th, _, rfl, no (h2 _) ?_⟩
        exact ⟨_, rfl, rfl, _, "may", 2, rfl, by decide, th, _, rfl, no (h2 _) ⟨rfl, q⟩⟩
    | [x, y] =>
      have ny := th.it _ rfl y (by simp)
      have h1 : headB (.tuple [x, y]) "int" 1 = false := (head2 x y _).1
      have h2 : ∀ z, headB (.tuple [x, y]) z 2 = isT z x := fun z => (head2 x y z).2
      refine ⟨_, rfl, rfl, _, "int", 1, rfl, by decide, th, _, rfl, no h1 ?_⟩
      refine ⟨_, rfl, rfl, _, "below", 2, rfl, by decide, th, _, rfl, ?_⟩
      rw [h2]
      have q : Q (.d (.bool (if isT "below" x = true then manyB y else (isT "ref" x || isT "may" x) && nameB y))) := q
      cases hb : isT "below" x with
      | true =>
        rw [if_pos hb] at q
        exact yes rfl (w_ix1 ⟨rfl, y, rfl, ny, rfl, q⟩)
      | false =>
        rw [if_neg (by rw [hb]; exact Bool.false_ne_true)] at q
        refine no rfl ?_
        refine ⟨_, rfl, rfl, _, "ref", 2, rfl, by decide, th, _, rfl, ?_⟩
        rw [h2]
        cases hr : isT "ref" x with
        | true =>
          rw [hr] at q
          exact yes rfl ⟨_, rfl, yes rfl (w_ix1 ⟨rfl, y, rfl, ny, rfl, q⟩)⟩
        | false =>
          rw [hr] at q
          refine no rfl ⟨_, rfl, rfl, _, "may", 2, rfl, by decide, th, ?_⟩
          rw [h2]
          refine ⟨_, rfl, ?_⟩
          cases hmz : isT "may" x with
          | true =>
            rw [hmz] at q
            exact yes rfl (w_ix1 ⟨rfl, y, rfl, ny, rfl, q⟩)
          | false =>
            rw [hmz] at q
            exact no rfl ⟨rfl, q⟩
    | x :: y :: z :: r =>
      exact none2 (fun w => hlong w (.inl rfl)) (fun w => hlong w (.inr rfl)) rfl
  | int i => exact none2 (fun _ => rfl) (fun _ => rfl) rfl
  | bool c => exact none2 (fun _ => rfl) (fun _ => rfl) rfl
  | none => exact none2 (fun _ => rfl) (fun _ => rfl) rfl
  | str x => exact none2 (fun _ => rfl) (fun _ => rfl) rfl
  | list x => exact none2 (fun _ => rfl) (fun _ => rfl) rfl
  | dict x => exact none2 (fun _ => rfl) (fun _ => rfl) rfl
end MM

set_option maxHeartbeats 3999999
/-! ways -/
namespace MM
open PySem PySem.Spec PyProof.Rows L2 GG DD LL
def listB : PD → Bool
  | .tuple zs => (decide ((1 : Int) ≤ ((zs.length : Nat) : Int)) && decide (((zs.length : Nat) : Int) ≤ (1000 : Int))) && zs.all isI
  | _ => false
def wayB : PD → Bool
  | .tuple [x] => isT "turned" x
  | .tuple [x, y] => if isT "plus" x = true then isI y else if isT "list" x = true then listB y else (isT "times" x || isT "over" x || isT "rest" x) && manyB y
  | _ => false
def fWayB : Fm := fun ws Q => ∃ t, ws = [.d t] ∧ Th t ∧ Q (.d (.bool (wayB t)))
theorem nice_len {n : Nat} (h : n ≤ 500000) : Nice (.int ((n : Nat) : Int)) := by
  refine .inl ?_
  show decide _ = true
  refine decide_eq_true ?_
  rw [Int.natAbs_natCast]
  exact Nat.lt_of_le_of_lt h (by decide +kernel)
/-- isinstance(thing[1], tuple) and is_many(len(thing[1])) and all(..) -/
theorem w_list {x y : PD} {env : En} {Q : W → Prop} (ny : Nice y) (sm : ∀ ys, y = .tuple ys → ys.length ≤ 500000 ∧ ∀ z ∈ ys, Nice z) (hez : (env.length = 1)) (q : Q (.d (.bool (listB y)))) :
    andVW (isinW "tuple" (opW ixF (varW 0) (conW (.int 1)))) (andVW (callW 1 fMany (consW (cbW lenF (consW (opW ixF (varW 0) (conW (.int 1))) nilW)) nilW)) (cbW allF (consW (lW (lcompW [1] (itTW (opW ixF (varW 0) (conW (.int 1)))) (gnW 1) yesW (callW 1 fIsInt (consW (varW 1) nilW)))) nilW))) (.v (.d (.tuple [x, y])) :: env) Q := by
  obtain ⟨ez1, rfl⟩ : ∃ ez1, env = [ez1] := by
    match env, hez with
    | [ez1], _ => exact ⟨ez1, rfl⟩
  refine w_ix1 ⟨_, isin_of (by decide) ny, _, rfl, ?_⟩
  cases y with
  | tuple ys =>
    obtain ⟨sl, sn⟩ := sm ys rfl
    refine yes rfl ?_
    refine w_ix1 ⟨_, ys.length, rfl, .inr (.inl rfl), rfl, _, rfl, nice_len sl, _, rfl, ?_⟩
    have q : Q (.d (.bool ((decide ((1 : Int) ≤ ((ys.length : Nat) : Int)) && decide (((ys.length : Nat) : Int) ≤ (1000 : Int))) && ys.all isI))) := q
    cases hmz : manyB (.int ((ys.length : Nat) : Int)) with
    | false =>
      have hmz : (decide ((1 : Int) ≤ ((ys.length : Nat) : Int)) && decide (((ys.length : Nat) : Int) ≤ (1000 : Int))) = false := hmz
      rw [hmz] at q
      exact no rfl q
    | true =>
      have hmz : (decide ((1 : Int) ≤ ((ys.length : Nat) : Int)) && decide (((ys.length : Nat) : Int) ≤ (1000 : Int))) = true := hmz
      rw [hmz] at q
      refine yes rfl ?_
      refine w_ix1 ⟨ys, rfl, ?_⟩
      refine lc_over (fun z : PD => WI.d z) (fun z => some (.bool (isI z))) ys [] _ ?_ (by rw [List.length_nil]; omega) ?_
      · intro a haz Qx qx
        exact ⟨_, rfl, yt (B := Qx none) ⟨_, rfl, rfl, a, rfl, sn a haz, _, rfl, qx⟩⟩
      · refine ⟨_, ys.map isI, rfl, ?_, ?_⟩
        · show some _ = some _
          rw [List.nil_append, List.map_map]
          exact congrArg some (fm_map _ _)
        · have ez2 : ((ys.map isI).all id) = ys.all isI := by
            rw [List.all_map]
            rfl
          rw [ez2]
          exact q
  | int i => exact no rfl q
  | bool c => exact no rfl q
  | none => exact no rfl q
  | str x => exact no rfl q
  | list x => exact no rfl q
  | dict x => exact no rfl q
theorem any3 (x : PD) : (([("times" : Str), ("over" : Str), ("rest" : Str)] : List Str).any fun z => isT z x) = (isT "times" x || isT "over" x || isT "rest" x) := by simp [Bool.or_assoc]
theorem w_way (ws Q) (h : fWayB ws Q) : bodyW 2 (mis_way fTupOf fIsInt fMany) ws Q := by
  obtain ⟨t, rfl, th, q⟩ := h
  have rest : (∀ n, tupB t n = false) → wayB t = false → bodyW 2 (mis_way fTupOf fIsInt fMany) [.d t] Q := fun hnz e => by
    rw [e] at q
    refine ⟨_, rfl, rfl, _, _, rfl, th.n, _, rfl, no (hnz 1) ?_⟩
    exact ⟨_, rfl, rfl, _, _, rfl, th.n, _, rfl, yes (by rw [hnz 2]; rfl) ⟨rfl, q⟩⟩
  cases t with
  | tuple xs =>
    match xs with
    | [x] => exact ⟨_, rfl, rfl, _, _, rfl, th.n, _, rfl, yes rfl (w_ix0 (w_eqT (th.fst0 _ _ rfl) (by decide +kernel) ⟨rfl, q⟩))⟩
    | [x, y] =>
      have c := th.fst0 _ _ rfl
      have ny := th.it _ rfl y (by simp)
      refine ⟨_, rfl, rfl, _, _, rfl, th.n, _, rfl, no rfl ⟨_, rfl, rfl, _, _, rfl, th.n, _, rfl, no rfl ?_⟩⟩
      refine w_ix0 (w_eqT c (by decide +kernel) ⟨_, rfl, ?_⟩)
      have q : Q (.d (.bool (if isT "plus" x = true then isI y else if isT "list" x = true then listB y else (isT "times" x || isT "over" x || isT "rest" x) && manyB y))) := q
      cases hb : isT "plus" x with
      | true =>
        rw [if_pos hb] at q
        exact yes rfl (w_ix1 ⟨rfl, y, rfl, ny, rfl, q⟩)
      | false =>
        rw [if_neg (by rw [hb]; exact Bool.false_ne_true)] at q
        refine no rfl ?_
        refine w_ix0 (w_eqT c (by decide +kernel) ⟨_, rfl, ?_⟩)
        cases hlz0 : isT "list" x with
        | true =>
          rw [if_pos hlz0] at q
          exact yes rfl (w_list ny (fun ys e => th.sm _ rfl ys (by rw [← e]; simp)) rfl ⟨rfl, q⟩)
        | false =>
          rw [if_neg (by rw [hlz0]; exact Bool.false_ne_true)] at q
          refine no rfl (w_ix0 ⟨_, rfl, sz rfl, w_inT (zs := ["times", "over", "rest"]) c (by decide +kernel) ?_⟩)
          rw [any3]
          refine ⟨_, rfl, ?_⟩
          cases hr : (isT "times" x || isT "over" x || isT "rest" x) with
          | false =>
            rw [hr] at q
            exact no rfl ⟨rfl, q⟩
          | true =>
            rw [hr] at q
            exact yes rfl (w_ix1 ⟨rfl, y, rfl, ny, rfl, q⟩)
    | [] => exact ⟨_, rfl, rfl, _, _, rfl, th.n, _, rfl, no rfl ⟨_, rfl, rfl, _, _, rfl, th.n, _, rfl, yes rfl ⟨rfl, q⟩⟩⟩
    | x :: y :: z :: r => exact ⟨_, rfl, rfl, _, _, rfl, th.n, _, rfl, no long1 ⟨_, rfl, rfl, _, _, rfl, th.n, _, rfl, yes (by rw [long2]; rfl) ⟨rfl, q⟩⟩⟩
  | int i => exact rest (fun _ => rfl) rfl
  | bool c => exact rest (fun _ => rfl) rfl
  | none => exact rest (fun _ => rfl) rfl
  | str x => exact rest (fun _ => rfl) rfl
  | list x => exact rest (fun _ => rfl) rfl
  | dict x => exact rest (fun _ => rfl) rfl
end MM

set_option maxHeartbeats 3999999
/-! ways, by the law's own reading -/
namespace MM
open PySem PySem.Spec PyProof.Rows L2 GG DD LL
theorem len2 {xs : List PD} {env : En} {Q : W → Prop} (q : Q (.d (.bool (!decide (((xs.length : Nat) : Int) = 2))))) : opW neF (cbW lenF (consW (varW 0) nilW)) (conW (.int 2)) (.v (.d (.tuple xs)) :: env) Q := by
  refine ⟨_, rfl, _, xs.length, rfl, .inr (.inl rfl), _, _, rfl, rfl, rfl, rfl, ?_⟩
  rw [eqv_int]
  exact q
theorem not_int : ∀ ys : List PD, (ys.filterMap fun z => if isI z = true then none else some z) = [] ↔ ys.all isI = true
  | [] => by simp
  | y :: ys => by
    have ih := not_int ys
    cases h : isI y with
    | true => rw [List.filterMap_cons_none (by rw [if_pos h]), List.all_cons, h, Bool.true_and]; exact ih
    | false =>
      rw [List.filterMap_cons_some (b := y) (by rw [if_neg (by rw [h]; exact Bool.false_ne_true)]), List.all_cons, h]
      simp
theorem w_lawWay (ws Q) (h : fWayB ws Q) : bodyW 2 (m_law_is_way fHead fIsInt fMany) ws Q := by
  obtain ⟨t, rfl, th, q⟩ := h
  -- the last rows
  have fin : (∀ z n, n = 1 ∨ n = 2 → z ∈ [("turned" : Str), "plus", "list"] → headB t z n = false) → (∀ x y, t ≠ .tuple [x, y]) → wayB t = false → bodyW 2 (m_law_is_way fHead fIsInt fMany) [.d t] Q := fun hh nt hsv0 => by
    rw [hsv0] at q
    refine ⟨_, rfl, rfl, t, "turned", 1, rfl, by decide, th, _, rfl, no (hh _ _ (.inl rfl) (by simp)) ?_⟩
    refine ⟨_, rfl, rfl, t, "plus", 2, rfl, by decide, th, _, rfl, no (hh _ _ (.inr rfl) (by simp)) ?_⟩
    refine ⟨_, rfl, rfl, t, "list", 2, rfl, by decide, th, _, rfl, no (hh _ _ (.inr rfl) (by simp)) ?_⟩
    refine ⟨_, rfl, _, isin_of (by decide) th.n, _, rfl, ?_⟩
    cases t with
    | tuple xs =>
      refine no rfl (len2 ⟨_, rfl, yes ?_ (yt ⟨rfl, q⟩)⟩)
      rw [decide_eq_false]
      · rfl
      · intro e
        match xs, e with
        | [x, y], _ => exact nt x y rfl
        | [], e => cases e
        | [x], e => cases e
        | x :: y :: z :: r, e =>
          simp only [List.length_cons] at e
          omega
    | int i => exact yes rfl (yt ⟨rfl, q⟩)
    | bool c => exact yes rfl (yt ⟨rfl, q⟩)
    | none => exact yes rfl (yt ⟨rfl, q⟩)
    | str x => exact yes rfl (yt ⟨rfl, q⟩)
    | list x => exact yes rfl (yt ⟨rfl, q⟩)
    | dict x => exact yes (by show (!(kindB "tuple" (.dict x))) = true; rfl) (yt ⟨rfl, q⟩)
  cases t with
  | tuple xs =>
    match xs with
    | [] => exact fin (fun _ _ _ _ => rfl) (fun _ _ e => by cases e) rfl
    | [x] =>
      have q : Q (.d (.bool (isT "turned" x))) := q
      cases hxz : isT "turned" x with
      | true =>
        rw [hxz] at q
        exact ⟨_, rfl, rfl, _, "turned", 1, rfl, by decide, th, _, rfl, yes ((head1 x _).1.trans hxz) ⟨rfl, q⟩⟩
      | false =>
        rw [hxz] at q
        refine ⟨_, rfl, rfl, _, "turned", 1, rfl, by decide, th, _, rfl, no ((head1 x _).1.trans hxz) ?_⟩
        refine ⟨_, rfl, rfl, _, "plus", 2, rfl, by decide, th, _, rfl, no (head1 x _).2 ?_⟩
        refine ⟨_, rfl, rfl, _, "list", 2, rfl, by decide, th, _, rfl, no (head1 x _).2 ?_⟩
        exact ⟨_, rfl, _, isin_of (by decide) th.n, _, rfl, no rfl (len2 ⟨_, rfl, yes rfl (yt ⟨rfl, q⟩)⟩)⟩
    | [x, y] =>
      have c := th.fst0 _ _ rfl
      have nx := th.it _ rfl x (by simp)
      have ny := th.it _ rfl y (by simp)
      have sm : ∀ ys, y = .tuple ys → ys.length ≤ 500000 ∧ ∀ z ∈ ys, Nice z := fun ys e => th.sm _ rfl ys (by rw [← e]; simp)
      have q : Q (.d (.bool (if isT "plus" x = true then isI y else if isT "list" x = true then listB y else (isT "times" x || isT "over" x || isT "rest" x) && manyB y))) := q
      refine ⟨_, rfl, rfl, _, "turned", 1, rfl, by decide, th, _, rfl, no (head2 x y _).1 ?_⟩
      refine ⟨_, rfl, rfl, _, "plus", 2, rfl, by decide, th, _, rfl, ?_⟩
      rw [(head2 x y _).2]
      cases hb : isT "plus" x with
      | true =>
        rw [if_pos hb] at q
        exact yes rfl (w_ix1 ⟨rfl, y, rfl, ny, rfl, q⟩)
      | false =>
        rw [if_neg (by rw [hb]; exact Bool.false_ne_true)] at q
        refine no rfl ⟨_, rfl, rfl, _, "list", 2, rfl, by decide, th, _, rfl, ?_⟩
        rw [(head2 x y _).2]
        cases hlz0 : isT "list" x with
        | true =>
          rw [if_pos hlz0] at q
          refine yes rfl ?_
          refine w_ix1 ⟨_, isin_of (by decide) ny, _, rfl, ?_⟩
          cases y with
          | tuple ys =>
            obtain ⟨sl, sn⟩ := sm ys rfl
            refine no rfl ?_
            refine w_chain (i := ((ys.length : Nat) : Int)) ?_ ⟨_, rfl, ?_⟩
            · intro Q q
              exact w_ix1 ⟨_, ys.length, rfl, .inr (.inl rfl), q⟩
            have q : Q (.d (.bool ((decide ((1 : Int) ≤ ((ys.length : Nat) : Int)) && decide (((ys.length : Nat) : Int) ≤ (1000 : Int))) && ys.all isI))) := q
            cases hmz : (decide ((1 : Int) ≤ ((ys.length : Nat) : Int)) && decide (((ys.length : Nat) : Int) ≤ (1000 : Int))) with
            | false =>
              rw [hmz] at q
              exact yes rfl ⟨rfl, q⟩
            | true =>
              rw [hmz, Bool.true_and] at q
              refine no rfl ?_
              refine w_ix1 ⟨ys, rfl, ?_⟩
              refine lc_over (fun z : PD => WI.d z) (fun z => if isI z = true then none else some z) ys [] _ ?_ (by rw [List.length_nil]; omega) ?_
              · intro a haz Qx qx
                refine ⟨_, rfl, _, rfl, rfl, a, rfl, sn a haz, _, rfl, ?_⟩
                cases hi : isI a with
                | true =>
                  rw [if_pos hi] at qx
                  exact no rfl qx
                | false =>
                  rw [if_neg (by rw [hi]; exact Bool.false_ne_true)] at qx
                  exact yes rfl ⟨_, rfl, _, rfl, qx⟩
              · rw [List.nil_append]
                refine ⟨_, rfl, sz rfl, ?_⟩
                have e := not_int ys
                cases haz : ys.all isI with
                | true =>
                  rw [haz] at q
                  rw [(e.mpr haz)]
                  exact .inl ⟨_, _, rfl, rfl, rfl, rfl, rfl, q⟩
                | false =>
                  rw [haz] at q
                  refine .inr (.inr (.inr ⟨_, [], rfl, rfl, ?_, rfl, q⟩))
                  intro z
                  have := e.mp (List.eq_nil_of_length_eq_zero z)
                  rw [haz] at this
                  cases this
          | int i => exact yes rfl (yt ⟨rfl, q⟩)
          | bool c => exact yes rfl (yt ⟨rfl, q⟩)
          | none => exact yes rfl (yt ⟨rfl, q⟩)
          | str x => exact yes rfl (yt ⟨rfl, q⟩)
          | list x => exact yes rfl (yt ⟨rfl, q⟩)
          | dict x => exact yes (by show (!(kindB "tuple" (.dict x))) = true; rfl) (yt ⟨rfl, q⟩)
        | false =>
          rw [if_neg (by rw [hlz0]; exact Bool.false_ne_true)] at q
          refine no rfl ?_
          refine ⟨_, rfl, _, isin_of (by decide) th.n, _, rfl, no rfl (len2 ⟨_, rfl, no rfl ?_⟩)⟩
          refine w_ix0 ⟨_, isin_of (by decide) nx, _, rfl, ?_⟩
          cases x with
          | str z =>
            refine no rfl (w_ix0 ⟨_, rfl, sz rfl, w_inT (zs := ["times", "over", "rest"]) c (by decide +kernel) ?_⟩)
            rw [any3]
            cases hr : (isT "times" (.str z) || isT "over" (.str z) || isT "rest" (.str z)) with
            | false =>
              rw [hr] at q
              exact ⟨_, rfl, no rfl ⟨rfl, q⟩⟩
            | true =>
              rw [hr] at q
              exact ⟨_, rfl, yes rfl (w_ix1 ⟨rfl, y, rfl, ny, rfl, q⟩)⟩
          | int i => exact yes rfl ⟨rfl, q⟩
          | bool c => exact yes rfl ⟨rfl, q⟩
          | none => exact yes rfl ⟨rfl, q⟩
          | list x => exact yes rfl ⟨rfl, q⟩
          | tuple x => exact yes rfl ⟨rfl, q⟩
          | dict x => exact yes (by show (!(kindB "str" (.dict x))) = true; rfl) ⟨rfl, q⟩
    | x :: y :: z :: r => exact fin (fun w n h _ => hlong w h) (fun _ _ e => by cases e) rfl
  | int i => exact fin (fun _ _ _ _ => rfl) (fun _ _ e => by cases e) rfl
  | bool c => exact fin (fun _ _ _ _ => rfl) (fun _ _ e => by cases e) rfl
  | none => exact fin (fun _ _ _ _ => rfl) (fun _ _ e => by cases e) rfl
  | str x => exact fin (fun _ _ _ _ => rfl) (fun _ _ e => by cases e) rfl
  | list x => exact fin (fun _ _ _ _ => rfl) (fun _ _ e => by cases e) rfl
  | dict x => exact fin (fun _ _ _ _ => rfl) (fun _ _ e => by cases e) rfl
end MM

set_option maxHeartbeats 3999999
/-! what is drawn: some, odd; what is alike -/
namespace MM
open PySem PySem.Spec PyProof.Rows L2 GG DD LL
def fSome : Fm := fun ws Q => ∃ w xs, ws = [.bag, w] ∧ w.lst = some xs ∧ xs ≠ [] ∧ xs.length ≤ 1000 ∧ ∀ x ∈ xs, Q (.d x)
theorem ix_lst {w : W} {xs : List PD} (e : w.lst = some xs) (i : Int) : ixD w i = atI xs i := by
  cases w with
  | l ys =>
    obtain rfl := Option.some.inj e
    rfl
  | bag => cases e
  | d z =>
    cases z <;> try cases e
    rfl
theorem at_of {xs : List PD} {i : Int} (h0 : 0 ≤ i) (h1 : i < xs.length) : ∃ x ∈ xs, atI xs i = some x := by
  have hlz0 : i.toNat < xs.length := by omega
  refine ⟨xs[i.toNat], List.getElem_mem hlz0, ?_⟩
  unfold atI ixN
  rw [if_pos h0, if_pos h1]
  exact List.getElem?_eq_getElem hlz0
theorem w_some (ws Q) (h : fSome ws Q) : bodyW 2 (m_law_some takeF) ws Q := by
  obtain ⟨w, xs, rfl, e, ne, hlz0, q⟩ := h
  have hpz : 0 < xs.length := List.length_pos_iff.mpr ne
  refine ⟨w, rfl, _, rfl, w, rfl, w, xs.length, rfl, .inl (by rw [e]; rfl), rfl, xs.length, rfl, by omega, by omega, ?_⟩
  intro v h0 h1
  obtain ⟨x, hxz, ex⟩ := at_of h0 h1
  exact ⟨v, x, rfl, (ix_lst e v).trans ex, rfl, q x hxz⟩
theorem some_of {w : W} {xs : List PD} {Q : W → Prop} (e : w.lst = some xs) (ne : xs ≠ []) (hlz0 : xs.length ≤ 1000) (h : ∀ x ∈ xs, Q (.d x)) : fSome [.bag, w] Q := ⟨w, xs, rfl, e, ne, hlz0, h⟩
theorem ln {n : Nat} (h : Nat.ble n 1000 = true) : n ≤ 1000 := Nat.le_of_ble_eq_true h
theorem cpow10 {j : Int} (h : 0 ≤ j := by decide) (h' : j ≤ 1000000 := by decide) : CPow 10 j := ⟨h, h', by decide⟩
/-- what may come of it: leaves short, weight at most n; the first of a tuple's items has no dict in it or is one -/
structure RZ (n : Nat) (x : PD) : Prop where
  c : nc x = true
  w : wt x ≤ n
  d : x.depth ≤ 8
  h : ∀ y ys, x = .tuple (y :: ys) → y.hasDict = false ∨ ∃ kvs, y = .dict kvs
def oddB (x : PD) : Bool := nc x && decide (wt x ≤ 10) && decide (x.depth ≤ 3) && (!x.hasDict || (match x with | .dict _ => true | _ => false))
theorem odd_rz {x : PD} (h : oddB x = true) : RZ 10 x ∧ (x.hasDict = false ∨ ∃ kvs, x = .dict kvs) ∧ x.depth ≤ 3 := by
  unfold oddB at h
  simp only [Bool.and_eq_true, decide_eq_true_eq] at h
  obtain ⟨⟨⟨h1, h2⟩, h3⟩, h4⟩ := h
  have h5 : x.hasDict = false ∨ ∃ kvs, x = .dict kvs := by
    cases x <;> simp_all
  refine ⟨⟨h1, h2, by omega, ?_⟩, h5, h3⟩
  rintro y ys rfl
  rcases h5 with h5 | ⟨_, h5⟩
  · left
    have : PyData.hasDictAll (y :: ys) = false := by simpa only [PyData.hasDict] using h5
    simp only [PyData.hasDictAll, Bool.or_eq_false_iff] at this
    exact this.1
  · cases h5
def fOdd : Fm := fun ws Q => ws = [.bag] ∧ ∀ d, oddB d = true → Q (.d d)
theorem w_odd (ws Q) (h : fOdd ws Q) : bodyW 2 (m_law_odd fSome) ws Q := by
  obtain ⟨rfl, q⟩ := h
  refine ⟨_, rfl, _, _, rfl, rfl, cpow10, _, rfl, sz rfl, _, rfl, sz rfl, _, rfl, sz rfl, _, rfl, sz rfl, _, rfl, sz rfl, _, rfl, sz rfl, _, rfl, sz rfl, ?_⟩
  refine ⟨_, rfl, _, rfl, sz rfl, _, rfl, sz rfl, _, rfl, sz rfl, _, rfl, sz rfl, _, rfl, sz rfl, _, rfl, sz rfl, _, rfl, sz rfl, _, rfl, sz rfl, _, _, rfl, rfl, sz rfl, ?_⟩
  refine ⟨_, rfl, _, rfl, sz rfl, _, rfl, sz rfl, _, rfl, sz rfl, _, rfl, sz rfl, _, rfl, sz rfl, _, rfl, sz rfl, _, rfl, sz rfl, _, rfl, sz rfl, _, rfl, sz rfl, _, _, rfl, rfl, rfl, _, rfl, sz rfl, _, _, rfl, rfl, sz rfl, ?_⟩
  refine ⟨_, rfl, _, rfl, _, rfl, sz rfl, _, rfl, sz rfl, _, rfl, sz rfl, _, rfl, sz rfl, _, _, rfl, rfl, sz rfl, rfl, some_of rfl (by simp) (ln rfl) fun d hdz => ⟨rfl, q d ?_⟩⟩
  refine List.all_eq_true.mp ?_ d hdz
  decide +kernel
/-! alike -/
def fAlike : Fm := fun ws Q => ∃ x y ds, ws = [x, y] ∧ x.py = some (.list ds) ∧ y.py = some (.list ds) ∧ ncs ds = true ∧ wts ds ≤ 23000 ∧ PyData.depthAll ds ≤ 20 ∧ Q (.d (.bool true))
theorem shown_fits {d : PD} (h : nc d = true) (w : wt d ≤ 23500) : d.shown.length ≤ sizeLine := by
  have := (nc_show d h).2.2
  rw [sizeLine_eq]
  omega
theorem w_alike (ws Q) (h : fAlike ws Q) : bodyW 2 m_law_alike ws Q := by
  obtain ⟨x, y, ds, rfl, ez1, ez2, nd, hw, dp, q⟩ := h
  have n1 : nc (.list ds) = true := by simpa only [nc] using nd
  obtain ⟨o, sh, _⟩ := nc_show _ n1
  have sf := shown_fits n1 (by simp only [wt]; omega)
  have dp2 : (PyData.list ds).depth ≤ 32 := by simp only [PyData.depth]; omega
  refine ⟨x, rfl, y, rfl, .inr (.inl ⟨ds, ez1, ez2, by simpa only [okD] using o, by omega, true, rfl, ?_⟩)⟩
  refine yt ?_
  refine ⟨x, rfl, x, _, rfl, ez1, .inl ⟨o, sh, dp2, sf, y, rfl, y, _, rfl, ez2, .inl ⟨o, sh, dp2, sf, _, _, rfl, rfl, rfl, ?_⟩⟩⟩
  rw [decide_eq_true rfl]
  exact q
/-- two truths -/
def fSameB : Fm := fun ws Q => ∃ c : Bool, ws = [.d (.bool c), .d (.bool c)] ∧ Q (.d (.bool true))
theorem w_sameB (ws Q) (h : fSameB ws Q) : bodyW 2 m_law_alike ws Q := by
  obtain ⟨c, rfl, q⟩ := h
  have sf : (PyData.bool c).shown.length ≤ sizeLine := by
    have : (PyData.bool c).shown.length ≤ 5 := by cases c <;> decide +kernel
    rw [sizeLine_eq]
    omega
  refine ⟨_, rfl, _, rfl, .inl ⟨_, _, rfl, rfl, rfl, rfl, true, by cases c <;> rfl, ?_⟩⟩
  refine yt ?_
  refine ⟨_, rfl, _, _, rfl, rfl, .inl ⟨rfl, rfl, by simp [PyData.depth], sf, _, rfl, _, _, rfl, rfl, .inl ⟨rfl, rfl, by simp [PyData.depth], sf, _, _, rfl, rfl, rfl, ?_⟩⟩⟩
  rw [decide_eq_true rfl]
  exact q
theorem w_isBarred {z : Str} {Q : W → Prop} (q : Q (.d (.bool (barB z)))) : bodyW 1 mis_barred [.d (.str z)] Q := by
  refine ⟨_, rfl, .str z, _, rfl, .inr rfl, rfl, flat_words, ?_⟩
  rw [if_neg Bool.false_ne_true, bar_any]
  exact ⟨rfl, q⟩
end MM

set_option maxHeartbeats 3999999
/-! what stands in the things -/
namespace MM
open PySem PySem.Spec PyProof.Rows L2 GG DD LL
def INTS : List Int := [0, 1, 2, 3, 5, 999, 1000, 1001, -1, -2]
def NAMES0 : List Str := [("a" : Str), "z9", repS "a" 12, repS "a" 13, "aB", "9a", "", "a_b", "a b", "a\n"]
def TAGS : List Str := [("int" : Str), "below", "ref", "may", "plus", "turned", "times", "over", "rest", "list"]
def TXTS : List Str := wordsT ++ (wordsT.map (· ++ ("s" : Str)) ++ (wordsT.map (fun z => Txt.slice z none (some (-1))) ++ (NAMES0 ++ TAGS)))
def txtOk (z : Str) : Bool := lfT z && lfT (z ++ ("s" : Str)) && lfT (Txt.slice z none (some (-1))) && lfT (Txt.upper z) && lfT (z ++ ("1" : Str)) && lfT (("1" : Str) ++ z) && lfT (z ++ (" " : Str)) && decide (z.length ≤ 30)
theorem txts_ok : ∀ z ∈ TXTS, txtOk z = true := by decide +kernel
theorem ints_ok : ∀ i ∈ INTS, (nc (.int i) && nc (.int (i + 1)) && nc (.int (-i)) && lfT (Str.ofString (toString i)) && decide (i.natAbs.log2 < 1920)) = true := by decide +kernel
end MM

set_option maxHeartbeats 3999999
/-! one place bent -/
namespace MM
open PySem PySem.Spec PyProof.Rows L2 GG DD LL
/-- no dict, leaves short -/
structure Cl (w k : Nat) (x : PD) : Prop where
  c : nc x = true
  w : wt x ≤ w
  d : x.depth ≤ k
  n : x.hasDict = false
theorem Cl.mono {w k w' k' : Nat} {x : PD} (h : Cl w k x) (h1 : w ≤ w') (h2 : k ≤ k') : Cl w' k' x := ⟨h.c, Nat.le_trans h.w h1, Nat.le_trans h.d h2, h.n⟩
theorem cls : ∀ {xs : List PD} {w k : Nat}, (∀ x ∈ xs, Cl w k x) → ncs xs = true ∧ wts xs ≤ xs.length * w ∧ PyData.depthAll xs ≤ k ∧ PyData.hasDictAll xs = false
  | [], w, k, _ => ⟨rfl, by simp [wts], by simp [PyData.depthAll], rfl⟩
  | x :: xs, w, k, h => by
    obtain ⟨a, b, c, d⟩ := cls (xs := xs) fun y hy => h y (List.mem_cons_of_mem _ hy)
    have hxz := h x List.mem_cons_self
    refine ⟨by simp only [ncs, hxz.c, a, Bool.and_self], ?_, ?_, by simp only [PyData.hasDictAll, hxz.n, d, Bool.or_self]⟩
    · have := hxz.w
      simp only [wts, List.length_cons, Nat.succ_mul]
      omega
    · have := hxz.d
      simp only [PyData.depthAll]
      omega
theorem Cl.tup {xs : List PD} {m w k : Nat} (hlz0 : xs.length ≤ m) (h : ∀ x ∈ xs, Cl w k x) : Cl (1 + m * w) (k + 1) (.tuple xs) := by
  obtain ⟨a, b, c, d⟩ := cls h
  have e : xs.length * w ≤ m * w := Nat.mul_le_mul_right _ hlz0
  exact ⟨by simp only [nc, a], by simp only [wt]; omega, by simp only [PyData.depth]; omega, by simp only [PyData.hasDict, d]⟩
theorem Cl.lst {xs : List PD} {m w k : Nat} (hlz0 : xs.length ≤ m) (h : ∀ x ∈ xs, Cl w k x) : Cl (1 + m * w) (k + 1) (.list xs) := by
  obtain ⟨a, b, c, d⟩ := cls h
  have e : xs.length * w ≤ m * w := Nat.mul_le_mul_right _ hlz0
  exact ⟨by simp only [nc, a], by simp only [wt]; omega, by simp only [PyData.depth]; omega, by simp only [PyData.hasDict, d]⟩
theorem Cl.rz {w k n : Nat} {x : PD} (h : Cl w k x) (hnz : w ≤ n) (hk : k ≤ 8) : RZ n x := by
  refine ⟨h.c, Nat.le_trans h.w hnz, Nat.le_trans h.d hk, ?_⟩
  rintro y ys rfl
  have := h.n
  simp only [PyData.hasDict, PyData.hasDictAll, Bool.or_eq_false_iff] at this
  exact .inl this.1
/-- what a bent thing is -/
structure Bt (n k : Nat) (x : PD) : Prop where
  r : RZ n x
  d : x.depth ≤ k
theorem cl_str {z : Str} (h : lfT z = true) : Cl 1 0 (.str z) := ⟨by simpa only [nc] using h, by simp [wt], by simp [PyData.depth], rfl⟩
theorem cl_int {i : Int} (h : nc (.int i) = true) : Cl 1 0 (.int i) := ⟨h, by simp [wt], by simp [PyData.depth], rfl⟩
theorem cl_bool (c : Bool) : Cl 1 0 (.bool c) := ⟨rfl, by simp [wt], by simp [PyData.depth], rfl⟩
theorem cl_none : Cl 1 0 .none := ⟨rfl, by simp [wt], by simp [PyData.depth], rfl⟩
/-- the atoms of the things -/
inductive At : PD → Prop
  | int {i : Int} : i ∈ INTS → At (.int i)
  | bool (c : Bool) : At (.bool c)
  | str {z : Str} : z ∈ TXTS → At (.str z)
  | emp : At (.tuple [])
  | one : At (.list [.int 1])
structure TxtOk (z : Str) : Prop where
  a0 : lfT z = true
  a1 : lfT (z ++ ("s" : Str)) = true
  a2 : lfT (Txt.slice z none (some (-1))) = true
  a3 : lfT (Txt.upper z) = true
  a4 : lfT (z ++ ("1" : Str)) = true
  a5 : lfT (("1" : Str) ++ z) = true
  a6 : lfT (z ++ (" " : Str)) = true
  a7 : z.length ≤ 30
theorem txt_ok {z : Str} (h : z ∈ TXTS) : TxtOk z := by
  have := txts_ok z h
  unfold txtOk at this
  simp only [Bool.and_eq_true, decide_eq_true_eq] at this
  obtain ⟨⟨⟨⟨⟨⟨⟨h0, h1⟩, h2⟩, h3⟩, h4⟩, h5⟩, h6⟩, h7⟩ := this
  exact ⟨h0, h1, h2, h3, h4, h5, h6, h7⟩
theorem At.cl {x : PD} (h : At x) : Cl 2 1 x := by
  cases h with
  | @int i h =>
    have := ints_ok i h
    simp only [Bool.and_eq_true, decide_eq_true_eq] at this
    exact (cl_int this.1.1.1.1).mono (by decide) (by decide)
  | bool c => exact (cl_bool c).mono (by decide) (by decide)
  | str h => exact (cl_str (txt_ok h).a0).mono (by decide) (by decide)
  | emp => exact ⟨rfl, by decide, by decide, rfl⟩
  | one => exact ⟨by decide +kernel, by decide, by decide, rfl⟩
def tailW (F_law_some F_law_is_int : Fm) : Ws := (seqW (iffW (testW (isinW "tuple" (varW 1))) (seqW (setFW 5 (lstW (consW (frzW (cbF listF (consW (varW 1) nilW))) (consW (slXW (varW 1) (partW (conW (.int 1))) noW) (consW (opW catXF (varW 1) (slXW (varW 1) noW (partW (conW (.int 1))))) (consW (revW (varW 1)) (consW (varW 3) (consW (opW catXF (varW 1) (tupW (consW (conW .none) nilW))) (consW (slXW (varW 1) noW (partW (negW (conW (.int 1))))) nilW))))))))) (retW (callW 2 F_law_some (consW (varW 0) (consW (varW 5) nilW))))) nxtW) (seqW (iffNW (testW (isinW "dict" (varW 1))) nxtW) (seqW (iffW (testW (callW 1 F_law_is_int (consW (varW 1) nilW))) (retW (callW 2 F_law_some (consW (varW 0) (consW (lW (lstW (consW (opW eqXF (varW 1) (conW (.int 1))) (consW (opW (iiF (fun _ _ => True) fun i j => .int (i + j)) (varW 1) (conW (.int 1))) (consW (negW (varW 1)) (consW (opW (iiF CPow fun i j => .int (i ^ j.toNat)) (conW (.int 10)) (conW (.int 39))) (consW (cbW strIF (consW (varW 1) nilW)) (consW (conW .none) (consW (varW 3) (consW (conW (.int 1000)) (consW (conW (.int 1001)) (consW (conW (.int 0)) (consW (conW (.int 1)) nilW))))))))))))) nilW)))) nxtW) (seqW (iffW (testW (isinW "str" (varW 1))) (seqW (setFW 8 (lstW (consW (opW catSF (varW 1) (conW (.str "s"))) (consW (slSW (varW 1) noW (partW (negW (conW (.int 1))))) (consW (uppW (varW 1)) (consW (opW catSF (varW 1) (conW (.str "1"))) (consW (opW catSF (conW (.str "1")) (varW 1)) (consW (opW catSF (varW 1) (conW (.str " "))) (consW (conW .none) (consW (varW 3) (consW (conW (.str "key")) (consW (conW (.str "int")) nilW)))))))))))) (seqW (setFW 8 (opF catF (varW 8) (lW (lstW (consW (conW (.str "below")) (consW (conW (.str "ref")) (consW (conW (.str "may")) (consW (conW (.str "num")) (consW (conW (.str "and")) (consW (conW (.str "add")) (consW (conW (.str "m")) (consW (conW (.str "n")) (consW (conW (.str "a")) (consW (conW (.str "bird")) (consW (opW repSF (conW (.str "a")) (conW (.int 12))) (consW (opW repSF (conW (.str "a")) (conW (.int 13))) nilW)))))))))))))))) (retW (callW 2 F_law_some (consW (varW 0) (consW (varW 8) nilW)))))) nxtW) (retW (varW 3))))))
theorem bent_eq (a b c d e : Fm) : m_law_bent a b c d e = seqW (parW 2 3 (consW (callW 2 b (consW (varW 0) (consW (conW (.int 7)) nilW))) (consW (callW 1 a (consW (varW 0) nilW)) nilW))) (seqW (iffW (andW (testW (isinW "tuple" (varW 1))) (andW (testW (opW neF (varW 1) (tupW nilW))) (testW (opW (iiF (fun _ _ => True) fun i j => .bool (decide (j < i))) (varW 2) (conW (.int 1)))))) (seqW (setW 4 (callW 2 b (consW (varW 0) (consW (cbW lenF (consW (varW 1) nilW)) nilW)))) (retW (opW catXF (opW catXF (slXW (varW 1) noW (partW (varW 4))) (tupW (consW (callW 2 c (consW (varW 0) (consW (opW ixF (varW 1) (varW 4)) nilW))) nilW))) (slXW (varW 1) (partW (opW (iiF (fun _ _ => True) fun i j => .int (i + j)) (varW 4) (conW (.int 1)))) noW)))) nxtW) (tailW d e)) := rfl
theorem bentZ_eq (a b d e : Fm) : m_law_bentZ a b d e = seqW (parW 2 3 (consW (callW 2 b (consW (varW 0) (consW (conW (.int 7)) nilW))) (consW (callW 1 a (consW (varW 0) nilW)) nilW))) (seqW (iffNW (andW (testW (isinW "tuple" (varW 1))) (andW (testW (opW neF (varW 1) (tupW nilW))) (testW (opW (iiF (fun _ _ => True) fun i j => .bool (decide (j < i))) (varW 2) (conW (.int 1)))))) nxtW) (tailW d e)) := rfl
/-- a slice's items -/
theorem sl_sub {xs : List PD} {lo hi : Option Int} : ∀ y ∈ (if HT.sIx xs.length 0 lo = 0 ∧ HT.sIx xs.length xs.length hi = xs.length then xs else DD.cutD xs lo hi), y ∈ xs := by
  intro y hy
  split at hy
  · exact hy
  · unfold DD.cutD at hy
    exact List.mem_of_mem_drop (List.mem_of_mem_take hy)
theorem sl_len {xs : List PD} {lo hi : Option Int} : (if HT.sIx xs.length 0 lo = 0 ∧ HT.sIx xs.length xs.length hi = xs.length then xs else DD.cutD xs lo hi).length ≤ xs.length := by
  split
  · exact Nat.le_refl _
  · unfold DD.cutD
    rw [List.length_take, List.length_drop]
    omega
theorem odd_bt {n k : Nat} {x : PD} (h : oddB x = true) (hnz : 10 ≤ n) (hk : 3 ≤ k) : Bt n k x ∧ (x.hasDict = false ∨ ∃ kvs, x = .dict kvs) := by
  obtain ⟨r, d, e⟩ := odd_rz h
  exact ⟨⟨⟨r.c, Nat.le_trans r.w hnz, r.d, r.h⟩, Nat.le_trans e hk⟩, d⟩
/-- a tuple, bent at once -/
theorem w_tailT {xs : List PD} {odd : PD} {way : Int} {e4 : E} {m w k n : Nat} {Q : W → Prop} (hoz : oddB odd = true) (hxz : ∀ x ∈ xs, Cl w k x) (hlz0 : xs.length ≤ m) (hw : 1 ≤ w) (hmz : m ≤ 1010) (hnz : 1 + (2 * m + 1) * w ≤ n) (h10 : 10 ≤ n) (hk : k ≤ 5)
    (q : ∀ y, Bt n (k + 3) y → (y.hasDict = false ∨ ∃ kvs, y = .dict kvs) → Q (.d y)) :
    tailW fSome fIsInt [.v .bag, .v (.d (.tuple xs)), .v (.d (.int way)), .v (.d odd), e4, .un, .un, .un, .un] (outV Q) := by
  have nt : Nice (.tuple xs) := by
    have := (Cl.tup hlz0 hxz).c
    exact .inl this
  have L : xs.length ≤ 1010 := Nat.le_trans hlz0 hmz
  have fits : ∀ {j : Nat}, j ≤ 3000 → j ≤ sizeLine := fun h => by
    rw [sizeLine_eq]
    omega
  have okT : ∀ ys : List PD, (∀ y ∈ ys, Cl w k y) → ys.length ≤ 2 * m + 1 → Q (.d (.tuple ys)) := fun ys h1 h2 => by
    have c := Cl.tup h2 h1
    exact q _ ⟨c.rz hnz (by omega), Nat.le_trans c.d (by omega)⟩ (.inl c.n)
  refine ⟨_, rfl, _, isin_of (by decide) nt, _, rfl, yes rfl ?_⟩
  refine ⟨_, rfl, _, xs, rfl, .inr rfl, _, rfl, 1, rfl, xs, rfl, ?_⟩
  refine ⟨_, rfl, _, rfl, 1, rfl, xs, rfl, _, _, rfl, rfl, fits (by have := sl_len (xs := xs) (lo := none) (hi := some 1); omega), ?_⟩
  refine ⟨_, rfl, xs, rfl, _, rfl, _, rfl, _, rfl, sz rfl, _, _, rfl, rfl, fits (by simp only [List.length_cons, List.length_nil]; omega), _, rfl, 1, rfl, -1, rfl, xs, rfl, ?_⟩
  refine ⟨_, rfl, sz rfl, ?_⟩
  refine ⟨_, rfl, _, rfl, rfl, some_of rfl (by simp) (ln rfl) fun y hy => ⟨rfl, ?_⟩⟩
  simp only [List.mem_cons, List.not_mem_nil, or_false] at hy
  rcases hy with rfl | rfl | rfl | rfl | rfl | rfl | rfl
  · have c := Cl.lst hlz0 hxz
    refine q _ ⟨c.rz ?_ (by omega), Nat.le_trans c.d (by omega)⟩ (.inl c.n)
    have : m * w ≤ (2 * m + 1) * w := Nat.mul_le_mul_right _ (by omega)
    omega
  · exact okT _ (fun y h => hxz y (sl_sub y h)) (Nat.le_trans sl_len (by omega))
  · refine okT _ (fun y h => ?_) ?_
    · rcases List.mem_append.mp h with h | h
      · exact hxz y h
      · exact hxz y (sl_sub y h)
    · have := sl_len (xs := xs) (lo := none) (hi := some 1)
      rw [List.length_append]
      omega
  · exact okT _ (fun y h => hxz y (List.mem_reverse.mp h)) (by rw [List.length_reverse]; omega)
  · obtain ⟨b, d⟩ := odd_bt (n := n) (k := k + 3) hoz h10 (by omega)
    exact q _ b d
  · refine okT _ (fun y h => ?_) ?_
    · rcases List.mem_append.mp h with h | h
      · exact hxz y h
      · obtain rfl := List.mem_singleton.mp h
        exact cl_none.mono hw (Nat.zero_le _)
    · rw [List.length_append, List.length_singleton]
      omega
  · exact okT _ (fun y h => hxz y (sl_sub y h)) (Nat.le_trans sl_len (by omega))
end MM

set_option maxHeartbeats 3999999
namespace MM
open PySem PySem.Spec PyProof.Rows L2 GG DD LL
theorem lf_k {z : Str} (h : lfT z = true := by decide +kernel) : Cl 1 0 (.str z) := cl_str h
theorem i_k {i : Int} (h : nc (.int i) = true := by decide +kernel) : Cl 1 0 (.int i) := cl_int h
/-- an atom, bent -/
theorem w_tailA {x odd : PD} {way : Int} {e4 : E} {Q : W → Prop} (hoz : oddB odd = true) (hxz : At x) (q : ∀ y, Bt 20 4 y → (y.hasDict = false ∨ ∃ kvs, y = .dict kvs) → Q (.d y)) :
    tailW fSome fIsInt [.v .bag, .v (.d x), .v (.d (.int way)), .v (.d odd), e4, .un, .un, .un, .un] (outV Q) := by
  have n : Nice x := .inl hxz.cl.c
  have qo : Q (.d odd) := by
    obtain ⟨b, d⟩ := odd_bt (n := 20) (k := 4) hoz (by decide) (by decide)
    exact q _ b d
  have qc : ∀ y, Cl 1 0 y → Q (.d y) := fun y c => q y ⟨c.rz (by decide) (by decide), Nat.le_trans c.d (by decide)⟩ (.inl c.n)
  cases hxz with
  | @int i hi =>
    have ok := ints_ok i hi
    simp only [Bool.and_eq_true, decide_eq_true_eq] at ok
    obtain ⟨⟨⟨⟨h0, h1⟩, h2⟩, h3⟩, h4⟩ := ok
    refine ⟨_, rfl, _, isin_of (by decide) n, _, rfl, no rfl ?_⟩
    refine ⟨_, rfl, _, isin_of (by decide) n, _, rfl, rfl, ?_⟩
    refine ⟨_, rfl, rfl, _, rfl, n, _, rfl, yes rfl ?_⟩
    refine ⟨_, rfl, _, rfl, .inl ⟨_, _, rfl, rfl, rfl, rfl, ?_⟩⟩
    refine ⟨_, rfl, _, _, rfl, rfl, trivial, _, rfl, _, rfl, _, _, rfl, rfl, cpow10, _, rfl, _, rfl, h4, _, rfl, ?_⟩
    refine ⟨_, rfl, sz rfl, rfl, some_of rfl (by simp) (ln rfl) fun y hy => ⟨rfl, ?_⟩⟩
    simp only [List.mem_cons, List.not_mem_nil, or_false] at hy
    rcases hy with rfl | rfl | rfl | rfl | rfl | rfl | rfl | rfl | rfl | rfl | rfl
    · exact qc _ (cl_bool _)
    · exact qc _ (cl_int h1)
    · exact qc _ (cl_int h2)
    · exact qc _ i_k
    · exact qc _ (cl_str h3)
    · exact qc _ cl_none
    · exact qo
    · exact qc _ i_k
    · exact qc _ i_k
    · exact qc _ i_k
    · exact qc _ i_k
  | @str z hzz =>
    have t := txt_ok hzz
    have f : ∀ {j : Nat}, j ≤ 100 → j ≤ sizeLine := fun h => by
      rw [sizeLine_eq]
      omega
    have s1 : ∀ w : Str, w.length ≤ 2 → z.length + w.length ≤ sizeLine := fun w h => f (by have := t.a7; omega)
    have s2 : ∀ w : Str, w.length ≤ 2 → w.length + z.length ≤ sizeLine := fun w h => f (by have := t.a7; omega)
    refine ⟨_, rfl, _, isin_of (by decide) n, _, rfl, no rfl ?_⟩
    refine ⟨_, rfl, _, isin_of (by decide) n, _, rfl, rfl, ?_⟩
    refine ⟨_, rfl, rfl, _, rfl, n, _, rfl, no rfl ?_⟩
    refine ⟨_, rfl, _, isin_of (by decide) n, _, rfl, yes rfl ?_⟩
    refine ⟨_, rfl, _, _, rfl, rfl, s1 _ (by decide +kernel), _, rfl, 1, rfl, -1, rfl, z, rfl, f (by have := t.a7; omega), _, rfl, z, rfl, by have := t.a7; omega, ?_⟩
    refine ⟨_, rfl, _, _, rfl, rfl, s1 _ (by decide +kernel), _, rfl, _, _, rfl, rfl, s2 _ (by decide +kernel), _, rfl, _, _, rfl, rfl, s1 _ (by decide +kernel), _, rfl, _, rfl, sz rfl, ?_⟩
    refine ⟨_, rfl, _, 12, rfl, rfl, by decide, by decide, by decide +kernel, by decide +kernel, _, 13, rfl, rfl, by decide, by decide, by decide +kernel, by decide +kernel, _, rfl, sz rfl, _, _, rfl, rfl, sz rfl, ?_⟩
    refine ⟨_, rfl, _, rfl, rfl, some_of rfl (by simp) (ln rfl) fun y hy => ⟨rfl, ?_⟩⟩
    simp only [List.cons_append, List.nil_append, List.mem_cons, List.not_mem_nil, or_false] at hy
    rcases hy with rfl | rfl | rfl | rfl | rfl | rfl | rfl | rfl | rfl | rfl | rfl | rfl | rfl | rfl | rfl | rfl | rfl | rfl | rfl | rfl | rfl | rfl
    · exact qc _ (cl_str t.a1)
    · exact qc _ (cl_str t.a2)
    · exact qc _ (cl_str t.a3)
    · exact qc _ (cl_str t.a4)
    · exact qc _ (cl_str t.a5)
    · exact qc _ (cl_str t.a6)
    · exact qc _ cl_none
    · exact qo
    all_goals exact qc _ lf_k
  | bool c =>
    refine ⟨_, rfl, _, isin_of (by decide) n, _, rfl, no rfl ?_⟩
    refine ⟨_, rfl, _, isin_of (by decide) n, _, rfl, rfl, ?_⟩
    refine ⟨_, rfl, rfl, _, rfl, n, _, rfl, no rfl ?_⟩
    exact ⟨_, rfl, _, isin_of (by decide) n, _, rfl, no rfl ⟨_, rfl, rfl, qo⟩⟩
  | emp => exact w_tailT (m := 0) (w := 1) (k := 0) (n := 20) hoz (fun _ h => by cases h) (by decide) (by decide) (by decide) (by decide) (by decide) (by decide) fun y b d => q y ⟨b.r, Nat.le_trans b.d (by decide)⟩ d
  | one =>
    refine ⟨_, rfl, _, isin_of (by decide) n, _, rfl, no rfl ?_⟩
    refine ⟨_, rfl, _, isin_of (by decide) n, _, rfl, rfl, ?_⟩
    refine ⟨_, rfl, rfl, _, rfl, n, _, rfl, no rfl ?_⟩
    exact ⟨_, rfl, _, isin_of (by decide) n, _, rfl, no rfl ⟨_, rfl, rfl, qo⟩⟩
/-- an atom bent -/
def fBentZ : Fm := fun ws Q => ∃ x, ws = [.bag, .d x] ∧ At x ∧ ∀ y, Bt 20 4 y → (y.hasDict = false ∨ ∃ kvs, y = .dict kvs) → Q (.d y)
theorem neT {xs : List PD} {env : En} {e0 : E} {Q : W → Prop} (s : SeqAt.shaped (.tuple xs) = true) (q : Q (.d (.bool (!xs.isEmpty)))) : opW neF (varW 1) (tupW nilW) (e0 :: .v (.d (.tuple xs)) :: env) Q := by
  refine ⟨_, rfl, _, rfl, sz rfl, _, _, rfl, rfl, s, rfl, ?_⟩
  have e : PyData.eqv (.tuple xs) (.tuple []) = xs.isEmpty := by
    cases xs with
    | nil => rfl
    | cons x xs => simp [PyData.eqv, PyData.eqvAll]
  rw [e]
  exact q
theorem w_bentZ (ws Q) (h : fBentZ ws Q) : bodyW 9 (m_law_bentZ fOdd takeF fSome fIsInt) ws Q := by
  obtain ⟨x, rfl, hxz, q⟩ := h
  have n : Nice x := .inl hxz.cl.c
  rw [bentZ_eq]
  refine ⟨_, rfl, rfl, 7, rfl, by decide, by decide, fun way w0 w7 => ?_⟩
  refine ⟨_, rfl, rfl, rfl, fun odd hoz => ?_⟩
  refine ⟨_, _, rfl, ?_⟩
  have fin := w_tailA (way := way) (e4 := .un) hoz hxz q
  cases hxz with
  | emp =>
    refine ⟨_, rfl, _, isin_of (by decide) n, _, rfl, yes rfl ?_⟩
    exact neT rfl ⟨_, rfl, no rfl ⟨rfl, fin⟩⟩
  | int h => exact ⟨_, rfl, _, isin_of (by decide) n, _, rfl, no rfl ⟨rfl, fin⟩⟩
  | bool c => exact ⟨_, rfl, _, isin_of (by decide) n, _, rfl, no rfl ⟨rfl, fin⟩⟩
  | str h => exact ⟨_, rfl, _, isin_of (by decide) n, _, rfl, no rfl ⟨rfl, fin⟩⟩
  | one => exact ⟨_, rfl, _, isin_of (by decide) n, _, rfl, no rfl ⟨rfl, fin⟩⟩
end MM

set_option maxHeartbeats 3999999
namespace MM
open PySem PySem.Spec PyProof.Rows L2 GG DD LL
abbrev sliceD (xs : List PD) (lo hi : Option Int) : List PD := if HT.sIx xs.length 0 lo = 0 ∧ HT.sIx xs.length xs.length hi = xs.length then xs else DD.cutD xs lo hi
theorem slice_ne {xs : List PD} {i : Int} (h0 : 1 ≤ i) (hxz : xs ≠ []) : sliceD xs none (some i) ≠ [] := by
  unfold sliceD
  split
  · exact hxz
  · unfold DD.cutD
    have hpz : 0 < xs.length := List.length_pos_iff.mpr hxz
    intro e
    have := congrArg List.length e
    rw [List.length_take, List.length_drop] at this
    simp only [HT.sIx, List.length_nil] at this
    split at this <;> omega
theorem ncs_app : ∀ {A B : List PD}, ncs A = true → ncs B = true → ncs (A ++ B) = true
  | [], _, _, h => h
  | a :: A, B, h, g => by
    simp only [ncs, Bool.and_eq_true] at h
    simp only [List.cons_append, ncs, Bool.and_eq_true]
    exact ⟨h.1, ncs_app h.2 g⟩
theorem wts_app : ∀ {A B : List PD}, wts (A ++ B) = wts A + wts B
  | [], _ => by simp [wts]
  | a :: A, B => by
    simp only [List.cons_append, wts, wts_app (A := A) (B := B)]
    omega
theorem dep_app {k : Nat} : ∀ {A B : List PD}, PyData.depthAll A ≤ k → PyData.depthAll B ≤ k → PyData.depthAll (A ++ B) ≤ k
  | [], _, _, h => h
  | a :: A, B, h, g => by
    simp only [PyData.depthAll] at h
    have := dep_app (A := A) (B := B) (by omega) g
    simp only [List.cons_append, PyData.depthAll]
    omega
theorem mid_bt {A B : List PD} {r : PD} {nr kr n K : Nat} (a1 : ncs A = true) (a3 : PyData.depthAll A ≤ 3) (a4 : PyData.hasDictAll A = false) (b1 : ncs B = true) (b3 : PyData.depthAll B ≤ 3) (hr : RZ nr r) (rd : r.depth ≤ kr) (hk : kr ≤ 6) (hK : kr + 1 ≤ K) (hK2 : 4 ≤ K)
    (hw : 1 + (wts A + wt r + wts B) ≤ n) (h : A = [] → r.hasDict = false ∨ ∃ kvs, r = .dict kvs) : Bt n K (.tuple (A ++ [r] ++ B)) := by
  have r1 : ncs [r] = true := by simp only [ncs, hr.c, Bool.and_self]
  have dA : ∀ j, 3 ≤ j → kr ≤ j → PyData.depthAll (A ++ [r] ++ B) ≤ j := fun j h1 h2 => dep_app (dep_app (by omega) (by simp only [PyData.depthAll]; omega)) (by omega)
  refine ⟨⟨by simp only [nc]; exact ncs_app (ncs_app a1 r1) b1, ?_, ?_, ?_⟩, ?_⟩
  · simp only [wt, wts_app, wts]
    omega
  · have := dA 6 (by decide) hk
    simp only [PyData.depth]
    omega
  · intro y ys e
    have e := PyData.tuple.inj e
    cases A with
    | nil =>
      obtain ⟨rfl, _⟩ := List.cons.inj e
      exact h rfl
    | cons a A =>
      obtain ⟨rfl, _⟩ := List.cons.inj e
      simp only [PyData.hasDictAll, Bool.or_eq_false_iff] at a4
      exact .inl a4.1
  · by_cases h3 : 3 ≤ kr
    · have := dA kr h3 (Nat.le_refl _)
      simp only [PyData.depth]
      omega
    · have := dA 3 (Nat.le_refl _) (by omega)
      simp only [PyData.depth]
      omega
/-- a place of a tuple bent -/
structure Ca (P : PD → Prop) (n nr : Nat) (y : PD) (ys : List PD) (w k m : Nat) : Prop where
  a : At y
  p : ∀ z ∈ y :: ys, P z
  c : ∀ z ∈ y :: ys, Cl w k z
  l : (y :: ys).length ≤ m
  w1 : 1 ≤ w
  m1 : m ≤ 1010
  k1 : k ≤ 3
  n1 : 1 + (2 * m + 1) * w + nr ≤ n
theorem w_bentG {F : Fm} {P : PD → Prop} {nr kr n K : Nat} (hk : kr ≤ 6) (hK : kr + 1 ≤ K) (hK2 : 6 ≤ K) (hnz : 20 ≤ n)
    (hF : ∀ (y : PD) (Q : W → Prop), P y → (∀ r, Bt nr kr r → (At y → r.hasDict = false ∨ ∃ kvs, r = .dict kvs) → Q (.d r)) → F [.bag, .d y] Q) (x : PD) (Q : W → Prop)
    (hxz : At x ∨ ∃ y ys w k m, x = .tuple (y :: ys) ∧ Ca P n nr y ys w k m) (q : ∀ r, Bt n K r → (At x → r.hasDict = false ∨ ∃ kvs, r = .dict kvs) → Q (.d r)) : bodyW 9 (m_law_bent fOdd takeF F fSome fIsInt) [.bag, .d x] Q := by
  rw [bent_eq]
  refine ⟨_, rfl, rfl, 7, rfl, by decide, by decide, fun way w0 w7 => ?_⟩
  refine ⟨_, rfl, rfl, rfl, fun odd hoz => ?_⟩
  refine ⟨_, _, rfl, ?_⟩
  rcases hxz with hxz | ⟨y, ys, w, k, m, rfl, hxz⟩
  · have nx : Nice x := .inl hxz.cl.c
    have fin := w_tailA (way := way) (e4 := .un) hoz hxz fun r b d => q r ⟨⟨b.r.c, Nat.le_trans b.r.w hnz, b.r.d, b.r.h⟩, Nat.le_trans b.d (by omega)⟩ fun _ => d
    cases hxz with
    | emp =>
      refine ⟨_, rfl, _, isin_of (by decide) nx, _, rfl, yes rfl ?_⟩
      exact neT rfl ⟨_, rfl, no rfl fin⟩
    | int h => exact ⟨_, rfl, _, isin_of (by decide) nx, _, rfl, no rfl fin⟩
    | bool c => exact ⟨_, rfl, _, isin_of (by decide) nx, _, rfl, no rfl fin⟩
    | str h => exact ⟨_, rfl, _, isin_of (by decide) nx, _, rfl, no rfl fin⟩
    | one => exact ⟨_, rfl, _, isin_of (by decide) nx, _, rfl, no rfl fin⟩
  · have c := Cl.tup hxz.l hxz.c
    have nx : Nice (.tuple (y :: ys)) := .inl c.c
    have nat : ¬ At (.tuple (y :: ys)) := fun z => by cases z
    have L : (y :: ys).length ≤ 1010 := Nat.le_trans hxz.l hxz.m1
    have fin := w_tailT (way := way) (e4 := .un) (n := n) hoz hxz.c hxz.l hxz.w1 hxz.m1 (by have := hxz.n1; omega) (by omega) (by have := hxz.k1; omega) fun r b d => q r ⟨b.r, Nat.le_trans b.d (by have := hxz.k1; omega)⟩ fun _ => d
    refine ⟨_, rfl, _, isin_of (by decide) nx, _, rfl, yes rfl ?_⟩
    refine neT (shaped_of c.c c.n (by have := c.d; have := hxz.k1; omega)) ⟨_, rfl, yes rfl ?_⟩
    refine ⟨_, rfl, _, _, rfl, rfl, trivial, _, rfl, ?_⟩
    by_cases hw : (1 : Int) < way
    · refine yes (decide_eq_true hw) ?_
      refine ⟨_, rfl, _, rfl, _, (y :: ys).length, rfl, .inr (.inl rfl), rfl, _, rfl, by simp only [List.length_cons]; omega, by simp only [List.length_cons] at L ⊢; omega, fun a a0 a1 => ⟨rfl, ?_⟩⟩
      obtain ⟨z, hzz, ez⟩ := at_of (xs := y :: ys) a0 a1
      have fits : ∀ {j : Nat}, j ≤ 3000 → j ≤ sizeLine := fun h => by
        rw [sizeLine_eq]
        omega
      refine ⟨_, rfl, _, rfl, a, rfl, _, rfl, ?_⟩
      refine ⟨_, rfl, _, rfl, _, rfl, a, z, rfl, ez, rfl, ?_⟩
      refine hF z _ (hxz.p z hzz) fun r b d => ?_
      have l1 := sl_len (xs := y :: ys) (lo := none) (hi := some a)
      have l2 := sl_len (xs := y :: ys) (lo := some (a + 1)) (hi := none)
      refine ⟨_, rfl, sz rfl, _, _, rfl, rfl, fits (by simp only [List.length_cons, List.length_nil] at *; omega), ?_⟩
      refine ⟨_, rfl, _, rfl, _, _, rfl, rfl, trivial, _, rfl, _, rfl, _, _, rfl, rfl, fits (by rw [List.length_append]; simp only [List.length_cons, List.length_nil] at *; omega), ?_⟩
      refine ⟨rfl, q _ ?_ fun z => (nat z).elim⟩
      -- what has come of it
      have s1 := fun z h => hxz.c z (sl_sub (xs := y :: ys) (lo := none) (hi := some a) z h)
      have s2 := fun z h => hxz.c z (sl_sub (xs := y :: ys) (lo := some (a + 1)) (hi := none) z h)
      obtain ⟨c1, c2, c3, c4⟩ := cls s1
      obtain ⟨d1, d2, d3, d4⟩ := cls s2
      have m1 : (sliceD (y :: ys) none (some a)).length * w ≤ m * w := Nat.mul_le_mul_right _ (Nat.le_trans l1 hxz.l)
      have m2 : (sliceD (y :: ys) (some (a + 1)) none).length * w ≤ m * w := Nat.mul_le_mul_right _ (Nat.le_trans l2 hxz.l)
      have e3 : (2 * m + 1) * w = m * w + m * w + w := by rw [Nat.add_mul, Nat.two_mul, Nat.add_mul, Nat.one_mul]
      have n1 := hxz.n1
      have k1 := hxz.k1
      have rw' := b.r.w
      have rd := b.d
      refine mid_bt c1 (by omega) c4 d1 (by omega) b.r rd hk hK (by omega) ?_ ?_
      · have c2 : wts (sliceD (y :: ys) none (some a)) ≤ (sliceD (y :: ys) none (some a)).length * w := c2
        have d2 : wts (sliceD (y :: ys) (some (a + 1)) none) ≤ (sliceD (y :: ys) (some (a + 1)) none).length * w := d2
        show 1 + (wts (sliceD (y :: ys) none (some a)) + wt r + wts (sliceD (y :: ys) (some (a + 1)) none)) ≤ n
        omega
      · intro e
        have e : sliceD (y :: ys) none (some a) = [] := e
        have az : a = 0 := by
          by_cases h1 : 1 ≤ a
          · exact (slice_ne h1 (by simp) e).elim
          · omega
        subst az
        rw [at0] at ez
        obtain rfl := Option.some.inj ez
        exact d hxz.a
    · exact no (decide_eq_false hw) fin
end MM

set_option maxHeartbeats 3999999
/-! small things -/
namespace MM
open PySem PySem.Spec PyProof.Rows L2 GG DD LL
def P1 (x : PD) : Prop := At x ∨ ∃ y ys, x = .tuple (y :: ys) ∧ (∀ z ∈ y :: ys, At z) ∧ (y :: ys).length ≤ 1001
def fBent1 : Fm := fun ws Q => ∃ x, ws = [.bag, .d x] ∧ P1 x ∧ ∀ r, Bt 4100 6 r → (At x → r.hasDict = false ∨ ∃ kvs, r = .dict kvs) → Q (.d r)
theorem w_bent1 (ws Q) (h : fBent1 ws Q) : bodyW 9 (m_law_bent fOdd takeF fBentZ fSome fIsInt) ws Q := by
  obtain ⟨x, rfl, hxz, q⟩ := h
  refine w_bentG (P := At) (nr := 20) (kr := 4) (n := 4100) (K := 6) (by decide) (by decide) (by decide) (by decide) (fun y Q hy k => ⟨y, rfl, hy, fun r b d => k r b fun _ => d⟩) x Q ?_ q
  rcases hxz with hxz | ⟨y, ys, rfl, haz, hlz0⟩
  · exact .inl hxz
  · exact .inr ⟨y, ys, 2, 1, 1001, rfl, haz y List.mem_cons_self, haz, fun z hzz => (haz z hzz).cl, hlz0, by decide, by decide, by decide, by decide⟩
theorem P1.cl {x : PD} (h : P1 x) : Cl 2003 2 x := by
  rcases h with h | ⟨y, ys, rfl, haz, hlz0⟩
  · exact h.cl.mono (by decide) (by decide)
  · exact Cl.tup hlz0 fun z hzz => (haz z hzz).cl
/-- the things -/
def P2 (x : PD) : Prop := At x ∨ ∃ z ys, x = .tuple (.str z :: ys) ∧ z ∈ TXTS ∧ ys.length ≤ 1 ∧ ∀ y ∈ ys, P1 y
def fBent2 : Fm := fun ws Q => ∃ x, ws = [.bag, .d x] ∧ P2 x ∧ ∀ r, Bt 16500 7 r → Q (.d r)
theorem w_bent2 (ws Q) (h : fBent2 ws Q) : bodyW 9 (m_law_bent fOdd takeF fBent1 fSome fIsInt) ws Q := by
  obtain ⟨x, rfl, hxz, q⟩ := h
  refine w_bentG (P := P1) (nr := 4100) (kr := 6) (n := 16500) (K := 7) (by decide) (by decide) (by decide) (by decide) (fun y Q hy k => ⟨y, rfl, hy, fun r b d => k r b d⟩) x Q ?_ fun r b _ => q r b
  rcases hxz with hxz | ⟨z, ys, rfl, hzz, hlz0, haz⟩
  · exact .inl hxz
  · have al : ∀ w ∈ PyData.str z :: ys, P1 w := fun w hw => (List.mem_cons.mp hw).elim (fun e => e ▸ .inl (.str hzz)) (haz w)
    exact .inr ⟨_, ys, 2003, 2, 2, rfl, .str hzz, al, fun w hw => (al w hw).cl, by rw [List.length_cons]; omega, by decide, by decide, by decide, by decide⟩
theorem P2.rz {x : PD} (h : P2 x) : RZ 16500 x ∧ x.depth ≤ 7 := by
  rcases h with h | ⟨z, ys, rfl, hzz, hlz0, haz⟩
  · exact ⟨h.cl.rz (by decide) (by decide), Nat.le_trans h.cl.d (by decide)⟩
  · have c := Cl.tup (xs := .str z :: ys) (m := 2) (w := 2003) (k := 2) (by rw [List.length_cons]; omega) fun w hw => (List.mem_cons.mp hw).elim (fun e => e ▸ (P1.cl (.inl (.str hzz)))) fun h => (haz w h).cl
    exact ⟨c.rz (by decide) (by decide), Nat.le_trans c.d (by decide)⟩
def fSmall : FmF := fun ws Q => ws = [.bag] ∧ ∀ xs, xs ≠ [] → xs.length ≤ 20 → (∀ x ∈ xs, P2 x) → Q xs
end MM

set_option maxHeartbeats 3999999
/-! small things -/
namespace MM
open PySem PySem.Spec PyProof.Rows L2 GG DD LL
theorem words_in {z : Str} (h : z ∈ wordsT) : z ∈ TXTS := List.mem_append_left _ h
theorem words_s {z : Str} (h : z ∈ wordsT) : z ++ ("s" : Str) ∈ TXTS := List.mem_append_right _ (List.mem_append_left _ (List.mem_map.mpr ⟨z, h, rfl⟩))
theorem words_c {z : Str} (h : z ∈ wordsT) : Txt.slice z none (some (-1)) ∈ TXTS := List.mem_append_right _ (List.mem_append_right _ (List.mem_append_left _ (List.mem_map.mpr ⟨z, h, rfl⟩)))
theorem t_in {z : Str} (h : (NAMES0 ++ TAGS).contains z = true := by decide +kernel) : z ∈ TXTS := List.mem_append_right _ (List.mem_append_right _ (List.mem_append_right _ (List.contains_iff_mem.mp h)))
theorem i_in {i : Int} (h : INTS.contains i = true := by decide) : At (.int i) := .int (List.contains_iff_mem.mp h)
theorem p2t {z : Str} {ys : List PD} (hzz : z ∈ TXTS) (hlz0 : ys.length ≤ 1) (h : ∀ y ∈ ys, P1 y) : P2 (.tuple (.str z :: ys)) := .inr ⟨z, ys, rfl, hzz, hlz0, h⟩
theorem p2a {x : PD} (h : At x) : P2 x := .inl h
theorem one {y : PD} (h : P1 y) : ∀ w ∈ [y], P1 w := fun w hw => by
  obtain rfl := List.mem_singleton.mp hw
  exact h
theorem rep_p1 {m : Nat} (h1 : 1 ≤ m) (h2 : m ≤ 1001) : P1 (.tuple (List.replicate m (.int 5))) := by
  obtain ⟨j, rfl⟩ : ∃ j, m = j + 1 := ⟨m - 1, by omega⟩
  refine .inr ⟨.int 5, List.replicate j (.int 5), by rw [List.replicate_succ], fun z hzz => ?_, by rw [List.length_cons, List.length_replicate]; exact h2⟩
  rw [← List.replicate_succ] at hzz
  obtain rfl := List.eq_of_mem_replicate hzz
  exact i_in
theorem w_small (ws Q) (h : fSmall ws Q) : bodyF 6 (m_law_small_things fSome fBarred takeF) ws Q := by
  obtain ⟨rfl, q⟩ := h
  refine ⟨_, rfl, rfl, rfl, rfl, some_of rfl (by simp [wordsT]) (ln rfl) fun wd hw => ?_⟩
  obtain ⟨word, hword, rfl⟩ := List.mem_map.mp hw
  refine ⟨_, rfl, _, rfl, _, rfl, sz rfl, rfl, some_of rfl (by simp) (ln rfl) fun n hnz => ?_⟩
  have an : At n := by
    simp only [List.mem_cons, List.not_mem_nil, or_false] at hnz
    rcases hnz with rfl | rfl | rfl | rfl | rfl | rfl | rfl | rfl
    · exact i_in
    · exact i_in
    · exact i_in
    · exact i_in
    · exact i_in
    · exact i_in
    · exact i_in
    · exact .bool _
  have t := txt_ok (words_in hword)
  have f : ∀ {j : Nat}, j ≤ 100 → j ≤ sizeLine := fun h => by
    rw [sizeLine_eq]
    omega
  have hs1 : word.length + ("s" : Str).length ≤ 100 := by
    have := t.a7
    have h1 : ("s" : Str).length = 1 := by decide +kernel
    omega
  refine ⟨_, _, rfl, ?_⟩
  refine ⟨_, 12, rfl, rfl, by decide, by decide, by decide +kernel, by decide +kernel, _, 13, rfl, rfl, by decide, by decide, by decide +kernel, by decide +kernel, ?_⟩
  refine ⟨_, rfl, _, rfl, _, _, rfl, rfl, f hs1, _, rfl, 1, rfl, -1, rfl, word, rfl, f (by have := t.a7; omega), _, rfl, sz rfl, ?_⟩
  refine ⟨_, rfl, _, rfl, rfl, some_of rfl (by simp) (ln rfl) fun nm hnm => ⟨rfl, ?_⟩⟩
  obtain ⟨name, rfl, hname⟩ : ∃ name, nm = .str name ∧ name ∈ TXTS := by
    simp only [List.mem_cons, List.not_mem_nil, or_false] at hnm
    rcases hnm with rfl | rfl | rfl | rfl | rfl | rfl | rfl | rfl | rfl | rfl | rfl | rfl | rfl
    · exact ⟨_, rfl, t_in⟩
    · exact ⟨_, rfl, t_in⟩
    · exact ⟨_, rfl, t_in⟩
    · exact ⟨_, rfl, t_in⟩
    · exact ⟨_, rfl, t_in⟩
    · exact ⟨_, rfl, t_in⟩
    · exact ⟨_, rfl, t_in⟩
    · exact ⟨_, rfl, t_in⟩
    · exact ⟨_, rfl, t_in⟩
    · exact ⟨_, rfl, t_in⟩
    · exact ⟨_, rfl, words_in hword⟩
    · exact ⟨_, rfl, words_s hword⟩
    · exact ⟨_, rfl, words_c hword⟩
  refine ⟨_, rfl, _, rfl, _, rfl, _, rfl, sz rfl, _, rfl, _, rfl, sz rfl, _, rfl, _, rfl, sz rfl, _, rfl, _, rfl, sz rfl, _, rfl, _, rfl, sz rfl, _, rfl, sz rfl, _, rfl, sz rfl, ?_⟩
  refine ⟨_, rfl, _, rfl, _, rfl, sz rfl, _, rfl, _, rfl, sz rfl, _, rfl, _, rfl, sz rfl, _, rfl, _, rfl, sz rfl, _, rfl, sz rfl, _, rfl, sz rfl, _, rfl, sz rfl, _, rfl, _, rfl, sz rfl, _, rfl, sz rfl, _, rfl, sz rfl, _, _, rfl, rfl, sz rfl, ?_⟩
  refine ⟨_, rfl, _, rfl, sz rfl, _, rfl, sz rfl, _, rfl, sz rfl, _, rfl, sz rfl, _, _, rfl, rfl, sz rfl, ?_⟩
  have base : ∀ x ∈ [PyData.str word, .str name, n, .tuple [.str "int"], .tuple [.str "below", n], .tuple [.str "ref", .str name], .tuple [.str "may", .str name], .tuple [.str "plus", n], .tuple [.str "turned"],
      .tuple [.str "times", n], .tuple [.str "over", n], .tuple [.str "rest", n], .tuple [.str "list", .tuple [n]], .tuple [.str "list", .tuple []], .tuple [.str "list", .tuple [.int 3, .int 1, .int (-2)]], .tuple [.str "list", .list [.int 1]], .tuple [.str "int", .int 1]], P2 x := by
    intro x hxz
    have ez1 : ∀ w ∈ ([] : List PD), P1 w := fun _ h => by cases h
    have pn : P1 n := .inl an
    have pm : P1 (.str name) := .inl (.str hname)
    simp only [List.mem_cons, List.not_mem_nil, or_false] at hxz
    rcases hxz with rfl | rfl | rfl | rfl | rfl | rfl | rfl | rfl | rfl | rfl | rfl | rfl | rfl | rfl | rfl | rfl | rfl
    · exact p2a (.str (words_in hword))
    · exact p2a (.str hname)
    · exact p2a an
    · exact p2t t_in (by decide) ez1
    · exact p2t t_in (by simp) (one pn)
    · exact p2t t_in (by simp) (one pm)
    · exact p2t t_in (by simp) (one pm)
    · exact p2t t_in (by simp) (one pn)
    · exact p2t t_in (by decide) ez1
    · exact p2t t_in (by simp) (one pn)
    · exact p2t t_in (by simp) (one pn)
    · exact p2t t_in (by simp) (one pn)
    · refine p2t t_in (by simp) (one (.inr ⟨n, [], rfl, fun z hzz => ?_, by simp⟩))
      obtain rfl := List.mem_singleton.mp hzz
      exact an
    · exact p2t t_in (by simp) (one (.inl .emp))
    · refine p2t t_in (by simp) (one (.inr ⟨.int 3, [.int 1, .int (-2)], rfl, fun z hzz => ?_, by decide⟩))
      simp only [List.mem_cons, List.not_mem_nil, or_false] at hzz
      rcases hzz with rfl | rfl | rfl
      · exact i_in
      · exact i_in
      · exact i_in
    · exact p2t t_in (by simp) (one (.inl .one))
    · exact p2t t_in (by simp) (one (.inl i_in))
  refine ⟨_, rfl, rfl, 8, rfl, by decide, by decide, fun v v0 v8 => ?_⟩
  refine .inl ⟨_, _, rfl, rfl, rfl, rfl, ?_⟩
  rw [eqv_int]
  refine ⟨_, rfl, ?_⟩
  by_cases hv : v = 0
  · refine yes (decide_eq_true hv) ?_
    refine ⟨_, rfl, _, rfl, sz rfl, _, rfl, _, rfl, sz rfl, rfl, some_of rfl (by simp) (ln rfl) fun k hk => ?_⟩
    simp only [List.mem_cons, List.not_mem_nil, or_false] at hk
    rcases hk with rfl | rfl
    · refine ⟨_, 1000, rfl, rfl, by decide, by decide, _, rfl, sz rfl, _, rfl, Nat.lt_of_succ_le (sz rfl), ?_⟩
      refine ⟨_, rfl, q _ (by simp) (by simp) fun x hxz => ?_⟩
      rcases List.mem_append.mp hxz with h | h
      · exact base x h
      · obtain rfl := List.mem_singleton.mp h
        exact p2t t_in (by simp) (one (rep_p1 (by decide) (by decide)))
    · refine ⟨_, 1001, rfl, rfl, by decide, by decide, _, rfl, sz rfl, _, rfl, Nat.lt_of_succ_le (sz rfl), ?_⟩
      refine ⟨_, rfl, q _ (by simp) (by simp) fun x hxz => ?_⟩
      rcases List.mem_append.mp hxz with h | h
      · exact base x h
      · obtain rfl := List.mem_singleton.mp h
        exact p2t t_in (by simp) (one (rep_p1 (by decide) (by decide)))
  · exact no (decide_eq_false hv) ⟨_, rfl, q _ (by simp) (by simp) base⟩
end MM

set_option maxHeartbeats 3999999
/-! errors -/
namespace MM
open PySem PySem.Spec PyProof.Rows L2 GG DD LL
/-- what is known of the classes -/
structure ET (K : PySem.W.Frag) (cl : Nat → Addr) (V : Addr) : Prop where
  e : ∀ k j, k < 10 → j < 10 → PySem.W.kitOne K (.ref (cl k)) (.ref (cl j)) = some (decide (k = j))
  v : ∀ k, k < 10 → PySem.W.kitOne K (.ref (cl k)) (.ref V) = some true
  t : ∀ k, k < 10 → PySem.W.kitOne K (.ref (cl k)) (.type "ValueError") = some true
  f0 : PySem.W.findIn K (.ref (cl 0)) "version" = some none
  f2 : PySem.W.findIn K (.ref (cl 2)) "piece" = some none
  f3 : PySem.W.findIn K (.ref (cl 3)) "line" = some none
  f4 : PySem.W.findIn K (.ref (cl 4)) "version" = some none
  f5 : PySem.W.findIn K (.ref (cl 5)) "piece" = some none
  f6 : PySem.W.findIn K (.ref (cl 6)) "version" = some none
  f7 : PySem.W.findIn K (.ref (cl 7)) "word" = some none
  g7 : PySem.W.findIn K (.ref (cl 7)) "things" = some none
  f8 : PySem.W.findIn K (.ref (cl 8)) "index" = some none
  g8 : PySem.W.findIn K (.ref (cl 8)) "reason" = some none
  f9 : PySem.W.findIn K (.ref (cl 9)) "place" = some none
section
variable {K : PySem.W.Frag} {cl : Nat → Addr} {V : Addr}
def fCls (cl : Nat → Addr) : FmF := fun ws Q => ∃ k ds, k < 10 ∧ ws = [.d (.dict (errQ (cl k) ds))] ∧ Q [.int ((k : Nat) : Int)]
theorem ten {k : Nat} (h : k < 10) : k = 0 ∨ k = 1 ∨ k = 2 ∨ k = 3 ∨ k = 4 ∨ k = 5 ∨ k = 6 ∨ k = 7 ∨ k = 8 ∨ k = 9 := by omega
theorem w_classes (T : ET K cl V) (ws Q) (h : fCls cl ws Q) : bodyF 3 (m_law_classes_of K (cl 0) (cl 1) (cl 2) (cl 3) (cl 4) (cl 5) (cl 6) (cl 7) (cl 8) (cl 9)) ws Q := by
  obtain ⟨k, ds, hk, rfl, q⟩ := h
  refine ⟨_, rfl, cl k, ds, _, rfl, T.e k 0 hk (by decide), _, rfl, cl k, ds, _, rfl, T.e k 1 hk (by decide), _, rfl, cl k, ds, _, rfl, T.e k 2 hk (by decide), _, rfl, sz rfl, ?_⟩
  refine ⟨_, rfl, _, rfl, cl k, ds, _, rfl, T.e k 3 hk (by decide), _, rfl, cl k, ds, _, rfl, T.e k 4 hk (by decide), _, rfl, cl k, ds, _, rfl, T.e k 5 hk (by decide), _, rfl, sz rfl, sz rfl, ?_⟩
  refine ⟨_, rfl, _, rfl, cl k, ds, _, rfl, T.e k 6 hk (by decide), _, rfl, cl k, ds, _, rfl, T.e k 7 hk (by decide), _, rfl, cl k, ds, _, rfl, T.e k 8 hk (by decide), _, rfl, sz rfl, sz rfl, ?_⟩
  refine ⟨_, rfl, _, rfl, cl k, ds, _, rfl, T.e k 9 hk (by decide), _, rfl, Nat.lt_of_succ_le (sz rfl), ?_⟩
  refine ⟨(10 : Int), rfl, by decide, by decide, ?_⟩
  refine lc_over (fun i : Nat => WI.d (.int ((i : Nat) : Int))) (fun i => if decide (k = i) = true then some (.int ((i : Nat) : Int)) else none) (List.range 10) [] _ ?_ (by decide) ?_
  · intro i hi Qx qx
    have hi := List.mem_range.mp hi
    refine ⟨_, rfl, _, rfl, _, rfl, ((i : Nat) : Int), .bool (decide (k = i)), rfl, ?_, _, rfl, ?_⟩
    · rcases ten hi with rfl | rfl | rfl | rfl | rfl | rfl | rfl | rfl | rfl | rfl <;> rfl
    · cases hdz : decide (k = i) with
      | true =>
        rw [if_pos hdz] at qx
        exact yes rfl ⟨_, rfl, _, rfl, qx⟩
      | false =>
        rw [if_neg (by rw [hdz]; exact Bool.false_ne_true)] at qx
        exact no rfl qx
  · have e : (List.range 10).filterMap (fun i => if decide (k = i) = true then some (PyData.int ((i : Nat) : Int)) else none) = [.int ((k : Nat) : Int)] := by
      rcases ten hk with rfl | rfl | rfl | rfl | rfl | rfl | rfl | rfl | rfl | rfl <;> rfl
    rw [List.nil_append, e]
    exact q
/-- the rows of errors and their fields -/
def rowsD (cl : Nat → Addr) (x y : PD) : List (Nat × List (PD × PD) × List PD) :=
  [(0, [(.str "version", x)], [x]), (1, [], []), (2, [(.str "piece", x)], [x]), (3, [(.str "line", x)], [x]), (4, [(.str "version", x)], [x]), (5, [(.str "piece", x)], [x]), (6, [(.str "version", x)], [x]),
    (7, [(.str "things", y), (.str "word", x)], [x, y]), (8, [(.str "reason", y), (.str "index", x)], [x, y]), (9, [(.str "place", x)], [x])]
def rowP (cl : Nat → Addr) (r : Nat × List (PD × PD) × List PD) : PD := .tuple [.dict (errQ (cl r.1) r.2.1), .list r.2.2]
def fRows (cl : Nat → Addr) : FmF := fun ws Q => ∃ x y, ws = [.d x, .d y] ∧ Q ((rowsD cl x y).map (rowP cl))
theorem w_rows (T : ET K cl V) (ws Q) (h : fRows cl ws Q) : bodyF 12 (m_law_error_rows K (cl 0) (cl 1) (cl 2) (cl 3) (cl 4) (cl 5) (cl 6) (cl 7) (cl 8) (cl 9)) ws Q := by
  obtain ⟨x, y, rfl, q⟩ := h
  refine ⟨_, rfl, x, rfl, _, rfl, x, rfl, _, rfl, x, rfl, _, rfl, x, rfl, _, rfl, x, rfl, _, rfl, sz rfl, ?_⟩
  refine ⟨_, rfl, _, rfl, rfl, _, _, rfl, _, rfl, _, _, rfl, _, rfl, _, _, rfl, _, rfl, _, _, rfl, _, rfl, _, _, rfl, _, rfl, rfl, ?_⟩
  refine ⟨_, rfl, x, rfl, _, rfl, _, rfl, x, y, rfl, _, rfl, _, rfl, x, y, rfl, _, rfl, x, rfl, _, rfl, sz rfl, ?_⟩
  refine ⟨_, rfl, _, rfl, rfl, _, _, rfl, _, rfl, _, _, rfl, _, rfl, _, _, rfl, _, rfl, _, _, rfl, _, rfl, rfl, ?_⟩
  refine ⟨_, rfl, _, rfl, _, _, _, rfl, T.f0, rfl, _, rfl, sz rfl, _, rfl, sz rfl, ?_⟩
  refine ⟨_, rfl, sz rfl, _, rfl, sz rfl, ?_⟩
  refine ⟨_, rfl, _, rfl, _, _, _, rfl, T.f2, rfl, _, rfl, sz rfl, _, rfl, sz rfl, ?_⟩
  refine ⟨_, rfl, _, rfl, _, _, _, rfl, T.f3, rfl, _, rfl, sz rfl, _, rfl, sz rfl, _, rfl, sz rfl, ?_⟩
  refine ⟨_, rfl, _, rfl, _, rfl, _, _, _, rfl, T.f4, rfl, _, rfl, sz rfl, _, rfl, sz rfl, ?_⟩
  refine ⟨_, rfl, _, rfl, _, _, _, rfl, T.f5, rfl, _, rfl, sz rfl, _, rfl, sz rfl, ?_⟩
  refine ⟨_, rfl, _, rfl, _, _, _, rfl, T.f6, rfl, _, rfl, sz rfl, _, rfl, sz rfl, _, rfl, sz rfl, sz rfl, ?_⟩
  refine ⟨_, rfl, _, rfl, _, rfl, _, _, _, rfl, T.f7, rfl, _, rfl, _, _, _, rfl, T.g7, rfl, _, rfl, sz rfl, _, rfl, sz rfl, ?_⟩
  refine ⟨_, rfl, _, rfl, _, _, _, rfl, T.f8, rfl, _, rfl, _, _, _, rfl, T.g8, rfl, _, rfl, sz rfl, _, rfl, sz rfl, _, rfl, sz rfl, sz rfl, ?_⟩
  refine ⟨_, rfl, _, rfl, _, rfl, _, _, _, rfl, T.f9, rfl, _, rfl, sz rfl, _, rfl, sz rfl, _, rfl, sz rfl, _, _, rfl, rfl, sz rfl, ?_⟩
  exact q
end
end MM

set_option maxHeartbeats 3999999
/-! errors, right -/
namespace MM
open PySem PySem.Spec PyProof.Rows L2 GG DD LL
theorem lc_any {α : Type} {mg : Wg} {mt : Wt} {me : Wm} {ez1 : En} (g : α → WI) (P : PD → Prop) : ∀ (xs : List α) (acc : List PD) (Q : List PD → Prop),
    (∀ a ∈ xs, ∀ Qx : Option PD → Prop, (∀ x, P x → Qx (some x)) → mg (g a) ez1 fun env1 => mt env1 fun c => if c = true then me env1 fun w => ∃ x, w = .d x ∧ Qx (some x) else Qx none) → acc.length + xs.length ≤ 1000000 →
    (∀ ys : List PD, ys.length = xs.length → (∀ y ∈ ys, P y) → Q (acc ++ ys)) → lcW mg mt me ez1 (xs.map g) acc Q
  | [], acc, Q, _, _, q => by
    have := q [] rfl (fun _ z => by cases z)
    rw [List.append_nil] at this
    exact this
  | a :: xs, acc, Q, h, hlz0, q => by
    rw [List.length_cons] at hlz0
    refine h a List.mem_cons_self (fun o => match o with
      | some x => acc.length < sizeLine ∧ lcW mg mt me ez1 (xs.map g) (acc ++ [x]) Q
      | none => lcW mg mt me ez1 (xs.map g) acc Q) ?_
    intro x px
    refine ⟨by rw [sizeLine_eq]; omega, lc_any g P xs (acc ++ [x]) Q (fun b hb => h b (List.mem_cons_of_mem _ hb)) (by rw [List.length_append, List.length_singleton]; omega) ?_⟩
    intro ys hy py
    rw [List.append_assoc]
    refine q (x :: ys) (by rw [List.length_cons, List.length_cons, hy]) ?_
    intro y hy'
    rcases List.mem_cons.mp hy' with rfl | hy'
    · exact px
    · exact py y hy'
def fAl : Fm := fun ws Q => fAlike ws Q ∨ fSameB ws Q
theorem w_al (ws Q) (h : fAl ws Q) : bodyW 2 m_law_alike ws Q := h.elim (w_alike ws Q) (w_sameB ws Q)
/-- what the errors keep -/
structure Sm (x : PD) : Prop where
  c : nc x = true
  w : wt x ≤ 40
  d : x.depth ≤ 9
section
variable {K : PySem.W.Frag} {cl : Nat → Addr} {V : Addr}
theorem rows_are {x y : PD} {r : Nat × List (PD × PD) × List PD} (h : r ∈ rowsD cl x y) : r.1 < 10 ∧ (r.2.2 = [] ∨ r.2.2 = [x] ∨ r.2.2 = [x, y]) := by
  simp only [rowsD, List.mem_cons, List.not_mem_nil, or_false] at h
  rcases h with rfl | rfl | rfl | rfl | rfl | rfl | rfl | rfl | rfl | rfl <;> simp
theorem fields_cut {x y : PD} {fs : List PD} (h : fs = [] ∨ fs = [x] ∨ fs = [x, y]) : DD.cutD [x, y] none (some ((fs.length : Nat) : Int)) = fs := by
  rcases h with rfl | rfl | rfl <;> rfl
theorem fields_sm {x y : PD} {fs : List PD} (hxz : Sm x) (hy : Sm y) (h : fs = [] ∨ fs = [x] ∨ fs = [x, y]) : ncs fs = true ∧ wts fs ≤ 23000 ∧ PyData.depthAll fs ≤ 20 := by
  have a := hxz.w; have b := hy.w; have c := hxz.d; have d := hy.d
  rcases h with rfl | rfl | rfl
  · exact ⟨rfl, by simp [wts], by simp [PyData.depthAll]⟩
  · exact ⟨by simp only [ncs, hxz.c, Bool.and_self], by simp only [wts]; omega, by simp only [PyData.depthAll]; omega⟩
  · exact ⟨by simp only [ncs, hxz.c, hy.c, Bool.and_self], by simp only [wts]; omega, by simp only [PyData.depthAll]; omega⟩
theorem al_fields {x y : PD} {fs : List PD} {w : W} {Q : W → Prop} (hxz : Sm x) (hy : Sm y) (h : fs = [] ∨ fs = [x] ∨ fs = [x, y]) (hw : w.py = some (.list (DD.cutD [x, y] none (some ((fs.length : Nat) : Int))))) (q : Q (.d (.bool true))) : fAl [.d (.list fs), w] Q := by
  obtain ⟨a, b, c⟩ := fields_sm hxz hy h
  rw [fields_cut h] at hw
  exact .inl ⟨_, _, fs, rfl, rfl, hw, a, b, c, q⟩
def fErrs : Fm := fun ws Q => ∃ x y, ws = [.d x, .d y] ∧ Sm x ∧ Sm y ∧ Q (.d (.bool true))
theorem eqv_one (k : Int) : PyData.eqv (.list [.int k]) (.list [.int k]) = true := by simp [PyData.eqv, PyData.eqvAll]
theorem w_errs (T : ET K cl V) (ws Q) (h : fErrs ws Q) : bodyW 5 (m_law_are_errors_right K V (fRows cl) (fCls cl) fAl) ws Q := by
  obtain ⟨x, y, rfl, hxz, hy, q⟩ := h
  refine ⟨_, rfl, _, rfl, rfl, x, y, rfl, _, rfl, ?_⟩
  have e : (((rowsD cl x y).map (rowP cl)).mapIdx fun i d => WI.p (.int ((i : Nat) : Int)) d) = (rowsD cl x y).map fun r => WI.p (.int ((r.1 : Nat) : Int)) (rowP cl r) := rfl
  rw [e]
  refine loop_over (fun r : Nat × List (PD × PD) × List PD => WI.p (.int ((r.1 : Nat) : Int)) (rowP cl r)) (fun _ env => ∃ ez2 e3 e4, env = [.v (.d x), .v (.d y), ez2, e3, e4]) (rowsD cl x y) 0 _ _ ?_ ⟨_, _, _, rfl⟩ ?_
  · rintro j r env hj ⟨ez2, e3, e4, rfl⟩ Qo k
    obtain ⟨hk, hfz⟩ := rows_are (List.mem_of_getElem? hj)
    obtain ⟨i, ds, fs⟩ := r
    have hk : i < 10 := hk
    have hfz : fs = [] ∨ fs = [x] ∨ fs = [x, y] := hfz
    refine ⟨_, rfl, rfl, _, _, rfl, ⟨_, rfl, ⟨_, _, rfl, ⟨_, rfl, rfl, _, _, rfl, ⟨_, rfl, ⟨_, _, rfl, ⟨_, rfl, ⟨rfl, ⟨rfl, ?_⟩⟩⟩⟩⟩⟩⟩⟩⟩
    refine ⟨_, rfl, rfl, i, ds, hk, rfl, _, rfl, _, rfl, sz rfl, _, _, rfl, rfl, rfl, rfl, ?_⟩
    rw [eqv_one]
    refine ⟨_, rfl, no rfl ?_⟩
    refine ⟨_, rfl, cl i, ds, _, rfl, T.v i hk, _, rfl, no rfl ?_⟩
    refine ⟨_, rfl, cl i, ds, _, rfl, T.t i hk, _, rfl, no rfl ?_⟩
    refine ⟨_, rfl, _, rfl, _, rfl, _, rfl, sz rfl, _, rfl, _, fs.length, rfl, .inl rfl, _, rfl, _, rfl, rfl, ?_⟩
    exact al_fields hxz hy hfz rfl ⟨_, rfl, no rfl (k _ ⟨_, _, _, rfl⟩)⟩
  · rintro env ⟨ez2, e3, e4, rfl⟩
    exact ⟨rfl, q⟩
/-! the list grown -/
mutual
theorem sub_nc {g : Addr} {D : PD} : ∀ d : PD, nc d = true → subD g D d = d
  | .none, _ => rfl
  | .bool _, _ => rfl
  | .int _, _ => rfl
  | .str _, _ => rfl
  | .list xs, h => by
    rw [subD, sub_ncs xs (by simpa only [nc] using h)]
  | .tuple xs, h => by
    rw [subD, sub_ncs xs (by simpa only [nc] using h)]
  | .dict kvs, h => by
    rcases ncd h with rfl | rfl
    · rfl
    · rfl
theorem sub_ncs {g : Addr} {D : PD} : ∀ xs : List PD, ncs xs = true → subDs g D xs = xs
  | [], _ => rfl
  | x :: xs, h => by
    simp only [ncs, Bool.and_eq_true] at h
    rw [subDs, sub_nc x h.1, sub_ncs xs h.2]
end
theorem rows_sub {g : Addr} {D y : PD} (hy : nc y = true) : subDs g D ((rowsD cl (.dict (opqD g)) y).map (rowP cl)) = (rowsD cl D y).map (rowP cl) := by
  have ez1 : subD g D (.dict (opqD g)) = D := by
    rw [subD, if_pos (by simp [isOpq, opqD])]
  have ez2 := sub_nc (g := g) (D := D) y hy
  have e3 : ∀ (C : Addr) (ds : List (PD × PD)), subD g D (.dict (errQ C ds)) = .dict (errQ C (subKv g D ds)) := fun C ds => by
    rw [subD, if_neg (by rw [opq_no]; exact Bool.false_ne_true)]
    simp [errQ, subKv, subD]
  have s1 : ∀ xs, subD g D (.tuple xs) = .tuple (subDs g D xs) := fun xs => by rw [subD]
  have s2 : ∀ xs, subD g D (.list xs) = .list (subDs g D xs) := fun xs => by rw [subD]
  simp only [rowsD, rowP, List.map_cons, List.map_nil, subDs, s1, s2, e3, subKv, ez1, ez2]
end
end MM

set_option maxHeartbeats 3999999
/-! the law -/
namespace MM
open PySem PySem.Spec PyProof.Rows L2 GG DD LL
/-- what is looked at -/
def Tg (t : PD) : Prop := (RZ 16500 t ∧ t.depth ≤ 7) ∨ t = .dict errP
theorem repr_t {t : PD} (h : Tg t) : ∃ s : Str, ∀ Q : W → Prop, Q (.d (.str s)) → reprXF [.d t] Q := by
  rcases h with ⟨h, d⟩ | rfl
  · obtain ⟨o, sh, _⟩ := nc_show t h.c
    exact ⟨t.shown, fun Q q => ⟨_, t, rfl, rfl, .inl ⟨o, sh, by omega, shown_fits h.c (Nat.le_trans h.w (by decide)), q⟩⟩⟩
  · exact ⟨"NoCommand()", fun Q q => ⟨_, _, rfl, rfl, .inr ⟨rfl, q⟩⟩⟩
theorem ncs_mem : ∀ {xs : List PD}, ncs xs = true → ∀ x ∈ xs, nc x = true
  | [], _, x, h => by cases h
  | y :: ys, h, x, hxz => by
    simp only [ncs, Bool.and_eq_true] at h
    rcases List.mem_cons.mp hxz with rfl | hxz
    · exact h.1
    · exact ncs_mem h.2 x hxz
theorem wts_mem : ∀ {xs : List PD} {x : PD}, x ∈ xs → wt x ≤ wts xs
  | y :: ys, x, hxz => by
    simp only [wts]
    rcases List.mem_cons.mp hxz with rfl | hxz
    · omega
    · have := wts_mem hxz
      omega
theorem dep_mem : ∀ {xs : List PD} {x : PD}, x ∈ xs → x.depth ≤ PyData.depthAll xs
  | y :: ys, x, hxz => by
    simp only [PyData.depthAll]
    rcases List.mem_cons.mp hxz with rfl | hxz
    · omega
    · have := dep_mem hxz
      omega
theorem wts_len : ∀ xs : List PD, xs.length ≤ wts xs
  | [] => Nat.zero_le _
  | x :: xs => by
    have h : 1 ≤ wt x := by cases x <;> simp [wt]
    have := wts_len xs
    simp only [wts, List.length_cons]
    omega
theorem Tg.th {t : PD} (h : Tg t) : Th t := by
  rcases h with ⟨h, d⟩ | rfl
  · have it : ∀ xs, t = .tuple xs → ∀ x ∈ xs, nc x = true := by
      rintro xs rfl x hxz
      exact ncs_mem (by simpa only [nc] using h.c) x hxz
    refine ⟨.inl h.c, ?_, fun xs e x hxz => .inl (it xs e x hxz), ?_⟩
    · rintro x xs rfl
      have cx := it _ rfl x List.mem_cons_self
      rcases h.h x xs rfl with n | ⟨kvs, rfl⟩
      · refine .inl (shaped_of cx n ?_)
        have := dep_mem (xs := x :: xs) (x := x) List.mem_cons_self
        have : (PyData.tuple (x :: xs)).depth = PyData.depthAll (x :: xs) + 1 := by simp only [PyData.depth]
        omega
      · refine .inr ⟨kvs, rfl, ?_⟩
        rcases ncd cx with rfl | rfl <;> rfl
    · rintro xs rfl ys hy
      have cy := it _ rfl _ hy
      have w1 := wts_mem hy
      have w2 : wt (.tuple xs) = 1 + wts xs := by simp only [wt]
      have w3 : wt (.tuple ys) = 1 + wts ys := by simp only [wt]
      have w4 := wts_len ys
      have w5 := h.w
      exact ⟨by omega, fun z hzz => .inl (ncs_mem (by simpa only [nc] using cy) z hzz)⟩
  · exact ⟨.inr rfl, (fun _ _ e => by cases e), (fun _ e => by cases e), (fun _ e => by cases e)⟩
theorem nil_go {env : En} {k : List W → Prop} (h : k []) : nilW env k := h
def fIsBar : Fm := fun ws Q => ∃ z, ws = [.d (.str z)] ∧ Q (.d (.bool (barB z)))
theorem w_isBar (ws Q) (h : fIsBar ws Q) : bodyW 1 mis_barred ws Q := by
  obtain ⟨z, rfl, q⟩ := h
  exact w_isBarred q
theorem al_bools {a b c d : Bool} {w : W} {Q : W → Prop} (hw : w.py = some (.list [.bool a, .bool b, .bool c, .bool d])) (q : Q (.d (.bool true))) : fAl [.d (.list [.bool a, .bool b, .bool c, .bool d]), w] Q :=
  .inl ⟨_, _, _, rfl, rfl, hw, rfl, by simp [wts, wt], by simp [PyData.depthAll, PyData.depth], q⟩
theorem odd_sm {d : PD} (h : oddB d = true) : Sm d ∧ Sm (.list [d]) ∧ Sm (.list [.int 0, d]) := by
  obtain ⟨r, _, dd⟩ := odd_rz h
  have w := r.w
  refine ⟨⟨r.c, by omega, by omega⟩, ⟨by simp only [nc, ncs, r.c, Bool.and_self], by simp only [wt, wts]; omega, by simp only [PyData.depth, PyData.depthAll]; omega⟩, ?_⟩
  refine ⟨by simp only [nc, ncs, r.c]; decide +kernel, by simp only [wt, wts]; omega, by simp only [PyData.depth, PyData.depthAll]; omega⟩
theorem w_law {K : PySem.W.Frag} {cl : Nat → Addr} : mlaw K fOdd (fRows cl) fAl fErrs fSmall fBent2 fSome fWayB fSortB fName fIsInt fWayB fSortB fName fIsInt fBarred fIsBar envlaw (outV fun w => w = .d (.bool true)) := by
  refine ⟨_, rfl, rfl, rfl, fun dv hdz => ⟨_, rfl, by decide, fun p => ⟨_, _, rfl, ?_⟩⟩⟩
  obtain ⟨s1, s2, s3⟩ := odd_sm hdz
  rw [rows_sub s1.c]
  refine ⟨_, rfl, _, rfl, ?_⟩
  rw [List.map_map]
  refine loop_over (WI.d ∘ rowP cl) (fun _ env => ∃ e4 e5 e6, env = [.un, .v .bag, .v (.d dv), .v (.d (.list [.int 0, dv])), e4, e5, e6, .un, .un, .un, .un, .un, .un, .un]) (rowsD cl (.list [.int 0, dv]) dv) 0 _ _ ?_ ⟨_, _, _, rfl⟩ ?_
  · rintro j ⟨i, ds, fs⟩ env hj ⟨e4, e5, e6, rfl⟩ Qo k
    obtain ⟨_, hfz⟩ := rows_are (List.mem_of_getElem? hj)
    refine ⟨_, rfl, rfl, _, _, rfl, ⟨_, rfl, ⟨_, _, rfl, ⟨_, rfl, ⟨rfl, ?_⟩⟩⟩⟩⟩
    refine ⟨_, rfl, _, rfl, _, rfl, _, rfl, sz rfl, _, rfl, _, fs.length, rfl, .inl rfl, _, rfl, _, rfl, rfl, ?_⟩
    exact al_fields s3 s1 hfz rfl ⟨_, rfl, no rfl (k _ ⟨_, _, _, rfl⟩)⟩
  rintro env ⟨e4, e5, e6, rfl⟩
  refine ⟨_, rfl, _, rfl, _, rfl, sz rfl, rfl, dv, .list [dv], rfl, s1, s2, _, rfl, no rfl ?_⟩
  refine ⟨_, rfl, _, rfl, sz rfl, _, rfl, rfl, .list [dv], dv, rfl, s2, s1, _, rfl, no rfl ?_⟩
  refine ⟨(4 : Int), rfl, by decide, by decide, ?_⟩
  refine loop_over (fun i : Nat => WI.d (.int ((i : Nat) : Int))) (fun _ env => ∃ e7 e8 e9 e10 e11 e12 e13, env = [.un, .v .bag, .v (.d dv), .v (.d (.list [.int 0, dv])), e4, e5, e6, e7, e8, e9, e10, e11, e12, e13]) (List.range 4) 0 _ _ ?_ ⟨_, _, _, _, _, _, _, rfl⟩ ?_
  · rintro j i env _ ⟨e7, e8, e9, e10, e11, e12, e13, rfl⟩ Qo k
    refine ⟨_, rfl, ?_⟩
    refine ⟨_, rfl, rfl, rfl, fun xs ne hlz0 hpz => ?_⟩
    refine ⟨_, rfl, (6 : Int), rfl, by decide, by decide, ?_⟩
    refine lc_any (fun i : Nat => WI.d (.int ((i : Nat) : Int))) (fun y => Tg y) (List.range 6) [] _ ?_ (by decide) ?_
    · intro a _ Qx qx
      refine ⟨_, rfl, yt (B := Qx none) ?_⟩
      refine ⟨_, rfl, _, rfl, _, rfl, rfl, some_of rfl ne (by omega) fun x hxz => ?_⟩
      exact ⟨rfl, x, rfl, hpz x hxz, fun r b => ⟨_, rfl, qx _ (.inl ⟨b.r, b.d⟩)⟩⟩
    · intro ys hy py
      have fits : ∀ {j : Nat}, j ≤ 3000 → j ≤ sizeLine := fun h => by
        rw [sizeLine_eq]
        omega
      rw [List.nil_append]
      rw [List.length_range] at hy
      refine ⟨_, _, rfl, rfl, fits (by omega), ?_⟩
      refine ⟨_, rfl, rfl, rfl, fun od hod => ?_⟩
      refine ⟨_, rfl, sz rfl, _, _, rfl, rfl, fits (by rw [List.length_append]; simp only [List.length_cons, List.length_nil]; omega), ?_⟩
      refine ⟨_, rfl, _, rfl, ?_⟩
      have all : ∀ t ∈ xs ++ ys ++ [od, .dict errP], Tg t := by
        intro t ht
        rcases List.mem_append.mp ht with ht | ht
        · rcases List.mem_append.mp ht with ht | ht
          · exact .inl (hpz t ht).rz
          · exact py t ht
        · simp only [List.mem_cons, List.not_mem_nil, or_false] at ht
          rcases ht with rfl | rfl
          · obtain ⟨r, _, d⟩ := odd_rz hod
            exact .inl ⟨⟨r.c, Nat.le_trans r.w (by decide), r.d, r.h⟩, by omega⟩
          · exact .inr rfl
      refine loop_over WI.d (fun _ env => ∃ e7 e8 e9 e10 e11 e12 e13, env = [.un, .v .bag, .v (.d dv), .v (.d (.list [.int 0, dv])), e4, e5, e6, e7, e8, e9, e10, e11, e12, e13]) (xs ++ ys ++ [od, .dict errP]) 0 _ _ ?_ ⟨_, _, _, _, _, _, _, rfl⟩ ?_
      · rintro j2 t env hj2 ⟨e7, e8, e9, e10, e11, e12, e13, rfl⟩ Qo2 k2
        have tg := all t (List.mem_of_getElem? hj2)
        have th := tg.th
        obtain ⟨s, hsv0⟩ := repr_t tg
        refine ⟨_, rfl, ?_⟩
        refine ⟨_, rfl, rfl, t, rfl, th.n, _, rfl, rfl, t, rfl, th.n, _, rfl, rfl, t, rfl, th, _, rfl, rfl, t, rfl, th, _, rfl, sz rfl, ?_⟩
        refine ⟨_, rfl, ?_⟩
        refine nil_go ?_
        refine hsv0 _ ?_
        refine ⟨_, _, rfl, ?_⟩
        refine ⟨_, rfl, rfl, t, rfl, th.n, _, rfl, rfl, t, rfl, th.n, _, rfl, rfl, t, rfl, th, _, rfl, rfl, t, rfl, th, _, rfl, sz rfl, ?_⟩
        refine ⟨_, rfl, _, rfl, rfl, al_bools rfl ⟨_, rfl, no rfl ?_⟩⟩
        refine ⟨_, rfl, ?_⟩
        refine nil_go ?_
        refine hsv0 _ ?_
        refine ⟨_, rfl, s, s, rfl, rfl, _, rfl, no (by simp) ?_⟩
        refine ⟨_, rfl, _, isin_of (by decide) th.n, _, rfl, ?_⟩
        cases t with
        | str z =>
          refine yes rfl ?_
          refine ⟨_, rfl, rfl, z, rfl, _, rfl, rfl, rfl, .str z, _, rfl, .inl rfl, rfl, flat_words, ?_⟩
          rw [if_neg Bool.false_ne_true, bar_any]
          exact ⟨rfl, .inr ⟨_, rfl, _, rfl, no rfl (k2 _ ⟨_, _, _, _, _, _, _, rfl⟩)⟩⟩
        | int i => exact no rfl (no rfl (k2 _ ⟨_, _, _, _, _, _, _, rfl⟩))
        | bool c => exact no rfl (no rfl (k2 _ ⟨_, _, _, _, _, _, _, rfl⟩))
        | none => exact no rfl (no rfl (k2 _ ⟨_, _, _, _, _, _, _, rfl⟩))
        | list x => exact no rfl (no rfl (k2 _ ⟨_, _, _, _, _, _, _, rfl⟩))
        | tuple x => exact no rfl (no rfl (k2 _ ⟨_, _, _, _, _, _, _, rfl⟩))
        | dict x => exact no rfl (no rfl (k2 _ ⟨_, _, _, _, _, _, _, rfl⟩))
      · rintro env ⟨e7, e8, e9, e10, e11, e12, e13, rfl⟩
        exact k _ ⟨_, _, _, _, _, _, _, rfl⟩
  · rintro env ⟨e7, e8, e9, e10, e11, e12, e13, rfl⟩
    exact ⟨rfl, rfl⟩
end MM

set_option maxHeartbeats 3999999
/-! all defs together -/
namespace ZZ
open PySem PySem.Spec PyProof.Rows L2 GG DD LL MM
theorem spd_up {K : PySem.W.Frag} {b : BP} {n : Nat} {f g : Fm} (h : ∀ ws Q, f ws Q → g ws Q) : ∀ vs H Q E, spD K b n f vs H Q E → spD K b n g vs H Q E := by
  rintro vs H Q E ⟨hlz0, M, ws, Qa, m1, m2, dom, bg, p, q, k⟩
  exact ⟨hlz0, M, ws, Qa, m1, m2, dom, bg, p, h ws Qa q, k⟩
theorem spf_up {K : PySem.W.Frag} {b : BP} {n : Nat} {f g : FmF} (h : ∀ ws Q, f ws Q → g ws Q) : ∀ vs H Q E, spF K b n f vs H Q E → spF K b n g vs H Q E := by
  rintro vs H Q E ⟨hlz0, M, ws, Qa, m1, m2, dom, bg, p, q, k⟩
  exact ⟨hlz0, M, ws, Qa, m1, m2, dom, bg, p, h ws Qa q, k⟩
/-- a def of the text, all that is known of it -/
structure Has (K : PySem.W.Frag) (mg : Str → Option Value) (x : Str) (st : Stmt) (f : Addr) (fd : FuncData) (ps : List Str) : Prop where
  F : L2.Fun K x x st f fd
  mg : mg x = some (.ref f)
  bi : Binds K fd ps []
def sv : Value → Option Str
  | .str z _ => some z
  | _ => none
theorem vals_words : ∀ (zs : List Str) (vs : List Value), vs.map sv = zs.map some → Vals (zs.map V.str) vs
  | [], [], _ => .nil
  | [], _ :: _, h => by cases h
  | _ :: _, [], h => by cases h
  | z :: zs, v :: vs, h => by
    simp only [List.map_cons, List.cons.injEq] at h
    refine .cons ?_ (vals_words zs vs h.2)
    cases v with
    | str y t =>
      have e : y = z := Option.some.inj h.1
      subst e
      exact ⟨t, rfl⟩
    | _ => cases h.1
def cl10 (a0 a1 a2 a3 a4 a5 a6 a7 a8 a9 : Addr) : Nat → Addr
  | 0 => a0 | 1 => a1 | 2 => a2 | 3 => a3 | 4 => a4 | 5 => a5 | 6 => a6 | 7 => a7 | 8 => a8 | _ => a9
theorem kk {K : PySem.W.Frag} {C D : Addr} {b : Bool} (hD : PySem.W.hasDictIn K D = true) (ht : PySem.W.typeIn K (.ref D) = some (.type "type")) (hsv0 : PySem.W.subIn K (.ref C) (.ref D) = some b) (hc : PySem.W.subIn K (.ref C) (.ref C) = some true) : PySem.W.kitOne K (.ref C) (.ref D) = some b := by
  refine kit_ref hD ht hsv0 ?_
  cases b with
  | true => exact .inl rfl
  | false =>
    refine .inr ?_
    rintro rfl
    rw [hsv0] at hc
    cases hc
section
variable {P : Program} {w : World} {K : PySem.W.Frag} {mg : Str → Option Value} {base : Heap}
theorem all_ok {f CN fN : Addr} {fd fdN : FuncData} (Z : Nones mg) (ZN : Err P w K mg base "NoCommand" CN fN fdN) {WA V : Addr} (ZW : GTup K mg "WORDS" WA wordsT) (YV : Nm mg "VersionError" V) {cl : Nat → Addr} (T : ET K cl V)
    {fIsHome : Addr} {fdIsHome : FuncData} (YIsHome : Cls P w K mg base "IsHome" (cl 0) fIsHome fdIsHome ["self", "version"] (spI1 (cl 0) "version"))
    {fNoCommand : Addr} {fdNoCommand : FuncData} (YNoCommand : Cls P w K mg base "NoCommand" (cl 1) fNoCommand fdNoCommand ["self"] spNil)
    {fNoPiece : Addr} {fdNoPiece : FuncData} (YNoPiece : Cls P w K mg base "NoPiece" (cl 2) fNoPiece fdNoPiece ["self", "piece"] (spI1 (cl 2) "piece"))
    {fNoText : Addr} {fdNoText : FuncData} (YNoText : Cls P w K mg base "NoText" (cl 3) fNoText fdNoText ["self", "line"] (spI1 (cl 3) "line"))
    {fNotEnd : Addr} {fdNotEnd : FuncData} (YNotEnd : Cls P w K mg base "NotEnd" (cl 4) fNotEnd fdNotEnd ["self", "version"] (spI1 (cl 4) "version"))
    {fNotMoved : Addr} {fdNotMoved : FuncData} (YNotMoved : Cls P w K mg base "NotMoved" (cl 5) fNotMoved fdNotMoved ["self", "piece"] (spI1 (cl 5) "piece"))
    {fNotNeighbour : Addr} {fdNotNeighbour : FuncData} (YNotNeighbour : Cls P w K mg base "NotNeighbour" (cl 6) fNotNeighbour fdNotNeighbour ["self", "version"] (spI1 (cl 6) "version"))
    {fNotTaken : Addr} {fdNotTaken : FuncData} (YNotTaken : Cls P w K mg base "NotTaken" (cl 7) fNotTaken fdNotTaken ["self", "word", "things"] (spI2 (cl 7) "word" "things"))
    {fRefused : Addr} {fdRefused : FuncData} (YRefused : Cls P w K mg base "Refused" (cl 8) fRefused fdRefused ["self", "index", "reason"] (spI2 (cl 8) "index" "reason"))
    {fWrong : Addr} {fdWrong : FuncData} (YWrong : Cls P w K mg base "Wrong" (cl 9) fWrong fdWrong ["self", "place"] (spI1 (cl 9) "place"))
    {f_law_take : Addr} {fd_law_take : FuncData} (H_law_take : Has K mg "_law_take" sTake f_law_take fd_law_take ["bag", "many"])
    {f_law_some : Addr} {fd_law_some : FuncData} (H_law_some : Has K mg "_law_some" s_law_some f_law_some fd_law_some ["bag", "things"])
    {f_law_alike : Addr} {fd_law_alike : FuncData} (H_law_alike : Has K mg "_law_alike" s_law_alike f_law_alike fd_law_alike ["found", "due"])
    {f_law_barred : Addr} {fd_law_barred : FuncData} (H_law_barred : Has K mg "_law_barred" s_law_barred f_law_barred fd_law_barred [])
    {f_law_odd : Addr} {fd_law_odd : FuncData} (H_law_odd : Has K mg "_law_odd" s_law_odd f_law_odd fd_law_odd ["bag"])
    {fis_integer : Addr} {fdis_integer : FuncData} (His_integer : Has K mg "is_integer" sis_integer fis_integer fdis_integer ["thing"])
    {f_law_is_int : Addr} {fd_law_is_int : FuncData} (H_law_is_int : Has K mg "_law_is_int" s_law_is_int f_law_is_int fd_law_is_int ["thing"])
    {fis_many : Addr} {fdis_many : FuncData} (His_many : Has K mg "is_many" sis_many fis_many fdis_many ["thing"])
    {f_law_is_from_one : Addr} {fd_law_is_from_one : FuncData} (H_law_is_from_one : Has K mg "_law_is_from_one" s_law_is_from_one f_law_is_from_one fd_law_is_from_one ["thing"])
    {fis_tuple_of : Addr} {fdis_tuple_of : FuncData} (His_tuple_of : Has K mg "is_tuple_of" sis_tuple_of fis_tuple_of fdis_tuple_of ["thing", "many"])
    {fis_name : Addr} {fdis_name : FuncData} (His_name : Has K mg "is_name" sis_name fis_name fdis_name ["thing"])
    {f_law_is_name : Addr} {fd_law_is_name : FuncData} (H_law_is_name : Has K mg "_law_is_name" s_law_is_name f_law_is_name fd_law_is_name ["thing"])
    {f_law_is_headed : Addr} {fd_law_is_headed : FuncData} (H_law_is_headed : Has K mg "_law_is_headed" s_law_is_headed f_law_is_headed fd_law_is_headed ["thing", "word", "size"])
    {fis_sort : Addr} {fdis_sort : FuncData} (His_sort : Has K mg "is_sort" sis_sort fis_sort fdis_sort ["thing"])
    {f_law_is_sort : Addr} {fd_law_is_sort : FuncData} (H_law_is_sort : Has K mg "_law_is_sort" s_law_is_sort f_law_is_sort fd_law_is_sort ["thing"])
    {fis_way : Addr} {fdis_way : FuncData} (His_way : Has K mg "is_way" sis_way fis_way fdis_way ["thing"])
    {f_law_is_way : Addr} {fd_law_is_way : FuncData} (H_law_is_way : Has K mg "_law_is_way" s_law_is_way f_law_is_way fd_law_is_way ["thing"])
    {fis_barred : Addr} {fdis_barred : FuncData} (His_barred : Has K mg "is_barred" sis_barred fis_barred fdis_barred ["word"])
    {f_law_classes_of : Addr} {fd_law_classes_of : FuncData} (H_law_classes_of : Has K mg "_law_classes_of" s_law_classes_of f_law_classes_of fd_law_classes_of ["error"])
    {f_law_error_rows : Addr} {fd_law_error_rows : FuncData} (H_law_error_rows : Has K mg "_law_error_rows" s_law_error_rows f_law_error_rows fd_law_error_rows ["one", "two"])
    {f_law_are_errors_right : Addr} {fd_law_are_errors_right : FuncData} (H_law_are_errors_right : Has K mg "_law_are_errors_right" s_law_are_errors_right f_law_are_errors_right fd_law_are_errors_right ["one", "two"])
    {f_law_small_things : Addr} {fd_law_small_things : FuncData} (H_law_small_things : Has K mg "_law_small_things" s_law_small_things f_law_small_things fd_law_small_things ["bag"])
    {f_law_bent : Addr} {fd_law_bent : FuncData} (H_law_bent : Has K mg "_law_bent" s_law_bent f_law_bent fd_law_bent ["bag", "thing"])
    {f_law_bag : Addr} {fd_law_bag : FuncData} (H_law_bag : Has K mg "_law_bag" s_law_bag f_law_bag fd_law_bag ["script"])
    (F : L2.Fun K "law" "law" slaw f fd) : GFn P w K mg base CX0 7 f fd ["script"] (spLaw K) := by
  have D_law_take : ∀ b : BP, Dfn P w K mg base 1 f_law_take fd_law_take "_law_take" ["bag", "many"] (spD K b 2 takeF) := fun b => ⟨ok_take H_law_take.F Z.zint, H_law_take.mg, H_law_take.F.kp, H_law_take.bi⟩
  have D_law_some : ∀ b : BP, Dfn P w K mg base 2 f_law_some fd_law_some "_law_some" ["bag", "things"] (spD K b 2 fSome) := fun b => ⟨(ok_law_some takeF Z  (D_law_take b) H_law_some.F).imp (spd_up w_some), H_law_some.mg, H_law_some.F.kp, H_law_some.bi⟩
  have D_law_alike : ∀ b : BP, Dfn P w K mg base 1 f_law_alike fd_law_alike "_law_alike" ["found", "due"] (spD K b 2 fAl) := fun b => ⟨(ok_law_alike  Z   H_law_alike.F).imp (spd_up w_al), H_law_alike.mg, H_law_alike.F.kp, H_law_alike.bi⟩
  have D_law_barred : ∀ b : BP, Dfn P w K mg base 1 f_law_barred fd_law_barred "_law_barred" [] (spF K b 0 fBarred) := fun b => ⟨(ok_law_barred  Z   H_law_barred.F).imp (spf_up w_barred), H_law_barred.mg, H_law_barred.F.kp, H_law_barred.bi⟩
  have D_law_odd : ∀ b : BP, Dfn P w K mg base 3 f_law_odd fd_law_odd "_law_odd" ["bag"] (spD K b 1 fOdd) := fun b => ⟨(ok_law_odd fSome Z  (D_law_some b) H_law_odd.F).imp (spd_up w_odd), H_law_odd.mg, H_law_odd.F.kp, H_law_odd.bi⟩
  have Dis_integer : ∀ b : BP, Dfn P w K mg base 1 fis_integer fdis_integer "is_integer" ["thing"] (spD K b 1 fIsInt) := fun b => ⟨(okis_integer  Z   His_integer.F).imp (spd_up w_isInt), His_integer.mg, His_integer.F.kp, His_integer.bi⟩
  have D_law_is_int : ∀ b : BP, Dfn P w K mg base 1 f_law_is_int fd_law_is_int "_law_is_int" ["thing"] (spD K b 1 fIsInt) := fun b => ⟨(ok_law_is_int  Z   H_law_is_int.F).imp (spd_up w_isInt2), H_law_is_int.mg, H_law_is_int.F.kp, H_law_is_int.bi⟩
  have Dis_many : ∀ b : BP, Dfn P w K mg base 2 fis_many fdis_many "is_many" ["thing"] (spD K b 1 fMany) := fun b => ⟨(okis_many fIsInt Z  (Dis_integer b) His_many.F).imp (spd_up w_many), His_many.mg, His_many.F.kp, His_many.bi⟩
  have D_law_is_from_one : ∀ b : BP, Dfn P w K mg base 2 f_law_is_from_one fd_law_is_from_one "_law_is_from_one" ["thing"] (spD K b 1 fMany) := fun b => ⟨(ok_law_is_from_one fIsInt Z  (D_law_is_int b) H_law_is_from_one.F).imp (spd_up w_fromOne), H_law_is_from_one.mg, H_law_is_from_one.F.kp, H_law_is_from_one.bi⟩
  have Dis_tuple_of : ∀ b : BP, Dfn P w K mg base 1 fis_tuple_of fdis_tuple_of "is_tuple_of" ["thing", "many"] (spD K b 2 fTupOf) := fun b => ⟨(okis_tuple_of  Z   His_tuple_of.F).imp (spd_up w_tupOf), His_tuple_of.mg, His_tuple_of.F.kp, His_tuple_of.bi⟩
  have Dis_name : ∀ b : BP, Dfn P w K mg base 1 fis_name fdis_name "is_name" ["thing"] (spD K b 1 fName) := fun b => ⟨(okis_name  Z ZW  His_name.F).imp (spd_up w_name), His_name.mg, His_name.F.kp, His_name.bi⟩
  have D_law_is_name : ∀ b : BP, Dfn P w K mg base 2 f_law_is_name fd_law_is_name "_law_is_name" ["thing"] (spD K b 1 fName) := fun b => ⟨(ok_law_is_name fBarred Z  (D_law_barred b) H_law_is_name.F).imp (spd_up w_lawName), H_law_is_name.mg, H_law_is_name.F.kp, H_law_is_name.bi⟩
  have D_law_is_headed : ∀ b : BP, Dfn P w K mg base 1 f_law_is_headed fd_law_is_headed "_law_is_headed" ["thing", "word", "size"] (spD K b 3 fHead) := fun b => ⟨(ok_law_is_headed  Z   H_law_is_headed.F).imp (spd_up w_head), H_law_is_headed.mg, H_law_is_headed.F.kp, H_law_is_headed.bi⟩
  have Dis_sort : ∀ b : BP, Dfn P w K mg base 3 fis_sort fdis_sort "is_sort" ["thing"] (spD K b 1 fSortB) := fun b => ⟨(okis_sort fTupOf fMany fName Z  (Dis_tuple_of b) (Dis_many b) (Dis_name b) His_sort.F).imp (spd_up w_sort), His_sort.mg, His_sort.F.kp, His_sort.bi⟩
  have D_law_is_sort : ∀ b : BP, Dfn P w K mg base 3 f_law_is_sort fd_law_is_sort "_law_is_sort" ["thing"] (spD K b 1 fSortB) := fun b => ⟨(ok_law_is_sort fHead fMany fName Z  (D_law_is_headed b) (D_law_is_from_one b) (D_law_is_name b) H_law_is_sort.F).imp (spd_up w_lawSort), H_law_is_sort.mg, H_law_is_sort.F.kp, H_law_is_sort.bi⟩
  have Dis_way : ∀ b : BP, Dfn P w K mg base 3 fis_way fdis_way "is_way" ["thing"] (spD K b 1 fWayB) := fun b => ⟨(okis_way fTupOf fIsInt fMany Z  (Dis_tuple_of b) (Dis_integer b) (Dis_many b) His_way.F).imp (spd_up w_way), His_way.mg, His_way.F.kp, His_way.bi⟩
  have D_law_is_way : ∀ b : BP, Dfn P w K mg base 3 f_law_is_way fd_law_is_way "_law_is_way" ["thing"] (spD K b 1 fWayB) := fun b => ⟨(ok_law_is_way fHead fIsInt fMany Z  (D_law_is_headed b) (D_law_is_int b) (D_law_is_from_one b) H_law_is_way.F).imp (spd_up w_lawWay), H_law_is_way.mg, H_law_is_way.F.kp, H_law_is_way.bi⟩
  have Dis_barred : ∀ b : BP, Dfn P w K mg base 1 fis_barred fdis_barred "is_barred" ["word"] (spD K b 1 fIsBar) := fun b => ⟨(okis_barred  Z ZW  His_barred.F).imp (spd_up w_isBar), His_barred.mg, His_barred.F.kp, His_barred.bi⟩
  have D_law_classes_of : ∀ b : BP, Dfn P w K mg base 1 f_law_classes_of fd_law_classes_of "_law_classes_of" ["error"] (spF K b 1 (fCls cl)) := fun b => ⟨(ok_law_classes_of  Z ⟨YIsHome.mg⟩ ⟨YNoCommand.mg⟩ ⟨YNoPiece.mg⟩ ⟨YNoText.mg⟩ ⟨YNotEnd.mg⟩ ⟨YNotMoved.mg⟩ ⟨YNotNeighbour.mg⟩ ⟨YNotTaken.mg⟩ ⟨YRefused.mg⟩ ⟨YWrong.mg⟩  H_law_classes_of.F).imp (spf_up (w_classes T)), H_law_classes_of.mg, H_law_classes_of.F.kp, H_law_classes_of.bi⟩
  have D_law_error_rows : ∀ b : BP, Dfn P w K mg base 3 f_law_error_rows fd_law_error_rows "_law_error_rows" ["one", "two"] (spF K b 2 (fRows cl)) := fun b => ⟨(ok_law_error_rows  Z YIsHome YNoCommand YNoPiece YNoText YNotEnd YNotMoved YNotNeighbour YNotTaken YRefused YWrong  H_law_error_rows.F).imp (spf_up (w_rows T)), H_law_error_rows.mg, H_law_error_rows.F.kp, H_law_error_rows.bi⟩
  have D_law_are_errors_right : ∀ b : BP, Dfn P w K mg base 4 f_law_are_errors_right fd_law_are_errors_right "_law_are_errors_right" ["one", "two"] (spD K b 2 (fErrs)) := fun b => ⟨(ok_law_are_errors_right (fRows cl) (fCls cl) fAl Z YV (D_law_error_rows b) (D_law_classes_of b) (D_law_alike b) H_law_are_errors_right.F).imp (spd_up (w_errs T)), H_law_are_errors_right.mg, H_law_are_errors_right.F.kp, H_law_are_errors_right.bi⟩
  have D_law_small_things : ∀ b : BP, Dfn P w K mg base 3 f_law_small_things fd_law_small_things "_law_small_things" ["bag"] (spF K b 1 fSmall) := fun b => ⟨(ok_law_small_things fSome fBarred takeF Z  (D_law_some b) (D_law_barred b) (D_law_take b) H_law_small_things.F).imp (spf_up w_small), H_law_small_things.mg, H_law_small_things.F.kp, H_law_small_things.bi⟩
  have DZ : ∀ b : BP, Dfn P w K mg base 4 f_law_bent fd_law_bent "_law_bent" ["bag", "thing"] (spD K b 2 fBentZ) := fun b => ⟨(ok_law_bentZ fOdd takeF fSome fIsInt Z (D_law_odd b) (D_law_take b) (D_law_some b) (D_law_is_int b) H_law_bent.F).imp (spd_up w_bentZ), H_law_bent.mg, H_law_bent.F.kp, H_law_bent.bi⟩
  have DY : ∀ b : BP, Dfn P w K mg base 5 f_law_bent fd_law_bent "_law_bent" ["bag", "thing"] (spD K b 2 fBent1) := fun b => ⟨(ok_law_bent fOdd takeF fBentZ fSome fIsInt Z (n := 4) (by decide) (D_law_odd b) (D_law_take b) (DZ b) (D_law_some b) (D_law_is_int b) H_law_bent.F).imp (spd_up w_bent1), H_law_bent.mg, H_law_bent.F.kp, H_law_bent.bi⟩
  have D_law_bent : ∀ b : BP, Dfn P w K mg base 6 f_law_bent fd_law_bent "_law_bent" ["bag", "thing"] (spD K b 2 fBent2) := fun b => ⟨(ok_law_bent fOdd takeF fBent1 fSome fIsInt Z (n := 5) (by decide) (D_law_odd b) (D_law_take b) (DY b) (D_law_some b) (D_law_is_int b) H_law_bent.F).imp (spd_up w_bent2), H_law_bent.mg, H_law_bent.F.kp, H_law_bent.bi⟩
  exact oklaw fOdd (fRows cl) fAl (fErrs) fSmall fBent2 fSome fWayB fSortB fName fIsInt fWayB fSortB fName fIsInt fBarred fIsBar Z ZN ⟨ok_law_bag Z H_law_bag.F, H_law_bag.mg, H_law_bag.F.kp, H_law_bag.bi⟩
    ⟨gfn_any fun b _ => (D_law_odd b).gfn, H_law_odd.mg, H_law_odd.F.kp, H_law_odd.bi⟩
    ⟨gfn_anyF fun b _ => (D_law_error_rows b).gfn, H_law_error_rows.mg, H_law_error_rows.F.kp, H_law_error_rows.bi⟩
    ⟨gfn_any fun b _ => (D_law_alike b).gfn, H_law_alike.mg, H_law_alike.F.kp, H_law_alike.bi⟩
    ⟨gfn_any fun b _ => (D_law_are_errors_right b).gfn, H_law_are_errors_right.mg, H_law_are_errors_right.F.kp, H_law_are_errors_right.bi⟩
    ⟨gfn_anyF fun b _ => (D_law_small_things b).gfn, H_law_small_things.mg, H_law_small_things.F.kp, H_law_small_things.bi⟩
    ⟨gfn_any fun b _ => (D_law_bent b).gfn, H_law_bent.mg, H_law_bent.F.kp, H_law_bent.bi⟩
    ⟨gfn_any fun b _ => (D_law_some b).gfn, H_law_some.mg, H_law_some.F.kp, H_law_some.bi⟩
    ⟨gfn_any fun b _ => (Dis_way b).gfn, His_way.mg, His_way.F.kp, His_way.bi⟩
    ⟨gfn_any fun b _ => (Dis_sort b).gfn, His_sort.mg, His_sort.F.kp, His_sort.bi⟩
    ⟨gfn_any fun b _ => (Dis_name b).gfn, His_name.mg, His_name.F.kp, His_name.bi⟩
    ⟨gfn_any fun b _ => (Dis_integer b).gfn, His_integer.mg, His_integer.F.kp, His_integer.bi⟩
    ⟨gfn_any fun b _ => (D_law_is_way b).gfn, H_law_is_way.mg, H_law_is_way.F.kp, H_law_is_way.bi⟩
    ⟨gfn_any fun b _ => (D_law_is_sort b).gfn, H_law_is_sort.mg, H_law_is_sort.F.kp, H_law_is_sort.bi⟩
    ⟨gfn_any fun b _ => (D_law_is_name b).gfn, H_law_is_name.mg, H_law_is_name.F.kp, H_law_is_name.bi⟩
    ⟨gfn_any fun b _ => (D_law_is_int b).gfn, H_law_is_int.mg, H_law_is_int.F.kp, H_law_is_int.bi⟩
    ⟨gfn_anyF fun b _ => (D_law_barred b).gfn, H_law_barred.mg, H_law_barred.F.kp, H_law_barred.bi⟩
    ⟨gfn_any fun b _ => (Dis_barred b).gfn, His_barred.mg, His_barred.F.kp, His_barred.bi⟩
    F w_law
end
end ZZ

set_option maxHeartbeats 3999999
namespace ZZ
open PySem PySem.Spec PyProof.Rows L2 GG DD LL MM
theorem all_mk {l : PySem.W.OpenLaw} {w : World} {K : PySem.W.Frag} {h : Heap} {mg : Str → Option Value} {fa : Addr} (X : K.In h) (G : h.Ns mainGlobals mg) (hfa : mg "law" = some (.ref fa))
    {f0 : Addr} {oc0 kV0 dc0 pm0 cd0 ct0 : Value} {od0 an0 : Option Addr} {sl0 : Array (Option Value)}
    {f1 : Addr} {oc1 kV1 dc1 pm1 cd1 ct1 : Value} {od1 an1 : Option Addr} {sl1 : Array (Option Value)}
    {f2 : Addr} {oc2 kV2 dc2 pm2 cd2 ct2 : Value} {od2 an2 : Option Addr} {sl2 : Array (Option Value)}
    {f3 : Addr} {oc3 kV3 dc3 pm3 cd3 ct3 : Value} {od3 an3 : Option Addr} {sl3 : Array (Option Value)}
    {f4 : Addr} {oc4 kV4 dc4 pm4 cd4 ct4 : Value} {od4 an4 : Option Addr} {sl4 : Array (Option Value)}
    {f5 : Addr} {oc5 kV5 dc5 pm5 cd5 ct5 : Value} {od5 an5 : Option Addr} {sl5 : Array (Option Value)}
    {f6 : Addr} {oc6 kV6 dc6 pm6 cd6 ct6 : Value} {od6 an6 : Option Addr} {sl6 : Array (Option Value)}
    {f7 : Addr} {oc7 kV7 dc7 pm7 cd7 ct7 : Value} {od7 an7 : Option Addr} {sl7 : Array (Option Value)}
    {f8 : Addr} {oc8 kV8 dc8 pm8 cd8 ct8 : Value} {od8 an8 : Option Addr} {sl8 : Array (Option Value)}
    {f9 : Addr} {oc9 kV9 dc9 pm9 cd9 ct9 : Value} {od9 an9 : Option Addr} {sl9 : Array (Option Value)}
    {f10 : Addr} {oc10 kV10 dc10 pm10 cd10 ct10 : Value} {od10 an10 : Option Addr} {sl10 : Array (Option Value)}
    {f11 : Addr} {oc11 kV11 dc11 pm11 cd11 ct11 : Value} {od11 an11 : Option Addr} {sl11 : Array (Option Value)}
    {f12 : Addr} {oc12 kV12 dc12 pm12 cd12 ct12 : Value} {od12 an12 : Option Addr} {sl12 : Array (Option Value)}
    {f13 : Addr} {oc13 kV13 dc13 pm13 cd13 ct13 : Value} {od13 an13 : Option Addr} {sl13 : Array (Option Value)}
    {f14 : Addr} {oc14 kV14 dc14 pm14 cd14 ct14 : Value} {od14 an14 : Option Addr} {sl14 : Array (Option Value)}
    {f15 : Addr} {oc15 kV15 dc15 pm15 cd15 ct15 : Value} {od15 an15 : Option Addr} {sl15 : Array (Option Value)}
    {f16 : Addr} {oc16 kV16 dc16 pm16 cd16 ct16 : Value} {od16 an16 : Option Addr} {sl16 : Array (Option Value)}
    {f17 : Addr} {oc17 kV17 dc17 pm17 cd17 ct17 : Value} {od17 an17 : Option Addr} {sl17 : Array (Option Value)}
    {f18 : Addr} {oc18 kV18 dc18 pm18 cd18 ct18 : Value} {od18 an18 : Option Addr} {sl18 : Array (Option Value)}
    {f19 : Addr} {oc19 kV19 dc19 pm19 cd19 ct19 : Value} {od19 an19 : Option Addr} {sl19 : Array (Option Value)}
    {f20 : Addr} {oc20 kV20 dc20 pm20 cd20 ct20 : Value} {od20 an20 : Option Addr} {sl20 : Array (Option Value)}
    {f21 : Addr} {oc21 kV21 dc21 pm21 cd21 ct21 : Value} {od21 an21 : Option Addr} {sl21 : Array (Option Value)}
    {f22 : Addr} {oc22 kV22 dc22 pm22 cd22 ct22 : Value} {od22 an22 : Option Addr} {sl22 : Array (Option Value)}
    {f23 : Addr} {oc23 kV23 dc23 pm23 cd23 ct23 : Value} {od23 an23 : Option Addr} {sl23 : Array (Option Value)}
    {f24 : Addr} {oc24 kV24 dc24 pm24 cd24 ct24 : Value} {od24 an24 : Option Addr} {sl24 : Array (Option Value)}
    {C0 g0 N0 : Addr} {nm0 qq0 : Str} {bs0 bm0 sub0 : List Value} {sn0 : List Str} {ab0 : Bool} {col0 : Option Bool} {dd0 : Option Addr} {k0x0 k1x0 k2x0 k3x0 k5x0 : Option Value} {ocN0 kVN0 dcN0 pmN0 cdN0 ctN0 : Value} {odN0 anN0 : Option Addr} {slN0 : Array (Option Value)}
    {C1 g1 N1 : Addr} {nm1 qq1 : Str} {bs1 bm1 sub1 : List Value} {sn1 : List Str} {ab1 : Bool} {col1 : Option Bool} {dd1 : Option Addr} {k0x1 k1x1 k2x1 k3x1 k5x1 : Option Value} {ocN1 kVN1 dcN1 pmN1 cdN1 ctN1 : Value} {odN1 anN1 : Option Addr} {slN1 : Array (Option Value)}
    {C2 g2 N2 : Addr} {nm2 qq2 : Str} {bs2 bm2 sub2 : List Value} {sn2 : List Str} {ab2 : Bool} {col2 : Option Bool} {dd2 : Option Addr} {k0x2 k1x2 k2x2 k3x2 k5x2 : Option Value} {ocN2 kVN2 dcN2 pmN2 cdN2 ctN2 : Value} {odN2 anN2 : Option Addr} {slN2 : Array (Option Value)}
    {C3 g3 N3 : Addr} {nm3 qq3 : Str} {bs3 bm3 sub3 : List Value} {sn3 : List Str} {ab3 : Bool} {col3 : Option Bool} {dd3 : Option Addr} {k0x3 k1x3 k2x3 k3x3 k5x3 : Option Value} {ocN3 kVN3 dcN3 pmN3 cdN3 ctN3 : Value} {odN3 anN3 : Option Addr} {slN3 : Array (Option Value)}
    {C4 g4 N4 : Addr} {nm4 qq4 : Str} {bs4 bm4 sub4 : List Value} {sn4 : List Str} {ab4 : Bool} {col4 : Option Bool} {dd4 : Option Addr} {k0x4 k1x4 k2x4 k3x4 k5x4 : Option Value} {ocN4 kVN4 dcN4 pmN4 cdN4 ctN4 : Value} {odN4 anN4 : Option Addr} {slN4 : Array (Option Value)}
    {C5 g5 N5 : Addr} {nm5 qq5 : Str} {bs5 bm5 sub5 : List Value} {sn5 : List Str} {ab5 : Bool} {col5 : Option Bool} {dd5 : Option Addr} {k0x5 k1x5 k2x5 k3x5 k5x5 : Option Value} {ocN5 kVN5 dcN5 pmN5 cdN5 ctN5 : Value} {odN5 anN5 : Option Addr} {slN5 : Array (Option Value)}
    {C6 g6 N6 : Addr} {nm6 qq6 : Str} {bs6 bm6 sub6 : List Value} {sn6 : List Str} {ab6 : Bool} {col6 : Option Bool} {dd6 : Option Addr} {k0x6 k1x6 k2x6 k3x6 k5x6 : Option Value} {ocN6 kVN6 dcN6 pmN6 cdN6 ctN6 : Value} {odN6 anN6 : Option Addr} {slN6 : Array (Option Value)}
    {C7 g7 N7 : Addr} {nm7 qq7 : Str} {bs7 bm7 sub7 : List Value} {sn7 : List Str} {ab7 : Bool} {col7 : Option Bool} {dd7 : Option Addr} {k0x7 k1x7 k2x7 k3x7 k5x7 : Option Value} {ocN7 kVN7 dcN7 pmN7 cdN7 ctN7 : Value} {odN7 anN7 : Option Addr} {slN7 : Array (Option Value)}
    {C8 g8 N8 : Addr} {nm8 qq8 : Str} {bs8 bm8 sub8 : List Value} {sn8 : List Str} {ab8 : Bool} {col8 : Option Bool} {dd8 : Option Addr} {k0x8 k1x8 k2x8 k3x8 k5x8 : Option Value} {ocN8 kVN8 dcN8 pmN8 cdN8 ctN8 : Value} {odN8 anN8 : Option Addr} {slN8 : Array (Option Value)}
    {C9 g9 N9 : Addr} {nm9 qq9 : Str} {bs9 bm9 sub9 : List Value} {sn9 : List Str} {ab9 : Bool} {col9 : Option Bool} {dd9 : Option Addr} {k0x9 k1x9 k2x9 k3x9 k5x9 : Option Value} {ocN9 kVN9 dcN9 pmN9 cdN9 ctN9 : Value} {odN9 anN9 : Option Addr} {slN9 : Array (Option Value)}
    {VE WA : Addr} {cdq : ClassData} {itz : Array Value} {nW : Nat} {slW : Array (Option Value)} {tD tL : Tok}
    (a0 : PySem.W.nsIn K mainGlobals "_law_take" = some (some (.ref f0))) (l0 : K.lookup f0 = some ⟨oc0, od0, .func (PySem.W.fnOf "_law_take" "_law_take" (defArgs sTake) (defBody sTake) (defScope sTake) .none kV0 dc0 pm0 an0 cd0 ct0), sl0⟩) (c0 : PySem.W.codeIn K cd0 "_law_take" = true) (k0 : PySem.W.keepIn K (.ref f0) = true)
    (a1 : PySem.W.nsIn K mainGlobals "_law_some" = some (some (.ref f1))) (l1 : K.lookup f1 = some ⟨oc1, od1, .func (PySem.W.fnOf "_law_some" "_law_some" (defArgs s_law_some) (defBody s_law_some) (defScope s_law_some) .none kV1 dc1 pm1 an1 cd1 ct1), sl1⟩) (c1 : PySem.W.codeIn K cd1 "_law_some" = true) (k1 : PySem.W.keepIn K (.ref f1) = true)
    (a2 : PySem.W.nsIn K mainGlobals "_law_alike" = some (some (.ref f2))) (l2 : K.lookup f2 = some ⟨oc2, od2, .func (PySem.W.fnOf "_law_alike" "_law_alike" (defArgs s_law_alike) (defBody s_law_alike) (defScope s_law_alike) .none kV2 dc2 pm2 an2 cd2 ct2), sl2⟩) (c2 : PySem.W.codeIn K cd2 "_law_alike" = true) (k2 : PySem.W.keepIn K (.ref f2) = true)
    (a3 : PySem.W.nsIn K mainGlobals "_law_barred" = some (some (.ref f3))) (l3 : K.lookup f3 = some ⟨oc3, od3, .func (PySem.W.fnOf "_law_barred" "_law_barred" (defArgs s_law_barred) (defBody s_law_barred) (defScope s_law_barred) .none kV3 dc3 pm3 an3 cd3 ct3), sl3⟩) (c3 : PySem.W.codeIn K cd3 "_law_barred" = true) (k3 : PySem.W.keepIn K (.ref f3) = true)
    (a4 : PySem.W.nsIn K mainGlobals "_law_odd" = some (some (.ref f4))) (l4 : K.lookup f4 = some ⟨oc4, od4, .func (PySem.W.fnOf "_law_odd" "_law_odd" (defArgs s_law_odd) (defBody s_law_odd) (defScope s_law_odd) .none kV4 dc4 pm4 an4 cd4 ct4), sl4⟩) (c4 : PySem.W.codeIn K cd4 "_law_odd" = true) (k4 : PySem.W.keepIn K (.ref f4) = true)
    (a5 : PySem.W.nsIn K mainGlobals "is_integer" = some (some (.ref f5))) (l5 : K.lookup f5 = some ⟨oc5, od5, .func (PySem.W.fnOf "is_integer" "is_integer" (defArgs sis_integer) (defBody sis_integer) (defScope sis_integer) .none kV5 dc5 pm5 an5 cd5 ct5), sl5⟩) (c5 : PySem.W.codeIn K cd5 "is_integer" = true) (k5 : PySem.W.keepIn K (.ref f5) = true)
    (a6 : PySem.W.nsIn K mainGlobals "_law_is_int" = some (some (.ref f6))) (l6 : K.lookup f6 = some ⟨oc6, od6, .func (PySem.W.fnOf "_law_is_int" "_law_is_int" (defArgs s_law_is_int) (defBody s_law_is_int) (defScope s_law_is_int) .none kV6 dc6 pm6 an6 cd6 ct6), sl6⟩) (c6 : PySem.W.codeIn K cd6 "_law_is_int" = true) (k6 : PySem.W.keepIn K (.ref f6) = true)
    (a7 : PySem.W.nsIn K mainGlobals "is_many" = some (some (.ref f7))) (l7 : K.lookup f7 = some ⟨oc7, od7, .func (PySem.W.fnOf "is_many" "is_many" (defArgs sis_many) (defBody sis_many) (defScope sis_many) .none kV7 dc7 pm7 an7 cd7 ct7), sl7⟩) (c7 : PySem.W.codeIn K cd7 "is_many" = true) (k7 : PySem.W.keepIn K (.ref f7) = true)
    (a8 : PySem.W.nsIn K mainGlobals "_law_is_from_one" = some (some (.ref f8))) (l8 : K.lookup f8 = some ⟨oc8, od8, .func (PySem.W.fnOf "_law_is_from_one" "_law_is_from_one" (defArgs s_law_is_from_one) (defBody s_law_is_from_one) (defScope s_law_is_from_one) .none kV8 dc8 pm8 an8 cd8 ct8), sl8⟩) (c8 : PySem.W.codeIn K cd8 "_law_is_from_one" = true) (k8 : PySem.W.keepIn K (.ref f8) = true)
    (a9 : PySem.W.nsIn K mainGlobals "is_tuple_of" = some (some (.ref f9))) (l9 : K.lookup f9 = some ⟨oc9, od9, .func (PySem.W.fnOf "is_tuple_of" "is_tuple_of" (defArgs sis_tuple_of) (defBody sis_tuple_of) (defScope sis_tuple_of) .none kV9 dc9 pm9 an9 cd9 ct9), sl9⟩) (c9 : PySem.W.codeIn K cd9 "is_tuple_of" = true) (k9 : PySem.W.keepIn K (.ref f9) = true)
    (a10 : PySem.W.nsIn K mainGlobals "is_name" = some (some (.ref f10))) (l10 : K.lookup f10 = some ⟨oc10, od10, .func (PySem.W.fnOf "is_name" "is_name" (defArgs sis_name) (defBody sis_name) (defScope sis_name) .none kV10 dc10 pm10 an10 cd10 ct10), sl10⟩) (c10 : PySem.W.codeIn K cd10 "is_name" = true) (k10 : PySem.W.keepIn K (.ref f10) = true)
    (a11 : PySem.W.nsIn K mainGlobals "_law_is_name" = some (some (.ref f11))) (l11 : K.lookup f11 = some ⟨oc11, od11, .func (PySem.W.fnOf "_law_is_name" "_law_is_name" (defArgs s_law_is_name) (defBody s_law_is_name) (defScope s_law_is_name) .none kV11 dc11 pm11 an11 cd11 ct11), sl11⟩) (c11 : PySem.W.codeIn K cd11 "_law_is_name" = true) (k11 : PySem.W.keepIn K (.ref f11) = true)
    (a12 : PySem.W.nsIn K mainGlobals "_law_is_headed" = some (some (.ref f12))) (l12 : K.lookup f12 = some ⟨oc12, od12, .func (PySem.W.fnOf "_law_is_headed" "_law_is_headed" (defArgs s_law_is_headed) (defBody s_law_is_headed) (defScope s_law_is_headed) .none kV12 dc12 pm12 an12 cd12 ct12), sl12⟩) (c12 : PySem.W.codeIn K cd12 "_law_is_headed" = true) (k12 : PySem.W.keepIn K (.ref f12) = true)
    (a13 : PySem.W.nsIn K mainGlobals "is_sort" = some (some (.ref f13))) (l13 : K.lookup f13 = some ⟨oc13, od13, .func (PySem.W.fnOf "is_sort" "is_sort" (defArgs sis_sort) (defBody sis_sort) (defScope sis_sort) .none kV13 dc13 pm13 an13 cd13 ct13), sl13⟩) (c13 : PySem.W.codeIn K cd13 "is_sort" = true) (k13 : PySem.W.keepIn K (.ref f13) = true)
    (a14 : PySem.W.nsIn K mainGlobals "_law_is_sort" = some (some (.ref f14))) (l14 : K.lookup f14 = some ⟨oc14, od14, .func (PySem.W.fnOf "_law_is_sort" "_law_is_sort" (defArgs s_law_is_sort) (defBody s_law_is_sort) (defScope s_law_is_sort) .none kV14 dc14 pm14 an14 cd14 ct14), sl14⟩) (c14 : PySem.W.codeIn K cd14 "_law_is_sort" = true) (k14 : PySem.W.keepIn K (.ref f14) = true)
    (a15 : PySem.W.nsIn K mainGlobals "is_way" = some (some (.ref f15))) (l15 : K.lookup f15 = some ⟨oc15, od15, .func (PySem.W.fnOf "is_way" "is_way" (defArgs sis_way) (defBody sis_way) (defScope sis_way) .none kV15 dc15 pm15 an15 cd15 ct15), sl15⟩) (c15 : PySem.W.codeIn K cd15 "is_way" = true) (k15 : PySem.W.keepIn K (.ref f15) = true)
    (a16 : PySem.W.nsIn K mainGlobals "_law_is_way" = some (some (.ref f16))) (l16 : K.lookup f16 = some ⟨oc16, od16, .func (PySem.W.fnOf "_law_is_way" "_law_is_way" (defArgs s_law_is_way) (defBody s_law_is_way) (defScope s_law_is_way) .none kV16 dc16 pm16 an16 cd16 ct16), sl16⟩) (c16 : PySem.W.codeIn K cd16 "_law_is_way" = true) (k16 : PySem.W.keepIn K (.ref f16) = true)
    (a17 : PySem.W.nsIn K mainGlobals "is_barred" = some (some (.ref f17))) (l17 : K.lookup f17 = some ⟨oc17, od17, .func (PySem.W.fnOf "is_barred" "is_barred" (defArgs sis_barred) (defBody sis_barred) (defScope sis_barred) .none kV17 dc17 pm17 an17 cd17 ct17), sl17⟩) (c17 : PySem.W.codeIn K cd17 "is_barred" = true) (k17 : PySem.W.keepIn K (.ref f17) = true)
    (a18 : PySem.W.nsIn K mainGlobals "_law_classes_of" = some (some (.ref f18))) (l18 : K.lookup f18 = some ⟨oc18, od18, .func (PySem.W.fnOf "_law_classes_of" "_law_classes_of" (defArgs s_law_classes_of) (defBody s_law_classes_of) (defScope s_law_classes_of) .none kV18 dc18 pm18 an18 cd18 ct18), sl18⟩) (c18 : PySem.W.codeIn K cd18 "_law_classes_of" = true) (k18 : PySem.W.keepIn K (.ref f18) = true)
    (a19 : PySem.W.nsIn K mainGlobals "_law_error_rows" = some (some (.ref f19))) (l19 : K.lookup f19 = some ⟨oc19, od19, .func (PySem.W.fnOf "_law_error_rows" "_law_error_rows" (defArgs s_law_error_rows) (defBody s_law_error_rows) (defScope s_law_error_rows) .none kV19 dc19 pm19 an19 cd19 ct19), sl19⟩) (c19 : PySem.W.codeIn K cd19 "_law_error_rows" = true) (k19 : PySem.W.keepIn K (.ref f19) = true)
    (a20 : PySem.W.nsIn K mainGlobals "_law_are_errors_right" = some (some (.ref f20))) (l20 : K.lookup f20 = some ⟨oc20, od20, .func (PySem.W.fnOf "_law_are_errors_right" "_law_are_errors_right" (defArgs s_law_are_errors_right) (defBody s_law_are_errors_right) (defScope s_law_are_errors_right) .none kV20 dc20 pm20 an20 cd20 ct20), sl20⟩) (c20 : PySem.W.codeIn K cd20 "_law_are_errors_right" = true) (k20 : PySem.W.keepIn K (.ref f20) = true)
    (a21 : PySem.W.nsIn K mainGlobals "_law_small_things" = some (some (.ref f21))) (l21 : K.lookup f21 = some ⟨oc21, od21, .func (PySem.W.fnOf "_law_small_things" "_law_small_things" (defArgs s_law_small_things) (defBody s_law_small_things) (defScope s_law_small_things) .none kV21 dc21 pm21 an21 cd21 ct21), sl21⟩) (c21 : PySem.W.codeIn K cd21 "_law_small_things" = true) (k21 : PySem.W.keepIn K (.ref f21) = true)
    (a22 : PySem.W.nsIn K mainGlobals "_law_bent" = some (some (.ref f22))) (l22 : K.lookup f22 = some ⟨oc22, od22, .func (PySem.W.fnOf "_law_bent" "_law_bent" (defArgs s_law_bent) (defBody s_law_bent) (defScope s_law_bent) .none kV22 dc22 pm22 an22 cd22 ct22), sl22⟩) (c22 : PySem.W.codeIn K cd22 "_law_bent" = true) (k22 : PySem.W.keepIn K (.ref f22) = true)
    (a23 : PySem.W.nsIn K mainGlobals "_law_bag" = some (some (.ref f23))) (l23 : K.lookup f23 = some ⟨oc23, od23, .func (PySem.W.fnOf "_law_bag" "_law_bag" (defArgs s_law_bag) (defBody s_law_bag) (defScope s_law_bag) .none kV23 dc23 pm23 an23 cd23 ct23), sl23⟩) (c23 : PySem.W.codeIn K cd23 "_law_bag" = true) (k23 : PySem.W.keepIn K (.ref f23) = true)
    (a24 : PySem.W.nsIn K mainGlobals "law" = some (some (.ref f24))) (l24 : K.lookup f24 = some ⟨oc24, od24, .func (PySem.W.fnOf "law" "law" (defArgs slaw) (defBody slaw) (defScope slaw) .none kV24 dc24 pm24 an24 cd24 ct24), sl24⟩) (c24 : PySem.W.codeIn K cd24 "law" = true) (k24 : PySem.W.keepIn K (.ref f24) = true)
    (va : PySem.W.nsIn K mainGlobals "VersionError" = some (some (.ref VE)))
    (vd : PySem.W.hasDictIn K VE = true)
    (vt : PySem.W.typeIn K (.ref VE) = some (.type "type"))
    (eC0 : PySem.W.nsIn K mainGlobals "IsHome" = some (some (.ref C0)))
    (eL0 : K.lookup C0 = some (excClassObj nm0 qq0 C0 N0 bs0 bm0 true sn0 sub0 ab0 col0 dd0 k0x0 k1x0 k2x0 k3x0 k5x0 "ValueError.__new__"))
    (eS0 : PySem.W.findIn K (.ref C0) "__setattr__" = some (some (.builtin "object.__setattr__")))
    (eB0 : PySem.W.subIn K (.ref C0) (.type "BaseException") = some true)
    (eT0 : PySem.W.typeIn K (.ref C0) = some (.type "type"))
    (eK0 : PySem.W.keepIn K (.ref C0) = true)
    (eI0 : PySem.W.findIn K (.ref C0) "__init__" = some (some (.ref g0)))
    (eF0 : PySem.W.typeIn K (.ref g0) = some (.type "function"))
    (eN0 : K.lookup g0 = some ⟨ocN0, odN0, .func (PySem.W.fnOf "__init__" "IsHome.__init__" (defArgs sIIsHome) (defBody sIIsHome) (defScope sIIsHome) .none kVN0 dcN0 pmN0 anN0 cdN0 ctN0), slN0⟩)
    (eD0 : PySem.W.codeIn K cdN0 "IsHome.__init__" = true)
    (eP0 : PySem.W.keepIn K (.ref g0) = true)
    (eg0 : PySem.W.findIn K (.ref C0) "__getattribute__" = some (some (.builtin "BaseException.__getattribute__")))
    (ek0 : PySem.W.findIn K (.ref C0) "__getattr__" = some none)
    (ed0 : PySem.W.hasDictIn K C0 = true)
    (ea0 : PySem.W.findIn K (.ref C0) "__class__" = some (some (.builtin "object.__class__")))
    (em0 : PySem.W.mroIn K C0 (.type "object") = some true)
    (eV0 : PySem.W.subIn K (.ref C0) (.ref VE) = some true)
    (eW0 : PySem.W.subIn K (.ref C0) (.type "ValueError") = some true)
    (eY0version : PySem.W.findIn K (.ref C0) "version" = some none)
    (eC1 : PySem.W.nsIn K mainGlobals "NoCommand" = some (some (.ref C1)))
    (eL1 : K.lookup C1 = some (excClassObj nm1 qq1 C1 N1 bs1 bm1 true sn1 sub1 ab1 col1 dd1 k0x1 k1x1 k2x1 k3x1 k5x1 "ValueError.__new__"))
    (eS1 : PySem.W.findIn K (.ref C1) "__setattr__" = some (some (.builtin "object.__setattr__")))
    (eB1 : PySem.W.subIn K (.ref C1) (.type "BaseException") = some true)
    (eT1 : PySem.W.typeIn K (.ref C1) = some (.type "type"))
    (eK1 : PySem.W.keepIn K (.ref C1) = true)
    (eI1 : PySem.W.findIn K (.ref C1) "__init__" = some (some (.ref g1)))
    (eF1 : PySem.W.typeIn K (.ref g1) = some (.type "function"))
    (eN1 : K.lookup g1 = some ⟨ocN1, odN1, .func (PySem.W.fnOf "__init__" "NoCommand.__init__" (defArgs sINoCommand) (defBody sINoCommand) (defScope sINoCommand) .none kVN1 dcN1 pmN1 anN1 cdN1 ctN1), slN1⟩)
    (eD1 : PySem.W.codeIn K cdN1 "NoCommand.__init__" = true)
    (eP1 : PySem.W.keepIn K (.ref g1) = true)
    (eg1 : PySem.W.findIn K (.ref C1) "__getattribute__" = some (some (.builtin "BaseException.__getattribute__")))
    (ek1 : PySem.W.findIn K (.ref C1) "__getattr__" = some none)
    (ed1 : PySem.W.hasDictIn K C1 = true)
    (ea1 : PySem.W.findIn K (.ref C1) "__class__" = some (some (.builtin "object.__class__")))
    (em1 : PySem.W.mroIn K C1 (.type "object") = some true)
    (eV1 : PySem.W.subIn K (.ref C1) (.ref VE) = some true)
    (eW1 : PySem.W.subIn K (.ref C1) (.type "ValueError") = some true)
    (eC2 : PySem.W.nsIn K mainGlobals "NoPiece" = some (some (.ref C2)))
    (eL2 : K.lookup C2 = some (excClassObj nm2 qq2 C2 N2 bs2 bm2 true sn2 sub2 ab2 col2 dd2 k0x2 k1x2 k2x2 k3x2 k5x2 "ValueError.__new__"))
    (eS2 : PySem.W.findIn K (.ref C2) "__setattr__" = some (some (.builtin "object.__setattr__")))
    (eB2 : PySem.W.subIn K (.ref C2) (.type "BaseException") = some true)
    (eT2 : PySem.W.typeIn K (.ref C2) = some (.type "type"))
    (eK2 : PySem.W.keepIn K (.ref C2) = true)
    (eI2 : PySem.W.findIn K (.ref C2) "__init__" = some (some (.ref g2)))
    (eF2 : PySem.W.typeIn K (.ref g2) = some (.type "function"))
    (eN2 : K.lookup g2 = some ⟨ocN2, odN2, .func (PySem.W.fnOf "__init__" "NoPiece.__init__" (defArgs sINoPiece) (defBody sINoPiece) (defScope sINoPiece) .none kVN2 dcN2 pmN2 anN2 cdN2 ctN2), slN2⟩)
    (eD2 : PySem.W.codeIn K cdN2 "NoPiece.__init__" = true)
    (eP2 : PySem.W.keepIn K (.ref g2) = true)
    (eg2 : PySem.W.findIn K (.ref C2) "__getattribute__" = some (some (.builtin "BaseException.__getattribute__")))
    (ek2 : PySem.W.findIn K (.ref C2) "__getattr__" = some none)
    (ed2 : PySem.W.hasDictIn K C2 = true)
    (ea2 : PySem.W.findIn K (.ref C2) "__class__" = some (some (.builtin "object.__class__")))
    (em2 : PySem.W.mroIn K C2 (.type "object") = some true)
    (eV2 : PySem.W.subIn K (.ref C2) (.ref VE) = some true)
    (eW2 : PySem.W.subIn K (.ref C2) (.type "ValueError") = some true)
    (eY2piece : PySem.W.findIn K (.ref C2) "piece" = some none)
    (eC3 : PySem.W.nsIn K mainGlobals "NoText" = some (some (.ref C3)))
    (eL3 : K.lookup C3 = some (excClassObj nm3 qq3 C3 N3 bs3 bm3 true sn3 sub3 ab3 col3 dd3 k0x3 k1x3 k2x3 k3x3 k5x3 "ValueError.__new__"))
    (eS3 : PySem.W.findIn K (.ref C3) "__setattr__" = some (some (.builtin "object.__setattr__")))
    (eB3 : PySem.W.subIn K (.ref C3) (.type "BaseException") = some true)
    (eT3 : PySem.W.typeIn K (.ref C3) = some (.type "type"))
    (eK3 : PySem.W.keepIn K (.ref C3) = true)
    (eI3 : PySem.W.findIn K (.ref C3) "__init__" = some (some (.ref g3)))
    (eF3 : PySem.W.typeIn K (.ref g3) = some (.type "function"))
    (eN3 : K.lookup g3 = some ⟨ocN3, odN3, .func (PySem.W.fnOf "__init__" "NoText.__init__" (defArgs sINoText) (defBody sINoText) (defScope sINoText) .none kVN3 dcN3 pmN3 anN3 cdN3 ctN3), slN3⟩)
    (eD3 : PySem.W.codeIn K cdN3 "NoText.__init__" = true)
    (eP3 : PySem.W.keepIn K (.ref g3) = true)
    (eg3 : PySem.W.findIn K (.ref C3) "__getattribute__" = some (some (.builtin "BaseException.__getattribute__")))
    (ek3 : PySem.W.findIn K (.ref C3) "__getattr__" = some none)
    (ed3 : PySem.W.hasDictIn K C3 = true)
    (ea3 : PySem.W.findIn K (.ref C3) "__class__" = some (some (.builtin "object.__class__")))
    (em3 : PySem.W.mroIn K C3 (.type "object") = some true)
    (eV3 : PySem.W.subIn K (.ref C3) (.ref VE) = some true)
    (eW3 : PySem.W.subIn K (.ref C3) (.type "ValueError") = some true)
    (eY3line : PySem.W.findIn K (.ref C3) "line" = some none)
    (eC4 : PySem.W.nsIn K mainGlobals "NotEnd" = some (some (.ref C4)))
    (eL4 : K.lookup C4 = some (excClassObj nm4 qq4 C4 N4 bs4 bm4 true sn4 sub4 ab4 col4 dd4 k0x4 k1x4 k2x4 k3x4 k5x4 "ValueError.__new__"))
    (eS4 : PySem.W.findIn K (.ref C4) "__setattr__" = some (some (.builtin "object.__setattr__")))
    (eB4 : PySem.W.subIn K (.ref C4) (.type "BaseException") = some true)
    (eT4 : PySem.W.typeIn K (.ref C4) = some (.type "type"))
    (eK4 : PySem.W.keepIn K (.ref C4) = true)
    (eI4 : PySem.W.findIn K (.ref C4) "__init__" = some (some (.ref g4)))
    (eF4 : PySem.W.typeIn K (.ref g4) = some (.type "function"))
    (eN4 : K.lookup g4 = some ⟨ocN4, odN4, .func (PySem.W.fnOf "__init__" "NotEnd.__init__" (defArgs sINotEnd) (defBody sINotEnd) (defScope sINotEnd) .none kVN4 dcN4 pmN4 anN4 cdN4 ctN4), slN4⟩)
    (eD4 : PySem.W.codeIn K cdN4 "NotEnd.__init__" = true)
    (eP4 : PySem.W.keepIn K (.ref g4) = true)
    (eg4 : PySem.W.findIn K (.ref C4) "__getattribute__" = some (some (.builtin "BaseException.__getattribute__")))
    (ek4 : PySem.W.findIn K (.ref C4) "__getattr__" = some none)
    (ed4 : PySem.W.hasDictIn K C4 = true)
    (ea4 : PySem.W.findIn K (.ref C4) "__class__" = some (some (.builtin "object.__class__")))
    (em4 : PySem.W.mroIn K C4 (.type "object") = some true)
    (eV4 : PySem.W.subIn K (.ref C4) (.ref VE) = some true)
    (eW4 : PySem.W.subIn K (.ref C4) (.type "ValueError") = some true)
    (eY4version : PySem.W.findIn K (.ref C4) "version" = some none)
    (eC5 : PySem.W.nsIn K mainGlobals "NotMoved" = some (some (.ref C5)))
    (eL5 : K.lookup C5 = some (excClassObj nm5 qq5 C5 N5 bs5 bm5 true sn5 sub5 ab5 col5 dd5 k0x5 k1x5 k2x5 k3x5 k5x5 "ValueError.__new__"))
    (eS5 : PySem.W.findIn K (.ref C5) "__setattr__" = some (some (.builtin "object.__setattr__")))
    (eB5 : PySem.W.subIn K (.ref C5) (.type "BaseException") = some true)
    (eT5 : PySem.W.typeIn K (.ref C5) = some (.type "type"))
    (eK5 : PySem.W.keepIn K (.ref C5) = true)
    (eI5 : PySem.W.findIn K (.ref C5) "__init__" = some (some (.ref g5)))
    (eF5 : PySem.W.typeIn K (.ref g5) = some (.type "function"))
    (eN5 : K.lookup g5 = some ⟨ocN5, odN5, .func (PySem.W.fnOf "__init__" "NotMoved.__init__" (defArgs sINotMoved) (defBody sINotMoved) (defScope sINotMoved) .none kVN5 dcN5 pmN5 anN5 cdN5 ctN5), slN5⟩)
    (eD5 : PySem.W.codeIn K cdN5 "NotMoved.__init__" = true)
    (eP5 : PySem.W.keepIn K (.ref g5) = true)
    (eg5 : PySem.W.findIn K (.ref C5) "__getattribute__" = some (some (.builtin "BaseException.__getattribute__")))
    (ek5 : PySem.W.findIn K (.ref C5) "__getattr__" = some none)
    (ed5 : PySem.W.hasDictIn K C5 = true)
    (ea5 : PySem.W.findIn K (.ref C5) "__class__" = some (some (.builtin "object.__class__")))
    (em5 : PySem.W.mroIn K C5 (.type "object") = some true)
    (eV5 : PySem.W.subIn K (.ref C5) (.ref VE) = some true)
    (eW5 : PySem.W.subIn K (.ref C5) (.type "ValueError") = some true)
    (eY5piece : PySem.W.findIn K (.ref C5) "piece" = some none)
    (eC6 : PySem.W.nsIn K mainGlobals "NotNeighbour" = some (some (.ref C6)))
    (eL6 : K.lookup C6 = some (excClassObj nm6 qq6 C6 N6 bs6 bm6 true sn6 sub6 ab6 col6 dd6 k0x6 k1x6 k2x6 k3x6 k5x6 "ValueError.__new__"))
    (eS6 : PySem.W.findIn K (.ref C6) "__setattr__" = some (some (.builtin "object.__setattr__")))
    (eB6 : PySem.W.subIn K (.ref C6) (.type "BaseException") = some true)
    (eT6 : PySem.W.typeIn K (.ref C6) = some (.type "type"))
    (eK6 : PySem.W.keepIn K (.ref C6) = true)
    (eI6 : PySem.W.findIn K (.ref C6) "__init__" = some (some (.ref g6)))
    (eF6 : PySem.W.typeIn K (.ref g6) = some (.type "function"))
    (eN6 : K.lookup g6 = some ⟨ocN6, odN6, .func (PySem.W.fnOf "__init__" "NotNeighbour.__init__" (defArgs sINotNeighbour) (defBody sINotNeighbour) (defScope sINotNeighbour) .none kVN6 dcN6 pmN6 anN6 cdN6 ctN6), slN6⟩)
    (eD6 : PySem.W.codeIn K cdN6 "NotNeighbour.__init__" = true)
    (eP6 : PySem.W.keepIn K (.ref g6) = true)
    (eg6 : PySem.W.findIn K (.ref C6) "__getattribute__" = some (some (.builtin "BaseException.__getattribute__")))
    (ek6 : PySem.W.findIn K (.ref C6) "__getattr__" = some none)
    (ed6 : PySem.W.hasDictIn K C6 = true)
    (ea6 : PySem.W.findIn K (.ref C6) "__class__" = some (some (.builtin "object.__class__")))
    (em6 : PySem.W.mroIn K C6 (.type "object") = some true)
    (eV6 : PySem.W.subIn K (.ref C6) (.ref VE) = some true)
    (eW6 : PySem.W.subIn K (.ref C6) (.type "ValueError") = some true)
    (eY6version : PySem.W.findIn K (.ref C6) "version" = some none)
    (eC7 : PySem.W.nsIn K mainGlobals "NotTaken" = some (some (.ref C7)))
    (eL7 : K.lookup C7 = some (excClassObj nm7 qq7 C7 N7 bs7 bm7 true sn7 sub7 ab7 col7 dd7 k0x7 k1x7 k2x7 k3x7 k5x7 "ValueError.__new__"))
    (eS7 : PySem.W.findIn K (.ref C7) "__setattr__" = some (some (.builtin "object.__setattr__")))
    (eB7 : PySem.W.subIn K (.ref C7) (.type "BaseException") = some true)
    (eT7 : PySem.W.typeIn K (.ref C7) = some (.type "type"))
    (eK7 : PySem.W.keepIn K (.ref C7) = true)
    (eI7 : PySem.W.findIn K (.ref C7) "__init__" = some (some (.ref g7)))
    (eF7 : PySem.W.typeIn K (.ref g7) = some (.type "function"))
    (eN7 : K.lookup g7 = some ⟨ocN7, odN7, .func (PySem.W.fnOf "__init__" "NotTaken.__init__" (defArgs sINotTaken) (defBody sINotTaken) (defScope sINotTaken) .none kVN7 dcN7 pmN7 anN7 cdN7 ctN7), slN7⟩)
    (eD7 : PySem.W.codeIn K cdN7 "NotTaken.__init__" = true)
    (eP7 : PySem.W.keepIn K (.ref g7) = true)
    (eg7 : PySem.W.findIn K (.ref C7) "__getattribute__" = some (some (.builtin "BaseException.__getattribute__")))
    (ek7 : PySem.W.findIn K (.ref C7) "__getattr__" = some none)
    (ed7 : PySem.W.hasDictIn K C7 = true)
    (ea7 : PySem.W.findIn K (.ref C7) "__class__" = some (some (.builtin "object.__class__")))
    (em7 : PySem.W.mroIn K C7 (.type "object") = some true)
    (eV7 : PySem.W.subIn K (.ref C7) (.ref VE) = some true)
    (eW7 : PySem.W.subIn K (.ref C7) (.type "ValueError") = some true)
    (eY7word : PySem.W.findIn K (.ref C7) "word" = some none)
    (eY7things : PySem.W.findIn K (.ref C7) "things" = some none)
    (eC8 : PySem.W.nsIn K mainGlobals "Refused" = some (some (.ref C8)))
    (eL8 : K.lookup C8 = some (excClassObj nm8 qq8 C8 N8 bs8 bm8 true sn8 sub8 ab8 col8 dd8 k0x8 k1x8 k2x8 k3x8 k5x8 "ValueError.__new__"))
    (eS8 : PySem.W.findIn K (.ref C8) "__setattr__" = some (some (.builtin "object.__setattr__")))
    (eB8 : PySem.W.subIn K (.ref C8) (.type "BaseException") = some true)
    (eT8 : PySem.W.typeIn K (.ref C8) = some (.type "type"))
    (eK8 : PySem.W.keepIn K (.ref C8) = true)
    (eI8 : PySem.W.findIn K (.ref C8) "__init__" = some (some (.ref g8)))
    (eF8 : PySem.W.typeIn K (.ref g8) = some (.type "function"))
    (eN8 : K.lookup g8 = some ⟨ocN8, odN8, .func (PySem.W.fnOf "__init__" "Refused.__init__" (defArgs sIRefused) (defBody sIRefused) (defScope sIRefused) .none kVN8 dcN8 pmN8 anN8 cdN8 ctN8), slN8⟩)
    (eD8 : PySem.W.codeIn K cdN8 "Refused.__init__" = true)
    (eP8 : PySem.W.keepIn K (.ref g8) = true)
    (eg8 : PySem.W.findIn K (.ref C8) "__getattribute__" = some (some (.builtin "BaseException.__getattribute__")))
    (ek8 : PySem.W.findIn K (.ref C8) "__getattr__" = some none)
    (ed8 : PySem.W.hasDictIn K C8 = true)
    (ea8 : PySem.W.findIn K (.ref C8) "__class__" = some (some (.builtin "object.__class__")))
    (em8 : PySem.W.mroIn K C8 (.type "object") = some true)
    (eV8 : PySem.W.subIn K (.ref C8) (.ref VE) = some true)
    (eW8 : PySem.W.subIn K (.ref C8) (.type "ValueError") = some true)
    (eY8index : PySem.W.findIn K (.ref C8) "index" = some none)
    (eY8reason : PySem.W.findIn K (.ref C8) "reason" = some none)
    (eC9 : PySem.W.nsIn K mainGlobals "Wrong" = some (some (.ref C9)))
    (eL9 : K.lookup C9 = some (excClassObj nm9 qq9 C9 N9 bs9 bm9 true sn9 sub9 ab9 col9 dd9 k0x9 k1x9 k2x9 k3x9 k5x9 "ValueError.__new__"))
    (eS9 : PySem.W.findIn K (.ref C9) "__setattr__" = some (some (.builtin "object.__setattr__")))
    (eB9 : PySem.W.subIn K (.ref C9) (.type "BaseException") = some true)
    (eT9 : PySem.W.typeIn K (.ref C9) = some (.type "type"))
    (eK9 : PySem.W.keepIn K (.ref C9) = true)
    (eI9 : PySem.W.findIn K (.ref C9) "__init__" = some (some (.ref g9)))
    (eF9 : PySem.W.typeIn K (.ref g9) = some (.type "function"))
    (eN9 : K.lookup g9 = some ⟨ocN9, odN9, .func (PySem.W.fnOf "__init__" "Wrong.__init__" (defArgs sIWrong) (defBody sIWrong) (defScope sIWrong) .none kVN9 dcN9 pmN9 anN9 cdN9 ctN9), slN9⟩)
    (eD9 : PySem.W.codeIn K cdN9 "Wrong.__init__" = true)
    (eP9 : PySem.W.keepIn K (.ref g9) = true)
    (eg9 : PySem.W.findIn K (.ref C9) "__getattribute__" = some (some (.builtin "BaseException.__getattribute__")))
    (ek9 : PySem.W.findIn K (.ref C9) "__getattr__" = some none)
    (ed9 : PySem.W.hasDictIn K C9 = true)
    (ea9 : PySem.W.findIn K (.ref C9) "__class__" = some (some (.builtin "object.__class__")))
    (em9 : PySem.W.mroIn K C9 (.type "object") = some true)
    (eV9 : PySem.W.subIn K (.ref C9) (.ref VE) = some true)
    (eW9 : PySem.W.subIn K (.ref C9) (.type "ValueError") = some true)
    (eY9place : PySem.W.findIn K (.ref C9) "place" = some none)
    (s0_0 : PySem.W.subIn K (.ref C0) (.ref C0) = some true)
    (s0_1 : PySem.W.subIn K (.ref C0) (.ref C1) = some false)
    (s0_2 : PySem.W.subIn K (.ref C0) (.ref C2) = some false)
    (s0_3 : PySem.W.subIn K (.ref C0) (.ref C3) = some false)
    (s0_4 : PySem.W.subIn K (.ref C0) (.ref C4) = some false)
    (s0_5 : PySem.W.subIn K (.ref C0) (.ref C5) = some false)
    (s0_6 : PySem.W.subIn K (.ref C0) (.ref C6) = some false)
    (s0_7 : PySem.W.subIn K (.ref C0) (.ref C7) = some false)
    (s0_8 : PySem.W.subIn K (.ref C0) (.ref C8) = some false)
    (s0_9 : PySem.W.subIn K (.ref C0) (.ref C9) = some false)
    (s1_0 : PySem.W.subIn K (.ref C1) (.ref C0) = some false)
    (s1_1 : PySem.W.subIn K (.ref C1) (.ref C1) = some true)
    (s1_2 : PySem.W.subIn K (.ref C1) (.ref C2) = some false)
    (s1_3 : PySem.W.subIn K (.ref C1) (.ref C3) = some false)
    (s1_4 : PySem.W.subIn K (.ref C1) (.ref C4) = some false)
    (s1_5 : PySem.W.subIn K (.ref C1) (.ref C5) = some false)
    (s1_6 : PySem.W.subIn K (.ref C1) (.ref C6) = some false)
    (s1_7 : PySem.W.subIn K (.ref C1) (.ref C7) = some false)
    (s1_8 : PySem.W.subIn K (.ref C1) (.ref C8) = some false)
    (s1_9 : PySem.W.subIn K (.ref C1) (.ref C9) = some false)
    (s2_0 : PySem.W.subIn K (.ref C2) (.ref C0) = some false)
    (s2_1 : PySem.W.subIn K (.ref C2) (.ref C1) = some false)
    (s2_2 : PySem.W.subIn K (.ref C2) (.ref C2) = some true)
    (s2_3 : PySem.W.subIn K (.ref C2) (.ref C3) = some false)
    (s2_4 : PySem.W.subIn K (.ref C2) (.ref C4) = some false)
    (s2_5 : PySem.W.subIn K (.ref C2) (.ref C5) = some false)
    (s2_6 : PySem.W.subIn K (.ref C2) (.ref C6) = some false)
    (s2_7 : PySem.W.subIn K (.ref C2) (.ref C7) = some false)
    (s2_8 : PySem.W.subIn K (.ref C2) (.ref C8) = some false)
    (s2_9 : PySem.W.subIn K (.ref C2) (.ref C9) = some false)
    (s3_0 : PySem.W.subIn K (.ref C3) (.ref C0) = some false)
    (s3_1 : PySem.W.subIn K (.ref C3) (.ref C1) = some false)
    (s3_2 : PySem.W.subIn K (.ref C3) (.ref C2) = some false)
    (s3_3 : PySem.W.subIn K (.ref C3) (.ref C3) = some true)
    (s3_4 : PySem.W.subIn K (.ref C3) (.ref C4) = some false)
    (s3_5 : PySem.W.subIn K (.ref C3) (.ref C5) = some false)
    (s3_6 : PySem.W.subIn K (.ref C3) (.ref C6) = some false)
    (s3_7 : PySem.W.subIn K (.ref C3) (.ref C7) = some false)
    (s3_8 : PySem.W.subIn K (.ref C3) (.ref C8) = some false)
    (s3_9 : PySem.W.subIn K (.ref C3) (.ref C9) = some false)
    (s4_0 : PySem.W.subIn K (.ref C4) (.ref C0) = some false)
    (s4_1 : PySem.W.subIn K (.ref C4) (.ref C1) = some false)
    (s4_2 : PySem.W.subIn K (.ref C4) (.ref C2) = some false)
    (s4_3 : PySem.W.subIn K (.ref C4) (.ref C3) = some false)
    (s4_4 : PySem.W.subIn K (.ref C4) (.ref C4) = some true)
    (s4_5 : PySem.W.subIn K (.ref C4) (.ref C5) = some false)
    (s4_6 : PySem.W.subIn K (.ref C4) (.ref C6) = some false)
    (s4_7 : PySem.W.subIn K (.ref C4) (.ref C7) = some false)
    (s4_8 : PySem.W.subIn K (.ref C4) (.ref C8) = some false)
    (s4_9 : PySem.W.subIn K (.ref C4) (.ref C9) = some false)
    (s5_0 : PySem.W.subIn K (.ref C5) (.ref C0) = some false)
    (s5_1 : PySem.W.subIn K (.ref C5) (.ref C1) = some false)
    (s5_2 : PySem.W.subIn K (.ref C5) (.ref C2) = some false)
    (s5_3 : PySem.W.subIn K (.ref C5) (.ref C3) = some false)
    (s5_4 : PySem.W.subIn K (.ref C5) (.ref C4) = some false)
    (s5_5 : PySem.W.subIn K (.ref C5) (.ref C5) = some true)
    (s5_6 : PySem.W.subIn K (.ref C5) (.ref C6) = some false)
    (s5_7 : PySem.W.subIn K (.ref C5) (.ref C7) = some false)
    (s5_8 : PySem.W.subIn K (.ref C5) (.ref C8) = some false)
    (s5_9 : PySem.W.subIn K (.ref C5) (.ref C9) = some false)
    (s6_0 : PySem.W.subIn K (.ref C6) (.ref C0) = some false)
    (s6_1 : PySem.W.subIn K (.ref C6) (.ref C1) = some false)
    (s6_2 : PySem.W.subIn K (.ref C6) (.ref C2) = some false)
    (s6_3 : PySem.W.subIn K (.ref C6) (.ref C3) = some false)
    (s6_4 : PySem.W.subIn K (.ref C6) (.ref C4) = some false)
    (s6_5 : PySem.W.subIn K (.ref C6) (.ref C5) = some false)
    (s6_6 : PySem.W.subIn K (.ref C6) (.ref C6) = some true)
    (s6_7 : PySem.W.subIn K (.ref C6) (.ref C7) = some false)
    (s6_8 : PySem.W.subIn K (.ref C6) (.ref C8) = some false)
    (s6_9 : PySem.W.subIn K (.ref C6) (.ref C9) = some false)
    (s7_0 : PySem.W.subIn K (.ref C7) (.ref C0) = some false)
    (s7_1 : PySem.W.subIn K (.ref C7) (.ref C1) = some false)
    (s7_2 : PySem.W.subIn K (.ref C7) (.ref C2) = some false)
    (s7_3 : PySem.W.subIn K (.ref C7) (.ref C3) = some false)
    (s7_4 : PySem.W.subIn K (.ref C7) (.ref C4) = some false)
    (s7_5 : PySem.W.subIn K (.ref C7) (.ref C5) = some false)
    (s7_6 : PySem.W.subIn K (.ref C7) (.ref C6) = some false)
    (s7_7 : PySem.W.subIn K (.ref C7) (.ref C7) = some true)
    (s7_8 : PySem.W.subIn K (.ref C7) (.ref C8) = some false)
    (s7_9 : PySem.W.subIn K (.ref C7) (.ref C9) = some false)
    (s8_0 : PySem.W.subIn K (.ref C8) (.ref C0) = some false)
    (s8_1 : PySem.W.subIn K (.ref C8) (.ref C1) = some false)
    (s8_2 : PySem.W.subIn K (.ref C8) (.ref C2) = some false)
    (s8_3 : PySem.W.subIn K (.ref C8) (.ref C3) = some false)
    (s8_4 : PySem.W.subIn K (.ref C8) (.ref C4) = some false)
    (s8_5 : PySem.W.subIn K (.ref C8) (.ref C5) = some false)
    (s8_6 : PySem.W.subIn K (.ref C8) (.ref C6) = some false)
    (s8_7 : PySem.W.subIn K (.ref C8) (.ref C7) = some false)
    (s8_8 : PySem.W.subIn K (.ref C8) (.ref C8) = some true)
    (s8_9 : PySem.W.subIn K (.ref C8) (.ref C9) = some false)
    (s9_0 : PySem.W.subIn K (.ref C9) (.ref C0) = some false)
    (s9_1 : PySem.W.subIn K (.ref C9) (.ref C1) = some false)
    (s9_2 : PySem.W.subIn K (.ref C9) (.ref C2) = some false)
    (s9_3 : PySem.W.subIn K (.ref C9) (.ref C3) = some false)
    (s9_4 : PySem.W.subIn K (.ref C9) (.ref C4) = some false)
    (s9_5 : PySem.W.subIn K (.ref C9) (.ref C5) = some false)
    (s9_6 : PySem.W.subIn K (.ref C9) (.ref C6) = some false)
    (s9_7 : PySem.W.subIn K (.ref C9) (.ref C7) = some false)
    (s9_8 : PySem.W.subIn K (.ref C9) (.ref C8) = some false)
    (s9_9 : PySem.W.subIn K (.ref C9) (.ref C9) = some true)
    (en : PySem.W.specialIn K (.builtin "object.__class__") "__get__" = some (some (.builtin "getset_descriptor.__get__")))
    (et : PySem.W.takesIn K (.builtin "object.__class__") = some true)
    (xint : PySem.W.subIn K (.ref C1) (.type "int") = some false)
    (xbool : PySem.W.subIn K (.ref C1) (.type "bool") = some false)
    (xstr : PySem.W.subIn K (.ref C1) (.type "str") = some false)
    (xlist : PySem.W.subIn K (.ref C1) (.type "list") = some false)
    (xtuple : PySem.W.subIn K (.ref C1) (.type "tuple") = some false)
    (xdict : PySem.W.subIn K (.ref C1) (.type "dict") = some false)
    (rp : PySem.W.findIn K (.ref C1) "__repr__" = some (some (.builtin "BaseException.__repr__")))
    (cdx : PySem.W.clsIn K C1 = some cdq)
    (wa : PySem.W.nsIn K mainGlobals "WORDS" = some (some (.ref WA)))
    (wl : K.lookup WA = some ⟨.type "tuple", none, .seq itz nW, slW⟩)
    (cD : PySem.W.nsIn K mainGlobals "DIGITS" = some (some (.str "0123456789" tD)))
    (cL : PySem.W.nsIn K mainGlobals "LETTERS" = some (some (.str "abcdefghijklmnopqrstuvwxyz" tL)))
    (r0 : PySem.HandSPX.refsVE bm0 = true)
    (r1 : PySem.HandSPX.refsVE bm1 = true)
    (r2 : PySem.HandSPX.refsVE bm2 = true)
    (r3 : PySem.HandSPX.refsVE bm3 = true)
    (r4 : PySem.HandSPX.refsVE bm4 = true)
    (r5 : PySem.HandSPX.refsVE bm5 = true)
    (r6 : PySem.HandSPX.refsVE bm6 = true)
    (r7 : PySem.HandSPX.refsVE bm7 = true)
    (r8 : PySem.HandSPX.refsVE bm8 = true)
    (r9 : PySem.HandSPX.refsVE bm9 = true)
    (tx : errTxt cdq = "NoCommand()")
    (ws : itz.size ≤ 1000)
    (wv : itz.toList.map sv = wordsT.map some)
    (z0 : PySem.W.nsIn K mainGlobals "tuple" = some none) (z1 : PySem.W.nsIn K mainGlobals "dict" = some none) (z2 : PySem.W.nsIn K mainGlobals "list" = some none) (z3 : PySem.W.nsIn K mainGlobals "repr" = some none) (z4 : PySem.W.nsIn K mainGlobals "len" = some none) (z5 : PySem.W.nsIn K mainGlobals "int" = some none) (z6 : PySem.W.nsIn K mainGlobals "range" = some none) (z7 : PySem.W.nsIn K mainGlobals "enumerate" = some none) (z8 : PySem.W.nsIn K mainGlobals "abs" = some none) (z9 : PySem.W.nsIn K mainGlobals "isinstance" = some none) (z10 : PySem.W.nsIn K mainGlobals "bool" = some none) (z11 : PySem.W.nsIn K mainGlobals "all" = some none) (z12 : PySem.W.nsIn K mainGlobals "str" = some none) (z13 : PySem.W.nsIn K mainGlobals "ValueError" = some none) :
    ∃ fd : FuncData, (∀ (s : Shared) (u : Value), BindsTo s fd ⟨[u], []⟩ [("script", u)]) ∧
        ∀ base : Heap, K.In base → base.Ns mainGlobals mg → GFn l.prog w K mg base CX0 7 fa fd ["script"] (spLaw K) := by
  have e := hfa.symm.trans (PySem.W.mg_of X G a24)
  cases e
  have Z : Nones mg := ⟨PySem.W.mg_none_of X G z0, PySem.W.mg_none_of X G z1, PySem.W.mg_none_of X G z2, PySem.W.mg_none_of X G z3, PySem.W.mg_none_of X G z4, PySem.W.mg_none_of X G z5, PySem.W.mg_none_of X G z6, PySem.W.mg_none_of X G z7, PySem.W.mg_none_of X G z8, PySem.W.mg_none_of X G z9, PySem.W.mg_none_of X G z10, PySem.W.mg_none_of X G z11, PySem.W.mg_none_of X G z12, PySem.W.mg_none_of X G z13, ⟨tD, PySem.W.mg_of X G cD⟩, ⟨tL, PySem.W.mg_of X G cL⟩⟩
  have ZW : GTup K mg "WORDS" WA wordsT := ⟨PySem.W.mg_of X G wa, fun H => .inr ⟨_, itz, nW, wl, rfl, rfl, rfl, Nat.le_trans ws (by rw [sizeLine_eq]; decide), vals_words _ _ wv⟩⟩
  have TT : ET K (cl10 C0 C1 C2 C3 C4 C5 C6 C7 C8 C9) VE := by
    constructor
    · intro k j hk hj
      rcases ten hk with rfl | rfl | rfl | rfl | rfl | rfl | rfl | rfl | rfl | rfl
      · rcases ten hj with rfl | rfl | rfl | rfl | rfl | rfl | rfl | rfl | rfl | rfl
        · exact kk ed0 eT0 s0_0 s0_0
        · exact kk ed1 eT1 s0_1 s0_0
        · exact kk ed2 eT2 s0_2 s0_0
        · exact kk ed3 eT3 s0_3 s0_0
        · exact kk ed4 eT4 s0_4 s0_0
        · exact kk ed5 eT5 s0_5 s0_0
        · exact kk ed6 eT6 s0_6 s0_0
        · exact kk ed7 eT7 s0_7 s0_0
        · exact kk ed8 eT8 s0_8 s0_0
        · exact kk ed9 eT9 s0_9 s0_0
      · rcases ten hj with rfl | rfl | rfl | rfl | rfl | rfl | rfl | rfl | rfl | rfl
        · exact kk ed0 eT0 s1_0 s1_1
        · exact kk ed1 eT1 s1_1 s1_1
        · exact kk ed2 eT2 s1_2 s1_1
        · exact kk ed3 eT3 s1_3 s1_1
        · exact kk ed4 eT4 s1_4 s1_1
        · exact kk ed5 eT5 s1_5 s1_1
        · exact kk ed6 eT6 s1_6 s1_1
        · exact kk ed7 eT7 s1_7 s1_1
        · exact kk ed8 eT8 s1_8 s1_1
        · exact kk ed9 eT9 s1_9 s1_1
      · rcases ten hj with rfl | rfl | rfl | rfl | rfl | rfl | rfl | rfl | rfl | rfl
        · exact kk ed0 eT0 s2_0 s2_2
        · exact kk ed1 eT1 s2_1 s2_2
        · exact kk ed2 eT2 s2_2 s2_2
        · exact kk ed3 eT3 s2_3 s2_2
        · exact kk ed4 eT4 s2_4 s2_2
        · exact kk ed5 eT5 s2_5 s2_2
        · exact kk ed6 eT6 s2_6 s2_2
        · exact kk ed7 eT7 s2_7 s2_2
        · exact kk ed8 eT8 s2_8 s2_2
        · exact kk ed9 eT9 s2_9 s2_2
      · rcases ten hj with rfl | rfl | rfl | rfl | rfl | rfl | rfl | rfl | rfl | rfl
        · exact kk ed0 eT0 s3_0 s3_3
        · exact kk ed1 eT1 s3_1 s3_3
        · exact kk ed2 eT2 s3_2 s3_3
        · exact kk ed3 eT3 s3_3 s3_3
        · exact kk ed4 eT4 s3_4 s3_3
        · exact kk ed5 eT5 s3_5 s3_3
        · exact kk ed6 eT6 s3_6 s3_3
        · exact kk ed7 eT7 s3_7 s3_3
        · exact kk ed8 eT8 s3_8 s3_3
        · exact kk ed9 eT9 s3_9 s3_3
      · rcases ten hj with rfl | rfl | rfl | rfl | rfl | rfl | rfl | rfl | rfl | rfl
        · exact kk ed0 eT0 s4_0 s4_4
        · exact kk ed1 eT1 s4_1 s4_4
        · exact kk ed2 eT2 s4_2 s4_4
        · exact kk ed3 eT3 s4_3 s4_4
        · exact kk ed4 eT4 s4_4 s4_4
        · exact kk ed5 eT5 s4_5 s4_4
        · exact kk ed6 eT6 s4_6 s4_4
        · exact kk ed7 eT7 s4_7 s4_4
        · exact kk ed8 eT8 s4_8 s4_4
        · exact kk ed9 eT9 s4_9 s4_4
      · rcases ten hj with rfl | rfl | rfl | rfl | rfl | rfl | rfl | rfl | rfl | rfl
        · exact kk ed0 eT0 s5_0 s5_5
        · exact kk ed1 eT1 s5_1 s5_5
        · exact kk ed2 eT2 s5_2 s5_5
        · exact kk ed3 eT3 s5_3 s5_5
        · exact kk ed4 eT4 s5_4 s5_5
        · exact kk ed5 eT5 s5_5 s5_5
        · exact kk ed6 eT6 s5_6 s5_5
        · exact kk ed7 eT7 s5_7 s5_5
        · exact kk ed8 eT8 s5_8 s5_5
        · exact kk ed9 eT9 s5_9 s5_5
      · rcases ten hj with rfl | rfl | rfl | rfl | rfl | rfl | rfl | rfl | rfl | rfl
        · exact kk ed0 eT0 s6_0 s6_6
        · exact kk ed1 eT1 s6_1 s6_6
        · exact kk ed2 eT2 s6_2 s6_6
        · exact kk ed3 eT3 s6_3 s6_6
        · exact kk ed4 eT4 s6_4 s6_6
        · exact kk ed5 eT5 s6_5 s6_6
        · exact kk ed6 eT6 s6_6 s6_6
        · exact kk ed7 eT7 s6_7 s6_6
        · exact kk ed8 eT8 s6_8 s6_6
        · exact kk ed9 eT9 s6_9 s6_6
      · rcases ten hj with rfl | rfl | rfl | rfl | rfl | rfl | rfl | rfl | rfl | rfl
        · exact kk ed0 eT0 s7_0 s7_7
        · exact kk ed1 eT1 s7_1 s7_7
        · exact kk ed2 eT2 s7_2 s7_7
        · exact kk ed3 eT3 s7_3 s7_7
        · exact kk ed4 eT4 s7_4 s7_7
        · exact kk ed5 eT5 s7_5 s7_7
        · exact kk ed6 eT6 s7_6 s7_7
        · exact kk ed7 eT7 s7_7 s7_7
        · exact kk ed8 eT8 s7_8 s7_7
        · exact kk ed9 eT9 s7_9 s7_7
      · rcases ten hj with rfl | rfl | rfl | rfl | rfl | rfl | rfl | rfl | rfl | rfl
        · exact kk ed0 eT0 s8_0 s8_8
        · exact kk ed1 eT1 s8_1 s8_8
        · exact kk ed2 eT2 s8_2 s8_8
        · exact kk ed3 eT3 s8_3 s8_8
        · exact kk ed4 eT4 s8_4 s8_8
        · exact kk ed5 eT5 s8_5 s8_8
        · exact kk ed6 eT6 s8_6 s8_8
        · exact kk ed7 eT7 s8_7 s8_8
        · exact kk ed8 eT8 s8_8 s8_8
        · exact kk ed9 eT9 s8_9 s8_8
      · rcases ten hj with rfl | rfl | rfl | rfl | rfl | rfl | rfl | rfl | rfl | rfl
        · exact kk ed0 eT0 s9_0 s9_9
        · exact kk ed1 eT1 s9_1 s9_9
        · exact kk ed2 eT2 s9_2 s9_9
        · exact kk ed3 eT3 s9_3 s9_9
        · exact kk ed4 eT4 s9_4 s9_9
        · exact kk ed5 eT5 s9_5 s9_9
        · exact kk ed6 eT6 s9_6 s9_9
        · exact kk ed7 eT7 s9_7 s9_9
        · exact kk ed8 eT8 s9_8 s9_9
        · exact kk ed9 eT9 s9_9 s9_9
    · intro k hk
      rcases ten hk with rfl | rfl | rfl | rfl | rfl | rfl | rfl | rfl | rfl | rfl
      · exact kit_ref vd vt eV0 (.inl rfl)
      · exact kit_ref vd vt eV1 (.inl rfl)
      · exact kit_ref vd vt eV2 (.inl rfl)
      · exact kit_ref vd vt eV3 (.inl rfl)
      · exact kit_ref vd vt eV4 (.inl rfl)
      · exact kit_ref vd vt eV5 (.inl rfl)
      · exact kit_ref vd vt eV6 (.inl rfl)
      · exact kit_ref vd vt eV7 (.inl rfl)
      · exact kit_ref vd vt eV8 (.inl rfl)
      · exact kit_ref vd vt eV9 (.inl rfl)
    · intro k hk
      rcases ten hk with rfl | rfl | rfl | rfl | rfl | rfl | rfl | rfl | rfl | rfl
      · exact kit_no (by decide +kernel) eW0
      · exact kit_no (by decide +kernel) eW1
      · exact kit_no (by decide +kernel) eW2
      · exact kit_no (by decide +kernel) eW3
      · exact kit_no (by decide +kernel) eW4
      · exact kit_no (by decide +kernel) eW5
      · exact kit_no (by decide +kernel) eW6
      · exact kit_no (by decide +kernel) eW7
      · exact kit_no (by decide +kernel) eW8
      · exact kit_no (by decide +kernel) eW9
    · exact eY0version
    · exact eY2piece
    · exact eY3line
    · exact eY4version
    · exact eY5piece
    · exact eY6version
    · exact eY7word
    · exact eY7things
    · exact eY8index
    · exact eY8reason
    · exact eY9place
  have F0 := fun_mk (st := sTake) l0 c0 k0
  have H0 : Has K mg "_law_take" sTake f0 _ ["bag", "many"] := ⟨F0, PySem.W.mg_of X G a0, F0.binds (ps := ["bag", "many"]) fun _ _ _ _ _ _ us hlz0 => match us, hlz0 with | [_, _], _ => rfl⟩
  have F1 := fun_mk (st := s_law_some) l1 c1 k1
  have H1 : Has K mg "_law_some" s_law_some f1 _ ["bag", "things"] := ⟨F1, PySem.W.mg_of X G a1, F1.binds (ps := ["bag", "things"]) fun _ _ _ _ _ _ us hlz0 => match us, hlz0 with | [_, _], _ => rfl⟩
  have F2 := fun_mk (st := s_law_alike) l2 c2 k2
  have H2 : Has K mg "_law_alike" s_law_alike f2 _ ["found", "due"] := ⟨F2, PySem.W.mg_of X G a2, F2.binds (ps := ["found", "due"]) fun _ _ _ _ _ _ us hlz0 => match us, hlz0 with | [_, _], _ => rfl⟩
  have F3 := fun_mk (st := s_law_barred) l3 c3 k3
  have H3 : Has K mg "_law_barred" s_law_barred f3 _ [] := ⟨F3, PySem.W.mg_of X G a3, F3.binds (ps := []) fun _ _ _ _ _ _ us hlz0 => match us, hlz0 with | [], _ => rfl⟩
  have F4 := fun_mk (st := s_law_odd) l4 c4 k4
  have H4 : Has K mg "_law_odd" s_law_odd f4 _ ["bag"] := ⟨F4, PySem.W.mg_of X G a4, F4.binds (ps := ["bag"]) fun _ _ _ _ _ _ us hlz0 => match us, hlz0 with | [_], _ => rfl⟩
  have F5 := fun_mk (st := sis_integer) l5 c5 k5
  have H5 : Has K mg "is_integer" sis_integer f5 _ ["thing"] := ⟨F5, PySem.W.mg_of X G a5, F5.binds (ps := ["thing"]) fun _ _ _ _ _ _ us hlz0 => match us, hlz0 with | [_], _ => rfl⟩
  have F6 := fun_mk (st := s_law_is_int) l6 c6 k6
  have H6 : Has K mg "_law_is_int" s_law_is_int f6 _ ["thing"] := ⟨F6, PySem.W.mg_of X G a6, F6.binds (ps := ["thing"]) fun _ _ _ _ _ _ us hlz0 => match us, hlz0 with | [_], _ => rfl⟩
  have F7 := fun_mk (st := sis_many) l7 c7 k7
  have H7 : Has K mg "is_many" sis_many f7 _ ["thing"] := ⟨F7, PySem.W.mg_of X G a7, F7.binds (ps := ["thing"]) fun _ _ _ _ _ _ us hlz0 => match us, hlz0 with | [_], _ => rfl⟩
  have F8 := fun_mk (st := s_law_is_from_one) l8 c8 k8
  have H8 : Has K mg "_law_is_from_one" s_law_is_from_one f8 _ ["thing"] := ⟨F8, PySem.W.mg_of X G a8, F8.binds (ps := ["thing"]) fun _ _ _ _ _ _ us hlz0 => match us, hlz0 with | [_], _ => rfl⟩
  have F9 := fun_mk (st := sis_tuple_of) l9 c9 k9
  have H9 : Has K mg "is_tuple_of" sis_tuple_of f9 _ ["thing", "many"] := ⟨F9, PySem.W.mg_of X G a9, F9.binds (ps := ["thing", "many"]) fun _ _ _ _ _ _ us hlz0 => match us, hlz0 with | [_, _], _ => rfl⟩
  have F10 := fun_mk (st := sis_name) l10 c10 k10
  have H10 : Has K mg "is_name" sis_name f10 _ ["thing"] := ⟨F10, PySem.W.mg_of X G a10, F10.binds (ps := ["thing"]) fun _ _ _ _ _ _ us hlz0 => match us, hlz0 with | [_], _ => rfl⟩
  have F11 := fun_mk (st := s_law_is_name) l11 c11 k11
  have H11 : Has K mg "_law_is_name" s_law_is_name f11 _ ["thing"] := ⟨F11, PySem.W.mg_of X G a11, F11.binds (ps := ["thing"]) fun _ _ _ _ _ _ us hlz0 => match us, hlz0 with | [_], _ => rfl⟩
  have F12 := fun_mk (st := s_law_is_headed) l12 c12 k12
  have H12 : Has K mg "_law_is_headed" s_law_is_headed f12 _ ["thing", "word", "size"] := ⟨F12, PySem.W.mg_of X G a12, F12.binds (ps := ["thing", "word", "size"]) fun _ _ _ _ _ _ us hlz0 => match us, hlz0 with | [_, _, _], _ => rfl⟩
  have F13 := fun_mk (st := sis_sort) l13 c13 k13
  have H13 : Has K mg "is_sort" sis_sort f13 _ ["thing"] := ⟨F13, PySem.W.mg_of X G a13, F13.binds (ps := ["thing"]) fun _ _ _ _ _ _ us hlz0 => match us, hlz0 with | [_], _ => rfl⟩
  have F14 := fun_mk (st := s_law_is_sort) l14 c14 k14
  have H14 : Has K mg "_law_is_sort" s_law_is_sort f14 _ ["thing"] := ⟨F14, PySem.W.mg_of X G a14, F14.binds (ps := ["thing"]) fun _ _ _ _ _ _ us hlz0 => match us, hlz0 with | [_], _ => rfl⟩
  have F15 := fun_mk (st := sis_way) l15 c15 k15
  have H15 : Has K mg "is_way" sis_way f15 _ ["thing"] := ⟨F15, PySem.W.mg_of X G a15, F15.binds (ps := ["thing"]) fun _ _ _ _ _ _ us hlz0 => match us, hlz0 with | [_], _ => rfl⟩
  have F16 := fun_mk (st := s_law_is_way) l16 c16 k16
  have H16 : Has K mg "_law_is_way" s_law_is_way f16 _ ["thing"] := ⟨F16, PySem.W.mg_of X G a16, F16.binds (ps := ["thing"]) fun _ _ _ _ _ _ us hlz0 => match us, hlz0 with | [_], _ => rfl⟩
  have F17 := fun_mk (st := sis_barred) l17 c17 k17
  have H17 : Has K mg "is_barred" sis_barred f17 _ ["word"] := ⟨F17, PySem.W.mg_of X G a17, F17.binds (ps := ["word"]) fun _ _ _ _ _ _ us hlz0 => match us, hlz0 with | [_], _ => rfl⟩
  have F18 := fun_mk (st := s_law_classes_of) l18 c18 k18
  have H18 : Has K mg "_law_classes_of" s_law_classes_of f18 _ ["error"] := ⟨F18, PySem.W.mg_of X G a18, F18.binds (ps := ["error"]) fun _ _ _ _ _ _ us hlz0 => match us, hlz0 with | [_], _ => rfl⟩
  have F19 := fun_mk (st := s_law_error_rows) l19 c19 k19
  have H19 : Has K mg "_law_error_rows" s_law_error_rows f19 _ ["one", "two"] := ⟨F19, PySem.W.mg_of X G a19, F19.binds (ps := ["one", "two"]) fun _ _ _ _ _ _ us hlz0 => match us, hlz0 with | [_, _], _ => rfl⟩
  have F20 := fun_mk (st := s_law_are_errors_right) l20 c20 k20
  have H20 : Has K mg "_law_are_errors_right" s_law_are_errors_right f20 _ ["one", "two"] := ⟨F20, PySem.W.mg_of X G a20, F20.binds (ps := ["one", "two"]) fun _ _ _ _ _ _ us hlz0 => match us, hlz0 with | [_, _], _ => rfl⟩
  have F21 := fun_mk (st := s_law_small_things) l21 c21 k21
  have H21 : Has K mg "_law_small_things" s_law_small_things f21 _ ["bag"] := ⟨F21, PySem.W.mg_of X G a21, F21.binds (ps := ["bag"]) fun _ _ _ _ _ _ us hlz0 => match us, hlz0 with | [_], _ => rfl⟩
  have F22 := fun_mk (st := s_law_bent) l22 c22 k22
  have H22 : Has K mg "_law_bent" s_law_bent f22 _ ["bag", "thing"] := ⟨F22, PySem.W.mg_of X G a22, F22.binds (ps := ["bag", "thing"]) fun _ _ _ _ _ _ us hlz0 => match us, hlz0 with | [_, _], _ => rfl⟩
  have F23 := fun_mk (st := s_law_bag) l23 c23 k23
  have H23 : Has K mg "_law_bag" s_law_bag f23 _ ["script"] := ⟨F23, PySem.W.mg_of X G a23, F23.binds (ps := ["script"]) fun _ _ _ _ _ _ us hlz0 => match us, hlz0 with | [_], _ => rfl⟩
  have O0 : OexC K C0 := ⟨⟨nm0, qq0, N0, bs0, bm0, sn0, sub0, ab0, col0, dd0, k0x0, k1x0, k2x0, k3x0, k5x0, eL0, r0⟩, eS0, eB0, eT0, eK0⟩
  have X0 : ExcC K C0 := ⟨eg0, ek0, eB0, ed0, ea0, en, et, em0⟩
  have I0 := fun_mk (st := sIIsHome) eN0 eD0 eP0
  have Y0 : ∀ base : Heap, Cls l.prog w K mg base "IsHome" C0 g0 _ ["self", "version"] (spI1 C0 "version") := fun base => ⟨O0, eI0, eF0, okIIsHome O0 eY0version I0, I0.binds (ps := ["self", "version"]) fun _ _ _ _ _ _ us hlz0 => match us, hlz0 with | [_, _], _ => rfl, PySem.W.mg_of X G eC0, X0⟩
  have O1 : OexC K C1 := ⟨⟨nm1, qq1, N1, bs1, bm1, sn1, sub1, ab1, col1, dd1, k0x1, k1x1, k2x1, k3x1, k5x1, eL1, r1⟩, eS1, eB1, eT1, eK1⟩
  have X1 : ExcC K C1 := ⟨eg1, ek1, eB1, ed1, ea1, en, et, em1⟩
  have Iz1 := fun_mk (st := sINoCommand) eN1 eD1 eP1
  have Y1 : ∀ base : Heap, Cls l.prog w K mg base "NoCommand" C1 g1 _ ["self"] spNil := fun base => ⟨O1, eI1, eF1, okINoCommand Iz1, Iz1.binds (ps := ["self"]) fun _ _ _ _ _ _ us hlz0 => match us, hlz0 with | [_], _ => rfl, PySem.W.mg_of X G eC1, X1⟩
  have O2 : OexC K C2 := ⟨⟨nm2, qq2, N2, bs2, bm2, sn2, sub2, ab2, col2, dd2, k0x2, k1x2, k2x2, k3x2, k5x2, eL2, r2⟩, eS2, eB2, eT2, eK2⟩
  have X2 : ExcC K C2 := ⟨eg2, ek2, eB2, ed2, ea2, en, et, em2⟩
  have Iz2 := fun_mk (st := sINoPiece) eN2 eD2 eP2
  have Y2 : ∀ base : Heap, Cls l.prog w K mg base "NoPiece" C2 g2 _ ["self", "piece"] (spI1 C2 "piece") := fun base => ⟨O2, eI2, eF2, okINoPiece O2 eY2piece Iz2, Iz2.binds (ps := ["self", "piece"]) fun _ _ _ _ _ _ us hlz0 => match us, hlz0 with | [_, _], _ => rfl, PySem.W.mg_of X G eC2, X2⟩
  have O3 : OexC K C3 := ⟨⟨nm3, qq3, N3, bs3, bm3, sn3, sub3, ab3, col3, dd3, k0x3, k1x3, k2x3, k3x3, k5x3, eL3, r3⟩, eS3, eB3, eT3, eK3⟩
  have X3 : ExcC K C3 := ⟨eg3, ek3, eB3, ed3, ea3, en, et, em3⟩
  have I3 := fun_mk (st := sINoText) eN3 eD3 eP3
  have Y3 : ∀ base : Heap, Cls l.prog w K mg base "NoText" C3 g3 _ ["self", "line"] (spI1 C3 "line") := fun base => ⟨O3, eI3, eF3, okINoText O3 eY3line I3, I3.binds (ps := ["self", "line"]) fun _ _ _ _ _ _ us hlz0 => match us, hlz0 with | [_, _], _ => rfl, PySem.W.mg_of X G eC3, X3⟩
  have O4 : OexC K C4 := ⟨⟨nm4, qq4, N4, bs4, bm4, sn4, sub4, ab4, col4, dd4, k0x4, k1x4, k2x4, k3x4, k5x4, eL4, r4⟩, eS4, eB4, eT4, eK4⟩
  have X4 : ExcC K C4 := ⟨eg4, ek4, eB4, ed4, ea4, en, et, em4⟩
  have I4 := fun_mk (st := sINotEnd) eN4 eD4 eP4
  have Y4 : ∀ base : Heap, Cls l.prog w K mg base "NotEnd" C4 g4 _ ["self", "version"] (spI1 C4 "version") := fun base => ⟨O4, eI4, eF4, okINotEnd O4 eY4version I4, I4.binds (ps := ["self", "version"]) fun _ _ _ _ _ _ us hlz0 => match us, hlz0 with | [_, _], _ => rfl, PySem.W.mg_of X G eC4, X4⟩
  have O5 : OexC K C5 := ⟨⟨nm5, qq5, N5, bs5, bm5, sn5, sub5, ab5, col5, dd5, k0x5, k1x5, k2x5, k3x5, k5x5, eL5, r5⟩, eS5, eB5, eT5, eK5⟩
  have X5 : ExcC K C5 := ⟨eg5, ek5, eB5, ed5, ea5, en, et, em5⟩
  have I5 := fun_mk (st := sINotMoved) eN5 eD5 eP5
  have Y5 : ∀ base : Heap, Cls l.prog w K mg base "NotMoved" C5 g5 _ ["self", "piece"] (spI1 C5 "piece") := fun base => ⟨O5, eI5, eF5, okINotMoved O5 eY5piece I5, I5.binds (ps := ["self", "piece"]) fun _ _ _ _ _ _ us hlz0 => match us, hlz0 with | [_, _], _ => rfl, PySem.W.mg_of X G eC5, X5⟩
  have O6 : OexC K C6 := ⟨⟨nm6, qq6, N6, bs6, bm6, sn6, sub6, ab6, col6, dd6, k0x6, k1x6, k2x6, k3x6, k5x6, eL6, r6⟩, eS6, eB6, eT6, eK6⟩
  have X6 : ExcC K C6 := ⟨eg6, ek6, eB6, ed6, ea6, en, et, em6⟩
  have I6 := fun_mk (st := sINotNeighbour) eN6 eD6 eP6
  have Y6 : ∀ base : Heap, Cls l.prog w K mg base "NotNeighbour" C6 g6 _ ["self", "version"] (spI1 C6 "version") := fun base => ⟨O6, eI6, eF6, okINotNeighbour O6 eY6version I6, I6.binds (ps := ["self", "version"]) fun _ _ _ _ _ _ us hlz0 => match us, hlz0 with | [_, _], _ => rfl, PySem.W.mg_of X G eC6, X6⟩
  have O7 : OexC K C7 := ⟨⟨nm7, qq7, N7, bs7, bm7, sn7, sub7, ab7, col7, dd7, k0x7, k1x7, k2x7, k3x7, k5x7, eL7, r7⟩, eS7, eB7, eT7, eK7⟩
  have X7 : ExcC K C7 := ⟨eg7, ek7, eB7, ed7, ea7, en, et, em7⟩
  have I7 := fun_mk (st := sINotTaken) eN7 eD7 eP7
  have Y7 : ∀ base : Heap, Cls l.prog w K mg base "NotTaken" C7 g7 _ ["self", "word", "things"] (spI2 C7 "word" "things") := fun base => ⟨O7, eI7, eF7, okINotTaken O7 eY7word eY7things I7, I7.binds (ps := ["self", "word", "things"]) fun _ _ _ _ _ _ us hlz0 => match us, hlz0 with | [_, _, _], _ => rfl, PySem.W.mg_of X G eC7, X7⟩
  have O8 : OexC K C8 := ⟨⟨nm8, qq8, N8, bs8, bm8, sn8, sub8, ab8, col8, dd8, k0x8, k1x8, k2x8, k3x8, k5x8, eL8, r8⟩, eS8, eB8, eT8, eK8⟩
  have X8 : ExcC K C8 := ⟨eg8, ek8, eB8, ed8, ea8, en, et, em8⟩
  have I8 := fun_mk (st := sIRefused) eN8 eD8 eP8
  have Y8 : ∀ base : Heap, Cls l.prog w K mg base "Refused" C8 g8 _ ["self", "index", "reason"] (spI2 C8 "index" "reason") := fun base => ⟨O8, eI8, eF8, okIRefused O8 eY8index eY8reason I8, I8.binds (ps := ["self", "index", "reason"]) fun _ _ _ _ _ _ us hlz0 => match us, hlz0 with | [_, _, _], _ => rfl, PySem.W.mg_of X G eC8, X8⟩
  have O9 : OexC K C9 := ⟨⟨nm9, qq9, N9, bs9, bm9, sn9, sub9, ab9, col9, dd9, k0x9, k1x9, k2x9, k3x9, k5x9, eL9, r9⟩, eS9, eB9, eT9, eK9⟩
  have X9 : ExcC K C9 := ⟨eg9, ek9, eB9, ed9, ea9, en, et, em9⟩
  have I9 := fun_mk (st := sIWrong) eN9 eD9 eP9
  have Y9 : ∀ base : Heap, Cls l.prog w K mg base "Wrong" C9 g9 _ ["self", "place"] (spI1 C9 "place") := fun base => ⟨O9, eI9, eF9, okIWrong O9 eY9place I9, I9.binds (ps := ["self", "place"]) fun _ _ _ _ _ _ us hlz0 => match us, hlz0 with | [_, _], _ => rfl, PySem.W.mg_of X G eC9, X9⟩
  have ZN : ∀ base : Heap, Err l.prog w K mg base "NoCommand" C1 g1 _ := fun base => ⟨O1, eI1, eF1, okINoCommand Iz1, Iz1.binds (ps := ["self"]) fun _ _ _ _ _ _ us hlz0 => match us, hlz0 with | [_], _ => rfl, PySem.W.mg_of X G eC1,
    ⟨X1, kit_no (by decide +kernel) xint, kit_no (by decide +kernel) xbool, kit_no (by decide +kernel) xstr, kit_no (by decide +kernel) xlist, kit_no (by decide +kernel) xtuple, kit_no (by decide +kernel) xdict, rp, cdq, cdx, tx⟩⟩
  exact ⟨PySem.W.fnOf "law" "law" (defArgs slaw) (defBody slaw) (defScope slaw) .none kV24 dc24 pm24 an24 cd24 ct24, fun s v => .of_eq rfl, fun base _ _ =>
    all_ok (cl := cl10 C0 C1 C2 C3 C4 C5 C6 C7 C8 C9) Z (ZN base) ZW ⟨PySem.W.mg_of X G va⟩ TT (Y0 base) (Y1 base) (Y2 base) (Y3 base) (Y4 base) (Y5 base) (Y6 base) (Y7 base) (Y8 base) (Y9 base) H0 H1 H2 H3 H4 H5 H6 H7 H8 H9 H10 H11 H12 H13 H14 H15 H16 H17 H18 H19 H20 H21 H22 H23 (fun_mk (st := slaw) l24 c24 k24)⟩
end ZZ

set_option maxHeartbeats 0
open PySem PySem.W PyProof.Rows in
theorem PySem.Challenge.cw_everyversion_k00_errors_and_small_forms_holds : PySem.Challenge.rw_everyversion_k00_errors_and_small_forms.Holds := by
  w_on; o_law; k_head; (case hw => w_witness2)
  k_fill
  refine GG.walkG (l := PySem.Challenge.rw_everyversion_k00_errors_and_small_forms) (n := 63) (k := 7) (x := "script") (sp := LL.spLaw) rfl (by decide) rfl ⟨⟨rfl, by decide, by decide⟩, rfl⟩ (fun w h Y => kIn_of Y) ?F ?hsp
  case F =>
    intro w mg fa h KX G hmgz
    refine' ZZ.all_mk KX G hmgz ?a0 ?l0 ?c0 ?k0 ?a1 ?l1 ?c1 ?k1 ?a2 ?l2 ?c2 ?k2 ?a3 ?l3 ?c3 ?k3 ?a4 ?l4 ?c4 ?k4 ?a5 ?l5 ?c5 ?k5 ?a6 ?l6 ?c6 ?k6 ?a7 ?l7 ?c7 ?k7 ?a8 ?l8 ?c8 ?k8 ?a9 ?l9 ?c9 ?k9 ?a10 ?l10 ?c10 ?k10 ?a11 ?l11 ?c11 ?k11 ?a12 ?l12 ?c12 ?k12 ?a13 ?l13 ?c13 ?k13 ?a14 ?l14 ?c14 ?k14 ?a15 ?l15 ?c15 ?k15 ?a16 ?l16 ?c16 ?k16 ?a17 ?l17 ?c17 ?k17 ?a18 ?l18 ?c18 ?k18 ?a19 ?l19 ?c19 ?k19 ?a20 ?l20 ?c20 ?k20 ?a21 ?l21 ?c21 ?k21 ?a22 ?l22 ?c22 ?k22 ?a23 ?l23 ?c23 ?k23 ?a24 ?l24 ?c24 ?k24 ?va ?vd ?vt ?eC0 ?eL0 ?eS0 ?eB0 ?eT0 ?eK0 ?eI0 ?eF0 ?eN0 ?eD0 ?eP0 ?eg0 ?ek0 ?ed0 ?ea0 ?em0 ?eV0 ?eW0 ?eY0version ?eC1 ?eL1 ?eS1 ?eB1 ?eT1 ?eK1 ?eI1 ?eF1 ?eN1 ?eD1 ?eP1 ?eg1 ?ek1 ?ed1 ?ea1 ?em1 ?eV1 ?eW1 ?eC2 ?eL2 ?eS2 ?eB2 ?eT2 ?eK2 ?eI2 ?eF2 ?eN2 ?eD2 ?eP2 ?eg2 ?ek2 ?ed2 ?ea2 ?em2 ?eV2 ?eW2 ?eY2piece ?eC3 ?eL3 ?eS3 ?eB3 ?eT3 ?eK3 ?eI3 ?eF3 ?eN3 ?eD3 ?eP3 ?eg3 ?ek3 ?ed3 ?ea3 ?em3 ?eV3 ?eW3 ?eY3line ?eC4 ?eL4 ?eS4 ?eB4 ?eT4 ?eK4 ?eI4 ?eF4 ?eN4 ?eD4 ?eP4 ?eg4 ?ek4 ?ed4 ?ea4 ?em4 ?eV4 ?eW4 ?eY4version ?eC5 ?eL5 ?eS5 ?eB5 ?eT5 ?eK5 ?eI5 ?eF5 ?eN5 ?eD5 ?eP5 ?eg5 ?ek5 ?ed5 ?ea5 ?em5 ?eV5 ?eW5 ?eY5piece ?eC6 ?eL6 ?eS6 ?eB6 ?eT6 ?eK6 ?eI6 ?eF6 ?eN6 ?eD6 ?eP6 ?eg6 ?ek6 ?ed6 ?ea6 ?em6 ?eV6 ?eW6 ?eY6version ?eC7 ?eL7 ?eS7 ?eB7 ?eT7 ?eK7 ?eI7 ?eF7 ?eN7 ?eD7 ?eP7 ?eg7 ?ek7 ?ed7 ?ea7 ?em7 ?eV7 ?eW7 ?eY7word ?eY7things ?eC8 ?eL8 ?eS8 ?eB8 ?eT8 ?eK8 ?eI8 ?eF8 ?eN8 ?eD8 ?eP8 ?eg8 ?ek8 ?ed8 ?ea8 ?em8 ?eV8 ?eW8 ?eY8index ?eY8reason ?eC9 ?eL9 ?eS9 ?eB9 ?eT9 ?eK9 ?eI9 ?eF9 ?eN9 ?eD9 ?eP9 ?eg9 ?ek9 ?ed9 ?ea9 ?em9 ?eV9 ?eW9 ?eY9place ?s0_0 ?s0_1 ?s0_2 ?s0_3 ?s0_4 ?s0_5 ?s0_6 ?s0_7 ?s0_8 ?s0_9 ?s1_0 ?s1_1 ?s1_2 ?s1_3 ?s1_4 ?s1_5 ?s1_6 ?s1_7 ?s1_8 ?s1_9 ?s2_0 ?s2_1 ?s2_2 ?s2_3 ?s2_4 ?s2_5 ?s2_6 ?s2_7 ?s2_8 ?s2_9 ?s3_0 ?s3_1 ?s3_2 ?s3_3 ?s3_4 ?s3_5 ?s3_6 ?s3_7 ?s3_8 ?s3_9 ?s4_0 ?s4_1 ?s4_2 ?s4_3 ?s4_4 ?s4_5 ?s4_6 ?s4_7 ?s4_8 ?s4_9 ?s5_0 ?s5_1 ?s5_2 ?s5_3 ?s5_4 ?s5_5 ?s5_6 ?s5_7 ?s5_8 ?s5_9 ?s6_0 ?s6_1 ?s6_2 ?s6_3 ?s6_4 ?s6_5 ?s6_6 ?s6_7 ?s6_8 ?s6_9 ?s7_0 ?s7_1 ?s7_2 ?s7_3 ?s7_4 ?s7_5 ?s7_6 ?s7_7 ?s7_8 ?s7_9 ?s8_0 ?s8_1 ?s8_2 ?s8_3 ?s8_4 ?s8_5 ?s8_6 ?s8_7 ?s8_8 ?s8_9 ?s9_0 ?s9_1 ?s9_2 ?s9_3 ?s9_4 ?s9_5 ?s9_6 ?s9_7 ?s9_8 ?s9_9 ?en ?et ?xint ?xbool ?xstr ?xlist ?xtuple ?xdict ?rp ?cdx ?wa ?wl ?cD ?cL ?r0 ?r1 ?r2 ?r3 ?r4 ?r5 ?r6 ?r7 ?r8 ?r9 ?tx ?ws ?wv ?z0 ?z1 ?z2 ?z3 ?z4 ?z5 ?z6 ?z7 ?z8 ?z9 ?z10 ?z11 ?z12 ?z13
    (case a0 => k_is)
    (case l0 => k_is)
    (case c0 => k_is)
    (case k0 => k_is)
    (case a1 => k_is)
    (case l1 => k_is)
    (case c1 => k_is)
    (case k1 => k_is)
    (case a2 => k_is)
    (case l2 => k_is)
    (case c2 => k_is)
    (case k2 => k_is)
    (case a3 => k_is)
    (case l3 => k_is)
    (case c3 => k_is)
    (case k3 => k_is)
    (case a4 => k_is)
    (case l4 => k_is)
    (case c4 => k_is)
    (case k4 => k_is)
    (case a5 => k_is)
    (case l5 => k_is)
    (case c5 => k_is)
    (case k5 => k_is)
    (case a6 => k_is)
    (case l6 => k_is)
    (case c6 => k_is)
    (case k6 => k_is)
    (case a7 => k_is)
    (case l7 => k_is)
    (case c7 => k_is)
    (case k7 => k_is)
    (case a8 => k_is)
    (case l8 => k_is)
    (case c8 => k_is)
    (case k8 => k_is)
    (case a9 => k_is)
    (case l9 => k_is)
    (case c9 => k_is)
    (case k9 => k_is)
    (case a10 => k_is)
    (case l10 => k_is)
    (case c10 => k_is)
    (case k10 => k_is)
    (case a11 => k_is)
    (case l11 => k_is)
    (case c11 => k_is)
    (case k11 => k_is)
    (case a12 => k_is)
    (case l12 => k_is)
    (case c12 => k_is)
    (case k12 => k_is)
    (case a13 => k_is)
    (case l13 => k_is)
    (case c13 => k_is)
    (case k13 => k_is)
    (case a14 => k_is)
    (case l14 => k_is)
    (case c14 => k_is)
    (case k14 => k_is)
    (case a15 => k_is)
    (case l15 => k_is)
    (case c15 => k_is)
    (case k15 => k_is)
    (case a16 => k_is)
    (case l16 => k_is)
    (case c16 => k_is)
    (case k16 => k_is)
    (case a17 => k_is)
    (case l17 => k_is)
    (case c17 => k_is)
    (case k17 => k_is)
    (case a18 => k_is)
    (case l18 => k_is)
    (case c18 => k_is)
    (case k18 => k_is)
    (case a19 => k_is)
    (case l19 => k_is)
    (case c19 => k_is)
    (case k19 => k_is)
    (case a20 => k_is)
    (case l20 => k_is)
    (case c20 => k_is)
    (case k20 => k_is)
    (case a21 => k_is)
    (case l21 => k_is)
    (case c21 => k_is)
    (case k21 => k_is)
    (case a22 => k_is)
    (case l22 => k_is)
    (case c22 => k_is)
    (case k22 => k_is)
    (case a23 => k_is)
    (case l23 => k_is)
    (case c23 => k_is)
    (case k23 => k_is)
    (case a24 => k_is)
    (case l24 => k_is)
    (case c24 => k_is)
    (case k24 => k_is)
    (case va => k_is)
    (case vd => k_is)
    (case vt => k_is)
    (case eC0 => k_is)
    (case eL0 => k_is)
    (case eS0 => k_is)
    (case eB0 => k_is)
    (case eT0 => k_is)
    (case eK0 => k_is)
    (case eI0 => k_is)
    (case eF0 => k_is)
    (case eN0 => k_is)
    (case eD0 => k_is)
    (case eP0 => k_is)
    (case eg0 => k_is)
    (case ek0 => k_is)
    (case ed0 => k_is)
    (case ea0 => k_is)
    (case em0 => k_is)
    (case eV0 => k_is)
    (case eW0 => k_is)
    (case eY0version => k_is)
    (case eC1 => k_is)
    (case eL1 => k_is)
    (case eS1 => k_is)
    (case eB1 => k_is)
    (case eT1 => k_is)
    (case eK1 => k_is)
    (case eI1 => k_is)
    (case eF1 => k_is)
    (case eN1 => k_is)
    (case eD1 => k_is)
    (case eP1 => k_is)
    (case eg1 => k_is)
    (case ek1 => k_is)
    (case ed1 => k_is)
    (case ea1 => k_is)
    (case em1 => k_is)
    (case eV1 => k_is)
    (case eW1 => k_is)
    (case eC2 => k_is)
    (case eL2 => k_is)
    (case eS2 => k_is)
    (case eB2 => k_is)
    (case eT2 => k_is)
    (case eK2 => k_is)
    (case eI2 => k_is)
    (case eF2 => k_is)
    (case eN2 => k_is)
    (case eD2 => k_is)
    (case eP2 => k_is)
    (case eg2 => k_is)
    (case ek2 => k_is)
    (case ed2 => k_is)
    (case ea2 => k_is)
    (case em2 => k_is)
    (case eV2 => k_is)
    (case eW2 => k_is)
    (case eY2piece => k_is)
    (case eC3 => k_is)
    (case eL3 => k_is)
    (case eS3 => k_is)
    (case eB3 => k_is)
    (case eT3 => k_is)
    (case eK3 => k_is)
    (case eI3 => k_is)
    (case eF3 => k_is)
    (case eN3 => k_is)
    (case eD3 => k_is)
    (case eP3 => k_is)
    (case eg3 => k_is)
    (case ek3 => k_is)
    (case ed3 => k_is)
    (case ea3 => k_is)
    (case em3 => k_is)
    (case eV3 => k_is)
    (case eW3 => k_is)
    (case eY3line => k_is)
    (case eC4 => k_is)
    (case eL4 => k_is)
    (case eS4 => k_is)
    (case eB4 => k_is)
    (case eT4 => k_is)
    (case eK4 => k_is)
    (case eI4 => k_is)
    (case eF4 => k_is)
    (case eN4 => k_is)
    (case eD4 => k_is)
    (case eP4 => k_is)
    (case eg4 => k_is)
    (case ek4 => k_is)
    (case ed4 => k_is)
    (case ea4 => k_is)
    (case em4 => k_is)
    (case eV4 => k_is)
    (case eW4 => k_is)
    (case eY4version => k_is)
    (case eC5 => k_is)
    (case eL5 => k_is)
    (case eS5 => k_is)
    (case eB5 => k_is)
    (case eT5 => k_is)
    (case eK5 => k_is)
    (case eI5 => k_is)
    (case eF5 => k_is)
    (case eN5 => k_is)
    (case eD5 => k_is)
    (case eP5 => k_is)
    (case eg5 => k_is)
    (case ek5 => k_is)
    (case ed5 => k_is)
    (case ea5 => k_is)
    (case em5 => k_is)
    (case eV5 => k_is)
    (case eW5 => k_is)
    (case eY5piece => k_is)
    (case eC6 => k_is)
    (case eL6 => k_is)
    (case eS6 => k_is)
    (case eB6 => k_is)
    (case eT6 => k_is)
    (case eK6 => k_is)
    (case eI6 => k_is)
    (case eF6 => k_is)
    (case eN6 => k_is)
    (case eD6 => k_is)
    (case eP6 => k_is)
    (case eg6 => k_is)
    (case ek6 => k_is)
    (case ed6 => k_is)
    (case ea6 => k_is)
    (case em6 => k_is)
    (case eV6 => k_is)
    (case eW6 => k_is)
    (case eY6version => k_is)
    (case eC7 => k_is)
    (case eL7 => k_is)
    (case eS7 => k_is)
    (case eB7 => k_is)
    (case eT7 => k_is)
    (case eK7 => k_is)
    (case eI7 => k_is)
    (case eF7 => k_is)
    (case eN7 => k_is)
    (case eD7 => k_is)
    (case eP7 => k_is)
    (case eg7 => k_is)
    (case ek7 => k_is)
    (case ed7 => k_is)
    (case ea7 => k_is)
    (case em7 => k_is)
    (case eV7 => k_is)
    (case eW7 => k_is)
    (case eY7word => k_is)
    (case eY7things => k_is)
    (case eC8 => k_is)
    (case eL8 => k_is)
    (case eS8 => k_is)
    (case eB8 => k_is)
    (case eT8 => k_is)
    (case eK8 => k_is)
    (case eI8 => k_is)
    (case eF8 => k_is)
    (case eN8 => k_is)
    (case eD8 => k_is)
    (case eP8 => k_is)
    (case eg8 => k_is)
    (case ek8 => k_is)
    (case ed8 => k_is)
    (case ea8 => k_is)
    (case em8 => k_is)
    (case eV8 => k_is)
    (case eW8 => k_is)
    (case eY8index => k_is)
    (case eY8reason => k_is)
    (case eC9 => k_is)
    (case eL9 => k_is)
    (case eS9 => k_is)
    (case eB9 => k_is)
    (case eT9 => k_is)
    (case eK9 => k_is)
    (case eI9 => k_is)
    (case eF9 => k_is)
    (case eN9 => k_is)
    (case eD9 => k_is)
    (case eP9 => k_is)
    (case eg9 => k_is)
    (case ek9 => k_is)
    (case ed9 => k_is)
    (case ea9 => k_is)
    (case em9 => k_is)
    (case eV9 => k_is)
    (case eW9 => k_is)
    (case eY9place => k_is)
    (case s0_0 => k_is)
    (case s0_1 => k_is)
    (case s0_2 => k_is)
    (case s0_3 => k_is)
    (case s0_4 => k_is)
    (case s0_5 => k_is)
    (case s0_6 => k_is)
    (case s0_7 => k_is)
    (case s0_8 => k_is)
    (case s0_9 => k_is)
    (case s1_0 => k_is)
    (case s1_1 => k_is)
    (case s1_2 => k_is)
    (case s1_3 => k_is)
    (case s1_4 => k_is)
    (case s1_5 => k_is)
    (case s1_6 => k_is)
    (case s1_7 => k_is)
    (case s1_8 => k_is)
    (case s1_9 => k_is)
    (case s2_0 => k_is)
    (case s2_1 => k_is)
    (case s2_2 => k_is)
    (case s2_3 => k_is)
    (case s2_4 => k_is)
    (case s2_5 => k_is)
    (case s2_6 => k_is)
    (case s2_7 => k_is)
    (case s2_8 => k_is)
    (case s2_9 => k_is)
    (case s3_0 => k_is)
    (case s3_1 => k_is)
    (case s3_2 => k_is)
    (case s3_3 => k_is)
    (case s3_4 => k_is)
    (case s3_5 => k_is)
    (case s3_6 => k_is)
    (case s3_7 => k_is)
    (case s3_8 => k_is)
    (case s3_9 => k_is)
    (case s4_0 => k_is)
    (case s4_1 => k_is)
    (case s4_2 => k_is)
    (case s4_3 => k_is)
    (case s4_4 => k_is)
    (case s4_5 => k_is)
    (case s4_6 => k_is)
    (case s4_7 => k_is)
    (case s4_8 => k_is)
    (case s4_9 => k_is)
    (case s5_0 => k_is)
    (case s5_1 => k_is)
    (case s5_2 => k_is)
    (case s5_3 => k_is)
    (case s5_4 => k_is)
    (case s5_5 => k_is)
    (case s5_6 => k_is)
    (case s5_7 => k_is)
    (case s5_8 => k_is)
    (case s5_9 => k_is)
    (case s6_0 => k_is)
    (case s6_1 => k_is)
    (case s6_2 => k_is)
    (case s6_3 => k_is)
    (case s6_4 => k_is)
    (case s6_5 => k_is)
    (case s6_6 => k_is)
    (case s6_7 => k_is)
    (case s6_8 => k_is)
    (case s6_9 => k_is)
    (case s7_0 => k_is)
    (case s7_1 => k_is)
    (case s7_2 => k_is)
    (case s7_3 => k_is)
    (case s7_4 => k_is)
    (case s7_5 => k_is)
    (case s7_6 => k_is)
    (case s7_7 => k_is)
    (case s7_8 => k_is)
    (case s7_9 => k_is)
    (case s8_0 => k_is)
    (case s8_1 => k_is)
    (case s8_2 => k_is)
    (case s8_3 => k_is)
    (case s8_4 => k_is)
    (case s8_5 => k_is)
    (case s8_6 => k_is)
    (case s8_7 => k_is)
    (case s8_8 => k_is)
    (case s8_9 => k_is)
    (case s9_0 => k_is)
    (case s9_1 => k_is)
    (case s9_2 => k_is)
    (case s9_3 => k_is)
    (case s9_4 => k_is)
    (case s9_5 => k_is)
    (case s9_6 => k_is)
    (case s9_7 => k_is)
    (case s9_8 => k_is)
    (case s9_9 => k_is)
    (case en => k_is)
    (case et => k_is)
    (case xint => k_is)
    (case xbool => k_is)
    (case xstr => k_is)
    (case xlist => k_is)
    (case xtuple => k_is)
    (case xdict => k_is)
    (case rp => k_is)
    (case cdx => k_is)
    (case wa => k_is)
    (case wl => k_is)
    (case cD => k_is)
    (case cL => k_is)
    (case r0 => first | rfl | decide +kernel)
    (case r1 => first | rfl | decide +kernel)
    (case r2 => first | rfl | decide +kernel)
    (case r3 => first | rfl | decide +kernel)
    (case r4 => first | rfl | decide +kernel)
    (case r5 => first | rfl | decide +kernel)
    (case r6 => first | rfl | decide +kernel)
    (case r7 => first | rfl | decide +kernel)
    (case r8 => first | rfl | decide +kernel)
    (case r9 => first | rfl | decide +kernel)
    (case tx => first | rfl | decide +kernel)
    (case ws => first | rfl | decide +kernel)
    (case wv => first | rfl | decide +kernel)
    (case z0 => k_is)
    (case z1 => k_is)
    (case z2 => k_is)
    (case z3 => k_is)
    (case z4 => k_is)
    (case z5 => k_is)
    (case z6 => k_is)
    (case z7 => k_is)
    (case z8 => k_is)
    (case z9 => k_is)
    (case z10 => k_is)
    (case z11 => k_is)
    (case z12 => k_is)
    (case z13 => k_is)
  case hsp =>
    intro K H a ns hlz0 hO hS
    refine ⟨a, ns, rfl, hS, hlz0, ?_, fun _ => rfl⟩
    intro c ps e
    rcases hO c with h | ⟨o, xs, h⟩ <;> (rw [h] at e; cases e)

